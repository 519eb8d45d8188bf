import PyProof.Rows.All
import Wide.All
import OpenK.AllK
import Wide.FinOn
import Lean
import PyProof.EqAt
import PyProof.EqKinds
import PyProof.TupleCall
import PyProof.NeKinds
import PySem.Challenge.RW_helmsum_k29_whole_either_or
set_option Elab.async false
set_option linter.all false
set_option maxRecDepth 100000
abbrev aa:=@List.getD_eq_getElem?_getD
abbrev ae:=@List.getElem?_eq_getElem
abbrev af:=@Nat.pow_le_pow_right
abbrev ag:=@Nat.le_trans
abbrev ah:=@List.length_map
abbrev aj:=@Nat.le_refl
abbrev aq:=@Rat.intCast_natCast
abbrev au:=@List.length_append
abbrev av:=@Rat.intCast_mul
abbrev aw:=@List.getElem?_map
abbrev ax:=@List.mem_of_getElem?
abbrev az:=@List.length_replicate
abbrev aA:=@List.getElem_mem
abbrev aB:=@List.getElem?_eq_some_iff
abbrev aD:=@List.mem_map
abbrev aE:=@Bool.false_ne_true
abbrev aG:=@List.size_toArray
abbrev aI:=@List.mem_cons
abbrev aJ:=@List.take_of_length_le
abbrev aK:=@List.mem_append
abbrev aL:=@List.getElem_of_mem
abbrev aM:=@Nat.lt_of_lt_of_le
abbrev aN:=@List.getElem?_eq_none
abbrev aO:=@List.getElem?_append_right
abbrev aR:=@Nat.mul_le_mul_right
abbrev aU:=@Int.natAbs_natCast
abbrev aW:=@List.getElem?_append_left
abbrev aZ:=@List.mem_append_right
abbrev bc:=@Nat.zero_le
abbrev bh:=@Option.some.inj
abbrev bj:=@Nat.le_of_lt
abbrev bp:=@Nat.mul_le_mul
abbrev br:=@List.mem_cons_of_mem
abbrev bx:=@Nat.pow_add
abbrev bF:=@Int.fdiv_eq_ediv_of_nonneg
abbrev bH:=@Rat.intCast_neg
abbrev bI:=@List.length_cons
abbrev bL:=@Nat.lt_of_le_of_lt
abbrev bO:=@List.length_singleton
abbrev bR:=@List.nil_append
abbrev bS:=@Int.natAbs_mul
abbrev bW:=@Nat.ne_of_lt
abbrev bX:=@Nat.mul_comm
abbrev b5:=@List.not_mem_nil
abbrev b9:=@List.append_assoc
abbrev cb:=@Nat.one_le_two_pow
abbrev cf:=@Nat.mul_pos
abbrev cg:=@List.mem_singleton
abbrev cj:=@List.mem_cons_self
abbrev cm:=@List.ext_getElem
abbrev cp:=@Bool.and_eq_true
abbrev cx:=@Rat.intCast_inj
abbrev cC:=@Nat.le_mul_of_pos_right
abbrev cD:=@List.mem_of_mem_take
abbrev cH:=@PySem.boot_len
abbrev cM:=@Rat.natCast_mul
abbrev cN:=@List.length_set
abbrev cP:=@List.mem_or_eq_of_mem_set
abbrev cS:=@List.getElem_map
abbrev cT:=@List.cons_append
abbrev cU:=@Int.gcd_dvd_left
abbrev cX:=@Nat.mul_assoc
abbrev cY:=@Nat.lt_or_ge
abbrev cZ:=@Nat.lt_irrefl
abbrev dc:=@Nat.pow_lt_pow_right
abbrev dk:=@List.length_range
abbrev dm:=@List.getElem?_replicate
abbrev dn:=@Int.gcd_dvd_right
abbrev dq:=@List.map_append
abbrev dv:=@List.length_zipWith
abbrev dA:=@List.getElem?_range
abbrev dH:=@List.length_take
abbrev dQ:=@Int.natAbs_dvd_natAbs
abbrev dS:=@Bool.beq_eq_decide_eq
abbrev eF:=@Rat.mul_comm
abbrev eG:=@Nat.lt_trichotomy
abbrev e7:=@Nat.mul_le_mul_left
abbrev e8:=@Int.natAbs_neg
abbrev gs:=@List.getElem_zipWith
abbrev h6:=@Rat.mul_zero
abbrev h7:=@Nat.sub_self
abbrev h8:=@List.lookup_cons
abbrev ia:=@List.all_eq_true
abbrev ib:=@Int.mul_comm
abbrev ic:=@Int.gcd_comm
abbrev ik:=@PySem.mem_of_lookup
abbrev il:=@List.replicate_succ
abbrev iw:=@Int.mul_assoc
abbrev iJ:=@Bool.eq_iff_iff
abbrev i7:=@Int.mul_pos
abbrev i8:=@Int.eq_ofNat_of_zero_le
abbrev i9:=@Int.dvd_mul_of_dvd_left
abbrev jC:=@Nat.succ_mul
abbrev jT:=@List.getElem?_zipWith
abbrev kI:=@Nat.le_of_dvd
abbrev kJ:=@List.map_cons
abbrev kN:=@List.mem_append_left
abbrev kS:=@Rat.mul_eq_zero
abbrev kT:=@List.mem_filter
abbrev mG:=@Rat.zero_mul
abbrev mH:=@Nat.pow_succ
abbrev mS:=@Nat.eq_zero_or_pos
abbrev mT:=@List.getElem_range
abbrev mU:=@Int.emod_lt_of_pos
abbrev ng:=@Int.mul_neg_of_pos_of_neg
abbrev ou:=@Rat.one_mul
abbrev ow:=@List.flatten_cons
abbrev ox:=@List.eq_of_mem_replicate
abbrev pL:=@Rat.intCast_eq_zero_iff
abbrev pM:=@PySem.F.plainAttrs_list
abbrev pN:=@Nat.lt_succ_self
abbrev pO:=@Int.natCast_dvd_natCast
abbrev qm:=@PySem.W.cellsFrom_some
abbrev rE:=@Rat.intCast_sub
abbrev rF:=@Nat.not_lt_zero
abbrev rG:=@List.nodup_cons
abbrev rH:=@Int.emod_nonneg
abbrev sV:=@Rat.mul_one
abbrev sW:=@List.mem_range
abbrev ux:=@List.filterMap_cons
abbrev vF:=@Int.natAbs_eq
abbrev vH:=@List.append_of_mem
abbrev vI:=@Bool.false_eq_true
abbrev xy:=@Rat.zero_add
abbrev xA:=@Rat.add_zero
abbrev xB:=@Nat.ne_of_gt
abbrev xC:=@Nat.mul_left_comm
abbrev xD:=@Int.zero_add
abbrev yl:=@Nat.le_add_right
abbrev zR:=@Nat.le_succ
abbrev zS:=@Int.dvd_gcd
abbrev zW:=@Rat.intCast_add
abbrev zX:=@List.range_succ
abbrev zY:=@List.of_mem_zip
abbrev zZ:=@Int.gcd_pos_of_ne_zero_right
abbrev BI:=@Int.eq_of_mul_eq_mul_right
abbrev C9:=@PySem.F.type_list_append
abbrev Dc:=@PySem.F.slot_list_append
abbrev De:=@Option.isSome_iff_exists
abbrev Df:=@Nat.dvd_trans
abbrev Dg:=@List.getElem?_take_of_lt
abbrev Eh:=@List.filter_cons_of_pos
abbrev Ei:=@List.filter_cons_of_neg
abbrev LR9:=List (List Rat)
abbrev FG9:=PySem.W.Frag
namespace L2
open PySem PySem.Spec PyProof.Rows
abbrev Key:=Sum Int Str
def Bt:Key->Value->Bool
 | .inl k,v=>Value.isInt k v
 | .inr x,v=>Value.isStrOf x v
def EH (w:World):Key->Int
 | .inl k=>hashInt k
 | .inr x=>hashStr w x
theorem di:∀{k:Key} {v:Value},Bt k v=true->(∃i t,k=Sum.inl i/\v=Value.int i t)\/(∃x t,k=Sum.inr x/\v=Value.str x t)
 | .inl i,v,h=>by
  obtain ⟨t,e⟩:=Value.isInt_shape (k:=i) (v:=v) h;exact .inl ⟨i,t,rfl,e⟩
 | .inr x,v,h=>by
  obtain ⟨t,e⟩:=Value.isStrOf_shape (x:=x) (v:=v) h;exact .inr ⟨x,t,rfl,e⟩
theorem CK (a b:Int):decide ((Sum.inl a:Key)=Sum.inl b)=(a == b):=by
 by_cases e:a=b
 ·subst e;simp
 ·have h:¬(Sum.inl a:Key)=Sum.inl b:=λq=>e (Sum.inl.inj q)
  rw[decide_eq_false h];exact (beq_eq_false_iff_ne.mpr e).symm
theorem CH (a b:Str):decide ((Sum.inr a:Key)=Sum.inr b)=decide (a=b):=by
 by_cases e:a=b
 ·subst e;simp
 ·have h:¬(Sum.inr a:Key)=Sum.inr b:=λq=>e (Sum.inr.inj q)
  rw[decide_eq_false h,decide_eq_false e]
theorem CJ (a:Int) (b:Str):decide ((Sum.inl a:Key)=Sum.inr b)=false:=decide_eq_false (λq=>nomatch q)
theorem CI (a:Str) (b:Int):decide ((Sum.inr a:Key)=Sum.inl b)=false:=decide_eq_false (λq=>nomatch q)
def w6 (prog:Program) (w:World):PySem.KeyKind prog w Key where
 is:=Bt
 hash:=EH w
 inj:=λv a b ha hb=>by
  rcases di ha with ⟨i,t,rfl,rfl⟩ | ⟨x,t,rfl,rfl⟩
  ·rcases di hb with ⟨j,u,rfl,e⟩ | ⟨y,u,rfl,e⟩
   ·injection e with e1 _;rw[e1]
   ·exact nomatch e
  ·rcases di hb with ⟨j,u,rfl,e⟩ | ⟨y,u,rfl,e⟩
   ·exact nomatch e
   ·injection e with e1 _;rw[e1]
 byValue:=λk v h=>by
  rcases di h with ⟨i,t,rfl,rfl⟩ | ⟨x,t,rfl,rfl⟩ <;> rfl
 pyHash:=λhv h=>by
  rcases di hv with ⟨i,t,rfl,rfl⟩ | ⟨x,t,rfl,rfl⟩
  ·exact wpAny_pyHash_int h
  ·exact wpAny_pyHash_str h
 eqBool:=λhu hv h=>by
  rcases di hu with ⟨i,t,rfl,rfl⟩ | ⟨x,t,rfl,rfl⟩
  ·rcases di hv with ⟨j,u,rfl,rfl⟩ | ⟨y,u,rfl,rfl⟩
   ·rw[CK] at h;exact wpAny_eqBool_int h
   ·rw[CJ] at h;exact SeqAt.EqAt.int_str i t y u _ _ _ _ h
  ·rcases di hv with ⟨j,u,rfl,rfl⟩ | ⟨y,u,rfl,rfl⟩
   ·rw[CI] at h;exact SeqAt.EqAt.str_int x t j u _ _ _ _ h
   ·rw[CH] at h;exact wpAny_eqBool_str h
 «strs»:=λk x t v h=>by
  rcases di h with ⟨i,u,rfl,e⟩ | ⟨y,u,rfl,e⟩
  ·exact nomatch e
  ·injection e with e1 _
   subst e1;cases v <;> rfl
inductive V where
  | non | bl (b : Bool) | int (i : Int) | str (x : Str) | byt (b : Array UInt8) | flt (b : UInt64) | ref (a : Addr) | ty (n : String)
  deriving DecidableEq

def RelV:V->Value->Prop
 | .non,u=>u=Value.none
 | .bl b,u=>u=Value.bool b
 | .int i,u=>∃t,u=Value.int i t
 | .str x,u=>∃t,u=Value.str x t
 | .byt b,u=>∃t,u=Value.bytes b t
 | .flt b,u=>∃t,u=Value.float b t
 | .ref a,u=>u=Value.ref a
 | .ty n,u=>u=Value.type n
abbrev b6:List V->List Value->Prop:=Paired RelV
theorem b6.length {xs:List V} {us:List Value} (r:b6 xs us):xs.length=us.length:=Paired.length r
theorem b6.get:∀{xs:List V} {us:List Value} {i:Nat} {x:V},b6 xs us->xs[i]?=some x->∃u,us[i]?=some u/\RelV x u
 | _,_,_,_,.nil,e=>by simp at e
 | _,_,0,_,.cons r _,e=>by simp at e;subst e;exact ⟨_,rfl,r⟩
 | _,_,i+1,x,.cons _ t,e=>by
  obtain ⟨u,h1,h2⟩:=b6.get (i:=i) (x:=x) t (by simpa using e);exact ⟨u,by simpa using h1,h2⟩
theorem b6.set {x:V} {u:Value} (r:RelV x u):∀{xs:List V} {us:List Value} (i:Nat),b6 xs us->b6 (xs.set i x) (us.set i u)
 | _,_,_,.nil=>.nil
 | _,_,0,.cons _ t=>.cons r t
 | _,_,i+1,.cons q t=>.cons q (b6.set r i t)
theorem b6.append:∀{xs ys:List V} {us ws:List Value},b6 xs us->b6 ys ws->b6 (xs++ys) (us++ws)
 | _,_,_,_,.nil,s=>s
 | _,_,_,_,.cons r t,s=>.cons r (b6.append t s)
theorem b6.take:∀{xs:List V} {us:List Value} (n:Nat),b6 xs us->b6 (xs.take n) (us.take n)
 | _,_,0,_=>.nil
 | _,_,_+1,.nil=>.nil
 | _,_,n+1,.cons r t=>.cons r (b6.take n t)
theorem b6.drop:∀{xs:List V} {us:List Value} (n:Nat),b6 xs us->b6 (xs.drop n) (us.drop n)
 | _,_,0,r=>r
 | _,_,_+1,.nil=>.nil
 | _,_,n+1,.cons _ t=>b6.drop n t
def Eb:Option V->Option Value->Prop
 | some v,some u=>RelV v u
 | none,none=>True
 | _,_=>False
def KV {κ:Type}:List (κ×V)->List (κ×Value)->Prop:=Paired λ(p:κ×V) (q:κ×Value)=>p.1=q.1/\RelV p.2 q.2
def kV:Key->V
 | .inl i=>.int i
 | .inr x=>.str x
inductive HO where
 | lst (xs:List V)
 | tup (xs:List V)
 | dK (kvs:List (Key×V)) | dT (kvs:List (List Key×V))
 | set (S:Int->Bool) (n:Nat)
 | ins (C dx:Addr) (fs:List (Str×V))
 | own (x:Addr)
 | xd (fs:List (Str×V))
 | met (f x:Addr)
 | rng (lo hi:Int)
 | frz (o:Obj) (u:HO)
 | tbl (ps:Array Value)
 | ext (φ:Heap->Prop)
abbrev Hp:=Addr->Option HO
def upd (H:Hp) (a:Addr) (o:HO):Hp:=λb=>if b=a then some o else H b
theorem aF {H:Hp} {a:Addr} {o:HO}:upd H a o a=some o:=by unfold upd;rw[if_pos rfl]
theorem aY {H:Hp} {a b:Addr} {o:HO} (h:b≠a):upd H a o b=H b:=by unfold upd;rw[if_neg h]
theorem eH {H:Hp} {a b:Addr} {o:HO} (h:H a=some o) (h':H b=none):a≠b:=by
 intro e;subst e;rw[h] at h';cases h'
section
variable (P:Program) (w:World)
def jA (H:Hp) (h:Heap) (a:Addr):HO->Prop
 | .lst xs=>xs.length<=sizeLine/\∃(its:List Value) (n:Nat),b6 xs its/\h.get? a=some { cls:=.type "list",data:=.seq its.toArray n }
 | .tup xs=>xs.length<=sizeLine/\∃its:List Value,b6 xs its/\IsTup h a its.toArray
 | .dK kvs=>kvs.length<=sizeLine/\(a == sysModules)=false/\∃vs,KV kvs vs/\h.DictOf (w6 P w) a vs
 | .dT kvs=>kvs.length<=sizeLine/\(a == sysModules)=false/\∃xs:List (List Key×Addr×Value),
   Paired (λ(p:List Key×V) (q:List Key×Addr×Value)=>p.1=q.1/\H q.2.1=some (.tup (p.1.map kV))/\RelV p.2 q.2.2) kvs xs /\
   ∃o es ep,h.get? a=some o/\o.ExactDict/\o.data=.dict es ep/\es.toList=xs.map (entryOfKey (tupleKind (w6 P w)))/\(xs.map (·.1)).Nodup
 | .set S n=>h.SetOf (intKind P w) a S n
 | .ins C dx fs=>H dx=some (.own a)/\fs.length<=1000/\dx≠a/\h.get? a=some (PySem.W.instObj C dx) /\
   ∃mA,h.Ns1 dx mA/\(∀f,Eb (fs.lookup f) (mA f))/\PySem.Within mA (fs.map (·.1))
 | .own _=>∃o,h.get? a=some o
 | .xd fs=>∃mA,h.Ns1 a mA/\∀f,Eb (fs.lookup f) (mA f)
 | .rng lo hi=>∃t u v,h.get? a=some { cls:=.type "range",data:=.fields #[.int lo t,.int hi u,.int 1 v] }
 | .frz o u=>h.get? a=some o/\jA H h a u
 | .tbl ps=>h.get? a=some { cls:=.none,data:=.fields ps }
 | .met f x=>h.get? a=some (PySem.W.methodObj (.ref f) (.ref x))
 | .ext φ=>φ h/\(∃o,h.get? a=some o)/\∀h1 h2:Heap,φ h1->(∀o,h1.get? a=some o->h2.get? a=some o)->φ h2
def rC (H:Hp) (h:Heap):Prop:=∀a o,H a=some o->jA P w H h a o
end
section
variable {P:Program} {w:World} {H H':Hp} {h h':Heap} {a:Addr} {o:HO}
theorem jA.lt (x:jA P w H h a o):a < h.objs.size:=by
 cases o with
 | lst xs=>obtain ⟨_,_,_,_,e⟩:=x;exact Heap.lt_size e
 | tup xs=>obtain ⟨_,_,_,p⟩:=x;exact p.lt
 | dK kvs=>obtain ⟨_,_,_,_,o,_,_,e,_⟩:=x;exact Heap.lt_size e
 | dT kvs=>obtain ⟨_,_,_,_,o,_,_,e,_⟩:=x;exact Heap.lt_size e
 | set S n=>obtain ⟨o,_,_,_,e,_⟩:=x;exact Heap.lt_size e
 | ins C dx fs=>obtain ⟨_,_,_,e,_⟩:=x;exact Heap.lt_size e
 | own y=>obtain ⟨_,e⟩:=x;exact Heap.lt_size e
 | xd fs=>obtain ⟨_,⟨_,_,_,e,_⟩,_⟩:=x;exact Heap.lt_size e
 | rng lo hi=>obtain ⟨_,_,_,e⟩:=x;exact Heap.lt_size e
 | frz ob u=>obtain ⟨e,_⟩:=x;exact Heap.lt_size e
 | tbl ps=>exact Heap.lt_size (show h.get? a=some _ from x)
 | met f y=>exact Heap.lt_size (show h.get? a=some _ from x)
 | ext φ=>obtain ⟨_,⟨_,e⟩,_⟩:=x;exact Heap.lt_size e
theorem Paired.mapP {α β:Type} {F G:α->β->Prop}:∀{l₁:List α} {l₂:List β},Paired F l₁ l₂->(∀a b,F a b->G a b)->Paired G l₁ l₂
 | _,_,.nil,_=>.nil
 | _,_,.cons r t,f=>.cons (f _ _ r) (Paired.mapP t f)
theorem Paired.imp' {α β:Type} {F G:α->β->Prop} (f:∀a b,F a b->G a b) {l₁:List α} {l₂:List β} (r:Paired F l₁ l₂):Paired G l₁ l₂:=Paired.mapP r f
theorem jA.stay (x:jA P w H h a o) (k:∀b u,(b=a\/H b=some (.own a))->h.get? b=some u->h'.get? b=some u)
  (ho:∀b,H b=some (.own a)->H' b=some (.own a)) (ht:∀b xs,H b=some (.tup xs)->H' b=some (.tup xs)):jA P w H' h' a o:=by
 induction o with
 | lst xs=>obtain ⟨z,its,n,r,e⟩:=x;exact ⟨z,its,n,r,k _ _ (.inl rfl) e⟩
 | tup xs=>obtain ⟨z,its,r,ob,e,c⟩:=x;exact ⟨z,its,r,ob,k _ _ (.inl rfl) e,c⟩
 | dK kvs=>obtain ⟨z,y,vs,r,ob,es,ep,e,c⟩:=x;exact ⟨z,y,vs,r,ob,es,ep,k _ _ (.inl rfl) e,c⟩
 | dT kvs =>
  obtain ⟨z,y,xs,r,ob,es,ep,e,c⟩:=x;exact ⟨z,y,xs,Paired.mapP r λp q z=>⟨z.1,ht _ _ z.2.1,z.2.2⟩,ob,es,ep,k _ _ (.inl rfl) e,c⟩
 | set S n=>obtain ⟨ob,es,ep,t,e,c⟩:=x;exact ⟨ob,es,ep,t,k _ _ (.inl rfl) e,c⟩
 | ins C dx fs =>
  obtain ⟨d,z,ne,e,mA,⟨od,es,ep,e2,c⟩,r⟩:=x;exact ⟨ho _ d,z,ne,k _ _ (.inl rfl) e,mA,⟨od,es,ep,k _ _ (.inr d) e2,c⟩,r⟩
 | own y=>obtain ⟨ob,e⟩:=x;exact ⟨ob,k _ _ (.inl rfl) e⟩
 | xd fs=>obtain ⟨mA,⟨od,es,ep,e,c⟩,r⟩:=x;exact ⟨mA,⟨od,es,ep,k _ _ (.inl rfl) e,c⟩,r⟩
 | rng lo hi=>obtain ⟨t,u,v,e⟩:=x;exact ⟨t,u,v,k _ _ (.inl rfl) e⟩
 | frz ob u ih=>obtain ⟨e,q⟩:=x;exact ⟨k _ _ (.inl rfl) e,ih q⟩
 | tbl ps =>
  have e:h.get? a=some { cls:=.none,data:=.fields ps }:=x;show h'.get? a=some { cls:=.none,data:=.fields ps }
  exact k a _ (.inl rfl) e
 | met f y =>
  have e:h.get? a=some (PySem.W.methodObj (.ref f) (.ref y)):=x;show h'.get? a=some (PySem.W.methodObj (.ref f) (.ref y))
  exact k a _ (.inl rfl) e
 | ext φ=>obtain ⟨p,⟨o,e⟩,st⟩:=x;exact ⟨st _ _ p λo q=>k _ _ (.inl rfl) q,⟨o,k _ _ (.inl rfl) e⟩,st⟩
theorem rC.lt (x:rC P w H h) (e:H a=some o):a < h.objs.size:=(x a o e).lt
theorem rC.fresh (x:rC P w H h) (e:h.objs.size<=a):H a=none:=by
 cases q:H a with
 | none=>rfl
 | some u=>exact absurd (aM (x.lt q) e) (cZ _)
theorem rC.kept (x:rC P w H h) (k:∀b u,h.get? b=some u->h'.get? b=some u):rC P w H h':=λa o e =>
 (x a o e).stay (λb u _ q=>k b u q) (λ_ q=>q) λ_ _ q=>q
theorem rC.laid (x:rC P w H h) (k:∀b u,h.get? b=some u->h'.get? b=some u) (hp:h.objs.size<=a) (new:jA P w (upd H a o) h' a o):rC P w (upd H a o) h':=λb u e=>by
 have hn:=x.fresh hp;by_cases hb:b=a
 ·subst hb;rw[aF] at e;cases e;exact new
 ·rw[aY hb] at e;exact (x b u e).stay (λc v _ q=>k c v q) (λc q=>by rw[aY (eH q hn)];exact q) λc xs q=>by rw[aY (eH q hn)];exact q
end
def Rd (H:Hp) (a:Addr) (u:HO):Prop:=H a=some u\/∃o,H a=some (.frz o u)
theorem Rd.ok {P:Program} {w:World} {H:Hp} {h:Heap} {a:Addr} {u:HO} (r:Rd H a u) (x:rC P w H h):jA P w H h a u:=by
 rcases r with r | ⟨o,r⟩
 ·exact x a u r
 ·obtain ⟨_,q⟩:=x a _ r;exact q
def Er:Option HO->Prop
 | some (.lst _)=>True
 | some (.dK _)=>True
 | some (.dT _)=>True
 | some (.set _ _)=>True
 | some (.ins _ _ _)=>True
 | some (.ext _)=>True
 | _=>False
section
variable {P:Program} {w:World} {H:Hp} {h h':Heap} {x e:Addr} {o':HO}
theorem rC.write (ok:rC P w H h) (mu:Er (H x)) (he:e=x\/H e=some (.own x)) (k:∀b u,b≠e->h.get? b=some u->h'.get? b=some u) (heo:∃u,h'.get? e=some u)
  (new:jA P w (upd H x o') h' x o'):rC P w (upd H x o') h':=λb u q=>by
 have nown:∀c y,H c=some (.own y)->c≠x:=λc y r z=>by subst z;rw[r] at mu;exact mu
 have ntup:∀c xs,H c=some (.tup xs)->c≠x:=λc xs r z=>by subst z;rw[r] at mu;exact mu
 by_cases hb:b=x
 ·subst hb;rw[aF] at q;cases q;exact new
 ·rw[aY hb] at q;by_cases hbe:b=e
  ·have q':H b=some (.own x):=by
    rcases he with z | z
    ·exact absurd (hbe.trans z) hb
    ·rw[hbe];exact z
   rw[q] at q';cases q';obtain ⟨v,hv⟩:=heo;exact ⟨v,by rw[hbe];exact hv⟩
  ·refine (ok b u q).stay (λc v hc r=>k c v ?_ r) (λc r=>by rw[aY (nown c b r)];exact r) λc xs r=>by rw[aY (ntup c xs r)];exact r
   rcases hc with rfl | hc
   ·exact hbe
   ·rintro rfl;rcases he with z | z
    ·exact nown c b hc z
    ·rw[hc] at z;cases z;exact hb rfl
end
structure Un (fs ex:List Addr) (H H':Hp) (h h':Heap):Prop where
 keep:∀b o,h.get? b=some o->H b=none->b∉fs->b∉ex->h'.get? b=some o
 slot:∀b o,h.get? b=some o->H b=none->b∈fs->b∉ex->∃sl,h'.get? b=some { o with slots:=sl }
 free:∀b o,h.get? b=some o->H b=none->b∉ex->H' b=none
 there:∀b o,h.get? b=some o->b∉ex->∃o',h'.get? b=some o'
 tups:∀b xs,H b=some (.tup xs)->H' b=some (.tup xs)
 frzs:∀b o u,H b=some (.frz o u)->H' b=some (.frz o u)
 tbls:∀b ps,H b=some (.tbl ps)->∃more,H' b=some (.tbl (ps++more))
section
variable {fs fs' ex ex':List Addr} {H H1 H2:Hp} {h h1 h2 h':Heap} {a x e:Addr} {o:HO}
theorem Un.any (u:Un fs ex H H1 h h1) {b:Addr} {ob:Obj} (q:h.get? b=some ob) (n:H b=none) (hx:b∉ex):∃sl,h1.get? b=some { ob with slots:=sl }:=by
 by_cases hb:b∈fs
 ·exact u.slot b ob q n hb hx
 ·exact ⟨ob.slots,u.keep b ob q n hb hx⟩
theorem Un.kept (k:∀b u,h.get? b=some u->h'.get? b=some u):Un fs ex H H h h' :=
 ⟨λb ob q _ _ _=>k b ob q,λb ob q _ _ _=>⟨ob.slots,k b ob q⟩,λ_ _ _ n _=>n,λb ob q _=>⟨ob,k b ob q⟩,λ_ _ q=>q,λ_ _ _ q=>q,λ_ ps q=>⟨#[],by rw[q];simp⟩⟩
theorem Un.refl:Un fs ex H H h h:=Un.kept λ_ _ q=>q
theorem Un.laid (k:∀b u,h.get? b=some u->h'.get? b=some u) (hp:h.objs.size<=a) (hn:H a=none):Un fs ex H (upd H a o) h h' where
 keep:=λb u q _ _ _=>k b u q
 slot:=λb u q _ _ _=>⟨u.slots,k b u q⟩
 free:=λb u q n _=>by rw[aY (bW (aM (Heap.lt_size q) hp))];exact n
 there:=λb u q _=>⟨u,k b u q⟩
 tups:=λb xs q=>by rw[aY (eH q hn)];exact q
 frzs:=λb u xs q=>by rw[aY (eH q hn)];exact q
 tbls:=λb ps q=>⟨#[],by rw[aY (eH q hn),q];simp⟩
theorem Un.write (mu:Er (H x)) (he:e=x\/H e=some (.own x)) (k:∀b u,b≠e->h.get? b=some u->h'.get? b=some u) (heo:∃u,h'.get? e=some u):Un fs ex H (upd H x o) h h':=by
 have hx:∀b,H b=none->b≠x:=λb n z=>by subst z;rw[n] at mu;exact mu
 have hb:∀b,H b=none->b≠e:=λb n z=>by
  subst z;rcases he with r | r
  ·exact hx b n r
  ·rw[n] at r;cases r
 have hm:∀b u,H b=some u->¬Er (some u)->b≠x:=λb u q nm z=>by subst z;rw[q] at mu;exact nm mu
 refine ⟨λb u q n _ _=>k b u (hb b n) q,λb u q n _ _=>⟨u.slots,k b u (hb b n) q⟩,λb u q n _=>by rw[aY (hx b n)];exact n,λb u q _=>?_,
  λb xs q=>by rw[aY (hm b _ q λz=>z)];exact q,λb u xs q=>by rw[aY (hm b _ q λz=>z)];exact q,λb ps q=>⟨#[],by rw[aY (hm b _ q λz=>z),q];simp⟩⟩
 by_cases hbe:b=e
 ·subst hbe;exact heo
 ·exact ⟨u,k b u hbe q⟩
end
def Ek (h:Heap) (H:Hp):List Addr:=(List.range h.objs.size).filter λa=>(H a).isSome
def t9 (h:Heap) (H:Hp):Heap:=PySem.W.hideAll h (Ek h H)
theorem x8 (h:Heap) (H:Hp):(t9 h H).objs.size=h.objs.size:=PySem.W.hideAll_size _ _
theorem zh {h:Heap} {H:Hp} {b:Addr} {o:Obj} (e:h.get? b=some o) (n:H b=none):(t9 h H).get? b=some o :=
 PySem.W.hideAll_get _ e λhm=>by
  have q:(H b).isSome=true:=(kT.mp hm).2;rw[n] at q;simp at q
theorem AF {h:Heap} {H:Hp} {b:Addr} {o:Obj} (e:(t9 h H).get? b=some o):h.get? b=some o/\H b=none:=by
 have e':h.get? b=some o:=PySem.W.of_hideAll (Ek h H) e;refine ⟨e',?_⟩;cases q:H b with
 | none=>rfl
 | some x =>
  have hm:b∈Ek h H:=kT.mpr ⟨sW.mpr (Heap.lt_size e'),by simp [q]⟩;have z:(t9 h H).get? b=none:=PySem.W.hideAll_none (Ek h H) hm;rw[z] at e;cases e
structure Mod (K:FG9) (mg:Str->Option Value) (base:Heap):Prop where
 kin:K.In base
 glob:base.Ns mainGlobals mg
 blt:∃mb,base.Ns builtinsNs mb/\∀x:Str,x≠"__name__"->mb x=bootBuiltins x
 nolimit:base.NoLimit
structure Cx where
 prog:Program
 w:World
 K:FG9
 mg:Str->Option Value
 base:Heap
 A:Around
 N:List Str
 s₀:Shared
 H₀:Hp
 env:Env
 outer:List Env
 stack:List Env
 ex:List Addr
 fn:Str->Bool
 calm:Bool
 pn:List (Addr×Obj)
 xe:Value->Shared->Prop
def yk (l:List Env):List Addr:=l.filterMap (·.frame)
abbrev Cx.fs (X:Cx):List Addr:=yk X.outer
def ET (sc:Scope) (x:Str):Prop:=sc.names.lookup x=some .local\/sc.names.lookup x=some .cell\/sc.names.lookup x=some .free
def Loc (sc:Scope) (x:Str):Prop:=sc.names.lookup x=some .local\/sc.names.lookup x=some .cell
def Look (env:Env) (h:Heap) (m:Str->Option Value) (x:Str) (u:Value):Prop :=
 (env.kindOf x=some .local/\m x=some u)\/((env.kindOf x=some .cell\/env.kindOf x=some .free)/\∃c,env.cells.lookup x=some c/\h.IsCell c (some u))
structure Cx.Ok (X:Cx):Prop where
 mod:Mod X.K X.mg X.base
 kind:X.env.scope.kind=.function
 glob:X.env.globals=mainGlobals
 blt:X.env.builtins=builtinsNs
 above:X.s₀.heap.objs.size<=X.env.locals
 inj:∀x y c,X.env.cells.lookup x=some c->X.env.cells.lookup y=some c->x=y
 has:∀x,(X.env.kindOf x=some .cell\/X.env.kindOf x=some .free)->∃c,X.env.cells.lookup x=some c
 cab:∀x c,X.fn x=true->X.env.cells.lookup x=some c->X.s₀.heap.objs.size<=c
 hd:X.calm=true->X.A.handled=none
 frames:X.A.frames=some X.stack
 stk:X.stack=X.outer\/(X.stack=X.env :: X.outer/\X.env.frame=some X.env.locals)
 exf:∀b∈X.ex,b≠X.env.locals/\∀x c,X.env.cells.lookup x=some c->c≠b
 bs:∀b o,X.base.get? b=some o->X.s₀.heap.get? b=some o/\X.H₀ b=none
 bsz:X.base.objs.size<=X.s₀.heap.objs.size
 noex:∀b o,X.base.get? b=some o->b∉X.ex
 exfs:∀b∈X.ex,b∉X.fs
 funs:X.s₀.heap.FunFrames X.base X.outer
 frf:∀b∈X.fs,X.H₀ b=none
structure Inv (X:Cx) (pins:List (Addr×Obj)) (σ:List (Option V)) (H:Hp) (s:Shared):Prop where
 ok:X.Ok
 os:s.os=X.s₀.os
 bare:AllBare s.gens
 base:Un X.fs X.ex X.H₀ H X.s₀.heap s.heap
 loc:∃m,s.heap.Ns X.env.locals m/\∀(i:Nat) (x:Str) (v:V),X.N[i]?=some x->σ[i]?=some (some v)->ET X.env.scope x->∃u,RelV v u/\Look X.env s.heap m x u
 cell:∀x c,X.env.cells.lookup x=some c->∃v,s.heap.IsCell c v
 free:H X.env.locals=none
 freeC:∀x c,X.env.cells.lookup x=some c->H c=none
 pin:∀p∈X.pn++pins,s.heap.get? p.1=some p.2/\H p.1=none/\p.1≠X.env.locals/\p.1∉X.fs/\∀v,p.2.data≠.cell v
 hok:rC X.prog X.w H s.heap
 len:σ.length=X.N.length
section
variable {X:Cx} {pins:List (Addr×Obj)} {σ:List (Option V)} {H H':Hp} {s:Shared} {h':Heap}
theorem Cx.Ok.nofr (ok:X.Ok) {b:Addr} {o:Obj} (e:X.base.get? b=some o):b∉X.fs:=λhb=>by
 have:=(ok.funs.mem hb).1;rw[e] at this;cases this
theorem Inv.bs (I:Inv X pins σ H s):∀b o,X.base.get? b=some o->s.heap.get? b=some o/\H b=none:=λb o e =>
 ⟨I.base.keep b o (I.ok.bs b o e).1 (I.ok.bs b o e).2 (I.ok.nofr e) (I.ok.noex b o e),I.base.free b o (I.ok.bs b o e).1 (I.ok.bs b o e).2 (I.ok.noex b o e)⟩
theorem Inv.bk (I:Inv X pins σ H s):∀b o,X.base.get? b=some o->s.heap.get? b=some o:=λb o e=>(I.bs b o e).1
theorem Inv.mod (I:Inv X pins σ H s):Mod X.K X.mg X.base:=I.ok.mod
theorem Inv.kIn (I:Inv X pins σ H s):X.K.In s.heap:=I.ok.mod.kin.keeps I.bk
theorem Inv.lt (I:Inv X pins σ H s):X.env.locals < s.heap.objs.size:=let ⟨_,hn,_⟩:=I.loc;hn.lt
theorem Inv.sz (I:Inv X pins σ H s):X.s₀.heap.objs.size<=s.heap.objs.size:=ag I.ok.above (bj I.lt)
theorem Inv.nofs (I:Inv X pins σ H s) {a:Addr} (h:s.heap.objs.size<=a):a∉X.fs:=λhb=>by
 obtain ⟨_,o,ho,_⟩:=I.ok.funs.mem hb;exact absurd (aM (Heap.lt_size ho) (ag I.sz h)) (cZ _)
theorem Inv.cne (I:Inv X pins σ H s):∀x c,X.env.cells.lookup x=some c->c≠X.env.locals:=λx c e z=>by
 obtain ⟨v,o,ho,hd⟩:=I.cell x c e;obtain ⟨m,⟨o',es,ep,ho',hd',_⟩,_⟩:=I.loc;rw[z,ho'] at ho;cases ho;rw[hd'] at hd;cases hd
theorem Inv.funs (I:Inv X pins σ H s):s.heap.FunFrames X.base X.outer:=by
 have all:∀(l:List Env),(∀b∈yk l,b∈X.fs)->X.s₀.heap.FunFrames X.base l->s.heap.FunFrames X.base l:=by
  intro l
  induction l with
  | nil=>intro _ _;trivial
  | cons env r ih =>
   intro hs hl;obtain ⟨hk,⟨L,o,hf,hn,ho,hd⟩,hr⟩:=hl;have hL:L∈X.fs:=hs L (by unfold yk;rw[ux,hf];exact cj);obtain ⟨sl,e⟩:=I.base.slot L o ho (I.ok.frf L hL) hL λz=>I.ok.exfs L z hL
   exact ⟨hk,⟨L,_,hf,hn,e,hd⟩,ih (λb hb=>hs b (by unfold yk;rw[ux,hf];exact br _ hb)) hr⟩
 exact all X.outer (λ_ hb=>hb) I.ok.funs
theorem Inv.stack (I:Inv X pins σ H s):s.heap.FunFrames X.base X.stack:=by
 rcases I.ok.stk with e | ⟨e,hf⟩
 ·rw[e];exact I.funs
 ·rw[e];obtain ⟨m,hn,_⟩:=I.loc;refine .cons (by rw[I.ok.kind];decide) hf hn ?_ I.funs;exact Heap.get?_none_of_le (ag I.ok.bsz I.ok.above)
theorem Inv.stkSub (I:Inv X pins σ H s):∀b∈yk X.stack,b∈X.env.locals :: X.fs:=λb hb=>by
 rcases I.ok.stk with e | ⟨e,hf⟩
 ·rw[e] at hb;exact br _ hb
 ·rw[e] at hb;unfold yk at hb;rw[ux,hf] at hb;exact hb
theorem Inv.stkFree (I:Inv X pins σ H s):∀b∈yk X.stack,H b=none:=λb hb=>by
 rcases aI.mp (I.stkSub b hb) with e | hb
 ·rw[e];exact I.free
 ·obtain ⟨_,o,ho,_⟩:=I.ok.funs.mem hb;exact I.base.free b o ho (I.ok.frf b hb) λz=>I.ok.exfs b z hb
theorem Inv.step {g':Array GenState} {t':Nat} {d':Drawn} {ch:List Addr} (I:Inv X pins σ H s)
  (hch:∀b∈ch,(b∈X.ex\/X.s₀.heap.objs.size<=b)/\b≠X.env.locals/\(∀x c,X.env.cells.lookup x=some c->c≠b)/\∀p∈X.pn++pins,p.1≠b)
  (keep:∀b o,b≠X.env.locals->b∉X.fs->b∉ch->s.heap.get? b=some o->H b=none->h'.get? b=some o)
  (slot:∀b o,b≠X.env.locals->b∈X.fs->b∉ch->s.heap.get? b=some o->H b=none->∃sl,h'.get? b=some { o with slots:=sl }) (free:∀b o,b∉ch->s.heap.get? b=some o->H b=none->H' b=none)
  (there:∀b o,b∉ch->s.heap.get? b=some o->∃o',h'.get? b=some o')
  (tups:∀b xs,H b=some (.tup xs)->H' b=some (.tup xs)) (frzs:∀b o u,H b=some (.frz o u)->H' b=some (.frz o u)) (tbls:∀b ps,H b=some (.tbl ps)->∃more,H' b=some (.tbl (ps++more)))
  (ns:∀m,s.heap.Ns X.env.locals m->h'.Ns X.env.locals m) (hok:rC X.prog X.w H' h') (hg:AllBare g') :
  Inv X pins σ H' { s with heap:=h',gens:=g',drawn:=d',toks:=t' }:=by
 have neL:∀b o,X.s₀.heap.get? b=some o->b≠X.env.locals:=λb o e=>bW (aM (Heap.lt_size e) I.ok.above)
 have neC:∀b o,X.s₀.heap.get? b=some o->b∉X.ex->b∉ch:=λb o e hx hb=>by
  rcases (hch b hb).1 with z | z
  ·exact hx z
  ·exact absurd (aM (Heap.lt_size e) z) (cZ _)
 have cellK:∀x c,X.env.cells.lookup x=some c->∀v,s.heap.IsCell c v->h'.IsCell c v:=λx c e v ⟨o,ho,hd⟩=>by
  have nch:c∉ch:=λz=>(hch c z).2.2.1 x c e rfl
  by_cases hc:c∈X.fs
  ·obtain ⟨sl,q⟩:=slot c o (I.cne x c e) hc nch ho (I.freeC x c e);exact ⟨_,q,hd⟩
  ·exact ⟨o,keep c o (I.cne x c e) hc nch ho (I.freeC x c e),hd⟩
 refine ⟨I.ok,I.os,hg,⟨λb o e n hb hx=>?_,λb o e n hb hx=>?_,λb o e n hx=>?_,λb o e hx=>?_,λb xs e=>tups b xs (I.base.tups b xs e),λb o xs e=>frzs b o xs (I.base.frzs b o xs e),λb ps e=>?_⟩,?_,λx c e=>?_,?_,λx c e=>?_,λp hp=>?_,hok,I.len⟩
 ·exact keep b o (neL b o e) hb (neC b o e hx) (I.base.keep b o e n hb hx) (I.base.free b o e n hx)
 ·obtain ⟨sl,e1⟩:=I.base.slot b o e n hb hx;obtain ⟨sl',e2⟩:=slot b _ (neL b o e) hb (neC b o e hx) e1 (I.base.free b o e n hx);exact ⟨sl',e2⟩
 ·obtain ⟨o',e1⟩:=I.base.there b o e hx;exact free b o' (neC b o e hx) e1 (I.base.free b o e n hx)
 ·obtain ⟨o',e1⟩:=I.base.there b o e hx;exact there b o' (neC b o e hx) e1
 ·obtain ⟨m1,e1⟩:=I.base.tbls b ps e;obtain ⟨m2,e2⟩:=tbls b _ e1;exact ⟨m1++m2,by rw[e2,Array.append_assoc]⟩
 ·obtain ⟨m,hn,hl⟩:=I.loc;refine ⟨m,ns m hn,λi x v e1 e2 e3=>?_⟩;obtain ⟨u,r,l⟩:=hl i x v e1 e2 e3;refine ⟨u,r,?_⟩;rcases l with l | ⟨k,c,e,z⟩
  ·exact .inl l
  ·exact .inr ⟨k,c,e,cellK x c e _ z⟩
 ·obtain ⟨v,z⟩:=I.cell x c e;exact ⟨v,cellK x c e v z⟩
 ·obtain ⟨m,⟨o,_,_,ho,_⟩,_⟩:=I.loc;exact free _ o (λz=>(hch _ z).2.1 rfl) ho I.free
 ·obtain ⟨v,o,ho,hd⟩:=I.cell x c e;exact free c o (λz=>(hch c z).2.2.1 x c e rfl) ho (I.freeC x c e)
 ·obtain ⟨e,n,ne,nf,d⟩:=I.pin p hp;have nch:p.1∉ch:=λz=>(hch p.1 z).2.2.2 p hp rfl
  exact ⟨keep p.1 p.2 ne nf nch e n,free p.1 p.2 nch e n,ne,nf,d⟩
theorem Inv.un {t':Nat} (I:Inv X pins σ H s) (u:Un X.fs [] H H' s.heap h') (hok:rC X.prog X.w H' h'):Inv X pins σ H' { s with heap:=h',toks:=t' }:=by
 obtain ⟨m,⟨o,es,ep,ho,r⟩,_⟩:=id I.loc;obtain ⟨sl,hL⟩:=u.any ho I.free (by simp)
 exact I.step (g':=s.gens) (d':=s.drawn) (ch:=[]) (λ_ z=>nomatch z) (λb o _ hb _ e n=>u.keep b o e n hb (by simp)) (λb o _ hb _ e n=>u.slot b o e n hb (by simp)) (λb o _ e n=>u.free b o e n (by simp)) (λb o _ e=>u.there b o e (by simp)) u.tups u.frzs u.tbls (λm' hm=>by
  obtain ⟨o',es',ep',ho',r'⟩:=hm;rw[ho] at ho';cases ho';exact ⟨_,es',ep',hL,r'⟩) hok I.bare
theorem Inv.call {g':Array GenState} {t':Nat} {d':Drawn} {ch:List Addr} (I:Inv X pins σ H s) (u:Un (yk X.stack) ch H H' s.heap h') (hok:rC X.prog X.w H' h') (hg:AllBare g')
  (hch:∀b∈ch,(b∈X.ex\/X.s₀.heap.objs.size<=b)/\b≠X.env.locals/\(∀x c,X.env.cells.lookup x=some c->c≠b)/\∀p∈X.pn++pins,p.1≠b) :
  Inv X pins σ H' { s with heap:=h',gens:=g',drawn:=d',toks:=t' }:=by
 obtain ⟨m,⟨o,es,ep,ho,r⟩,_⟩:=id I.loc;obtain ⟨sl,hL⟩:=u.any ho I.free λz=>(hch _ z).2.1 rfl
 exact I.step (ch:=ch) hch (λb o hL hb hc e n=>u.keep b o e n (λz=>(aI.mp (I.stkSub b z)).elim hL hb) hc) (λb o _ _ hc e n=>u.any e n hc) (λb o hc e n=>u.free b o e n hc) (λb o hc e=>u.there b o e hc) u.tups u.frzs u.tbls (λm' hm=>by
  obtain ⟨o',es',ep',ho',r'⟩:=hm;rw[ho] at ho';cases ho';exact ⟨_,es',ep',hL,r'⟩) hok hg
theorem Inv.turned {t':Nat} {it:Addr} (I:Inv X pins σ H s) (k:∀b o,b≠it->s.heap.get? b=some o->h'.get? b=some o) (hn:H it=none) (hL:it≠X.env.locals)
  (h1:it∈X.ex\/X.s₀.heap.objs.size<=it) (h2:∀x c,X.env.cells.lookup x=some c->c≠it) (h3:∀p∈X.pn++pins,p.1≠it):Inv X pins σ H { s with heap:=h',toks:=t' }:=by
 have nit:∀b u,H b=some u->b≠it:=λb u e z=>by rw[z,hn] at e;cases e
 refine I.step (g':=s.gens) (d':=s.drawn) (ch:=[it]) (λb hb=>?_) (λb o _ _ hc e _=>k b o (λz=>hc (by simp [z])) e) (λb o _ _ hc e _=>⟨o.slots,k b o (λz=>hc (by simp [z])) e⟩) (λ_ _ _ _ n=>n)
  (λb o hc e=>⟨o,k b o (λz=>hc (by simp [z])) e⟩) (λ_ _ e=>e) (λ_ _ _ e=>e) (λb ps e=>⟨#[],by rw[e];simp⟩) (λm hm=>?_) (λb u e=>?_) I.bare
 ·have e:b=it:=by simpa using hb
  subst e;exact ⟨h1,hL,h2,h3⟩
 ·obtain ⟨o,es,ep,ho,r⟩:=hm;exact ⟨o,es,ep,k _ o (Ne.symm hL) ho,r⟩
 ·refine (I.hok b u e).stay (λc v hc q=>k c v ?_ q) (λ_ q=>q) λ_ _ q=>q
  rcases hc with z | z
  ·rw[z];exact nit b u e
  ·exact nit c _ z
theorem Inv.tok (I:Inv X pins σ H s) (t:Nat):Inv X pins σ H { s with toks:=t }:=I.un (h':=s.heap) (t':=t) Un.refl I.hok
theorem Inv.kept {t':Nat} (I:Inv X pins σ H s) (k:∀b u,s.heap.get? b=some u->h'.get? b=some u):Inv X pins σ H { s with heap:=h',toks:=t' }:=I.un (Un.kept k) (I.hok.kept k)
theorem Inv.laid {a:Addr} {o:HO} {t':Nat} (I:Inv X pins σ H s) (k:∀b u,s.heap.get? b=some u->h'.get? b=some u) (hp:s.heap.objs.size<=a) (new:jA X.prog X.w (upd H a o) h' a o) :
  Inv X pins σ (upd H a o) { s with heap:=h',toks:=t' }:=I.un (Un.laid k hp (I.hok.fresh hp)) (I.hok.laid k hp new)
theorem Inv.write {x e:Addr} {o:HO} {t':Nat} (I:Inv X pins σ H s) (mu:Er (H x)) (he:e=x\/H e=some (.own x)) (k:∀b u,b≠e->s.heap.get? b=some u->h'.get? b=some u) (heo:∃u,h'.get? e=some u)
  (new:jA X.prog X.w (upd H x o) h' x o):Inv X pins σ (upd H x o) { s with heap:=h',toks:=t' }:=I.un (Un.write mu he k heo) (I.hok.write mu he k heo new)
theorem Inv.pins_of {pins':List (Addr×Obj)} (I:Inv X pins σ H s) (h:∀p∈pins',s.heap.get? p.1=some p.2/\H p.1=none/\p.1≠X.env.locals/\p.1∉X.fs/\∀v,p.2.data≠.cell v):Inv X pins' σ H s :=
 ⟨I.ok,I.os,I.bare,I.base,I.loc,I.cell,I.free,I.freeC,λp hp=>(aK.mp hp).elim (λz=>I.pin p (kN _ z)) (h p),I.hok,I.len⟩
theorem ve {N:List Str} (hN:N.Nodup) {i j:Nat} {x:Str} (a:N[i]?=some x) (b:N[j]?=some x):i=j:=by
 obtain ⟨h1,e1⟩:=aB.mp a;obtain ⟨h2,e2⟩:=aB.mp b;exact (List.getElem_inj hN).mp (e1.trans e2.symm)
theorem rV {M:Model} {A:Around} {E:Value->Shared->Prop} {i:Nat} {x:Str} {v:V} {u:Value} {Q:Unit->Shared->Prop} (I:Inv X pins σ H s) (hN:X.N.Nodup) (hi:X.N[i]?=some x) (hx:Loc X.env.scope x) (r:RelV v u)
  (h:∀s',Inv X pins (σ.set i (some v)) H s'->(∃a,Heap.SameBut a s.heap s'.heap/\(a=X.env.locals\/X.env.cells.lookup x=some a))->Q () s') (hf:X.fn x=true\/X.env.scope.names.lookup x=some .local:=by first | exact .inl rfl | exact .inr rfl | assumption):wpAny M A (storeName X.env x u) Q E s:=by
 obtain ⟨m,hn,hl⟩:=id I.loc;have hcls:(X.env.scope.kind == .class || (X.env.scope.kind == .module && X.env.locals != X.env.globals))=false:=by rw[I.ok.kind];rfl
 have hiσ:i < σ.length:=by rw[I.len];exact (aB.mp hi).1
 have cne:=I.cne
 have tracked:∀{a:Addr} {h':Heap},(∃o,s.heap.get? a=some o/\H a=none)->Heap.SameBut a s.heap h'->rC X.prog X.w H h':=λ{a h'} ha hs b ob e=>by
  obtain ⟨_,_,hfree⟩:=ha;refine (I.hok b ob e).stay (λc w' hc q=>(hs.2 c ?_).trans q) (λ_ q=>q) λ_ _ q=>q
  rintro rfl;rcases hc with rfl | hc
  ·rw[hfree] at e;cases e
  ·rw[hfree] at hc;cases hc
 rcases hx with hk | hk
 ·refine wpAny_storeName_local hk hn (λh' hn' hs=>?_) hcls;obtain ⟨oL,_,_,hoL,_⟩:=id hn;refine h _ ⟨I.ok,I.os,I.bare,⟨λb o e n hb hx=>?_,λb o e n hb hx=>?_,I.base.free,λb o e hx=>?_,I.base.tups,I.base.frzs,I.base.tbls⟩,⟨_,hn',λj y v' e1 e2 e3=>?_⟩,λy c e=>?_,I.free,I.freeC,λp hp=>?_,tracked ⟨oL,hoL,I.free⟩ hs,by simpa using I.len⟩ ⟨_,hs,.inl rfl⟩
  ·exact (hs.2 b (bW (aM (Heap.lt_size e) I.ok.above))).trans (I.base.keep b o e n hb hx)
  ·obtain ⟨sl,e1⟩:=I.base.slot b o e n hb hx;exact ⟨sl,(hs.2 b (bW (aM (Heap.lt_size e) I.ok.above))).trans e1⟩
  ·obtain ⟨o',e1⟩:=I.base.there b o e hx;exact ⟨o',(hs.2 b (bW (aM (Heap.lt_size e) I.ok.above))).trans e1⟩
  ·by_cases hj:j=i
   ·subst hj;rw[hi] at e1;cases e1;rw[List.getElem?_set_self hiσ] at e2;cases e2;exact ⟨u,r,.inl ⟨hk,by simp⟩⟩
   ·rw[List.getElem?_set_ne (Ne.symm hj)] at e2;obtain ⟨u',r',q⟩:=hl j y v' e1 e2 e3;refine ⟨u',r',?_⟩;rcases q with ⟨k,e⟩ | ⟨k,c,e,z⟩
    ·refine .inl ⟨k,?_⟩;have:y≠x:=λe=>hj (ve hN e1 (e ▸ hi))
     simp [this,e]
    ·exact .inr ⟨k,c,e,z.sameBut hs (cne y c e)⟩
  ·obtain ⟨w',z⟩:=I.cell y c e;exact ⟨w',z.sameBut hs (cne y c e)⟩
  ·obtain ⟨e,n,ne,nf,d⟩:=I.pin p hp;exact ⟨(hs.2 p.1 ne).trans e,n,ne,nf,d⟩
 ·have hfn:X.fn x=true:=by
   rcases hf with z | z
   ·exact z
   ·rw[z] at hk;cases hk
  obtain ⟨c,hc⟩:=I.ok.has x (.inl hk);obtain ⟨w',z⟩:=I.cell x c hc;refine wpAny_storeName_cell I.ok.kind hk hc z (λh' hc' hs=>?_);obtain ⟨oc,hoc,hocd⟩:=id z;refine h { s with heap:=h' } ⟨I.ok,I.os,I.bare,⟨λb o e n hb hx=>?_,λb o e n hb hx=>?_,I.base.free,λb o e hx=>?_,I.base.tups,I.base.frzs,I.base.tbls⟩,⟨m,hn.sameBut hs (Ne.symm (cne x c hc)),λj y v' e1 e2 e3=>?_⟩,λy c' e=>?_,I.free,I.freeC,λp hp=>?_,tracked ⟨oc,hoc,I.freeC x c hc⟩ hs,by simpa using I.len⟩ ⟨c,hs,.inr hc⟩
  ·exact (hs.2 b (bW (aM (Heap.lt_size e) (I.ok.cab x c hfn hc)))).trans (I.base.keep b o e n hb hx)
  ·obtain ⟨sl,e1⟩:=I.base.slot b o e n hb hx;exact ⟨sl,(hs.2 b (bW (aM (Heap.lt_size e) (I.ok.cab x c hfn hc)))).trans e1⟩
  ·obtain ⟨o',e1⟩:=I.base.there b o e hx;exact ⟨o',(hs.2 b (bW (aM (Heap.lt_size e) (I.ok.cab x c hfn hc)))).trans e1⟩
  ·by_cases hj:j=i
   ·subst hj;rw[hi] at e1;cases e1;rw[List.getElem?_set_self hiσ] at e2;cases e2;exact ⟨u,r,.inr ⟨.inl hk,c,hc,hc'⟩⟩
   ·rw[List.getElem?_set_ne (Ne.symm hj)] at e2;obtain ⟨u',r',q⟩:=hl j y v' e1 e2 e3;refine ⟨u',r',?_⟩;rcases q with q | ⟨k,c',e,z'⟩
    ·exact .inl q
    ·refine .inr ⟨k,c',e,z'.sameBut hs ?_⟩;rintro rfl;exact hj (ve hN e1 (I.ok.inj _ _ _ e hc ▸ hi))
  ·by_cases hcc:c'=c
   ·subst hcc;exact ⟨_,hc'⟩
   ·obtain ⟨w2,z2⟩:=I.cell y c' e;exact ⟨w2,z2.sameBut hs hcc⟩
  ·obtain ⟨e,n,ne,nf,d⟩:=I.pin p hp;refine ⟨(hs.2 p.1 ?_).trans e,n,ne,nf,d⟩;intro q;rw[q,hoc] at e;have q':oc=p.2:=bh e;exact d w' (by rw[<- q'];exact hocd)
theorem nC {M:Model} {A:Around} {E:Value->Shared->Prop} {i:Nat} {x:Str} {v:V} {u:Value} {Q:Unit->Shared->Prop} (I:Inv X pins σ H s) (hN:X.N.Nodup) (hi:X.N[i]?=some x) (hx:Loc X.env.scope x) (r:RelV v u)
  (h:∀s',Inv X pins (σ.set i (some v)) H s'->Q () s') (hf:X.fn x=true\/X.env.scope.names.lookup x=some .local:=by first | exact .inl rfl | exact .inr rfl | assumption):wpAny M A (storeName X.env x u) Q E s :=
 rV I hN hi hx r (λs' I' _=>h s' I') hf
theorem Inv.call' {s':Shared} {ch:List Addr} (I:Inv X pins σ H s) (ho:s'.os=s.os) (u:Un (yk X.stack) ch H H' s.heap s'.heap) (hok:rC X.prog X.w H' s'.heap) (hg:AllBare s'.gens)
  (hch:∀b∈ch,(b∈X.ex\/X.s₀.heap.objs.size<=b)/\b≠X.env.locals/\(∀x c,X.env.cells.lookup x=some c->c≠b)/\∀p∈X.pn++pins,p.1≠b):Inv X pins σ H' s':=by
 obtain ⟨h',g',d',t',o'⟩:=s';have e:o'=s.os:=ho;subst e;exact I.call (g':=g') (t':=t') (d':=d') u hok hg hch
end
abbrev XK:=Value->Option Addr->Hp->Prop
abbrev St:=List (Option V)
abbrev VK:=V->Hp->Prop
abbrev TE:=St->Hp->VK->Prop
abbrev TT:=St->Hp->(Bool->Hp->Prop)->Prop
abbrev TA:=St->Hp->(List V->Hp->Prop)->Prop
structure Ends where
 nx:St->Hp->Prop
 rt:VK
 bk:St->Hp->Prop:=λ_ _=>False
 ct:St->Hp->Prop:=λ_ _=>False
abbrev TS:=Ends->St->Hp->Prop
def EP (X:Cx) (pins:List (Addr×Obj)) (σ:St) (Q:VK) (u:Value) (s':Shared):Prop:=∃v H',Inv X pins σ H' s'/\RelV v u/\Q v H'
def TP (X:Cx) (pins:List (Addr×Obj)) (σ:St) (Q:Bool->Hp->Prop) (b:Bool) (s':Shared):Prop:=∃H',Inv X pins σ H' s'/\Q b H'
def AP (X:Cx) (pins:List (Addr×Obj)) (σ:St) (Q:List V->Hp->Prop) (us:List Value) (s':Shared):Prop:=∃vs H',Inv X pins σ H' s'/\b6 vs us/\Q vs H'
def SP (X:Cx) (pins:List (Addr×Obj)) (D:Ends) (f:Flow) (s':Shared):Prop :=
 match f with
 | .next=>∃σ' H',Inv X pins σ' H' s'/\D.nx σ' H'
 | .brk=>∃σ' H',Inv X pins σ' H' s'/\D.bk σ' H'
 | .cont=>∃σ' H',Inv X pins σ' H' s'/\D.ct σ' H'
 | .ret u=>∃v σ' H',Inv X pins σ' H' s'/\RelV v u/\D.rt v H'
def PE (X:Cx) (e:Expr) (t:TE):Prop :=
 ∀(pins:List (Addr×Obj)) (s:Shared) (σ:St) (H:Hp) (Q:VK),Inv X pins σ H s->t σ H Q->wpAny (model X.prog X.w) X.A (eval e X.env) (EP X pins σ Q) X.xe s
def PT (X:Cx) (e:Expr) (t:TT):Prop :=
 ∀(pins:List (Addr×Obj)) (s:Shared) (σ:St) (H:Hp) (Q:Bool->Hp->Prop),Inv X pins σ H s->t σ H Q->wpAny (model X.prog X.w) X.A (isTrue e X.env (eval e X.env)) (TP X pins σ Q) X.xe s
def PW (X:Cx) (e:Expr) (t:TT):Prop :=
 ∀(whole:Sem Value) (pins:List (Addr×Obj)) (s:Shared) (σ:St) (H:Hp) (Q:Bool->Hp->Prop),Inv X pins σ H s->t σ H Q->wpAny (model X.prog X.w) X.A (isTrue e X.env whole) (TP X pins σ Q) X.xe s
theorem PW.pt {X:Cx} {e:Expr} {t:TT} (h:PW X e t):PT X e t:=h _
def PA (X:Cx) (es:List Expr) (t:TA):Prop :=
 ∀(pos:Pos) (pins:List (Addr×Obj)) (s:Shared) (σ:St) (H:Hp) (Q:List V->Hp->Prop),Inv X pins σ H s->t σ H Q->wpAny (model X.prog X.w) X.A (spliced (backTo pos (starEach es X.env))) (AP X pins σ Q) X.xe s
def PS (X:Cx) (st:Stmt) (t:TS):Prop :=
 ∀(pins:List (Addr×Obj)) (s:Shared) (σ:St) (H:Hp) (D:Ends),Inv X pins σ H s->t D σ H->wpAny (model X.prog X.w) X.A (exec st X.env) (SP X pins D) X.xe s
def wd (X:Cx) (st:List Stmt) (t:TS):Prop :=
 ∀(pins:List (Addr×Obj)) (s:Shared) (σ:St) (H:Hp) (D:Ends),Inv X pins σ H s->t D σ H->wpAny (model X.prog X.w) X.A (execs st X.env) (SP X pins D) X.xe s
theorem fe {α:Type} {t:Sem α} {Q Q':α->Shared->Prop} {M:Model} {A:Around} {E:Value->Shared->Prop} {s:Shared} (h:wpAny M A t Q E s) (hQ:∀a s,Q a s->Q' a s):wpAny M A t Q' E s:=wpAny_mono h hQ λ_ _ x=>x
section
variable {X:Cx}
def BP (i:Nat):TE:=λσ H Q=>∃v,σ[i]?=some (some v)/\Q v H
def tC (v:V):TE:=λ_ H Q=>Q v H
theorem Cz {i:Nat} {x:Str} {pos:Pos} (hN:X.N[i]?=some x) (hv:ET X.env.scope x) (hd:(x == ("__debug__":Str))=false:=by decide) (hcd:(x == ("__classdict__":Str))=false:=by decide):PE X (.Name x pos) (BP i):=by
 intro pins s σ H Q I h;obtain ⟨v,e,h⟩:=h;obtain ⟨m,hn,hl⟩:=I.loc;obtain ⟨u,r,l⟩:=hl i x v hN e hv;have fin:EP X pins σ Q u s:=⟨v,H,I,r,h⟩;rcases l with ⟨hk,hm⟩ | ⟨hk,c,hc,hcell⟩
 ·exact wpAny_Name (wpAny_loadName_local I.ok.kind hk hn hm fin) hd
 ·rcases hk with hk | hk
  ·exact wpAny_Name (wpAny_loadName_cell I.ok.kind hk hc hcell fin) hd
  ·exact wpAny_Name (wpAny_loadName_free I.ok.kind hk hc hcell fin hcd) hd
theorem ak {i j pos}:PE X (.Constant (.int i) j pos) (tC (.int i)):=λ_ _ _ H _ I h=>wpAny_Constant_int ⟨.int i,H,I.tok _,⟨_,rfl⟩,h⟩
theorem pe {b j pos}:PE X (.Constant (.bool b) j pos) (tC (.bl b)):=λ_ _ _ H _ I h=>Constant_bool ⟨.bl b,H,I,rfl,h⟩
theorem tO {j pos}:PE X (.Constant .none j pos) (tC .non):=λ_ _ _ H _ I h=>Constant_none ⟨.non,H,I,rfl,h⟩
theorem jE {x j pos}:PE X (.Constant (.str x) j pos) (tC (.str x)):=λ_ _ _ H _ I h=>Calls.Constant_str ⟨.str x,H,I.tok _,⟨_,rfl⟩,h⟩
def Gl (X:Cx) (x:Str):Prop:=X.env.kindOf x=some .globalImplicit
theorem xf {E:Value->Shared->Prop} {pins:List (Addr×Obj)} {s:Shared} {σ:St} {H:Hp} {x:Str} {u:Value} {pos:Pos} {Q:Value->Shared->Prop} (I:Inv X pins σ H s) (hg:Gl X x) (hm:X.mg x=some u) (h:Q u s)
  (hd:(x == ("__debug__":Str))=false:=by decide):wpAny (model X.prog X.w) X.A (eval (.Name x pos) X.env) Q E s :=
 Calls.Name_function_global I.ok.kind hg (Calls.loadGlobal_global (by rw[I.ok.glob];exact I.mod.glob.keeps I.bk) hm h) hd
theorem oP {E:Value->Shared->Prop} {pins:List (Addr×Obj)} {s:Shared} {σ:St} {H:Hp} {x:Str} {u:Value} {pos:Pos} {Q:Value->Shared->Prop} (I:Inv X pins σ H s) (hg:Gl X x) (hm:X.mg x=none) (hv:bootBuiltins x=some u) (h:Q u s)
  (hn:x≠"__name__":=by decide) (hd:(x == ("__debug__":Str))=false:=by decide):wpAny (model X.prog X.w) X.A (eval (.Name x pos) X.env) Q E s:=by
 obtain ⟨mb,h1,h2⟩:=I.mod.blt;exact Calls.Name_function_global I.ok.kind hg (Calls.loadGlobal_builtin (by rw[I.ok.glob];exact I.mod.glob.keeps I.bk) hm (by rw[I.ok.blt];exact h1.keeps I.bk) ((h2 x hn).trans hv) h) hd
theorem lZ {x:Str} {v:V} {u:Value} {pos:Pos} (hg:Gl X x) (hm:X.mg x=some u) (r:RelV v u) (hd:(x == ("__debug__":Str))=false:=by decide):PE X (.Name x pos) (tC v) :=
 λ_ _ _ H _ I h=>xf I hg hm ⟨v,H,I,r,h⟩ hd
variable {a b:Expr} {ta tb:TE} {pos:Pos}
def tB (t:TE):TT:=λσ H Q=>t σ H λx H1=>∃c,x=.bl c/\Q c H1
theorem tI {e : Expr} {t : TE} (h : PE X e t) (he : ∀ whole, isTrue e X.env whole = (do let v <- whole; standAt e.pos; holding [v] (truthy v)) := by intro _; rfl) : PT X e (tB t) := by
  intro pins s σ H Q I hw;refine isTrue_plain (fe (h pins s σ H _ I hw) λv s1 ⟨x, H1, I1, r1, q1⟩ => ?_) (he _);obtain ⟨d, rfl, q⟩ := q1;cases r1;exact wpAny_truthy_bool ⟨H1, I1, q⟩

variable {tA tB':TT} {rest:List Expr}
def Dw (t u:TT):TT:=λσ H Q=>t σ H λc H1=>if c=true then u σ H1 Q else Q false H1
def tOr (t u:TT):TT:=λσ H Q=>t σ H λc H1=>if c=true then Q true H1 else u σ H1 Q
def Dq (t:TT):TT:=λσ H Q=>t σ H λc H1=>Q (!c) H1
theorem Ay (ha:PT X a tA):PW X (.BoolOp .And [a] pos) tA:=by
 intro wh pins s σ H Q I h;refine isTrue_and (fe (ha pins s σ H Q I h) λc s1 e=>?_);cases c with
 | true=>exact isTrue_and_nil e
 | false=>exact e
theorem Cv (ha:PT X a tA):PW X (.BoolOp .Or [a] pos) tA:=by
 intro wh pins s σ H Q I h;refine isTrue_or (fe (ha pins s σ H Q I h) λc s1 e=>?_);cases c with
 | false=>exact isTrue_or_nil e
 | true=>exact e
theorem Cw (ha:PT X a tA) (hb:PW X (.BoolOp .And (b :: rest) pos) tB'):PW X (.BoolOp .And (a :: b :: rest) pos) (Dw tA tB'):=by
 intro wh pins s σ H Q I h;refine isTrue_and (fe (ha pins s σ H _ I h) λc s1 ⟨H1,I1,q1⟩=>?_);cases c with
 | true=>exact hb wh pins s1 σ H1 Q I1 q1
 | false=>exact ⟨H1,I1,q1⟩
theorem DP (ha:PT X a tA) (hb:PW X (.BoolOp .Or (b :: rest) pos) tB'):PW X (.BoolOp .Or (a :: b :: rest) pos) (tOr tA tB'):=by
 intro wh pins s σ H Q I h;refine isTrue_or (fe (ha pins s σ H _ I h) λc s1 ⟨H1,I1,q1⟩=>?_);cases c with
 | true=>exact ⟨H1,I1,q1⟩
 | false=>exact hb wh pins s1 σ H1 Q I1 q1
theorem tJ (ha:PT X a tA):PT X (.UnaryOp .Not a pos) (Dq tA):=by
 intro pins s σ H Q I h;exact isTrue_not (ha pins s σ H (λc H1=>Q (!c) H1) I h)
def Bo (ta tb:TE):TE:=λσ H Q=>ta σ H λx H1=>∃c,x=.bl c/\if c=true then tb σ H1 Q else Q (.bl false) H1
theorem CA {op} {t:TE} (h:PE X a t):PE X (.BoolOp op [a] pos) t:=λpins s σ H Q I hw=>BoolOp_one (h pins s σ H Q I hw)
theorem CB (ha:PE X a ta) (hb:PE X (.BoolOp .And (b :: rest) pos) tb):PE X (.BoolOp .And (a :: b :: rest) pos) (Bo ta tb):=by
 intro pins s σ H Q I h;refine BoolOp_and (fe (ha pins s σ H _ I h) λv s1 ⟨x,H1,I1,r1,q1⟩=>?_);obtain ⟨c,rfl,q1⟩:=q1;cases r1;refine wpAny_truthy_bool ?_;cases c with
 | true=>exact hb pins s1 σ H1 Q I1 q1
 | false=>exact ⟨.bl false,H1,I1,rfl,q1⟩
def tIf (t:TT) (ta tb:TE):TE:=λσ H Q=>t σ H λc H1=>if c=true then ta σ H1 Q else tb σ H1 Q
theorem u9 {c:Expr} (hc:PT X c tA) (ha:PE X a ta) (hb:PE X b tb):PE X (.IfExp c a b pos) (tIf tA ta tb):=by
 intro pins s σ H Q I h;refine wpAny_IfExp (fe (hc pins s σ H _ I h) λd s1 ⟨H1,I1,q1⟩=>?_);cases d with
 | true=>exact ha pins s1 σ H1 Q I1 q1
 | false=>exact hb pins s1 σ H1 Q I1 q1
end
def bT (K:FG9) (H:Hp) (a:Addr) (xs:List V):Prop :=
 Rd H a (.lst xs) \/
  ∃(o:Obj) (its:Array Value) (n:Nat),K.lookup a=some o/\o.cls=.type "list"/\o.dict=none/\o.data=.seq its n/\its.size<=sizeLine/\b6 xs its.toList
def oo (K:FG9) (H:Hp) (a:Addr) (xs:List V):Prop :=
 Rd H a (.tup xs) \/
  ∃(o:Obj) (its:Array Value) (n:Nat),K.lookup a=some o/\o.cls=.type "tuple"/\o.data=.seq its n/\its.size<=sizeLine/\b6 xs its.toList
def ES:Value->Option V
 | .none=>some .non
 | .bool b=>some (.bl b)
 | .int i _=>some (.int i)
 | .str x _=>some (.str x)
 | .bytes b _=>some (.byt b)
 | .float b _=>some (.flt b)
 | .ref a=>some (.ref a)
 | .type n=>some (.ty n)
 | _=>none
theorem RelV.abs {x:V} {u:Value} (r:RelV x u):ES u=some x:=by
 cases x with
 | non=>cases r;rfl
 | bl _=>cases r;rfl
 | int _=>obtain ⟨t,rfl⟩:=r;rfl
 | str _=>obtain ⟨t,rfl⟩:=r;rfl
 | byt _=>obtain ⟨t,rfl⟩:=r;rfl
 | flt _=>obtain ⟨t,rfl⟩:=r;rfl
 | ref _=>cases r;rfl
 | ty _=>cases r;rfl
theorem RelV.inj {x y:V} {u:Value} (r:RelV x u) (q:RelV y u):x=y:=bh (r.abs.symm.trans q.abs)
theorem b6.inj:∀{xs ys:List V} {us:List Value},b6 xs us->b6 ys us->xs=ys
 | _,_,_,.nil,.nil=>rfl
 | _,_,_,.cons r t,.cons r' t'=>by rw[r.inj r',b6.inj t t']
section
variable {X:Cx} {pins:List (Addr×Obj)} {σ:St} {H:Hp} {s:Shared} {a:Addr} {xs ys:List V}
theorem bT.of {K:FG9} (h:H a=some (.lst xs)):bT K H a xs:=.inl (.inl h)
theorem oo.of {K:FG9} (h:H a=some (.tup xs)):oo K H a xs:=.inl (.inl h)
theorem Inv.list (I:Inv X pins σ H s) (h:bT X.K H a xs):∃its:List Value,b6 xs its/\PlainL s.heap a its.toArray/\xs.length<=sizeLine:=by
 rcases h with h | ⟨o,its,n,hk,hc,hd,hs,hz,r⟩
 ·obtain ⟨z,its,n,r,e⟩:=h.ok I.hok;exact ⟨its,r,⟨_,n,e,rfl,rfl,rfl⟩,z⟩
 ·refine ⟨its.toList,r,⟨o,n,I.kIn a o hk,hc,hd,by simpa using hs⟩,?_⟩;have e:=r.length;simp only[Array.length_toList] at e
  lia
theorem Inv.tuple (I:Inv X pins σ H s) (h:oo X.K H a xs):∃its:List Value,b6 xs its/\IsTup s.heap a its.toArray/\xs.length<=sizeLine:=by
 rcases h with h | ⟨o,its,n,hk,hc,hs,hz,r⟩
 ·obtain ⟨z,its,r,p⟩:=h.ok I.hok;exact ⟨its,r,p,z⟩
 ·refine ⟨its.toList,r,⟨o,I.kIn a o hk,hc,n,by simpa using hs⟩,?_⟩;have e:=r.length;simp only[Array.length_toList] at e
  lia
theorem Inv.list_inj (I:Inv X pins σ H s) (h:bT X.K H a xs) (h':bT X.K H a ys):xs=ys:=by
 obtain ⟨its,r,⟨o,n,e,_,_,d⟩,_⟩:=I.list h;obtain ⟨its',r',⟨o',n',e',_,_,d'⟩,_⟩:=I.list h';rw[e] at e';cases e';rw[d] at d';injection d' with d1 _
 have:its=its':=by simpa using congrArg Array.toList d1
 subst this;exact r.inj r'
theorem Inv.tuple_inj (I:Inv X pins σ H s) (h:oo X.K H a xs) (h':oo X.K H a ys):xs=ys:=by
 obtain ⟨its,r,⟨o,e,_,n,d⟩,_⟩:=I.tuple h;obtain ⟨its',r',⟨o',e',_,n',d'⟩,_⟩:=I.tuple h';rw[e] at e';cases e';rw[d] at d';injection d' with d1 _
 have:its=its':=by simpa using congrArg Array.toList d1
 subst this;exact r.inj r'
end
abbrev Cx.wish (X:Cx) (E:Value->Shared->Prop):Cx:={ X with xe:=E }
abbrev Cx.nox (X:Cx):Cx:=X.wish λ_ _=>False
theorem Cx.Ok.wish {X:Cx} (ok:X.Ok) (E:Value->Shared->Prop):(X.wish E).Ok :=
 ⟨ok.mod,ok.kind,ok.glob,ok.blt,ok.above,ok.inj,ok.has,ok.cab,ok.hd,ok.frames,ok.stk,ok.exf,ok.bs,ok.bsz,ok.noex,ok.exfs,ok.funs,ok.frf⟩
theorem Cx.Ok.unwish {X:Cx} {E:Value->Shared->Prop} (ok:(X.wish E).Ok):X.Ok :=
 ⟨ok.mod,ok.kind,ok.glob,ok.blt,ok.above,ok.inj,ok.has,ok.cab,ok.hd,ok.frames,ok.stk,ok.exf,ok.bs,ok.bsz,ok.noex,ok.exfs,ok.funs,ok.frf⟩
section
variable {X:Cx} {pins:List (Addr×Obj)} {σ:St} {H:Hp} {s:Shared} {E:Value->Shared->Prop}
theorem Inv.wish (I:Inv X pins σ H s) (E:Value->Shared->Prop):Inv (X.wish E) pins σ H s:=⟨I.ok.wish E,I.os,I.bare,I.base,I.loc,I.cell,I.free,I.freeC,I.pin,I.hok,I.len⟩
theorem Inv.unwish (I:Inv (X.wish E) pins σ H s):Inv X pins σ H s:=⟨I.ok.unwish,I.os,I.bare,I.base,I.loc,I.cell,I.free,I.freeC,I.pin,I.hok,I.len⟩
theorem SP.unwish {D:Ends} {f:Flow} {s':Shared} (h:SP (X.wish E) pins D f s'):SP X pins D f s':=by
 cases f with
 | next=>obtain ⟨σ',H',I,q⟩:=h;exact ⟨σ',H',I.unwish,q⟩
 | brk=>obtain ⟨σ',H',I,q⟩:=h;exact ⟨σ',H',I.unwish,q⟩
 | cont=>obtain ⟨σ',H',I,q⟩:=h;exact ⟨σ',H',I.unwish,q⟩
 | ret u=>obtain ⟨v,σ',H',I,r,q⟩:=h;exact ⟨v,σ',H',I.unwish,r,q⟩
theorem wd.nox {st:List Stmt} {t:TS} (h:wd X.nox st t):wd X st t:=λpins s σ H D I hw =>
 wpAny_mono (h pins s σ H D (I.wish _) hw) (λ_ _ q=>q.unwish) λ_ _ z=>False.elim z
end
section
variable {X:Cx} {st:Stmt} {rest:List Stmt} {t u:TS} {e:Expr} {te:TE} {pos:Pos}
def A9:TS:=λD σ H=>D.nx σ H
def Dl (t u:TS):TS:=λD σ H=>t { D with nx:=u D } σ H
theorem b7:wd X [] A9:=λ_ _ σ H _ I h=>wpAny_execs_nil ⟨σ,H,I,h⟩
theorem ao (h1:PS X st t) (h2:wd X rest u):wd X (st :: rest) (Dl t u):=by
 intro pins s σ H D I h;refine wpAny_execs_cons (fe (h1 pins s σ H { D with nx:=u D } I h) λf s1 q=>?_);cases f with
 | next =>
  obtain ⟨σ',H',I',q⟩:=q;exact h2 pins s1 σ' H' D I' q
 | ret v=>exact q
 | brk=>exact q
 | cont=>exact q
theorem ay (h1:PS X st t):wd X [st] t:=by
 intro pins s σ H D I h;refine wpAny_execs_cons (fe (h1 pins s σ H D I h) λf s1 q=>?_);cases f with
 | next=>exact wpAny_execs_nil q
 | ret v=>exact q
 | brk=>exact q
 | cont=>exact q
theorem Inv.quiet {pins:List (Addr×Obj)} {σ:St} {H:Hp} {s:Shared} (I:Inv X pins σ H s):interactive X.env=false:=by simp [interactive,I.ok.kind]
def Bh (te:TE):TS:=λD σ H=>te σ H λ_ H1=>D.nx σ H1
theorem wL (he:PE X e te) (hs:swapsWith e none pos.line X.env=pure false:=by rfl):PS X (.Expr e pos) (Bh te):=by
 intro pins s σ H D I h;exact wpAny_Expr_any (fe (he pins s σ H _ I h) λv s1 ⟨x,H1,I1,r1,q1⟩=>⟨σ,H1,I1,q1⟩) I.quiet hs
def Dm (te:TE):TS:=λD σ H=>te σ H D.rt
theorem aV (he:PE X e te):PS X (.Return (some e) pos) (Dm te):=by
 intro pins s σ H D I h;exact wpAny_Return_some (fe (he pins s σ H _ I h) λv s1 ⟨x,H1,I1,r1,q1⟩=>⟨x,σ,H1,I1,r1,q1⟩)
def Du (c:TT) (t u:TS):TS:=λD σ H=>c σ H λb H1=>if b=true then t D σ H1 else u D σ H1
theorem dF {c:Expr} {a b:List Stmt} {tc:TT} (hc:PT X c tc) (ha:wd X a t) (hb:wd X b u):PS X (.If c a b pos) (Du tc t u):=by
 intro pins s σ H D I h;refine wpAny_If (fe (hc pins s σ H _ I h) λd s1 ⟨H1,I1,q1⟩=>?_);cases d with
 | true=>exact ha pins s1 σ H1 D I1 q1
 | false=>exact hb pins s1 σ H1 D I1 q1
end
abbrev TG:=V->St->Hp->(St->Hp->Prop)->Prop
abbrev zU:=List V->St->Hp->(St->Hp->Prop)->Prop
def PG (X:Cx) (target:Expr) (t:TG):Prop :=
 ∀(pins:List (Addr×Obj)) (s:Shared) (σ:St) (H:Hp) (v:V) (u:Value) (Q:St->Hp->Prop),Inv X pins σ H s->RelV v u->t v σ H Q →
  wpAny (model X.prog X.w) X.A (assign target X.env u) (λ_ s'=>∃σ' H',Inv X pins σ' H' s'/\Q σ' H') X.xe s
def Ec (X:Cx) (ts:List Expr) (t:zU):Prop :=
 ∀(pins:List (Addr×Obj)) (s:Shared) (σ:St) (H:Hp) (vs:List V) (us:List Value) (Q:St->Hp->Prop),Inv X pins σ H s->b6 vs us->t vs σ H Q →
  wpAny (model X.prog X.w) X.A (assignInOrder ((assignEach ts X.env).map (·.2)) us) (λ_ s'=>∃σ' H',Inv X pins σ' H' s'/\Q σ' H') X.xe s
abbrev wb:=V->V->V->Hp->(Hp->Prop)->Prop
def C5 (X:Cx) (t:wb):Prop :=
 ∀(pins:List (Addr×Obj)) (s:Shared) (σ:St) (H:Hp) (o i v:V) (ov iv u:Value) (Q:Hp->Prop),Inv X pins σ H s->RelV o ov->RelV i iv->RelV v u->t o i v H Q →
  wpAny (model X.prog X.w) X.A (setItem ov iv u) (λ_ s'=>∃H',Inv X pins σ H' s'/\Q H') X.xe s
abbrev Ea:=V->V->Hp->VK->Prop
def PIp (X:Cx) (op:Operator) (t:Ea):Prop :=
 ∀(pins:List (Addr×Obj)) (s:Shared) (σ:St) (H:Hp) (x y:V) (v u:Value) (Q:VK),Inv X pins σ H s->RelV x v->RelV y u->t x y H Q →
  wpAny (model X.prog X.w) X.A (inplaceOp op v u) (EP X pins σ Q) X.xe s
section
variable {X:Cx} {pos:Pos}
def xj (i:Nat):TG:=λv σ H Q=>Q (σ.set i (some v)) H
theorem bg {i:Nat} {x:Str} (hN:X.N.Nodup) (hi:X.N[i]?=some x:=by exact rfl) (hx:Loc X.env.scope x:=by exact Or.inl rfl) (hf:X.fn x=true\/X.env.scope.names.lookup x=some .local:=by first | exact .inl rfl | exact .inr rfl | assumption):PG X (.Name x pos) (xj i):=by
 intro pins s σ H v u Q I r h;exact wpAny_assign_Name (nC I hN hi hx r (λs' I'=>⟨_,H,I',h⟩) hf)
def D7:zU:=λvs σ H Q=>vs=[]/\Q σ H
def BD (t:TG) (u:zU):zU:=λvs σ H Q=>∃v r,vs=v :: r/\t v σ H λσ' H'=>u r σ' H' Q
theorem j0:Ec X [] D7:=by
 intro pins s σ H vs us Q I r h;obtain ⟨e,h⟩:=h;subst e;cases r;exact assignInOrder_nil ⟨σ,H,I,h⟩
theorem dg {e:Expr} {es:List Expr} {t:TG} {u:zU} (h1:PG X e t) (h2:Ec X es u)
  (hs:(assignEach (e :: es) X.env).map (·.2)=assign e X.env :: (assignEach es X.env).map (·.2):=by rfl):Ec X (e :: es) (BD t u):=by
 intro pins s σ H vs us Q I r h;obtain ⟨v,vr,e1,h⟩:=h;subst e1;cases r with
 | cons r rr =>
  rw[hs];refine assignInOrder_cons (fe (h1 pins s σ H _ _ _ I r h) λ_ s1 ⟨σ1,H1,I1,q1⟩=>?_);exact h2 pins s1 σ1 H1 _ _ Q I1 rr q1
def CT (K:FG9) (n:Nat) (t:zU):TG:=λv σ H Q=>∃a xs,v=.ref a/\oo K H a xs/\xs.length=n/\t xs σ H Q
theorem tN {es:List Expr} {k:Nat} {t:zU} {n:Nat} (hc:X.calm=true) (h:Ec X es t)
  (hn:(assignEach es X.env).length=n:=by rfl) (hst:(assignEach es X.env).findIdx? (·.1)=none:=by rfl):PG X (.Tuple es k pos) (CT X.K n t):=by
 intro pins s σ H v u Q I r hw;obtain ⟨a,xs,e1,hq,hl,hw⟩:=hw;subst e1;cases r;obtain ⟨its,rv,ht,hz⟩:=I.tuple hq;refine assign_Tuple_tuple (I.ok.hd hc) ht (by simp [hn,<- hl,rv.length]) hst λh' hx=>?_
 have I1:Inv X pins σ H { s with heap:=h' }:=I.kept (t':=s.toks) λb o e=>hx b o (bW (Heap.lt_size e)) e
 exact h pins _ σ H xs _ Q I1 (by simpa using rv) hw
def D6 (to ti:TE) (t:wb):TG:=λv σ H Q=>to σ H λo H1=>ti σ H1 λi H2=>t o i v H2 λH3=>Q σ H3
theorem j3 {o i : Expr} {to ti : TE} {t : wb} (ho : PE X o to) (hi : PE X i ti) (hs : C5 X t)
    (ha : ∀ v, assign (.Subscript o i pos) X.env v = (do
      let ov <- holding [v] (eval o X.env)
      let iv <- holding [v, ov] (eval i X.env)
      standAt pos
      holding [v, ov, iv] (setItem ov iv v)
      release [v, ov, iv] []) := by intro _; rfl) : PG X (.Subscript o i pos) (D6 to ti t) := by
  intro pins s σ H v u Q I r h;rw [ha];refine wpAny_bind (wpAny_holding (fe (ho pins s σ H _ I h) λov s1 ⟨x, H1, I1, r1, q1⟩ => ?_));refine wpAny_bind (wpAny_holding (fe (hi pins s1 σ H1 _ I1 q1) λiv s2 ⟨y, H2, I2, r2, q2⟩ => ?_));refine wpAny_bind (wpAny_standAt (wpAny_bind (wpAny_holding (fe (hs pins s2 σ H2 x y v ov iv u _ I2 r1 r2 r q2) λ_ s3 ⟨H3, I3, q3⟩ => ?_))));exact wpAny_release ⟨σ, H3, I3, q3⟩
def z5 (te:TE) (g:TG):TS:=λD σ H=>te σ H λx H1=>g x σ H1 D.nx
theorem jD {tg e:Expr} {te:TE} {g:TG} (he:PE X e te) (hg:PG X tg g) (hs:swapsWithSole [tg] e pos.line X.env=pure false:=by rfl) (hw:swappedStores [tg] e X.env=pure none:=by rfl)
  (h1:(assignEach [tg] X.env).map (·.2)=[assign tg X.env]:=by rfl):PS X (.Assign [tg] e pos) (z5 te g):=by
 intro pins s σ H D I h;refine wpAny_Assign_stores (fe (he pins s σ H _ I h) λv s1 ⟨x,H1,I1,r1,q1⟩=>?_) hs hw;rw[h1];exact fe (hg pins s1 σ H1 x v _ I1 r1 q1) λ_ s2 q=>q
theorem aT {i:Nat} {x:Str} {e:Expr} {te:TE} {pos':Pos} (hN:X.N.Nodup) (hi:X.N[i]?=some x) (hx:Loc X.env.scope x) (he:PE X e te) (hs:swapsWith e (some (.Name x pos')) pos.line X.env=pure false:=by rfl) (hf:X.fn x=true\/X.env.scope.names.lookup x=some .local:=by first | exact .inl rfl | exact .inr rfl | assumption) :
  PS X (.Assign [.Name x pos'] e pos) (z5 te (xj i)):=by
 intro pins s σ H D I h;refine wpAny_Assign_Name (fe (he pins s σ H _ I h) λv s1 ⟨y,H1,I1,r1,q1⟩=>?_) hs;exact nC I1 hN hi hx r1 (λs2 I2=>⟨_,H1,I2,q1⟩) hf
def Dn (i j:Nat) (ta:TA):TS:=λD σ H=>ta σ H λvs H1=>∃v w,vs=[v,w]/\D.nx ((σ.set i (some v)).set j (some w)) H1
theorem Cy {i j : Nat} {x y : Str} {a b : Expr} {ta : TA} {px py pt : Pos} {kt k2 pt2} (hc : X.calm = true) (hN : X.N.Nodup) (hi : X.N[i]? = some x) (hj : X.N[j]? = some y) (hij : i ≠ j)
    (hx : X.env.scope.names.lookup x = some .local) (hy : X.env.scope.names.lookup y = some .local) (ha : PA X [a, b] ta)
    (hw : swappedStores [.Tuple [.Name x px, .Name y py] kt pt] (.Tuple [a, b] k2 pt2) X.env = pure (some [x, y]))
    (hs : swapsWithSole [.Tuple [.Name x px, .Name y py] kt pt] (.Tuple [a, b] k2 pt2) pos.line X.env = pure false := by rfl) :
    PS X (.Assign [.Tuple [.Name x px, .Name y py] kt pt] (.Tuple [a, b] k2 pt2) pos) (Dn i j ta) := by
  intro pins s σ H D I h;rw [exec_Assign_arm];refine wpAny_bind (wpAny_standAt ?_);rw [hs];refine wpAny_bind (wpAny_pure ?_);rw [if_neg (by decide)];refine wpAny_bind (Tuple_ (fe (ha _ pins s σ H _ I h) λus s1 ⟨vs, H1, I1, r1, q1⟩ => ?_));obtain ⟨v, w, e1, q1⟩ := q1;subst e1
  obtain ⟨u1, u2, rfl, rv, rw'⟩ : ∃ u1 u2, us = [u1, u2] /\ RelV v u1 /\ RelV w u2 := by
    cases r1 with
    | cons p q =>
      cases q with
      | cons p' q' =>
        cases q';exact ⟨_, _, rfl, p, p'⟩
  refine wpAny_newObj_type ?_ (by show 2 ≤ sizeLine; decide);have I2 : Inv X pins σ H1 { s1 with heap := s1.heap.push { cls := .type "tuple", data := .seq [u1, u2].toArray } } := I1.kept (t' := s1.toks) λb o e => Heap.get?_push_of_some _ e
  rw [hw];refine wpAny_bind (wpAny_pure ?_);show wpAny (model X.prog X.w) X.A (do rule "assign.swapped-stores"; let items <- unpackItems (.ref s1.heap.objs.size) 2 none; assignInOrder [λv => bindName X.env y v, λv => bindName X.env x v] items.reverse; pure Flow.next) _ _ _
  refine wpAny_bind (wpAny_rule (wpAny_bind (unpackItems_tuple (items := #[u1, u2]) (I.ok.hd hc) (IsTup.new s1.heap _) λh' hx' => ?_)));have I3 := I2.kept (h' := h') (t' := s1.toks) λb o e => hx' b o (bW (Heap.lt_size e)) e
  show wpAny _ _ (assignInOrder [λv => bindName X.env y v, λv => bindName X.env x v] [u2, u1] >>= λ_ => pure Flow.next) _ _ _
  refine wpAny_bind (assignInOrder_cons (wpAny_bindName (nC I3 hN hj (.inl hy) rw' (λs2 I4 => ?_) (.inr hy))));refine assignInOrder_cons (wpAny_bindName (nC I4 hN hi (.inl hx) rv (λs3 I5 => assignInOrder_nil (wpAny_pure ?_)) (.inr hx)));rw [List.set_comm _ _ (Ne.symm hij)] at I5;exact ⟨_, H1, I5, q1⟩
def Bn (to ti te:TE) (tget:V->V->Hp->VK->Prop) (tip:Ea) (tset:wb):TS:=λD σ H=>to σ H λo H1=>ti σ H1 λi H2=>tget o i H2 λx H3=>te σ H3 λy H4=>tip x y H4 λz H5=>tset o i z H5 λH6=>D.nx σ H6
def Ed (X:Cx) (t:V->V->Hp->VK->Prop):Prop :=
 ∀(pins:List (Addr×Obj)) (s:Shared) (σ:St) (H:Hp) (o i:V) (ov iv:Value) (Q:VK),Inv X pins σ H s->RelV o ov->RelV i iv->t o i H Q →
  wpAny (model X.prog X.w) X.A (getItem ov iv) (EP X pins σ Q) X.xe s
theorem Az {o i e : Expr} {to ti te : TE} {tget : V → V → Hp → VK → Prop} {tip : Ea} {tset : wb} {op : Operator} {tpos : Pos} (ho : PE X o to) (hi : PE X i ti) (hg : Ed X tget) (he : PE X e te) (hp : PIp X op tip) (hs : C5 X tset)
    (ha : ∀ ov iv new, augStore i ov iv new = (do holding [new, ov, iv] (setItem ov iv new); release [new, ov, iv] []; pure .next) := by intros; rfl) : PS X (.AugAssign (.Subscript o i tpos) op e pos) (Bn to ti te tget tip tset) := by
  intro pins s σ H D I h;refine wpAny_AugAssign_SubscriptAny (fe (ho pins s σ H _ I h) λov s1 ⟨x1, H1, I1, r1, q1⟩ => ?_) ha;refine fe (hi pins s1 σ H1 _ I1 q1) λiv s2 ⟨x2, H2, I2, r2, q2⟩ => ?_
  refine fe (hg pins s2 σ H2 x1 x2 ov iv _ I2 r1 r2 q2) λold s3 ⟨x3, H3, I3, r3, q3⟩ => ?_
  refine fe (he pins s3 σ H3 _ I3 q3) λv s4 ⟨x4, H4, I4, r4, q4⟩ => ?_
  refine fe (hp pins s4 σ H4 x3 x4 old v _ I4 r3 r4 q4) λnew s5 ⟨x5, H5, I5, r5, q5⟩ => ?_
  exact fe (hs pins s5 σ H5 x1 x2 x5 ov iv new _ I5 r1 r2 r5 q5) λ_ s6 ⟨H6, I6, q6⟩ => ⟨σ, H6, I6, q6⟩
def ipI (f:Int->Int->Int):Ea:=λx y H Q=>∃i j,x=.int i/\y=.int j/\Q (.int (f i j)) H
theorem CL:PIp X .Add (ipI λi j=>i+j):=by
 intro pins s σ H x y v u Q I r1 r2 h;obtain ⟨i,j,e1,e2,q⟩:=h;subst e1;subst e2;obtain ⟨t,rfl⟩:=r1;obtain ⟨t',rfl⟩:=r2;exact iadd_int ⟨.int _,H,I.tok _,⟨_,rfl⟩,q⟩
end
section
variable {X:Cx} {pos:Pos}
def yp (c:TT) (tb:TS):TS:=λD σ H=>∃W:Nat->St->Hp->Prop,(∃m,W m σ H)/\∀m σ H,W m σ H →
 c σ H λb H1=>if b=true then ∃N:St->Hp->Prop,(∀σ' H',N σ' H'->∃m',m' < m/\W m' σ' H')/\tb { D with nx:=N,ct:=N,bk:=D.nx } σ H1 else D.nx σ H1
theorem uY {c:Expr} {body:List Stmt} {tc:TT} {tb:TS} (hp:PassesOwn (model X.prog X.w) X.A X.env X.xe) (hc:PT X c tc) (hb:wd X body tb):PS X (.While c body [] pos) (yp tc tb):=by
 intro pins s σ H D I h;obtain ⟨W,⟨m0,w0⟩,turn⟩:=h;refine wpAny_While (codeAny_whileLoop (λn s'=>∃σ' H',Inv X pins σ' H' s'/\W n σ' H') ?_ m0 ⟨σ,H,I,w0⟩);rintro n s1 ⟨σ1,H1,I1,w1⟩;refine wpAny_passesOwn hp (fe (hc pins s1 σ1 H1 _ I1 (turn n σ1 H1 w1)) λb s2 ⟨H2,I2,q2⟩=>?_);cases b with
 | true =>
  obtain ⟨N,hN,q2⟩:=q2;rw[if_pos rfl];refine wpAny_passesOwn hp (fe (hb pins s2 σ1 H2 _ I2 q2) λf s3 q3=>?_);cases f with
  | next =>
   obtain ⟨σ3,H3,I3,n3⟩:=q3;obtain ⟨m',hm,w3⟩:=hN σ3 H3 n3;exact ⟨m',hm,σ3,H3,I3,w3⟩
  | cont =>
   obtain ⟨σ3,H3,I3,n3⟩:=q3;obtain ⟨m',hm,w3⟩:=hN σ3 H3 n3;exact ⟨m',hm,σ3,H3,I3,w3⟩
  | brk=>exact q3
  | ret v=>exact q3
 | false =>
  rw[if_neg aE];exact wpAny_execs_nil ⟨σ1,H2,I2,q2⟩
end
structure It where
 go:Nat->Hp->Prop
 yld:Nat->Hp->V->Hp->Prop
 stop:Nat->Hp->Prop
def kR (X:Cx) (pins:List (Addr×Obj)) (H:Hp) (b:Addr):Prop :=
 H b=none/\b≠X.env.locals/\b∉X.fs/\(b∈X.ex\/X.s₀.heap.objs.size<=b)/\(∀x c,X.env.cells.lookup x=some c->c≠b)/\∀p∈X.pn++pins,p.1≠b
theorem Inv.fpOk {X:Cx} {pins:List (Addr×Obj)} {σ:St} {H H':Hp} {s:Shared} {b:Addr} (I:Inv X pins σ H s) (hb:s.heap.objs.size<=b) (hn:H' b=none):kR X pins H' b:=by
 refine ⟨hn,xB (aM I.lt hb),I.nofs hb,.inr (ag I.sz hb),λx c e z=>?_,λp hp z=>?_⟩
 ·obtain ⟨v,q⟩:=I.cell x c e;exact absurd (aM q.lt (by rw[z];exact hb)) (cZ _)
 ·exact absurd (aM (Heap.lt_size (I.pin p hp).1) (by rw[z];exact hb)) (cZ _)
structure Turn (P:Program) (w:World) (K:FG9) (tg:Expr) (J:It) (fp:List Addr) (it:Addr) (tn:Nat->Heap->Prop):Prop where
 mem:it∈fp
 obj:∀i h,tn i h->∀b∈fp,∃o,h.get? b=some o/\∀v,o.data≠.cell v
 keep:∀i h h',tn i h->(∀b∈fp,∀o,h.get? b=some o->h'.get? b=some o)->tn i h'
 item:∀(X:Cx),X.prog=P->X.w=w->X.K=K->X.calm=true->∀(i:Nat) (pins:List (Addr×Obj)) (s:Shared) (σ:St) (H:Hp) (E:Value->Shared->Prop),Inv X pins σ H s->(∀b∈fp,kR X pins H b)->tn i s.heap->J.go i H →
  wpAny (model P w) X.A (pyNext (.ref it)) (λr s1=>∃u,r=some u /\
   wpAny (model P w) X.A (letOwnedTupleGo tg (.ref it) u) (λ_ s2=>∃x H',Inv X pins σ H' s2/\RelV x u/\J.yld i H x H'/\tn (i+1) s2.heap/\∀b∈fp,H' b=none) E s1) E s
 done:∀(X:Cx),X.prog=P->X.w=w->X.K=K->X.calm=true->∀(i:Nat) (pins:List (Addr×Obj)) (s:Shared) (σ:St) (H:Hp) (E:Value->Shared->Prop),Inv X pins σ H s->(∀b∈fp,kR X pins H b)->tn i s.heap->J.stop i H →
  wpAny (model P w) X.A (pyNext (.ref it)) (λr s1=>r=none/\Inv X pins σ H s1) E s
 self:∀(A:Around) (i:Nat) (s:Shared) (Q:Value->Shared->Prop) (E:Value->Shared->Prop),tn i s.heap->Q (.ref it) s->wpAny (model P w) A (pyIter (.ref it)) Q E s
abbrev TI:=St->Hp->(It->Hp->Prop)->Prop
def PIE (X:Cx) (pins:List (Addr×Obj)) (σ:St) (tg:Expr) (R:It->Hp->Prop) (itv:Value) (s2:Shared):Prop :=
 ∃(it:Addr) (fp:List Addr) (tn:Nat->Heap->Prop) (J:It) (H':Hp),itv=.ref it/\Inv X pins σ H' s2/\Turn X.prog X.w X.K tg J fp it tn/\tn 0 s2.heap/\(∀b∈fp,kR X pins H' b)/\R J H'
def PI (X:Cx) (tg iter:Expr) (wi:TI):Prop :=
 ∀(pins:List (Addr×Obj)) (s:Shared) (σ:St) (H:Hp) (R:It->Hp->Prop),Inv X pins σ H s->wi σ H R →
  wpAny (model X.prog X.w) X.A (eval iter X.env) (λv s1=>wpAny (model X.prog X.w) X.A (pyIter v) (PIE X pins σ tg R) X.xe s1) X.xe s
theorem BC {M : Model} {A : Around} {E : Value → Shared → Prop} {s : Shared} {tg : Expr} {it : Addr} {u : Value} {o : Obj} {n : String} {vs : Array Value} {Q : Unit → Shared → Prop} (ho : s.heap.get? it = some o) (hc : o.cls = .type n) (hd : o.data = .fields vs)
    (hn : ["enumerate", "zip", "dict_itemiterator", "dict_reverseitemiterator", "odict_iterator", "itertools.zip_longest", "itertools.pairwise"].contains n = false) (hQ : Q () s) : wpAny M A (letOwnedTupleGo tg (.ref it) u) Q E s := by
  unfold letOwnedTupleGo
  cases tg <;> first
    | exact wpAny_pure hQ
    | (cases u <;> first
        | exact wpAny_pure hQ
        | (refine wpAny_bind (wpAny_load ho ?_)
           rw [hc, hd];show wpAny M A (if (["enumerate", "zip", "dict_itemiterator", "dict_reverseitemiterator", "odict_iterator", "itertools.zip_longest", "itertools.pairwise"].contains n && vs[0]? == some (rawInt _)) = true then _ else _) Q E s
           rw [if_neg (by intro h; rw [hn, Bool.false_and] at h; cases h)];exact wpAny_pure hQ))

def BG (K:FG9) (a:Addr):It :=
 ⟨λi H=>∃xs x,bT K H a xs/\xs[i]?=some x,λi H x H'=>H'=H/\∀xs,bT K H a xs->xs[i]?=some x,λi H=>∃xs,bT K H a xs/\xs.length<=i⟩
def we (lo:Int) (n:Nat):It:=⟨λi _=>i < n,λi H x H'=>H'=H/\x=.int (lo+i),λi _=>n<=i⟩
theorem xG {P:Program} {w:World} {K:FG9} {tg:Expr} (a it:Addr):Turn P w K tg (BG K a) [it] it (λi h=>h.IsListIter it a i) where
 mem:=by simp
 obj:=λi h st b hb=>by
  have e:b=it:=by simpa using hb
  subst e;obtain ⟨o,e,c,d⟩:=st;exact ⟨o,e,λv z=>by rw[d] at z;cases z⟩
 keep:=λi h h' st k=>st.at λo e=>k it (by simp) o e
 item:=by
  intro X hP hw hK hc i pins s σ H E I hf st hg;subst hP hw hK;obtain ⟨xs,x,hq,hx⟩:=hg;obtain ⟨its,rv,p,hz⟩:=I.list hq;obtain ⟨u,hu,ru⟩:=rv.get hx;obtain ⟨f0,f1,f2,f3,f4,f5⟩:=hf it (by simp);refine wpAny_pyNext_list_item st p.isList (x:=u) (by simpa using hu) λh' st' sb=>?_
  have I1:Inv X pins σ H { s with heap:=h' }:=I.turned (t':=s.toks) (λb o hb e=>(sb.2 b hb).trans e) f0 f1 f3 f4 f5;obtain ⟨o,e,c,d⟩:=id st';exact ⟨u,rfl,BC (s:={ s with heap:=h' }) e c d (by decide) ⟨x,H,I1,ru,⟨rfl,λys hy=>by rw[I.list_inj hy hq];exact hx⟩,st',λb hb=>(hf b hb).1⟩⟩
 done:=by
  intro X hP hw hK hc i pins s σ H E I hf st hg;subst hP hw hK;obtain ⟨xs,hq,hx⟩:=hg;obtain ⟨its,rv,p,hz⟩:=I.list hq;obtain ⟨f0,f1,f2,f3,f4,f5⟩:=hf it (by simp);have hl:=rv.length;exact wpAny_pyNext_list_end (I.ok.hd hc) st p.isList (by simp;lia) λh' eb=>⟨rfl,I.turned (t':=s.toks) (λb o hb e=>eb b o hb e) f0 f1 f3 f4 f5⟩
 self:=λ_ _ _ _ _ st h=>wpAny_pyIter_listiter st h
theorem vJ {P:Program} {w:World} {K:FG9} {tg:Expr} (it:Addr) (lo:Int) (n:Nat):Turn P w K tg (we lo n) [it] it (λi h=>IsRangeIter h it (lo+(i:Nat)*1) ((n:Int) - (i:Nat)) 1) where
 mem:=by simp
 obj:=λi h st b hb=>by
  have e:b=it:=by simpa using hb
  subst e
  exact ⟨_,st,λv z=>by
   have z':Data.fields _=Data.cell v:=z;cases z'⟩
 keep:=λi h h' st k=>k it (by simp) _ st
 item:=by
  intro X hP hw hK hc i pins s σ H E I hf st hg;subst hP hw hK;obtain ⟨f0,f1,f2,f3,f4,f5⟩:=hf it (by simp);have W:=Walks.range (prog:=X.prog) (w:=X.w) (I.ok.hd hc) it lo 1 n;refine W.item i s _ _ hg st λv h' tk hv st' kk=>?_
  obtain ⟨t,rfl⟩:=hv;have I1:Inv X pins σ H { s with heap:=h',toks:=tk }:=I.turned (λb o hb e=>kk b o (by simpa using hb) e) f0 f1 f3 f4 f5;refine ⟨_,rfl,BC (s:={ s with heap:=h',toks:=tk }) (n:="range_iterator") st' rfl rfl (by decide) ⟨.int (lo+i),H,I1,⟨t,?_⟩,⟨rfl,rfl⟩,st',λb hb=>(hf b hb).1⟩⟩;rw[Int.mul_one]
 done:=by
  intro X hP hw hK hc i pins s σ H E I hf st hg;subst hP hw hK;obtain ⟨f0,f1,f2,f3,f4,f5⟩:=hf it (by simp);exact wpAny_pyNext_range_end (I.ok.hd hc) st (by have:n<=i:=hg;lia) λh' eb=>⟨rfl,I.turned (t':=s.toks) (λb o hb e=>eb b o hb e) f0 f1 f3 f4 f5⟩
 self:=λ_ _ _ _ _ st h=>wpAny_pyIter_rangeiter st h
section
variable {X:Cx} {tg:Expr}
def zf (K:FG9) (tl:TE):TI:=λσ H R=>tl σ H λx H1=>∃a,x=.ref a/\(∃xs,bT K H1 a xs)/\R (BG K a) H1
theorem dC {l:Expr} {tl:TE} (hl:PE X l tl):PI X tg l (zf X.K tl):=by
 intro pins s σ H R I h;refine fe (hl pins s σ H _ I h) λv s1 ⟨x,H1,I1,r1,q1⟩=>?_
 obtain ⟨a,e,⟨xs,hq⟩,q⟩:=q1;subst e;cases r1;obtain ⟨its,rv,p,hz⟩:=I1.list hq;refine wpAny_pyIter_list p.isList ?_;refine ⟨s1.heap.objs.size,[s1.heap.objs.size],_,_,H1,rfl,I1.kept (t':=s1.toks) λb o e=>Heap.get?_push_of_some _ e,xG a _,⟨_,Heap.get?_push_size _ rfl,rfl,rfl⟩,λb hb=>?_,q⟩;have e:b=s1.heap.objs.size:=by simpa using hb
 subst e;exact I1.fpOk (aj _) (I1.hok.fresh (aj _))
theorem uW {pins:List (Addr×Obj)} {σ:St} {H:Hp} {s:Shared} {R:It->Hp->Prop} {E:Value->Shared->Prop} {lo hi:Int} {t u v:Tok} {tk:Nat} (I:Inv X pins σ H s) (h1:-(2^62)<=lo) (h2:lo < 2^62) (h3:-(2^62)<=hi) (h4:hi < 2^62)
  (q:R (we lo (hi - lo).toNat) H):wpAny (model X.prog X.w) X.A (pyIter (.ref s.heap.objs.size)) (PIE X pins σ tg R) E { s with heap:=s.heap.push { cls:=.type "range",data:=.fields #[.int lo t,.int hi u,.int 1 v] },toks:=tk }:=by
 refine wpAny_pyIter_range (IsRange.new ..) (small_one h1 h2 h3 h4) ?_;have I1:Inv X pins σ H { s with heap:=s.heap.push { cls:=.type "range",data:=.fields #[.int lo t,.int hi u,.int 1 v] },toks:=tk }:=I.kept λb o e=>Heap.get?_push_of_some _ e
 refine ⟨(s.heap.push { cls:=.type "range",data:=.fields #[.int lo t,.int hi u,.int 1 v] }).objs.size,[(s.heap.push { cls:=.type "range",data:=.fields #[.int lo t,.int hi u,.int 1 v] }).objs.size],_,_,H,rfl,
  I1.kept (t':=tk) λb o e=>Heap.get?_push_of_some _ e,vJ _ lo (hi - lo).toNat,?_,λb hb=>?_,q⟩
 ·have e1:lo+((0:Nat):Int)*1=lo:=by simp
  have e2:(((hi - lo).toNat:Nat):Int) - ((0:Nat):Int)=Builtin.Range.rangeSize lo hi 1:=by rw[rangeSize_one];split <;> lia
  show IsRangeIter _ _ (lo+((0:Nat):Int)*1) ((((hi - lo).toNat:Nat):Int) - ((0:Nat):Int)) 1
  rw[e1,e2];exact Heap.get?_push_size _ rfl
 ·have e:b=(s.heap.push { cls:=.type "range",data:=.fields #[.int lo t,.int hi u,.int 1 v] }).objs.size:=by simpa using hb
  subst e;exact I1.fpOk (aj _) (I1.hok.fresh (aj _))
def Bx (ta:TA):TI:=λσ H R=>ta σ H λvs H1=>∃j:Int,vs=[.int j]/\-(2^62)<=j/\j < 2^62/\R (we 0 j.toNat) H1
def Bw (ta:TA):TI:=λσ H R=>ta σ H λvs H1=>∃i j:Int,vs=[.int i,.int j]/\(-(2^62)<=i/\i < 2^62/\-(2^62)<=j/\j < 2^62)/\R (we i (j - i).toNat) H1
theorem eV {a:Expr} {ta:TA} {p pos:Pos} (hg:Gl X "range") (hm:X.mg "range"=none) (ha:PA X [a] ta) (hs:starEach [a] X.env=[(false,eval a X.env)]:=by rfl):PI X tg (.Call (.Name "range" p) [a] [] pos) (Bx ta):=by
 intro pins s σ H R I h;refine Call_ (oP I hg hm boot_range (PyProof.Rows.callWith_type1 (fe (ha pos pins s σ H _ I h) λus s1 ⟨vs,H1,I1,r1,q1⟩=>?_) hs rfl));obtain ⟨j,e,q1,q2,q⟩:=q1;subst e;cases r1 with
 | cons r rr =>
  cases rr;obtain ⟨t,rfl⟩:=r;exact call_range_1 (uW I1 (by lia) (by lia) q1 q2 (by simpa using q))
theorem xS {a b:Expr} {ta:TA} {p pos:Pos} (hg:Gl X "range") (hm:X.mg "range"=none) (ha:PA X [a,b] ta) (hs:starEach [a,b] X.env=[(false,eval a X.env),(false,eval b X.env)]:=by rfl) (hs2:starEach [b] X.env=[(false,eval b X.env)]:=by rfl) :
  PI X tg (.Call (.Name "range" p) [a,b] [] pos) (Bw ta):=by
 intro pins s σ H R I h;refine Call_ (oP I hg hm boot_range (PyProof.Rows.callWith_type1 (fe (ha pos pins s σ H _ I h) λus s1 ⟨vs,H1,I1,r1,q1⟩=>?_) (by rw[hs,hs2]) (by rw[hs2];rfl)));obtain ⟨i,j,e,⟨q1,q2,q3,q4⟩,q⟩:=q1;subst e;cases r1 with
 | cons r rr =>
  cases rr with
  | cons r' rr =>
   cases rr;obtain ⟨t,rfl⟩:=r;obtain ⟨t',rfl⟩:=r';exact call_range_2 (uW I1 q1 q2 q3 q4 q)
def Dv (wi:TI) (g:TG) (tb:TS):TS:=λD σ H=>wi σ H λJ H1=>∃W:Nat->Nat->St->Hp->Prop,(∃m,W 0 m σ H1)/\∀i m σ H,W i m σ H →
 (J.stop i H/\D.nx σ H)\/(J.go i H/\∃N:St->Hp->Prop,(∀σ' H',N σ' H'->∃m',m' < m/\W (i+1) m' σ' H')/\∀x H',J.yld i H x H'->g x σ H' λσ2 H2=>tb { D with nx:=N,ct:=N,bk:=D.nx } σ2 H2)
def qJ (fp:List Addr) (h:Heap):List (Addr×Obj):=fp.filterMap λb=>(h.get? b).map λo=>(b,o)
theorem kb {fp:List Addr} {h:Heap} {b:Addr} {o:Obj} (hb:b∈fp) (e:h.get? b=some o):(b,o)∈qJ fp h:=List.mem_filterMap.mpr ⟨b,hb,by rw[e];rfl⟩
theorem xV {fp:List Addr} {h:Heap} {p:Addr×Obj} (hp:p∈qJ fp h):p.1∈fp/\h.get? p.1=some p.2:=by
 obtain ⟨b,hb,e⟩:=List.mem_filterMap.mp hp;cases q:h.get? b with
 | none=>rw[q] at e;cases e
 | some o =>
  rw[q] at e;have e':(b,o)=p:=bh e;subst e';exact ⟨hb,q⟩
theorem Inv.pinned {pins:List (Addr×Obj)} {σ:St} {H:Hp} {s:Shared} {fp:List Addr} (I:Inv X pins σ H s) (hf:∀b∈fp,kR X pins H b) (ho:∀b∈fp,∃o,s.heap.get? b=some o/\∀v,o.data≠.cell v):Inv X (pins++qJ fp s.heap) σ H s :=
 I.pins_of λp hp=>(aK.mp hp).elim (λz=>I.pin p (aZ _ z)) λz=>by
  obtain ⟨hb,e⟩:=xV z;obtain ⟨f0,f1,f2,_⟩:=hf p.1 hb;obtain ⟨o,e',d⟩:=ho p.1 hb;rw[e] at e';cases e';exact ⟨e,f0,f1,f2,d⟩
theorem Inv.unpinned {pins pl:List (Addr×Obj)} {σ:St} {H:Hp} {s:Shared} (I:Inv X (pins++pl) σ H s):Inv X pins σ H s:=I.pins_of λp hp=>I.pin p (aZ _ (kN _ hp))
theorem jZ {iter : Expr} {body : List Stmt} {wi : TI} {g : TG} {tb : TS} {pos : Pos} (hp : PassesOwn (model X.prog X.w) X.A X.env X.xe) (hc : X.calm = true) (hi : PI X tg iter wi) (hg : PG X tg g) (hb : wd X body tb)
    (hs : ∀ x, foldedSetIterable iter X.env x = pure x := by intro _; rfl) : PS X (.For tg iter body [] pos) (Dv wi g tb) := by
  intro pins s σ H D I h;refine wpAny_For (fe (hi pins s σ H _ I h) λv s1 h1 => fe h1 λitv s2 h2 => ?_) hs;obtain ⟨it, fp, tn, J, H2, e, I2, T, st2, f2, W, ⟨m0, w0⟩, turn⟩ := h2;subst e;have stat : ∀ {H' : Hp}, (∀ b ∈ fp, H' b = none) → ∀ b ∈ fp, kR X pins H' b := λhn b hb => ⟨hn b hb, (f2 b hb).2⟩
  refine codeAny_forLoop_any (λn s' => ∃ i σ' H', Inv X pins σ' H' s' /\ tn i s'.heap /\ (∀ b ∈ fp, H' b = none) /\ W i n σ' H') ?_ m0 ⟨0, σ, H2, I2, st2, λb hb => (f2 b hb).1, w0⟩;rintro n s3 ⟨i, σ3, H3, I3, st3, fr3, w3⟩;rcases turn i n σ3 H3 w3 with ⟨stop, qn⟩ | ⟨go, N, hN, step⟩
  · refine wpAny_passesOwn hp (fe (T.done X rfl rfl rfl hc i pins s3 σ3 H3 X.xe I3 (stat fr3) st3 stop) λr s4 ⟨hr, I4⟩ => ?_);subst hr;exact wpAny_execs_nil ⟨σ3, H3, I4, qn⟩
  · refine wpAny_passesOwn hp (fe (T.item X rfl rfl rfl hc i pins s3 σ3 H3 X.xe I3 (stat fr3) st3 go) λr s4 ⟨u, hr, h4⟩ => ?_);subst hr;refine wpAny_passesOwn hp (fe h4 λ_ s5 ⟨x, H5, I5, r5, y5, st5, fr5⟩ => ?_);have I5' := I5.pinned (stat fr5) (T.obj _ _ st5);refine wpAny_passesOwn hp (fe (hg _ s5 σ3 H5 x u _ I5' r5 (step x H5 y5)) λ_ s6 ⟨σ6, H6, I6, q6⟩ => ?_);refine wpAny_passesOwn hp (fe (hb _ s6 σ6 H6 _ I6 q6) λf s7 q7 => ?_)
    have again : ∀ {σ7 : St} {H7 : Hp}, Inv X (pins ++ qJ fp s5.heap) σ7 H7 s7 → N σ7 H7 → ∃ m, m < n /\ ∃ i σ' H', Inv X pins σ' H' s7 /\ tn i s7.heap /\ (∀ b ∈ fp, H' b = none) /\ W i m σ' H' := λ{σ7 H7} I7 n7 => by
      obtain ⟨m', hm, w7⟩ := hN σ7 H7 n7;refine ⟨m', hm, i + 1, σ7, H7, I7.unpinned, T.keep _ _ _ st5 λb hb o e => (I7.pin (b, o) (aZ _ (aZ _ (kb hb e)))).1, λb hb => ?_, w7⟩;obtain ⟨o, e, d⟩ := T.obj _ _ st5 b hb;exact (I7.pin (b, o) (aZ _ (aZ _ (kb hb e)))).2.1
    cases f with
    | next => obtain ⟨σ7, H7, I7, n7⟩ := q7; exact again I7 n7
    | cont => obtain ⟨σ7, H7, I7, n7⟩ := q7; exact again I7 n7
    | brk => obtain ⟨σ7, H7, I7, q7⟩ := q7; exact ⟨σ7, H7, I7.unpinned, q7⟩
    | ret v => obtain ⟨x7, σ7, H7, I7, r7, q7⟩ := q7; exact ⟨x7, σ7, H7, I7.unpinned, r7, q7⟩
end
theorem qZ {K:FG9} {a:Addr} {xs:List V} {g:TG} {tb:TS} {D:Ends} {σ:St} {H:Hp} (Pv:Nat->St->Hp->Prop) (h0:Pv 0 σ H) (hl:∀i σ H,i<=xs.length->Pv i σ H->bT K H a xs)
  (hs:∀i x σ H,xs[i]?=some x->Pv i σ H->g x σ H λσ2 H2=>tb { D with nx:=Pv (i+1),ct:=Pv (i+1),bk:=D.nx } σ2 H2) (hd:∀σ H,Pv xs.length σ H->D.nx σ H) :
  ∃W:Nat->Nat->St->Hp->Prop,(∃m,W 0 m σ H)/\∀i m σ H,W i m σ H →
   ((BG K a).stop i H/\D.nx σ H)\/((BG K a).go i H/\∃N:St->Hp->Prop,(∀σ' H',N σ' H'->∃m',m' < m/\W (i+1) m' σ' H')/\∀x H',(BG K a).yld i H x H'->g x σ H' λσ2 H2=>tb { D with nx:=N,ct:=N,bk:=D.nx } σ2 H2):=by
 refine ⟨λi m σ H=>m=xs.length - i/\i<=xs.length/\Pv i σ H,⟨xs.length,by simp,bc _,h0⟩,?_⟩;rintro i m σ H ⟨rfl,hi,p⟩;have q:=hl i σ H hi p;by_cases hlt:i < xs.length
 ·refine .inr ⟨⟨xs,xs[i],q,by simp [hlt]⟩,Pv (i+1),λσ' H' p'=>⟨xs.length - (i+1),by lia,rfl,hlt,p'⟩,λx H' y=>?_⟩;obtain ⟨e,y⟩:=y;subst e;exact hs i x σ _ (y xs q) p
 ·have e:i=xs.length:=by lia
  subst e;exact .inl ⟨⟨xs,q,aj _⟩,hd σ H p⟩
theorem sF {lo:Int} {n:Nat} {g:TG} {tb:TS} {D:Ends} {σ:St} {H:Hp} (Pv:Nat->St->Hp->Prop) (h0:Pv 0 σ H)
  (hs:∀i σ H,i < n->Pv i σ H->g (.int (lo+i)) σ H λσ2 H2=>tb { D with nx:=Pv (i+1),ct:=Pv (i+1),bk:=D.nx } σ2 H2) (hd:∀σ H,Pv n σ H->D.nx σ H) :
  ∃W:Nat->Nat->St->Hp->Prop,(∃m,W 0 m σ H)/\∀i m σ H,W i m σ H →
   ((we lo n).stop i H/\D.nx σ H)\/((we lo n).go i H/\∃N:St->Hp->Prop,(∀σ' H',N σ' H'->∃m',m' < m/\W (i+1) m' σ' H')/\∀x H',(we lo n).yld i H x H'->g x σ H' λσ2 H2=>tb { D with nx:=N,ct:=N,bk:=D.nx } σ2 H2):=by
 refine ⟨λi m σ H=>m=n - i/\i<=n/\Pv i σ H,⟨n,by simp,bc _,h0⟩,?_⟩;rintro i m σ H ⟨rfl,hi,p⟩;by_cases hlt:i < n
 ·refine .inr ⟨hlt,Pv (i+1),λσ' H' p'=>⟨n - (i+1),by lia,rfl,hlt,p'⟩,λx H' y=>?_⟩;obtain ⟨e,y⟩:=y;subst e y;exact hs i σ _ hlt p
 ·have e:i=n:=by lia
  subst e;exact .inl ⟨aj _,hd σ H p⟩
abbrev R2:=V->V->Hp->VK->Prop
def oY (X:Cx) (f:Value->Value->Sem Value) (r:R2):Prop :=
 ∀(pins:List (Addr×Obj)) (s:Shared) (σ:St) (H:Hp) (x y:V) (v u:Value) (Q:VK),Inv X pins σ H s->RelV x v->RelV y u->r x y H Q →
  wpAny (model X.prog X.w) X.A (f v u) (EP X pins σ Q) X.xe s
def EU (X:Cx) (f:Value->Sem Value) (r:V->Hp->VK->Prop):Prop :=
 ∀(pins:List (Addr×Obj)) (s:Shared) (σ:St) (H:Hp) (x:V) (v:Value) (Q:VK),Inv X pins σ H s->RelV x v->r x H Q →
  wpAny (model X.prog X.w) X.A (f v) (EP X pins σ Q) X.xe s
def pK (X:Cx) (f:Value) (r:List V->Hp->VK->Prop):Prop :=
 ∀(pins:List (Addr×Obj)) (s:Shared) (σ:St) (H:Hp) (xs:List V) (us:List Value) (Q:VK),Inv X pins σ H s->b6 xs us->r xs H Q →
  wpAny (model X.prog X.w) X.A (call f us) (EP X pins σ Q) X.xe s
def Dp (r:R2) (ta tb:TE):TE:=λσ H Q=>ta σ H λx H1=>tb σ H1 λy H2=>r x y H2 Q
def tUn (r:V->Hp->VK->Prop) (ta:TE):TE:=λσ H Q=>ta σ H λx H1=>r x H1 Q
def rI (C:Int->Int->Prop) (g:Int->Int->V):R2:=λx y H Q=>∃i j,x=.int i/\y=.int j/\C i j/\Q (g i j) H
def Br (g:Int->Int->V):R2:=λx y H Q=>∃i j,x=.int i/\y=.int j/\Q (g i j) H
def rU (g:Int->V):V->Hp->VK->Prop:=λx H Q=>∃i,x=.int i/\Q (g i) H
section
variable {X:Cx} {a b c:Expr} {ta tb tc:TE} {pos:Pos}
theorem C3 (ha:PE X a ta) (hb:PE X b tb) {pins:List (Addr×Obj)} {s:Shared} {σ:St} {H:Hp} {R:V->V->Hp->Prop} (I:Inv X pins σ H s)
  (h:ta σ H λx H1=>tb σ H1 λy H2=>R x y H2) {Q:Value->Shared->Prop} {f:Value->Value->Sem Value}
  (hf:∀v u s2 x y H2,Inv X pins σ H2 s2->RelV x v->RelV y u->R x y H2->wpAny (model X.prog X.w) X.A (f v u) Q X.xe s2) :
  wpAny (model X.prog X.w) X.A (eval a X.env) (λv s₁=>wpAny (model X.prog X.w) X.A (eval b X.env) (λu s₂=>wpAny (model X.prog X.w) X.A (f v u) Q X.xe s₂) X.xe s₁) X.xe s:=by
 refine fe (ha pins s σ H _ I h) λv s1 ⟨x,H1,I1,r1,q1⟩=>?_
 refine fe (hb pins s1 σ H1 _ I1 q1) λu s2 ⟨y,H2,I2,r2,q2⟩=>?_
 exact hf v u s2 x y H2 I2 r1 r2 q2
theorem bf {op:Operator} {r:R2} (ho:oY X (binaryOp op) r) (ha:PE X a ta) (hb:PE X b tb):PE X (.BinOp a op b pos) (Dp r ta tb):=by
 intro pins s σ H Q I h;exact wpAny_BinOp (C3 ha hb I h λv u s2 x y H2 I2 rx ry q=>ho pins s2 σ H2 x y v u Q I2 rx ry q)
theorem DQ {op:UnaryOp} {r:V->Hp->VK->Prop} (ho:EU X (unaryOp op) r) (ha:PE X a ta):PE X (.UnaryOp op a pos) (tUn r ta):=by
 intro pins s σ H Q I h;exact UnaryOp_ (fe (ha pins s σ H _ I h) λv s1 ⟨x,H1,I1,r1,q1⟩=>ho pins s1 σ H1 x v Q I1 r1 q1)
theorem Em {f:Value->Value->Sem Value} {C:Int->Int->Prop} {g:Int->Int->Int}
  (rule:∀(i j:Int) (t u:Tok) (s:Shared) (Q:Value->Shared->Prop) (E:Value->Shared->Prop),C i j->Q (.int (g i j) s.toks) { s with toks:=s.toks+1 }->wpAny (model X.prog X.w) X.A (f (.int i t) (.int j u)) Q E s) :
  oY X f (rI C λi j=>.int (g i j)):=by
 intro pins s σ H x y v u Q I rx ry h;obtain ⟨i,j,rfl,rfl,hc,q⟩:=h;obtain ⟨t,rfl⟩:=rx;obtain ⟨t',rfl⟩:=ry;exact rule i j t t' s _ _ hc ⟨.int (g i j),H,I.tok _,⟨_,rfl⟩,q⟩
theorem DU {f:Value->Value->Sem Value} {g:Int->Int->Int}
  (rule:∀(i j:Int) (t u:Tok) (s:Shared) (Q:Value->Shared->Prop) (E:Value->Shared->Prop),Q (.int (g i j) s.toks) { s with toks:=s.toks+1 }->wpAny (model X.prog X.w) X.A (f (.int i t) (.int j u)) Q E s) :
  oY X f (Br λi j=>.int (g i j)):=by
 intro pins s σ H x y v u Q I rx ry h;obtain ⟨i,j,rfl,rfl,q⟩:=h;obtain ⟨t,rfl⟩:=rx;obtain ⟨t',rfl⟩:=ry;exact rule i j t t' s _ _ ⟨.int (g i j),H,I.tok _,⟨_,rfl⟩,q⟩
theorem CC {f:Value->Value->Sem Value} {g:Int->Int->Bool}
  (rule:∀(i j:Int) (t u:Tok) (s:Shared) (Q:Value->Shared->Prop) (E:Value->Shared->Prop),Q (.bool (g i j)) s->wpAny (model X.prog X.w) X.A (f (.int i t) (.int j u)) Q E s) :
  oY X f (Br λi j=>.bl (g i j)):=by
 intro pins s σ H x y v u Q I rx ry h;obtain ⟨i,j,rfl,rfl,q⟩:=h;obtain ⟨t,rfl⟩:=rx;obtain ⟨t',rfl⟩:=ry;exact rule i j t t' s _ _ ⟨.bl (g i j),H,I,rfl,q⟩
def C8 (i j:Int):Prop:=(-(2^64) < i/\i < 2^64)\/(-(2^64) < j/\j < 2^64)
theorem C8.ok {i j:Int} (h:C8 i j):IntMulOk i j:=by
 rcases h with ⟨h1,h2⟩ | ⟨h1,h2⟩
 ·exact .of_left (intBits_le_64 h1 h2)
 ·exact .of_right (intBits_le_64 h1 h2)
theorem iq:oY X (binaryOp .Add) (Br λi j=>.int (i+j)):=DU λ_ _ _ _ _ _ _ q=>add_int q
theorem j6:oY X (binaryOp .Sub) (Br λi j=>.int (i - j)):=DU λ_ _ _ _ _ _ _ q=>sub_int q
theorem kZ:oY X (binaryOp .Mod) (rI (λ_ j=>0 < j) λi j=>.int (i % j)):=Em λi j _ _ _ _ _ hc q=>by
 have h1:(0:Int) < j:=hc;exact mod_int' (by lia) (by rw[Int.fmod_eq_emod_of_nonneg i (by lia)];exact q)
theorem AD:oY X (binaryOp .Mod) (rI (λ_ j=>j≠0) λi j=>.int (i.fmod j)):=Em λ_ _ _ _ _ _ _ hc q=>mod_int' hc q
theorem unI {f:Value->Sem Value} {g:Int->Int}
  (rule:∀(i:Int) (t:Tok) (s:Shared) (Q:Value->Shared->Prop) (E:Value->Shared->Prop),Q (.int (g i) s.toks) { s with toks:=s.toks+1 }->wpAny (model X.prog X.w) X.A (f (.int i t)) Q E s) :
  EU X f (rU λi=>.int (g i)):=by
 intro pins s σ H x v Q I rx h;obtain ⟨i,rfl,q⟩:=h;obtain ⟨t,rfl⟩:=rx;exact rule i t s _ _ ⟨.int (g i),H,I.tok _,⟨_,rfl⟩,q⟩
theorem BL:EU X (unaryOp .USub) (rU λi=>.int (-i)):=unI λ_ _ _ _ _ q=>neg_int q
end
def DA:V->V->Bool
 | .non,.non=>true | .non,.int _=>true | .int _,.non=>true | .non,.bl _=>true | .bl _,.non=>true | .non,.str _=>true | .str _,.non=>true
 | .int _,.int _=>true | .bl _,.bl _=>true | .str _,.str _=>true | .byt _,.byt _=>true
 | .int _,.str _=>true | .str _,.int _=>true | .bl _,.str _=>true | .str _,.bl _=>true
 | _,_=>false
def EC:R2:=λx y H Q=>DA x y=true/\Q (.bl (decide (x=y))) H
def rNe:R2:=λx y H Q=>DA x y=true/\Q (.bl (!decide (x=y))) H
theorem xp {i j:Int}:decide (V.int i=V.int j)=(i == j):=by
 rw[iJ];simp
theorem zG {i j:Bool}:decide (V.bl i=V.bl j)=(i == j):=by
 rw[iJ];simp
theorem xo {i j:Str}:decide (V.str i=V.str j)=(i == j):=by
 rw[iJ];simp
theorem xq {i j:Array UInt8}:decide (V.byt i=V.byt j)=(i.toList == j.toList):=by
 rw[iJ];cases i;cases j;simp
section
variable {X:Cx} {a b c:Expr} {ta tb tc:TE} {pos:Pos}
theorem ck {pins:List (Addr×Obj)} {σ:St} {H:Hp} {s:Shared} {Q:VK} {k k':Bool} (I:Inv X pins σ H s) (q:Q (.bl k) H) (e:k=k'):EP X pins σ Q (.bool k') s:=by
 subst e;exact ⟨.bl k,H,I,rfl,q⟩
theorem lb:oY X (compareOp .Eq) EC:=by
 intro pins s σ H x y v u Q I rx ry h;obtain ⟨hs,q⟩:=h;cases x with
 | non =>
  cases rx;cases y with
  | non=>cases ry;exact PySem.EqNone.eq_none_none (ck I q (by simp))
  | bl j=>cases ry;exact PySem.EqNone.eq_none_bool (ck I q (by simp))
  | int j=>obtain ⟨t',rfl⟩:=ry;exact PySem.EqNone.eq_none_int (ck I q (by simp))
  | str j=>obtain ⟨t',rfl⟩:=ry;exact PySem.EqNone.eq_none_str (ck I q (by simp))
  | _=>exact absurd (show false=true from hs) aE
 | bl i =>
  cases rx;cases y with
  | non=>cases ry;exact PySem.EqNone.eq_bool_none (ck I q (by simp))
  | bl j=>cases ry;exact eq_bool (ck I q zG)
  | str j=>obtain ⟨t',rfl⟩:=ry;exact PySem.EqMixed.eq_bool_str (ck I q (by simp))
  | _=>exact absurd (show false=true from hs) aE
 | int i =>
  obtain ⟨t,rfl⟩:=rx;cases y with
  | non=>cases ry;exact PySem.EqNone.eq_int_none (ck I q (by simp))
  | int j=>obtain ⟨t',rfl⟩:=ry;exact eq_int (ck I q xp)
  | str j=>obtain ⟨t',rfl⟩:=ry;exact PySem.EqMixed.eq_int_str (ck I q (by simp))
  | _=>exact absurd (show false=true from hs) aE
 | str i =>
  obtain ⟨t,rfl⟩:=rx;cases y with
  | non=>cases ry;exact PySem.EqNone.eq_str_none (ck I q (by simp))
  | bl j=>cases ry;exact PySem.EqMixed.eq_str_bool (ck I q (by simp))
  | int j=>obtain ⟨t',rfl⟩:=ry;exact PySem.EqMixed.eq_str_int (ck I q (by simp))
  | str j=>obtain ⟨t',rfl⟩:=ry;exact eq_str (ck I q xo)
  | _=>exact absurd (show false=true from hs) aE
 | byt i =>
  obtain ⟨t,rfl⟩:=rx;cases y with
  | byt j=>obtain ⟨t',rfl⟩:=ry;exact PySem.W.eq_bytes (ck I q xq)
  | _=>exact absurd (show false=true from hs) aE
 | _=>cases y <;> exact absurd (show false=true from hs) aE
theorem wV:oY X (compareOp .NotEq) rNe:=by
 intro pins s σ H x y v u Q I rx ry h;obtain ⟨hs,q⟩:=h;cases x with
 | non =>
  cases rx;cases y with
  | non=>cases ry;exact PySem.EqNone.ne_none_none (ck I q (by simp))
  | bl j=>cases ry;exact PySem.EqNone.ne_none_bool (ck I q (by simp))
  | int j=>obtain ⟨t',rfl⟩:=ry;exact PySem.EqNone.ne_none_int (ck I q (by simp))
  | str j=>obtain ⟨t',rfl⟩:=ry;exact PySem.EqNone.ne_none_str (ck I q (by simp))
  | _=>exact absurd (show false=true from hs) aE
 | bl i =>
  cases rx;cases y with
  | non=>cases ry;exact PySem.EqNone.ne_bool_none (ck I q (by simp))
  | bl j=>cases ry;exact ne_bool (ck I q (congrArg not zG))
  | str j=>obtain ⟨t',rfl⟩:=ry;exact PySem.EqMixed.ne_bool_str (ck I q (by simp))
  | _=>exact absurd (show false=true from hs) aE
 | int i =>
  obtain ⟨t,rfl⟩:=rx;cases y with
  | non=>cases ry;exact PySem.EqNone.ne_int_none (ck I q (by simp))
  | int j=>obtain ⟨t',rfl⟩:=ry;exact ne_int (ck I q (congrArg not xp))
  | str j=>obtain ⟨t',rfl⟩:=ry;exact PySem.EqMixed.ne_int_str (ck I q (by simp))
  | _=>exact absurd (show false=true from hs) aE
 | str i =>
  obtain ⟨t,rfl⟩:=rx;cases y with
  | non=>cases ry;exact PySem.EqNone.ne_str_none (ck I q (by simp))
  | bl j=>cases ry;exact PySem.EqMixed.ne_str_bool (ck I q (by simp))
  | int j=>obtain ⟨t',rfl⟩:=ry;exact PySem.EqMixed.ne_str_int (ck I q (by simp))
  | str j=>obtain ⟨t',rfl⟩:=ry;exact ne_str (ck I q (congrArg not xo))
  | _=>exact absurd (show false=true from hs) aE
 | byt i =>
  obtain ⟨t,rfl⟩:=rx;cases y with
  | byt j=>obtain ⟨t',rfl⟩:=ry;exact PySem.W.ne_bytes (ck I q (congrArg not xq))
  | _=>exact absurd (show false=true from hs) aE
 | _=>cases y <;> exact absurd (show false=true from hs) aE
theorem su:oY X (compareOp .Lt) (Br λi j=>.bl (decide (i < j))):=CC λ_ _ _ _ _ _ _ q=>lt_int q
theorem wW:oY X (compareOp .Gt) (Br λi j=>.bl (decide (j < i))):=CC λ_ _ _ _ _ _ _ q=>gt_int q
theorem DS:oY X (compareOp .GtE) (Br λi j=>.bl (decide (j<=i))):=CC λ_ _ _ _ _ _ _ q=>ge_int q
theorem wQ:oY X (compareOp .IsNot) (λx y H Q=>y=.non/\Q (.bl (!decide (x=.non))) H):=by
 intro pins s σ H x y v u Q I rx ry h;obtain ⟨rfl,q⟩:=h;cases ry;refine isnot_none_gen (ck I q ?_)
 cases x <;> first
  | (cases rx;rfl)
  | (obtain ⟨t,rfl⟩:=rx;rfl)
theorem bN (b:Expr) {op:CmpOp} (h:op≠.In:=by decide) (h2:op≠.NotIn:=by decide):behindInMarks op b=false:=by
 have e1:(op == CmpOp.In)=false:=by cases op <;> first | rfl | exact absurd rfl h
 have e2:(op == CmpOp.NotIn)=false:=by cases op <;> first | rfl | exact absurd rfl h2
 cases b <;> simp [behindInMarks,e1,e2]
theorem gK {op:CmpOp} {r:R2} (ho:oY X (compareOp op) r) (ha:PE X a ta) (hb:PE X b tb) (hm:behindInMarks op b=false):PE X (.Compare a [op] [b] pos) (Dp r ta tb):=by
 intro pins s σ H Q I h;exact wpAny_Compare1 (C3 ha hb I h λv u s2 x y H2 I2 rx ry q=>ho pins s2 σ H2 x y v u Q I2 rx ry q) hm
def A7 (t:TE):TT:=λσ H Q=>t σ H λx H'=>∃k,x=.bl k/\Q k H'
theorem bM {op:CmpOp} {r:R2} (ho:oY X (compareOp op) r) (ha:PE X a ta) (hb:PE X b tb) (hm:behindInMarks op b=false):PT X (.Compare a [op] [b] pos) (A7 (Dp r ta tb)):=by
 intro pins s σ H Q I h
 refine wpAny_isTrue_Compare1 (fe (ha pins s σ H _ I h) λv s1 ⟨x,H1,I1,r1,q1⟩=>fe (hb pins s1 σ H1 _ I1 q1) λu s2 ⟨y,H2,I2,r2,q2⟩ =>
  fe (ho pins s2 σ H2 x y v u _ I2 r1 r2 q2) λc s3 ⟨z,H3,I3,r3,k,e,q3⟩=>?_) hm
 subst e;cases r3;exact wpAny_truthy_bool ⟨H3,I3,q3⟩
theorem qT:(sizeLine:Nat) < 2^63:=by rw[sizeLine_eq];decide
theorem vals1 {x:V} {us:List Value} (r:b6 [x] us):∃u,us=[u]/\RelV x u:=by
 cases r with
 | cons r1 r2=>cases r2;exact ⟨_,rfl,r1⟩
theorem vals2 {x y:V} {us:List Value} (r:b6 [x,y] us):∃u w',us=[u,w']/\RelV x u/\RelV y w':=by
 cases r with
 | cons r1 r2 =>
  cases r2 with
  | cons r3 r4=>cases r4;exact ⟨_,_,rfl,r1,r3⟩
theorem rj:pK X (.builtin "abs") (λxs H Q=>∃i,xs=[.int i]/\Q (.int (if i < 0 then -i else i)) H):=by
 intro pins s σ H xs us Q I r h;obtain ⟨i,rfl,q⟩:=h;obtain ⟨u,rfl,t,rfl⟩:=vals1 r;exact call_abs_int λu tk=>⟨.int (if i < 0 then -i else i),H,I.tok _,⟨_,rfl⟩,q⟩
theorem sL (hc:X.calm=true):pK X (.builtin "min") (λxs H Q=>∃i j,xs=[.int i,.int j]/\Q (.int (if j < i then j else i)) H):=by
 intro pins s σ H xs us Q I r h;obtain ⟨i,j,rfl,q⟩:=h;obtain ⟨u,w',rfl,⟨t,rfl⟩,⟨t',rfl⟩⟩:=vals2 r;refine min_two_ints (I.ok.hd hc) λh' tk k=>⟨_,H,I.kept k,?_,q⟩
 by_cases hj:j < i
 ·rw[if_pos hj,if_pos hj];exact ⟨_,rfl⟩
 ·rw[if_neg hj,if_neg hj];exact ⟨_,rfl⟩
end
section
variable {prog:Program} {w:World} {A:Around} {E:Value->Shared->Prop} {s:Shared} {K:FG9} {x dx C f:Addr} {mA:Str->Option Value} {name:Str} {v:Value}
end
section
variable {X:Cx} {pins:List (Addr×Obj)} {σ:St} {H:Hp} {s:Shared} {a C dx:Addr} {fs:List (Str×V)} {f:Str} {v:V} {A:Around} {E:Value->Shared->Prop}
end
structure kC (k:Nat) (A:Around):Prop where
 hd:A.handled=none
 dp:A.depth+3*k+5 < recursionLimit
 un:A.units+16*k+200 < cLine
theorem kC.mono {j k:Nat} {A:Around} (r:kC k A) (h:j<=k):kC j A:=⟨r.hd,by have:=r.dp;lia,by have:=r.un;lia⟩
theorem kC.deeper {k:Nat} {A:Around} (r:kC (k+1) A) (env:Env):kC k (A.deeper env) :=
 ⟨r.hd,by have:=r.dp;show A.depth+1+3*k+5 < _;lia,by have:=r.un;show A.units+3+16*k+200 < _;lia⟩
theorem kC.depth {k:Nat} {A:Around} (r:kC k A):A.depth < recursionLimit:=by have:=r.dp;lia
theorem kC.units {k:Nat} {A:Around} (r:kC k A):A.units+64 < cLine:=by have:=r.un;lia
def Ds:TA:=λ_ H Q=>Q [] H
def Bm (ta:TE) (tr:TA):TA:=λσ H Q=>ta σ H λx H1=>tr σ H1 λxs H2=>Q (x :: xs) H2
section
variable {X:Cx} {e:Expr} {es:List Expr} {te:TE} {t:TA} {pos:Pos}
theorem ai:PA X [] Ds:=λ_ _ _ _ H Q I h=>Calls.spliced_nil ⟨[],H,I,.nil,h⟩
theorem ab (ha:PE X e te) (hr:PA X es t) (hs:starEach (e :: es) X.env=(false,eval e X.env) :: starEach es X.env:=by rfl):PA X (e :: es) (Bm te t):=by
 intro pos pins s σ H Q I h;rw[hs];show wpAny _ _ (spliced ((false,eval e X.env) :: backTo pos (starEach es X.env))) _ _ s
 refine Calls.spliced_cons (fe (ha pins s σ H _ I h) λu s1 ⟨x,H1,I1,r1,q1⟩=>?_);exact fe (hr pos pins s1 σ H1 _ I1 q1) λus s2 ⟨xs,H2,I2,r2,q2⟩=>⟨x :: xs,H2,I2,.cons r1 r2,q2⟩
def Dj (t:TA):TE:=λσ H Q=>t σ H λxs H1=>xs.length<=sizeLine/\∀p,H1 p=none->Q (.ref p) (upd H1 p (.tup xs))
def Dt (t:TA):TE:=λσ H Q=>t σ H λxs H1=>xs.length<=sizeLine/\∀p,H1 p=none->Q (.ref p) (upd H1 p (.lst xs))
theorem dO {x1} (h:PA X es t):PE X (.Tuple es x1 pos) (Dj t):=by
 intro pins s σ H Q I hq;refine wpAny_Tuple_spliced (fe (h pos pins s σ H _ I hq) λus s1 ⟨xs,H1,I1,r,z,q⟩=>⟨by rw[<- r.length];exact z,?_⟩);have hf:H1 s1.heap.objs.size=none:=I1.hok.fresh (aj _);refine ⟨.ref s1.heap.objs.size,upd H1 s1.heap.objs.size (.tup xs),I1.laid (t':=s1.toks) (λb u e=>Heap.get?_push_of_some _ e) (aj _) ?_,rfl,q _ hf⟩;exact ⟨z,us,r,⟨_,Heap.get?_push_size _ rfl,rfl,_,rfl⟩⟩
theorem j4 (h:PA X es t):PE X (.List es pos) (Dt t):=by
 intro pins s σ H Q I hq;refine wpAny_List_spliced (fe (h pos pins s σ H _ I hq) λus s1 ⟨xs,H1,I1,r,z,q⟩=>⟨by rw[<- r.length];exact z,?_⟩);have hf:H1 s1.heap.objs.size=none:=I1.hok.fresh (aj _);refine ⟨.ref s1.heap.objs.size,upd H1 s1.heap.objs.size (.lst xs),I1.laid (t':=s1.toks) (λb u e=>Heap.get?_push_of_some _ e) (aj _) ?_,rfl,q _ hf⟩;exact ⟨z,us,0,r,Heap.get?_push_size _ rfl⟩
end
abbrev Sp:=List V->Hp->VK->XK->Prop
abbrev zV:=List Env->Hp->Shared->XK->Value->Shared->Prop
structure A4 (P:Program) (w:World) (K:FG9) (mg:Str->Option Value) (base:Heap) (A:Around) (outer:List Env) (s:Shared) (H:Hp):Prop where
 frames:A.frames=some outer
 mod:Mod K mg base
 bs:∀b o,base.get? b=some o->s.heap.get? b=some o/\H b=none
 bsz:base.objs.size<=s.heap.objs.size
 funs:s.heap.FunFrames base outer
 frf:∀b∈yk outer,H b=none
 hok:rC P w H s.heap
 bare:AllBare s.gens
def CE (outer:List Env) (P:Program) (w:World) (H:Hp) (s:Shared) (Q:VK) (u:Value) (s':Shared):Prop :=
 ∃v H',s'.os=s.os/\AllBare s'.gens/\Un (yk outer) [] H H' s.heap s'.heap/\rC P w H' s'.heap/\RelV v u/\Q v H'
def CR (CX:zV) (outer:List Env) (P:Program) (w:World) (H:Hp) (s:Shared) (Q:VK) (E:XK) (r:Result) (s':Shared):Prop :=
 match r with
 | .ok (.ret u)=>CE outer P w H s Q u s'
 | .ok _=>False
 | .error e=>CX outer H s E e s'
structure cL (P:Program) (w:World) (K:FG9) (mg:Str->Option Value) (base:Heap) (CX:zV) (k:Nat) (f:Addr) (fd:FuncData) (ps:List Str) (sp:Sp):Prop where
 len:∀vs H Q E,sp vs H Q E->vs.length=ps.length
 run:∀(A:Around) (outer:List Env) (s:Shared) (H:Hp) (args:Args) (us:List Value) (vs:List V) (Q:VK) (E:XK),kC k A->A4 P w K mg base A outer s H->BindsTo s fd args (ps.zip us)->b6 vs us->sp vs H Q E →
  codeAny (model P w) A (.call (.ref f) args) (CR CX outer P w H s Q E) s
section
variable {X:Cx} {pins:List (Addr×Obj)} {σ:St} {H:Hp} {s s':Shared}
theorem Inv.env0 (I:Inv X pins σ H s):A4 X.prog X.w X.K X.mg X.base X.A X.stack s H :=
 ⟨I.ok.frames,I.ok.mod,I.bs,ag I.ok.bsz I.sz,I.stack,I.stkFree,I.hok,I.bare⟩
theorem Inv.after {Q:VK} {u:Value} (I:Inv X pins σ H s) (h:CE X.stack X.prog X.w H s Q u s'):EP X pins σ Q u s':=by
 obtain ⟨v,H',os,bare,un,hok,r,q⟩:=h;obtain ⟨hh,g,d,t,os'⟩:=s';obtain rfl:os'=s.os:=os;exact ⟨v,H',I.call (h':=hh) (g':=g) (d':=d) (t':=t) (ch:=[]) un hok bare (λb z=>absurd z (by simp)),r,q⟩
end
def yq (sp:Sp) (dvs:List V) (E:XK) (t:TA):TE:=λσ H Q=>t σ H λvs H1=>sp (vs++dvs) H1 Q E
def Binds (K:FG9) (fd:FuncData) (ps:List Str) (ds:List Value):Prop :=
 ∀(s:Shared) (us:List Value),K.In s.heap->(us++ds).length=ps.length->BindsTo s fd ⟨us,[]⟩ (ps.zip (us++ds))
theorem Binds.all {K:FG9} {fd:FuncData} {ps:List Str} (h:∀us:List Value,us.length=ps.length->bindArgs fd ⟨us,[]⟩=pure (ps.zip us)):Binds K fd ps []:=λs us _ hl=>by
 rw[List.append_nil] at hl ⊢;exact .of_eq (h us hl)
def wc (CX:zV) (X:Cx) (E:XK):Prop:=∀(pins:List (Addr×Obj)) (σ:St) (H:Hp) (s:Shared) (e:Value) (s':Shared),Inv X pins σ H s->CX X.stack H s E e s'->X.xe e s'
section
variable {X:Cx} {CX:zV} {k:Nat} {f C:Addr} {fd:FuncData} {ps:List Str} {sp:Sp} {dvs:List V} {ds:List Value} {E:XK} {x m:Str} {p pos apos:Pos} {e o:Expr} {es:List Expr} {ta:TE} {t:TA}
theorem BW {pins:List (Addr×Obj)} {σ:St} {H:Hp} {s:Shared} {Q:VK} {us:List Value} {vs:List V} (F:cL X.prog X.w X.K X.mg X.base CX k f fd ps sp) (hr:kC k X.A) (hb:Binds X.K fd ps ds) (hd:b6 dvs ds) (hx:wc CX X E)
  (I:Inv X pins σ H s) (r:b6 vs us) (h:sp (vs++dvs) H Q E):wpAny (model X.prog X.w) X.A (call (.ref f) us) (EP X pins σ Q) X.xe s:=by
 have r2:b6 (vs++dvs) (us++ds):=r.append hd;have hl:(us++ds).length=ps.length:=by rw[<- r2.length];exact F.len _ _ _ _ h
 refine wpAny_call (codeAny_mono (F.run X.A X.stack s H ⟨us,[]⟩ (us++ds) (vs++dvs) Q E hr I.env0 (hb s us I.kIn hl) r2 h) λr s' hq=>?_);cases r with
 | error e=>exact hx pins σ H s e s' I hq
 | ok fl =>
  cases fl with
  | ret u=>exact I.after hq
  | next=>exact False.elim hq
  | brk=>exact False.elim hq
  | cont=>exact False.elim hq
theorem AB (F:cL X.prog X.w X.K X.mg X.base CX k f fd ps sp) (hr:kC k X.A) (hg:Gl X x) (hm:X.mg x=some (.ref f)) (hk:PySem.W.keepIn X.K (.ref f)=true) (hb:Binds X.K fd ps ds) (hd:b6 dvs ds) (hx:wc CX X E)
  (ha:PA X (e :: es) t) (hdb:(x == ("__debug__":Str))=false:=by decide) (he:starEach (e :: es) X.env=(false,eval e X.env) :: starEach es X.env:=by rfl) (hpl:(backTo pos (starEach es X.env)).any (·.1)=false:=by rfl) :
  PE X (.Call (.Name x p) (e :: es) [] pos) (yq sp dvs E t):=by
 intro pins s σ H Q I h;refine wpAny_Call_Name_kw (xf I hg hm ?_ hdb);refine PySem.W.callWith_K (h₀:=X.base) I.ok.mod.kin hk (fe (ha pos pins s σ H _ I h) λus s1 ⟨vs,H1,I1,r,q⟩=>⟨I1.kIn,?_⟩) he hpl;exact BW F hr hb hd hx I1 r q
end
structure be (N P:List Str) (sc:Scope):Prop where
 kind:sc.kind=.function
 co:sc.isCoroutine=false
 gen:sc.isGenerator=false
 nd:N.Nodup
 pre:N.take P.length=P
 par:∀x∈P,sc.names.lookup x=some .local\/sc.names.lookup x=some .cell
 nofree:∀y∈sc.names,y.2≠.free
theorem sN {kindOf:Str->Option NameKind} {x:Str}:∀{binds:List (Str×Value)} {m:Str->Option Value},(∀v,(x,v)∉binds)->bindL kindOf binds m x=m x
 | [],_,_=>rfl
 | (n,v) :: r,m,h=>by
  unfold bindL;rw[sN λw hw=>h w (br _ hw)]
  split
  ·have:x≠n:=by rintro rfl;exact h v cj
   simp [this]
  ·rfl
theorem sP {kindOf:Str->Option NameKind} {x:Str}:∀{binds:List (Str×Value)} {m:Str->Option Value},(∀v,(x,v)∉binds)->bindC kindOf binds m x=m x
 | [],_,_=>rfl
 | (n,v) :: r,m,h=>by
  unfold bindC;rw[sP λw hw=>h w (br _ hw)]
  split
  ·rfl
  ·have:x≠n:=by rintro rfl;exact h v cj
   simp [this]
theorem sO {kindOf:Str->Option NameKind} {x:Str} {v:Value}:∀{P:List Str} {vs:List Value} {i:Nat} {m:Str->Option Value},P.Nodup->P[i]?=some x->vs[i]?=some v->kindOf x=some .local →
  bindL kindOf (P.zip vs) m x=some v
 | [],_,_,_,_,h,_,_=>by simp at h
 | _ :: _,[],_,_,_,_,h,_=>by simp at h
 | p :: P,w :: vs,0,m,nd,h1,h2,hk=>by
  simp at h1 h2;subst h1;subst h2;show bindL kindOf ((p,w) :: P.zip vs) m p=_
  unfold bindL;rw[sN λv hv=>(rG.mp nd).1 (zY hv).1,if_pos hk];simp
 | p :: P,w :: vs,i+1,m,nd,h1,h2,hk=>by
  show bindL kindOf ((p,w) :: P.zip vs) m x=_
  unfold bindL;exact sO (i:=i) (rG.mp nd).2 (by simpa using h1) (by simpa using h2) hk
theorem sQ {kindOf:Str->Option NameKind} {x:Str} {v:Value}:∀{P:List Str} {vs:List Value} {i:Nat} {m:Str->Option Value},P.Nodup->P[i]?=some x->vs[i]?=some v->kindOf x≠some .local →
  bindC kindOf (P.zip vs) m x=some v
 | [],_,_,_,_,h,_,_=>by simp at h
 | _ :: _,[],_,_,_,_,h,_=>by simp at h
 | p :: P,w :: vs,0,m,nd,h1,h2,hk=>by
  simp at h1 h2;subst h1;subst h2;show bindC kindOf ((p,w) :: P.zip vs) m p=_
  unfold bindC;rw[sP λv hv=>(rG.mp nd).1 (zY hv).1,if_neg hk];simp
 | p :: P,w :: vs,i+1,m,nd,h1,h2,hk=>by
  show bindC kindOf ((p,w) :: P.zip vs) m x=_
  unfold bindC;exact sQ (i:=i) (rG.mp nd).2 (by simpa using h1) (by simpa using h2) hk
def start (N:List Str) (vs:List V):St:=vs.map some++List.replicate (N.length - vs.length) none
def yb (CX:zV) (P:Program) (w:World) (K:FG9) (mg:Str->Option Value) (base:Heap) (N:List Str) (qual:Str) (scope:Scope) (f:Addr) (cd:Value) (A:Around) (outer:List Env) (s:Shared) (H:Hp) (E:XK):Cx where
 prog:=P
 w:=w
 K:=K
 mg:=mg
 base:=base
 A:=A.deeper (envOfC qual scope s.heap.objs.size f cd)
 N:=N
 s₀:=s
 H₀:=H
 env:=envOfC qual scope s.heap.objs.size f cd
 outer:=outer
 stack:=envOfC qual scope s.heap.objs.size f cd :: outer
 ex:=[]
 calm:=true
 fn:=λ_=>true
 pn:=[]
 xe:=λe s'=>wpAny (model P w) (A.deeper (envOfC qual scope s.heap.objs.size f cd)) (leaving (envOfC qual scope s.heap.objs.size f cd) e) (λ_ s''=>CX outer H s E e s'') (λe' s''=>CX outer H s E e' s'') s'
theorem vz {sc:Scope} {n:Nat} {x:Str} (h:sc.names.lookup x=some .cell):∃c,(cellsFrom n sc.names []).lookup x=some c:=by
 have q:=qm sc.names n [] (.inl h);exact De.mp q
theorem xZ {CX:zV} {P:Program} {w:World} {K:FG9} {mg:Str->Option Value} {base:Heap} {N ps:List Str} {qual:Str} {scope:Scope} {f:Addr} {cd:Value} {A:Around} {outer:List Env} {s s1:Shared} {H:Hp} {E:XK} {us:List Value} {vs:List V}
  (S:be N ps scope) (hd:A.handled=none) (e0:A4 P w K mg base A outer s H) (hl:vs.length=ps.length) (r:b6 vs us)
  (x:InCallC s s.heap.objs.size (bindL (envOfC qual scope s.heap.objs.size f cd).kindOf (ps.zip us) λ_=>none) (cellsFrom (s.heap.objs.size+1) scope.names []) (bindC (envOfC qual scope s.heap.objs.size f cd).kindOf (ps.zip us) λ_=>none) s1) :
  Inv (yb CX P w K mg base N qual scope f cd A outer s H E) [] (start N vs) H s1:=by
 have hpl:ps.length<=N.length:=by have:=congrArg List.length S.pre;rw[dH] at this;lia
 obtain ⟨h1,tk,rfl,hk⟩:=x.done;have noA:∀b:Addr,b∉(yb CX P w K mg base N qual scope f cd A outer s H E).ex:=λb z=>absurd (show b∈([]:List Addr) from z) (by simp)
 refine ⟨⟨e0.mod,S.kind,rfl,rfl,aj _,λy z c h1 h2=>?_,λy hy=>?_,λy c _ h=>?_,λ_=>hd,Around.frames_deeper e0.frames,.inr ⟨rfl,rfl⟩,λb z=>absurd z (noA b),e0.bs,e0.bsz,λb _ _=>noA b,λb z=>absurd z (noA b),e0.funs,e0.frf⟩,
  rfl,e0.bare,Un.kept hk,⟨_,x.toInCall.ns,λi y v h1 h2 h3=>?_⟩,λy c h=>⟨_,x.cell y c h⟩,e0.hok.fresh (aj _),λy c h=>?_,λp hp=>absurd (show p∈([]:List (Addr×Obj)) from hp) (by simp),e0.hok.kept hk,?_⟩
 ·exact name_of_addr x.apart (ik h1) (ik h2)
 ·have hy:scope.names.lookup y=some .cell\/scope.names.lookup y=some .free:=hy;rcases hy with hy | hy
  ·exact vz hy
  ·exact absurd rfl (S.nofree _ (ik hy))
 ·exact bj (x.above y c (ik h))
 ·have hi:i < vs.length:=by
   unfold start at h2;by_cases hi:i < vs.length
   ·exact hi
   ·rw[aO (by simpa using hi)] at h2;rw[dm] at h2
    split at h2 <;> cases h2
  have ha:vs[i]?=some v:=by
   unfold start at h2;rw[aW (by simpa using hi),aw] at h2;cases e:vs[i]? with
   | none=>rw[e] at h2;cases h2
   | some a=>rw[e] at h2;cases h2;rfl
  obtain ⟨u,hu,rv⟩:=r.get ha
  have hp:ps[i]?=some y:=by
   rw[<- S.pre,Dg (by lia)];exact h1
  have ndP:ps.Nodup:=by rw[<- S.pre];exact S.nd.sublist (List.take_sublist _ _)
  refine ⟨u,rv,?_⟩;rcases S.par y (ax hp) with k | k
  ·exact .inl ⟨k,sO ndP hp hu k⟩
  ·obtain ⟨c,e⟩:=vz (n:=s.heap.objs.size+1) k;refine .inr ⟨.inl k,c,e,?_⟩;have q:=x.cell y c e;rw[sQ ndP hp hu (by show scope.names.lookup y≠_;rw[k];decide)] at q;exact q
 ·exact e0.hok.fresh (bj (x.above y c (ik h)))
 ·unfold start;show _=N.length
  rw[au,ah,az]
  lia
theorem D9 {CX:zV} {P:Program} {w:World} {K:FG9} {mg:Str->Option Value} {base:Heap} {k:Nat} {f:Addr} {name qual:Str} {params:Arguments} {body:List Stmt} {scope:Scope} {dV kV doc pm cdv ct oc:Value} {an od:Option Addr}
  {osl:Array (Option Value)} {N ps:List Str} {sp:Sp} (lk:K.lookup f=some ⟨oc,od,.func (PySem.W.fnOf name qual params body scope dV kV doc pm an cdv ct),osl⟩) (hcd:PySem.W.codeIn K cdv qual=true) (S:be N ps scope)
  (len:∀vs H Q E,sp vs H Q E->vs.length=ps.length)
  (hbody:∀(A:Around) (outer:List Env) (s:Shared) (H:Hp) (vs:List V) (Q:VK) (E:XK),kC k (A.deeper (envOfC qual scope s.heap.objs.size f cdv))->sp vs H Q E →
   ∃t,wd (yb CX P w K mg base N qual scope f cdv A outer s H E) body t/\t { nx:=λ_ H'=>Q .non H',rt:=Q } (start N vs) H) :
  cL P w K mg base CX (k+1) f (PySem.W.fnOf name qual params body scope dV kV doc pm an cdv ct) ps sp:=by
 refine ⟨len,λA outer s H args us vs Q E hr e0 hb r hsp=>?_⟩;have hl:=len _ _ _ _ hsp;have KX:K.In s.heap:=e0.mod.kin.keeps λb o e=>(e0.bs b o e).1
 have lim:s.heap.NoLimit:=e0.mod.nolimit.keeps λb o e=>(e0.bs b o e).1
 have hkind:∀y∈ps.zip us,scope.names.lookup y.1=some .local\/(scope.names.lookup y.1=some .cell/\((cellsFrom (s.heap.objs.size+1) scope.names []).lookup y.1).isSome=true):=λ⟨n,v⟩ hy=>by
  rcases S.par n (zY hy).1 with q | q
  ·exact .inl q
  ·exact .inr ⟨q,qm _ _ _ (.inl q)⟩
 refine codeAny_call_function hr.depth (KX _ _ lk) rfl S.co S.gen rfl (PySem.W.codeRec_of KX hcd) (hb _ _ _ _ ?_);refine wpAny_newFunctionEnv_cells S.kind hkind λenv he s1 x=>?_
 subst he;refine ⟨lim.keeps x.toInCall.keep,codeAny_func ?_⟩;obtain ⟨t,ht,hq⟩:=hbody A outer s H vs Q E (hr.deeper _) hsp;have I:Inv (yb CX P w K mg base N qual scope f cdv A outer s H E) [] (start N vs) H s1:=xZ S hr.hd e0 hl r x;refine wpAny_mono (ht [] s1 (start N vs) H _ I hq) (λfl s' hs=>?_) λe s' hs=>hs
 have fin:∀{σ':St} {H':Hp} {v:V} {u:Value},Inv (yb CX P w K mg base N qual scope f cdv A outer s H E) [] σ' H' s'->RelV v u->Q v H'->CE outer P w H s Q u s' :=
  λ{σ' H' v u} J rv q=>⟨v,H',J.os,J.bare,J.base,J.hok,rv,q⟩
 cases fl with
 | ret u =>
  obtain ⟨v,σ',H',J,rv,q⟩:=hs;exact fin J rv q
 | next =>
  obtain ⟨σ',H',J,q⟩:=hs;exact fin (v:=V.non) (u:=Value.none) J rfl q
 | brk =>
  obtain ⟨_,_,_,q⟩:=hs;exact False.elim q
 | cont =>
  obtain ⟨_,_,_,q⟩:=hs;exact False.elim q
section
variable {X:Cx} {x:Str} {p pos:Pos} {e:Expr} {es:List Expr} {t:TA} {id T:String} {r:List V->Hp->VK->Prop}
def Ey (r:List V->Hp->VK->Prop) (t:TA):TE:=λσ H Q=>t σ H λvs H1=>r vs H1 Q
theorem cz (hc:pK X (.builtin id) r) (hg:Gl X x) (hm:X.mg x=none) (hv:bootBuiltins x=some (.builtin id)) (ha:PA X (e :: es) t) (hn:x≠"__name__":=by decide) (hdb:(x == ("__debug__":Str))=false:=by decide)
  (he:starEach (e :: es) X.env=(false,eval e X.env) :: starEach es X.env:=by rfl) (hpl:(backTo pos (starEach es X.env)).any (·.1)=false:=by rfl):PE X (.Call (.Name x p) (e :: es) [] pos) (Ey r t):=by
 intro pins s σ H Q I h;refine wpAny_Call_Name_kw (oP I hg hm hv ?_ hn hdb);exact PyProof.Rows.callWith_builtin1 (fe (ha pos pins s σ H _ I h) λus s1 ⟨vs,H1,I1,r1,q1⟩=>hc pins s1 σ H1 vs us Q I1 r1 q1) he hpl
theorem so (hc:pK X (.type T) r) (hg:Gl X x) (hm:X.mg x=none) (hv:bootBuiltins x=some (.type T)) (ha:PA X (e :: es) t) (hn:x≠"__name__":=by decide) (hdb:(x == ("__debug__":Str))=false:=by decide)
  (he:starEach (e :: es) X.env=(false,eval e X.env) :: starEach es X.env:=by rfl) (hpl:(backTo pos (starEach es X.env)).any (·.1)=false:=by rfl):PE X (.Call (.Name x p) (e :: es) [] pos) (Ey r t):=by
 intro pins s σ H Q I h;refine wpAny_Call_Name_kw (oP I hg hm hv ?_ hn hdb);exact PyProof.Rows.callWith_type1 (fe (ha pos pins s σ H _ I h) λus s1 ⟨vs,H1,I1,r1,q1⟩=>hc pins s1 σ H1 vs us Q I1 r1 q1) he hpl
end
end L2
namespace HT
open PySem PyProof.Rows
section
open PySem.SeqAt
open PySem.AutoSeq1 (wpAny_loadPart')
open PySem.MeetsSeq PySem.MeetsSeq2 PySem.MeetsSeq3
end
section
variable {prog:Program} {w:World} {A:Around} {E:Value->Shared->Prop} {s:Shared}
def uT (n d:Nat):Option Int->Nat
 | none=>d
 | some v=>if v < 0 then (v+(n:Int)).toNat else min v.toNat n
theorem uS (n d:Nat):uT n d none=d:=rfl
theorem wI (n d k:Nat):uT n d (some (k:Int))=min k n:=by
 show (if (k:Int) < 0 then ((k:Int)+(n:Int)).toNat else min (k:Int).toNat n)=min k n
 rw[if_neg (by lia),Int.toNat_natCast]
end
end HT
namespace L2
open PySem PySem.Spec PyProof.Rows
abbrev TO:=St->Hp->(Option Int->Hp->Prop)->Prop
def PO (X:Cx) (e:Option Expr) (t:TO):Prop :=
 ∀(pins:List (Addr×Obj)) (s:Shared) (σ:St) (H:Hp) (Q:Option Int->Hp->Prop),Inv X pins σ H s->t σ H Q →
  wpAny (model X.prog X.w) X.A (evalPart e X.env) (λu s'=>∃o H',Inv X pins σ H' s'/\IsPart u o/\Q o H') X.xe s
def wB:TO:=λ_ H Q=>Q none H
def A8 (t:TE):TO:=λσ H Q=>t σ H λx H1=>∃i,x=.int i/\Q (some i) H1
theorem intsAre_of {ns:List Int}:∀{us:List Value},b6 (ns.map V.int) us->IntsAre us ns:=by
 induction ns with
 | nil=>intro us r;rw[List.map_nil] at r;cases r;exact .nil
 | cons n ns ih =>
  intro us r;rw[kJ] at r;cases r with
  | cons r1 r2 =>
   obtain ⟨t,e⟩:=r1;subst e;exact .cons n t (ih r2)
section
variable {X:Cx} {e:Expr} {te:TE} {lo hi:Option Expr} {tl th:TO} {pos p2:Pos}
theorem wO:PO X none wB:=by
 intro pins s σ H Q I h;rw[evalPart_none];exact wpAny_pure ⟨none,H,I,.none,h⟩
theorem wM (h:PE X e te):PO X (some e) (A8 te):=by
 intro pins s σ H Q I hw;rw[evalPart_some];refine fe (h pins s σ H _ I hw) λu s1 ⟨x,H1,I1,r1,q1⟩=>?_
 obtain ⟨i,rfl,q⟩:=q1;obtain ⟨t,rfl⟩:=r1;exact ⟨some i,H1,I1,.int i t,q⟩
def SlR (X:Cx) (r:V->Option Int->Option Int->Hp->VK->Prop):Prop :=
 ∀(pins:List (Addr×Obj)) (s:Shared) (σ:St) (H:Hp) (x:V) (v vl vu:Value) (lo hi:Option Int) (sl:Addr) (Q:VK),Inv X pins σ H s->RelV x v->s.heap.IsSliceOf sl vl vu .none->IsPart vl lo->IsPart vu hi->r x lo hi H Q →
  ∃T id,typeLookup (.type T) "__getitem__"=pure (some (.builtin id))/\s.TypeIs v T/\wpAny (model X.prog X.w) X.A (getItem v (.ref sl)) (EP X pins σ Q) X.xe s
def tSl (r:V->Option Int->Option Int->Hp->VK->Prop) (te:TE) (tl th:TO):TE:=λσ H Q=>te σ H λx H1=>tl σ H1 λl H2=>th σ H2 λu H3=>r x l u H3 Q
theorem u6 {r:V->Option Int->Option Int->Hp->VK->Prop} (hr:SlR X r) (he:PE X e te) (hl:PO X lo tl) (hu:PO X hi th):PE X (.Subscript e (.Slice lo hi none p2) pos) (tSl r te tl th):=by
 intro pins s σ H Q I h;refine Subscript_ (fe (he pins s σ H _ I h) λv s1 ⟨x,H1,I1,r1,q1⟩=>?_);refine wpAny_Slice (fe (hl pins s1 σ H1 _ I1 q1) λvl s2 ⟨l,H2,I2,pl,q2⟩=>fe (hu pins s2 σ H2 _ I2 q2) λvu s3 ⟨u,H3,I3,pu,q3⟩=>?_);rw[evalPart_none];refine wpAny_pure ?_;have I4:Inv X pins σ H3 { s3 with heap:=s3.heap.push { cls:=.type "slice",data:=.fields #[vl,vu,.none] } }:=I3.kept (t':=s3.toks) λb ob q=>Heap.get?_push_of_some _ q
 obtain ⟨T,id,hT,ht,hg⟩:=hr pins { s3 with heap:=s3.heap.push { cls:=.type "slice",data:=.fields #[vl,vu,.none] } } σ H3 x v vl vu l u s3.heap.objs.size Q I4 r1 (Heap.IsSliceOf.new ..) pl pu q3;show wpAny (model X.prog X.w) X.A (subscriptTail e (.Slice lo hi none p2) v (.ref s3.heap.objs.size)) (EP X pins σ Q) X.xe { s3 with heap:=s3.heap.push { cls:=.type "slice",data:=.fields #[vl,vu,.none] } }
 exact tail_any (ops:=[.ref s3.heap.objs.size,v]) ht hT hg (by with_unfolding_all rfl)
def nZ (xs:List V) (lo hi:Option Int):List V:=(xs.drop (HT.uT xs.length 0 lo)).take (HT.uT xs.length xs.length hi - HT.uT xs.length 0 lo)
theorem pC (xs:List V) (lo hi:Option Int):(nZ xs lo hi).length<=xs.length:=by
 unfold nZ;rw[dH,List.length_drop]
 lia
end
def zT (n:Nat) (i:Int):Option Nat:=if 0<=i then (if i < n then some i.toNat else none) else if -(n:Int)<=i then some (i+n).toNat else none
def yg {α:Type} (xs:List α) (i:Int):Option α:=(zT xs.length i).bind λj=>xs[j]?
theorem xg {n:Nat} {i:Int} {j:Nat} (h:zT n i=some j):seqIndex? i n=some j/\j < n/\-(n:Int)<=i/\i < n:=by
 unfold zT at h;by_cases h0:0<=i
 ·rw[if_pos h0] at h;by_cases h1:i < n
  ·rw[if_pos h1] at h;have e:i.toNat=j:=bh h;exact ⟨by rw[seqIndex_of h0 h1,e],by lia,by lia,h1⟩
  ·rw[if_neg h1] at h;cases h
 ·rw[if_neg h0] at h;by_cases h1:-(n:Int)<=i
  ·rw[if_pos h1] at h;have e:(i+n).toNat=j:=bh h;exact ⟨by rw[seqIndex_neg (by lia) h1,e],by lia,h1,by lia⟩
  ·rw[if_neg h1] at h;cases h
theorem uu {α:Type} {xs:List α} {i:Int} {v:α} (h:yg xs i=some v):∃j,seqIndex? i xs.length=some j/\xs[j]?=some v/\j < xs.length/\-(xs.length:Int)<=i/\i < xs.length:=by
 unfold yg at h;cases e:zT xs.length i with
 | none=>rw[e] at h;cases h
 | some j =>
  rw[e] at h;obtain ⟨h1,h2,h3,h4⟩:=xg e;exact ⟨j,h1,h,h2,h3,h4⟩
theorem fZ {α:Type} {xs:List α} {j:Nat} {v:α} (h:xs[j]?=some v):yg xs (j:Int)=some v:=by
 have hj:j < xs.length:=(aB.mp h).1
 have e:zT xs.length (j:Int)=some j:=by
  unfold zT;rw[if_pos (by lia),if_pos (by lia)];simp
 unfold yg;rw[e];exact h
def A3 (b:Expr):Prop:=∀o i,subscripted b false o i=operate [o,i] (getItem o i)
def Eg (X:Cx) (r:R2):Prop :=
 ∀(value slice:Expr) (pins:List (Addr×Obj)) (s:Shared) (σ:St) (H:Hp) (x y:V) (v u:Value) (Q:VK),Inv X pins σ H s->RelV x v->RelV y u->r x y H Q →
  subscripted slice false v u=operate [v,u] (getItem v u)->wpAny (model X.prog X.w) X.A (subscriptTail value slice v u) (EP X pins σ Q) X.xe s
def MtR (X:Cx) (id:String) (r:V->List V->Hp->VK->Prop):Prop :=
 ∀(pins:List (Addr×Obj)) (s:Shared) (σ:St) (H:Hp) (x:V) (xs:List V) (v:Value) (us:List Value) (Q:VK),Inv X pins σ H s->RelV x v->b6 xs us->r x xs H Q →
  wpAny (model X.prog X.w) X.A (call (.builtin id) (v :: us)) (EP X pins σ Q) X.xe s
section
variable {X:Cx} {a b:Expr} {ta tb:TE} {pos:Pos}
theorem aP {r:R2} (hr:Eg X r) (ha:PE X a ta) (hb:PE X b tb) (hs:A3 b:=by intro _ _;rfl):PE X (.Subscript a b pos) (Dp r ta tb):=by
 intro pins s σ H Q I h;exact Subscript_ (C3 ha hb I h λv u s2 x y H2 I2 rx ry q=>hr a b pins s2 σ H2 x y v u Q I2 rx ry q (hs _ _))
def Cu (K:FG9):R2:=λx y H Q=>∃p xs i v,x=.ref p/\y=.int i/\bT K H p xs/\yg xs i=some v/\Q v H
def Ct (K:FG9):R2:=λx y H Q=>∃p xs i v,x=.ref p/\y=.int i/\oo K H p xs/\yg xs i=some v/\Q v H
theorem bP:Eg X (Cu X.K):=by
 intro value slice pins s σ H x y v u Q I rx ry h hs;obtain ⟨p,xs,i,z,rfl,rfl,hq,he,q⟩:=h;cases rx;obtain ⟨t,rfl⟩:=ry;obtain ⟨its,r,pl,hz⟩:=I.list hq;obtain ⟨j,h1,h2,h3,h4,h5⟩:=uu he;obtain ⟨w,ew,rw'⟩:=r.get h2;have hl:=r.length;have hn:=qT;have fin:EP X pins σ Q w s:=⟨z,H,I,rw',q⟩;by_cases h0:0<=i
 ·have hj:i.toNat=j:=by
   rw[seqIndex_of h0 h5] at h1;exact bh h1
  exact item_listR pl.isList h0 (by lia) (by rw[hj];simpa using ew) fin hs
 ·have hj:(i+(its.toArray.size:Int)).toNat=j:=by
   rw[seqIndex_neg (by lia) h4] at h1;rw[aG,<- hl];exact bh h1
  exact subscriptTail_builtinR (x:=w) pl.isList.typeIs slot_list_getitem.lookup
   (wpAny_getItem_list_neg (Q:=λr s'=>r=w/\EP X pins σ Q r s') pl.isList (by lia) (by rw[aG] <;> lia) (by lia) (by rw[hj];simpa using ew) ⟨rfl,fin⟩) hs
theorem bo:Eg X (Ct X.K):=by
 intro value slice pins s σ H x y v u Q I rx ry h hs;obtain ⟨p,xs,i,z,rfl,rfl,hq,he,q⟩:=h;cases rx;obtain ⟨t,rfl⟩:=ry;obtain ⟨its,r,pl,hz⟩:=I.tuple hq;obtain ⟨j,h1,h2,h3,h4,h5⟩:=uu he;obtain ⟨w,ew,rw'⟩:=r.get h2;have hl:=r.length;have hn:=qT;have fin:EP X pins σ Q w s:=⟨z,H,I,rw',q⟩
 exact subscriptTail_builtinR (x:=w) pl.typeIs slot_tuple_getitem.lookup
  (getItem_tuple (j:=j) (Q:=λr s'=>r=w/\EP X pins σ Q r s') pl (by lia) (by lia) (by rw[aG,<- hl];exact h1) (by simpa using ew) ⟨rfl,fin⟩) hs
theorem vX (its:List Value) (n j:Nat) (u:Value):Obj.mapSeq (·.setIfInBounds j u) { cls:=.type "list",data:=.seq its.toArray n }={ cls:=.type "list",data:=.seq (its.set j u).toArray n }:=by
 simp [Obj.mapSeq]
theorem Inv.lst {pins:List (Addr×Obj)} {σ:St} {H:Hp} {s:Shared} {p:Addr} {xs:List V} (I:Inv X pins σ H s) (h:H p=some (.lst xs)) :
  ∃(its:List Value) (n:Nat),b6 xs its/\s.heap.get? p=some { cls:=.type "list",data:=.seq its.toArray n }/\xs.length<=sizeLine:=by
 obtain ⟨z,its,n,r,e⟩:=I.hok p _ h;exact ⟨its,n,r,e,z⟩
theorem Inv.lstUpd {pins:List (Addr×Obj)} {σ:St} {H:Hp} {s:Shared} {p:Addr} {xs ys:List V} {its its':List Value} {n n':Nat} {f:Obj->Obj} (I:Inv X pins σ H s) (h:H p=some (.lst xs))
  (ho:s.heap.get? p=some { cls:=.type "list",data:=.seq its.toArray n }) (hf:f { cls:=.type "list",data:=.seq its.toArray n }={ cls:=.type "list",data:=.seq its'.toArray n' }) (r:b6 ys its') (hz:ys.length<=sizeLine) (t:Nat) :
  Inv X pins σ (upd H p (.lst ys)) { s with heap:=s.heap.update p f,toks:=t }:=by
 have e:(s.heap.update p f).get? p=some { cls:=.type "list",data:=.seq its'.toArray n' }:=by
  rw[Heap.get?_update_self f ho (by rw[hf] <;> rfl),hf]
 refine I.write (x:=p) (e:=p) (by rw[h];trivial) (.inl rfl) (λb u hb q=>(Heap.get?_update_other _ _ (Ne.symm hb)).trans q) ⟨_,e⟩ ?_;exact ⟨hz,its',n',r,e⟩
def Bq:V->V->V->Hp->(Hp->Prop)->Prop:=λo i v H Q=>∃p xs k j,o=.ref p/\i=.int k/\H p=some (.lst xs)/\zT xs.length k=some j/\Q (upd H p (.lst (xs.set j v)))
theorem set_list:C5 X Bq:=by
 intro pins s σ H o i v ov iv u Q I ro ri rv h;obtain ⟨p,xs,k,j,rfl,rfl,hp,hj,q⟩:=h;cases ro;obtain ⟨t,rfl⟩:=ri;obtain ⟨its,n,r,ho,hz⟩:=I.lst hp;obtain ⟨h1,h2,h3,h4⟩:=xg hj;have hl:=r.length;have hn:=qT
 have I':Inv X pins σ (upd H p (.lst (xs.set j v))) { s with heap:=s.heap.update p (Obj.mapSeq (·.setIfInBounds j u)) } :=
  I.lstUpd hp ho (vX its n j u) (r.set rv j) (by rw[cN];exact hz) s.toks
 by_cases h0:0<=k
 ·have hk:k.toNat=j:=by
   rw[seqIndex_of h0 h4] at h1;exact bh h1
  exact PySem.W.ki_setAt ho h0 (by lia) (by rw[aG,<- hl];exact h4) (by rw[hk];exact ⟨_,I',q⟩)
 ·have hk:(k+(its.toArray.size:Int)).toNat=j:=by
   rw[seqIndex_neg (by lia) h3] at h1;rw[aG,<- hl];exact bh h1
  exact PySem.W.ki_setBack ho (by lia) (by rw[aG,<- hl];exact h3) (by lia) (by rw[hk];exact ⟨_,I',q⟩)
theorem tu (lo hi:Option Int) (n:Nat):(sliceBounds lo hi none n).1=((HT.uT n 0 lo:Nat):Int)/\(sliceBounds lo hi none n).2.1=((HT.uT n n hi:Nat):Int)/\(sliceBounds lo hi none n).2.2=1:=by
 refine ⟨?_,?_,rfl⟩
 ·cases lo with
  | none=>simp [sliceBounds,HT.uT]
  | some i =>
   simp only[sliceBounds,HT.uT,Option.getD_none,show (1:Int) > 0 by decide,if_true];by_cases h:i < 0
   ·simp only[h,if_true] <;> lia
   ·simp only[h,if_false] <;> lia
 ·cases hi with
  | none=>simp [sliceBounds,HT.uT]
  | some i =>
   simp only[sliceBounds,HT.uT,Option.getD_none,show (1:Int) > 0 by decide,if_true];by_cases h:i < 0
   ·simp only[h,if_true] <;> lia
   ·simp only[h,if_false] <;> lia
theorem rL (its:List Value) (lo hi:Option Int):slicePick its.toArray lo hi none=((its.drop (HT.uT its.length 0 lo)).take (HT.uT its.length its.length hi - HT.uT its.length 0 lo)).toArray:=by
 obtain ⟨h1,h2,h3⟩:=tu lo hi its.toArray.size;unfold slicePick;rw[h1,h2,h3];simp only[sliceRange_one,pick_run,aG] <;> rfl
def DK (K:FG9):V->Option Int->Option Int->Hp->VK->Prop:=λx lo hi H Q=>∃a xs,x=.ref a/\bT K H a xs/\∀p,H p=none->Q (.ref p) (upd H p (.lst (nZ xs lo hi)))
theorem wH:SlR X (DK X.K):=by
 intro pins s σ H x v vl vu lo hi sl Q I rx hs pl pu h;obtain ⟨a,xs,rfl,hx,q⟩:=h;cases rx;obtain ⟨its,r,ht,hz⟩:=I.list hx;have hlen:=r.length;refine ⟨"list",_,slot_list_getitem.lookup,ht.isList.typeIs,?_⟩;refine wpAny_getItem_list_slice ht.isList hs pl pu .none (by simp) ?_ (by rw[aG] <;> lia);rw[rL,<- hlen];refine ⟨.ref s.heap.objs.size,_,I.laid (t':=s.toks) (o:=.lst (nZ xs lo hi)) (λb ob q=>Heap.get?_push_of_some _ q) (aj _) ?_,rfl,q _ (I.hok.fresh (aj _))⟩;exact ⟨ag (pC xs lo hi) hz,_,0,(r.drop (HT.uT xs.length 0 lo)).take (HT.uT xs.length xs.length hi - HT.uT xs.length 0 lo),Heap.get?_push_size _ rfl⟩
def nU:V->Bool
 | .non=>true
 | .bl _=>true
 | .int _=>true
 | .str _=>true
 | _=>false
def BF:V->V->Bool
 | .non,.non=>true
 | .bl a,.bl b=>a == b
 | .bl a,.int b=>(if a then 1 else 0) == b
 | .int a,.bl b=>a == (if b then 1 else 0)
 | .int a,.int b=>a == b
 | .str a,.str b=>a == b
 | _,_=>false
theorem CY {A:Around} {s:Shared} {y x:V} {u v:Value} (ry:RelV y u) (rx:RelV x v) (fy:nU y=true) (fx:nU x=true):SeqAt.EqAt A s u v (BF y x):=by
 cases y with
 | non =>
  cases ry;cases x with
  | non=>cases rx;exact SeqAt.EqAt.same _
  | bl b=>cases rx;exact SeqAt.EqAt.none_bool b
  | int b=>obtain ⟨t,rfl⟩:=rx;exact SeqAt.EqAt.none_int b t
  | str b=>obtain ⟨t,rfl⟩:=rx;exact SeqAt.EqAt.none_str b t
  | _=>exact absurd (show false=true from fx) aE
 | bl a =>
  cases ry;cases x with
  | non=>cases rx;exact SeqAt.EqAt.bool_none a
  | bl b=>cases rx;exact SeqAt.EqAt.bool_bool a b
  | int b=>obtain ⟨t,rfl⟩:=rx;exact SeqAt.EqAt.bool_int a b t
  | str b=>obtain ⟨t,rfl⟩:=rx;exact SeqAt.EqAt.bool_str a b t
  | _=>exact absurd (show false=true from fx) aE
 | int a =>
  obtain ⟨t',rfl⟩:=ry;cases x with
  | non=>cases rx;exact SeqAt.EqAt.int_none a t'
  | bl b=>cases rx;exact SeqAt.EqAt.int_bool a t' b
  | int b=>obtain ⟨t,rfl⟩:=rx;exact SeqAt.EqAt.int_int a t' b t
  | str b=>obtain ⟨t,rfl⟩:=rx;exact SeqAt.EqAt.int_str a t' b t
  | _=>exact absurd (show false=true from fx) aE
 | str a =>
  obtain ⟨t',rfl⟩:=ry;cases x with
  | non=>cases rx;exact SeqAt.EqAt.str_none a t'
  | bl b=>cases rx;exact SeqAt.EqAt.str_bool a t' b
  | int b=>obtain ⟨t,rfl⟩:=rx;exact SeqAt.EqAt.str_int a t' b t
  | str b=>obtain ⟨t,rfl⟩:=rx;exact SeqAt.EqAt.str_str a t' b t
  | _=>exact absurd (show false=true from fx) aE
 | _=>exact absurd (show false=true from fy) aE
def v8 (x:V) (u:Value):Bool:=match u with
 | .none=>BF .non x
 | .bool b=>BF (.bl b) x
 | .int i _=>BF (.int i) x
 | .str z _=>BF (.str z) x
 | _=>false
theorem zA {x y:V} {u:Value} (r:RelV y u) (f:nU y=true):v8 x u=BF y x:=by
 cases y with
 | non=>cases r;rfl
 | bl b=>cases r;rfl
 | int i=>obtain ⟨t,rfl⟩:=r;rfl
 | str z=>obtain ⟨t,rfl⟩:=r;rfl
 | _=>exact absurd (show false=true from f) aE
theorem oi {x:V}:∀{xs:List V} {us:List Value},b6 xs us->xs.all nU=true->us.any (v8 x)=xs.any λy=>BF y x
 | _,_,.nil,_=>rfl
 | y :: xs,u :: us,.cons r t,f=>by
  rw[List.all_cons,cp] at f;rw[List.any_cons,List.any_cons,zA r f.1,oi t f.2]
theorem lE {A:Around} {s:Shared} {x:V} {v:Value} (rx:RelV x v) (fx:nU x=true):∀{xs:List V} {us:List Value},b6 xs us->xs.all nU=true->∀u∈us,SeqAt.EqAt A s u v (v8 x u)
 | _,_,.nil,_=>λu hu=>by cases hu
 | y :: xs,u :: us,.cons r t,f=>λu' hu=>by
  rw[List.all_cons,cp] at f;rcases aI.mp hu with rfl | hu
  ·rw[zA r f.1];exact CY r rx f.1 fx
  ·exact lE rx fx t f.2 u' hu
def En (x:V) (xs:List V):Bool:=xs.any λy=>BF y x
def EB (K:FG9) (neg:Bool):R2:=λx y H Q=>∃p xs,y=.ref p/\(bT K H p xs\/oo K H p xs)/\nU x=true/\xs.all nU=true/\Q (.bl (if neg then !En x xs else En x xs)) H
theorem xU:oY X (compareOp .In) (EB X.K false):=by
 intro pins s σ H x y v u Q I rx ry h;obtain ⟨p,xs,rfl,hq,fx,fs,q⟩:=h;cases ry;rcases hq with hq | hq
 ·obtain ⟨its,r,pl,hz⟩:=I.list hq;refine SeqAt.in_listAt (v8 x) pl.isList (λw hw=>lE rx fx r fs w (by simpa using hw)) ⟨.bl _,H,I,rfl,?_⟩;rw[show its.toArray.any (v8 x)=its.any (v8 x) by simp,oi r fs];exact q
 ·obtain ⟨its,r,pl,hz⟩:=I.tuple hq;refine SeqAt.in_tupleAt (v8 x) pl (λw hw=>lE rx fx r fs w (by simpa using hw)) ⟨.bl _,H,I,rfl,?_⟩;rw[show its.toArray.any (v8 x)=its.any (v8 x) by simp,oi r fs];exact q
theorem tP:oY X (compareOp .NotIn) (EB X.K true):=by
 intro pins s σ H x y v u Q I rx ry h;obtain ⟨p,xs,rfl,hq,fx,fs,q⟩:=h;cases ry;rcases hq with hq | hq
 ·obtain ⟨its,r,pl,hz⟩:=I.list hq;refine SeqAt.notIn_listAt (v8 x) pl.isList (λw hw=>lE rx fx r fs w (by simpa using hw)) ⟨.bl _,H,I,rfl,?_⟩;rw[show its.toArray.any (v8 x)=its.any (v8 x) by simp,oi r fs];exact q
 ·obtain ⟨its,r,pl,hz⟩:=I.tuple hq;refine SeqAt.notIn_tupleAt (v8 x) pl (λw hw=>lE rx fx r fs w (by simpa using hw)) ⟨.bl _,H,I,rfl,?_⟩;rw[show its.toArray.any (v8 x)=its.any (v8 x) by simp,oi r fs];exact q
theorem cv:pK X (.builtin "len") (λxs H Q=>∃p ys,xs=[.ref p]/\(bT X.K H p ys\/oo X.K H p ys)/\Q (.int ys.length) H):=by
 intro pins s σ H xs us Q I r h;obtain ⟨p,ys,rfl,hq,q⟩:=h;obtain ⟨u,rfl,rx⟩:=vals1 r;cases rx;have hn:=qT;rcases hq with hq | hq
 ·obtain ⟨its,r',pl,hz⟩:=I.list hq;have hlen:=r'.length;exact Calls.call_len_list pl.isList (by simp only[aG] <;> lia) ⟨.int ys.length,H,I.tok _,⟨s.toks+1,by rw[aG,hlen]⟩,q⟩
 ·obtain ⟨its,r',pl,hz⟩:=I.tuple hq;have hlen:=r'.length;exact len_tuple pl (by simp only[aG] <;> lia) ⟨.int ys.length,H,I.tok _,⟨s.toks+1,by rw[aG,hlen]⟩,q⟩
theorem n8:pK X (.type "list") (λxs H Q=>∃p ys,xs=[.ref p]/\(bT X.K H p ys\/oo X.K H p ys)/\∀l,H l=none->Q (.ref l) (upd H l (.lst ys))):=by
 intro pins s σ H xs us Q I r h;obtain ⟨p,ys,rfl,hq,q⟩:=h;obtain ⟨u,rfl,rx⟩:=vals1 r;cases rx
 have fin:∀(its:List Value),b6 ys its->ys.length<=sizeLine->∀(h':Heap) (c':Nat),(∀b o',s.heap.get? b=some o'->h'.get? b=some o') →
   h'.get? s.heap.objs.size=some { cls:=.type "list",dict:=none,data:=.seq its.toArray c',slots:=#[] }->EP X pins σ Q (.ref s.heap.objs.size) { s with heap:=h' }:=λits r' hz h' c' kp e =>
  ⟨.ref s.heap.objs.size,_,I.laid (t':=s.toks) kp (aj _) (show jA X.prog X.w _ h' _ (.lst ys) from ⟨hz,its,c',r',e⟩),rfl,q _ (I.hok.fresh (aj _))⟩
 rcases hq with hq | hq
 ·obtain ⟨its,r',pl,hz⟩:=I.list hq;have hlen:=r'.length;obtain ⟨o,ho,hc,n,hd⟩:=pl.isList;exact call_list_seq p (.inl rfl) ho hc hd (λh' c' kp e=>fin its r' hz h' c' kp e) (by simp only[aG] <;> lia)
 ·obtain ⟨its,r',pl,hz⟩:=I.tuple hq;have hlen:=r'.length;obtain ⟨o,ho,hc,n,hd⟩:=pl;exact call_list_seq p (.inr rfl) ho hc hd (λh' c' kp e=>fin its r' hz h' c' kp e) (by simp only[aG] <;> lia)
def Ex (K:FG9) (T:String) (x:V) (H:Hp):Prop:=match x with
 | .str _=>T="str"
 | .int _=>T="int"
 | .ref p=>(T="list"/\∃xs,bT K H p xs)\/(T="tuple"/\∃o,K.lookup p=some o/\o.cls=.type "tuple"/\o.dict=none) \/
   (T="dict"/\((∃kvs,H p=some (.dK kvs))\/∃kvs,H p=some (.dT kvs)))\/(T="set"/\∃S n,H p=some (.set S n))
 | _=>False
theorem BM {pins:List (Addr×Obj)} {σ:St} {H:Hp} {s:Shared} {T:String} {x:V} {v:Value} (I:Inv X pins σ H s) (r:RelV x v) (ty:Ex X.K T x H) :
  s.TypeIs v T/\∀a,v=.ref a->∃ob,s.heap.get? a=some ob/\ob.dict=none:=by
 cases x with
 | str z =>
  obtain ⟨t,rfl⟩:=r;cases (show T="str" from ty);exact ⟨typeIs_str s z t,λ_ e=>nomatch e⟩
 | int i =>
  obtain ⟨t,rfl⟩:=r;cases (show T="int" from ty);exact ⟨typeIs_int s i t,λ_ e=>nomatch e⟩
 | ref p =>
  cases r;rcases ty with ⟨rfl,xs,hq⟩ | ⟨rfl,o,hk,hc,hd⟩ | ⟨rfl,hk⟩ | ⟨rfl,S,n,hk⟩
  ·obtain ⟨its,_,pl,_⟩:=I.list hq;refine ⟨pl.isList.typeIs,λa e=>?_⟩;cases e;obtain ⟨o,n,e,c,hd,_⟩:=pl;exact ⟨o,e,hd⟩
  ·refine ⟨⟨o,I.kIn p o hk,hc⟩,λa e=>?_⟩;cases e;exact ⟨o,I.kIn _ o hk,hd⟩
  ·have z:∃o,s.heap.get? p=some o/\o.ExactDict:=by
    rcases hk with ⟨kvs,hk⟩ | ⟨kvs,hk⟩
    ·obtain ⟨_,_,_,_,o,_,_,e,ex,_⟩:=I.hok p _ hk;exact ⟨o,e,ex⟩
    ·obtain ⟨_,_,_,_,o,_,_,e,ex,_⟩:=I.hok p _ hk;exact ⟨o,e,ex⟩
   obtain ⟨o,e,ex⟩:=z;refine ⟨⟨o,e,ex.1⟩,λa e2=>?_⟩;cases e2;exact ⟨o,e,ex.2.1⟩
  ·obtain ⟨o,_,_,_,e,ex,_⟩:=I.hok p _ hk;refine ⟨⟨o,e,ex.1⟩,λa e2=>?_⟩;cases e2;exact ⟨o,e,ex.2.1⟩
 | _=>exact False.elim ty
def tBM (K:FG9) (T:String) (r:V->List V->Hp->VK->Prop) (to:TE) (t:TA):TE:=λσ H Q=>to σ H λx H1=>Ex K T x H1/\t σ H1 λxs H2=>r x xs H2 Q
variable {o e:Expr} {es:List Expr} {to:TE} {t:TA} {name:Str} {apos cpos:Pos} {T id:String} {r:V->List V->Hp->VK->Prop}
theorem yQ (pa:PlainAttrs T) (slot:Slot T name id) (hty:typeOf (.builtin id)=pure (.type "method_descriptor")) (hm:MtR X id r) (ho:PE X o to) (ha:PA X (e :: es) t)
  (hbase:attributeBase o name X.env (eval o X.env)=eval o X.env:=by rfl)
  (hfew:((backTo cpos (starEach (e :: es) X.env)).all (λx=>!x.1) && (backToKw cpos (keywordEach [] X.env)).all (λx=>x.1.isSome)
   && decide ((e :: es).length+([]:List Keyword).length+(if ([]:List Keyword).isEmpty then 0 else 1) < 30))=true:=by rfl)
  (hline:(apos.endLine == cpos.line)=true:=by rfl) (hs:starEach (e :: es) X.env=(false,eval e X.env) :: starEach es X.env:=by rfl) (hplain:(backTo cpos (starEach es X.env)).any (·.1)=false:=by rfl) :
  PE X (.Call (.Attribute o name apos) (e :: es) [] cpos) (tBM X.K T r to t):=by
 intro pins s σ H Q I h;refine wpAny_Call_method_late hbase hfew hline rfl (fe (ho pins s σ H _ I h) λv s1 ⟨x,H1,I1,r1,ty,q1⟩=>?_);obtain ⟨h1,h2⟩:=BM I1 r1 ty;refine ⟨T,id,pa,slot,hty,h1,h2,?_⟩;have hA:=ha cpos pins s1 σ H1 _ I1 q1;rw[hs] at hA ⊢;refine Calls.callWith_builtin (by show (false || (backTo cpos (starEach es X.env)).any (·.1))=false;rw[hplain] <;> rfl) (Calls.evalArgs_plain ?_);exact fe hA λus s2 ⟨vs,H2,I2,r2,q2⟩=>hm pins s2 σ H2 x vs v us Q I2 r1 r2 q2
end
def MtM (X:Cx) (id:String) (r:V->List V->Hp->VK->Prop):Prop :=
 ∀(pins:List (Addr×Obj)) (s:Shared) (σ:St) (H:Hp) (x:V) (xs:List V) (v:Value) (us:List Value) (Q:VK),Inv X pins σ H s->RelV x v->b6 xs us->r x xs H Q →
  wpAny (model X.prog X.w) X.A (call (.builtin id) (v :: us)) (EP X pins σ Q) X.xe s
theorem b6.one:∀{x:V} {us:List Value},b6 [x] us->∃u,us=[u]/\RelV x u
 | _,_,.cons r .nil=>⟨_,rfl,r⟩
theorem b6.rep {xs:List V} {us:List Value} (h:b6 xs us):∀k:Nat,b6 (List.replicate k xs).flatten (List.replicate k us).flatten
 | 0=>.nil
 | k+1=>by
  rw[il,il,ow,ow];exact b6.append h (b6.rep h k)
theorem foldl_rep (its:List Value):∀(k:Nat) (acc:List Value),
  List.foldl (λx1 x2=>x1++x2) acc.toArray (List.replicate k its.toArray)=(acc++(List.replicate k its).flatten).toArray
 | 0,acc=>by simp
 | k+1,acc=>by
  have e:acc.toArray++its.toArray=(acc++its).toArray:=by simp
  have e2:(acc++its)++(List.replicate k its).flatten=acc++(List.replicate (k+1) its).flatten:=by
   rw[il,ow,b9]
  rw[<- e2,<- foldl_rep its k (acc++its),<- e,il,List.foldl_cons]
section
variable {X:Cx} {pins:List (Addr×Obj)} {σ:St} {H:Hp} {s:Shared} {l b:Addr} {xs ys zs:List V}
theorem Inv.lset {its its':List Value} {n:Nat} {f:Array Value->Array Value} {t':Nat} (I:Inv X pins σ H s) (hH:H l=some (.lst xs))
  (e:s.heap.get? l=some { cls:=.type "list",data:=.seq its.toArray n }) (hf:f its.toArray=its'.toArray) (hv:b6 ys its') (hz:ys.length<=sizeLine) :
  Inv X pins σ (upd H l (.lst ys)) { s with heap:=s.heap.update l (Obj.mapSeq f),toks:=t' }:=by
 have q:=PySem.IsL.update e f;rw[hf] at q;refine I.write (x:=l) (e:=l) (by rw[hH];exact trivial) (.inl rfl) (λb' u hb hu=>(Heap.get?_update_other s.heap (Obj.mapSeq f) (Ne.symm hb)).trans hu) ⟨_,q⟩ ?_;exact ⟨hz,its',_,hv,q⟩
theorem Inv.lnew {its:List Value} {t':Nat} (I:Inv X pins σ H s) (hv:b6 ys its) (hz:ys.length<=sizeLine) :
  Inv X pins σ (upd H s.heap.objs.size (.lst ys)) { s with heap:=s.heap.push { cls:=.type "list",data:=.seq its.toArray },toks:=t' } :=
 I.laid (λ_ _ q=>Heap.get?_push_of_some _ q) (aj _) ⟨hz,its,0,hv,Heap.get?_push_size _ rfl⟩
theorem Inv.fresh (I:Inv X pins σ H s):H s.heap.objs.size=none:=I.hok.fresh (aj _)
theorem Inv.lstM (I:Inv X pins σ H s) (hH:H l=some (.lst xs)):xs.length<=sizeLine/\∃(its:List Value) (n:Nat),b6 xs its/\xs.length=its.length/\s.heap.get? l=some { cls:=.type "list",data:=.seq its.toArray n }:=by
 obtain ⟨z,its,n,r,e⟩:=I.hok l _ hH;exact ⟨z,its,n,r,r.length,e⟩
theorem yY {n:Nat} (h:n<=sizeLine):Builtin.List.listTooLong n=false:=by
 unfold Builtin.List.listTooLong;exact decide_eq_false (by lia)
end
section
variable {X:Cx}
def wJ:V->List V->Hp->VK->Prop:=λx vs H Q=>∃l xs y,x=.ref l/\vs=[y]/\H l=some (.lst xs)/\xs.length < sizeLine/\Q .non (upd H l (.lst (xs++[y])))
theorem sC:MtM X "list.append" wJ:=by
 intro pins s σ H x vs v us Q I rx rv h;obtain ⟨l,xs,y,rfl,rfl,hH,hz,q⟩:=h;cases rx;obtain ⟨u,rfl,ru⟩:=rv.one;obtain ⟨z,its,n,r,hl,e⟩:=I.lstM hH;refine call_meets F.slot_list_append ⟨_,e,rfl⟩ F.entry_list_append (F.args_list_append_2 _ _) (PySem.list_append l its.toArray n u (by rw[aG];lia)) ⟨e,?_⟩;refine ⟨.non,_,I.lset (its':=its++[u]) hH e (by simp) (r.append (.cons ru .nil)) ?_,rfl,q⟩;rw[au,bO]
 lia
def DO:R2:=λx y H Q=>∃l b xs zs,x=.ref l/\y=.ref b/\H l=some (.lst xs)/\H b=some (.lst zs)/\xs.length+zs.length<=sizeLine/\∀p,H p=none->Q (.ref p) (upd H p (.lst (xs++zs)))
theorem vS:oY X (binaryOp .Add) DO:=by
 intro pins s σ H x y v u Q I rx ry h;obtain ⟨l,b,xs,zs,rfl,rfl,hH,hB,hz,q⟩:=h;cases rx;cases ry;obtain ⟨z,its,n,r,hl,e⟩:=I.lstM hH;obtain ⟨z2,its2,n2,r2,hl2,e2⟩:=I.lstM hB;refine PySem.P.add_list e e2 ?_ (by rw[aG,aG];lia);have ea:its.toArray++its2.toArray=(its++its2).toArray:=by simp
 rw[ea];exact ⟨.ref _,_,I.lnew (t':=s.toks) (r.append r2) (by rw[au];lia),rfl,q _ I.fresh⟩
def DL:R2:=λx y H Q=>∃l k xs,x=.ref l/\y=.int k/\H l=some (.lst xs)/\-(2^63)<=k/\k < 2^63/\xs.length*k.toNat<=sizeLine /\
 ∀p,H p=none->Q (.ref p) (upd H p (.lst (List.replicate k.toNat xs).flatten))
theorem len_rep {α:Type} (xs:List α) (k:Nat):(List.replicate k xs).flatten.length=k*xs.length:=by
 induction k with
 | zero=>simp
 | succ k ih=>rw[il,ow,au,ih,jC,Nat.add_comm]
theorem yR:oY X (binaryOp .Mult) DL:=by
 intro pins s σ H x y v u Q I rx ry h;obtain ⟨l,k,xs,rfl,rfl,hH,h1,h2,hz,q⟩:=h;cases rx;obtain ⟨t,rfl⟩:=ry;obtain ⟨z,its,n,r,hl,e⟩:=I.lstM hH;have hlen:its.toArray.size*k.toNat<=sizeLine:=by rw[aG,<- hl];exact hz
 have hcap:¬its.toArray.size*k.toNat > (2^63 - 1) / 8:=by
  have:(sizeLine:Nat)<=(2^63 - 1) / 8:=by decide
  lia
 have hfit:¬(!Builtin.List.listFitsIndex k)=true:=by
  rw[fitsIndex_both h1 h2];exact aE
 have hlong:¬Builtin.List.listTooLong (its.toArray.size*k.toNat)=true:=by
  rw[yY hlen];exact aE
 have hnew:List.foldl (λx1 x2=>x1++x2) #[] (List.replicate (if its.toArray.isEmpty=true then 0 else k.toNat) its.toArray)=(List.replicate k.toNat its).flatten.toArray:=by
  have f0:∀m:Nat,List.foldl (λx1 x2=>x1++x2) #[] (List.replicate m its.toArray)=(List.replicate m its).flatten.toArray:=λm=>by
   have:=foldl_rep its m [];rw[bR] at this;exact this
  rw[f0];cases its with
  | nil=>simp
  | cons a r'=>rw[if_neg (by simp)]
 refine wpAny_binaryOp_repeat_ref (T:="list") (U:="int") (by decide) ⟨_,e,rfl⟩ (λs'=>typeIs_int s' k t) noFill_list_mul F.fills_int_mul F.slot_int_rmul repeat_list F.slot_int_index.lookup
  (call_meets F.slot_int_rmul (typeIs_int s k t) F.entry_int_rmul (F.args_int_rmul_2 _ _) (int___rmul___int_list k t l its.toArray n)
   ⟨e,rfl,⟨_,e,rfl⟩,call_meets F.slot_list_mul ⟨_,e,rfl⟩ F.entry_list_mul (F.args_list_mul_2 _ _) (AutoListH.list___mul___list_int_3 l its.toArray n k t hfit hcap hlong) ⟨e,?_⟩⟩)
 rw[hnew];exact ⟨.ref _,_,I.lnew (t':=s.toks) (r.rep k.toNat) (by rw[len_rep,bX];exact hz),rfl,q _ I.fresh⟩
end
end L2
namespace Att
open PySem PySem.W PySem.Calls PyProof.Rows
theorem pQ {P:Params} {h:Heap}:∀(ns:List Int) (vs:List Value),WellAll P h vs (ns.map WData.int)->IntsAre vs ns:=by
 intro ns
 induction ns with
 | nil =>
  intro vs w;rw[List.map_nil] at w;cases w;exact .nil
 | cons n ns ih =>
  intro vs w;rw[kJ] at w;cases w with
  | cons a b =>
   cases a;exact .cons _ _ (ih _ b)
theorem xM {l:OpenLaw} {n:Nat} (hn:l.most=some n) {P:Params} {h:Heap} {args:List WData} {vals:List Value}
  (hpre:l.row.toRowW.claim.pre args=true) (hwl:WellAll P h vals args) :
  ∃a vs ns,vals=[Value.ref a]/\args=[WData.list (ns.map WData.int)]/\h.get? a=some { cls:=.type "list",data:=.seq vs.toArray }/\IntsAre vs ns/\ns.length<=n:=by
 have hsh:WShape.hasAll [] args [.list .int]=true:=(pre_splitW hpre).1;have hc:l.pre.holds [] { args:=args }=true:=(pre_splitW hpre).2;obtain ⟨d,r,rfl,h1,h2⟩:=hasAllW_cons hsh;obtain rfl:=hasAllW_nil h2;obtain ⟨xs,rfl,h3⟩:=hasW_list h1;obtain ⟨ns,rfl⟩:=items_int h3
 have hlen:ns.length<=n:=by
  unfold OpenLaw.pre at hc
  have h4:(WTm.not (.lt (.lit (.int (n:Int))) (.len (.arg 0)))).holds [] { args:=[.list (ns.map .int)] }=true:=by
   have h4:=(holds_andW hc).1;rw[hn] at h4;exact h4
  have h5:=condW_of h4 (w_not (w_lt w_lit (w_len_list (w_arg rfl))));rw[ah] at h5;refine Nat.le_of_not_lt λq=>?_
  have q':(n:Int) < ((ns.length:Nat):Int):=by lia
  first
   | (rw[decide_eq_true q'] at h5;exact absurd h5 (by decide))
   | (simp at h5;lia)
 cases hwl with
 | cons w1 w2 =>
  cases w2;cases w1 with
  | list ho hall=>exact ⟨_,_,ns,rfl,rfl,ho,pQ ns _ hall,hlen⟩
theorem xR (l:OpenLaw) (args:List WData):l.row.toRowW.claim.post args (.bool true) args=true :=
 postW_of (r:=l.row.toRowW) (X:=(true == true))
  (show WShape.has [] (.bool true) .bool=true by first | rfl | decide | simp [WShape.has,WShape.arms,WShape.armsAll])
  (show (WTm.eq .res (.lit (.bool true))).value [] { args:=args,res:=some (.bool true),after:=args }=some (.bool (true == true)) from w_eq_bool (w_res rfl) w_lit) rfl
theorem vC {l:OpenLaw} {n:Nat} {q:Program} {loose:List Str} {XP:(Str->Option Value)->Heap->Prop} {YP:World->Heap->Prop} {d:DefRec}
  (hn:l.most=some n) (hdf:d.params.defaults=[])
  (call:∀(w:World) (s₀ s₁:Shared) (mg mb:Str->Option Value) (fa:Addr) (o:Obj) (pm cd doc:Value) (a:Addr) (vs:List Value) (ns:List Int),
   Ground q loose [] XP w s₀ mg mb s₁.heap->YP w s₁.heap →
   s₁.heap.get? fa=some o->o.data=.func (docDef d.name d.params d.body d.scope pm cd doc)->s₁.heap.CodeRec cd d.name->mg d.name=some (.ref fa) →
   s₁.heap.get? a=some { cls:=.type "list",data:=.seq vs.toArray }->IntsAre vs ns->ns.length<=n->s₁.gens=#[] →
   codeAny (model l.prog w) callerA (.call (.ref fa) ⟨[.ref a],[]⟩) (λr s'=>r=.ok (.ret (.bool true))/\OldK s₁.heap s'.heap/\s'.os=s₁.os/\AllBare s'.gens) s₁) :
  WalkO q loose XP YP l.row.toRowW d [] (λf vs=>PySem.call f vs):=by
 intro w s₀ s₁ mg mb G Y fa o pm cd doc dV kV ho hd hcd hD hmg hg args vals as hpre hlay hrd hwl hlo;obtain rfl:dV=.none:=Dflts.none hD hdf;obtain rfl:kV=.none:=Dflts.noKw hD;obtain ⟨a,vs,ns,rfl,rfl,hobj,hints,hlen⟩:=xM hn hpre hwl;refine enter_call (codeAny_mono (call w s₀ s₁ mg mb fa o pm cd doc a vs ns G Y ho (fd_plain hd) hcd hmg hobj hints hlen hg) λr s' hq=>?_);obtain ⟨rfl,h2,h3,h4⟩:=hq;exact ⟨.inl ⟨.bool true,.bool true,[],rfl,λ_=>rfl,.bool true,xR l _,λ_=>⟨List.Pairwise.nil,λ_ hm=>(nomatch hm)⟩⟩,h2,h3,h4⟩
section
variable {prog:Program} {w:World} {A:Around} {E:Value->Shared->Prop} {s:Shared} {K:Frag}
end
end Att
namespace L2
open PySem PySem.Spec PyProof.Rows
theorem rS:∀{vs:List Value} {ns:List Int},IntsAre vs ns->b6 (ns.map V.int) vs
 | _,_,.nil=>.nil
 | _,_,.cons n t h=>.cons ⟨t,rfl⟩ (rS h)
def C6 (H:Hp):Prop:=∀b,H b=none\/∃o xs,H b=some (.frz o (.lst xs))
theorem zc {P : Program} {w : World} {K : FG9} {mg mb : Str → Option Value} {CX : zV} {k : Nat} {fa a : Addr} {fd : FuncData} {x : Str} {sp : Sp} {s₁ : Shared} {vs : List Value} {ns : List Int}
    (KX : K.In s₁.heap) (hns : s₁.heap.Ns mainGlobals mg) (hb : s₁.heap.Ns builtinsNs mb) (hbb : ∀ x : Str, x ≠ "__name__" → mb x = bootBuiltins x) (hlim : s₁.heap.NoLimit) (hg : s₁.gens = #[])
    (ha : s₁.heap.get? a = some { cls := .type "list", data := .seq vs.toArray }) (hi : IntsAre vs ns) (hl : ns.length ≤ sizeLine) (hr : kC k callerA)
    (F : ∀ base : Heap, K.In base → base.Ns mainGlobals mg → cL P w K mg base CX k fa fd [x] sp) (hbind : ∀ (s : Shared) (u : Value), BindsTo s fd ⟨[u], []⟩ [(x, u)])
    (hsp : ∀ H : Hp, C6 H → bT K H a (ns.map V.int) → sp [.ref a] H (λv _ => v = .bl true) λ_ _ _ => False)
    (hCX : ∀ H e s', CX [] H s₁ (λ_ _ _ => False) e s' → False) :
    codeAny (model P w) callerA (.call (.ref fa) ⟨[.ref a], []⟩) (λr s' => r = .ok (.ret (.bool true)) /\ OldK s₁.heap s'.heap /\ s'.os = s₁.os /\ AllBare s'.gens) s₁ := by
  have rv := rS hi;have lenV := hi.length
  have core : ∀ H : Hp, C6 H → bT K H a (ns.map V.int) → rC P w H s₁.heap → (∀ b, H b ≠ none → b = a) → (H a ≠ none → K.lookup a = none) →
      codeAny (model P w) callerA (.call (.ref fa) ⟨[.ref a], []⟩) (λr s' => r = .ok (.ret (.bool true)) /\ OldK s₁.heap s'.heap /\ s'.os = s₁.os /\ AllBare s'.gens) s₁ := by
    intro H hO hS hok hA hK;have base_of : ∀ {b : Addr} {o : Obj}, s₁.heap.get? b = some o → H b = none → (t9 s₁.heap H).get? b = some o := λe n => zh e n
    have noA : ∀ {b : Addr} {o : Obj} {es : Array DictEntry} {ep : Nat}, s₁.heap.get? b = some o → o.data = .dict es ep → H b = none := λ{b o es ep} e d => by
      cases q : H b with
      | none => rfl
      | some u =>
        have e' : b = a := hA b (by rw [q]; simp);subst e';rw [ha] at e; cases e;have d' : Data.seq vs.toArray _ = Data.dict es ep := d;cases d'
    have nsK : ∀ {b : Addr} {m : Str → Option Value}, s₁.heap.Ns b m → (t9 s₁.heap H).Ns b m := λ{b m} ⟨o, es, ep, e, d, r⟩ => ⟨o, es, ep, base_of e (noA e d), d, r⟩
    have hKb : K.In (t9 s₁.heap H) := λb o e => base_of (KX b o e) (by
      cases q : H b with
      | none => rfl
      | some u =>
        have e' : b = a := hA b (by rw [q]; simp);subst e';rw [hK (by rw [q]; simp)] at e; cases e)
    have hM : Mod K mg (t9 s₁.heap H) := ⟨hKb, nsK hns, ⟨mb, nsK hb, hbb⟩, let ⟨mc, h1, h2⟩ := hlim; ⟨mc, nsK h1, h2⟩⟩;have e0 : A4 P w K mg (t9 s₁.heap H) callerA [] s₁ H := ⟨rfl, hM, λb o e => AF e, Nat.le_of_eq (x8 _ _), trivial, λb hb => absurd (show b ∈ ([] : List Addr) from hb) (by simp), hok, .of_eq hg⟩;refine codeAny_mono ((F _ hKb (nsK hns)).run callerA [] s₁ H ⟨[.ref a], []⟩ [.ref a] [.ref a] _ _ hr e0 (hbind s₁ (.ref a)) (.cons rfl .nil) (hsp H hO hS)) λr s' h => ?_
    cases r with
    | error e => exact (hCX H e s' h).elim
    | ok fl =>
      cases fl with
      | next => exact False.elim h
      | brk => exact False.elim h
      | cont => exact False.elim h
      | ret u =>
        obtain ⟨v, H', os, bare, un, hok', r', q⟩ := h;have q' : v = .bl true := q;subst q';obtain rfl : u = Value.bool true := r';refine ⟨rfl, OldK.of_keep λb o e => ?_, os, bare⟩;cases q : H b with
        | none => exact un.keep b o e q (by intro z; exact absurd (show b ∈ ([] : List Addr) from z) (by simp)) (by simp)
        | some u =>
          rcases hO b with z | ⟨ob, xs, z⟩
          · rw [q] at z; cases z
          · have z2 := un.frzs b ob _ z;obtain ⟨e1, _⟩ := hok b _ z;obtain ⟨e2, _⟩ := hok' b _ z2;rw [e] at e1; cases e1;exact e2
  cases hk : K.lookup a with
  | some o =>
    have e := KX a o hk;rw [ha] at e;cases e;refine core (λ_ => none) (λ_ => .inl rfl) (.inr ⟨_, vs.toArray, _, hk, rfl, rfl, rfl, by rw [aG, lenV]; exact hl, by simpa using rv⟩) (λb u z => by have z' : (none : Option HO) = some u := z; cases z') (λb z => absurd rfl z) λz => absurd rfl z
  | none =>
    refine core (λb => if b = a then some (.frz { cls := .type "list", data := .seq vs.toArray } (.lst (ns.map V.int))) else none) (λb => ?_) (.inl (.inr ⟨{ cls := .type "list", data := .seq vs.toArray }, if_pos rfl⟩)) (λb u z => ?_) (λb z => ?_) λ_ => hk
    · by_cases hb : b = a
      · exact .inr ⟨_, _, if_pos hb⟩
      · exact .inl (if_neg hb)
    · by_cases hb : b = a
      · have z' := (if_pos hb).symm.trans z;cases z';subst hb;exact ⟨ha, by rw [ah]; exact hl, vs, _, rv, ha⟩
      · have z' := (if_neg hb).symm.trans z;cases z'
    · by_cases hb : b = a
      · exact hb
      · exact absurd (if_neg hb) z
theorem z3 {l:PySem.W.OpenLaw} {n k:Nat} {q:Program} {loose:List Str} {XP:(Str->Option Value)->Heap->Prop} {YP:World->Heap->Prop} {d:DefRec} {K:Params->FG9} {CX:World->zV} {sp:World->Sp} {x:Str}
  (hn:l.most=some n) (hn2:n<=sizeLine) (hdf:d.params.defaults=[]) (hr:kC k callerA)
  (hY:∀(w:World) (h:Heap),YP w h->(K w.params).In h)
  (F:∀(w:World) (mg:Str->Option Value) (fa:Addr) (h:Heap),(K w.params).In h->h.Ns mainGlobals mg->mg d.name=some (.ref fa) →
   ∃fd:FuncData,(∀(s:Shared) (u:Value),BindsTo s fd ⟨[u],[]⟩ [(x,u)]) /\
    ∀base:Heap,(K w.params).In base->base.Ns mainGlobals mg->cL l.prog w (K w.params) mg base (CX w) k fa fd [x] (sp w))
  (hsp:∀(w:World) (H:Hp) (a:Addr) (ns:List Int),ns.length<=n->C6 H->bT (K w.params) H a (ns.map V.int)->sp w [.ref a] H (λv _=>v=.bl true) λ_ _ _=>False)
  (hCX:∀(w:World) (H:Hp) (s:Shared) (e:Value) (s':Shared),CX w [] H s (λ_ _ _=>False) e s'->False) :
  PySem.W.WalkO q loose XP YP l.row.toRowW d [] (λf vs=>PySem.call f vs):=by
 refine Att.vC hn hdf λw s₀ s₁ mg mb fa o pm cd doc a vs ns G Y ho hd hcd hmg hobj hints hlen hg=>?_
 have KX:=hY w _ Y;obtain ⟨fd,hb,hF⟩:=F w mg fa _ KX G.T.g hmg;exact zc KX G.T.g G.T.b G.T.builtins G.T.nolimit hg hobj hints (ag hlen hn2) hr hF hb (λH hO hS=>hsp w H a ns hlen hO hS) λH e s'=>hCX w H s₁ e s'
end L2


namespace L2
open PySem PySem.Spec PyProof.Rows
def bb (s:Stmt):Arguments:=match s with
 | .FunctionDef _ a _ _ _ _ _ _ _ _=>a
 | _=>{ posonlyargs:=[],args:=[],vararg:=none,kwonlyargs:=[],kw_defaults:=[],kwarg:=none,defaults:=[] }
def aX (s:Stmt):List Stmt:=match s with
 | .FunctionDef _ _ b _ _ _ _ _ _ _=>b
 | _=>[]
def ar (s:Stmt):Scope:=match s with
 | .FunctionDef _ _ _ _ _ _ sc _ _ _=>sc
 | _=>{ kind:=.function,names:=[],isGenerator:=false,isCoroutine:=false }
abbrev iQ:zV:=λ_ _ _ _ _ _=>False
abbrev E0:XK:=λ_ _ _=>False
theorem DR {X:Cx}:wc iQ X E0:=λ_ _ _ _ _ _ _ h=>h.elim
theorem cO {X:Cx} {k k':Nat} {f:Addr} {fd:FuncData} {ps:List Str} {sp:Sp} {x:Str} {p pos:Pos} {e:Expr} {es:List Expr} {t:TA} (F:cL X.prog X.w X.K X.mg X.base iQ k f fd ps sp) (hr:kC k' X.A) (hm:X.mg x=some (.ref f)) (hk:PySem.W.keepIn X.K (.ref f)=true) (hb:Binds X.K fd ps []) (ha:PA X (e::es) t) (hle:k<=k':=by decide) (hg:Gl X x:=by exact rfl) (hdb:(x==("__debug__":Str))=false:=by decide) (he:starEach (e::es) X.env=(false,eval e X.env)::starEach es X.env:=by rfl) (hpl:(backTo pos (starEach es X.env)).any (·.1)=false:=by rfl):PE X (.Call (.Name x p) (e::es) [] pos) (yq sp [] E0 t):=AB F (hr.mono hle) hg hm hk hb .nil DR ha hdb he hpl
structure ja (K:FG9) (x qual:Str) (st:Stmt) (f:Addr) (fd:FuncData):Prop where
 ex:∃(oc:Value) (od:Option Addr) (kV doc pm:Value) (an:Option Addr) (cdv ct:Value) (osl:Array (Option Value)),
  fd=PySem.W.fnOf x qual (bb st) (aX st) (ar st) .none kV doc pm an cdv ct/\K.lookup f=some ⟨oc,od,.func fd,osl⟩/\PySem.W.codeIn K cdv qual=true
 kp:PySem.W.keepIn K (.ref f)=true
section
variable {P:Program} {w:World} {K:FG9} {mg:Str->Option Value} {base:Heap}
theorem ja.ok {x qual:Str} {st:Stmt} {f:Addr} {fd:FuncData} {N ps:List Str} {k:Nat} {sp:Sp} (F:ja K x qual st f fd) (S:be N ps (ar st)) (len:∀vs H Q E,sp vs H Q E->vs.length=ps.length)
  (hbody:∀(cdv:Value) (A:Around) (outer:List Env) (s:Shared) (H:Hp) (vs:List V) (Q:VK) (E:XK),kC k (A.deeper (envOfC qual (ar st) s.heap.objs.size f cdv))->sp vs H Q E →
   ∃t,wd (yb iQ P w K mg base N qual (ar st) f cdv A outer s H E).nox (aX st) t/\t { nx:=λ_ H'=>Q .non H',rt:=Q } (start N vs) H):cL P w K mg base iQ (k+1) f fd ps sp:=by
 obtain ⟨oc,od,kV,doc,pm,an,cdv,ct,osl,rfl,lk,hcd⟩:=F.ex;refine D9 lk hcd S len λA outer s H vs Q E hr hsp=>?_
 obtain ⟨t,h,q⟩:=hbody cdv A outer s H vs Q E hr hsp;exact ⟨t,h.nox,q⟩
theorem ja.binds {x qual:Str} {st:Stmt} {f:Addr} {fd:FuncData} {ps:List Str} (F:ja K x qual st f fd)
  (h:∀(kV doc pm:Value) (an:Option Addr) (cdv ct:Value) (us:List Value),us.length=ps.length->bindArgs (PySem.W.fnOf x qual (bb st) (aX st) (ar st) .none kV doc pm an cdv ct) ⟨us,[]⟩=pure (ps.zip us)):Binds K fd ps []:=by
 obtain ⟨oc,od,kV,doc,pm,an,cdv,ct,osl,rfl,lk,hcd⟩:=F.ex;exact .all (h kV doc pm an cdv ct)
theorem bG {x qual:Str} {st:Stmt} {f:Addr} {oc:Value} {od an:Option Addr} {osl:Array (Option Value)} {kV doc pm cdv ct:Value} (l:K.lookup f=some ⟨oc,od,.func (PySem.W.fnOf x qual (bb st) (aX st) (ar st) .none kV doc pm an cdv ct),osl⟩)
  (c:PySem.W.codeIn K cdv qual=true) (k:PySem.W.keepIn K (.ref f)=true):ja K x qual st f (PySem.W.fnOf x qual (bb st) (aX st) (ar st) .none kV doc pm an cdv ct):=⟨⟨oc,od,kV,doc,pm,an,cdv,ct,osl,rfl,l,c⟩,k⟩
end
theorem bQ {n:Nat} (h:n<=1000):n < sizeLine:=bL h (by decide)
section
variable {X:Cx}
theorem pv (i:Nat) {x:Str} {pos:Pos} (hN:X.N[i]?=some x:=by rfl) (hv:ET X.env.scope x:=by first | exact Or.inl rfl | exact Or.inr (Or.inl rfl) | exact Or.inr (Or.inr rfl)) (hd:(x == ("__debug__":Str))=false:=by decide)
  (hcd:(x == ("__classdict__":Str))=false:=by decide):PE X (.Name x pos) (BP i):=Cz hN hv hd hcd
end
theorem D4 {A B:Prop} (h:B):if false=true then A else B:=by
 rw[if_neg aE];exact h
theorem DZ {A B:Prop} (h:A):if true=true then A else B:=by
 rw[if_pos rfl];exact h
theorem kO {c A B:Prop} [Decidable c] (h1:c->A) (h2:¬c->B):if c then A else B:=by
 by_cases h:c
 ·rw[if_pos h];exact h1 h
 ·rw[if_neg h];exact h2 h
def aH (H H':Hp):Prop:=∀b o,H b=some o->H' b=some o
theorem aH.refl (H:Hp):aH H H:=λ_ _ h=>h
theorem aH.trans {H H1 H2:Hp} (a:aH H H1) (b:aH H1 H2):aH H H2:=λc o h=>b c o (a c o h)
theorem aH.free {H H':Hp} (e:aH H H') {l:Addr} (h:H' l=Option.none):H l=Option.none:=by
 cases q:H l with
 | none=>rfl
 | some o =>
  rw[e l o q] at h;cases h
end L2
namespace Nm
theorem zm (a b:Int):Int.gcd b (a.fmod b)=Int.gcd a b:=by
 rw[Int.fmod_def,ic a b];apply Nat.dvd_antisymm
 ·apply zS
  ·exact cU ..
  ·have h1:=cU (a:=b) (b:=a - b*a.fdiv b);have h2:=dn (a:=b) (b:=a - b*a.fdiv b);have h3:=Int.dvd_add h2 (i9 (c:=a.fdiv b) h1);rwa [Int.sub_add_cancel] at h3
 ·apply zS
  ·exact cU ..
  ·exact Int.dvd_sub (dn ..) (i9 (cU ..))
theorem zo (a b:Int):Int.gcd b (a % b)=Int.gcd a b:=by
 rw[Int.emod_def,ic a b];apply Nat.dvd_antisymm
 ·apply zS
  ·exact cU ..
  ·have h1:=cU (a:=b) (b:=a - b*(a / b));have h2:=dn (a:=b) (b:=a - b*(a / b));have h3:=Int.dvd_add h2 (i9 (c:=a / b) h1);rwa [Int.sub_add_cancel] at h3
 ·apply zS
  ·exact cU ..
  ·exact Int.dvd_sub (dn ..) (i9 (cU ..))
theorem AU (a b:Int) (h:b≠0):(a.fmod b).natAbs < b.natAbs:=by
 rcases Int.lt_or_gt_of_ne h with h | h
 ·have e:a.fmod b=-((-a).fmod (-b)):=by
   have:=Int.neg_fmod_neg (-a) (-b);simp only[Int.neg_neg] at this;exact this
  have h1:=Int.fmod_nonneg_of_pos (-a) (b:=-b) (by lia);have h2:=Int.fmod_lt_of_pos (-a) (b:=-b) (by lia)
  lia
 ·have h1:=Int.fmod_nonneg_of_pos a h;have h2:=Int.fmod_lt_of_pos a h
  lia
def g (t b:Int):Int:=(Int.gcd t b:Int)
def lo (t b:Int):Int:=t / g t b
def hi (t b:Int):Int:=b / g t b
theorem qX {t b:Int} (h:b≠0):0 < g t b:=by
 unfold g;have:0 < Int.gcd t b:=zZ _ h
 lia
theorem qS (t b:Int):lo t b*g t b=t:=Int.ediv_mul_cancel (cU ..)
theorem oR (t b:Int):hi t b*g t b=b:=Int.ediv_mul_cancel (dn ..)
theorem v5 {t b:Int} (h:0 < b):0 < hi t b:=by
 have h1:=qX (t:=t) (b:=b) (by lia);have h2:=oR t b;by_cases h3:0 < hi t b
 ·exact h3
 ·have:hi t b*g t b<=0:=Int.mul_nonpos_of_nonpos_of_nonneg (by lia) (by lia)
  lia
theorem vj {t b:Int} (h:b≠0):Int.gcd (lo t b) (hi t b)=1:=by
 have h1:=qX (t:=t) h;have e:=Int.gcd_mul_right (lo t b) (g t b) (hi t b);rw[qS,oR] at e;have e2:(g t b).natAbs=Int.gcd t b:=by unfold g;simp
 rw[e2] at e;have h2:0 < Int.gcd t b:=zZ _ h;exact Nat.eq_of_mul_eq_mul_right h2 (by rw[<- e,Nat.one_mul])
theorem v3 (t b : Int) : lo t b * b = t * hi t b := by
  have h1 := qS t b;have h2 := oR t b
  calc lo t b * b = lo t b * (hi t b * g t b) := by rw [h2]
    _ = (lo t b * g t b) * hi t b := by rw [ib (hi t b), <- iw]
    _ = t * hi t b := by rw [h1]
theorem ke {a b c:Int} (h:Int.gcd a b=1) (hd:a∣b*c):a∣c:=by
 have h1:a.natAbs∣b.natAbs*c.natAbs:=by rw[<- bS];exact dQ.mpr hd
 have h2:Nat.Coprime a.natAbs b.natAbs:=h;exact dQ.mp (h2.dvd_of_dvd_mul_left h1)
theorem uniq {a b c d:Int} (hb:0 < b) (hd:0 < d) (h1:Int.gcd a b=1) (h2:Int.gcd c d=1) (e:a*d=c*b):a=c/\b=d:=by
 have e1:b∣d:=by
  have:b∣a*d:=⟨c,by rw[e,ib]⟩;exact ke (by rw[ic];exact h1) this
 have e2:d∣b:=by
  have:d∣c*b:=⟨a,by rw[<- e,ib]⟩;exact ke (by rw[ic];exact h2) this
 have e3:b=d:=Int.dvd_antisymm (by lia) (by lia) e1 e2;subst e3;exact ⟨BI (by lia) e,rfl⟩
theorem jF {a b:Int} (h:b≠0):a.natAbs<=(a*b).natAbs:=by
 rw[bS];exact cC _ (Int.natAbs_pos.mpr h)
theorem lo_le {t b:Int} (h:b≠0):(lo t b).natAbs<=t.natAbs:=by
 have:=jF (a:=lo t b) (b:=g t b) (by have:=qX (t:=t) h;lia);rwa [qS] at this
theorem BB {t b:Int} (h:b≠0):(hi t b).natAbs<=b.natAbs:=by
 have:=jF (a:=hi t b) (b:=g t b) (by have:=qX (t:=t) h;lia);rwa [oR] at this
def Sz (k:Nat) (x:Int):Prop:=x.natAbs < 2^k
theorem Sz.mono {j k:Nat} {x:Int} (h:Sz j x) (l:j<=k):Sz k x:=aM h (af (by decide) l)
theorem Sz.mul {j k:Nat} {x y:Int} (h1:Sz j x) (h2:Sz k y):Sz (j+k) (x*y):=by
 unfold Sz at *
 rw[bS,bx];exact Nat.mul_lt_mul'' h1 h2
theorem Sz.neg {k:Nat} {x:Int} (h:Sz k x):Sz k (-x):=by unfold Sz at *;rw[e8];exact h
theorem Sz.le {k:Nat} {x y:Int} (h:Sz k y) (l:x.natAbs<=y.natAbs):Sz k x:=bL l h
theorem Sz.hi {k:Nat} {t b:Int} (h:Sz k b) (hb:b≠0):Sz k (hi t b):=h.le (BB hb)
end Nm
namespace L2
open PySem PySem.Spec PyProof.Rows
structure Bk (env:Env) (scope:Scope) (own capN:List Str):Prop where
 kind:scope.kind=.function
 locs:∀y∈scope.names,y.2=.local->scope.names.lookup y.1=some .local
 ownk:∀x∈own,scope.names.lookup x=some .local\/scope.names.lookup x=some .cell
 cells:∀y∈scope.names,y.2=.cell->y.1∈own/\y.1∉capN
 frees:∀y∈scope.names,y.2=.free->y.1∈capN/\y.1∉own
 capf:∀x∈capN,scope.names.lookup x=some .free
 caps:∀x∈capN,env.kindOf x=some .cell\/env.kindOf x=some .free
def Eo (scope:Scope) (own capN:List Str):Bool :=
 decide (scope.kind=.function) && scope.names.all (λy=>decide (y.2=.local->scope.names.lookup y.1=some .local) && decide (y.2=.cell->y.1∈own/\y.1∉capN) && decide (y.2=.free->y.1∈capN/\y.1∉own)) &&
 own.all (λx=>decide (scope.names.lookup x=some .local\/scope.names.lookup x=some .cell)) && capN.all λx=>decide (scope.names.lookup x=some .free)
def sJ (env:Env):List Str->Bool
 | []=>true
 | x :: r=>(match env.kindOf x with | some .cell=>true | some .free=>true | _=>false) && sJ env r
theorem vA {env:Env}:∀{capN:List Str},sJ env capN=true->∀x∈capN,env.kindOf x=some .cell\/env.kindOf x=some .free
 | [],_,_,h=>nomatch h
 | y :: r,h,x,hx=>by
  unfold sJ at h;rw[cp] at h;rcases aI.mp hx with e | hx
  ·subst e;have h1:=h.1
   split at h1
   ·rename_i e;exact .inl e
   ·rename_i e;exact .inr e
   ·cases h1
  ·exact vA h.2 x hx
theorem Bk.of {env:Env} {scope:Scope} {own capN:List Str} (h1:Eo scope own capN=true) (h2:sJ env capN=true):Bk env scope own capN:=by
 unfold Eo at h1;rw[cp,cp,cp,ia,ia,ia] at h1;obtain ⟨⟨⟨a1,a2⟩,a3⟩,a4⟩:=h1
 have a2':∀y∈scope.names,(y.2=.local->scope.names.lookup y.1=some .local)/\(y.2=.cell->y.1∈own/\y.1∉capN)/\(y.2=.free->y.1∈capN/\y.1∉own):=λy hy=>by
  have q:=a2 y hy;rw[cp,cp] at q;exact ⟨of_decide_eq_true q.1.1,of_decide_eq_true q.1.2,of_decide_eq_true q.2⟩
 exact ⟨of_decide_eq_true a1,λy hy=>(a2' y hy).1,λx hx=>of_decide_eq_true (a3 x hx),λy hy=>(a2' y hy).2.1,λy hy=>(a2' y hy).2.2,λx hx=>of_decide_eq_true (a4 x hx),vA h2⟩
def cF (env:Env):List (Str×NameKind)->List (Str×Addr)->List (Str×Addr)
 | [],acc=>acc
 | (n,k) :: r,acc=>if k == .free then cF env r ((n,(env.cells.lookup n).getD 0) :: acc) else cF env r acc
theorem eX (env:Env):∀(names:List (Str×NameKind)) (acc:List (Str×Addr)),cF env names acc=cF env names []++acc
 | [],_=>rfl
 | (n,k) :: r,acc=>by
  unfold cF
  split
  ·rw[eX env r (_ :: acc),eX env r [_],b9];rfl
  ·exact eX env r acc
theorem ko (env:Env):∀(names:List (Str×NameKind)) {x:Str} {c:Addr},(x,c)∈cF env names []->(x,NameKind.free)∈names/\c=(env.cells.lookup x).getD 0
 | [],_,_,h=>nomatch h
 | (n,k) :: r,x,c,h=>by
  unfold cF at h
  split at h
  ·rename_i hk
   have ek:k=.free:=by simpa using hk
   subst ek;rw[eX] at h;rcases aK.mp h with h | h
   ·have q:=ko env r h;exact ⟨br _ q.1,q.2⟩
   ·have e:(x,c)=(n,(env.cells.lookup n).getD 0):=by simpa using h
    cases e;exact ⟨cj,rfl⟩
  ·have q:=ko env r h;exact ⟨br _ q.1,q.2⟩
theorem fz {α:Type}:∀{l:List (Str×α)} {x:Str} {c:α},(x,c)∈l->∃d,l.lookup x=some d
 | (k,v) :: r,x,c,h=>by
  rw[h8];cases hb:x == k with
  | true=>exact ⟨v,rfl⟩
  | false =>
   rcases aI.mp h with e | h
   ·cases e;simp at hb
   ·exact fz h
theorem kr (env:Env):∀(names:List (Str×NameKind)) {x:Str},(x,NameKind.free)∈names->∃c,(x,c)∈cF env names []
 | (n,k) :: r,x,h=>by
  unfold cF;rcases aI.mp h with e | h
  ·cases e;rw[if_pos (by decide),eX];exact ⟨_,aZ _ cj⟩
  ·obtain ⟨c,q⟩:=kr env r h
   split
   ·rw[eX];exact ⟨c,kN _ q⟩
   ·exact ⟨c,q⟩
theorem rh {scope : Scope} {env : Env} (h : ∀ y ∈ scope.names, y.2 = .free → ∃ c, env.cells.lookup y.1 = some c) : closureFor scope env = pure (cF env scope.names []) := by
  have gen : ∀ (names : List (Str × NameKind)) (acc : List (Str × Addr)) (f : Str × NameKind → List (Str × Addr) → Sem (ForInStep (List (Str × Addr)))),
      (∀ name kind cells, f (name, kind) cells = if kind == .free then (do let a <- cellOf env name; pure (.yield ((name, a) :: cells))) else pure (.yield cells)) →
      (∀ y ∈ names, y.2 = .free → ∃ c, env.cells.lookup y.1 = some c) → forIn names acc f = pure (cF env names acc) := by
    intro names
    induction names with
    | nil => intro acc f hf _; rw [List.forIn_nil]; rfl
    | cons y r ih =>
      intro acc f hf hh;obtain ⟨n, k⟩ := y;rw [List.forIn_cons, hf];unfold cF;by_cases hk : (k == NameKind.free) = true
      · obtain ⟨c, hc⟩ := hh (n, k) cj (by simpa using hk);have hc' : env.cells.lookup n = some c := hc;have e : cellOf env n = pure c := by unfold cellOf; rw [hc']
        rw [if_pos hk, if_pos hk, e, hc'];simp only [pure_bind, Option.getD_some];exact ih _ f hf λy hy => hh y (br _ hy)
      · rw [if_neg hk, if_neg hk];simp only [pure_bind];exact ih _ f hf λy hy => hh y (br _ hy)
  simp only [closureFor];rw [gen scope.names [] _ (λname kind cells => by cases hkc : kind == NameKind.free <;> simp [hkc]) h];rfl

theorem dr:∀(names:List (Str×NameKind)) (n:Nat) (acc:List (Str×Addr)),cellsFrom n names acc=cellsFrom n names []++acc
 | [],_,_=>rfl
 | (x,k) :: r,n,acc=>by
  unfold cellsFrom
  split
  ·rw[dr r (n+1) (_ :: acc),dr r (n+1) [_],b9];rfl
  ·exact dr r n acc
theorem gS:∀(names:List (Str×NameKind)) (n:Nat) {x:Str} {c:Addr},(x,c)∈cellsFrom n names []->(x,NameKind.cell)∈names
 | [],_,_,_,h=>nomatch h
 | (y,k) :: r,n,x,c,h=>by
  unfold cellsFrom at h
  split at h
  ·rename_i hk
   have ek:k=.cell:=by simpa using hk
   subst ek;rw[dr] at h;rcases aK.mp h with h | h
   ·exact br _ (gS r _ h)
   ·have e:(x,c)=(y,n):=by simpa using h
    cases e;exact cj
  ·exact br _ (gS r _ h)
def oV (env:Env) (scope:Scope) (C:Addr):Env :=
 { scope:=relabel scope env,locals:=C,globals:=env.globals,cells:=cellsFrom (C+1) scope.names (cF env scope.names []),qual:=env.qual,func:=none,code:=env.code,frame:=env.frame,builtins:=env.builtins }
theorem vf {M:Model} {A:Around} {E:Value->Shared->Prop} {s:Shared} {scope:Scope} {g:Addr} {cl:List (Str×Addr)} {qual:Str} {env:Env} {Q:Env->Shared->Prop}
  (h:Q (newEnv scope s.heap.objs.size g (cellsFrom (s.heap.objs.size+1) scope.names cl) qual none .none (some env) builtinsNs) { s with heap:=pushCells (s.heap.push { cls:=.type "dict",data:=.dict #[] }) scope.names }) :
  wpAny M A (newFunctionEnv scope g cl [] qual none .none (some env)) Q E s:=by
 simp only[newFunctionEnv,Option.isSome_some,if_true];refine wpAny_bind (wpAny_alloc ?_);refine wpAny_bind (wpAny_layCells _ (λname kind cells=>by cases hkc:kind == NameKind.cell <;> simp [hkc]) _ _ _ _ ?_);rw[show ({ s with heap:=s.heap.push { cls:=.type "dict",data:=.dict #[] } }:Shared).heap.objs.size=s.heap.objs.size+1 from Heap.size_push ..];rw[List.forIn_nil];exact wpAny_bind (wpAny_pure (wpAny_pure h))
theorem nF {scope:Scope} {env:Env} {x:Str}:∀{k:NameKind},(relabel scope env).names.lookup x=some k->∃k0,scope.names.lookup x=some k0/\(k=k0\/(k0=.free/\k=.cell)):=by
 unfold relabel;show ∀{k:NameKind},(scope.names.map λ(n,k)=>if (k == NameKind.free && env.scope.kind == .function && env.kindOf n == some .cell) then (n,NameKind.cell) else (n,k)).lookup x=some k->_
 induction scope.names with
 | nil=>intro k h;cases h
 | cons y r ih =>
  intro k h;obtain ⟨n,k1⟩:=y;rw[kJ,h8] at h;rw[h8];by_cases hc:(k1 == NameKind.free && env.scope.kind == .function && env.kindOf n == some .cell)=true
  ·simp only[hc,if_true] at h;cases hb:x == n with
   | true =>
    simp only[hb] at h
    have e1:k1=.free:=by
     rw[cp,cp] at hc;simpa using hc.1.1
    cases h;exact ⟨k1,rfl,.inr ⟨e1,rfl⟩⟩
   | false=>simp only[hb] at h;exact ih h
  ·have hc':(k1 == NameKind.free && env.scope.kind == .function && env.kindOf n == some .cell)=false:=by simpa using hc
   simp only[hc',vI,if_false] at h;cases hb:x == n with
   | true=>simp only[hb] at h;cases h;exact ⟨_,rfl,.inl rfl⟩
   | false=>simp only[hb] at h;exact ih h
theorem uV {scope:Scope} {env:Env} {x:Str}:scope.names.lookup x=some .free->(relabel scope env).names.lookup x=some .cell\/(relabel scope env).names.lookup x=some .free:=by
 unfold relabel;show _->(scope.names.map λ(n,k)=>if (k == NameKind.free && env.scope.kind == .function && env.kindOf n == some .cell) then (n,NameKind.cell) else (n,k)).lookup x=some .cell\/(scope.names.map λ(n,k)=>if (k == NameKind.free && env.scope.kind == .function && env.kindOf n == some .cell) then (n,NameKind.cell) else (n,k)).lookup x=some .free
 induction scope.names with
 | nil=>intro h;cases h
 | cons y r ih =>
  intro h;obtain ⟨n,k1⟩:=y;rw[h8] at h;rw[kJ];by_cases hc:(k1 == NameKind.free && env.scope.kind == .function && env.kindOf n == some .cell)=true
  ·simp only[hc,if_true,h8];cases hb:x == n with
   | true=>exact .inl rfl
   | false=>rw[hb] at h;exact ih h
  ·have hc':(k1 == NameKind.free && env.scope.kind == .function && env.kindOf n == some .cell)=false:=by simpa using hc
   simp only[hc',vI,if_false,h8];cases hb:x == n with
   | true=>rw[hb] at h;cases h;exact .inr rfl
   | false=>rw[hb] at h;exact ih h
structure Bz where
 s:Shared
 H:Hp
 fp:List Addr
 C:Addr
def pR (X:Cx) (own capN:List Str) (scope:Scope) (Z:Bz):Cx where
 prog:=X.prog
 w:=X.w
 K:=X.K
 mg:=X.mg
 base:=X.base
 A:=X.A
 N:=own++capN
 s₀:=Z.s
 H₀:=Z.H
 env:=oV X.env scope Z.C
 outer:=X.stack
 stack:=X.stack
 ex:=Z.fp
 fn:=λx=>own.contains x
 calm:=true
 pn:=[]
 xe:=λ_ _=>False
section
variable {X:Cx} {pins:List (Addr×Obj)} {σ:St} {own capN:List Str} {scope:Scope} {Z:Bz}
theorem fM (B:Bk X.env scope own capN) (I:Inv X pins σ Z.H Z.s) {x:Str} {c:Addr} (h:(oV X.env scope Z.C).cells.lookup x=some c) :
  (x∈own/\(x,c)∈cellsFrom (Z.C+1) scope.names [])\/(x∈capN/\x∉own/\X.env.cells.lookup x=some c):=by
 have h':(cellsFrom (Z.C+1) scope.names (cF X.env scope.names [])).lookup x=some c:=h;rw[dr] at h';rcases aK.mp (mem_of_lookup h') with m | m
 ·exact .inl ⟨(B.cells _ (gS _ _ m) rfl).1,m⟩
 ·obtain ⟨m1,e⟩:=ko _ _ m;obtain ⟨q1,q2⟩:=B.frees _ m1 rfl;obtain ⟨d,hd⟩:=I.ok.has x (B.caps x q1);rw[hd] at e;exact .inr ⟨q1,q2,by rw[hd,e];rfl⟩
theorem A1 (B:Bk X.env scope own capN) (I:Inv X pins σ Z.H Z.s) {x:Str} {c:Addr} (hx:x∈capN) (h:X.env.cells.lookup x=some c):(oV X.env scope Z.C).cells.lookup x=some c:=by
 have hm:(x,NameKind.free)∈scope.names:=mem_of_lookup (B.capf x hx);obtain ⟨c1,m1⟩:=kr X.env scope.names hm
 have hs:∃d,(oV X.env scope Z.C).cells.lookup x=some d:=by
  show ∃d,(cellsFrom (Z.C+1) scope.names (cF X.env scope.names [])).lookup x=some d
  rw[dr];exact fz (aZ _ m1)
 obtain ⟨d,hd⟩:=hs;rcases fM B I hd with ⟨q,m⟩ | ⟨_,_,q⟩
 ·exact absurd hx (B.cells _ (gS _ _ m) rfl).2
 ·rw[h] at q;cases q;exact hd
theorem xT (h:Heap) (C:Addr) (hC:h.objs.size=C+1) (names:List (Str×NameKind)):CellsOk (pushCells h names) (C+1) (cellsFrom (C+1) names []):=by
 have q:=cellsFrom_ok names h (C+1) [] ⟨λ_ _ hm=>(nomatch hm),List.Pairwise.nil⟩ (by rw[hC];exact aj _);rwa [hC] at q
theorem uq (I:Inv X pins σ Z.H Z.s) {x:Str} {c:Addr} (h:X.env.cells.lookup x=some c):@LT.lt Nat instLTNat c Z.s.heap.objs.size:=by
 obtain ⟨v,q⟩:=I.cell x c h;exact q.lt
theorem C2 {h1:Heap} (I:Inv X pins σ Z.H Z.s) (hc:X.calm=true) (B:Bk X.env scope own capN) (hC:Z.s.heap.objs.size<=Z.C) (hcl:CellsOk h1 (Z.C+1) (cellsFrom (Z.C+1) scope.names []))
  (hf:∀b∈Z.fp,kR X pins Z.H b/\@LT.lt Nat instLTNat b Z.s.heap.objs.size):(pR X own capN scope Z).Ok:=by
 refine ⟨I.ok.mod,B.kind,I.ok.glob,I.ok.blt,hC,λx y c h1 h2=>?_,λx hx=>?_,λx c hx h=>?_,λ_=>I.ok.hd hc,I.ok.frames,.inl rfl,λb hb=>⟨?_,λx c h=>?_⟩,I.bs,ag I.ok.bsz I.sz,λb o e hb=>?_,λb hb hz=>?_,I.stack,I.stkFree⟩
 ·rcases fM B I h1 with ⟨q1,m1⟩ | ⟨q1,n1,m1⟩ <;> rcases fM B I h2 with ⟨q2,m2⟩ | ⟨q2,n2,m2⟩
  ·exact name_of_addr hcl.apart m1 m2
  ·have l1:=(hcl.empty _ _ m1).2;have l2:=uq I m2
   lia
  ·have l1:=(hcl.empty _ _ m2).2;have l2:=uq I m1
   lia
  ·exact I.ok.inj x y c m1 m2
 ·have hx':(relabel scope X.env).names.lookup x=some .cell\/(relabel scope X.env).names.lookup x=some .free:=hx
  have hk:scope.names.lookup x=some .cell\/scope.names.lookup x=some .free:=by
   rcases hx' with h | h
   ·obtain ⟨k0,e,q | ⟨q,_⟩⟩:=nF h
    ·exact .inl (by rw[e,<- q])
    ·exact .inr (by rw[e,q])
   ·obtain ⟨k0,e,q | ⟨_,q⟩⟩:=nF h
    ·exact .inr (by rw[e,<- q])
    ·cases q
  show ∃c,(cellsFrom (Z.C+1) scope.names (cF X.env scope.names [])).lookup x=some c
  rcases hk with h | h
  ·exact De.mp (qm scope.names (Z.C+1) _ (.inl h))
  ·obtain ⟨c,m⟩:=kr X.env scope.names (mem_of_lookup h);rw[dr];exact fz (aZ _ m)
 ·have ho:x∈own:=by have hx':own.contains x=true:=hx;simpa using hx'
  rcases fM B I h with ⟨_,m⟩ | ⟨_,n,_⟩
  ·have:=(hcl.empty _ _ m).2;have hC':Z.s.heap.objs.size<=Z.C:=hC;show Z.s.heap.objs.size<=c
   lia
  ·exact absurd ho n
 ·intro e;have e':@Eq Nat b Z.C:=e;have:=(hf b hb).2
  lia
 ·have l:=(hf b hb).2;rcases fM B I h with ⟨_,m⟩ | ⟨_,_,m⟩
  ·intro e;have e':@Eq Nat c b:=e;have:=(hcl.empty _ _ m).2
   lia
  ·exact (hf b hb).1.2.2.2.2.1 x c m
 ·obtain ⟨_,_,_,f3,_⟩:=(hf b hb).1;rcases f3 with f3 | f3
  ·exact I.ok.noex b o e f3
  ·exact absurd (aM (Heap.lt_size e) (ag I.ok.bsz f3)) (cZ _)
 ·obtain ⟨_,f1,f2,_⟩:=(hf b hb).1;rcases aI.mp (I.stkSub b hz) with e | e
  ·exact f1 e
  ·exact f2 e
def yi (k:Nat) (cap:List Nat) (σ:St):St:=List.replicate k none++cap.map λj=>(σ[j]?).join
def pJ (X:Cx) (capN:List Str) (cap:List Nat):Prop:=cap.map (λj=>X.N[j]?)=capN.map some
theorem pJ.get {cap:List Nat} (h:pJ X capN cap) {i:Nat} {x:Str} (e:capN[i]?=some x):∃j,cap[i]?=some j/\X.N[j]?=some x:=by
 have q:=congrArg (λl=>l[i]?) h;simp only[aw,e,Option.map_some] at q;cases hc:cap[i]? with
 | none=>rw[hc] at q;cases q
 | some j=>rw[hc] at q;exact ⟨j,rfl,by simpa using q⟩
theorem vB {cap:List Nat} {h':Heap} {m:Str->Option Value} (I:Inv X pins σ Z.H Z.s) (B:Bk X.env scope own capN) (hcap:pJ X capN cap)
  (kc:∀x c,X.env.cells.lookup x=some c->∀v,Z.s.heap.IsCell c v->h'.IsCell c v) {i:Nat} {x:Str} {v:V} (e1:(own++capN)[i]?=some x) (e2:(yi own.length cap σ)[i]?=some (some v)) :
  ∃u,RelV v u/\Look (oV X.env scope Z.C) h' m x u:=by
 have hi:own.length<=i:=by
  by_cases hi:own.length<=i
  ·exact hi
  ·exfalso
   unfold yi at e2;rw[aW (by simpa using hi),dm] at e2
   split at e2 <;> cases e2
 rw[aO hi] at e1;unfold yi at e2;rw[aO (by simpa using hi),az,aw] at e2;obtain ⟨j,hj,hN⟩:=hcap.get e1;rw[hj] at e2;have e3:(σ[j]?).join=some v:=by simpa using e2
 have e4:σ[j]?=some (some v):=by
  cases q:σ[j]? with
  | none=>rw[q] at e3;cases e3
  | some o=>rw[q] at e3;simp at e3;rw[e3]
 have hx:x∈capN:=ax e1;have hk:=B.caps x hx;obtain ⟨m0,_,hl⟩:=I.loc;obtain ⟨u,r,l⟩:=hl j x v hN e4 (.inr hk);refine ⟨u,r,.inr ⟨uV (B.capf x hx),?_⟩⟩;rcases l with ⟨hk2,_⟩ | ⟨_,c,hc,z⟩
 ·rcases hk with hk | hk
  ·rw[hk] at hk2;cases hk2
  ·rw[hk] at hk2;cases hk2
 ·exact ⟨c,A1 B I hx hc,kc x c hc _ z⟩
theorem D8 (I:Inv X pins σ Z.H Z.s) {b:Addr} (h:b∈yk X.stack):@LT.lt Nat instLTNat b Z.s.heap.objs.size:=by
 obtain ⟨_,o,ho,_⟩:=I.stack.mem h;exact Heap.lt_size ho
theorem AZ {cap:List Nat} {h1:Heap} {D:Addr} {oD:Obj} {t1:Nat} (I:Inv X pins σ Z.H Z.s) (hc:X.calm=true) (B:Bk X.env scope own capN) (hcap:pJ X capN cap) (hC:Z.s.heap.objs.size<=Z.C)
  (hcl:CellsOk h1 (Z.C+1) (cellsFrom (Z.C+1) scope.names [])) (hf:∀b∈Z.fp,kR X pins Z.H b/\@LT.lt Nat instLTNat b Z.s.heap.objs.size)
  (hk:∀b o,Z.s.heap.get? b=some o->h1.get? b=some o) (hn:h1.Ns Z.C λ_=>none) (hD:Z.s.heap.objs.size<=D) (hDC:D≠Z.C) (hoD:h1.get? D=some oD) (hdD:∀v,oD.data≠.cell v) :
  Inv (pR X own capN scope Z) [(D,oD)] (yi own.length cap σ) Z.H { Z.s with heap:=h1,toks:=t1 }:=by
 refine ⟨C2 I hc B hC hcl hf,rfl,I.bare,Un.kept hk,⟨_,hn,λi x v e1 e2 _=>vB I B hcap (λx c _ v z=>z.keeps hk) e1 e2⟩,λx c h=>?_,I.hok.fresh hC,λx c h=>?_,λp hp=>?_,I.hok.kept hk,?_⟩
 ·rcases fM B I h with ⟨_,m⟩ | ⟨_,_,m⟩
  ·exact ⟨none,(hcl.empty _ _ m).1⟩
  ·obtain ⟨v,q⟩:=I.cell x c m;exact ⟨v,q.keeps hk⟩
 ·rcases fM B I h with ⟨_,m⟩ | ⟨_,_,m⟩
  ·exact I.hok.fresh (by have:=(hcl.empty _ _ m).2;lia)
  ·exact I.freeC x c m
 ·have e:p=(D,oD):=by simpa [pR] using hp
  subst e;exact ⟨hoD,I.hok.fresh hD,hDC,λz=>cZ _ (aM (D8 I z) hD),hdD⟩
 ·show (yi own.length cap σ).length=(own++capN).length
  have:=congrArg List.length hcap;simp only[ah] at this;unfold yi;simp [this]
theorem zN {cap:List Nat} {pins':List (Addr×Obj)} {σ':St} {H':Hp} {s':Shared} (I:Inv X pins σ Z.H Z.s) (B:Bk X.env scope own capN) (hcap:pJ X capN cap) (hf:∀b∈Z.fp,kR X pins Z.H b/\@LT.lt Nat instLTNat b Z.s.heap.objs.size)
  (J:Inv (pR X own capN scope Z) pins' σ' H' s'):Inv (pR X own capN scope Z) pins' (yi own.length cap σ) H' s':=by
 refine ⟨J.ok,J.os,J.bare,J.base,?_,J.cell,J.free,J.freeC,J.pin,J.hok,?_⟩
 ·obtain ⟨m,hn,_⟩:=J.loc;refine ⟨m,hn,λi x v e1 e2 _=>vB I B hcap (λx c hx v z=>?_) e1 e2⟩;obtain ⟨o,ho,hd⟩:=z;obtain ⟨sl,e⟩:=J.base.any ho (I.freeC x c hx) λz=>(hf c z).1.2.2.2.2.1 x c hx rfl
  exact ⟨_,e,hd⟩
 ·show (yi own.length cap σ).length=(own++capN).length
  have:=congrArg List.length hcap;simp only[ah] at this;unfold yi;simp [this]
theorem A0 {σ':St} {H':Hp} {s':Shared} {D:Addr} {its:List Value} {n:Nat} {ys:List V} (I:Inv X pins σ Z.H Z.s) (hf:∀b∈Z.fp,kR X pins Z.H b/\@LT.lt Nat instLTNat b Z.s.heap.objs.size) (hD:Z.s.heap.objs.size<=D)
  (J:Inv (pR X own capN scope Z) [(D,{ cls:=.type "list",data:=.seq its.toArray n })] σ' H' s') (r:b6 ys its) (hz:ys.length<=sizeLine) :
  Inv X pins σ (upd H' D (.lst ys)) s':=by
 have pD:=J.pin (D,{ cls:=.type "list",data:=.seq its.toArray n }) (by simp);have ne:∀{b:Addr} {o:Obj},Z.s.heap.get? b=some o->b≠D:=λe z=>by subst z;exact cZ _ (aM (Heap.lt_size e) hD)
 have nt:∀{b:Addr} {u:HO},H' b=some u->b≠D:=λe z=>by rw[z,pD.2.1] at e;cases e
 refine I.call' (ch:=Z.fp) J.os ⟨J.base.keep,J.base.slot,λb o e h hx=>?_,J.base.there,λb xs e=>?_,λb o u e=>?_,λb ps e=>?_⟩ (λb u e=>?_) J.bare λb hb=>?_
 ·rw[aY (ne e)];exact J.base.free b o e h hx
 ·have q:=J.base.tups b xs e;rw[aY (nt q)];exact q
 ·have q:=J.base.frzs b o u e;rw[aY (nt q)];exact q
 ·obtain ⟨more,q⟩:=J.base.tbls b ps e;exact ⟨more,by rw[aY (nt q)];exact q⟩
 ·by_cases hb:b=D
  ·subst hb;rw[aF] at e;cases e;exact ⟨hz,its,n,r,pD.1⟩
  ·rw[aY hb] at e;exact (J.hok b u e).stay (λc v _ q=>q) (λc q=>by rw[aY (nt q)];exact q) λc xs q=>by rw[aY (nt q)];exact q
 ·obtain ⟨_,f1,_,f3,f4,f5⟩:=(hf b hb).1;exact ⟨f3,f1,f4,f5⟩
end
theorem BO {α:Type} {t:Sem α} {Q Q':α->Shared->Prop} {M:Model} {A:Around} {E:Value->Shared->Prop} {s:Shared} (h:wpAny M A t Q (λ_ _=>False) s) (hQ:∀a s,Q a s->Q' a s):wpAny M A t Q' E s :=
 wpAny_mono h hQ λ_ _ z=>False.elim z
theorem uo {prog : Program} {w : World} {A : Around} {R : Result → Shared → Prop} {s : Shared} {elt target iter : Expr} {ifs : List Expr} {scope : Scope} {pos : Pos} {it acc : Value} {env : Env} (I : Nat → Shared → Prop)
    (turn : ∀ (E : Value → Shared → Prop) n s, I n s → wpAny (model prog w) A (pyNext it) (λr s₁ => match r with
      | none => R (.ok .next) s₁
      | some v => wpAny (model prog w) A (letOwnedTupleGo target it v) (λ_ s₂ => wpAny (model prog w) A (assign target env v) (λ_ s₃ =>
          wpAny (model prog w) A (forIn ifs true λc r => if r = true then do let ok <- isTrue c env (eval c env); pure (ForInStep.yield ok) else pure (ForInStep.yield r)) (λok s₄ =>
            if ok = true then wpAny (model prog w) A (eval elt env) (λx s₅ => wpAny (model prog w) A (call (.builtin "list.append") [acc, x]) (λ_ s₆ => ∃ m, m < n /\ I m s₆) E s₅) E s₄
            else ∃ m, m < n /\ I m s₄) E s₃) E s₂) E s₁) E s)
    (n : Nat) (h : I n s) : codeAny (model prog w) A (.compLoop (.ListComp elt [⟨target, iter, ifs, 0⟩] scope pos) 0 it acc env) R s := by
  refine codeAny_loop rfl I (λn s hI => ?_) n h;show wpAny _ A ((compTurn (.ListComp elt [⟨target, iter, ifs, 0⟩] scope pos) 0 it acc env).onRaise (λx => do noteFrame x env; theTreesLotGoes x)) _ _ s
  refine wpAny_noted ?_;rw [compTurn_list];refine wpAny_bind (wpAny_standAt (wpAny_bind (wpAny_mono (turn _ n s hI) (λr s₁ h₁ => ?_) λ_ _ h' => h')));cases r with
  | none => exact wpAny_pure h₁
  | some v =>
    refine wpAny_bind (wpAny_mono h₁ (λ_ s₂ h₂ => wpAny_bind (wpAny_mono h₂ (λ_ s₃ h₃ => wpAny_bind (wpAny_mono h₃ (λok s₄ h₄ => ?_) λ_ _ h' => h')) λ_ _ h' => h')) λ_ _ h' => h');cases ok with
    | false => exact wpAny_pure ⟨rfl, h₄⟩
    | true =>
      exact wpAny_bind (wpAny_bind (wpAny_mono h₄ (λx s₅ h₅ => wpAny_bind (wpAny_mono h₅ (λ_ s₆ h₆ => wpAny_pure (wpAny_pure ⟨rfl, h₆⟩)) λ_ _ h' => h')) λ_ _ h' => h'))

def PF (X : Cx) (ifs : List Expr) (t : TT) : Prop :=
  ∀ (pins : List (Addr × Obj)) (s : Shared) (σ : St) (H : Hp) (Q : Bool → Hp → Prop), Inv X pins σ H s → t σ H Q →
    wpAny (model X.prog X.w) X.A (forIn ifs true λc r => if r = true then do let ok <- isTrue c X.env (eval c X.env); pure (ForInStep.yield ok) else pure (ForInStep.yield r)) (TP X pins σ Q) X.xe s
def Di:TT:=λ_ H Q=>Q true H
theorem dd {X:Cx}:PF X [] Di:=λ_ _ _ H _ I h=>wpAny_tests_nil ⟨H,I,h⟩
theorem yP {X:Cx} {c:Expr} {t:TT} (h:PT X c t):PF X [c] t:=λpins s σ H Q I hw=>wpAny_tests_one (h pins s σ H Q I hw)
def nA (σ₀:St) (g:TG) (tf:TT) (te:TE) (x:V) (H:Hp) (NY:V->Hp->Prop) (NN:Hp->Prop):Prop :=
 g x σ₀ H λσ2 H2=>tf σ2 H2 λb H3=>if b=true then te σ2 H3 NY else NN H3
def ot (J:It) (σ₀:St) (g:TG) (tf:TT) (te:TE) (Q:VK) (H1:Hp):Prop :=
 ∃W:Nat->Nat->List V->Hp->Prop,(∃m,W 0 m [] H1)/\∀i m ys H,W i m ys H →
  (J.stop i H/\ys.length<=sizeLine/\∀p,H p=none->Q (.ref p) (upd H p (.lst ys))) \/
  (J.go i H/\ys.length < sizeLine/\∃(NY:V->Hp->Prop) (NN:Hp->Prop),(∀y H',NY y H'->∃m',m' < m/\W (i+1) m' (ys++[y]) H')/\(∀H',NN H'->∃m',m' < m/\W (i+1) m' ys H') /\
   ∀x H',J.yld i H x H'->nA σ₀ g tf te x H' NY NN)
def uB (wi:TI) (k:Nat) (cap:List Nat) (g:TG) (tf:TT) (te:TE):TE:=λσ H Q=>wi σ H λJ H1=>ot J (yi k cap σ) g tf te Q H1
abbrev lobj (its:List Value) (n:Nat):Obj:={ cls:=.type "list",data:=.seq its.toArray n }
section
variable {X:Cx} {own capN:List Str} {cap:List Nat} {scope:Scope} {elt tg iter:Expr} {ifs:List Expr} {pos:Pos} {wi:TI} {g:TG} {tf:TT} {te:TE}
theorem sI {use:Option (Value->Sem Unit)} {Qe:Value->Shared->Prop} {fpos:Pos} (hc:X.calm=true) (B:Bk X.env scope own capN) (hcap:pJ X capN cap)
  (hi:PI X tg iter wi) (hg:∀Z,PG (pR X own capN scope Z) tg g) (hf:∀Z,PF (pR X own capN scope Z) ifs tf) (he:∀Z,PE (pR X own capN scope Z) elt te)
  (hs:∀x,foldedSetIterable iter X.env x=pure x) {pins:List (Addr×Obj)} {s:Shared} {σ:St} {H:Hp} {Q:VK} (I:Inv X pins σ H s) (h:uB wi own.length cap g tf te σ H Q)
  (fin:∀(D C:Addr) (s':Shared) (H':Hp),Inv X pins σ H' s'->kR X pins H' C->(∃m,s'.heap.Ns C m)->Q (.ref D) H'->compPost (model X.prog X.w) X.A X.xe use Qe (.ref D) C (.ok .next) s') :
  wpAny (model X.prog X.w) X.A (comprehension (.ListComp elt [⟨tg,iter,ifs,0⟩] scope pos) scope X.env fpos (newList []) false (eval iter X.env) use) Qe X.xe s:=by
 refine wpAny_comprehension_free (use:=use) rfl hs (rh λy hy hk=>I.ok.has y.1 (B.caps _ (B.frees y hy hk).1)) B.kind B.locs ?_;refine fe (hi pins s σ H _ I h) λv s1 h1=>fe h1 λitv s2 h2=>?_
 obtain ⟨it,fp,tn,J,H2,e,I2,T,st2,f2,W,⟨m0,w0⟩,turn⟩:=h2;subst e;have hfp:∀b∈fp,kR X pins H2 b/\@LT.lt Nat instLTNat b s2.heap.objs.size:=λb hb=>⟨f2 b hb,let ⟨_,e,_⟩:=T.obj _ _ st2 b hb;Heap.lt_size e⟩
 refine wpAny_newObj_type (vf ?_) (bc _);have es:(s2.heap.push { cls:=.type "list",data:=.seq ([]:List Value).toArray }).objs.size=s2.heap.objs.size+1:=Heap.size_push ..
 show codeAny _ _ (.compStart _ 0 (.ref it) (.ref s2.heap.objs.size) { newEnv scope (s2.heap.push { cls:=.type "list",data:=.seq ([]:List Value).toArray }).objs.size X.env.globals (cellsFrom ((s2.heap.push { cls:=.type "list",data:=.seq ([]:List Value).toArray }).objs.size+1) scope.names (cF X.env scope.names [])) X.env.qual none .none (some X.env) builtinsNs with scope:=relabel scope X.env })
  (compPost (model X.prog X.w) X.A X.xe use Qe (.ref s2.heap.objs.size) (s2.heap.push { cls:=.type "list",data:=.seq ([]:List Value).toArray }).objs.size)
  { s2 with heap:=pushCells ((s2.heap.push { cls:=.type "list",data:=.seq ([]:List Value).toArray }).push { cls:=.type "dict",data:=.dict #[] }) scope.names }
 have hk1:∀b o,(s2.heap.push { cls:=.type "list",data:=.seq ([]:List Value).toArray }).get? b=some o->(pushCells ((s2.heap.push { cls:=.type "list",data:=.seq ([]:List Value).toArray }).push { cls:=.type "dict",data:=.dict #[] }) scope.names).get? b=some o :=
  λb o e=>pushCells_keeps _ _ _ _ (Heap.get?_push_of_some _ e)
 have hk:∀b o,s2.heap.get? b=some o->(pushCells ((s2.heap.push { cls:=.type "list",data:=.seq ([]:List Value).toArray }).push { cls:=.type "dict",data:=.dict #[] }) scope.names).get? b=some o:=λb o e=>hk1 b o (Heap.get?_push_of_some _ e)
 have hoD:=hk1 s2.heap.objs.size _ (Heap.get?_push_size s2.heap (o:={ cls:=.type "list",data:=.seq ([]:List Value).toArray }) rfl);have hn:=(Heap.Ns.new (s2.heap.push { cls:=.type "list",data:=.seq ([]:List Value).toArray }) (.type "dict")).keeps (pushCells_keeps scope.names _);have hcl:=xT ((s2.heap.push { cls:=.type "list",data:=.seq ([]:List Value).toArray }).push { cls:=.type "dict",data:=.dict #[] }) (s2.heap.objs.size+1) (by rw[Heap.size_push,es]) scope.names;rw[es] at hn ⊢;generalize pushCells ((s2.heap.push { cls:=.type "list",data:=.seq ([]:List Value).toArray }).push { cls:=.type "dict",data:=.dict #[] }) scope.names=h3 at hk hoD hn hcl ⊢;have Z:Bz:=⟨s2,H2,fp,s2.heap.objs.size+1⟩
 have I3:Inv (pR X own capN scope ⟨s2,H2,fp,s2.heap.objs.size+1⟩) [(s2.heap.objs.size,lobj [] 0)] (yi own.length cap σ) H2 { s2 with heap:=h3 } :=
  AZ (Z:=⟨s2,H2,fp,s2.heap.objs.size+1⟩) (t1:=s2.toks) I2 hc B hcap (zR _) hcl hfp hk hn (aj _) (bW (pN _)) hoD (λv z=>nomatch z)
 have st3:tn 0 h3:=T.keep _ _ _ st2 λb _ o e=>hk b o e
 have loop:codeAny (model X.prog X.w) X.A (.compLoop (.ListComp elt [⟨tg,iter,ifs,0⟩] scope pos) 0 (.ref it) (.ref s2.heap.objs.size) (oV X.env scope (s2.heap.objs.size+1))) (compPost (model X.prog X.w) X.A X.xe use Qe (.ref s2.heap.objs.size) (s2.heap.objs.size+1)) { s2 with heap:=h3 }:=by
  refine uo (λm s'=>∃i ys σ' H' its n,Inv (pR X own capN scope ⟨s2,H2,fp,s2.heap.objs.size+1⟩) [(s2.heap.objs.size,lobj its n)] σ' H' s'/\tn i s'.heap/\(∀b∈fp,H' b=none)/\b6 ys its/\W i m ys H') ?_ m0
   ⟨0,[],_,H2,[],0,I3,st3,λb hb=>(f2 b hb).1,.nil,w0⟩
  rintro E n s4 ⟨i,ys,σ4,H4,its,k,I4,st4,fr4,rv,w4⟩
  have fpo:∀{pp:List (Addr×Obj)} {H':Hp},(∀p∈pp,p.1=s2.heap.objs.size)->(∀b∈fp,H' b=none)->∀b∈fp,kR (pR X own capN scope ⟨s2,H2,fp,s2.heap.objs.size+1⟩) pp H' b:=λ{pp H'} hpp hn b hb=>by
   obtain ⟨e1,e2⟩:=I4.ok.exf b hb;refine ⟨hn b hb,e1,I4.ok.exfs b hb,.inl hb,e2,λp hp=>?_⟩;have hp':p∈pp:=by simpa [pR] using hp
   have l:=(hfp b hb).2;rw[hpp p hp'];exact λz=>cZ _ (by rw[<- z] at l;exact l)
  have pinD:∀{its:List Value} {n:Nat},∀p∈[(s2.heap.objs.size,lobj its n)],p.1=s2.heap.objs.size:=λp hp=>by simp at hp;rw[hp]
  rcases turn i n ys H4 w4 with ⟨stop,hz,q⟩ | ⟨go,hlt,NY,NN,hNY,hNN,step⟩
  ·refine fe (T.done (pR X own capN scope ⟨s2,H2,fp,s2.heap.objs.size+1⟩) rfl rfl rfl rfl i _ s4 σ4 H4 E I4 (fpo pinD fr4) st4 stop) λr s5 ⟨hr,I5⟩=>?_
   subst hr;have pD:=I5.pin (s2.heap.objs.size,lobj its k) (by simp);have I6:=A0 (Z:=⟨s2,H2,fp,s2.heap.objs.size+1⟩) I2 hfp (aj _) I5 rv hz
   have hC:upd H4 s2.heap.objs.size (.lst ys) (s2.heap.objs.size+1)=none:=by
    rw[aY (xB (pN _))];exact I5.free
   obtain ⟨m,hm,_⟩:=I5.loc;exact fin _ _ s5 _ I6 (I2.fpOk (zR _) hC) ⟨m,hm⟩ (q _ pD.2.1)
  ·refine fe (T.item (pR X own capN scope ⟨s2,H2,fp,s2.heap.objs.size+1⟩) rfl rfl rfl rfl i _ s4 σ4 H4 E I4 (fpo pinD fr4) st4 go) λr s5 ⟨u,hr,h5⟩=>?_
   subst hr;refine fe h5 λ_ s6 ⟨x,H6,I6,r6,y6,st6,fr6⟩=>?_
   have I6':=(zN (Z:=⟨s2,H2,fp,s2.heap.objs.size+1⟩) I2 B hcap hfp I6).pinned (fpo pinD fr6) (T.obj _ _ st6)
   have back:∀{σ7:St} {H7:Hp} {s7:Shared},Inv (pR X own capN scope ⟨s2,H2,fp,s2.heap.objs.size+1⟩) ([(s2.heap.objs.size,lobj its k)]++qJ fp s6.heap) σ7 H7 s7 →
     Inv (pR X own capN scope ⟨s2,H2,fp,s2.heap.objs.size+1⟩) [(s2.heap.objs.size,lobj its k)] σ7 H7 s7/\tn (i+1) s7.heap/\∀b∈fp,H7 b=none:=λ{σ7 H7 s7} I7=>by
    refine ⟨I7.unpinned,T.keep _ _ _ st6 λb hb o e=>(I7.pin (b,o) (aZ _ (aZ _ (kb hb e)))).1,λb hb=>?_⟩;obtain ⟨o,e,d⟩:=T.obj _ _ st6 b hb;exact (I7.pin (b,o) (aZ _ (aZ _ (kb hb e)))).2.1
   refine BO (hg _ _ s6 _ H6 x u _ I6' r6 (step x H6 y6)) λ_ s7 ⟨σ7,H7,I7,q7⟩=>?_
   refine BO (hf _ _ s7 σ7 H7 _ I7 q7) λok s8 ⟨H8,I8,q8⟩=>?_
   cases ok with
   | false =>
    rw[if_neg aE] at q8 ⊢;obtain ⟨m',hm,w8⟩:=hNN H8 q8;obtain ⟨J1,J2,J3⟩:=back I8;exact ⟨m',hm,i+1,ys,σ7,H8,its,k,J1,J2,J3,rv,w8⟩
   | true =>
    rw[if_pos rfl] at q8 ⊢;refine BO (he _ _ s8 σ7 H8 _ I8 q8) λz s9 ⟨y,H9,I9,r9,q9⟩=>?_
    obtain ⟨J1,J2,J3⟩:=back I9;obtain ⟨m',hm,w9⟩:=hNY y H9 q9;have pD:=J1.pin (s2.heap.objs.size,lobj its k) (by simp);have hl:=rv.length;refine call_meets F.slot_list_append ⟨_,pD.1,rfl⟩ F.entry_list_append (F.args_list_append_2 _ _) (PySem.list_append s2.heap.objs.size its.toArray k z (by rw[aG];lia)) ⟨pD.1,?_⟩;have e9:=PySem.IsL.update pD.1 (λa=>a.push z);have e9':(its.toArray.push z)=(its++[z]).toArray:=by simp
    rw[e9'] at e9;obtain ⟨n',e9⟩:∃n',(s9.heap.update s2.heap.objs.size (Obj.mapSeq λa=>a.push z)).get? s2.heap.objs.size=some (lobj (its++[z]) n'):=⟨_,e9⟩
    have J4:Inv (pR X own capN scope ⟨s2,H2,fp,s2.heap.objs.size+1⟩) [] σ7 H9 { s9 with heap:=s9.heap.update s2.heap.objs.size (Obj.mapSeq λa=>a.push z),toks:=s9.toks } :=
     (J1.pins_of (pins':=[]) λp hp=>nomatch hp).turned (λb o hb e=>(Heap.get?_update_other s9.heap _ (Ne.symm hb)).trans e) pD.2.1 pD.2.2.1 (.inr (aj _)) (λx c hx z=>by
      rcases fM (Z:=⟨s2,H2,fp,s2.heap.objs.size+1⟩) B I2 hx with ⟨_,m⟩ | ⟨_,_,m⟩
      ·have:=(hcl.empty _ _ m).2;have z':@Eq Nat c s2.heap.objs.size:=z
       lia
      ·have:=uq (Z:=⟨s2,H2,fp,s2.heap.objs.size+1⟩) I2 m;rw[z] at this;exact cZ _ this) λp hp=>by simp [pR] at hp
    have nfp:∀b∈fp,b≠s2.heap.objs.size:=λb hb z=>by have:=(hfp b hb).2;rw[z] at this;exact cZ _ this
    refine ⟨m',hm,i+1,ys++[y],σ7,H9,its++[z],n',J4.pins_of λp hp=>?_,T.keep _ _ _ J2 λb hb o e=>(Heap.get?_update_other s9.heap _ (Ne.symm (nfp b hb))).trans e,J3,rv.append (.cons r9 .nil),w9⟩;have ep:p=(s2.heap.objs.size,lobj (its++[z]) n'):=by simpa using hp
    rw[ep];exact ⟨e9,pD.2.1,pD.2.2.1,pD.2.2.2.1,λv z=>nomatch z⟩
 exact codeAny_compStart_list loop (T.self _ _ _ _ _ st3 loop)
theorem cw (own capN:List Str) (cap:List Nat) (hi:PI X tg iter wi) (hg:∀Z,PG (pR X own capN scope Z) tg g) (hf:∀Z,PF (pR X own capN scope Z) ifs tf) (he:∀Z,PE (pR X own capN scope Z) elt te)
  (h1:Eo scope own capN=true:=by decide +kernel) (h2:sJ X.env capN=true:=by rfl) (hcap:pJ X capN cap:=by rfl) (hc:X.calm=true:=by rfl) (hs:∀x,foldedSetIterable iter X.env x=pure x:=by intro _;rfl) :
  PE X (.ListComp elt [⟨tg,iter,ifs,0⟩] scope pos) (uB wi own.length cap g tf te):=by
 intro pins s σ H Q I h;rw[eval_ListComp];refine sI (use:=none) hc (Bk.of h1 h2) hcap hi hg hf he hs I h λD C s' H' I' fC hm q=>?_
 obtain ⟨m,hm⟩:=hm;refine ⟨m,hm,λh' hs'=>?_⟩;obtain ⟨f0,f1,f2,f3,f4,f5⟩:=fC;exact ⟨.ref D,H',I'.turned (t':=s'.toks) (λb o hb e=>(hs'.2 b hb).trans e) f0 f1 f3 f4 f5,rfl,q⟩
theorem wK (i:Nat) (own capN:List Str) (cap:List Nat) {x:Str} {pos' spos:Pos} (hN:X.N.Nodup) (hi':X.N[i]?=some x) (hx:X.env.scope.names.lookup x=some .local) (hi:PI X tg iter wi) (hg:∀Z,PG (pR X own capN scope Z) tg g) (hf:∀Z,PF (pR X own capN scope Z) ifs tf) (he:∀Z,PE (pR X own capN scope Z) elt te)
  (h1:Eo scope own capN=true:=by decide +kernel) (h2:sJ X.env capN=true:=by rfl) (hcap:pJ X capN cap:=by rfl) (hc:X.calm=true:=by rfl) (hs:∀x,foldedSetIterable iter X.env x=pure x:=by intro _;rfl)
  (hsw:swapsWith (.ListComp elt [⟨tg,iter,ifs,0⟩] scope pos) (some (.Name x pos')) spos.line X.env=pure true:=by rfl) :
  PS X (.Assign [.Name x pos'] (.ListComp elt [⟨tg,iter,ifs,0⟩] scope pos) spos) (z5 (uB wi own.length cap g tf te) (xj i)):=by
 intro pins s σ H D I h;rw[exec_Assign_Name_used _ _ _ _ hsw];refine wpAny_bind (wpAny_standAt (wpAny_bind ?_));rw[arm_evalThenUse_ListComp];refine wpAny_bind (sI (Q:=λv H1=>D.nx (σ.set i (some v)) H1) (use:=some _) hc (Bk.of h1 h2) hcap hi hg hf he hs I h λL C s' H' I' fC hm q=>?_);obtain ⟨m,hm⟩:=hm;obtain ⟨f0,f1,f2,f3,f4,f5⟩:=fC;refine wpAny_assign_Name (rV I' hN hi' (.inl hx) (v:=.ref L) rfl (λs'' I'' ⟨a,sb,ha⟩=>?_) (.inr hx))
 have hCa:C≠a:=by
  rcases ha with e | e
  ·rw[e];exact f1
  ·exact (f4 x a e).symm
 refine ⟨m,hm.at' λo e=>(sb.2 C hCa).trans e,λh' hs'=>?_⟩;have I3:=I''.turned (h':=h') (t':=s''.toks) (λb o hb e=>(hs'.2 b hb).trans e) f0 f1 f3 f4 f5;exact wpAny_pure (wpAny_pure ⟨_,H',I3,q⟩)
end
section
variable {K:FG9} {a:Addr} {xs:List V} {g:TG} {tf:TT} {te:TE} {Q:VK} {σ₀:St} {H:Hp}
theorem fL (Pv:Nat->List V->Hp->Prop) (hz:xs.length<=sizeLine) (h0:Pv 0 [] H) (hl:∀i ys H,i<=xs.length->Pv i ys H->bT K H a xs)
  (hs:∀i x ys H,xs[i]?=some x->ys.length<=i->Pv i ys H->nA σ₀ g tf te x H (λy H'=>Pv (i+1) (ys++[y]) H') (λH'=>Pv (i+1) ys H'))
  (hd:∀ys H,ys.length<=xs.length->Pv xs.length ys H->∀p,H p=none->Q (.ref p) (upd H p (.lst ys))):ot (BG K a) σ₀ g tf te Q H:=by
 refine ⟨λi m ys H=>m=xs.length - i/\i<=xs.length/\ys.length<=i/\Pv i ys H,⟨xs.length,by simp,bc _,bc _,h0⟩,?_⟩;rintro i m ys H ⟨rfl,hi,hy,p⟩;have q:=hl i ys H hi p;by_cases hlt:i < xs.length
 ·refine .inr ⟨⟨xs,xs[i],q,by simp [hlt]⟩,by lia,λy H'=>Pv (i+1) (ys++[y]) H',λH'=>Pv (i+1) ys H',λy H' p'=>⟨xs.length - (i+1),by lia,rfl,hlt,by rw[au,bO];lia,p'⟩,λH' p'=>⟨xs.length - (i+1),by lia,rfl,hlt,by lia,p'⟩,λx H' y=>?_⟩;obtain ⟨e,y⟩:=y;subst e;exact hs i x ys _ (y xs q) hy p
 ·have e:i=xs.length:=by lia
  subst e;exact .inl ⟨⟨xs,q,aj _⟩,by lia,hd ys H hy p⟩
theorem m6 {lo:Int} {n:Nat} (Pv:Nat->List V->Hp->Prop) (hz:n<=sizeLine) (h0:Pv 0 [] H)
  (hs:∀i ys H,i < n->ys.length<=i->Pv i ys H->nA σ₀ g tf te (.int (lo+i)) H (λy H'=>Pv (i+1) (ys++[y]) H') (λH'=>Pv (i+1) ys H'))
  (hd:∀ys H,ys.length<=n->Pv n ys H->∀p,H p=none->Q (.ref p) (upd H p (.lst ys))):ot (we lo n) σ₀ g tf te Q H:=by
 refine ⟨λi m ys H=>m=n - i/\i<=n/\ys.length<=i/\Pv i ys H,⟨n,by simp,bc _,bc _,h0⟩,?_⟩;rintro i m ys H ⟨rfl,hi,hy,p⟩;by_cases hlt:i < n
 ·refine .inr ⟨hlt,by lia,λy H'=>Pv (i+1) (ys++[y]) H',λH'=>Pv (i+1) ys H',λy H' p'=>⟨n - (i+1),by lia,rfl,hlt,by rw[au,bO];lia,p'⟩,λH' p'=>⟨n - (i+1),by lia,rfl,hlt,by lia,p'⟩,λx H' y=>?_⟩;obtain ⟨e,y⟩:=y;subst e y;exact hs i ys _ hlt hy p
 ·have e:i=n:=by lia
  subst e;exact .inl ⟨aj _,by lia,hd ys H hy p⟩
end
open Nm
def dW (i j:Int):Prop:=C8 i j\/∃m n,Sz m i/\Sz n j/\m+n<=1000000
def kM (i j:Int):Prop:=j≠0/\Sz 8999 j
theorem rq {k:Nat} {i:Int} (h:Sz k i):Builtin.Int.intBits i<=k:=by
 unfold Builtin.Int.intBits;by_cases e:i=0
 ·subst e;simp
 ·have e':(i == 0)=false:=by simpa using e
  rw[e'];have hn:i.natAbs≠0:=by lia
  have:=(Nat.log2_lt hn).mpr h;simp only[vI,if_false]
  lia
theorem dW.ok {i j:Int} (h:dW i j):IntMulOk i j:=by
 rcases h with h | ⟨m,n,h1,h2,h3⟩
 ·exact h.ok
 ·have e:(2:Nat)^20=1048576:=by decide
  exact .of_bits (by have:=rq h1;lia) (by have:=rq h2;lia)
section
variable {X:Cx} {a b:Expr} {ta tb:TE} {pos:Pos}
theorem b8:oY X (binaryOp .Mult) (rI dW λi j=>.int (i*j)):=Em λ_ _ _ _ _ _ _ hc q=>mul_int q hc.ok
theorem fR:oY X (binaryOp .FloorDiv) (rI kM λi j=>.int (i.fdiv j)):=Em λi j _ _ _ _ _ hc q=>by
 refine floordiv_int hc.1 q (.inl (PyProof.noPylong_of_log2 ?_));have hn:j.natAbs≠0:=by have:=hc.1;lia
 have:=(Nat.log2_lt hn).mpr hc.2
 lia
def Dk (t u:TS):TS:=λD σ H=>∃N:St->Hp->Prop,t { D with nx:=N } σ H/\∀σ' H',N σ' H'->u D σ' H'
theorem lY {st:Stmt} {rest:List Stmt} {t u:TS} (h1:PS X st t) (h2:wd X rest u):wd X (st :: rest) (Dk t u):=by
 intro pins s σ H D I h;obtain ⟨N,h,k⟩:=h;refine wpAny_execs_cons (fe (h1 pins s σ H { D with nx:=N } I h) λf s1 q=>?_);cases f with
 | next =>
  obtain ⟨σ',H',I',q⟩:=q;exact h2 pins s1 σ' H' D I' (k _ _ q)
 | ret v=>exact q
 | brk=>exact q
 | cont=>exact q
def Bs (K:FG9):V->V->Hp->VK->Prop:=λo i H Q=>∃p xs k v,o=.ref p/\i=.int k/\bT K H p xs/\yg xs k=some v/\Q v H
theorem zl:Ed X (Bs X.K):=by
 intro pins s σ H o i ov iv Q I ro ri h;obtain ⟨p,xs,k,z,rfl,rfl,hq,he,q⟩:=h;cases ro;obtain ⟨t,rfl⟩:=ri;obtain ⟨its,r,pl,hz⟩:=I.list hq;obtain ⟨j,h1,h2,h3,h4,h5⟩:=uu he;obtain ⟨w,ew,rw'⟩:=r.get h2;have hl:=r.length;have hn:=qT;have fin:EP X pins σ Q w s:=⟨z,H,I,rw',q⟩;by_cases h0:0<=k
 ·have hj:k.toNat=j:=by
   rw[seqIndex_of h0 h5] at h1;exact bh h1
  exact wpAny_getItem_list pl.isList h0 (by lia) (by rw[hj];simpa using ew) fin
 ·have hj:(k+(its.toArray.size:Int)).toNat=j:=by
   rw[seqIndex_neg (by lia) h4] at h1;rw[aG,<- hl];exact bh h1
  exact wpAny_getItem_list_neg pl.isList (by lia) (by rw[aG] <;> lia) (by lia) (by rw[hj];simpa using ew) fin
end
structure Kind (α:Type) [DecidableEq α] where
 R:FG9->Hp->V->α->Prop
 d:Nat
 inj:∀{X:Cx} {pins:List (Addr×Obj)} {σ:St} {H:Hp} {s:Shared} {x:V} {a b:α},Inv X pins σ H s->R X.K H x a->R X.K H x b->a=b
 rc:∀{X:Cx} {pins:List (Addr×Obj)} {σ:St} {H:Hp} {s:Shared} {x y:V} {v u:Value} {a b:α} {A:Around},Inv X pins σ H s->RelV x v->RelV y u->R X.K H x a->R X.K H y b->A.units+d < cLine->SeqAt.RcAt A s v u (decide (a=b))
 ne:∀{X:Cx} {pins:List (Addr×Obj)} {σ:St} {H:Hp} {s:Shared} {x y:V} {v u:Value} {a b:α} {A:Around},Inv X pins σ H s->RelV x v->RelV y u->R X.K H x a->R X.K H y b->A.units+d < cLine->SeqAt.RcNeAt A s v u (!decide (a=b))
 eq:∀{X:Cx} {pins:List (Addr×Obj)} {σ:St} {H:Hp} {s:Shared} {x y:V} {v u:Value} {a b:α} {A:Around},Inv X pins σ H s->RelV x v->RelV y u->R X.K H x a->R X.K H y b->A.units+d < cLine->SeqAt.EqAt A s v u (decide (a=b))
def EL:Kind Int where
 R:=λ_ _ x i=>x=.int i
 d:=0
 inj:=λ_ h1 h2=>by rw[h1] at h2;cases h2;rfl
 rc:=λ{X pins σ H s x y v u a b A} I rx ry h1 h2 _=>by
  subst h1 h2;obtain ⟨t,rfl⟩:=rx;obtain ⟨t',rfl⟩:=ry;have q:=SeqAt.RcAt.int_int (A:=A) (s:=s) a t b t';rwa [dS] at q
 ne:=λ{X pins σ H s x y v u a b A} I rx ry h1 h2 _=>by
  subst h1 h2;obtain ⟨t,rfl⟩:=rx;obtain ⟨t',rfl⟩:=ry;have q:=SeqAt.RcNeAt.int_int (A:=A) (s:=s) a t b t';rwa [dS] at q
 eq:=λ{X pins σ H s x y v u a b A} I rx ry h1 h2 _=>by
  subst h1 h2;obtain ⟨t,rfl⟩:=rx;obtain ⟨t',rfl⟩:=ry;have q:=SeqAt.EqAt.int_int (A:=A) (s:=s) a t b t';rwa [dS] at q
theorem gG {α β:Type} {F:α->β->Prop}:∀{l1:List α} {l2:List β} {i:Nat} (_:Paired F l1 l2) (h1:i < l1.length) (h2:i < l2.length),F l1[i] l2[i]
 | _,_,_,.nil,h1,_=>absurd h1 (rF _)
 | _,_,0,.cons r _,_,_=>r
 | _,_,i+1,.cons _ t,h1,h2=>gG (i:=i) t (Nat.lt_of_succ_lt_succ h1) (Nat.lt_of_succ_lt_succ h2)
theorem iV {α β:Type} {F:α->β->Prop} (hF:∀a b x,F a x->F b x->a=b):∀{l1 l2:List α} {l:List β},Paired F l1 l->Paired F l2 l->l1=l2
 | _,_,_,.nil,.nil=>rfl
 | _,_,_,.cons r t,.cons r' t'=>by rw[hF _ _ _ r r',iV hF t t']
theorem nW {α:Type} [DecidableEq α] (as bs:List α) (h:as.length=bs.length):(List.range as.length).all (λj=>decide (as[j]?=bs[j]?))=decide (as=bs):=by
 rw[iJ,ia,decide_eq_true_iff];constructor
 ·intro q;apply List.ext_getElem?;intro i;by_cases hi:i < as.length
  ·exact of_decide_eq_true (q i (sW.mpr hi))
  ·rw[aN (by lia),aN (by lia)]
 ·rintro rfl i _;simp
section
variable {α:Type} [DecidableEq α] (k:Kind α)
theorem Kind.items {X:Cx} {pins:List (Addr×Obj)} {σ:St} {H:Hp} {s:Shared} {A:Around} (I:Inv X pins σ H s) (hA:A.units+k.d < cLine) {xs ys:List V} {us ws:List Value} {as bs:List α}
  (rx:b6 xs us) (ry:b6 ys ws) (ha:Paired (λa x=>k.R X.K H x a) as xs) (hb:Paired (λa x=>k.R X.K H x a) bs ys) :
  ∀j (h1:j < us.toArray.size) (h2:j < ws.toArray.size),SeqAt.EqAt A s us.toArray[j] ws.toArray[j] (decide (as[j]?=bs[j]?)):=λj h1 h2=>by
 have l1:j < us.length:=by simpa using h1
 have l2:j < ws.length:=by simpa using h2
 have e1:=rx.length;have e2:=ry.length;have e3:=ha.length;have e4:=hb.length;obtain ⟨u,hu,ru⟩:=rx.get (i:=j) (x:=xs[j]'(by lia)) (by simp);obtain ⟨w,hw,rw'⟩:=ry.get (i:=j) (x:=ys[j]'(by lia)) (by simp);have q:=k.eq (A:=A) I ru rw' (gG ha (by lia) (by lia)) (gG hb (by lia) (by lia)) hA
 have eu:us.toArray[j]=u:=by
  have:=hu;rw[ae l1] at this;simpa using this
 have ew:ws.toArray[j]=w:=by
  have:=hw;rw[ae l2] at this;simpa using this
 rw[eu,ew,ae (show j < as.length by lia),ae (show j < bs.length by lia)];have e5:decide (some as[j]=some bs[j])=decide (as[j]=bs[j]):=by simp
 rw[e5];exact q
theorem sY {α:Type} [DecidableEq α] (as bs:List α) {n m:Nat} (h1:as.length=n) (h2:bs.length=m):((List.range (min n m)).all (λj=>decide (as[j]?=bs[j]?)) && n == m)=decide (as=bs):=by
 subst h1 h2;by_cases e:as.length=bs.length
 ·rw[show min as.length bs.length=as.length by lia,nW as bs e];simp [e]
 ·have h1:(as.length == bs.length)=false:=by simpa using e
  rw[h1,Bool.and_false];exact (decide_eq_false λz=>e (by rw[z])).symm
def EI:Kind (List α) where
 R:=λK H x as=>∃p xs,x=.ref p/\oo K H p xs/\Paired (λa x=>k.R K H x a) as xs
 d:=k.d+1
 inj:=λ{X pins σ H s x a b} I h1 h2=>by
  obtain ⟨p,xs,rfl,hp,pa⟩:=h1;obtain ⟨q,ys,e,hq,pb⟩:=h2;cases e;have e:=I.tuple_inj hp hq;subst e;exact iV (F:=λa x=>k.R X.K H x a) (λa b x=>k.inj I) pa pb
 rc:=λ{X pins σ H s x y v u a b A} I rx ry h1 h2 hA=>by
  obtain ⟨p,xs,rfl,hp,pa⟩:=h1;obtain ⟨q,ys,rfl,hq,pb⟩:=h2;cases rx;cases ry;obtain ⟨us,r1,t1,_⟩:=I.tuple hp;obtain ⟨ws,r2,t2,_⟩:=I.tuple hq;have z:=SeqAt.RcAt.tuples (A:=A) (e:=λj=>decide (a[j]?=b[j]?)) (show s.heap.IsTuple p us.toArray from t1) (show s.heap.IsTuple q ws.toArray from t2) (by lia) (k.items (A:=A.in1) I (by show A.units+1+k.d < cLine;lia) r1 r2 pa pb);rwa [sY a b (by rw[pa.length,r1.length];simp) (by rw[pb.length,r2.length];simp)] at z
 ne:=λ{X pins σ H s x y v u a b A} I rx ry h1 h2 hA=>by
  obtain ⟨p,xs,rfl,hp,pa⟩:=h1;obtain ⟨q,ys,rfl,hq,pb⟩:=h2;cases rx;cases ry;obtain ⟨us,r1,t1,_⟩:=I.tuple hp;obtain ⟨ws,r2,t2,_⟩:=I.tuple hq;have z:=SeqAt.RcNeAt.tuples (A:=A) (e:=λj=>decide (a[j]?=b[j]?)) (show s.heap.IsTuple p us.toArray from t1) (show s.heap.IsTuple q ws.toArray from t2) (by lia) (k.items (A:=A.in1) I (by show A.units+1+k.d < cLine;lia) r1 r2 pa pb);rwa [sY a b (by rw[pa.length,r1.length];simp) (by rw[pb.length,r2.length];simp)] at z
 eq:=λ{X pins σ H s x y v u a b A} I rx ry h1 h2 hA=>by
  obtain ⟨p,xs,rfl,hp,pa⟩:=h1;obtain ⟨q,ys,rfl,hq,pb⟩:=h2;cases rx;cases ry;by_cases e:p=q
  ·subst e;have e:=I.tuple_inj hp hq;subst e;rw[iV (F:=λa x=>k.R X.K H x a) (λa b x=>k.inj I) pa pb,decide_eq_true rfl];exact SeqAt.EqAt.same _
  ·obtain ⟨us,r1,t1,_⟩:=I.tuple hp;obtain ⟨ws,r2,t2,_⟩:=I.tuple hq;have z:=SeqAt.RcAt.tuples (A:=A) (e:=λj=>decide (a[j]?=b[j]?)) (show s.heap.IsTuple p us.toArray from t1) (show s.heap.IsTuple q ws.toArray from t2) (by lia) (k.items (A:=A.in1) I (by show A.units+1+k.d < cLine;lia) r1 r2 pa pb);rw[sY a b (by rw[pa.length,r1.length];simp) (by rw[pb.length,r2.length];simp)] at z;exact .of_refs e z
theorem vY {X:Cx} {pins:List (Addr×Obj)} {σ:St} {H:Hp} {s:Shared} {p q:Addr} {xs ys:List V} {a b:List α} {A:Around} (I:Inv X pins σ H s) (hp:bT X.K H p xs) (hq:bT X.K H q ys)
  (pa:Paired (λa x=>k.R X.K H x a) a xs) (pb:Paired (λa x=>k.R X.K H x a) b ys) (hA:A.units+(k.d+1) < cLine) :
  SeqAt.RcAt A s (.ref p) (.ref q) (decide (a=b))/\SeqAt.RcNeAt A s (.ref p) (.ref q) (!decide (a=b)):=by
 obtain ⟨us,r1,t1,_⟩:=I.list hp;obtain ⟨ws,r2,t2,_⟩:=I.list hq;have l1:=r1.length;have l2:=r2.length;have l3:=pa.length;have l4:=pb.length;by_cases e:us.length=ws.length
 ·have it:=k.items (A:=A.in1) I (by show A.units+1+k.d < cLine;lia) r1 r2 pa pb;have z:=SeqAt.RcAt.lists (A:=A) (e:=λj=>decide (a[j]?=b[j]?)) t1.isList t2.isList (by simpa using e) (by lia) it;have z2:=SeqAt.RcNeAt.lists (A:=A) (e:=λj=>decide (a[j]?=b[j]?)) t1.isList t2.isList (by simpa using e) (by lia) it;have e1:us.toArray.size=a.length:=by rw[aG];lia
  rw[e1,nW a b (by lia)] at z z2;exact ⟨z,z2⟩
 ·have hne:¬a=b:=λz=>e (by have:=congrArg List.length z;lia)
  rw[decide_eq_false hne];exact ⟨SeqAt.RcAt.lists_lengths t1.isList t2.isList (by simpa using e) (by lia),SeqAt.RcNeAt.lists_lengths t1.isList t2.isList (by simpa using e) (by lia)⟩
def EK:Kind (List α) where
 R:=λK H x as=>∃p xs,x=.ref p/\bT K H p xs/\Paired (λa x=>k.R K H x a) as xs
 d:=k.d+1
 inj:=λ{X pins σ H s x a b} I h1 h2=>by
  obtain ⟨p,xs,rfl,hp,pa⟩:=h1;obtain ⟨q,ys,e,hq,pb⟩:=h2;cases e;have e:=I.list_inj hp hq;subst e;exact iV (F:=λa x=>k.R X.K H x a) (λa b x=>k.inj I) pa pb
 rc:=λ{X pins σ H s x y v u a b A} I rx ry h1 h2 hA=>by
  obtain ⟨p,xs,rfl,hp,pa⟩:=h1;obtain ⟨q,ys,rfl,hq,pb⟩:=h2;cases rx;cases ry;exact (vY k I hp hq pa pb hA).1
 ne:=λ{X pins σ H s x y v u a b A} I rx ry h1 h2 hA=>by
  obtain ⟨p,xs,rfl,hp,pa⟩:=h1;obtain ⟨q,ys,rfl,hq,pb⟩:=h2;cases rx;cases ry;exact (vY k I hp hq pa pb hA).2
 eq:=λ{X pins σ H s x y v u a b A} I rx ry h1 h2 hA=>by
  obtain ⟨p,xs,rfl,hp,pa⟩:=h1;obtain ⟨q,ys,rfl,hq,pb⟩:=h2;cases rx;cases ry;by_cases e:p=q
  ·subst e;have e:=I.list_inj hp hq;subst e;rw[iV (F:=λa x=>k.R X.K H x a) (λa b x=>k.inj I) pa pb,decide_eq_true rfl];exact SeqAt.EqAt.same _
  ·exact .of_refs e (vY k I hp hq pa pb hA).1
def Kind.via {β:Type} [DecidableEq β] (f:β->α) (fi:∀a b,f a=f b->a=b) (R':FG9->Hp->V->β->Prop) (im:∀{K H x b},R' K H x b->k.R K H x (f b)):Kind β where
 R:=R'
 d:=k.d
 inj:=λI h1 h2=>fi _ _ (k.inj I (im h1) (im h2))
 rc:=λ{X pins σ H s x y v u a b A} I rx ry h1 h2 hA=>by
  have z:=k.rc (A:=A) I rx ry (im h1) (im h2) hA;rwa [decide_eq_decide.mpr (show f a=f b↔a=b from ⟨fi a b,λe=>by rw[e]⟩)] at z
 ne:=λ{X pins σ H s x y v u a b A} I rx ry h1 h2 hA=>by
  have z:=k.ne (A:=A) I rx ry (im h1) (im h2) hA;rwa [decide_eq_decide.mpr (show f a=f b↔a=b from ⟨fi a b,λe=>by rw[e]⟩)] at z
 eq:=λ{X pins σ H s x y v u a b A} I rx ry h1 h2 hA=>by
  have z:=k.eq (A:=A) I rx ry (im h1) (im h2) hA;rwa [decide_eq_decide.mpr (show f a=f b↔a=b from ⟨fi a b,λe=>by rw[e]⟩)] at z
end
def yh (K:FG9) (H:Hp) (x:V) (n:Int×Int):Prop:=∃p,x=.ref p/\oo K H p [.int n.1,.int n.2]
def EJ:Kind (Int×Int):=(EI EL).via (λn=>[n.1,n.2]) (λa b e=>by cases a;cases b;simp at e;rw[e.1,e.2]) yh λ⟨p,e,h⟩=>⟨p,_,e,h,.cons rfl (.cons rfl .nil)⟩
def DN (K:FG9):R2:=λx y H Q=>∃(α:Type) (_:DecidableEq α) (k:Kind α) (a b:α),k.d<=50/\k.R K H x a/\k.R K H y b/\Q (.bl (decide (a=b))) H
def DM (K:FG9):R2:=λx y H Q=>∃(α:Type) (_:DecidableEq α) (k:Kind α) (a b:α),k.d<=50/\k.R K H x a/\k.R K H y b/\Q (.bl (!decide (a=b))) H
theorem oI {X:Cx} (hu:X.A.units+50 < cLine):oY X (compareOp .Eq) (DN X.K):=by
 intro pins s σ H x y v u Q I rx ry h;obtain ⟨α,_,k,a,b,hd,ha,hb,q⟩:=h;exact k.rc (A:=X.A) I rx ry ha hb (by lia) _ _ _ _ ⟨.bl (decide (a=b)),H,I,rfl,q⟩
theorem tQ {X:Cx} (hu:X.A.units+50 < cLine):oY X (compareOp .NotEq) (DM X.K):=by
 intro pins s σ H x y v u Q I rx ry h;obtain ⟨α,_,k,a,b,hd,ha,hb,q⟩:=h;exact k.ne (A:=X.A) I rx ry ha hb (by lia) _ _ _ _ ⟨.bl (!decide (a=b)),H,I,rfl,q⟩
theorem qW {A:Around} {k:Nat} (hr:kC k A):A.units+50 < cLine:=by have:=hr.units;lia
def Inner (H:Hp) (p q:Addr):Prop:=∃a b c:Int,H p=some (.lst [.int a,.int b,.int c,.ref q])
def cA (p:Addr) (H H':Hp):Prop:=(∀b o,H b=some o->b≠p->H' b=some o)/\∀q,Inner H p q->Inner H' p q
theorem cA.refl {p:Addr} (H:Hp):cA p H H:=⟨λ_ _ h _=>h,λ_ h=>h⟩
theorem cA.trans {p:Addr} {H H1 H2:Hp} (a:cA p H H1) (b:cA p H1 H2):cA p H H2:=⟨λc o h n=>b.1 c o (a.1 c o h n) n,λq h=>b.2 q (a.2 q h)⟩
theorem Inner.inj {H:Hp} {p q q':Addr} (h:Inner H p q) (h':Inner H p q'):q=q':=by
 obtain ⟨a,b,c,e⟩:=h;obtain ⟨a',b',c',e'⟩:=h';rw[e] at e';have:=HO.lst.inj (bh e');simp at this;exact this.2.2.2
theorem cA.set {p q:Addr} {H:Hp} {a b c a' b' c':Int} (h:H p=some (.lst [.int a,.int b,.int c,.ref q])):cA p H (upd H p (.lst [.int a',.int b',.int c',.ref q])) :=
 ⟨λb u h n=>by rw[aY n];exact h,λq' h'=>by
  rw[(Inner.inj ⟨a,b,c,h⟩ h').symm];exact ⟨a',b',c',aF⟩⟩
theorem aH.upto {p:Addr} {H H':Hp} (h:aH H H'):cA p H H':=⟨λb o e _=>h b o e,λq ⟨a,b,c,e⟩=>⟨a,b,c,h _ _ e⟩⟩
theorem aH.new {H:Hp} {p:Addr} {o:HO} (h:H p=Option.none):aH H (upd H p o):=λb u e=>by rw[aY (eH e h)];exact e
theorem aH.sqt {K:FG9} {H H':Hp} {a:Addr} {xs:List V} (e:aH H H') (h:oo K H a xs):oo K H' a xs:=by
 rcases h with (h | ⟨o,h⟩) | h
 ·exact .inl (.inl (e _ _ h))
 ·exact .inl (.inr ⟨o,e _ _ h⟩)
 ·exact .inr h
theorem aH.num {K:FG9} {H H':Hp} {x:V} {n:Int×Int} (e:aH H H') (h:yh K H x n):yh K H' x n:=by obtain ⟨p,q,r⟩:=h;exact ⟨p,q,e.sqt r⟩
section
variable {σ:St} {H:Hp} {D:Ends}
theorem aS {t:TS} {σ0 σ:St} {D:Ends} {H:Hp} (e:σ0=σ) (h:t D σ H):t D σ0 H:=by rw[e];exact h
theorem Cb {t u:TS} (h:t { D with nx:=u D } σ H):Dl t u D σ H:=h
theorem Ak (h:D.nx σ H):A9 D σ H:=h
theorem Cr {te:TE} {g:TG} (h:te σ H λx H1=>g x σ H1 D.nx):z5 te g D σ H:=h
theorem yK {i:Nat} {v:V} {Q:St->Hp->Prop} (h:Q (σ.set i (some v)) H):xj i v σ H Q:=h
theorem Cc {te:TE} (h:te σ H D.rt):Dm te D σ H:=h
theorem Cm {c:TT} {t u:TS} (h:c σ H λb H1=>if b=true then t D σ H1 else u D σ H1):Du c t u D σ H:=h
theorem Aq {te:TE} (h:te σ H λ_ H1=>D.nx σ H1):Bh te D σ H:=h
theorem Cd {i j:Nat} {ta:TA} (h:ta σ H λvs H1=>∃v w,vs=[v,w]/\D.nx ((σ.set i (some v)).set j (some w)) H1):Dn i j ta D σ H:=h
theorem Av {to ti te:TE} {tget:V->V->Hp->VK->Prop} {tip:Ea} {tset:wb}
  (h:to σ H λo H1=>ti σ H1 λi H2=>tget o i H2 λx H3=>te σ H3 λy H4=>tip x y H4 λz H5=>tset o i z H5 λH6=>D.nx σ H6):Bn to ti te tget tip tset D σ H:=h
theorem Ck {f:Int->Int->Int} {i j:Int} {Q:VK} (h:Q (.int (f i j)) H):ipI f (.int i) (.int j) H Q:=⟨i,j,rfl,rfl,h⟩
theorem Co {wi:TI} {g:TG} {tb:TS} (h:wi σ H λJ H1=>∃W:Nat->Nat->St->Hp->Prop,(∃m,W 0 m σ H1)/\∀i m σ H,W i m σ H →
  (J.stop i H/\D.nx σ H)\/(J.go i H/\∃N:St->Hp->Prop,(∀σ' H',N σ' H'->∃m',m' < m/\W (i+1) m' σ' H')/\∀x H',J.yld i H x H'->g x σ H' λσ2 H2=>tb { D with nx:=N,ct:=N,bk:=D.nx } σ2 H2)):Dv wi g tb D σ H:=h
variable {Q:VK} {QA:List V->Hp->Prop} {QB:Bool->Hp->Prop}
theorem BY {i:Nat} {v:V} (e:σ[i]?=some (some v)) (h:Q v H):BP i σ H Q:=⟨v,e,h⟩
theorem Ez {v:V} (h:Q v H):tC v σ H Q:=h
theorem DG {r:R2} {ta tb:TE} (h:ta σ H λx H1=>tb σ H1 λy H2=>r x y H2 Q):Dp r ta tb σ H Q:=h
theorem DC {r:V->Hp->VK->Prop} {ta:TE} (h:ta σ H λx H1=>r x H1 Q):tUn r ta σ H Q:=h
theorem DJ {g:Int->Int->V} {i j:Int} (h:Q (g i j) H):Br g (.int i) (.int j) H Q:=⟨i,j,rfl,rfl,h⟩
theorem eh {C:Int->Int->Prop} {g:Int->Int->V} {i j:Int} (hc:C i j) (h:Q (g i j) H):rI C g (.int i) (.int j) H Q:=⟨i,j,rfl,rfl,hc,h⟩
theorem EA {g:Int->V} {i:Int} (h:Q (g i) H):rU g (.int i) H Q:=⟨i,rfl,h⟩
theorem Cq {i j:Int} (h:Q (.bl (decide (i=j))) H):EC (.int i) (.int j) H Q:=⟨rfl,by
 have e:decide (V.int i=V.int j)=decide (i=j):=by simp
 rw[e];exact h⟩
theorem Cg {i j:Int} (h:Q (.bl (!decide (i=j))) H):rNe (.int i) (.int j) H Q:=⟨rfl,by
 have e:decide (V.int i=V.int j)=decide (i=j):=by simp
 rw[e];exact h⟩
theorem Cp {i j:Str} (h:Q (.bl (decide (i=j))) H):EC (.str i) (.str j) H Q:=⟨rfl,by
 have e:decide (V.str i=V.str j)=decide (i=j):=by simp
 rw[e];exact h⟩
theorem Ai {t:TE} (h:t σ H λx H'=>∃k,x=.bl k/\QB k H'):A7 t σ H QB:=h
theorem DD {t:TE} (h:t σ H λx H'=>∃k,x=.bl k/\QB k H'):tB t σ H QB:=h
theorem Cs {t u:TT} (h:t σ H λc H1=>if c=true then u σ H1 QB else QB false H1):Dw t u σ H QB:=h
theorem DF {t u:TT} (h:t σ H λc H1=>if c=true then QB true H1 else u σ H1 QB):tOr t u σ H QB:=h
theorem Ce {t:TT} (h:t σ H λc H1=>QB (!c) H1):Dq t σ H QB:=h
theorem Aw {t u:TE} (h:t σ H λx H1=>∃c,x=.bl c/\if c=true then u σ H1 Q else Q (.bl false) H1):Bo t u σ H Q:=h
theorem Cn {c:TT} {ta tb:TE} (h:c σ H λb H1=>if b=true then ta σ H1 Q else tb σ H1 Q):tIf c ta tb σ H Q:=h
theorem BX (h:QB true H):Di σ H QB:=h
theorem Cf (h:QA [] H):Ds σ H QA:=h
theorem Ar {ta:TE} {tr:TA} (h:ta σ H λx H1=>tr σ H1 λxs H2=>QA (x :: xs) H2):Bm ta tr σ H QA:=h
theorem Au {sp:Sp} {E:XK} {t:TA} (h:t σ H λvs H1=>sp vs H1 Q E):yq sp [] E t σ H Q:=by
 have e:(λvs H1=>sp (vs++[]) H1 Q E)=λvs H1=>sp vs H1 Q E:=by funext vs H1;rw[List.append_nil]
 show t σ H λvs H1=>sp (vs++[]) H1 Q E
 rw[e];exact h
theorem DH {r:List V->Hp->VK->Prop} {t:TA} (h:t σ H λvs H1=>r vs H1 Q):Ey r t σ H Q:=h
theorem Cj {K:FG9} {p:Addr} {xs:List V} {i:Int} {v:V} (hx:oo K H p xs) (e:yg xs i=some v) (h:Q v H):Ct K (.ref p) (.int i) H Q:=⟨p,xs,i,v,rfl,rfl,hx,e,h⟩
theorem cJ {K:FG9} {p:Addr} {xs:List V} {i:Int} (hx:bT K H p xs) {v:V} (e:yg xs i=some v) (h:Q v H):Cu K (.ref p) (.int i) H Q:=⟨p,xs,i,v,rfl,rfl,hx,e,h⟩
theorem Ap {K:FG9} {p:Addr} {xs:List V} {i:Int} (hx:bT K H p xs) {v:V} (e:yg xs i=some v) (h:Q v H):Bs K (.ref p) (.int i) H Q:=⟨p,xs,i,v,rfl,rfl,hx,e,h⟩
theorem jY {QH:Hp->Prop} {p:Addr} {xs:List V} {i:Int} {v:V} {j:Nat} {ys:List V} (hx:H p=some (.lst xs)) (e:zT xs.length i=some j) (ey:xs.set j v=ys) (h:QH (upd H p (.lst ys))):Bq (.ref p) (.int i) v H QH:=⟨p,xs,i,j,rfl,rfl,hx,e,by rw[ey];exact h⟩
theorem An {to ti:TE} {t:wb} {v:V} {QS:St->Hp->Prop} (h:to σ H λo H1=>ti σ H1 λi H2=>t o i v H2 λH3=>QS σ H3):D6 to ti t v σ H QS:=h
theorem yL {t:TG} {u:zU} {v:V} {r:List V} {QS:St->Hp->Prop} (h:t v σ H λσ' H'=>u r σ' H' QS):BD t u (v :: r) σ H QS:=⟨v,r,rfl,h⟩
theorem Ao {QS:St->Hp->Prop} (h:QS σ H):D7 [] σ H QS:=⟨rfl,h⟩
theorem Am {K:FG9} {n:Nat} {t:zU} {a:Addr} {xs:List V} {QS:St->Hp->Prop} (hx:oo K H a xs) (hl:xs.length=n) (h:t xs σ H QS):CT K n t (.ref a) σ H QS:=⟨a,xs,rfl,hx,hl,h⟩
theorem DE {r:V->Option Int->Option Int->Hp->VK->Prop} {te:TE} {tl th:TO} (h:te σ H λx H1=>tl σ H1 λl H2=>th σ H2 λu H3=>r x l u H3 Q):tSl r te tl th σ H Q:=h
theorem xN {QO:Option Int->Hp->Prop} (h:QO none H):wB σ H QO:=h
theorem Aj {t:TE} {QO:Option Int->Hp->Prop} (h:t σ H λx H1=>∃i,x=.int i/\QO (some i) H1):A8 t σ H QO:=h
variable {R:It->Hp->Prop} {K:FG9}
theorem yI {tl:TE} (h:tl σ H λx H1=>∃a,x=.ref a/\(∃xs,bT K H1 a xs)/\R (BG K a) H1):zf K tl σ H R:=h
theorem yH {ta:TA} (h:ta σ H λvs H1=>∃j:Int,vs=[.int j]/\-(2^62)<=j/\j < 2^62/\R (we 0 j.toNat) H1):Bx ta σ H R:=h
theorem yG {ta:TA} (h:ta σ H λvs H1=>∃i j:Int,vs=[.int i,.int j]/\(-(2^62)<=i/\i < 2^62/\-(2^62)<=j/\j < 2^62)/\R (we i (j - i).toNat) H1):Bw ta σ H R:=h
theorem As {wi:TI} {k:Nat} {cap:List Nat} {g:TG} {tf:TT} {te:TE} {σ₀:St} (e:yi k cap σ=σ₀) (h:wi σ H λJ H1=>ot J σ₀ g tf te Q H1):uB wi k cap g tf te σ H Q:=by
 unfold uB;rw[e];exact h
theorem Ah {g:TG} {tf:TT} {te:TE} {x:V} {NY:V->Hp->Prop} {NN:Hp->Prop} (h:g x σ H λσ2 H2=>tf σ2 H2 λb H3=>if b=true then te σ2 H3 NY else NN H3):nA σ g tf te x H NY NN:=h
theorem DI {T:String} {r:V->List V->Hp->VK->Prop} {to:TE} {t:TA} (h:to σ H λx H1=>Ex K T x H1/\t σ H1 λxs H2=>r x xs H2 Q):tBM K T r to t σ H Q:=h
def Ee (Q:VK) (xs:List V) (H:Hp):Prop:=xs.length<=sizeLine/\∀p,H p=none->Q (.ref p) (upd H p (.tup xs))
def Ef (Q:VK) (xs:List V) (H:Hp):Prop:=xs.length<=sizeLine/\∀p,H p=none->Q (.ref p) (upd H p (.lst xs))
theorem B9 {t:TA} (h:t σ H (Ee Q)):Dj t σ H Q:=h
theorem Ci {t:TA} (h:t σ H (Ef Q)):Dt t σ H Q:=h
theorem jM {n:Nat} (h:Nat.ble n 1000=true):n<=sizeLine:=bj (bQ (Nat.le_of_ble_eq_true h))
theorem cu {xs:List V} (h:∀p H',aH H H'->H' p=some (.tup xs)->Q (.ref p) H') (hl:Nat.ble xs.length 1000=true:=by rfl):Ee Q xs H :=
 ⟨jM hl,λp hp=>h p _ (aH.new hp) aF⟩
theorem je {xs:List V} (h:∀p H',aH H H'->H p=none->H' p=some (.lst xs)->Q (.ref p) H') (hl:Nat.ble xs.length 1000=true:=by rfl):Ef Q xs H :=
 ⟨jM hl,λp hp=>h p _ (aH.new hp) hp aF⟩
theorem D2 {A B:Prop} (h:B):if (!true)=true then A else B:=D4 h
theorem D3 {A B:Prop} (h:A):if (!false)=true then A else B:=DZ h
def WB (tb:TS) (D:Ends) (Pv:St->Hp->Prop) (μ:St->Hp->Nat) (n:Nat) (σ:St) (H:Hp):Prop:=∃N:St->Hp->Prop,(∀σ' H',N σ' H'->∃m',m' < n/\(m'=μ σ' H'/\Pv σ' H'))/\tb { D with nx:=N,ct:=N,bk:=D.nx } σ H
theorem DB {tb:TS} {Pv:St->Hp->Prop} {μ:St->Hp->Nat} {n:Nat} (h:tb { D with nx:=λσ' H'=>Pv σ' H'/\μ σ' H' < n,ct:=λσ' H'=>Pv σ' H'/\μ σ' H' < n,bk:=D.nx } σ H):WB tb D Pv μ n σ H :=
 ⟨_,λσ' H' ⟨p,l⟩=>⟨_,l,rfl,p⟩,h⟩
theorem wq {c:TT} {tb:TS} (Pv:St->Hp->Prop) (μ:St->Hp->Nat) (h0:Pv σ H) (hs:∀σ H,Pv σ H->c σ H λb H1=>if b=true then WB tb D Pv μ (μ σ H) σ H1 else D.nx σ H1):yp c tb D σ H:=by
 refine ⟨λm σ H=>m=μ σ H/\Pv σ H,⟨_,rfl,h0⟩,?_⟩;rintro m σ H ⟨rfl,p⟩;exact hs σ H p
end
def kH (H:Hp) (p:Addr):Prop:=∃(q:Addr) (a b c:Int) (cs:List Int),H p=some (.lst [.int a,.int b,.int c,.ref q])/\H q=some (.lst (cs.map V.int))/\0<=a/\0<=c/\c<=(cs.length:Int)/\∀x∈cs,(0:Int)<=x
theorem yf {H:Hp} {p q:Addr} {a b c:Int} {cs:List Int} (hp:H p=some (.lst [.int a,.int b,.int c,.ref q])) (hq:H q=some (.lst (cs.map V.int))):q≠p:=λe=>by
 rw[e,hp] at hq;have h:=HO.lst.inj (bh hq);cases cs with
 | nil=>cases h
 | cons x1 cs=>cases cs with
  | nil=>cases h
  | cons x2 cs=>cases cs with
   | nil=>cases h
   | cons x3 cs=>cases cs with
    | nil=>cases h
    | cons x4 cs=>simp at h
theorem kH.same {H H':Hp} {p:Addr} (h:kH H p) (e:aH H H'):kH H' p:=by obtain ⟨q,a,b,c,cs,h1,h2,r⟩:=h;exact ⟨q,a,b,c,cs,e _ _ h1,e _ _ h2,r⟩
theorem cA.tup {H H':Hp} {p r:Addr} {xs:List V} (u:cA p H H') (B:kH H p) (h:H r=some (.tup xs)):H' r=some (.tup xs):=by
 obtain ⟨q,a,b,c,cs,h1,_⟩:=B;exact u.1 r _ h λe=>by rw[e,h1] at h;cases h
theorem cA.other {H H':Hp} {p r:Addr} {o:HO} (u:cA p H H') (n:r≠p) (h:H r=some o):H' r=some o:=u.1 r _ h n
theorem kH.inner {H:Hp} {p:Addr} (h:kH H p):∃q,Inner H p q/\∃xs,H q=some (.lst xs):=by obtain ⟨q,a,b,c,cs,h1,h2,_⟩:=h;exact ⟨q,⟨a,b,c,h1⟩,_,h2⟩
theorem kH.upd {H:Hp} {p q r:Addr} {o:HO} (h:kH H p) (hi:Inner H p q) (n1:r≠p) (n2:r≠q):kH (L2.upd H r o) p:=by
 obtain ⟨q',a,b,c,cs,h1,h2,z⟩:=h;have e:q'=q:=Inner.inj ⟨a,b,c,h1⟩ hi;subst e;exact ⟨q',a,b,c,cs,by rw[aY n1.symm];exact h1,by rw[aY n2.symm];exact h2,z⟩
theorem Inner.upd {H:Hp} {p q r:Addr} {o:HO} (hi:Inner H p q) (n1:r≠p):Inner (L2.upd H r o) p q:=by obtain ⟨a,b,c,h⟩:=hi;exact ⟨a,b,c,by rw[aY n1.symm];exact h⟩
def z9:Sp:=λvs H Q _=>∃p n,vs=[.ref p,.int n]/\kH H p/\0 < n/\n < 2^64/\∀v H',0<=v->v < n->kH H' p->cA p H H'->Q (.int v) H'
inductive yz (K:FG9) (vs:List V) (H:Hp) (Q:VK) (E9:XK):Prop
 | mk (a:Addr) (ns:List Int):vs=[.ref a]->bT K H a (ns.map V.int)->ns.length<=63->(∀p H',H p=none->kH H' p->aH H H'->Q (.ref p) H')->yz K vs H Q E9
inductive qE (K:FG9) (vs:List V) (H:Hp) (Q:VK) (E9:XK):Prop
 | mk (a:Addr) (ns:List Int):vs=[.ref a]->bT K H a (ns.map V.int)->ns.length<=63->(∀H',Q (.bl true) H')->qE K vs H Q E9
def BS:Sp:=λvs H Q _=>∃t b,vs=[.int t,.int b]/\0 < b/\Sz 8999 b/\∀r H',aH H H'->H' r=some (.tup [.int (lo t b),.int (hi t b)])->Q (.ref r) H'
def Dy:Sp:=λvs H Q _=>∃a b,vs=[.int a,.int b]/\Q (.int (g a b)) H
def xK:Sp:=λvs H Q _=>∃t b,vs=[.int t,.int b]/\b≠0/\Sz 8999 b/\∀r H',aH H H'->H' r=some (.tup [.int (lo (if b < 0 then -t else t) (if b < 0 then -b else b)),.int (hi (if b < 0 then -t else t) (if b < 0 then -b else b))])->Q (.ref r) H'
def BE (a b c d:Int):Int:=a*d+c*b
def zy (a b c d:Int):Int:=a*d - c*b
def zx (a _b c _d:Int):Int:=a*c
def wF (K:FG9) (f:Int->Int->Int->Int->Int):Sp:=λvs H Q _=>∃p q a b c d,vs=[.ref p,.ref q]/\oo K H p [.int a,.int b]/\oo K H q [.int c,.int d]/\0 < b/\0 < d/\Sz 4000 a/\Sz 4000 b/\Sz 4000 c/\Sz 4000 d /\
 ∀r H',aH H H'->H' r=some (.tup [.int (lo (f a b c d) (b*d)),.int (hi (f a b c d) (b*d))])->Q (.ref r) H'
def Aa (K:FG9):Sp:=λvs H Q _=>∃p q a b c d,vs=[.ref p,.ref q]/\oo K H p [.int a,.int b]/\oo K H q [.int c,.int d]/\0 < b/\0 < d/\c≠0/\Sz 4000 a/\Sz 4000 b/\Sz 4000 c/\Sz 4000 d /\
 ∀r H',aH H H'->H' r=some (.tup [.int (lo (if c < 0 then 0 - a*d else a*d) (if c < 0 then 0 - b*c else b*c)),.int (hi (if c < 0 then 0 - a*d else a*d) (if c < 0 then 0 - b*c else b*c))])->Q (.ref r) H'
theorem cB {α β:Type} {F:α->β->Prop}:∀{l1 l1':List α} {l2 l2':List β},Paired F l1 l2->Paired F l1' l2'->Paired F (l1++l1') (l2++l2')
 | _,_,_,_,.nil,h=>h
 | _,_,_,_,.cons r t,h=>.cons r (cB t h)
theorem fb {h:Heap} {a b:Addr} {o u:Obj} (ha:h.get? a=some o) (hb:h.get? b=some u) (hc:o.cls≠u.cls):a≠b:=λe=>by
 subst e;rw[ha] at hb;cases hb;exact hc rfl
theorem nh {a b:String} (h:a≠b):Value.type a≠Value.type b:=λe=>h (by injection e)
theorem rR {h:Heap} {z TI TO i1 i2 l1 l2:Addr} {f0 a b:Value} {k1 k2:Nat} {xs ys:Array Value} (hz:IsZip h z TI TO f0) (hTI:IsPair h TI (.ref i1) (.ref i2)) (hTO:IsPair h TO a b)
  (h1:h.IsListIter i1 l1 k1) (h2:h.IsListIter i2 l2 k2) (hl1:h.IsList l1 xs) (hl2:h.IsList l2 ys) (hT:TI≠TO) (hi:i1≠i2):ZipApart z TI TO i1 i2 l1 l2:=by
 obtain ⟨o1,g1,c1,_⟩:=h1;obtain ⟨o2,g2,c2,_⟩:=h2;obtain ⟨p1,q1,d1,_⟩:=hl1;obtain ⟨p2,q2,d2,_⟩:=hl2;refine ⟨fb hTI hz ?_,fb hTO hz ?_,fb g1 hz ?_,fb g2 hz ?_,hT,fb hTI g1 ?_,fb hTI g2 ?_,fb hTO g1 ?_,fb hTO g2 ?_,hi,fb q1 hz ?_,fb q1 hTO ?_,fb q1 g1 ?_,fb q1 g2 ?_,fb q2 hz ?_,fb q2 hTO ?_,fb q2 g1 ?_,fb q2 g2 ?_⟩
 all_goals first
  | (rw[d1];first | (rw[c1];exact nh (by decide)) | (rw[c2];exact nh (by decide)) | exact nh (by decide))
  | (rw[d2];first | (rw[c1];exact nh (by decide)) | (rw[c2];exact nh (by decide)) | exact nh (by decide))
  | (rw[c1];exact nh (by decide))
  | (rw[c2];exact nh (by decide))
  | exact nh (by decide)
def C7 (K : FG9) (l1 l2 : Addr) : It :=
  ⟨λi H => ∃ xs ys x y, bT K H l1 xs /\ bT K H l2 ys /\ xs[i]? = some x /\ ys[i]? = some y,
   λi H v H' => ∃ p x y, v = .ref p /\ H p = none /\ H' = upd H p (.tup [x, y]) /\ (∀ xs, bT K H l1 xs → xs[i]? = some x) /\ ∀ ys, bT K H l2 ys → ys[i]? = some y,
   λi H => ∃ xs ys, bT K H l1 xs /\ bT K H l2 ys /\ (xs.length ≤ i \/ ys.length ≤ i)⟩
def tnZ (z TI TO i1 i2 l1 l2:Addr) (i:Nat) (h:Heap):Prop:=IsZip h z TI TO .none/\IsPair h TI (.ref i1) (.ref i2)/\(∃a b,IsPair h TO a b)/\h.IsListIter i1 l1 i/\h.IsListIter i2 l2 i
theorem yo {P:Program} {w:World} {K:FG9} {elts:List Expr} {kk:Nat} {tpos:Pos} (z TI TO i1 i2 l1 l2:Addr) (hT:TI≠TO) (hi:i1≠i2):Turn P w K (.Tuple elts kk tpos) (C7 K l1 l2) [z,TI,TO,i1,i2] z (tnZ z TI TO i1 i2 l1 l2) where
 mem:=by simp
 obj:=λi h st b hb=>by
  obtain ⟨hz,hTI,⟨a,c,hTO⟩,⟨o1,g1,c1,d1⟩,⟨o2,g2,c2,d2⟩⟩:=st;simp only[aI,b5,or_false] at hb;rcases hb with rfl | rfl | rfl | rfl | rfl
  ·exact ⟨_,hz,λv q=>nomatch q⟩
  ·exact ⟨_,hTI,λv q=>nomatch q⟩
  ·exact ⟨_,hTO,λv q=>nomatch q⟩
  ·exact ⟨o1,g1,λv q=>by rw[d1] at q;cases q⟩
  ·exact ⟨o2,g2,λv q=>by rw[d2] at q;cases q⟩
 keep:=λi h h' st k=>by
  obtain ⟨hz,hTI,⟨a,c,hTO⟩,h1,h2⟩:=st;exact ⟨k z (by simp) _ hz,k TI (by simp) _ hTI,⟨a,c,k TO (by simp) _ hTO⟩,h1.at λo e=>k i1 (by simp) o e,h2.at λo e=>k i2 (by simp) o e⟩
 item:=by
  intro X hP hw hK hc i pins s σ H E I hf st hg;subst hP hw hK;obtain ⟨hz,hTI,⟨a,c,hTO⟩,h1,h2⟩:=st;obtain ⟨xs,ys,x,y,qx,qy,ex,ey⟩:=hg;obtain ⟨us,rx,px,_⟩:=I.list qx;obtain ⟨ws,ry,py,_⟩:=I.list qy;obtain ⟨u,eu,ru⟩:=rx.get ex;obtain ⟨v,ev,rv⟩:=ry.get ey;have D:=rR hz hTI hTO h1 h2 px.isList py.isList hT hi;refine wpAny_pyNext_zip_item D hz hTI hTO h1 h2 px.isList py.isList (x:=u) (y:=v) (by simpa using eu) (by simpa using ev) λh' a1 a2 a3 a4 a5 a6 hk=>?_
  refine ⟨_,rfl,wpAny_letOwnedTupleGo_zip a1 λh'' hz'' hs=>?_⟩;have hT0:H s.heap.objs.size=none:=I.hok.fresh (aj _);have zne:s.heap.objs.size≠z:=xB (Heap.lt_size hz)
  have up:∀b o,b∉[z,TO,i1,i2]->s.heap.get? b=some o->h''.get? b=some o:=λb o hb e=>by
   simp only[aI,b5,or_false,not_or] at hb;exact (hs.2 b hb.1).trans (hk b o hb.1 hb.2.1 hb.2.2.1 hb.2.2.2 e)
  have fx:∀b∈[z,TO,i1,i2],kR X pins H b:=λb hb=>hf b (by
   simp only[aI,b5,or_false] at hb ⊢;rcases hb with rfl | rfl | rfl | rfl <;> simp)
  have nx:∀b o,H b=some o->b∉[z,TO,i1,i2]:=λb o e hb=>by
   have:=(fx b hb).1;rw[this] at e;cases e
  have nT:∀{b:Addr} {o:HO},H b=some o->b≠s.heap.objs.size:=λe q=>by rw[q,hT0] at e;cases e
  have tup:h''.get? s.heap.objs.size=some { cls:=.type "tuple",data:=.seq #[u,v] }:=(hs.2 _ zne).trans a5
  have I2:Inv X pins σ (upd H s.heap.objs.size (.tup [x,y])) { s with heap:=h'' }:=by
   refine I.step (g':=s.gens) (d':=s.drawn) (t':=s.toks) (ch:=[z,TO,i1,i2]) (λb hb=>?_) (λb o _ _ hb e _=>up b o hb e) (λb o _ _ hb e _=>⟨o.slots,up b o hb e⟩) (λb o hb e n=>?_)
    (λb o hb e=>⟨o,up b o hb e⟩) (λb q e=>by rw[aY (nT e)];exact e) (λb o q e=>by rw[aY (nT e)];exact e) (λb q e=>⟨#[],by rw[aY (nT e),e];simp⟩) (λm hm=>?_) (λb o e=>?_) I.bare
   ·obtain ⟨_,f1,_,f3,f4,f5⟩:=fx b hb;exact ⟨f3,f1,f4,f5⟩
   ·rw[aY (bW (Heap.lt_size e))];exact n
   ·obtain ⟨o,es,ep,ho,r⟩:=hm;exact ⟨o,es,ep,up _ o (λz=>(fx _ z).2.1 rfl) ho,r⟩
   ·by_cases hb:b=s.heap.objs.size
    ·subst hb;rw[aF] at e;cases e;exact ⟨jM rfl,[u,v],.cons ru (.cons rv .nil),⟨_,tup,rfl,_,rfl⟩⟩
    ·rw[aY hb] at e;refine (I.hok b o e).stay (λc v' hc q=>up c v' ?_ q) (λc q=>by rw[aY (nT q)];exact q) λc xs q=>by rw[aY (nT q)];exact q
     rcases hc with rfl | hc
     ·exact nx _ _ e
     ·exact nx _ _ hc
  refine ⟨.ref s.heap.objs.size,_,I2,rfl,⟨_,x,y,rfl,hT0,rfl,λxs' q=>by rw[I.list_inj q qx];exact ex,λys' q=>by rw[I.list_inj q qy];exact ey⟩,?_,λb hb=>?_⟩
  ·refine ⟨hz'',(hs.2 _ D.TIz).trans (hk _ _ D.TIz D.TITO D.TIi1 D.TIi2 hTI),⟨_,_,(hs.2 _ D.TOz).trans a2⟩,a3.at λo e=>(hs.2 _ D.i1z).trans e,a4.at λo e=>(hs.2 _ D.i2z).trans e⟩
  ·obtain ⟨o,e,_⟩:∃o,s.heap.get? b=some o/\True:=by
    obtain ⟨o1,g1,_⟩:=h1;obtain ⟨o2,g2,_⟩:=h2;simp only[aI,b5,or_false] at hb;rcases hb with rfl | rfl | rfl | rfl | rfl
    ·exact ⟨_,hz,trivial⟩
    ·exact ⟨_,hTI,trivial⟩
    ·exact ⟨_,hTO,trivial⟩
    ·exact ⟨_,g1,trivial⟩
    ·exact ⟨_,g2,trivial⟩
   rw[aY (bW (Heap.lt_size e))];exact (hf b hb).1
 done:=by
  intro X hP hw hK hc i pins s σ H E I hf st hg;subst hP hw hK;obtain ⟨hz,hTI,⟨a,c,hTO⟩,h1,h2⟩:=st;obtain ⟨xs,ys,qx,qy,hend⟩:=hg;obtain ⟨us,rx,px,_⟩:=I.list qx;obtain ⟨ws,ry,py,_⟩:=I.list qy;have lx:=rx.length;have ly:=ry.length;have D:=rR hz hTI hTO h1 h2 px.isList py.isList hT hi
  refine wpAny_pyNext_zip_end (I.ok.hd hc) D hz hTI hTO h1 h2 px.isList py.isList (by
   rcases hend with q | q
   ·exact .inl (by simp;lia)
   ·exact .inr (by simp;lia)) λh' hk=>⟨rfl,?_⟩
  have up:∀b o,b∉[z,TO,i1,i2]->s.heap.get? b=some o->h'.get? b=some o:=λb o hb e=>by
   simp only[aI,b5,or_false,not_or] at hb;exact hk b o hb.1 hb.2.1 hb.2.2.1 hb.2.2.2 e
  have fx:∀b∈[z,TO,i1,i2],kR X pins H b:=λb hb=>hf b (by
   simp only[aI,b5,or_false] at hb ⊢;rcases hb with rfl | rfl | rfl | rfl <;> simp)
  have nx:∀b o,H b=some o->b∉[z,TO,i1,i2]:=λb o e hb=>by
   have:=(fx b hb).1;rw[this] at e;cases e
  refine I.step (g':=s.gens) (d':=s.drawn) (t':=s.toks) (ch:=[z,TO,i1,i2]) (λb hb=>?_) (λb o _ _ hb e _=>up b o hb e) (λb o _ _ hb e _=>⟨o.slots,up b o hb e⟩) (λb o hb e n=>n)
   (λb o hb e=>⟨o,up b o hb e⟩) (λb q e=>e) (λb o q e=>e) (λb q e=>⟨#[],by rw[e];simp⟩) (λm hm=>?_) (λb o e=>?_) I.bare
  ·obtain ⟨_,f1,_,f3,f4,f5⟩:=fx b hb;exact ⟨f3,f1,f4,f5⟩
  ·obtain ⟨o,es,ep,ho,r⟩:=hm;exact ⟨o,es,ep,up _ o (λz=>(fx _ z).2.1 rfl) ho,r⟩
  ·refine (I.hok b o e).stay (λc v' hc q=>up c v' ?_ q) (λc q=>q) λc xs q=>q
   rcases hc with rfl | hc
   ·exact nx _ _ e
   ·exact nx _ _ hc
 self:=λ_ _ _ _ _ st h=>wpAny_pyIter_zip st.1 h
section
variable {X:Cx}
def CM (K:FG9) (ta:TA):TI:=λσ H R=>ta σ H λvs H1=>∃l1 l2,vs=[.ref l1,.ref l2]/\(∃xs,bT K H1 l1 xs)/\(∃ys,bT K H1 l2 ys)/\R (C7 K l1 l2) H1
theorem nG {a b:Expr} {ta:TA} {p pos tpos:Pos} {elts:List Expr} {kk:Nat} (hg:Gl X "zip") (hm:X.mg "zip"=none) (ha:PA X [a,b] ta) (hs:starEach [a,b] X.env=[(false,eval a X.env),(false,eval b X.env)]:=by rfl) (hs2:starEach [b] X.env=[(false,eval b X.env)]:=by rfl) :
  PI X (.Tuple elts kk tpos) (.Call (.Name "zip" p) [a,b] [] pos) (CM X.K ta):=by
 intro pins s σ H R I h;refine Call_ (oP I hg hm boot_zip (PyProof.Rows.callWith_type1 (fe (ha pos pins s σ H _ I h) λus s1 ⟨vs,H1,I1,r1,q1⟩=>?_) (by rw[hs,hs2]) (by rw[hs2];rfl)));obtain ⟨l1,l2,e,⟨xs,qx⟩,⟨ys,qy⟩,q⟩:=q1;subst e;obtain ⟨u,v,rfl,ru,rv⟩:=vals2 r1;cases ru;cases rv;obtain ⟨us,rx,px,_⟩:=I1.list qx;obtain ⟨ws,ry,py,_⟩:=I1.list qy;refine call_zip_2 px.isList py.isList λh' a1 a2 a3 a4 a5 a6 hk=>wpAny_pyIter_zip a1 ?_
 have I2:Inv X pins σ H1 { s1 with heap:=h' }:=I1.kept (t':=s1.toks) hk;refine ⟨_,[s1.heap.objs.size+4,s1.heap.objs.size+2,s1.heap.objs.size+3,s1.heap.objs.size,s1.heap.objs.size+1],_,_,H1,rfl,I2,yo (s1.heap.objs.size+4) (s1.heap.objs.size+2) (s1.heap.objs.size+3) s1.heap.objs.size (s1.heap.objs.size+1) l1 l2 (bW (pN _)) (bW (pN _)),⟨a1,a2,⟨_,_,a3⟩,a4,a5⟩,λb hb=>?_,q⟩
 have hb':s1.heap.objs.size<=b:=by
  simp only[aI,b5,or_false] at hb;rcases hb with rfl | rfl | rfl | rfl | rfl <;> first | exact yl _ _ | exact aj _
 exact I1.fpOk hb' (I1.hok.fresh hb')
theorem zL (hc:X.calm=true):pK X (.builtin "all") (λxs H Q=>∃(p:Addr) (bs:List Bool),xs=[.ref p]/\bT X.K H p (bs.map V.bl)/\Q (.bl (bs.all id)) H):=by
 intro pins s σ H xs us Q I r h;obtain ⟨p,bs,rfl,hp,q⟩:=h;obtain ⟨u,rfl,ru⟩:=vals1 r;cases ru;obtain ⟨vs,rv,pl,hz⟩:=I.list hp
 have hb:PyProof.Rows.LSm.BoolsAre vs bs:=by
  clear q hp pl hz
  induction bs generalizing vs with
  | nil=>cases rv;exact .nil
  | cons b bs ih =>
   rw[kJ] at rv;cases rv with
   | cons r1 r2=>cases r1;exact .cons b (ih _ r2)
 have hlt:p < s.heap.objs.size:=by obtain ⟨_,e,_⟩:=pl.isList;exact Heap.lt_size e
 refine call_all_walk (wpAny_pyIter_list pl.isList ?_)
 refine ⟨s.heap.objs.size,[s.heap.objs.size,p],[s.heap.objs.size],vs.toArray.size,_,_,λi=>(bs[i]?).getD true,rfl,Walks.list (A:=X.A.in1) (I.ok.hd hc) _ p (bW hlt) vs.toArray,
  ⟨⟨_,Heap.get?_push_size _ rfl,rfl,rfl⟩,pl.isList.push _⟩,λi v s' Q' E' hP hQ=>?_,λh' tk hk=>?_⟩
 ·obtain ⟨b,e,rfl⟩:=hb.get i v (by simpa using hP);simp only[e,Option.getD_some] at hQ;exact wpAny_truthy_bool hQ
 ·have e:((List.range vs.toArray.size).all λi=>(bs[i]?).getD true)=bs.all id:=by
   rw[aG,hb.length];exact PyProof.Rows.LSm.range_all bs
  rw[e];exact ⟨.bl _,H,I.kept (t':=tk) (PyProof.Rows.LSm.kept_iter hk),rfl,q⟩
end
section
variable {K:FG9} {l1 l2:Addr} {xs ws:List V} {g:TG} {tf:TT} {te:TE} {Q:VK} {σ₀:St} {H:Hp}
theorem rg (Pv:Nat->List V->Hp->Prop) (hz:xs.length<=sizeLine) (hw:ws.length=xs.length) (h0:Pv 0 [] H) (hl:∀i ys H,i<=xs.length->Pv i ys H->bT K H l1 xs/\bT K H l2 ws)
  (hs:∀i x y ys H p,xs[i]?=some x->ws[i]?=some y->ys.length<=i->Pv i ys H->H p=none->nA σ₀ g tf te (.ref p) (upd H p (.tup [x,y])) (λy H'=>Pv (i+1) (ys++[y]) H') (λH'=>Pv (i+1) ys H'))
  (hd:∀ys H,ys.length<=xs.length->Pv xs.length ys H->∀p,H p=none->Q (.ref p) (upd H p (.lst ys))):ot (C7 K l1 l2) σ₀ g tf te Q H:=by
 refine ⟨λi m ys H=>m=xs.length - i/\i<=xs.length/\ys.length<=i/\Pv i ys H,⟨xs.length,by simp,bc _,bc _,h0⟩,?_⟩;rintro i m ys H ⟨rfl,hi,hy,p⟩;obtain ⟨q1,q2⟩:=hl i ys H hi p;by_cases hlt:i < xs.length
 ·refine .inr ⟨⟨xs,ws,xs[i],ws[i]'(by lia),q1,q2,by simp [hlt],by simp⟩,by lia,λy H'=>Pv (i+1) (ys++[y]) H',λH'=>Pv (i+1) ys H',λy H' p'=>⟨xs.length - (i+1),by lia,rfl,hlt,by rw[au,bO];lia,p'⟩,λH' p'=>⟨xs.length - (i+1),by lia,rfl,hlt,by lia,p'⟩,λx H' y=>?_⟩;obtain ⟨r,x',y',rfl,hr,rfl,e1,e2⟩:=y;exact hs i x' y' ys _ r (e1 xs q1) (e2 ws q2) hy p hr
 ·have e:i=xs.length:=by lia
  subst e;exact .inl ⟨⟨xs,ws,q1,q2,.inl (aj _)⟩,by lia,hd ys H hy p⟩
theorem xl {tb:TS} {D:Ends} {σ:St} (Pv:Nat->St->Hp->Prop) (hw:ws.length=xs.length) (h0:Pv 0 σ H) (hl:∀i σ H,i<=xs.length->Pv i σ H->bT K H l1 xs/\bT K H l2 ws)
  (hs:∀i x y σ H p,xs[i]?=some x->ws[i]?=some y->Pv i σ H->H p=none->g (.ref p) σ (upd H p (.tup [x,y])) λσ2 H2=>tb { D with nx:=Pv (i+1),ct:=Pv (i+1),bk:=D.nx } σ2 H2) (hd:∀σ H,Pv xs.length σ H->D.nx σ H) :
  ∃W:Nat->Nat->St->Hp->Prop,(∃m,W 0 m σ H)/\∀i m σ H,W i m σ H →
   ((C7 K l1 l2).stop i H/\D.nx σ H)\/((C7 K l1 l2).go i H/\∃N:St->Hp->Prop,(∀σ' H',N σ' H'->∃m',m' < m/\W (i+1) m' σ' H')/\∀x H',(C7 K l1 l2).yld i H x H'->g x σ H' λσ2 H2=>tb { D with nx:=N,ct:=N,bk:=D.nx } σ2 H2):=by
 refine ⟨λi m σ H=>m=xs.length - i/\i<=xs.length/\Pv i σ H,⟨xs.length,by simp,bc _,h0⟩,?_⟩;rintro i m σ H ⟨rfl,hi,p⟩;obtain ⟨q1,q2⟩:=hl i σ H hi p;by_cases hlt:i < xs.length
 ·refine .inr ⟨⟨xs,ws,xs[i],ws[i]'(by lia),q1,q2,by simp [hlt],by simp⟩,Pv (i+1),λσ' H' p'=>⟨xs.length - (i+1),by lia,rfl,hlt,p'⟩,λx H' y=>?_⟩;obtain ⟨r,x',y',rfl,hr,rfl,e1,e2⟩:=y;exact hs i x' y' σ _ r (e1 xs q1) (e2 ws q2) p hr
 ·have e:i=xs.length:=by lia
  subst e;exact .inl ⟨⟨xs,ws,q1,q2,.inl (aj _)⟩,hd σ H p⟩
end
section
variable {X:Cx}
theorem pW (K:FG9) (n:Nat) {es:List Expr} {k:Nat} {pos:Pos} {t:zU} (h:Ec X es t) (hK:X.K=K:=by rfl) (hc:X.calm=true:=by rfl)
  (hn:(assignEach es X.env).length=n:=by rfl) (hst:(assignEach es X.env).findIdx? (·.1)=none:=by rfl):PG X (.Tuple es k pos) (CT K n t):=by subst hK;exact tN hc h hn hst
theorem nQ (K:FG9) (hK:X.K=K):Eg X (Ct K):=by subst hK;exact bo
theorem lF (K:FG9) (hK:X.K=K):Eg X (Cu K):=by subst hK;exact bP
theorem AE (K:FG9) (hK:X.K=K) (hu:X.A.units+50 < cLine):oY X (compareOp .Eq) (DN K):=by subst hK;exact oI hu
theorem wU (K:FG9) (hK:X.K=K) (hu:X.A.units+50 < cLine):oY X (compareOp .NotEq) (DM K):=by subst hK;exact tQ hu
theorem u0 (K:FG9) {tg l:Expr} {tl:TE} (hl:PE X l tl) (hK:X.K=K:=by rfl):PI X tg l (zf K tl):=by subst hK;exact dC hl
end
section
variable {σ:St} {H:Hp} {D:Ends} {Q:VK}
theorem sf {l:Addr} {xs:List V} {y:V} (hl:H l=some (.lst xs)) (hz:xs.length < sizeLine) (h:Q .non (upd H l (.lst (xs++[y])))):wJ (.ref l) [y] H Q:=⟨l,xs,y,rfl,rfl,hl,hz,h⟩
theorem Al {K:FG9} {ta:TA} {R:It->Hp->Prop} (h:ta σ H λvs H1=>∃l1 l2,vs=[.ref l1,.ref l2]/\(∃xs,bT K H1 l1 xs)/\(∃ys,bT K H1 l2 ys)/\R (C7 K l1 l2) H1):CM K ta σ H R:=h
theorem vQ {l b:Addr} {xs zs:List V} (h1:H l=some (.lst xs)) (h2:H b=some (.lst zs)) (hz:xs.length+zs.length<=sizeLine) (h:∀p H',aH H H'->H p=none->H' p=some (.lst (xs++zs))->Q (.ref p) H'):DO (.ref l) (.ref b) H Q :=
 ⟨l,b,xs,zs,rfl,rfl,h1,h2,hz,λp hp=>h p _ (aH.new hp) hp aF⟩
theorem Ca {K:FG9} {a:Addr} {xs:List V} {lo hi:Option Int} (h1:bT K H a xs) (h:∀p H',aH H H'->H p=none->H' p=some (.lst (nZ xs lo hi))->Q (.ref p) H'):DK K (.ref a) lo hi H Q :=
 ⟨a,xs,rfl,h1,λp hp=>h p _ (aH.new hp) hp aF⟩
theorem zO {α:Type} {xs:List α} {i:Int} (h0:0<=i) (h1:i < xs.length):∃v,yg xs i=some v/\v∈xs/\xs[i.toNat]?=some v:=by
 have hj:i.toNat < xs.length:=by lia
 refine ⟨xs[i.toNat],?_,aA hj,by simp [hj]⟩;have:=fZ (xs:=xs) (j:=i.toNat) (v:=xs[i.toNat]) (by simp [hj]);rwa [Int.toNat_of_nonneg h0] at this
end
theorem j5 {α β:Type} {F:α->β->Prop}:∀{l1:List α} {l2:List β} {y:β},Paired F l1 l2->y∈l2->∃x∈l1,F x y
 | _,_,_,.nil,h=>nomatch h
 | _,_,_,.cons r t,h=>by
  rcases aI.mp h with rfl | h
  ·exact ⟨_,cj,r⟩
  ·obtain ⟨x,hx,q⟩:=j5 t h;exact ⟨x,br _ hx,q⟩
theorem cR {α β:Type} {F:α->β->Prop} {l1:List α} {l2:List β} {i:Nat} {y:β} (h:Paired F l1 l2) (e:l2[i]?=some y):∃x,l1[i]?=some x/\F x y:=by
 have hl:=h.length;have hi:i < l2.length:=(aB.mp e).1;refine ⟨l1[i]'(by lia),by simp,?_⟩;have:=gG h (i:=i) (by lia) hi;have e2:l2[i]=y:=(aB.mp e).2;rwa [e2] at this
theorem take_snoc {α:Type} {l:List α} {i:Nat} {v:α} (h:l[i]?=some v):l.take (i+1)=l.take i++[v]:=by rw[List.take_add_one,h];rfl
theorem aH.after {H H':Hp} {r:Addr} {o:HO} (s:aH H H') (h:H r=Option.none):aH H (upd H' r o):=λb u e=>by rw[aY (eH e h)];exact s b u e
theorem cA.after {H H':Hp} {b r:Addr} {o:HO} (s:cA b H H') (h:H r=Option.none):cA b H (upd H' r o):=⟨λc u e n=>by rw[aY (eH e h)];exact s.1 c u e n,λq hi=>(s.2 q hi).upd λz=>by obtain ⟨_,_,_,e⟩:=hi;rw[<- z,h] at e;cases e⟩
theorem cA.same {H H' H'':Hp} {b:Addr} (s:cA b H H') (e:aH H' H''):cA b H H'':=s.trans e.upto
theorem A2 {α:Type} {Pr:α->Prop} {l:List α} {a:α} (h:∀n∈l,Pr n) (ha:Pr a):∀n∈l++[a],Pr n:=λn hn=>by
 rcases aK.mp hn with hn | hn
 ·exact h n hn
 ·have e:n=a:=by simpa using hn
  rw[e];exact ha
section
variable {X:Cx} {pins:List (Addr×Obj)} {σ:St} {H:Hp} {s:Shared}
theorem Inv.moved {h':Heap} {ch:List Addr} {g':Array GenState} {d':Drawn} {t':Nat} (I:Inv X pins σ H s) (fx:∀b∈ch,kR X pins H b) (up:∀b o,b∉ch->s.heap.get? b=some o->h'.get? b=some o) (hg:AllBare g') :
  Inv X pins σ H { s with heap:=h',gens:=g',drawn:=d',toks:=t' }:=by
 have nx:∀b o,H b=some o->b∉ch:=λb o e hb=>by have:=(fx b hb).1;rw[this] at e;cases e
 refine I.step (ch:=ch) (λb hb=>?_) (λb o _ _ hb e _=>up b o hb e) (λb o _ _ hb e _=>⟨o.slots,up b o hb e⟩) (λb o hb e n=>n) (λb o hb e=>⟨o,up b o hb e⟩) (λb q e=>e) (λb o q e=>e) (λb q e=>⟨#[],by rw[e];simp⟩) (λm hm=>?_) (λb o e=>?_) hg
 ·obtain ⟨_,f1,_,f3,f4,f5⟩:=fx b hb;exact ⟨f3,f1,f4,f5⟩
 ·obtain ⟨o,es,ep,ho,r⟩:=hm;exact ⟨o,es,ep,up _ o (λz=>(fx _ z).2.1 rfl) ho,r⟩
 ·refine (I.hok b o e).stay (λc v' hc q=>up c v' ?_ q) (λc q=>q) λc xs q=>q
  rcases hc with rfl | hc
  ·exact nx _ _ e
  ·exact nx _ _ hc
theorem Inv.track {p:Addr} {o:HO} (I:Inv X pins σ H s) (fp:kR X pins H p) (new:jA X.prog X.w (upd H p o) s.heap p o):Inv X pins σ (upd H p o) s:=by
 have nt:∀{b:Addr} {u:HO},H b=some u->b≠p:=λe z=>by rw[z,fp.1] at e;cases e
 refine I.step (h':=s.heap) (g':=s.gens) (d':=s.drawn) (t':=s.toks) (ch:=[p]) (λb hb=>?_) (λb o _ _ _ e _=>e) (λb o _ _ _ e _=>⟨o.slots,e⟩) (λb o hb e n=>?_) (λb o _ e=>⟨o,e⟩) (λb q e=>by rw[aY (nt e)];exact e) (λb o q e=>by rw[aY (nt e)];exact e)
  (λb q e=>⟨#[],by rw[aY (nt e),e];simp⟩) (λm hm=>hm) (λb u e=>?_) I.bare
 ·have e:b=p:=by simpa using hb
  subst e;obtain ⟨_,f1,_,f3,f4,f5⟩:=fp;exact ⟨f3,f1,f4,f5⟩
 ·rw[aY λz=>hb (by simp [z])];exact n
 ·by_cases hb:b=p
  ·subst hb;rw[aF] at e;cases e;exact new
  ·rw[aY hb] at e;exact (I.hok b u e).stay (λc v _ q=>q) (λc q=>by rw[aY (nt q)];exact q) λc xs q=>by rw[aY (nt q)];exact q
end
end L2
namespace Nm
def oQ:List Int->Int->Int
 | [],m=>m
 | b :: r,m=>oQ r (m*(b / g m b))
theorem nO {m b:Int} (hm:0 < m) (hb:0 < b):0 < m*(b / g m b):=i7 hm (v5 (t:=m) hb)
theorem tY {m b : Int} : b ∣ m * (b / g m b) := by
  have h1 := qS m b;refine ⟨lo m b, ?_⟩;have h2 : b / g m b * g m b = b := oR m b
  calc m * (b / g m b) = lo m b * g m b * (b / g m b) := by rw [h1]
    _ = lo m b * (b / g m b * g m b) := by rw [iw, ib (g m b)]
    _ = b * lo m b := by rw [h2, ib]
theorem qU:∀{bs:List Int} {m:Int},0 < m->(∀b∈bs,0 < b)->0 < oQ bs m
 | [],_,hm,_=>hm
 | b :: r,m,hm,h=>qU (bs:=r) (nO hm (h b cj)) λc hc=>h c (br _ hc)
theorem vo:∀{bs:List Int} {m:Int},m∣oQ bs m
 | [],_=>Int.dvd_refl _
 | b :: r,m=>Int.dvd_trans (Int.dvd_mul_right m _) (vo (bs:=r))
theorem vn:∀{bs:List Int} {m b:Int},b∈bs->b∣oQ bs m
 | c :: r,m,b,h=>by
  rcases aI.mp h with rfl | h
  ·exact Int.dvd_trans tY (vo (bs:=r))
  ·exact vn (bs:=r) h
end Nm
namespace L2
open PySem PySem.Spec PyProof.Rows Nm
def C4 (K:FG9) (H:Hp) (p:Addr) (ns:List (Int×Int)):Prop:=∃xs,H p=some (.lst xs)/\Paired (λn x=>yh K H x n) ns xs
theorem sD:∀{bs:List Int} {m b:Int},oQ (bs++[b]) m=oQ bs m*(b / g (oQ bs m) b)
 | [],_,_=>rfl
 | c :: r,m,b=>sD (bs:=r)
def rT (ns:List (Int×Int)) (B:Int):List Int:=ns.map λn=>n.1*(B / n.2)
def oU (ns:List (Int×Int)):Int:=oQ (ns.map (·.2)) 1
theorem rl {ns:List (Int×Int)} {n:Int×Int} (h:n∈ns):n.2∣oU ns:=vn (aD.mpr ⟨n,h,rfl⟩)
theorem EN {m b:Int} (hb:0 < b) {k:Nat} (h:Sz k b):Sz k (g m b):=h.le (by
 have h1:(g m b).natAbs=Int.gcd m b:=by unfold g;simp
 rw[h1];exact kI (by lia) (by have:=dn (a:=m) (b:=b);exact dQ.mpr this |> λz=>by simpa using z))
theorem yF {H:Hp} {Q:VK} {l:Addr} {k:Nat} {x:V} (h:H l=some (.lst [x])) (hk:k<=1000) (q:∀p H',aH H H'->H p=none->H' p=some (.lst (List.replicate k x))->Q (.ref p) H'):DL (.ref l) (.int k) H Q :=
 ⟨l,k,[x],rfl,rfl,h,by lia,by lia,bj (bQ (by simp;lia)),λp hp=>q p _ (aH.new hp) hp (by rw[aF];simp)⟩
theorem C1 {xs:List V} {k:Nat} (h:k<=xs.length):nZ xs none (some (k:Int))=xs.take k:=by
 unfold nZ;rw[HT.uS,HT.wI,Nat.min_eq_left h];simp
theorem mW {α β:Type} {F:α->β->Prop} {x:α} {y:β} (h:F x y):∀m:Nat,Paired F (List.replicate m x) (List.replicate m y)
 | 0=>.nil
 | m+1=>.cons h (mW h m)
theorem md {n a:Nat} (h:a < n):zT n (a:Int)=some a:=by
 unfold zT;rw[if_pos (by lia),if_pos (by lia),Int.toNat_natCast]
theorem zJ {xs:List V} {k:Nat}:nZ xs none (some (k:Int))=xs.take k:=by
 by_cases h:k<=xs.length
 ·exact C1 h
 ·unfold nZ;rw[HT.uS,HT.wI,Nat.min_eq_right (by lia),aJ (by simp),aJ (by lia)];rfl
theorem pg {α β:Type} {F:α->β->Prop}:∀{l1:List α} {l2:List β} (_:Paired F l1 l2) (k:Nat),Paired F (l1.take k) (l2.take k)
 | _,_,.nil,k=>by simp;exact .nil
 | _,_,.cons h r,0=>.nil
 | _,_,.cons h r,k+1=>.cons h (pg r k)
theorem aH.none {H H':Hp} {l:Addr} (s:aH H H') (h:H' l=Option.none):H l=Option.none:=by
 cases e:H l with
 | none=>rfl
 | some o=>have:=s _ _ e;rw[h] at this;cases this
theorem vM {b:Int} (h:b.natAbs<=1000000):Sz 20 b:=bL h (by decide)
theorem cA.none {H H':Hp} {b l:Addr} (u:cA b H H') (B:kH H' b) (h:H' l=Option.none):H l=Option.none:=by
 cases e:H l with
 | none=>rfl
 | some o =>
  by_cases z:l=b
  ·obtain ⟨_,_,_,_,_,e2,_⟩:=B;rw[<- z,h] at e2;cases e2
  ·have:=u.1 l o e z;rw[h] at this;cases this
def yv:Sp:=λvs H Q _=>∃b,vs=[.ref b]/\kH H b/\∀r (m n:Int) H',H' r=some (.tup [.int m,.int n])->0<=m->0<=n->(m<=5/\n<=12\/m<=12/\n<=4)->kH H' b->cA b H H'->Q (.ref r) H'
end L2
namespace Nm
def nm (q:Rat):Int×Int:=(q.num,(q.den:Int))
theorem gH (q:Rat):0 < (nm q).2:=by have:=q.den_pos;show 0 < (q.den:Int);lia
theorem y4 (q:Rat):Int.gcd (nm q).1 (nm q).2=1:=q.reduced
theorem CF {p q:Rat} (h:nm p=nm q):p=q:=by
 have h1:p.num=q.num:=congrArg Prod.fst h;have h2:(p.den:Int)=q.den:=congrArg Prod.snd h;exact Rat.ext h1 (by lia)
theorem j7 (q : Rat) : (q.num : Rat) = q * (q.den : Rat) := by
  have h := Rat.num_divInt_den q;rw [Rat.divInt_eq_div] at h
  have hd : ((q.den : Int) : Rat) ≠ 0 := by
    intro z;have z := pL.mp z;have := q.den_pos
    lia
  have e : ((q.den : Int) : Rat) = (q.den : Rat) := aq _
  calc (q.num : Rat) = (q.num : Rat) / ((q.den : Int) : Rat) * ((q.den : Int) : Rat) := (Rat.div_mul_cancel hd).symm
    _ = q * (q.den : Rat) := by rw [h, e]
theorem DX {a b:Int} {q:Rat} (hb:0 < b) (hg:Int.gcd a b=1) (e:q*(b:Rat)=(a:Rat)):(a,b)=nm q:=by
 have h1:a*(q.den:Int)=q.num*b:=by
  apply cx.mp;rw[av,av,<- e,j7,aq];grind
 obtain ⟨e1,e2⟩:=uniq hb (gH q) hg (y4 q) h1;exact Prod.ext e1 e2
theorem jh {t b:Int} {q:Rat} (hb:0 < b) (e:q*(b:Rat)=(t:Rat)):(lo t b,hi t b)=nm q:=by
 refine DX (v5 hb) (vj (by lia)) ?_;have h:=v3 t b;have hb':(b:Rat)≠0:=λz=>by have:=pL.mp z;lia
 have h2:((lo t b:Int):Rat)*(b:Rat)=(t:Rat)*((hi t b:Int):Rat):=by rw[<- av,h,av]
 rw[<- e] at h2;have h3:(q*((hi t b:Int):Rat) - ((lo t b:Int):Rat))*(b:Rat)=0:=by grind
 rcases kS.mp h3 with h4 | h4
 ·grind
 ·exact absurd h4 hb'
def Fr (M V:Nat) (q:Rat):Prop:=∃z:Int,q*(M:Rat)=(z:Rat)/\z.natAbs<=V*M
theorem Fr.mono {M V V':Nat} {q:Rat} (h:Fr M V q) (l:V<=V'):Fr M V' q:=by obtain ⟨z,e,b⟩:=h;exact ⟨z,e,ag b (aR _ l)⟩
theorem Fr.scale {M V:Nat} {q:Rat} (h:Fr M V q) (k:Nat):Fr (M*k) V q:=by
 obtain ⟨z,e,b⟩:=h;refine ⟨z*k,?_,?_⟩
 ·rw[cM,av,<- e,aq,Rat.mul_assoc]
 ·rw[bS,aU,<- cX];exact aR _ b
theorem Fr.scaleL {M V:Nat} {q:Rat} (h:Fr M V q) (k:Nat):Fr (k*M) V q:=by rw[bX];exact h.scale k
theorem Fr.dvd {M N V:Nat} {q:Rat} (h:Fr M V q) (d:M∣N):Fr N V q:=by obtain ⟨k,rfl⟩:=d;exact h.scale k
theorem Fr.add {M V W:Nat} {p q:Rat} (h:Fr M V p) (h':Fr M W q):Fr M (V+W) (p+q):=by
 obtain ⟨z,e,b⟩:=h;obtain ⟨z',e',b'⟩:=h';refine ⟨z+z',by rw[zW,<- e,<- e',Rat.add_mul],?_⟩;rw[Nat.add_mul];have:=Int.natAbs_add_le z z'
 lia
theorem Fr.neg {M V:Nat} {q:Rat} (h:Fr M V q):Fr M V (-q):=by
 obtain ⟨z,e,b⟩:=h;exact ⟨-z,by rw[bH,<- e,Rat.neg_mul],by rw[e8];exact b⟩
theorem Fr.mul {M N V W : Nat} {p q : Rat} (h : Fr M V p) (h' : Fr N W q) : Fr (M * N) (V * W) (p * q) := by
  obtain ⟨z, e, b⟩ := h;obtain ⟨z', e', b'⟩ := h';refine ⟨z * z', ?_, ?_⟩
  · rw [cM, av, <- e, <- e']; grind
  · rw [bS]
    calc z.natAbs * z'.natAbs ≤ (V * M) * (W * N) := bp b b'
      _ = V * W * (M * N) := by rw [cX, xC M, <- cX]
theorem Fr.zero {M V:Nat}:Fr M V 0:=⟨0,by simp,by simp⟩
theorem Fr.int {M V:Nat} {i:Int} (h:i.natAbs<=V):Fr M V (i:Rat):=⟨i*M,by rw[av,aq],by rw[bS,aU];exact aR _ h⟩
theorem Fr.one {M V:Nat} (h:1<=V):Fr M V 1:=Fr.int (i:=1) h
theorem Fr.den {M V:Nat} {q:Rat} (h:Fr M V q):(q.den:Int)∣(M:Int):=by
 obtain ⟨z,e,b⟩:=h
 have h1:q.num*(M:Int)=z*(q.den:Int):=by
  apply cx.mp;rw[av,av,<- e,j7,aq,aq];grind
 have h2:(q.den:Int)∣q.num*(M:Int):=⟨z,by rw[h1,ib]⟩;exact ke (by rw[ic];exact y4 q) h2
theorem Fr.den_le {M V:Nat} {q:Rat} (h:Fr M V q) (hM:0 < M):q.den<=M:=kI hM (pO.mp h.den)
theorem Fr.num_le {M V:Nat} {q:Rat} (h:Fr M V q) (hM:0 < M):q.num.natAbs<=V*M:=by
 have hd:=h.den;obtain ⟨z,e,b⟩:=h;obtain ⟨k,hk⟩:=pO.mp hd;have hk0:k≠0:=λz=>by rw[z,Nat.mul_zero] at hk;lia
 have h1:z=q.num*(k:Int):=by
  apply cx.mp;rw[av,<- e,j7,aq,hk,cM];grind
 rw[h1] at b;exact ag (jF (by lia)) b
theorem Fr.own (q:Rat) {V:Nat} (h:q.num.natAbs<=V):Fr q.den V q:=⟨q.num,(j7 q).symm,ag h (cC _ q.den_pos)⟩
theorem Fr.sz {M V k j:Nat} {q:Rat} (h:Fr M V q) (hM:0 < M) (h1:M<=2^k) (h2:V<=2^j):Sz (j+k+1) (nm q).1/\Sz (k+1) (nm q).2:=by
 constructor
 ·show q.num.natAbs < 2^(j+k+1)
  have h3:=h.num_le hM;have h4:V*M<=2^j*2^k:=bp h2 h1;rw[mH,bx];have:=Nat.two_pow_pos (j+k);rw[bx] at this
  lia
 ·show (q.den:Int).natAbs < 2^(k+1)
  have h3:=h.den_le hM;rw[aU,mH];have:=Nat.two_pow_pos k
  lia
def dB (xs ys:List Rat):Rat:=(List.zipWith (·*·) xs ys).sum
theorem pZ : ∀ {bs : List Int} {m M : Int}, 0 < m → m ∣ M → (∀ b ∈ bs, 0 < b /\ b ∣ M) → oQ bs m ∣ M
  | [], _, _, _, h, _ => h
  | b :: r, m, M, hm, h, hb => by
    have b1 := hb b cj;refine pZ (bs := r) (nO hm b1.1) ?_ λc hc => hb c (br _ hc)
    have gp : 0 < g m b := qX (by lia);have e1 := qS m b;have e2 := oR m b;obtain ⟨u, hu⟩ := h;obtain ⟨v, hv⟩ := b1.2
    have h3 : lo m b * u = hi m b * v := by
      apply BI (show g m b ≠ 0 by lia)
      calc lo m b * u * g m b = lo m b * g m b * u := by rw [iw, ib u, <- iw]
        _ = m * u := by rw [e1]
        _ = M := hu.symm
        _ = b * v := hv
        _ = hi m b * g m b * v := by rw [e2]
        _ = hi m b * v * g m b := by rw [iw, ib (g m b), <- iw]
    have h4 : hi m b ∣ lo m b * u := ⟨v, h3⟩;have h5 : hi m b ∣ u := ke (by rw [ic]; exact vj (by lia)) h4;obtain ⟨w, hw⟩ := h5;refine ⟨w, ?_⟩;show M = m * hi m b * w
    rw [hu, hw, iw]
theorem uh {a b:Int} {k:Nat} (hb:0 < b) (d:a∣b) (h:Sz k b):Sz k a:=h.le (kI (by lia) (dQ.mpr d))
end Nm
namespace Nm
def Dr (W:Nat) (x:Rat):Prop:=x.num.natAbs<=W/\x.den<=W
def o9:List Nat->Nat
 | []=>1
 | a :: r=>a*o9 r
theorem sg:∀{l:List Nat},(∀a∈l,0 < a)->0 < o9 l
 | [],_=>Nat.one_pos
 | a :: r,h=>cf (h a (.head _)) (sg λb hb=>h b (.tail _ hb))
theorem si:∀{l:List Nat} {a:Nat},a∈l->a∣o9 l
 | b :: r,a,h=>by
  rcases aI.mp h with rfl | h
  ·exact Nat.dvd_mul_right ..
  ·exact Df (si h) (Nat.dvd_mul_left ..)
theorem uZ {k:Nat}:∀{l:List Nat},(∀a∈l,a<=2^k)->o9 l<=2^(k*l.length)
 | [],_=>by simp [o9]
 | a :: r,h=>by
  rw[bI,Nat.mul_succ,bx,bX (2^(k*r.length))];exact bp (h a (.head _)) (uZ λb hb=>h b (.tail _ hb))
def GF (M V:Nat) (rows:LR9):Prop:=∀xs∈rows,∀x∈xs,Fr M V x
def vE (c n i:Nat) (rows:LR9):Prop:=∃M,0 < M/\M<=2^(i*(c*n+2))/\GF M (2^(20+2*i)) rows
theorem CQ {c n:Nat}:vE c n 0 []:=⟨1,by decide,by simp,λ_ h=>nomatch h⟩
theorem zi (c n i:Nat):(i+1)*(c*n+2)=i*(c*n+2)+(c*n+2):=jC ..
theorem AQ {c n i:Nat} {rows:LR9} {xs:List Rat} (h:vE c n i rows) (hl:xs.length=n) (hd:∀x∈xs,Dr (2^c) x) (hc:c<=20):vE c n (i+1) (rows++[xs]):=by
 obtain ⟨M,h0,h1,h2⟩:=h
 have dp:0 < o9 (xs.map (·.den)):=sg λa ha=>by
  obtain ⟨x,_,rfl⟩:=aD.mp ha;exact x.den_pos
 have dl:o9 (xs.map (·.den))<=2^(c*n):=by
  have:=uZ (k:=c) (l:=xs.map (·.den)) λa ha=>by
   obtain ⟨x,hx,rfl⟩:=aD.mp ha;exact (hd x hx).2
  rwa [ah,hl] at this
 refine ⟨M*o9 (xs.map (·.den)),cf h0 dp,?_,λys hy x hx=>?_⟩
 ·rw[zi,bx];exact bp h1 (ag dl (af (by decide) (by lia)))
 ·rcases aK.mp hy with hy | hy
  ·exact ((h2 ys hy x hx).scale _).mono (af (by decide) (by lia))
  ·have e:ys=xs:=by simpa using hy
   subst e;have f:Fr x.den (2^c) x:=Fr.own x (hd x hx).1;have g:=(f.dvd (si (aD.mpr ⟨x,hx,rfl⟩))).scaleL M;exact g.mono (af (by decide) (by lia))
theorem CP {c n i:Nat} {rows:LR9} {one other:List Rat} {q:Rat} {z:Int} (h:vE c n i rows) (ho:one∈rows) (ht:other∈rows) (hq:q*3=(z:Rat)) (hz:z.natAbs<=6):vE c n (i+1) (rows++[List.zipWith (λx y=>x+y) one (other.map λy=>q*y)]):=by
 obtain ⟨M,h0,h1,h2⟩:=h;have fq:Fr 3 2 q:=⟨z,hq,by lia⟩;refine ⟨3*M,by lia,?_,λys hy x hx=>?_⟩
 ·rw[zi,bx,bX 3];refine bp h1 (ag (show 3<=2^2 by decide) (af (by decide) (by lia)))
 ·have e1:2^(20+2*(i+1))=4*2^(20+2*i):=by
   rw[show 20+2*(i+1)=(20+2*i)+2 by lia,bx,bX]
  rcases aK.mp hy with hy | hy
  ·exact ((h2 ys hy x hx).scaleL 3).mono (by lia)
  ·have e:ys=List.zipWith (λx y=>x+y) one (other.map λy=>q*y):=by simpa using hy
   subst e;obtain ⟨j,hj,e⟩:=aL hx;rw[gs,cS] at e;rw[<- e];have f1:=(h2 one ho _ (aA (l:=one) (n:=j) (by simp at hj;lia))).scaleL 3;have f2:=fq.mul (h2 other ht _ (aA (l:=other) (n:=j) (by simp at hj;lia)));exact (f1.add f2).mono (by lia)
theorem AO {c n i:Nat} {rows:LR9} (h:vE c n i rows) (hb:i*(c*n+2)<=300) (hi:i<=40):∃M V:Nat,0 < M/\M<=2^300/\V<=2^100/\∀xs∈rows,∀x∈xs,Fr M V x:=by
 obtain ⟨M,h0,h1,h2⟩:=h;exact ⟨M,_,h0,ag h1 (af (by decide) hb),af (by decide) (by lia),h2⟩
def bC (rows:LR9) (w:Nat):LR9:=(List.range w).map λj=>rows.map λxs=>xs.getD j 0
theorem bY {rows:LR9} {w:Nat}:(bC rows w).length=w:=by simp [bC]
theorem eM {rows:LR9} {w:Nat}:∀ys∈bC rows w,ys.length=rows.length:=λys hy=>by
 obtain ⟨j,_,rfl⟩:=aD.mp hy;exact ah ..
theorem getD_map {α:Type} {l:List α} {f:α->Rat} {i:Nat} (h:i < l.length):(l.map f).getD i 0=f l[i]:=by
 rw[aa,aw,ae h];rfl
theorem oy {rows:LR9} {w:Nat} (h:∀xs∈rows,xs.length=w):bC (bC rows w) rows.length=rows:=by
 apply cm
 ·exact bY
 ·intro i h1 h2;have e:(bC (bC rows w) rows.length)[i]=(bC rows w).map λxs=>xs.getD i 0:=by simp [bC]
  rw[e];have hw:=h rows[i] (aA h2);apply cm
  ·rw[ah,bY,hw]
  ·intro j h3 h4;rw[cS];have e2:(bC rows w)[j]'(by rw[bY];lia)=rows.map λxs=>xs.getD j 0:=by simp [bC]
   rw[e2,getD_map h2,aa,ae h4];rfl
end Nm
namespace L2
open PySem PySem.Spec PyProof.Rows Nm
theorem cA.sqt {K:FG9} {H H':Hp} {b a:Addr} {xs:List V} (u:cA b H H') (B:kH H b) (h:oo K H a xs):oo K H' a xs:=by
 rcases h with (h | ⟨o,h⟩) | h
 ·exact .inl (.inl (u.tup B h))
 ·exact .inl (.inr ⟨o,u.other (λz=>by obtain ⟨_,_,_,_,_,e,_⟩:=B;rw[z,e] at h;cases h) h⟩)
 ·exact .inr h
theorem yu {K:FG9} {H:Hp} {a l:Addr} {xs ys:List V} {o:HO} (h:oo K H a xs) (hl:H l=some (.lst ys)):oo K (upd H l o) a xs:=by
 rcases h with (h | ⟨o,h⟩) | h
 ·exact .inl (.inl (by rw[aY λz=>by rw[z,hl] at h;cases h];exact h))
 ·exact .inl (.inr ⟨o,by rw[aY λz=>by rw[z,hl] at h;cases h];exact h⟩)
 ·exact .inr h
def bZ (K:FG9) (H:Hp) (q:Rat) (x:V):Prop:=yh K H x (nm q)
section
variable {K:FG9} {H H':Hp} {q:Rat} {x:V} {b l p:Addr} {qs:List Rat}
theorem bZ.same (h:bZ K H q x) (e:aH H H'):bZ K H' q x:=e.num h
theorem bZ.upto (h:bZ K H q x) (u:cA b H H') (B:kH H b):bZ K H' q x:=by obtain ⟨p,e,s⟩:=h;exact ⟨p,e,u.sqt B s⟩
theorem bZ.updL {ys:List V} {o:HO} (h:bZ K H q x) (hl:H l=some (.lst ys)):bZ K (upd H l o) q x:=by obtain ⟨p,e,s⟩:=h;exact ⟨p,e,yu s hl⟩
theorem bZ.mk {r:Addr} {a c:Int} (h:H r=some (.tup [.int a,.int c])) (e:(a,c)=nm q):bZ K H q (.ref r):=⟨r,rfl,by rw[<- e];exact oo.of h⟩
def cK (K:FG9) (H:Hp) (p:Addr) (qs:List Rat):Prop:=∃xs,H p=some (.lst xs)/\Paired (bZ K H) qs xs
theorem cK.same (h:cK K H p qs) (e:aH H H'):cK K H' p qs:=by obtain ⟨xs,g,r⟩:=h;exact ⟨xs,e _ _ g,Paired.imp' (λ_ _ z=>z.same e) r⟩
theorem cK.upto (h:cK K H p qs) (u:cA b H H') (B:kH H b) (n:p≠b):cK K H' p qs:=by obtain ⟨xs,g,r⟩:=h;exact ⟨xs,u.other n g,Paired.imp' (λ_ _ z=>z.upto u B) r⟩
theorem cK.updL {ys:List V} {o:HO} (h:cK K H p qs) (hl:H l=some (.lst ys)) (n:p≠l):cK K (upd H l o) p qs:=by obtain ⟨xs,g,r⟩:=h;exact ⟨xs,by rw[aY n];exact g,Paired.imp' (λ_ _ z=>z.updL hl) r⟩
theorem ph {α β γ:Type} {F:α->β->Prop} {f:γ->α}:∀{l:List γ} {l2:List β},Paired (λc x=>F (f c) x) l l2->Paired F (l.map f) l2
 | _,_,.nil=>.nil
 | _,_,.cons r t=>.cons r (ph t)
theorem cK.rowK (h:cK K H p qs):C4 K H p (qs.map nm):=by obtain ⟨xs,g,r⟩:=h;exact ⟨xs,g,ph (F:=λn x=>yh K H x n) r⟩
def eB (K:FG9) (H0 H:Hp) (qs:List Rat) (x:V):Prop:=∃q,x=V.ref q/\H0 q=none/\cK K H q qs
def dj (K:FG9) (H0 H:Hp) (p:Addr) (rows:LR9):Prop:=∃xs,H p=some (.lst xs)/\Paired (eB K H0 H) rows xs/\V.ref p∉xs
theorem yX {H0:Hp} {K:FG9} {p:Addr} {rows:LR9} {ys:List V} (h:∃H2,H2 p=none/\Paired (eB K H0 H2) rows ys):V.ref p∉ys:=λhm=>by
 obtain ⟨H2,e,pr⟩:=h;obtain ⟨qs,_,q,z,_,xs,g,_⟩:=j5 pr hm;cases z;rw[e] at g;cases g
variable {H0:Hp} {rows:LR9}
theorem eB.same (h:eB K H0 H qs x) (e:aH H H'):eB K H0 H' qs x:=by obtain ⟨q,a,b,c⟩:=h;exact ⟨q,a,b,c.same e⟩
theorem eB.upto (h:eB K H0 H qs x) (u:cA b H H') (B:kH H b) (nb:H0 b≠none):eB K H0 H' qs x:=by obtain ⟨q,a,c,d⟩:=h;exact ⟨q,a,c,d.upto u B λz=>nb (by rw[<- z];exact c)⟩
theorem eB.weak (h:eB K H0 H qs x) {H1:Hp} (e:aH H1 H0):eB K H1 H qs x:=by obtain ⟨q,a,b,c⟩:=h;exact ⟨q,a,e.none b,c⟩
theorem dj.same (h:dj K H0 H p rows) (e:aH H H'):dj K H0 H' p rows:=by obtain ⟨xs,g,r,n⟩:=h;exact ⟨xs,e _ _ g,Paired.imp' (λ_ _ z=>z.same e) r,n⟩
theorem dj.upto (h:dj K H0 H p rows) (u:cA b H H') (B:kH H b) (n:p≠b) (nb:H0 b≠none):dj K H0 H' p rows:=by obtain ⟨xs,g,r,nn⟩:=h;exact ⟨xs,u.other n g,Paired.imp' (λ_ _ z=>z.upto u B nb) r,nn⟩
end
def qV:Kind Rat:=EJ.via nm (λ_ _ e=>CF e) (λK H x q=>bZ K H q x) id
def zd:Kind (List Rat):=EK qV
theorem cK.kind {K:FG9} {H:Hp} {p:Addr} {qs:List Rat} (h:cK K H p qs):zd.R K H (.ref p) qs:=by obtain ⟨xs,g,q⟩:=h;exact ⟨p,xs,rfl,bT.of g,q⟩
def pS (x:Rat):Prop:=Sz 4000 (nm x).1/\Sz 4000 (nm x).2
theorem zp {M V:Nat} {x:Rat} (h0:0 < M) (h1:M<=2^1800) (h2:V<=2^1810) (h:Fr M V x):pS x:=by
 obtain ⟨a,b⟩:=h.sz h0 h1 h2;exact ⟨a.mono (by decide),b.mono (by decide)⟩
inductive jV (K:FG9) (f:Rat->Rat->Rat) (vs:List V) (H:Hp) (Q:VK) (E9:XK):Prop
 | mk (u v:V) (x y:Rat):vs=[u,v]->bZ K H x u->bZ K H y v->pS x->pS y->(∀r H',aH H H'->bZ K H' (f x y) (.ref r)->Q (.ref r) H')->jV K f vs H Q E9
section
variable {K:FG9} {vs:List V} {H:Hp} {Q:VK} {E:XK}
theorem vT {f:Rat->Rat->Rat} {F:Int->Int->Int->Int->Int} (hf:∀x y:Rat,(f x y)*(((nm x).2*(nm y).2:Int):Rat)=((F (nm x).1 (nm x).2 (nm y).1 (nm y).2:Int):Rat)) (h:jV K f vs H Q E):wF K F vs H Q E:=by
 obtain ⟨u,v,x,y,rfl,⟨p,rfl,hp⟩,⟨q,rfl,hq⟩,⟨s1,s2⟩,⟨s3,s4⟩,k⟩:=h;refine ⟨p,q,_,_,_,_,rfl,hp,hq,gH x,gH y,s1,s2,s3,s4,λr H' s g=>k r H' s (bZ.mk g ?_)⟩;exact jh (i7 (gH x) (gH y)) (hf x y)
theorem j8 (x:Rat):(((nm x).1:Int):Rat)=x*(((nm x).2:Int):Rat):=by
 show (x.num:Rat)=x*(((x.den:Nat):Int):Rat)
 rw[j7,aq]
theorem xw (h:jV K (λx y=>x+y) vs H Q E):wF K BE vs H Q E:=vT (λx y=>by
 unfold BE;rw[zW,av,av,av,j8,j8];grind) h
theorem pV (h:jV K (λx y=>x - y) vs H Q E):wF K zy vs H Q E:=vT (λx y=>by
 unfold zy;rw[rE,av,av,av,j8,j8];grind) h
theorem w5 (h:jV K (λx y=>x*y) vs H Q E):wF K zx vs H Q E:=vT (λx y=>by
 unfold zx;rw[av,av,j8,j8];grind) h
end
def zQ (M:Int) (ns:List (Int×Int)):Prop:=0 < M/\Sz 4400 M/\∀n∈ns,0 < n.2/\n.2∣M/\Sz 4400 n.1
theorem zQ.bot {M:Int} {ns:List (Int×Int)} (h:zQ M ns):0 < oU ns/\Sz 4400 (oU ns):=by
 have hb:∀b∈ns.map (·.2),0 < b/\b∣M:=λb hb=>by
  obtain ⟨n,hn,rfl⟩:=aD.mp hb;exact ⟨(h.2.2 n hn).1,(h.2.2 n hn).2.1⟩
 exact ⟨qU (by decide) λb q=>(hb b q).1,uh h.1 (pZ (by decide) (Int.one_dvd _) hb) h.2.1⟩
inductive yw (K:FG9) (vs:List V) (H:Hp) (Q:VK) (E9:XK):Prop
 | mk (p:Addr) (bs:List Int) (M:Int):vs=[.ref p]->bT K H p (bs.map V.int)->0 < M->Sz 4400 M->((∀b∈bs,0 < b/\b∣M))->Q (.int (oQ bs 1)) H->yw K vs H Q E9
inductive yx (K:FG9) (vs:List V) (H:Hp) (Q:VK) (E9:XK):Prop
 | mk (p:Addr) (ns:List (Int×Int)) (M:Int):vs=[.ref p]->C4 K H p ns->ns.length<=1000->zQ M ns->(∀H',aH H H'->Q (.int (oU ns)) H')->yx K vs H Q E9
inductive uE (K:FG9) (vs:List V) (H:Hp) (Q:VK) (E9:XK):Prop
 | mk (p:Addr) (ns:List (Int×Int)) (M:Int) (B:Int):vs=[.ref p,.int B]->C4 K H p ns->ns.length<=1000->zQ M ns->0 < B->Sz 4400 B->(∀r H',H r=none->aH H H'->H' r=some (.lst ((rT ns B).map V.int))->Q (.ref r) H')->uE K vs H Q E9
theorem qt {x:Rat} {B:Int} (h:(nm x).2∣B):(((nm x).1*(B / (nm x).2):Int):Rat)=x*(B:Rat):=by
 obtain ⟨k,rfl⟩:=h;have hp:=gH x;rw[Int.mul_ediv_cancel_left _ (by lia),av,av,j8];grind
inductive uD (K:FG9) (vs:List V) (H:Hp) (Q:VK) (E9:XK):Prop
 | mk (p:Addr) (w:Nat) (H0:Hp) (rows:LR9):vs=[.ref p,.int w]->dj K H0 H p rows->rows.length<=1000->w<=1000->(∀xs∈rows,xs.length=w)->(∀r H',H r=none->aH H H'->dj K H H' r (bC rows w)->Q (.ref r) H')->uD K vs H Q E9
def BK (m:Nat) (a:Int):List Rat:=(List.range m).map λ(i:Nat)=>if ((i:Nat):Int)=a then 1 else 0
inductive uC (K:FG9) (vs:List V) (H:Hp) (Q:VK) (E9:XK):Prop
 | mk (m:Nat) (a:Int):vs=[.int m,.int a]->m<=1000->(∀r H',H r=none->aH H H'->cK K H' r (BK m a)->Q (.ref r) H')->uC K vs H Q E9
inductive qD (K:FG9) (vs:List V) (H:Hp) (Q:VK) (E9:XK):Prop
 | mk (b:Addr) (w:Nat):vs=[.ref b,.int w]->kH H b->1<=w->w<=1000000->(∀r x H',Dr (max w 6) x->bZ K H' x (.ref r)->kH H' b->cA b H H'->Q (.ref r) H')->qD K vs H Q E9
inductive uK (K:FG9) (vs:List V) (H:Hp) (Q:VK) (E9:XK):Prop
 | mk (b:Addr) (m w:Nat):vs=[.ref b,.int m,.int w]->kH H b->m<=1000->1<=w->w<=1000000->(∀r xs H',H r=none->cK K H' r xs->xs.length=m->(∀x∈xs,Dr (max w 6) x)->kH H' b->cA b H H'->Q (.ref r) H')->uK K vs H Q E9
inductive uF (K:FG9) (vs:List V) (H:Hp) (Q:VK) (E9:XK):Prop
 | mk (p q:Addr) (xs ys:List Rat):vs=[.ref p,.ref q]->cK K H p xs->cK K H q ys->ys.length=xs.length->xs.length<=1000->(∀x∈xs,pS x)->(∀y∈ys,pS y)->(∀r H',H r=none->aH H H'->cK K H' r (List.zipWith (λx y=>x+y) xs ys)->Q (.ref r) H')->uF K vs H Q E9
inductive yy (K:FG9) (vs:List V) (H:Hp) (Q:VK) (E9:XK):Prop
 | mk (u:V) (q:Addr) (c:Rat) (ys:List Rat):vs=[u,.ref q]->bZ K H c u->pS c->cK K H q ys->ys.length<=1000->(∀y∈ys,pS y)->(∀r H',H r=none->aH H H'->cK K H' r (ys.map λy=>c*y)->Q (.ref r) H')->yy K vs H Q E9
section
variable {K:FG9} {a:Addr} {xs:List V} {g:TG} {tf:TT} {te:TE} {Q:VK} {σ₀:St} {H:Hp} {α β:Type}
theorem gI {as:List α} {F:Hp->α->V->Prop} (G:Hp->β->V->Prop) (f:α->β) (hx:H a=some (.lst xs)) (pf:Paired (F H) as xs) (hl:as.length<=1000)
  (hF:∀{H H' c x},F H c x->aH H H'->F H' c x) (hG:∀{H H' c x},G H c x->aH H H'->G H' c x)
  (hs:∀(i:Nat) c x H' NY NN,as[i]?=some c->aH H H'->F H' c x->(∀y H2,aH H' H2->G H2 (f c) y->NY y H2)->nA σ₀ g tf te x H' NY NN)
  (hd:∀ys H' p,H p=none->aH H H'->H' p=some (.lst ys)->Paired (G H') (as.map f) ys->(∃H2,H2 p=none/\Paired (G H2) (as.map f) ys)->Q (.ref p) H'):ot (BG K a) σ₀ g tf te Q H:=by
 have lx:=pf.length;refine fL (K:=K) (xs:=xs) (λi ys H'=>aH H H'/\Paired (G H') ((as.take i).map f) ys) (bj (bQ (by lia))) ⟨aH.refl _,.nil⟩ (λi ys H' _ ⟨s,_⟩=>bT.of (s _ _ hx)) ?_ ?_
 ·rintro i x ys H' hx' hlen ⟨s,pr⟩;obtain ⟨c,ec,hc⟩:=cR pf hx';refine hs i c x H' _ _ ec s (hF hc s) λy H2 s2 gy=>⟨s.trans s2,?_⟩
  rw[take_snoc ec,dq];exact cB (Paired.imp' (λ_ _ z=>hG z s2) pr) (.cons gy .nil)
 ·rintro ys H' hy ⟨s,pr⟩ p hp;rw[aJ (by lia)] at pr;exact hd ys _ p (s.none hp) (s.trans (aH.new hp)) aF (Paired.imp' (λ_ _ z=>hG z (aH.new hp)) pr) ⟨H',hp,pr⟩
theorem mm {n:Nat} (G:Hp->β->V->Prop) (f:Nat->β) (hl:n<=1000) (hG:∀{H H' c x},G H c x->aH H H'->G H' c x)
  (hs:∀(i:Nat) H' NY NN,i < n->aH H H'->(∀y H2,aH H' H2->G H2 (f i) y->NY y H2)->nA σ₀ g tf te (.int i) H' NY NN)
  (hd:∀ys H' p,H p=none->aH H H'->H' p=some (.lst ys)->Paired (G H') ((List.range n).map f) ys->(∃H2,H2 p=none/\Paired (G H2) ((List.range n).map f) ys)->Q (.ref p) H'):ot (we 0 n) σ₀ g tf te Q H:=by
 refine m6 (λi ys H'=>aH H H'/\Paired (G H') ((List.range i).map f) ys) (bj (bQ (by lia))) ⟨aH.refl _,.nil⟩ ?_ ?_
 ·rintro i ys H' hi hlen ⟨s,pr⟩;rw[xD];refine hs i H' _ _ hi s λy H2 s2 gy=>⟨s.trans s2,?_⟩
  rw[zX,dq];exact cB (Paired.imp' (λ_ _ z=>hG z s2) pr) (.cons gy .nil)
 ·rintro ys H' hy ⟨s,pr⟩ p hp;exact hd ys _ p (s.none hp) (s.trans (aH.new hp)) aF (Paired.imp' (λ_ _ z=>hG z (aH.new hp)) pr) ⟨H',hp,pr⟩
theorem yd {n:Nat} {b:Addr} (G:Hp->β->V->Prop) (C:β->Prop) (hB:kH H b) (hl:n<=1000) (hG:∀{H' H'' c x},G H' c x->cA b H' H''->kH H' b->G H'' c x)
  (hs:∀(i:Nat) H' NY NN,i < n->cA b H H'->kH H' b->(∀y c H2,cA b H' H2->kH H2 b->C c->G H2 c y->NY y H2)->nA σ₀ g tf te (.int i) H' NY NN)
  (hd:∀ys cs H' p,H p=none->cA b H H'->kH H' b->H' p=some (.lst ys)->cs.length=n->(∀c∈cs,C c)->Paired (G H') cs ys->(∃H2,H2 p=none/\Paired (G H2) cs ys)->Q (.ref p) H'):ot (we 0 n) σ₀ g tf te Q H:=by
 refine m6 (λi ys H'=>cA b H H'/\kH H' b/\∃cs,cs.length=i/\(∀c∈cs,C c)/\Paired (G H') cs ys) (bj (bQ (by lia))) ⟨(aH.refl _).upto,hB,[],rfl,(λ_ z=>nomatch z),.nil⟩ ?_ ?_
 ·rintro i ys H' hi hlen ⟨u,B,cs,lc,hc,pr⟩;rw[xD];refine hs i H' _ _ hi u B λy c H2 u2 B2 cc gy=>⟨u.trans u2,B2,cs++[c],by simp [lc],A2 hc cc,cB (Paired.imp' (λ_ _ z=>hG z u2 B) pr) (.cons gy .nil)⟩
 ·rintro ys H' hy ⟨u,B,cs,lc,hc,pr⟩ p hp;have s:aH H' (upd H' p (.lst ys)):=aH.new hp;exact hd ys cs _ p (u.none B hp) (u.same s) (B.same s) aF lc hc (Paired.imp' (λ_ _ z=>hG z s.upto B) pr) ⟨H',hp,pr⟩
end
section
variable {X:Cx}
theorem m5 {n:Nat} {g:TG} {tb:TS} {D:Ends} {σ:St} {H:Hp} (Pv:Nat->St->Hp->Prop) (h0:Pv 0 σ H)
  (hs:∀(i:Nat) σ H,i < n->Pv i σ H->g (.int i) σ H λσ2 H2=>tb { D with nx:=Pv (i+1),ct:=Pv (i+1),bk:=D.nx } σ2 H2) (hd:∀σ H,Pv n σ H->D.nx σ H) :
  ∃W:Nat->Nat->St->Hp->Prop,(∃m,W 0 m σ H)/\∀i m σ H,W i m σ H →
   ((we 0 n).stop i H/\D.nx σ H)\/((we 0 n).go i H/\∃N:St->Hp->Prop,(∀σ' H',N σ' H'->∃m',m' < m/\W (i+1) m' σ' H')/\∀x H',(we 0 n).yld i H x H'->g x σ H' λσ2 H2=>tb { D with nx:=N,ct:=N,bk:=D.nx } σ2 H2) :=
 sF (lo:=0) Pv h0 (λi σ H hi p=>by rw[xD];exact hs i σ H hi p) hd
end
theorem vZ {t b:Int} {W:Nat} (hb:0 < b) (h1:t.natAbs<=W) (h2:b.natAbs<=W):∃q:Rat,(lo t b,hi t b)=nm q/\Dr W q/\q*(b:Rat)=(t:Rat):=by
 have hb':(b:Rat)≠0:=λz=>by have:=pL.mp z;lia
 have e:(t:Rat) / (b:Rat)*(b:Rat)=t:=Rat.div_mul_cancel hb';have h:=jh hb e;refine ⟨_,h,⟨?_,?_⟩,e⟩
 ·have:=congrArg Prod.fst h;have z:=lo_le (t:=t) (b:=b) (by lia);show ((nm ((t:Rat) / (b:Rat))).1).natAbs<=W
  rw[<- this];exact ag z h1
 ·have:=congrArg Prod.snd h;have z:=BB (t:=t) (b:=b) (by lia);have hd:(((t:Rat) / (b:Rat)).den:Int)=hi t b:=this.symm;have hp:=v5 (t:=t) hb
  lia
theorem Bv {K:FG9} {H:Hp} {qs:List Rat} {xs:List V} (h:Paired (bZ K H) qs xs) {j:Nat} (hj:j < qs.length):∃v,yg xs (j:Int)=some v/\bZ K H (qs.getD j 0) v:=by
 have hl:=h.length;refine ⟨xs[j]'(by lia),fZ (by simp),?_⟩;have:=gG h (i:=j) hj (by lia);rwa [aa,ae hj]
theorem sG {xs ys:List Rat} {i:Nat} (h1:i < xs.length) (h2:i < ys.length):dB (xs.take (i+1)) (ys.take (i+1))=dB (xs.take i) (ys.take i)+xs.getD i 0*ys.getD i 0:=by
 have e1:xs[i]?=some (xs.getD i 0):=by rw[aa,ae h1];rfl
 have e2:ys[i]?=some (ys.getD i 0):=by rw[aa,ae h2];rfl
 unfold dB;rw[take_snoc e1,take_snoc e2,List.zipWith_append (by simp;lia),List.sum_append];simp [xA]
theorem getD_mem {xs:List Rat} {i:Nat} (h:i < xs.length):xs.getD i 0∈xs:=by
 rw[aa,ae h];exact aA h
theorem xE {xs ys:List Rat} (h:ys.length=xs.length):List.zipWith (λx y=>x+y) xs ys=(List.range xs.length).map λi=>xs.getD i 0+ys.getD i 0:=by
 apply List.ext_getElem?;intro i;rw[jT,aw];by_cases hi:i < xs.length
 ·rw[dA hi,ae hi,ae (show i < ys.length by lia)];simp [aa,ae hi,ae (show i < ys.length by lia)]
 ·rw[aN (show (List.range xs.length).length<=i by simp;lia),aN (show xs.length<=i by lia)];rfl
theorem eB.updL {K:FG9} {H0 H:Hp} {qs:List Rat} {x:V} {l:Addr} {ys:List V} {o:HO} (h:eB K H0 H qs x) (hl:H l=some (.lst ys)) (nl:H0 l≠none):eB K H0 (upd H l o) qs x:=by obtain ⟨q,a,b,c⟩:=h;exact ⟨q,a,b,c.updL hl λz=>nl (by rw[<- z];exact b)⟩
theorem kH.at {H:Hp} {b:Addr} (B:kH H b):H b≠none:=by obtain ⟨_,_,_,_,_,e,_⟩:=B;rw[e];simp
theorem Dh {q:Rat} {t b:Int} (hb:b=1\/b=3) (ht:t.natAbs<=2) (e:q*(b:Rat)=(t:Rat)):∃z:Int,q*3=(z:Rat)/\z.natAbs<=6:=by
 rcases hb with rfl | rfl
 ·refine ⟨3*t,?_,by lia⟩;rw[av,<- e];have e1:((1:Int):Rat)=1:=rfl;have e3:((3:Int):Rat)=3:=rfl;rw[e1,e3];grind
 ·exact ⟨t,e,by lia⟩
theorem vL {M V:Nat} {x:Rat} (h:Fr M V x) (h0:0 < M) (h1:M<=2^300) (h2:V<=2^100):pS x:=zp h0 (ag h1 (af (by decide) (by decide))) (ag h2 (af (by decide) (by decide))) h
theorem fw {α β:Type} {F:α->β->Prop} {l1:List α} {l2:List β} {i:Nat} (h:Paired F l1 l2) (hi:i < l1.length):∃x y,l1[i]?=some x/\l2[i]?=some y/\x∈l1/\F x y:=by
 have hl:=h.length;exact ⟨l1[i],l2[i]'(by lia),by simp,by simp,aA _,gG h hi (by lia)⟩
theorem AY {i j:Int} (h1:-(2^64) < i) (h2:i < 2^64):dW i j:=.inl (.inl ⟨h1,h2⟩)
theorem AX {i j:Int} (h1:-(2^64) < j) (h2:j < 2^64):dW i j:=.inl (.inr ⟨h1,h2⟩)
def Es (K : FG9) (l : Addr) : It :=
  ⟨λi H => ∃ xs x, bT K H l xs /\ xs[i]? = some x,
   λi H v H' => ∃ p x, v = .ref p /\ H p = none /\ H' = upd H p (.tup [.int i, x]) /\ ∀ xs, bT K H l xs → xs[i]? = some x,
   λi H => ∃ xs, bT K H l xs /\ xs.length ≤ i⟩
def tnE (e it l:Addr) (i:Nat) (h:Heap):Prop:=(∃old,IsEnum h e it i old)/\h.IsListIter it l i
theorem xH {P:Program} {w:World} {K:FG9} {elts:List Expr} {kk:Nat} {tpos:Pos} (e it l:Addr) (hei:e≠it):Turn P w K (.Tuple elts kk tpos) (Es K l) [e,it] e (tnE e it l) where
 mem:=by simp
 obj:=λi h st b hb=>by
  obtain ⟨⟨old,he⟩,⟨o1,g1,c1,d1⟩⟩:=st;simp only[aI,b5,or_false] at hb;rcases hb with rfl | rfl
  ·exact ⟨_,he,λv q=>nomatch q⟩
  ·exact ⟨o1,g1,λv q=>by rw[d1] at q;cases q⟩
 keep:=λi h h' st k=>by
  obtain ⟨⟨old,he⟩,h1⟩:=st;exact ⟨⟨old,k e (by simp) _ he⟩,h1.at λo q=>k it (by simp) o q⟩
 item:=by
  intro X hP hw hK hc i pins s σ H E I hf st hg;subst hP hw hK;obtain ⟨⟨old,he⟩,h1⟩:=st;obtain ⟨xs,x,qx,ex⟩:=hg;obtain ⟨us,rx,px,_⟩:=I.list qx;obtain ⟨u,eu,ru⟩:=rx.get ex;refine wpAny_pyNext_enum_item he h1 px.isList (x:=u) (by simpa using eu) hei λh' a1 a2 a3 a4 hk=>?_
  refine ⟨_,rfl,wpAny_letOwnedTupleGo_enum a1 λh'' he'' hs=>?_⟩;have hT0:H s.heap.objs.size=none:=I.hok.fresh (aj _);have ene:s.heap.objs.size≠e:=xB (Heap.lt_size he)
  have up:∀b o,b∉[e,it]->s.heap.get? b=some o->h''.get? b=some o:=λb o hb q=>by
   simp only[aI,b5,or_false,not_or] at hb;exact (hs.2 b hb.1).trans (hk b o hb.1 hb.2 q)
  have tup:h''.get? s.heap.objs.size=some { cls:=.type "tuple",data:=.seq #[.int i s.toks,u] }:=(hs.2 _ ene).trans a3;have I1:Inv X pins σ H { s with heap:=h'',toks:=s.toks+1 }:=I.moved (g':=s.gens) (d':=s.drawn) (t':=s.toks+1) (ch:=[e,it]) hf up I.bare;have fT:kR X pins H s.heap.objs.size:=I.fpOk (aj _) hT0;have I2:=I1.track (o:=.tup [.int i,x]) fT ⟨jM rfl,[.int i s.toks,u],.cons ⟨_,rfl⟩ (.cons ru .nil),⟨_,tup,rfl,_,rfl⟩⟩;refine ⟨.ref s.heap.objs.size,_,I2,rfl,⟨_,x,rfl,hT0,rfl,λxs' q=>by rw[I.list_inj q qx];exact ex⟩,?_,λb hb=>?_⟩
  ·exact ⟨⟨_,by simpa using he''⟩,a2.at λo q=>(hs.2 _ hei.symm).trans q⟩
  ·rw[aY]
   ·exact (hf b hb).1
   ·obtain ⟨o1,g1,_⟩:=h1;simp only[aI,b5,or_false] at hb;rcases hb with rfl | rfl
    ·exact ene.symm
    ·exact bW (Heap.lt_size g1)
 done:=by
  intro X hP hw hK hc i pins s σ H E I hf st hg;subst hP hw hK;obtain ⟨⟨old,he⟩,h1⟩:=st;obtain ⟨xs,qx,hend⟩:=hg;obtain ⟨us,rx,px,_⟩:=I.list qx;have lx:=rx.length;refine wpAny_pyNext_enum_end (I.ok.hd hc) he h1 px.isList (by simp;lia) λh' hk=>⟨rfl,?_⟩
  exact I.moved (g':=s.gens) (d':=s.drawn) (t':=s.toks) (ch:=[e,it]) hf (λb o hb q=>hk b o (λz=>hb (by simp [z])) q) I.bare
 self:=λ_ _ _ _ _ st h=>let ⟨⟨_,he⟩,_⟩:=st;wpAny_pyIter_enum he h
section
variable {X:Cx}
def By (K:FG9) (ta:TA):TI:=λσ H R=>ta σ H λvs H1=>∃l,vs=[.ref l]/\(∃xs,bT K H1 l xs)/\R (Es K l) H1
theorem AA {a:Expr} {ta:TA} {p pos tpos:Pos} {elts:List Expr} {kk:Nat} (hg:Gl X "enumerate") (hm:X.mg "enumerate"=none) (ha:PA X [a] ta) (hs:starEach [a] X.env=[(false,eval a X.env)]:=by rfl) :
  PI X (.Tuple elts kk tpos) (.Call (.Name "enumerate" p) [a] [] pos) (By X.K ta):=by
 intro pins s σ H R I h;refine Call_ (oP I hg hm boot_enumerate (PyProof.Rows.callWith_type1 (fe (ha pos pins s σ H _ I h) λus s1 ⟨vs,H1,I1,r1,q1⟩=>?_) (by rw[hs];rfl) rfl));obtain ⟨l,e,⟨xs,qx⟩,q⟩:=q1;subst e;obtain ⟨u,rfl,ru⟩:=vals1 r1;cases ru;obtain ⟨us,rx,px,_⟩:=I1.list qx;refine call_enumerate_list px.isList λh' a1 a2 a3 hk=>wpAny_pyIter_enum a1 ?_
 have I2:Inv X pins σ H1 { s1 with heap:=h' }:=I1.kept (t':=s1.toks) hk;refine ⟨_,[s1.heap.objs.size+1,s1.heap.objs.size],_,_,H1,rfl,I2,xH (s1.heap.objs.size+1) s1.heap.objs.size l (Nat.succ_ne_self _),⟨⟨_,a1⟩,a2⟩,λb hb=>?_,q⟩
 have hb':s1.heap.objs.size<=b:=by
  simp only[aI,b5,or_false] at hb;rcases hb with rfl | rfl <;> first | exact zR _ | exact aj _
 exact I1.fpOk hb' (I1.hok.fresh hb')
end
theorem yJ {K:FG9} {ta:TA} {R:It->Hp->Prop} {σ:St} {H:Hp} (h:ta σ H λvs H1=>∃l,vs=[.ref l]/\(∃xs,bT K H1 l xs)/\R (Es K l) H1):By K ta σ H R:=h
section
variable {mv pt lk pus:LR9} {st:List Rat} {k:Nat}
end
end L2
namespace L2
abbrev eL:=Nat->Rat
def rK (F:List eL->Rat) (r:Nat):List eL->List eL->Rat->Rat
 | _,[],_=>0
 | pre,v :: post,s=>s*v r*F (pre++post)+rK F r (pre++[v]) post (-s)
def fK:List Nat->List eL->Rat
 | [],[]=>1
 | [],_ :: _=>0
 | r :: rs,vs=>rK (λws=>fK rs ws) r [] vs 1
theorem uj {a b:List eL} {x:eL}:fK [] (a++x :: b)=0:=by
 cases a <;> rfl
theorem tW {F:List eL->Rat} {r:Nat} {f g h:eL} {x y:Rat} (hF:∀a b,F (a++h :: b)=x*F (a++f :: b)+y*F (a++g :: b)):∀(b p q:List eL) (s:Rat),rK F r (p++h :: q) b s=x*rK F r (p++f :: q) b s+y*rK F r (p++g :: q) b s
 | [],p,q,s=>by simp only[rK,h6,xA]
 | v :: b,p,q,s=>by
  have i1:=hF p (q++b);have i2:=tW (r:=r) hF b p (q++[v]) (-s);simp only[rK,b9,cT] at i1 i2 ⊢;rw[i1,i2];grind
theorem xa {F:List eL->Rat} {r:Nat} {f g h:eL} {x y:Rat} (hF:∀a b,F (a++h :: b)=x*F (a++f :: b)+y*F (a++g :: b)) (hr:h r=x*f r+y*g r):∀(a pre b:List eL) (s:Rat),rK F r pre (a++h :: b) s=x*rK F r pre (a++f :: b) s+y*rK F r pre (a++g :: b) s
 | [],pre,b,s=>by
  have i2:=tW (r:=r) hF b pre [] (-s);simp only[rK,bR] at i2 ⊢;rw[i2,hr];grind
 | v :: a,pre,b,s=>by
  have i1:=hF (pre++a) b;have i2:=xa hF hr a (pre++[v]) b (-s);simp only[rK,b9,cT] at i1 i2 ⊢;rw[i1,i2];grind
theorem lH {f g h:eL} {x y:Rat}:∀{rs:List Nat},(∀r∈rs,h r=x*f r+y*g r)->∀a b,fK rs (a++h :: b)=x*fK rs (a++f :: b)+y*fK rs (a++g :: b)
 | [],_,a,b=>by rw[uj,uj,uj];grind
 | r :: rs,hr,a,b=>xa (λa b=>lH (λr' h'=>hr r' (.tail _ h')) a b) (hr r (.head _)) a [] b 1
theorem zC {f h:eL} {rs:List Nat} (hr:∀r∈rs,h r=f r) (a b:List eL):fK rs (a++h :: b)=fK rs (a++f :: b):=by
 rw[lH (f:=f) (g:=f) (x:=1) (y:=0) (λr h'=>by rw[hr r h'];grind) a b];grind
theorem xm {h:eL} {rs:List Nat} (hr:∀r∈rs,h r=0) (a b:List eL):fK rs (a++h :: b)=0:=by
 rw[lH (f:=h) (g:=h) (x:=0) (y:=0) (λr h'=>by rw[hr r h'];grind) a b];grind
theorem xb {F:List eL->Rat} {r:Nat} {x:eL} (hF:∀a b,F (a++x :: x :: b)=0):∀(b p q:List eL) (s:Rat),rK F r (p++x :: x :: q) b s=0
 | [],p,q,s=>rfl
 | v :: b,p,q,s=>by
  have i1:=hF p (q++b);have i2:=xb (r:=r) hF b p (q++[v]) (-s);simp only[rK,b9,cT] at i1 i2 ⊢;rw[i1,i2];grind
theorem xc {F:List eL->Rat} {r:Nat} {x:eL} (hF:∀a b,F (a++x :: x :: b)=0):∀(a pre b:List eL) (s:Rat),rK F r pre (a++x :: x :: b) s=0
 | [],pre,b,s=>by
  have i2:=xb (r:=r) hF b pre [] (- -s);simp only[rK,bR,b9,cT] at i2 ⊢;rw[i2];grind
 | v :: a,pre,b,s=>by
  have i1:=hF (pre++a) b;have i2:=xc (r:=r) hF a (pre++[v]) b (-s);simp only[rK,b9,cT] at i1 i2 ⊢;rw[i1,i2];grind
theorem rf {x:eL}:∀{rs:List Nat} (a b:List eL),fK rs (a++x :: x :: b)=0
 | [],a,b=>uj
 | r :: rs,a,b=>xc (λa b=>rf a b) a [] b 1
theorem AV {x y:eL} {rs:List Nat} (a b:List eL):fK rs (a++x :: y :: b)=- fK rs (a++y :: x :: b):=by
 have hr:∀r∈rs,(λr=>1*x r+1*y r) r=1*x r+1*y r:=λ_ _=>rfl
 have h0:=rf (x:=λr=>1*x r+1*y r) (rs:=rs) a b;have h1:=lH hr a ((λr=>1*x r+1*y r) :: b);have h2:=lH hr (a++[x]) b;have h3:=lH hr (a++[y]) b;have h4:=rf (x:=x) (rs:=rs) a b;have h5:=rf (x:=y) (rs:=rs) a b;simp only[b9,cT,bR] at h0 h1 h2 h3 h4 h5;rw[h1,h2,h3,h4,h5] at h0;grind
theorem um {x:eL} {rs:List Nat}:∀(b a c:List eL),fK rs (a++x :: (b++x :: c))=0
 | [],a,c=>rf a c
 | y :: b,a,c=>by
  have:=um (x:=x) (rs:=rs) b (a++[y]) c;simp only[b9,cT,bR] at this;rw[cT,AV,this];rfl
def aQ:Nat->(Nat->Rat)->Rat
 | 0,_=>0
 | k+1,f=>aQ k f+f k
theorem aC {f g:Nat->Rat}:∀{k:Nat},(∀j,j < k->f j=g j)->aQ k f=aQ k g
 | 0,_=>rfl
 | k+1,h=>by
  show aQ k f+f k=aQ k g+g k
  rw[aC λj hj=>h j (by lia),h k (by lia)]
theorem ig {f g:Nat->Rat}:∀{k:Nat},aQ k (λj=>f j+g j)=aQ k f+aQ k g
 | 0=>by show (0:Rat)=0+0;grind
 | k+1=>by
  show aQ k (λj=>f j+g j)+_=(aQ k f+f k)+(aQ k g+g k)
  rw[ig];grind
theorem bU {f:Nat->Rat} {c:Rat}:∀{k:Nat},aQ k (λj=>c*f j)=c*aQ k f
 | 0=>by show (0:Rat)=c*0;grind
 | k+1=>by
  show aQ k (λj=>c*f j)+_=c*(aQ k f+f k)
  rw[bU];grind
theorem bK {f:Nat->Rat}:∀{k:Nat},(∀j,j < k->f j=0)->aQ k f=0
 | 0,_=>rfl
 | k+1,h=>by
  show aQ k f+f k=0
  rw[bK λj hj=>h j (by lia),h k (by lia)];grind
theorem cy {f:Nat->Rat} {i:Nat}:∀{k:Nat},i < k->(∀j,j < k->j≠i->f j=0)->aQ k f=f i
 | k+1,hi,h=>by
  show aQ k f+f k=f i
  by_cases e:i=k
  ·subst e;rw[bK λj hj=>h j (by lia) (by lia)];grind
  ·rw[cy (by lia) λj hj=>h j (by lia),h k (by lia) (λz=>e z.symm)];grind
theorem eO {f:Nat->Nat->Rat} {m:Nat}:∀{k:Nat},aQ k (λi=>aQ m (f i))=aQ m (λj=>aQ k λi=>f i j)
 | 0=>(bK λ_ _=>rfl).symm
 | k+1=>by
  show aQ k (λi=>aQ m (f i))+aQ m (f k)=aQ m (λj=>aQ k (λi=>f i j)+f k j)
  rw[eO,ig]
theorem ui {rs:List Nat} {W:eL} {v:Nat->eL} {c:Nat->Rat} (a b:List eL):∀{k:Nat} {W:eL},(∀r∈rs,W r=aQ k λj=>c j*v j r)->fK rs (a++W :: b)=aQ k λj=>c j*fK rs (a++v j :: b)
 | 0,W,h=>xm h a b
 | k+1,W,h=>by
  rw[lH (f:=λr=>aQ k λj=>c j*v j r) (g:=v k) (x:=1) (y:=c k) (λr hr=>by rw[h r hr];show aQ k _+_=_;grind) a b,ui a b (k:=k) (W:=λr=>aQ k λj=>c j*v j r) λr _=>rfl];show _=aQ k _+_
  grind
end L2
namespace L2
open Nm
def iP (f:Nat->Nat):Nat->List Nat
 | 0=>[]
 | k+1=>f k :: iP f k
def ff (v:Nat->eL):Nat->List eL
 | 0=>[]
 | k+1=>v k :: ff v k
def v9 (v:Nat->eL) (i:Nat):Nat->List eL
 | 0=>[]
 | k+1=>if k<=i then [] else v k :: v9 v i k
theorem mV {f:Nat->Nat}:∀{k:Nat},(iP f k).length=k
 | 0=>rfl
 | k+1=>by show (iP f k).length+1=_;rw[mV]
theorem cw_len {v:Nat->eL}:∀{k:Nat},(ff v k).length=k
 | 0=>rfl
 | k+1=>by show (ff v k).length+1=_;rw[cw_len]
theorem iU {f:Nat->Nat} {r:Nat}:∀{k:Nat},r∈iP f k->∃t,t < k/\r=f t
 | k+1,h=>by
  rcases aI.mp h with h | h
  ·exact ⟨k,by lia,h⟩
  ·obtain ⟨t,a,b⟩:=iU h;exact ⟨t,by lia,b⟩
theorem uU {f g:Nat->Nat}:∀{k:Nat},(∀j,j < k->f j=g j)->iP f k=iP g k
 | 0,_=>rfl
 | k+1,h=>by
  show f k :: iP f k=g k :: iP g k
  rw[h k (by lia),uU λj hj=>h j (by lia)]
theorem cw_congr {f g:Nat->eL}:∀{k:Nat},(∀j,j < k->f j=g j)->ff f k=ff g k
 | 0,_=>rfl
 | k+1,h=>by
  show f k :: ff f k=g k :: ff g k
  rw[h k (by lia),cw_congr λj hj=>h j (by lia)]
theorem cw_mem {v:Nat->eL} {j:Nat}:∀{k:Nat},j < k->v j∈ff v k
 | k+1,h=>by
  by_cases e:j=k
  ·subst e;exact .head _
  ·exact .tail _ (cw_mem (by lia))
theorem cw_in {v:Nat->eL} {x:eL}:∀{k:Nat},x∈ff v k->∃t,t < k/\x=v t
 | k+1,h=>by
  rcases aI.mp h with h | h
  ·exact ⟨k,by lia,h⟩
  ·obtain ⟨t,a,b⟩:=cw_in h;exact ⟨t,by lia,b⟩
theorem zI {v:Nat->eL} {i j:Nat} (h1:i < j):∀{k:Nat},j < k->v j∈v9 v i k
 | k+1,h=>by
  show v j∈if k<=i then [] else v k :: v9 v i k
  rw[if_neg (by lia)];by_cases e:j=k
  ·subst e;exact .head _
  ·exact .tail _ (zI h1 (by lia))
theorem vv {v:Nat->eL} {i:Nat} {x:eL}:∀{k:Nat},x∈v9 v i k->∃t,t < k/\x=v t
 | k+1,h=>by
  have h:x∈if k<=i then [] else v k :: v9 v i k:=h
  split at h
  ·cases h
  ·rcases aI.mp h with h | h
   ·exact ⟨k,by lia,h⟩
   ·obtain ⟨t,a,b⟩:=vv h;exact ⟨t,by lia,b⟩
theorem cw_split {v:Nat->eL} {i:Nat}:∀{k:Nat},i < k->ff v k=v9 v i k++v i :: ff v i
 | k+1,h=>by
  show v k :: ff v k=(if k<=i then [] else v k :: v9 v i k)++_
  by_cases e:i=k
  ·subst e;rw[if_pos (aj _)];rfl
  ·rw[if_neg (by lia),cw_split (k:=k) (i:=i) (by lia)];rfl
theorem oT {rs:List Nat} {v:Nat->eL} {c:Nat->Rat} {W:eL} {k i:Nat} (hi:i < k) (hW:∀r∈rs,W r=aQ k λj=>c j*v j r):fK rs (v9 v i k++W :: ff v i)=c i*fK rs (ff v k):=by
 rw[ui (v:=v) (c:=c) (W:=W) _ _ hW,cy hi λj hj ne=>?_,cw_split hi];rcases cY j i with h | h
 ·obtain ⟨s,t,e⟩:=vH (cw_mem (v:=v) h);rw[e,um];grind
 ·obtain ⟨s,t,e⟩:=vH (zI (v:=v) (show i < j by lia) hj);have:=um (x:=v j) (rs:=rs) t s (ff v i);rw[e,b9,cT,this];grind
theorem C0 {rs:List Nat} {v:Nat->eL} {c:Nat->Rat} {W:eL} {k:Nat} (hW:∀r∈rs,W r=aQ k λj=>c j*v j r):fK rs (W :: ff v k)=0:=by
 have:=ui (v:=v) (c:=c) (W:=W) [] (ff v k) hW;rw[bR] at this;rw[this];refine bK λj hj=>?_
 obtain ⟨s,t,e⟩:=vH (cw_mem (v:=v) hj);have:=um (x:=v j) (rs:=rs) s [] t;rw[bR] at this;rw[e,bR,this];grind
theorem x9 {rs:List Nat} {v:Nat->eL} {c:Nat->Rat} {W:eL} {k i:Nat} {s:Rat} (hi:i∉rs) (h1:W i=aQ k (λj=>c j*v j i)+s) (hW:∀r∈rs,W r=aQ k λj=>c j*v j r):fK (i :: rs) (W :: ff v k)=s*fK rs (ff v k):=by
 have e:=lH (rs:=i :: rs) (h:=W) (f:=λr=>aQ k λj=>c j*v j r) (g:=λr=>if r=i then 1 else 0) (x:=1) (y:=s) (λr hr=>by
  rcases aI.mp hr with rfl | hr
  ·rw[h1,if_pos rfl];grind
  ·rw[hW r hr,if_neg (λz=>hi (by rw[<- z];exact hr))];grind) [] (ff v k)
 rw[bR,bR,bR,C0 (c:=c) λr _=>rfl] at e
 have e2:fK (i :: rs) ((λr=>if r=i then (1:Rat) else 0) :: ff v k)=fK rs (ff v k):=by
  show 1*(if i=i then (1:Rat) else 0)*fK rs ([]++ff v k)+rK (λws=>fK rs ws) i ([]++[λr=>if r=i then (1:Rat) else 0]) (ff v k) (-1)=_
  have hF:∀a b,(λws=>fK rs ws) (a++(λr=>if r=i then (1:Rat) else 0) :: b)=0*(λws=>fK rs ws) (a++(λr=>if r=i then (1:Rat) else 0) :: b)+0*(λws=>fK rs ws) (a++(λr=>if r=i then (1:Rat) else 0) :: b):=λa b=>by
   have:=xm (h:=λr=>if r=i then (1:Rat) else 0) (rs:=rs) (λr hr=>if_neg λz=>hi (by rw[<- z];exact hr)) a b
   dsimp only
   rw[this];grind
  have:=tW (r:=i) hF (ff v k) [] [] (-1);rw[this,if_pos rfl,bR];grind
 rw[e2] at e;rw[e];grind
theorem za {F:List eL->Rat} {r B W:Nat}:∀{post pre:List eL} {s:Rat},(∀ws,(∀w∈ws,w∈pre++post)->ws.length+1=(pre++post).length->Fr 1 B (F ws))->(∀w∈post,Fr 1 W (w r))->Fr 1 1 s->Fr 1 (post.length*(W*B)) (rK F r pre post s)
 | [],pre,s,_,_,_=>by show Fr 1 _ 0;exact Fr.zero
 | v :: post,pre,s,hF,hw,hs=>by
  have t1:Fr 1 (W*B) (s*v r*F (pre++post)):=by
   have:=(hs.mul (hw v (.head _))).mul (hF (pre++post) (λw h=>by
    rcases aK.mp h with h | h
    ·exact kN _ h
    ·exact aZ _ (.tail _ h)) (by simp only[au,bI];lia))
   simpa using this
  have t2:=za (F:=F) (r:=r) (B:=B) (W:=W) (post:=post) (pre:=pre++[v]) (s:=-s) (λws h h'=>hF ws (λw hw=>by simpa using h w hw) (by simpa using h')) (λw h=>hw w (.tail _ h)) (by simpa using hs.neg);exact (t1.add t2).mono (by rw[bI,jC];lia)
theorem rb {W N:Nat}:∀{rs:List Nat} {vs:List eL},vs.length<=N->(∀v∈vs,∀r∈rs,Fr 1 W (v r))->Fr 1 ((N*W)^rs.length) (fK rs vs)
 | [],[],_,_=>by show Fr 1 1 1;exact (Fr.int (i:=1) (by decide))
 | [],_ :: _,_,_=>by show Fr 1 _ 0;exact Fr.zero
 | r :: rs,vs,hl,h=>by
  have:=za (F:=λws=>fK rs ws) (r:=r) (B:=(N*W)^rs.length) (W:=W) (post:=vs) (pre:=[]) (s:=1) (λws h1 h2=>rb (by rw[bR] at h2;lia) λv hv r' hr'=>h v (by simpa using h1 v hv) r' (.tail _ hr')) (λw hw=>h w hw r (.head _)) (Fr.int (i:=1) (by decide));refine this.mono ?_;rw[bI,mH,bX ((N*W)^rs.length),cX N];exact aR _ hl
structure rD (a:Nat->Nat->Rat) (m k:Nat) (pm p:Nat->Nat) (l:Nat->Nat->Rat) (d:Rat):Prop where
 inj:∀i j,i < m->j < m->pm i=pm j->i=j
 rng:∀i,i < m->pm i < m
 km:k<=m
 d0:d≠0
 det:d=fK (iP pm k) (ff (λj r=>a r (p j)) k)
 eqs:∀i,i < m->∀c,d*a (pm i) c=aQ k (λj=>a (pm i) (p j)*l j c)+if i < k then 0 else l i c
 unit:∀i,i < m->∀j,j < k->l i (p j)=if i=j then d else 0
section
variable {a l:Nat->Nat->Rat} {m k:Nat} {pm p:Nat->Nat} {d:Rat}
theorem rD.start (h:∀i,i < m->pm i=i):rD a m 0 pm p a 1 where
 inj i j hi hj e:=by rw[h i hi,h j hj] at e;exact e
 rng i hi:=by rw[h i hi];exact hi
 km:=bc _
 d0:=by decide
 det:=rfl
 eqs i hi c:=by
  rw[h i hi,if_neg (by lia)];show 1*a i c=0+a i c
  grind
 unit i _ j hj:=absurd hj (by lia)
theorem rD.coef (B:rD a m k pm p l d) {i c:Nat} (hi:i < m):a (pm i) c=aQ k (λj=>(l j c / d)*a (pm i) (p j))+if i < k then 0 else l i c / d:=by
 have h:=B.eqs i hi c;have d0:=B.d0
 have e:aQ k (λj=>(l j c / d)*a (pm i) (p j))=(1 / d)*aQ k (λj=>a (pm i) (p j)*l j c):=by
  rw[<- bU];exact aC λj _=>by grind
 rw[e]
 split at h
 ·rw[if_pos (by assumption)];grind
 ·rw[if_neg (by assumption)];grind
theorem rD.old (B:rD a m k pm p l d) {i c:Nat} (hi:i < k):l i c=fK (iP pm k) (v9 (λj r=>a r (p j)) i k++(λr=>a r c) :: ff (λj r=>a r (p j)) i):=by
 have km:=B.km;have d0:=B.d0;rw[oT (v:=λj r=>a r (p j)) (c:=λj=>l j c / d) hi λr hr=>?_,<- B.det]
 ·grind
 ·obtain ⟨t,ht,rfl⟩:=iU hr;have:=B.coef (i:=t) (c:=c) (by lia);rw[if_pos ht] at this;rw[this];grind
theorem rD.new (B:rD a m k pm p l d) {i c:Nat} (h1:k<=i) (hi:i < m):l i c=fK (pm i :: iP pm k) ((λr=>a r c) :: ff (λj r=>a r (p j)) k):=by
 have km:=B.km;have d0:=B.d0
 have hn:pm i∉iP pm k:=λhm=>by
  obtain ⟨t,ht,e⟩:=iU hm;have:=B.inj i t hi (by lia) e
  lia
 have e1:a (pm i) c=aQ k (λj=>(l j c / d)*a (pm i) (p j))+l i c / d:=by
  have:=B.coef (i:=i) (c:=c) hi;rwa [if_neg (by lia)] at this
 have e2:∀r∈iP pm k,a r c=aQ k (λj=>(l j c / d)*a r (p j)):=λr hr=>by
  obtain ⟨t,ht,rfl⟩:=iU hr;have:=B.coef (i:=t) (c:=c) (by lia);rw[if_pos ht] at this;rw[this];grind
 rw[x9 (v:=λj r=>a r (p j)) (c:=λj=>l j c / d) (W:=λr=>a r c) (s:=l i c / d) hn e1 e2,<- B.det];grind
theorem rD.fr {W N:Nat} (B:rD a m k pm p l d) (hN:k < N) (hW:1<=W) (ha:∀i,i < m->∀c,Fr 1 W (a i c)) {i c:Nat} (hi:i < m):Fr 1 ((N*W)^(k+1)) (l i c):=by
 have km:=B.km;have mono:∀t,t<=k+1->(N*W)^t<=(N*W)^(k+1):=λt ht=>af (cf (by lia) hW) ht
 have ha':∀r∈iP pm k,∀c,Fr 1 W (a r c):=λr hr c=>by
  obtain ⟨t,ht,rfl⟩:=iU hr;exact ha _ (B.rng t (by lia)) c
 by_cases h:i < k
 ·rw[B.old h];refine (rb (W:=W) (N:=N) ?_ ?_).mono (mono _ (by rw[mV];lia))
  ·have:=congrArg List.length (cw_split (v:=λj r=>a r (p j)) h);rw[au,bI,cw_len] at this;rw[au,bI]
   lia
  ·intro v hv r hr;rcases aK.mp hv with hv | hv
   ·obtain ⟨t,_,rfl⟩:=vv hv;exact ha' r hr _
   ·rcases aI.mp hv with rfl | hv
    ·exact ha' r hr _
    ·obtain ⟨t,_,rfl⟩:=cw_in hv;exact ha' r hr _
 ·rw[B.new (by lia) hi];refine (rb (W:=W) (N:=N) ?_ ?_).mono (mono _ (by rw[bI,mV];lia))
  ·rw[bI,cw_len]
   lia
  ·intro v hv r hr
   have hr':∀c,Fr 1 W (a r c):=λc=>by
    rcases aI.mp hr with rfl | hr
    ·exact ha _ (B.rng i hi) c
    ·exact ha' r hr c
   rcases aI.mp hv with rfl | hv
   ·exact hr' _
   ·obtain ⟨t,_,rfl⟩:=cw_in hv;exact hr' _
theorem rD.dfr {W N:Nat} (B:rD a m k pm p l d) (hN:k<=N) (ha:∀i,i < m->∀c,Fr 1 W (a i c)):Fr 1 ((N*W)^k) d:=by
 have km:=B.km;rw[B.det]
 have:=rb (W:=W) (N:=N) (rs:=iP pm k) (vs:=ff (λj r=>a r (p j)) k) (by rw[cw_len];exact hN) λv hv r hr=>by
  obtain ⟨t,ht,rfl⟩:=iU hr;obtain ⟨t',_,rfl⟩:=cw_in hv;exact ha _ (B.rng t (by lia)) _
 rwa [mV] at this
def oB (k t i:Nat):Nat:=if i=k then t else if i=t then k else i
theorem nB {k t m i:Nat} (hk:k < m) (ht:t < m) (hi:i < m):oB k t i < m:=by
 unfold oB
 split
 ·exact ht
 ·split
  ·exact hk
  ·exact hi
theorem BQ {k t i j:Nat} (h:oB k t i=oB k t j):i=j:=by
 unfold oB at h
 split at h <;> split at h <;> (try split at h) <;> (try split at h) <;> lia
theorem oz {k t i:Nat} (h:k<=t) (hi:i < k):oB k t i=i:=by
 unfold oB;rw[if_neg (by lia),if_neg (by lia)]
theorem pU {k t i:Nat} (h:k<=t) (hi:k<=i):k<=oB k t i:=by
 unfold oB
 split
 ·exact h
 ·split <;> lia
theorem rD.swap (B:rD a m k pm p l d) {t:Nat} (h:k<=t) (ht:t < m):rD a m k (λi=>pm (oB k t i)) p (λi=>l (oB k t i)) d where
 inj i j hi hj e:=BQ (B.inj _ _ (nB (by lia) ht hi) (nB (by lia) ht hj) e)
 rng i hi:=B.rng _ (nB (by lia) ht hi)
 km:=B.km
 d0:=B.d0
 det:=by rw[B.det,uU (f:=pm) (g:=λi=>pm (oB k t i)) λj hj=>by rw[oz h hj]]
 eqs i hi c:=by
  have e:=B.eqs (oB k t i) (nB (by lia) ht hi) c;have e1:aQ k (λj=>a (pm (oB k t i)) (p j)*l (oB k t j) c)=aQ k (λj=>a (pm (oB k t i)) (p j)*l j c):=aC λj hj=>by rw[oz h hj]
  rw[e1];by_cases hk:i < k
  ·rw[oz h hk] at e ⊢;exact e
  ·rw[if_neg hk];rw[if_neg (by have:=pU h (show k<=i by lia);lia)] at e;exact e
 unit i hi j hj:=by
  rw[B.unit _ (nB (by lia) ht hi) j hj];by_cases hk:i < k
  ·rw[oz h hk]
  ·have:=pU h (show k<=i by lia);rw[if_neg (by lia),if_neg (by lia)]
theorem rD.step (B:rD a m k pm p l d) {c0:Nat} (hk:k < m) (h0:l k c0≠0):rD a m (k+1) pm (λj=>if j=k then c0 else p j) (λi c=>if i=k then l k c else (l k c0*l i c - l i c0*l k c) / d) (l k c0) where
 inj:=B.inj
 rng:=B.rng
 km:=hk
 d0:=h0
 det:=by
  rw[B.new (aj _) hk];show _=fK (pm k :: iP pm k) ((λr=>a r (if k=k then c0 else p k)) :: ff _ k)
  rw[if_pos rfl];congr 2;exact cw_congr λj hj=>by rw[if_neg (show j≠k by lia)]
 eqs i hi c:=by
  have d0:=B.d0;have e1:=B.eqs i hi c;have e2:=B.eqs i hi c0;show l k c0*a (pm i) c=(aQ k _+_)+_
  have s1:aQ k (λj=>a (pm i) (if j=k then c0 else p j)*(if j=k then l k c else (l k c0*l j c - l j c0*l k c) / d))=(l k c0 / d)*aQ k (λj=>a (pm i) (p j)*l j c)+(- l k c / d)*aQ k (λj=>a (pm i) (p j)*l j c0):=by
   rw[<- bU,<- bU,<- ig];refine aC λj hj=>?_
   rw[if_neg (show j≠k by lia),if_neg (show j≠k by lia)];grind
  rw[s1];simp only[if_true];generalize aQ k (λj=>a (pm i) (p j)*l j c)=S1 at e1 ⊢;generalize aQ k (λj=>a (pm i) (p j)*l j c0)=S2 at e2 ⊢;rcases eG i k with h | h | h
  ·rw[if_pos h] at e1 e2;rw[if_pos (by lia)];grind
  ·subst h;rw[if_neg (by lia)] at e1 e2;rw[if_pos (by lia)];grind
  ·rw[if_neg (by lia)] at e1 e2;rw[if_neg (by lia),if_neg (by lia)];grind
 unit i hi j hj:=by
  have d0:=B.d0;by_cases e:j=k
  ·subst e;simp only[if_true];by_cases ei:i=j
   ·rw[if_pos ei,if_pos ei]
   ·rw[if_neg ei,if_neg ei];grind
  ·have hj':j < k:=by lia
   rw[if_neg e];by_cases ei:i=k
   ·rw[if_pos ei,B.unit k hk j hj',if_neg (by lia),if_neg (by lia)]
   ·rw[if_neg ei,B.unit i hi j hj',B.unit k hk j hj',if_neg (show k≠j by lia)]
    split
    ·grind
    ·grind
end
def eA (m:Nat) (a:Nat->Nat->Rat) (x:Nat->Rat):Prop:=∃w:Nat->Rat,∀c,x c=aQ m λt=>w t*a t c
section
variable {m m' k n:Nat} {a b:Nat->Nat->Rat} {x y:Nat->Rat}
theorem eA.row {i:Nat} (hi:i < m):eA m a (a i):=⟨λt=>if t=i then 1 else 0,λc=>by
 rw[cy hi λj _ ne=>by dsimp only;rw[if_neg ne];grind]
 dsimp only
 rw[if_pos rfl];grind⟩
theorem eA.lin (α β:Rat) (hx:eA m a x) (hy:eA m a y):eA m a λc=>α*x c+β*y c:=by
 obtain ⟨w,hw⟩:=hx;obtain ⟨v,hv⟩:=hy;refine ⟨λt=>α*w t+β*v t,λc=>?_⟩
 dsimp only
 rw[hw c,hv c,<- bU,<- bU,<- ig];exact aC λj _=>by grind
theorem eA.congr (h:∀c,x c=y c) (hx:eA m a x):eA m a y:=by obtain ⟨w,hw⟩:=hx;exact ⟨w,λc=>by rw[<- h c];exact hw c⟩
theorem eA.trans (h:∀t,t < m'->eA m a (b t)) (hx:eA m' b x):eA m a x:=by
 obtain ⟨v,hv⟩:=hx
 have h2:∀t,∃w:Nat->Rat,t < m'->∀c,b t c=aQ m λs=>w s*a s c:=λt=>by
  by_cases ht:t < m'
  ·obtain ⟨w,hw⟩:=h t ht;exact ⟨w,λ_=>hw⟩
  ·exact ⟨λ_=>0,λz=>absurd z ht⟩
 have hc:=Classical.axiomOfChoice h2;obtain ⟨w,hw⟩:=hc;refine ⟨λs=>aQ m' λt=>v t*w t s,λc=>?_⟩;rw[hv c];have e1:aQ m' (λt=>v t*b t c)=aQ m' (λt=>aQ m λs=>v t*(w t s*a s c)):=aC λt ht=>by rw[hw t ht c,<- bU]
 rw[e1,eO];refine aC λs _=>?_
 have:aQ m' (λt=>v t*w t s)*a s c=a s c*aQ m' (λt=>v t*w t s):=eF ..;rw[this,<- bU];exact aC λt _=>by grind
theorem eA.zero (h:∀c,x c=0):eA m a x:=⟨λ_=>0,λc=>by rw[h c,bK λ_ _=>by grind]⟩
end
structure vD (m n:Nat) (a:Nat->Nat->Rat) (k:Nat) (p:Nat->Nat) (R:Nat->Nat->Rat):Prop where
 inc:∀i j,i < j->j < k->p i < p j
 low:∀j,j < k->p j < n
 unit:∀i,i < k->∀j,j < k->R i (p j)=if i=j then 1 else 0
 lead:∀i,i < k->∀c,c < p i->R i c=0
 span:∀i,i < m->eA k R (a i)
 back:∀i,i < k->eA m a (R i)
section
variable {m m' k k' n:Nat} {a a' R R':Nat->Nat->Rat} {p p':Nat->Nat} {x:Nat->Rat}
theorem vD.coef (h:vD m n a k p R) (hx:eA k R x) (c:Nat):x c=aQ k λj=>x (p j)*R j c:=by
 obtain ⟨w,hw⟩:=hx;rw[hw c];refine aC λj hj=>?_
 rw[hw (p j),cy hj λt ht ne=>by rw[h.unit t ht j hj,if_neg ne];grind,h.unit j hj j hj,if_pos rfl];grind
theorem vD.lead_in (h:vD m n a k p R) (hx:eA k R x) {c:Nat} (h1:x c≠0) (h0:∀c',c' < c->x c'=0):∃j,j < k/\p j=c:=by
 refine Classical.byContradiction λhn=>h1 ?_
 rw[h.coef hx c];refine bK λj hj=>?_
 rcases eG (p j) c with z | z | z
 ·rw[h0 _ z];grind
 ·exact absurd ⟨j,hj,z⟩ hn
 ·rw[h.lead j hj c z];grind
theorem inc_le (h1:∀i j,i < j->j < k->p i < p j) (h2:∀i j,i < j->j < k'->p' i < p' j) (hs:∀j,j < k'->∃i,i < k/\p i=p' j):∀{j:Nat},j < k'->∀{i:Nat},i < k->p i=p' j->j<=i
 | 0,_,_,_,_=>bc _
 | j+1,hj,i,hi,e=>by
  obtain ⟨i0,hi0,e0⟩:=hs j (by lia);have:=inc_le h1 h2 hs (j:=j) (by lia) hi0 e0;have lt:=h2 j (j+1) (by lia) hj;rcases eG i0 i with z | z | z
  ·lia
  ·subst z;lia
  ·have:=h1 i i0 z hi0;lia
theorem ze (h1:∀i j,i < j->j < k->p i < p j) {i j:Nat} (h:i<=j) (hj:j < k):p i<=p j:=by
 rcases cY i j with z | z
 ·exact bj (h1 i j z hj)
 ·have:i=j:=by lia
  rw[this];exact aj _
theorem xi (h1:∀i j,i < j->j < k->p i < p j) (h2:∀i j,i < j->j < k'->p' i < p' j) (hs:∀j,j < k'->∃i,i < k/\p i=p' j):k'<=k/\∀j,j < k'->p j<=p' j:=by
 refine ⟨?_,λj hj=>?_⟩
 ·rcases mS k' with z | z
  ·lia
  ·obtain ⟨i,hi,e⟩:=hs (k' - 1) (by lia);have:=inc_le h1 h2 hs (j:=k' - 1) (by lia) hi e
   lia
 ·obtain ⟨i,hi,e⟩:=hs j hj;rw[<- e];exact ze h1 (inc_le h1 h2 hs hj hi e) hi
theorem vD.uniq (h:vD m n a k p R) (h':vD m' n a' k' p' R') (s1:∀i,i < m->eA m' a' (a i)) (s2:∀i,i < m'->eA m a (a' i)):k=k'/\(∀j,j < k->p j=p' j)/\∀i,i < k->∀c,R i c=R' i c:=by
 have x1:∀i,i < k->eA k' R' (R i):=λi hi=>eA.trans (λt ht=>h'.span t ht) (eA.trans s1 (h.back i hi))
 have x2:∀i,i < k'->eA k R (R' i):=λi hi=>eA.trans (λt ht=>h.span t ht) (eA.trans s2 (h'.back i hi))
 have y1:∀j,j < k->∃i,i < k'/\p' i=p j:=λj hj=>h'.lead_in (x1 j hj) (by rw[h.unit j hj j hj,if_pos rfl];decide) (h.lead j hj)
 have y2:∀j,j < k'->∃i,i < k/\p i=p' j:=λj hj=>h.lead_in (x2 j hj) (by rw[h'.unit j hj j hj,if_pos rfl];decide) (h'.lead j hj)
 obtain ⟨z1,w1⟩:=xi h'.inc h.inc y1;obtain ⟨z2,w2⟩:=xi h.inc h'.inc y2;have ek:k=k':=Nat.le_antisymm z1 z2;subst ek;have ep:∀j,j < k->p j=p' j:=λj hj=>Nat.le_antisymm (w2 j hj) (w1 j hj)
 refine ⟨rfl,ep,λi hi c=>?_⟩;rw[h.coef (x2 i hi) c,cy hi λj hj ne=>by rw[ep j hj,h'.unit i hi j hj,if_neg (λz=>ne z.symm)];grind,ep i hi,h'.unit i hi i hi,if_pos rfl];grind
end
structure jL (a:Nat->Nat->Rat) (m k P:Nat) (p:Nat->Nat) (l:Nat->Nat->Rat) (d:Rat):Prop where
 km:k<=m
 d0:d≠0
 unit:∀i,i < m->∀j,j < k->l i (p j)=if i=j then d else 0
 inc:∀i j,i < j->j < k->p i < p j
 low:∀j,j < k->p j < P
 zero:∀i,k<=i->i < m->∀c,c < P->l i c=0
 lead:∀j,j < k->∀c,c < p j->l j c=0
 there:∀i,i < m->eA m l (a i)
 back:∀i,i < m->eA m a (l i)
section
variable {m k n P:Nat} {a l l':Nat->Nat->Rat} {p:Nat->Nat} {d d':Rat}
theorem jL.start:jL a m 0 0 p a 1 where
 km:=bc _
 d0:=by decide
 unit _ _ j hj:=absurd hj (by lia)
 inc _ j _ hj:=absurd hj (by lia)
 low j hj:=absurd hj (by lia)
 zero _ _ _ c hc:=absurd hc (by lia)
 lead j hj:=absurd hj (by lia)
 there i hi:=eA.row hi
 back i hi:=eA.row hi
theorem jL.skip (E:jL a m k P p l d) (h:∀i,k<=i->i < m->l i P=0):jL a m k (P+1) p l d :=
 ⟨E.km,E.d0,E.unit,E.inc,λj hj=>Nat.lt_succ_of_lt (E.low j hj),λi h1 h2 c hc=>by
  by_cases e:c=P
  ·rw[e];exact h i h1 h2
  ·exact E.zero i h1 h2 c (by lia),E.lead,E.there,E.back⟩
theorem Dx {k t i:Nat}:oB k t (oB k t i)=i:=by
 unfold oB
 split
 ·split <;> (try split) <;> lia
 ·split
  ·rw[if_pos rfl];lia
  ·rfl
theorem jL.swap (E:jL a m k P p l d) {t:Nat} (h:k<=t) (ht:t < m):jL a m k P p (λi=>l (oB k t i)) d where
 km:=E.km
 d0:=E.d0
 unit i hi j hj:=by
  rw[E.unit _ (nB (by lia) ht hi) j hj];by_cases hk:i < k
  ·rw[oz h hk]
  ·have:=pU h (show k<=i by lia);rw[if_neg (by lia),if_neg (by lia)]
 inc:=E.inc
 low:=E.low
 zero i h1 h2 c hc:=E.zero _ (pU h h1) (nB (by lia) ht h2) c hc
 lead j hj c hc:=by rw[oz h hj];exact E.lead j hj c hc
 there i hi:=eA.trans (λs hs=>eA.congr (λc=>by rw[Dx]) (eA.row (a:=λi=>l (oB k t i)) (i:=oB k t s) (nB (by lia) ht hs))) (E.there i hi)
 back i hi:=E.back _ (nB (by lia) ht hi)
theorem jL.step (E : jL a m k P p l d) (hk : k < m) (h0 : d' ≠ 0) (unit' : ∀ i, i < m → ∀ j, j < k + 1 → l' i (if j = k then P else p j) = if i = j then d' else 0)
    (hl : ∀ i, i < m → ∃ β γ : Rat, β ≠ 0 /\ (i = k → γ = 0) /\ ∀ c, l' i c = β * l i c + γ * l k c) : jL a m (k + 1) (P + 1) (λj => if j = k then P else p j) l' d' where
  km := hk
  d0 := h0
  unit := unit'
  inc i j hij hj := by
    by_cases e : j = k
    · rw [if_pos e, if_neg (by lia)];exact E.low i (by lia)
    · rw [if_neg e, if_neg (by lia)];exact E.inc i j hij (by lia)
  low j hj := by
    by_cases e : j = k
    · rw [if_pos e]; lia
    · rw [if_neg e];exact Nat.lt_succ_of_lt (E.low j (by lia))
  zero i h1 h2 c hc := by
    by_cases e : c = P
    · have := unit' i h2 k (by lia);rw [if_pos rfl, if_neg (by lia)] at this;rw [e]; exact this
    · obtain ⟨β, γ, _, _, q⟩ := hl i h2;rw [q c, E.zero i (by lia) h2 c (by lia), E.zero k (aj _) hk c (by lia)];grind
  lead j hj c hc := by
    have km := E.km;obtain ⟨β, γ, _, _, q⟩ := hl j (by lia);by_cases e : j = k
    · rw [if_pos e] at hc;rw [q c, e, E.zero k (aj _) hk c hc];grind
    · rw [if_neg e] at hc;have := E.low j (by lia);rw [q c, E.lead j (by lia) c hc, E.zero k (aj _) hk c (by lia)];grind
  there i hi := by
    refine eA.trans (λs hs => ?_) (E.there i hi);obtain ⟨β, γ, b0, _, q⟩ := hl s hs;obtain ⟨βk, γk, bk0, gk, qk⟩ := hl k hk;have g0 := gk rfl;refine eA.congr (λc => ?_) (eA.lin (1 / β) (-(γ / β) / βk) (eA.row (a := l') hs) (eA.row (a := l') hk));rw [q c, qk c, g0];grind
  back i hi := by
    obtain ⟨β, γ, _, _, q⟩ := hl i hi;exact eA.congr (λc => (q c).symm) (eA.lin β γ (E.back i hi) (E.back k hk))
theorem jL.done (E:jL a m k n p l d) (ha:∀i,i < m->∀c,n<=c->a i c=0):vD m n a k p (λi c=>l i c / d) where
 inc:=E.inc
 low:=E.low
 unit i hi j hj:=by
  have d0:=E.d0;have km:=E.km;rw[E.unit i (by lia) j hj]
  split
  ·grind
  ·grind
 lead i hi c hc:=by
  rw[E.lead i hi c hc];grind
 span i hi:=by
  have d0:=E.d0;refine eA.trans (λs hs=>?_) (E.there i hi);by_cases z:s < k
  ·refine eA.congr (λc=>?_) (eA.lin d 0 (eA.row (a:=λi c=>l i c / d) z) (eA.row (a:=λi c=>l i c / d) z));grind
  ·refine eA.zero λc=>?_
   by_cases hc:c < n
   ·exact E.zero s (by lia) hs c hc
   ·obtain ⟨w,hw⟩:=E.back s hs;rw[hw c,bK λt ht=>by rw[ha t ht c (by lia)];grind]
 back i hi:=by
  have km:=E.km;have d0:=E.d0;refine eA.congr (λc=>?_) (eA.lin (1 / d) 0 (E.back i (by lia)) (E.back i (by lia)));grind
end
def cW (ls:List (List Int)) (i c:Nat):Rat:=(((ls.getD i []).getD c 0:Int):Rat)
def bV (rows:LR9) (i c:Nat):Rat:=(rows.getD i []).getD c 0
def jU (ls:List (List Int)) (k t:Nat):List (List Int):=(ls.set k (ls.getD t [])).set t (ls.getD k [])
def vw (ls:List (List Int)) (k c:Nat) (b:Int):List (List Int):=(ls.map λzs=>List.zipWith (λx y=>((ls.getD k []).getD c 0*x - zs.getD c 0*y).fdiv b) zs (ls.getD k [])).set k (ls.getD k [])
section
variable {ls ls0:List (List Int)} {k t n P c:Nat} {b d:Int} {ps:List Nat}
theorem lG {α:Type} {l:List α} {i j:Nat} {x e:α} (hi:i < l.length):(l.set i x).getD j e=if j=i then x else l.getD j e:=by
 rw[aa,aa,List.getElem?_set];by_cases h:j=i
 ·subst h;rw[if_pos rfl,if_pos hi,if_pos rfl];rfl
 ·rw[if_neg (λz=>h z.symm),if_neg h]
theorem oA:(jU ls k t).length=ls.length:=by unfold jU;rw[cN,cN]
theorem zK:(vw ls k c b).length=ls.length:=by unfold vw;rw[cN,ah]
theorem getD_in {α:Type} {l:List α} {i:Nat} {e:α} (h:i < l.length):l.getD i e∈l:=by
 rw[aa,ae h];exact aA h
theorem wC (w:∀zs∈ls,zs.length=n) (hk:k < ls.length) (ht:t < ls.length):∀zs∈jU ls k t,zs.length=n:=λzs hz=>by
 unfold jU at hz;rcases cP hz with h | h
 ·rcases cP h with h | h
  ·exact w zs h
  ·rw[h];exact w _ (getD_in ht)
 ·rw[h];exact w _ (getD_in hk)
theorem xr (w:∀zs∈ls,zs.length=n) (hk:k < ls.length):∀zs∈vw ls k c b,zs.length=n:=λzs hz=>by
 unfold vw at hz;rcases cP hz with h | h
 ·obtain ⟨y,hy,rfl⟩:=aD.mp h;rw[dv,w y hy,w _ (getD_in hk)]
  lia
 ·rw[h];exact w _ (getD_in hk)
theorem nS (hk:k < ls.length) (ht:t < ls.length) (i c:Nat):cW (jU ls k t) i c=cW ls (oB k t i) c:=by
 unfold cW jU oB;rw[lG (by rw[cN];exact ht),lG hk];by_cases h1:i=t
 ·rw[if_pos h1];by_cases h2:i=k
  ·rw[if_pos h2,<- h1,<- h2]
  ·rw[if_neg h2,if_pos h1]
 ·rw[if_neg h1];by_cases h2:i=k
  ·rw[if_pos h2,if_pos h2]
  ·rw[if_neg h2,if_neg h2,if_neg h1]
theorem ra (w:∀zs∈ls,zs.length=n) {i c:Nat} (hc:n<=c):cW ls i c=0:=by
 unfold cW;by_cases h:i < ls.length
 ·have:=w _ (getD_in (e:=[]) h);rw[aa (l:=ls.getD i []),aN (by lia)];rfl
 ·rw[aa (l:=ls),aN (by lia)];rfl
theorem i5 {x:Int} (h:(x:Rat)=0):x=0:=by
 have:(x:Rat)=((0:Int):Rat):=h;exact cx.mp this
theorem v7 {x b:Int} {q:Rat} (hb:b≠0) (hq:∃z:Int,q=(z:Rat)) (e:(x:Rat)=(b:Rat)*q):((x.fdiv b:Int):Rat)=q:=by
 obtain ⟨z,rfl⟩:=hq;rw[<- av] at e;have:=cx.mp e;rw[this,Int.mul_fdiv_cancel_left _ hb]
theorem p6 {W:Nat} {q:Rat} (h:Fr 1 W q):∃z:Int,q=(z:Rat):=by
 obtain ⟨z,e,_⟩:=h;exact ⟨z,by rw[<- e];simp⟩
theorem oS {W:Nat} {z:Int} (h:Fr 1 W (z:Rat)):z.natAbs<=W:=by
 obtain ⟨y,e,b⟩:=h;have:(z:Rat)=(y:Rat):=by rw[<- e];simp
 rw[cx.mp this];simpa using b
theorem zv (w:∀zs∈ls,zs.length=n) (hk:k < ls.length) (hb:b≠0) {i:Nat} (hi:i < ls.length) (hz:∀c,∃z:Int,(cW ls k P*cW ls i c - cW ls i P*cW ls k c) / (b:Rat)=(z:Rat)) (c:Nat) :
  cW (vw ls k P b) i c=if i=k then cW ls k c else (cW ls k P*cW ls i c - cW ls i P*cW ls k c) / (b:Rat):=by
 by_cases e:i=k
 ·rw[if_pos e];unfold cW vw;rw[lG (by rw[ah];exact hk),if_pos e]
 ·rw[if_neg e];by_cases hc:c < n
  ·have hb':(b:Rat)≠0:=λz=>hb (i5 z)
   have lk:=w _ (getD_in (e:=[]) hk);have li:=w _ (getD_in (e:=[]) hi)
   have e1:cW (vw ls k P b) i c=(((((ls.getD k []).getD P 0*(ls.getD i []).getD c 0 - (ls.getD i []).getD P 0*(ls.getD k []).getD c 0).fdiv b:Int)):Rat):=by
    unfold vw;rw[cW,lG (by rw[ah];exact hk),if_neg e];rw[aa (l:=List.map _ ls),aw,ae hi];show ((((List.zipWith _ ls[i] (ls.getD k [])).getD c 0:Int)):Rat)=_
    have ei:ls.getD i []=ls[i]:=by rw[aa,ae hi];rfl
    rw[<- ei];rw[aa (l:=List.zipWith _ _ _),jT,aa (l:=ls.getD i []) (i:=c),aa (l:=ls.getD k []) (i:=c),ae (show c < (ls.getD i []).length by lia),ae (show c < (ls.getD k []).length by lia)];rfl
   rw[e1];refine v7 hb (hz c) ?_;rw[rE,av,av];show _=(b:Rat)*((cW ls k P*cW ls i c - cW ls i P*cW ls k c) / (b:Rat))
   show cW ls k P*cW ls i c - cW ls i P*cW ls k c=_
   grind
  ·rw[ra (xr w hk) (show n<=c by lia),ra w (i:=i) (show n<=c by lia),ra w (i:=k) (show n<=c by lia)];grind
end
section
variable {m k n P:Nat} {a l l2:Nat->Nat->Rat} {pm p p2:Nat->Nat} {d:Rat}
theorem rD.congr (B:rD a m k pm p l d) (hp:∀j,j < k->p2 j=p j) (hl:∀i,i < m->∀c,l2 i c=l i c):rD a m k pm p2 l2 d where
 inj:=B.inj
 rng:=B.rng
 km:=B.km
 d0:=B.d0
 det:=by rw[B.det,cw_congr (f:=λj r=>a r (p j)) (g:=λj r=>a r (p2 j)) λj hj=>by rw[hp j hj]]
 eqs i hi c:=by
  have km:=B.km;rw[B.eqs i hi c,hl i hi c];congr 1;exact aC λj hj=>by rw[hp j hj,hl j (by lia) c]
 unit i hi j hj:=by rw[hp j hj,hl i hi];exact B.unit i hi j hj
theorem eA.rows {x:Nat->Rat} (h:∀i,i < m->∀c,l2 i c=l i c) (hx:eA m l x):eA m l2 x:=by obtain ⟨w,hw⟩:=hx;exact ⟨w,λc=>by rw[hw c];exact aC λt ht=>by rw[h t ht c]⟩
theorem jL.congr (E:jL a m k P p l d) (hp:∀j,j < k->p2 j=p j) (hl:∀i,i < m->∀c,l2 i c=l i c):jL a m k P p2 l2 d where
 km:=E.km
 d0:=E.d0
 unit i hi j hj:=by rw[hp j hj,hl i hi];exact E.unit i hi j hj
 inc i j hij hj:=by rw[hp i (by lia),hp j hj];exact E.inc i j hij hj
 low j hj:=by rw[hp j hj];exact E.low j hj
 zero i h1 h2 c hc:=by rw[hl i h2];exact E.zero i h1 h2 c hc
 lead j hj c hc:=by
  have km:=E.km;rw[hp j hj] at hc;rw[hl j (by lia)];exact E.lead j hj c hc
 there i hi:=(E.there i hi).rows hl
 back i hi:=(E.back i hi).congr λc=>(hl i hi c).symm
theorem jL.kP (E:jL a m k P p l d):k<=P:=by
 have:∀j,j < k->j<=p j:=by
  intro j
  induction j with
  | zero=>intro _;exact bc _
  | succ j ih =>
   intro hj;have:=ih (by lia);have:=E.inc j (j+1) (by lia) hj
   lia
 rcases mS k with z | z
 ·lia
 ·have h1:=this (k - 1) (by lia);have h2:=E.low (k - 1) (by lia)
  lia
end
structure sT (ls0:List (List Int)) (n P:Nat) (ls:List (List Int)) (ps:List Nat) (d:Int):Prop where
 len:ls.length=ls0.length
 wide:∀zs∈ls,zs.length=n
 bar:∃pm,rD (cW ls0) ls0.length ps.length pm (λj=>ps.getD j 0) (cW ls) d
 el:jL (cW ls0) ls0.length ps.length P (λj=>ps.getD j 0) (cW ls) d
section
variable {ls0 ls:List (List Int)} {n P:Nat} {ps:List Nat} {d:Int}
theorem sT.start (w:∀zs∈ls0,zs.length=n):sT ls0 n 0 ls0 [] 1:=⟨rfl,w,⟨λi=>i,rD.start λ_ _=>rfl⟩,jL.start⟩
theorem sT.d0 (h:sT ls0 n P ls ps d):d≠0:=λz=>h.el.d0 (by rw[z];rfl)
theorem sT.skip (h:sT ls0 n P ls ps d) (hz:∀i,ps.length<=i->i < ls.length->cW ls i P=0):sT ls0 n (P+1) ls ps d:=⟨h.len,h.wide,h.bar,h.el.skip λi h1 h2=>hz i h1 (by rw[h.len];exact h2)⟩
theorem getD_snoc {l:List Nat} {x j:Nat} (hj:j < l.length+1):(l++[x]).getD j 0=if j=l.length then x else l.getD j 0:=by
 rw[aa,aa];by_cases e:j=l.length
 ·rw[if_pos e,e,aO (aj _),h7];rfl
 ·rw[if_neg e,aW (by lia)]
theorem sT.int {W:Nat} (h:sT ls0 n P ls ps d) (hW:1<=W) (h0:∀i,i < ls0.length->∀c,Fr 1 W (cW ls0 i c)) {t:Nat} (ht:ps.length<=t) (ht2:t < ls.length) (hne:cW ls t P≠0) :
  ∀i,i < ls.length->i≠ps.length->∀c,∃z:Int,(cW (jU ls ps.length t) ps.length P*cW (jU ls ps.length t) i c - cW (jU ls ps.length t) i P*cW (jU ls ps.length t) ps.length c) / (d:Rat)=(z:Rat):=λi hi ne c=>by
 obtain ⟨pm,B⟩:=h.bar;have hl:=h.len;have hk:ps.length < ls.length:=by lia
 have B1:=(B.swap ht (by lia)).congr (p2:=λj=>ps.getD j 0) (l2:=cW (jU ls ps.length t)) (λ_ _=>rfl) (λi _ c=>nS hk ht2 i c)
 have h1:cW (jU ls ps.length t) ps.length P≠0:=by
  rw[nS hk ht2];unfold oB;rw[if_pos rfl];exact hne
 have B2:=B1.step (c0:=P) (by lia) h1;have:=B2.fr (W:=W) (N:=ps.length+2) (by lia) hW h0 (i:=i) (c:=c) (by lia);rw[if_neg ne] at this;exact p6 this
theorem sT.step {W:Nat} (h:sT ls0 n P ls ps d) (hW:1<=W) (h0:∀i,i < ls0.length->∀c,Fr 1 W (cW ls0 i c)) {t:Nat} (ht:ps.length<=t) (ht2:t < ls.length) (hne:cW ls t P≠0) :
  sT ls0 n (P+1) (vw (jU ls ps.length t) ps.length P d) (ps++[P]) (((vw (jU ls ps.length t) ps.length P d).getD ps.length []).getD P 0):=by
 obtain ⟨pm,B⟩:=h.bar;have hl:=h.len;have hk:ps.length < ls.length:=by lia
 have hz:=h.int hW h0 ht ht2 hne;have w1:=wC h.wide hk ht2;have k1:ps.length < (jU ls ps.length t).length:=by rw[oA];exact hk
 have B1:=(B.swap ht (by lia)).congr (p2:=λj=>ps.getD j 0) (l2:=cW (jU ls ps.length t)) (λ_ _=>rfl) (λi _ c=>nS hk ht2 i c);have E1:=(h.el.swap ht (by lia)).congr (p2:=λj=>ps.getD j 0) (l2:=cW (jU ls ps.length t)) (λ_ _=>rfl) (λi _ c=>nS hk ht2 i c)
 have h1:cW (jU ls ps.length t) ps.length P≠0:=by
  rw[nS hk ht2];unfold oB;rw[if_pos rfl];exact hne
 have B2:=B1.step (c0:=P) (by lia) h1
 have fc:∀i,i < ls0.length->∀c,cW (vw (jU ls ps.length t) ps.length P d) i c=if i=ps.length then cW (jU ls ps.length t) ps.length c else (cW (jU ls ps.length t) ps.length P*cW (jU ls ps.length t) i c - cW (jU ls ps.length t) i P*cW (jU ls ps.length t) ps.length c) / (d:Rat):=λi hi c=>by
  by_cases e:i=ps.length
  ·rw[if_pos e];unfold cW vw;rw[lG (by rw[ah];exact k1),if_pos e]
  ·have:=zv w1 k1 h.d0 (i:=i) (by rw[oA];lia) (hz i (by lia) e) c;rw[this]
 have ed:(((((vw (jU ls ps.length t) ps.length P d).getD ps.length []).getD P 0:Int)):Rat)=cW (jU ls ps.length t) ps.length P:=by
  have:=fc ps.length (by lia) P;rw[if_pos rfl] at this;exact this
 have lp:(ps++[P]).length=ps.length+1:=by rw[au];rfl
 have hp:∀j,j < ps.length+1->(ps++[P]).getD j 0=if j=ps.length then P else ps.getD j 0:=λj hj=>getD_snoc hj
 refine ⟨by rw[zK,oA];exact hl,xr w1 k1,⟨λi=>pm (oB ps.length t i),?_⟩,?_⟩
 ·rw[ed,lp];exact B2.congr hp fc
 ·rw[ed,lp];refine jL.congr (E1.step (d':=cW (jU ls ps.length t) ps.length P) (l':=λi c=>if i=ps.length then cW (jU ls ps.length t) ps.length c else (cW (jU ls ps.length t) ps.length P*cW (jU ls ps.length t) i c - cW (jU ls ps.length t) i P*cW (jU ls ps.length t) ps.length c) / (d:Rat)) (by lia) h1 B2.unit λi hi=>?_) hp fc;have d0:=h.el.d0;by_cases e:i=ps.length
  ·refine ⟨1,0,by decide,λ_=>rfl,λc=>?_⟩;rw[if_pos e,e];grind
  ·refine ⟨cW (jU ls ps.length t) ps.length P / (d:Rat),-(cW (jU ls ps.length t) i P) / (d:Rat),?_,λz=>absurd z e,λc=>?_⟩
   ·intro z;apply h1;grind
   ·rw[if_neg e];grind
theorem sT.sz {W r:Nat} (h:sT ls0 n P ls ps d) (hW:1<=W) (h0:∀i,i < ls0.length->∀c,Fr 1 W (cW ls0 i c)) (hP:P<=n) (hr:min ls0.length n<=r) (r15:r<=15):(d.natAbs<=(16*W)^r)/\∀zs∈ls,∀z∈zs,z.natAbs<=(16*W)^r:=by
 obtain ⟨pm,B⟩:=h.bar;have kP:=h.el.kP;have km:=B.km;have hl:=h.len;have mono:∀{s t:Nat},s<=t->(16*W)^s<=(16*W)^t:=λhs=>af (cf (by decide) hW) hs
 refine ⟨ag (oS (B.dfr (W:=W) (N:=16) (by lia) h0)) (mono (by lia)),λzs hz z hz'=>?_⟩;obtain ⟨i,hi,rfl⟩:=aL hz;obtain ⟨c,hc,rfl⟩:=aL hz';have hw:=h.wide _ (aA hi)
 have ez:cW ls i c=(((ls[i])[c]:Int):Rat):=by
  unfold cW;rw[aa (l:=ls),ae hi];show ((ls[i].getD c 0:Int):Rat)=_
  rw[aa,ae hc];rfl
 by_cases hk:i < ps.length
 ·have:Fr 1 ((16*W)^ps.length) (cW ls i c):=by
   have hd:=B.d0;rw[B.old hk]
   have:=rb (W:=W) (N:=16) (rs:=iP pm ps.length) (vs:=v9 (λj r=>cW ls0 r (ps.getD j 0)) i ps.length++(λr=>cW ls0 r c) :: ff (λj r=>cW ls0 r (ps.getD j 0)) i) (by
    have:=congrArg List.length (cw_split (v:=λj r=>cW ls0 r (ps.getD j 0)) hk);rw[au,bI,cw_len] at this;rw[au,bI]
    lia) (by
    intro v hv r hr
    have hr':∀c,Fr 1 W (cW ls0 r c):=λc=>by
     obtain ⟨t,ht,rfl⟩:=iU hr;exact h0 _ (B.rng t (by lia)) c
    rcases aK.mp hv with hv | hv
    ·obtain ⟨t,_,rfl⟩:=vv hv;exact hr' _
    ·rcases aI.mp hv with rfl | hv
     ·exact hr' _
     ·obtain ⟨t,_,rfl⟩:=cw_in hv;exact hr' _)
   rwa [mV] at this
  rw[ez] at this;exact ag (oS this) (mono (by lia))
 ·by_cases hn:ps.length < n
  ·have:=B.fr (W:=W) (N:=16) (by lia) hW h0 (i:=i) (c:=c) (by lia);rw[ez] at this;exact ag (oS this) (mono (by lia))
  ·have:=h.el.zero i (by lia) (by lia) c (by lia);rw[ez] at this;rw[i5 this];exact bc _
end
def Tp (M W:Nat) (q:Rat):Prop:=∃z:Int,q*(M:Rat)=(z:Rat)/\z.natAbs<=W
theorem Tp.of {M V W:Nat} {q:Rat} (h:Fr M V q) (hW:V*M<=W):Tp M W q:=by obtain ⟨z,a,b⟩:=h;exact ⟨z,a,ag b hW⟩
theorem Tp.mono {M W W':Nat} {q:Rat} (h:Tp M W q) (hW:W<=W'):Tp M W' q:=by obtain ⟨z,a,b⟩:=h;exact ⟨z,a,ag b hW⟩
def pI (rows:LR9) (n w:Nat):Prop:=∃M W:Nat,0 < M/\M<=2^4300/\1<=W/\W<=2^w/\(∀xs∈rows,∀x∈xs,Tp M W x)/\w<=4300/\min rows.length n<=15/\min rows.length n*(w+4)<=8900
def ie (xs:List Rat):List Int:=rT (xs.map nm) (oU (xs.map nm))
theorem nj {xs:List Rat}:(ie xs).length=xs.length:=by unfold ie rT;rw[ah,ah]
theorem rk {xs:List Rat}:0 < oU (xs.map nm):=qU (by decide) λb hb=>by
 obtain ⟨n,hn,rfl⟩:=aD.mp hb;obtain ⟨x,_,rfl⟩:=aD.mp hn;exact gH x
theorem z4 {xs:List Rat} {c:Nat}:(((ie xs).getD c 0:Int):Rat)=xs.getD c 0*((oU (xs.map nm):Int):Rat):=by
 unfold ie rT;rw[aa,aa,aw,aw];cases e:xs[c]? with
 | none=>show ((0:Int):Rat)=0*_;rw[mG];rfl
 | some x=>exact qt (rl (aD.mpr ⟨x,ax e,rfl⟩))
section
variable {rows:LR9} {n w i c:Nat} {xs:List Rat}
theorem uy (hi:i < rows.length):cW (rows.map ie) i c=((oU ((rows.getD i []).map nm):Int):Rat)*bV rows i c:=by
 unfold cW bV
 have e:(rows.map ie).getD i []=ie (rows.getD i []):=by
  rw[aa,aa,aw,ae hi];rfl
 rw[e,z4,eF]
theorem ug (hw:∀xs∈rows,xs.length=n) (hc:n<=c):bV rows i c=0:=by
 unfold bV;by_cases h:i < rows.length
 ·have:=hw _ (getD_in (e:=[]) h);rw[aa (l:=rows.getD i []),aN (by lia)];rfl
 ·rw[aa (l:=rows),aN (by lia)];rfl
theorem wj (i:Nat) (hi:i < rows.length):eA rows.length (cW (rows.map ie)) (bV rows i):=by
 have h0:((oU ((rows.getD i []).map nm):Int):Rat)≠0:=λz=>by
  have:=rk (xs:=rows.getD i []);have:=i5 z
  lia
 refine eA.congr (λc=>?_) (eA.lin (1 / ((oU ((rows.getD i []).map nm):Int):Rat)) 0 (eA.row (a:=cW (rows.map ie)) hi) (eA.row (a:=cW (rows.map ie)) hi));rw[uy hi];grind
theorem wg (i:Nat) (hi:i < rows.length):eA rows.length (bV rows) (cW (rows.map ie) i):=by
 refine eA.congr (λc=>?_) (eA.lin ((oU ((rows.getD i []).map nm):Int):Rat) 0 (eA.row (a:=bV rows) hi) (eA.row (a:=bV rows) hi));rw[uy hi];grind
theorem qr {M W:Nat} {x:Rat} (h:Tp M W x):(nm x).2∣(M:Int):=by
 obtain ⟨z,e,b⟩:=h
 exact Fr.den (V:=z.natAbs) (M:=M) ⟨z,e,by
  rcases mS M with h | h
  ·subst h;have:(z:Rat)=0:=by rw[<- e];simp
   rw[i5 this];simp
  ·exact cC _ h⟩
theorem sZ {M W:Nat} {x:Rat} (h:Tp M W x) (h0:0 < M) {B:Int} (hB:0 < B) (d1:(nm x).2∣B) (d2:B∣(M:Int)):∃t:Int,x*(B:Rat)=(t:Rat)/\t.natAbs<=W:=by
 obtain ⟨z,e,b⟩:=h;obtain ⟨s,es⟩:=d2;refine ⟨(nm x).1*(B / (nm x).2),(qt d1).symm,?_⟩
 have s0:0 < s:=by
  rcases Int.lt_trichotomy s 0 with h | h | h
  ·have:=ng hB h
   lia
  ·rw[h] at es;lia
  ·exact h
 have e2:(((nm x).1*(B / (nm x).2)*s:Int):Rat)=(z:Rat):=by
  rw[av,qt d1,<- e,<- aq,es,av];grind
 have e3:=cx.mp e2;have:((nm x).1*(B / (nm x).2)).natAbs*s.natAbs=z.natAbs:=by rw[<- bS,e3]
 have h1:1<=s.natAbs:=by lia
 have:=cC ((nm x).1*(B / (nm x).2)).natAbs h1
 lia
theorem xt {M W:Nat} (h0:0 < M) (h:∀x∈xs,Tp M W x):oU (xs.map nm)∣(M:Int):=pZ (by decide) (Int.one_dvd _) λb hb=>by
 obtain ⟨n,hn,rfl⟩:=aD.mp hb;obtain ⟨x,hx,rfl⟩:=aD.mp hn;exact ⟨gH x,qr (h x hx)⟩
theorem pI.rowM (F:pI rows n w) (hx:xs∈rows):∃M,zQ M (xs.map nm):=by
 obtain ⟨M,W,h0,h1,hW,h2,h3,h4,_⟩:=F;refine ⟨M,by lia,?_,λy hy=>?_⟩
 ·show ((M:Nat):Int).natAbs < 2^4400
  rw[aU];exact bL h1 (dc (by decide) (by decide))
 ·obtain ⟨x,hx',rfl⟩:=aD.mp hy;have t:=h3 xs hx x hx';refine ⟨gH x,qr t,?_⟩;obtain ⟨s,e,b⟩:=sZ t h0 (gH x) (Int.dvd_refl _) (qr t);have e2:(((nm x).1:Int):Rat)=(s:Rat):=by rw[<- e];exact j7 x
  rw[cx.mp e2];exact bL (ag b h2) (dc (by decide) (by lia))
theorem pI.ent (F:pI rows n w):∃W:Nat,1<=W/\W<=2^w/\∀i,i < (rows.map ie).length->∀c,Fr 1 W (cW (rows.map ie) i c):=by
 obtain ⟨M,W,h0,h1,hW,h2,h3,h4,_⟩:=F;refine ⟨W,hW,h2,λi hi c=>?_⟩;rw[ah] at hi;have hx:=getD_in (e:=[]) hi;rw[uy hi];unfold bV;generalize rows.getD i []=xs at hx ⊢;by_cases hc:c < xs.length
 ·have t:=h3 xs hx _ (getD_in (e:=0) hc);obtain ⟨s,e,b⟩:=sZ t h0 (rk (xs:=xs)) (rl (aD.mpr ⟨_,getD_in (e:=0) hc,rfl⟩)) (xt h0 (h3 xs hx));rw[eF,e];exact Fr.int b
 ·rw[aa,aN (by lia)];show Fr 1 W (_*0)
  rw[h6];exact Fr.zero
end
def bJ (rows:LR9) (n:Nat) (R:LR9) (ps:List Nat):Prop:=R.length=ps.length/\(∀xs∈R,xs.length=n)/\vD rows.length n (bV rows) ps.length (λj=>ps.getD j 0) (bV R)
structure SwR (rows:LR9) (n w:Nat) (R:LR9) (ps:List Nat) (d:Int) (ls:List (List Int)):Prop where
 rr:bJ rows n R ps
 d0:d≠0
 len:ls.length=ps.length
 wide:∀zs∈ls,zs.length=n
 val:∀i c,cW ls i c=(d:Rat)*bV R i c
 dsz:d.natAbs<=2^(min rows.length n*(w+4))
 zsz:∀zs∈ls,∀z∈zs,z.natAbs<=2^(min rows.length n*(w+4))
 tp:∀xs∈R,∀x∈xs,Tp d.natAbs (2^(min rows.length n*(w+4))) x
 km:ps.length<=rows.length
theorem vD.congrR {m n k:Nat} {a R R2:Nat->Nat->Rat} {p:Nat->Nat} (h:vD m n a k p R) (hr:∀i,i < k->∀c,R2 i c=R i c):vD m n a k p R2 :=
 ⟨h.inc,h.low,λi hi j hj=>by rw[hr i hi];exact h.unit i hi j hj,λi hi c hc=>by rw[hr i hi];exact h.lead i hi c hc,λi hi=>(h.span i hi).rows hr,λi hi=>(h.back i hi).congr λc=>(hr i hi c).symm⟩
theorem vD.other {m m' n k:Nat} {a a' R:Nat->Nat->Rat} {p:Nat->Nat} (h:vD m n a k p R) (s1:∀i,i < m->eA m' a' (a i)) (s2:∀i,i < m'->eA m a (a' i)):vD m' n a' k p R :=
 ⟨h.inc,h.low,h.unit,h.lead,λi hi=>eA.trans h.span (s2 i hi),λi hi=>eA.trans s1 (h.back i hi)⟩
theorem vR {W w r : Nat} (h : W ≤ 2 ^ w) : (16 * W) ^ r ≤ 2 ^ (r * (w + 4)) := by
  calc (16 * W) ^ r ≤ (2 ^ (w + 4)) ^ r := Nat.pow_le_pow_left (by rw [bx]; lia) _
    _ = 2 ^ (r * (w + 4)) := by rw [<- Nat.pow_mul, bX]
theorem sT.done {rows:LR9} {n w:Nat} {ls:List (List Int)} {ps:List Nat} {d:Int} (h:sT (rows.map ie) n n ls ps d) (hw:∀xs∈rows,xs.length=n) (F:pI rows n w) :
  ∃R,SwR rows n w R ps d (ls.take ps.length):=by
 obtain ⟨W,hW,W2,ent⟩:=F.ent;obtain ⟨_,_,_,_,_,_,_,_,r15,_⟩:=F;have hl:=h.len;have d0:=h.d0;have d0':(d:Rat)≠0:=λz=>d0 (i5 z)
 have km:=h.el.km;have hm:(rows.map ie).length=rows.length:=ah ..;obtain ⟨s1,s2⟩:=h.sz (r:=min rows.length n) hW ent (aj _) (by rw[hm];exact aj _) r15;have s2':∀zs∈ls,∀z∈zs,z.natAbs<=2^(min rows.length n*(w+4)):=λzs hz z hz'=>ag (s2 zs hz z hz') (vR W2)
 have er:∀i c,bV ((ls.take ps.length).map λzs=>zs.map λ(z:Int)=>(z:Rat) / (d:Rat)) i c=cW (ls.take ps.length) i c / (d:Rat):=λi c=>by
  unfold bV cW;rw[aa (l:=List.map _ _),aw,aa (l:=List.take _ _)];cases e:(ls.take ps.length)[i]? with
  | none=>show (0:Rat)=((0:Int):Rat) / _;grind
  | some zs =>
   show (zs.map λ(z:Int)=>(z:Rat) / (d:Rat)).getD c 0=((zs.getD c 0:Int):Rat) / (d:Rat)
   rw[aa,aa,aw];cases e2:zs[c]? with
   | none=>show (0:Rat)=((0:Int):Rat) / _;grind
   | some z=>rfl
 have et:∀i,i < ps.length->∀c,cW (ls.take ps.length) i c=cW ls i c:=λi hi c=>by
  unfold cW;rw[aa (l:=List.take _ _),Dg hi,<- aa]
 have RR:=(h.el.done λi hi c hc=>ra (n:=n) (λzs hz=>by
  obtain ⟨xs,hx,rfl⟩:=aD.mp hz;rw[nj];exact hw xs hx) hc).congrR (R2:=bV ((ls.take ps.length).map λzs=>zs.map λ(z:Int)=>(z:Rat) / (d:Rat))) λi hi c=>by rw[er,et i hi]
 rw[hm] at RR;refine ⟨(ls.take ps.length).map λzs=>zs.map λ(z:Int)=>(z:Rat) / (d:Rat),⟨by rw[ah,dH];lia,λxs hx=>?_,RR.other wg wj⟩,d0,by rw[dH];lia,λzs hz=>h.wide zs (cD hz),λi c=>?_,ag s1 (vR W2),λzs hz=>s2' zs (cD hz),λxs hx x hx'=>?_,by lia⟩
 ·obtain ⟨zs,hz,rfl⟩:=aD.mp hx;rw[ah];exact h.wide zs (cD hz)
 ·rw[er];grind
 ·obtain ⟨zs,hz,rfl⟩:=aD.mp hx;obtain ⟨z,hz',rfl⟩:=aD.mp hx';have b:=s2' zs (cD hz) z hz';rcases vF d with e | e
  ·refine ⟨z,?_,b⟩;have:((d.natAbs:Nat):Rat)=(d:Rat):=by rw[<- aq,<- e]
   rw[this];grind
  ·refine ⟨-z,?_,by rw[e8];exact b⟩;have:((d.natAbs:Nat):Rat)=-(d:Rat):=by rw[<- aq,<- bH];congr 1;lia
   rw[this,bH];grind
theorem CW {R R':LR9} {n:Nat} (hl:R.length=R'.length) (w1:∀xs∈R,xs.length=n) (w2:∀xs∈R',xs.length=n) (h:∀i,i < R.length->∀c,bV R i c=bV R' i c):R=R':=by
 apply cm hl;intro i h1 h2;apply cm (by rw[w1 _ (aA h1),w2 _ (aA h2)]);intro c h3 h4;have:=h i h1 c;unfold bV at this;rw[aa (l:=R),aa (l:=R'),ae h1,ae h2] at this;have this:(R[i]).getD c 0=(R'[i]).getD c 0:=this;rw[aa,aa,ae h3,ae h4] at this;exact this
theorem bJ.uniq {rows rows' R R':LR9} {n:Nat} {ps ps':List Nat} (h:bJ rows n R ps) (h':bJ rows' n R' ps') (s1:∀i,i < rows.length->eA rows'.length (bV rows') (bV rows i)) (s2:∀i,i < rows'.length->eA rows.length (bV rows) (bV rows' i)):R=R'/\ps=ps':=by
 obtain ⟨l1,w1,r1⟩:=h;obtain ⟨l2,w2,r2⟩:=h';obtain ⟨ek,ep,eR⟩:=r1.uniq r2 s1 s2;refine ⟨CW (by lia) w1 w2 λi hi c=>eR i (by lia) c,?_⟩;apply cm ek;intro j h1 h2;have:=ep j h1;rw[aa,aa,ae h1,ae h2] at this;exact this
theorem bJ.same {rows R R':LR9} {n:Nat} {ps ps':List Nat} (h:bJ rows n R ps) (h':bJ rows n R' ps'):R=R'/\ps=ps':=h.uniq h' (λ_ hi=>eA.row hi) (λ_ hi=>eA.row hi)
open PySem PySem.Spec PyProof.Rows
def xx (l:Addr) (H:Hp) (zs:List Int) (v:V):Prop:=∃q,v=V.ref q/\q≠l/\H q=some (.lst (zs.map V.int))
def lK (l:Addr) (H:Hp) (p:Addr) (ls:List (List Int)):Prop:=p≠l/\∃xs,H p=some (.lst xs)/\Paired (xx l H) ls xs
theorem xx.same {l:Addr} {H H':Hp} {zs:List Int} {v:V} (h:xx l H zs v) (e:aH H H'):xx l H' zs v:=by obtain ⟨q,a,n,b⟩:=h;exact ⟨q,a,n,e _ _ b⟩
theorem xx.upd {l:Addr} {H:Hp} {zs:List Int} {v:V} {o:HO} (h:xx l H zs v):xx l (upd H l o) zs v:=by obtain ⟨q,a,n,b⟩:=h;exact ⟨q,a,n,by rw[aY n];exact b⟩
theorem lK.upd {l:Addr} {H:Hp} {p:Addr} {ls:List (List Int)} {o:HO} (h:lK l H p ls):lK l (upd H l o) p ls:=by obtain ⟨n,xs,a,b⟩:=h;exact ⟨n,xs,by rw[aY n];exact a,Paired.imp' (λ_ _ z=>z.upd) b⟩
theorem ne_old {H:Hp} {l r:Addr} (h:H l≠none) (n:H r=none):r≠l:=λz=>h (by rw[<- z];exact n)
theorem fv {α β:Type} {F:α->β->Prop}:∀{l1:List α} {l2:List β} (_:Paired F l1 l2) (i:Nat) {x:α} {y:β},F x y->Paired F (l1.set i x) (l2.set i y)
 | _,_,.nil,_,_,_,_=>.nil
 | _,_,.cons _ r,0,_,_,h=>.cons h r
 | _,_,.cons a r,i+1,_,_,h=>.cons a (fv r i h)
theorem ym {ls:List (List Int)} {i c:Nat} {zs:List Int} (h:ls[i]?=some zs):cW ls i c=((zs.getD c 0:Int):Rat):=by
 unfold cW;rw[aa (l:=ls),h];rfl
theorem Eu {z:Int}:((z:Int):Rat)≠0↔z≠0:=⟨λh e=>h (by rw[e];rfl),λh e=>h (i5 e)⟩
theorem qo {zs:List Int} {c:Nat} (h:c < zs.length):yg (zs.map V.int) (c:Int)=some (V.int (zs.getD c 0)):=fZ (by rw[aw,aa,ae h];rfl)
inductive rZ (vs:List V) (H:Hp) (Q:VK) (E9:XK):Prop
 | mk (l p:Addr) (ls:List (List Int)) (b c:Nat):vs=[.ref p,.int b,.int c]->lK l H p ls->ls.length<=1000->b<=1000->(∀zs∈ls,c < zs.length)->(∀t:Nat,b<=t->t < ls.length->cW ls t c≠0->Q (.int t) H)->((∀t,b<=t->t < ls.length->cW ls t c=0)->Q .non H)->rZ  vs H Q E9
inductive o8 (vs:List V) (H:Hp) (Q:VK) (E9:XK):Prop
 | mk (l p:Addr) (ls:List (List Int)) (t k:Nat):vs=[.ref p,.int t,.int k]->H l≠none->lK l H p ls->ls.length<=1000->t < ls.length->k < ls.length->(∀r H',H r=none->aH H H'->lK l H' r (jU ls k t)->Q (.ref r) H')->o8  vs H Q E9
inductive r8 (vs:List V) (H:Hp) (Q:VK) (E9:XK):Prop
 | mk (l p:Addr) (ls:List (List Int)) (k c n:Nat) (b:Int):vs=[.ref p,.int k,.int c,.int b]->H l≠none->lK l H p ls->ls.length<=1000->k < ls.length->(∀zs∈ls,zs.length=n)->n<=1000->c < n->b≠0->Sz 8999 b->(∀zs∈ls,∀z∈zs,Sz 8999 z)->(∀r H',H r=none->aH H H'->lK l H' r (vw ls k c b)->Q (.ref r) H')->r8  vs H Q E9
theorem yO (K:FG9) {X:Cx} {a b:Expr} {ta:TA} {p pos tpos:Pos} {elts:List Expr} {kk:Nat} (hg:Gl X "zip") (hm:X.mg "zip"=none) (ha:PA X [a,b] ta) (hK:X.K=K:=by rfl) (hs:starEach [a,b] X.env=[(false,eval a X.env),(false,eval b X.env)]:=by rfl) (hs2:starEach [b] X.env=[(false,eval b X.env)]:=by rfl) :
  PI X (.Tuple elts kk tpos) (.Call (.Name "zip" p) [a,b] [] pos) (CM K ta):=by subst hK;exact nG hg hm ha hs hs2
def cE (ps:List Nat):List V:=ps.map λ(j:Nat)=>V.int (j:Int)
inductive rW (K:FG9) (vs:List V) (H:Hp) (Q:VK) (E9:XK):Prop
 | mk (p:Addr) (n w:Nat) (H0:Hp) (rows:LR9):vs=[.ref p,.int n]->dj K H0 H p rows->rows.length<=100->n<=100->(∀xs∈rows,xs.length=n)->pI rows n w->(∀t lp qp R ps d ls H',H' t=some (.tup [.ref lp,.ref qp])->H' qp=some (.lst (cE ps))->lK qp H' lp ls->aH H H'->SwR rows n w R ps d ls->Q (.ref t) H')->rW K vs H Q E9
inductive o5 (K:FG9) (vs:List V) (H:Hp) (Q:VK) (E9:XK):Prop
 | mk (p:Addr) (n w:Nat) (H0:Hp) (rows:LR9):vs=[.ref p,.int n]->dj K H0 H p rows->rows.length<=100->n<=100->(∀xs∈rows,xs.length=n)->pI rows n w->(∀r R ps M H',H r=none->aH H H'->dj K H H' r R->bJ rows n R ps->ps.length<=rows.length->0 < M->M<=2^(min rows.length n*(w+4))->(∀xs∈R,∀x∈xs,Tp M (2^(min rows.length n*(w+4))) x)->Q (.ref r) H')->o5 K vs H Q E9
def zM (rows:LR9) (i:Nat):Rat:=((oU ((rows.getD i []).map nm):Int):Rat)
section
variable {rows rs rs':LR9} {n P w a:Nat} {ps:List Nat}
end
theorem iS {M W:Nat} {x:Rat} (h:Tp M W x) (h0:0 < M) (h1:M<=2^3995) (h2:W<=2^3995):pS x:=by
 refine ⟨?_,?_⟩
 ·obtain ⟨s,e,b⟩:=sZ h h0 (gH x) (Int.dvd_refl _) (qr h);have e2:(((nm x).1:Int):Rat)=(s:Rat):=by rw[<- e];exact j7 x
  rw[cx.mp e2];exact bL (ag b h2) (dc (by decide) (by decide))
 ·have:=kI h0 (pO.mp (qr h));show ((x.den:Nat):Int).natAbs < _
  rw[aU];exact bL (ag this h1) (dc (by decide) (by decide))
theorem Tp.mul {M W M' W':Nat} {x y:Rat} (h:Tp M W x) (h':Tp M' W' y):Tp (M*M') (W*W') (x*y):=by
 obtain ⟨z,e,b⟩:=h;obtain ⟨z',e',b'⟩:=h';refine ⟨z*z',?_,by rw[bS];exact bp b b'⟩;rw[av,<- e,<- e',cM];grind
section
variable {X:Cx}
def Ax:V->List V->Hp->VK->Prop:=λx vs H Q=>∃(l:Addr) (bs:List Bool) (c:Bool) (j:Nat),x=.ref l/\vs=[.bl c]/\H l=some (.lst (bs.map V.bl))/\bs[j]?=some c/\(∀m,m < j->bs[m]?≠some c)/\Q (.int (j:Int)) H
theorem wy:∀{bs:List Bool} {us:List Value},b6 (bs.map V.bl) us->us=bs.map Value.bool
 | [],_,h=>by cases h;rfl
 | b :: bs,_,h=>by
  cases h with
  | cons a r =>
   cases a;rw[wy r];rfl
theorem y7:MtM X "list.index" Ax:=by
 intro pins s σ H x vs v us Q I rx rv h;obtain ⟨l,bs,c,j,rfl,rfl,hH,hj,hn,q⟩:=h;cases rx;obtain ⟨u,rfl,ru⟩:=rv.one;cases ru;obtain ⟨z,its,n,r,hl,e⟩:=I.lstM hH;obtain rfl:=wy r;have jl:j < bs.length:=(aB.mp hj).1;rw[ah] at z;have big:sizeLine < 2^62:=by decide
 refine call_meets F.slot_list_index ⟨_,e,rfl⟩ F.entry_list_index (F.args_list_index_2 _ _)
  (PySem.SeqAt.list_indexAt l (bs.map Value.bool).toArray n none #[] (.bool c) (isBoolOf c) j (by simpa using jl) (by lia) ?_ ?_) ⟨e,λy hy=>?_,?_⟩
 ·have:bs[j]=c:=(aB.mp hj).2;simp [isBoolOf,this]
 ·intro m hm hmj;have hm':m < bs.length:=by simpa using hm
  have:=hn m hmj;rw[ae hm'] at this;simp only[List.getElem_toArray,cS,isBoolOf];cases h1:bs[m] <;> cases c <;> simp_all
 ·have hy:y∈bs.map Value.bool:=by simpa using hy
  obtain ⟨b,_,rfl⟩:=aD.mp hy;exact PySem.SeqAt.EqAt.bool_bool b c
 ·exact ⟨.int j,H,I.tok _,⟨_,rfl⟩,q⟩
end
inductive qC (K:FG9) (vs:List V) (H:Hp) (Q:VK) (E9:XK):Prop
 | mk (u v:V) (x y:Rat):vs=[u,v]->bZ K H x u->bZ K H y v->pS x->pS y->y≠0->(∀r H',aH H H'->bZ K H' (x / y) (.ref r)->Q (.ref r) H')->qC K vs H Q E9
theorem uX {K:FG9} {vs:List V} {H:Hp} {Q:VK} {E:XK} (h:qC K vs H Q E):Aa K vs H Q E:=by
 obtain ⟨u,v,x,y,rfl,⟨p,rfl,hp⟩,⟨q,rfl,hq⟩,⟨s1,s2⟩,⟨s3,s4⟩,y0,k⟩:=h;have n0:(nm y).1≠0:=λz=>y0 (Rat.num_eq_zero.mp z)
 have px:=gH x;have py:=gH y;have e1:=j8 x;have e2:=j8 y;have dx:(((nm x).2:Int):Rat)≠0:=λz=>by have:=i5 z;lia
 have dy:(((nm y).2:Int):Rat)≠0:=λz=>by have:=i5 z;lia
 refine ⟨p,q,_,_,_,_,rfl,hp,hq,px,py,n0,s1,s2,s3,s4,λr H' s g=>k r H' s (bZ.mk g ?_)⟩;by_cases hc:(nm y).1 < 0
 ·rw[if_pos hc,if_pos hc];refine jh (by have:=ng px hc;lia) ?_;rw[rE,rE,av,av,e1,e2];show x / y*(((0:Int):Rat) - _)=((0:Int):Rat) - _
  grind
 ·rw[if_neg hc,if_neg hc];refine jh (i7 px (by lia)) ?_;rw[av,av,e1,e2];grind
def gdf (m:Nat) (rows:LR9):Prop:=∃M V:Nat,0 < M/\M<=2^264/\V<=2^(20+2*m)/\∀xs∈rows,∀x∈xs,Fr M V x
theorem CS {c n i:Nat} {rows:LR9} (h:vE c n i rows) (hb:i*(c*n+2)<=264):gdf i rows:=by
 obtain ⟨M,h0,h1,h2⟩:=h;exact ⟨M,_,h0,ag h1 (af (by decide) hb),aj _,h2⟩
inductive uH (K:FG9) (vs:List V) (H:Hp) (Q:VK) (E9:XK):Prop
 | mk (p:Addr) (n:Nat) (H0:Hp) (R:LR9) (ps:List Nat):vs=[.ref p]->dj K H0 H p R->R.length<=100->n<=100->(∃rows,bJ rows n R ps)->(∀r H',H r=none->aH H H'->H' r=some (.lst (cE ps))->Q (.ref r) H')->uH K vs H Q E9
theorem sE {K:FG9} {H0 H H':Hp} {q:Addr} {rows:LR9} {vs:List V} (pr:Paired (eB K H0 H) rows vs) (s:aH H H') (n:H q=none) (g:H' q=some (.lst vs)):dj K H0 H' q rows :=
 ⟨vs,g,Paired.imp' (λ_ _ z=>z.same s) pr,λz=>by
  obtain ⟨_,_,q',e,_,_,g',_⟩:=j5 pr z;cases e;rw[n] at g';cases g'⟩
theorem z7:pS 1:=iS (M:=1) (W:=1) ⟨1,by simp,by decide⟩ (by decide) cb cb
theorem bJ.le {rows R:LR9} {n:Nat} {ps:List Nat} (h:bJ rows n R ps):ps.length<=n:=by
 obtain ⟨_,_,rr⟩:=h;rcases cY n ps.length with z | z
 ·have inc:∀j,j < ps.length->j<=ps.getD j 0:=by
   intro j
   induction j with
   | zero=>intro _;exact bc _
   | succ j ih =>
    intro hj;have:=ih (by lia);have:=rr.inc j (j+1) (by lia) hj
    lia
  have h1:=inc (ps.length - 1) (by lia);have h2:=rr.low (ps.length - 1) (by lia)
  lia
 ·exact z
theorem Tp.zero {M W:Nat}:Tp M W 0:=⟨0,by simp,by simp⟩
theorem Tp.add {M W W':Nat} {x y:Rat} (h:Tp M W x) (h':Tp M W' y):Tp M (W+W') (x+y):=by
 obtain ⟨z,e,b⟩:=h;obtain ⟨z',e',b'⟩:=h';refine ⟨z+z',?_,ag (Int.natAbs_add_le _ _) (Nat.add_le_add b b')⟩;rw[zW,<- e,<- e'];grind
theorem Tp.sum {M W:Nat} {f:Nat->Rat}:∀{k:Nat},(∀j,j < k->Tp M W (f j))->Tp M (k*W) (aQ k f)
 | 0,_=>Tp.zero
 | k+1,h=>by
  have:=(Tp.sum (k:=k) λj hj=>h j (by lia)).add (h k (by lia));exact this.mono (by rw[jC];exact aj _)
theorem eN {M W:Nat} {xs:List Rat} (h:∀x∈xs,Tp M W x) (c:Nat):Tp M W (xs.getD c 0):=by
 by_cases hc:c < xs.length
 ·exact h _ (getD_in hc)
 ·rw[aa,aN (by lia)];exact Tp.zero
theorem A6 {M W:Nat} {R:LR9} (h:∀xs∈R,∀x∈xs,Tp M W x) (i c:Nat):Tp M W (bV R i c):=by
 unfold bV;by_cases hi:i < R.length
 ·exact eN (h _ (getD_in hi)) c
 ·rw[aa (l:=R),aN (by lia)];exact Tp.zero
theorem yt {rows:LR9} {n m w M:Nat} (hM:0 < M) (h1:M<=2^4300) (hw:w<=4300) (tp:∀xs∈rows,∀x∈xs,Tp M (2^w) x) (hr:min rows.length n<=m) (h15:m<=15) (h89:m*(w+4)<=8900):pI rows n w :=
 ⟨M,2^w,hM,h1,cb,aj _,tp,hw,by lia,ag (aR _ hr) h89⟩
theorem yc {K:FG9} {l:Addr} {xs:List V} {g:TG} {tf:TT} {te:TE} {Q:VK} {σ₀:St} {H:Hp} (Pv:Nat->List V->Hp->Prop) (hz:xs.length<=sizeLine) (h0:Pv 0 [] H) (hl:∀i ys H,i<=xs.length->Pv i ys H->bT K H l xs)
  (hs:∀i x ys H p,xs[i]?=some x->ys.length<=i->Pv i ys H->H p=none->nA σ₀ g tf te (.ref p) (upd H p (.tup [.int i,x])) (λy H'=>Pv (i+1) (ys++[y]) H') (λH'=>Pv (i+1) ys H'))
  (hd:∀ys H,ys.length<=xs.length->Pv xs.length ys H->∀p,H p=none->Q (.ref p) (upd H p (.lst ys))):ot (Es K l) σ₀ g tf te Q H:=by
 refine ⟨λi m ys H=>m=xs.length - i/\i<=xs.length/\ys.length<=i/\Pv i ys H,⟨xs.length,by simp,bc _,bc _,h0⟩,?_⟩;rintro i m ys H ⟨rfl,hi,hy,p⟩;have q1:=hl i ys H hi p;by_cases hlt:i < xs.length
 ·refine .inr ⟨⟨xs,xs[i],q1,by simp [hlt]⟩,by lia,λy H'=>Pv (i+1) (ys++[y]) H',λH'=>Pv (i+1) ys H',λy H' p'=>⟨xs.length - (i+1),by lia,rfl,hlt,by rw[au,bO];lia,p'⟩,λH' p'=>⟨xs.length - (i+1),by lia,rfl,hlt,by lia,p'⟩,λx H' y=>?_⟩;obtain ⟨r,x',rfl,hr,rfl,e1⟩:=y;exact hs i x' ys _ r (e1 xs q1) hy p hr
 ·have e:i=xs.length:=by lia
  subst e;exact .inl ⟨⟨xs,q1,aj _⟩,by lia,hd ys H hy p⟩
section
variable {X:Cx}
theorem ye (hc:X.calm=true):pK X (.builtin "min") (λxs H Q=>∃(p:Addr) (ns:List Int),xs=[.ref p]/\bT X.K H p (ns.map V.int)/\0 < ns.length/\∀M,M∈ns->(∀a,a∈ns->M<=a)->Q (.int M) H):=by
 intro pins s σ H xs us Q I r h;obtain ⟨p,ns,rfl,hp,hne,q⟩:=h;obtain ⟨u,rfl,ru⟩:=vals1 r;cases ru;obtain ⟨its,r2,pl,_⟩:=I.list hp;have hi:=intsAre_of r2;have hl:=pl.isList;obtain ⟨xs,e⟩:=hi.allInts.items
 have hns:ns=xs.toList.map (·.1):=by
  rw[<- hi.numsOf,<- nums_intItems,<- e]
 have hsz:0 < xs.size:=by
  have h3:=hne;rw[hns,ah,Array.length_toList] at h3;exact h3
 rw[e] at hl;refine min_intList (I.ok.hd hc) hl hsz λv h' tk hv hk=>?_
 obtain ⟨t,rfl⟩:=intItems_at hv;obtain ⟨h1,h2⟩:=argBest_lt (numAt xs) (xs.size - 1);refine ⟨.int _,H,I.kept hk,⟨_,rfl⟩,q _ ?_ λa ha=>?_⟩
 ·rw[hns,numAt_eq];exact getD_in (by rw[ah,Array.length_toList];lia)
 ·rw[hns] at ha;obtain ⟨j,hj,rfl⟩:=mem_getD ha;rw[ah,Array.length_toList] at hj;rw[<- numAt_eq];exact h2 j (by lia)
theorem rN (K:FG9) (hK:X.K=K):oY X (compareOp .NotIn) (EB K true):=by subst hK;exact tP
end
theorem vp {j:Nat} {ps:List Nat}:En (.int (j:Int)) (cE ps)=decide (j∈ps):=by
 unfold En cE;rw[List.any_map,iJ,List.any_eq_true,decide_eq_true_iff];constructor
 ·rintro ⟨x,hx,e⟩;have e:((x:Int) == (j:Int))=true:=e;have:(x:Int)=j:=by simpa using e
  have:x=j:=by lia
  rw[<- this];exact hx
 ·intro h;exact ⟨j,h,by show ((j:Int) == (j:Int))=true;simp⟩
theorem sA {ps:List Nat}:(cE ps).all nU=true:=by
 unfold cE;rw[List.all_map];exact ia.mpr λ_ _=>rfl
theorem nJ {ps:List Nat}:(cE ps).length=ps.length:=ah ..
def xh (ps:List Nat):List Int:=ps.map λ(j:Nat)=>(j:Int)
theorem xY {ps:List Nat}:cE ps=(xh ps).map V.int:=by unfold cE xh;rw[List.map_map];rfl
theorem tV {ps:List Nat} {i:Nat} {v:V} (h:(cE ps)[i]?=some v):∃j,ps[i]?=some j/\v=V.int (j:Int):=by
 unfold cE at h;rw[aw] at h;cases e:ps[i]? with
 | none=>rw[e] at h;cases h
 | some x=>rw[e] at h;exact ⟨x,rfl,(bh h).symm⟩
def yj (xs:List Rat) (i:Nat):List Nat:=(List.range i).filter λc=>decide (xs.getD c 0≠0)
theorem wX {xs:List Rat} {i:Nat}:yj xs (i+1)=if xs.getD i 0≠0 then yj xs i++[i] else yj xs i:=by
 unfold yj;rw[zX,List.filter_append];by_cases h:xs.getD i 0≠0
 ·rw[if_pos h,Eh (by simpa using h)];rfl
 ·rw[if_neg h,Ei (by simpa using h)];simp
def kQ (ps:List Nat) (i:Nat):List Nat:=(List.range i).filter λc=>decide (c∉ps)
theorem qY {ps:List Nat} {i:Nat}:kQ ps (i+1)=if i∉ps then kQ ps i++[i] else kQ ps i:=by
 unfold kQ;rw[zX,List.filter_append];by_cases h:i∉ps
 ·rw[if_pos h,Eh (by simpa using h)];rfl
 ·rw[if_neg h,Ei (by simpa using h)];simp
theorem zu {ps:List Nat} {i:Nat}:(kQ ps i).length<=i:=by
 unfold kQ;exact ag (List.length_filter_le ..) (by rw[dk];exact aj _)
inductive uG (K:FG9) (vs:List V) (H:Hp) (Q:VK) (E9:XK):Prop
 | mk (p:Addr) (xs:List Rat) (j:Nat):vs=[.ref p]->cK K H p xs->xs.length<=1000->j < xs.length->xs.getD j 0≠0->(∀c,c < j->xs.getD c 0=0)->(∀H',aH H H'->Q (.int (j:Int)) H')->uG K vs H Q E9
inductive uJ (K:FG9) (vs:List V) (H:Hp) (Q:VK) (E9:XK):Prop
 | mk (p:Addr) (n:Nat) (H0:Hp) (R:LR9) (ps:List Nat):vs=[.ref p,.int n]->dj K H0 H p R->R.length<=100->n<=100->(∃rows,bJ rows n R ps)->(∀r H',H r=none->aH H H'->H' r=some (.lst (cE (kQ ps n)))->Q (.ref r) H')->uJ K vs H Q E9
def wZ (R:LR9) (ps:List Nat) (n at_ j:Nat):List Rat:=(List.range n).map λc=>if c=at_ then 1 else aQ j λi=>if ps.getD i 0=c then -(bV R i at_) else 0
def vG (R:LR9) (ps:List Nat) (n at_:Nat):List Rat:=wZ R ps n at_ ps.length
def bw (R:LR9) (ps:List Nat) (n:Nat):LR9:=(kQ ps n).map (vG R ps n)
section
variable {R rows:LR9} {ps:List Nat} {n a j:Nat}
theorem iZ:(wZ R ps n a j).length=n:=by unfold wZ;rw[ah,dk]
theorem yW {c:Nat} (h:c < n):(wZ R ps n a j).getD c 0=if c=a then 1 else aQ j λi=>if ps.getD i 0=c then -(bV R i a) else 0:=by
 unfold wZ;rw[aa,aw,dA h];rfl
theorem AH:wZ R ps n a 0=BK n a:=by
 unfold wZ BK;refine List.map_congr_left λc _=>?_
 by_cases e:c=a
 ·subst e;simp
 ·rw[if_neg e];show (0:Rat)=_
  have:¬(c:Int)=(a:Int):=by lia
  simp [this]
theorem AI (RR:bJ rows n R ps) (hj:j < ps.length) (ha:a∉ps):(wZ R ps n a j).set (ps.getD j 0) (-(bV R j a))=wZ R ps n a (j+1):=by
 obtain ⟨_,_,rr⟩:=RR;have low:=rr.low j hj;have pm:ps.getD j 0∈ps:=getD_in hj;apply cm (by rw[cN,iZ,iZ]);intro c h1 h2;rw[iZ] at h2;have e1:(wZ R ps n a j)[c]'(by rw[iZ];exact h2)=if c=a then 1 else aQ j λi=>if ps.getD i 0=c then -(bV R i a) else 0:=by simp only[wZ,cS,mT]
 have e2:(wZ R ps n a (j+1))[c]'(by rw[iZ];exact h2)=if c=a then 1 else aQ (j+1) λi=>if ps.getD i 0=c then -(bV R i a) else 0:=by simp only[wZ,cS,mT]
 rw[List.getElem_set,e2];have es:aQ (j+1) (λi=>if ps.getD i 0=c then -(bV R i a) else 0)=aQ j (λi=>if ps.getD i 0=c then -(bV R i a) else 0)+if ps.getD j 0=c then -(bV R j a) else 0:=rfl
 by_cases q:ps.getD j 0=c
 ·rw[if_pos q,if_neg (λz=>ha (by rw[<- z,<- q];exact pm)),es,if_pos q,bK λi hi=>?_,xy];rw[if_neg];intro z;have:=rr.inc i j hi hj
  lia
 ·rw[if_neg q,e1];by_cases z:c=a
  ·rw[if_pos z,if_pos z]
  ·rw[if_neg z,if_neg z,es,if_neg q,xA]
theorem wY {c:Nat} (hc:c < n) (hp:c∉ps):(vG R ps n a).getD c 0=if c=a then 1 else 0:=by
 unfold vG;rw[yW hc];by_cases e:c=a
 ·rw[if_pos e,if_pos e]
 ·rw[if_neg e,if_neg e,bK λi hi=>?_];rw[if_neg (λz=>hp (by rw[<- z];exact getD_in hi))]
theorem cV:∀{xs ys:List Rat},xs.length=ys.length->dB xs ys=aQ xs.length λc=>xs.getD c 0*ys.getD c 0:=by
 intro xs ys h
 have key:∀k,k<=xs.length->dB (xs.take k) (ys.take k)=aQ k λc=>xs.getD c 0*ys.getD c 0:=by
  intro k
  induction k with
  | zero=>intro _;rfl
  | succ k ih =>
   intro hk;rw[sG (by lia) (by lia),ih (by lia)];rfl
 have:=key xs.length (aj _);rwa [aJ (aj _),aJ (by lia)] at this
theorem yV (RR:bJ rows n R ps) (ha:a < n) (hp:a∉ps) {i:Nat} {row:List Rat} (hr:rows[i]?=some row) (hw:row.length=n):dB row (vG R ps n a)=0:=by
 obtain ⟨_,_,rr⟩:=RR;have hi:=(aB.mp hr).1;have ef:∀c,bV rows i c=row.getD c 0:=λc=>by unfold bV;rw[aa (l:=rows),hr];rfl
 have co:=rr.coef (rr.span i hi) a;rw[ef] at co;rw[cV (by unfold vG;rw[iZ,hw]),hw]
 have e1:aQ n (λc=>row.getD c 0*(vG R ps n a).getD c 0)=aQ n (λc=>(if c=a then row.getD a 0 else 0)+aQ ps.length λj=>if ps.getD j 0=c then row.getD (ps.getD j 0) 0*-(bV R j a) else 0):=by
  refine aC λc hc=>?_
  unfold vG;rw[yW hc];by_cases e:c=a
  ·rw[if_pos e,if_pos e,e,bK λj hj=>?_]
   ·grind
   ·rw[if_neg (λz=>hp (by rw[<- z];exact getD_in hj))]
  ·rw[if_neg e,if_neg e,<- bU,xy];refine aC λj _=>?_
   split
   ·rename_i q;rw[q]
   ·grind
 rw[e1,ig,cy (i:=a) ha (λj _ ne=>if_neg ne),if_pos rfl,<- eO]
 have e2:aQ ps.length (λj=>aQ n λc=>if ps.getD j 0=c then row.getD (ps.getD j 0) 0*-(bV R j a) else 0)=aQ ps.length λj=>-1*(bV rows i (ps.getD j 0)*bV R j a):=by
  refine aC λj hj=>?_
  rw[cy (i:=ps.getD j 0) (rr.low j hj) λc _ ne=>if_neg λz=>ne z.symm,if_pos rfl,ef];grind
 rw[e2,bU,co];grind
theorem DV {M W:Nat} (h0:0 < M) (hW:M<=W) (tp:∀xs∈R,∀x∈xs,Tp M W x) (RR:bJ rows n R ps):∀x∈vG R ps n a,Tp M W x:=λx hx=>by
 obtain ⟨_,_,rr⟩:=RR;obtain ⟨c,hc,rfl⟩:=aD.mp hx
 split
 ·exact ⟨M,by rw[ou,aq],by simpa using hW⟩
 ·by_cases hp:∃j,j < ps.length/\ps.getD j 0=c
  ·obtain ⟨j,hj,e⟩:=hp;rw[cy hj λi hi ne=>if_neg λz=>?_,if_pos e]
   ·obtain ⟨z,ez,b⟩:=A6 tp j a;exact ⟨-z,by rw[bH,<- ez];grind,by rw[e8];exact b⟩
   ·rcases eG i j with q | q | q
    ·have:=rr.inc i j q hj;lia
    ·exact ne q
    ·have:=rr.inc j i q hi;lia
  ·rw[bK λj hj=>if_neg λz=>hp ⟨j,hj,z⟩];exact Tp.zero
theorem nR {c:Nat}:c∈kQ ps n↔c < n/\c∉ps:=by
 unfold kQ;rw[kT,sW,decide_eq_true_iff]
end
inductive rY (K:FG9) (vs:List V) (H:Hp) (Q:VK) (E9:XK):Prop
 | mk (p:Addr) (n a:Nat) (H0:Hp) (R:LR9) (ps:List Nat):vs=[.ref p,.int n,.int a]->dj K H0 H p R->R.length<=100->n<=100->(∃rows,bJ rows n R ps)->a < n->a∉ps->(∀xs∈R,∀x∈xs,pS x)->(∀r H',H r=none->aH H H'->cK K H' r (vG R ps n a)->Q (.ref r) H')->rY K vs H Q E9
inductive rX (K:FG9) (vs:List V) (H:Hp) (Q:VK) (E9:XK):Prop
 | mk (p:Addr) (n w:Nat) (H0:Hp) (rows:LR9):vs=[.ref p,.int n]->dj K H0 H p rows->rows.length<=100->n<=100->(∀xs∈rows,xs.length=n)->pI rows n w->min rows.length n*(w+4)<=3990->(∀r R ps M H',H r=none->aH H H'->dj K H H' r (bw R ps n)->bJ rows n R ps->ps.length<=rows.length->0 < M->M<=2^(min rows.length n*(w+4))->(∀xs∈bw R ps n,∀x∈xs,Tp M (2^(min rows.length n*(w+4))) x)->Q (.ref r) H')->rX K vs H Q E9
theorem yr:pS 0:=iS (M:=1) (W:=1) Tp.zero (by decide) cb cb
theorem oN {R:LR9} {ps:List Nat} {n:Nat} {xs:List Rat} (h:xs∈bw R ps n):∃a,a < n/\a∉ps/\xs=vG R ps n a:=by
 obtain ⟨a,ha,rfl⟩:=aD.mp h;obtain ⟨h1,h2⟩:=nR.mp ha;exact ⟨a,h1,h2,rfl⟩
def sU (i:Nat) (rows:LR9):Prop:=∃M,0 < M/\2520∣M/\M<=2520*3^i/\GF M (2^(4+2*i)) rows
theorem AW {q:Rat} (h:q.den<=9):q.den∣2520:=by
 have:=q.den_pos;generalize q.den=d at h this;have:d=1\/d=2\/d=3\/d=4\/d=5\/d=6\/d=7\/d=8\/d=9:=by lia
 rcases this with rfl | rfl | rfl | rfl | rfl | rfl | rfl | rfl | rfl <;> decide
theorem zD {q:Rat} {M:Nat} (h:Dr 9 q) (hM:2520∣M):Fr M 9 q:=(Fr.own q h.1).dvd (Df (AW h.2) hM)
theorem AS:sU 0 []:=⟨2520,by decide,Nat.dvd_refl _,by decide,λ_ h=>nomatch h⟩
theorem tL {i:Nat} {a:Nat} (h:a<=4*2^(4+2*i)):a<=2^(4+2*(i+1)):=by
 have:2^(4+2*(i+1))=4*2^(4+2*i):=by rw[show 4+2*(i+1)=(4+2*i)+2 by lia,bx];lia
 lia
theorem zj {i:Nat} {rows:LR9} {xs:List Rat} (h:sU i rows) (hd:∀x∈xs,Dr 9 x):sU (i+1) (rows++[xs]):=by
 obtain ⟨M,h0,h1,h2,h3⟩:=h;have p:=af (show 0 < 2 by decide) (show 4<=4+2*i by lia);refine ⟨M,h0,h1,ag h2 (e7 _ (af (by decide) (by lia))),λys hy x hx=>?_⟩;rcases aK.mp hy with hy | hy
 ·exact (h3 ys hy x hx).mono (tL (by lia))
 ·rw[cg.mp hy] at hx;exact (zD (hd x hx) h1).mono (tL (by lia))
theorem AR {i:Nat} {rows:LR9} {one other:List Rat} {q:Rat} {z:Int} (h:sU i rows) (ho:one∈rows) (ht:other∈rows) (hq:q*3=(z:Rat)) (hz:z.natAbs<=6):sU (i+1) (rows++[List.zipWith (λx y=>x+y) one (other.map λy=>q*y)]):=by
 obtain ⟨M,h0,h1,h2,h3⟩:=h;have fq:Fr 3 2 q:=⟨z,hq,by lia⟩;refine ⟨3*M,by lia,Df h1 (Nat.dvd_mul_left _ _),by rw[mH];lia,λys hy x hx=>?_⟩;rcases aK.mp hy with hy | hy
 ·exact ((h3 ys hy x hx).scaleL 3).mono (tL (by lia))
 ·rw[cg.mp hy] at hx;obtain ⟨j,hj,e⟩:=aL hx;rw[gs,cS] at e;rw[<- e];have f1:=(h3 one ho _ (aA (l:=one) (n:=j) (by simp at hj;lia))).scaleL 3;have f2:=fq.mul (h3 other ht _ (aA (l:=other) (n:=j) (by simp at hj;lia)));exact (f1.add f2).mono (tL (i:=i) (by lia))
def GJ (c n w i:Nat) (rows:LR9):Prop:=vE c n i rows/\(w<=9->sU i rows)
theorem CO {c n w:Nat}:GJ c n w 0 []:=⟨CQ,λ_=>AS⟩
theorem AM {c n w i:Nat} {rows:LR9} {xs:List Rat} (h:GJ c n w i rows) (hl:xs.length=n) (hd:∀x∈xs,Dr (max w 6) x) (hw:max w 6<=2^c) (hc:c<=20):GJ c n w (i+1) (rows++[xs]) :=
 ⟨AQ h.1 hl (λx hx=>⟨ag (hd x hx).1 hw,ag (hd x hx).2 hw⟩) hc,λh9=>zj (h.2 h9) λx hx=>⟨ag (hd x hx).1 (by lia),ag (hd x hx).2 (by lia)⟩⟩
theorem CN {c n w i:Nat} {rows:LR9} {one other:List Rat} {q:Rat} {z:Int} (h:GJ c n w i rows) (ho:one∈rows) (ht:other∈rows) (hq:q*3=(z:Rat)) (hz:z.natAbs<=6):GJ c n w (i+1) (rows++[List.zipWith (λx y=>x+y) one (other.map λy=>q*y)]) :=
 ⟨CP h.1 ho ht hq hz,λh9=>AR (h.2 h9) ho ht hq hz⟩
def gdg (m n:Nat) (rows:LR9):Prop:=∃M V:Nat,0 < M/\(∀xs∈rows,∀x∈xs,Fr M V x)/\((M<=2^(12+2*m)/\V<=2^(4+2*m))\/(m*n<=12/\M<=2^264/\V<=2^(20+2*m)))
theorem AN {c n w m : Nat} {rows : LR9} (h : GJ c n w m rows) (w9 : 12 < m * n → w ≤ 9) (hb : m * (c * n + 2) ≤ 264) : gdg m n rows := by
  by_cases z : 12 < m * n
  · obtain ⟨M, h0, h1, h2, h3⟩ := h.2 (w9 z);refine ⟨M, _, h0, h3, .inl ⟨ag h2 ?_, aj _⟩⟩
    calc 2520 * 3 ^ m ≤ 2 ^ 12 * 4 ^ m := bp (by decide) (Nat.pow_le_pow_left (by decide) _)
      _ = 2 ^ (12 + 2 * m) := by rw [bx, Nat.pow_mul]
  · obtain ⟨M, V, h0, h1, h2, h3⟩ := CS h.1 hb;exact ⟨M, V, h0, h3, .inr ⟨by lia, h1, h2⟩⟩
inductive uI (K:FG9) (vs:List V) (H:Hp) (Q:VK) (E9:XK):Prop
 | mk (b:Addr) (m n:Nat):vs=[.ref b,.int m,.int n]->kH H b->m<=12->n<=12->m*n<=60->(∀r rows H',H r=none->dj K H H' r rows->rows.length=m->(∀xs∈rows,xs.length=n)->gdg m n rows->kH H' b->cA b H H'->Q (.ref r) H')->uI K vs H Q E9
def bD (rows:LR9) (due:List Rat):LR9:=List.zipWith (λrow d=>row++[d]) rows due
def nE (R:LR9) (ps:List Nat) (n j:Nat):List Rat:=(List.range n).map λc=>aQ j λi=>if ps.getD i 0=c then bV R i n else 0
def cI (R:LR9) (ps:List Nat) (n:Nat):List Rat:=nE R ps n ps.length
section
variable {rows R:LR9} {due xs:List Rat} {ps:List Nat} {n j:Nat}
theorem kd (h:due.length=rows.length):(bD rows due).length=rows.length:=by unfold bD;rw[dv];lia
theorem nP (h:∀xs∈rows,xs.length=n):∀xs∈bD rows due,xs.length=n+1:=λxs hx=>by
 unfold bD at hx;obtain ⟨i,hi,rfl⟩:=aL hx;rw[gs,au,h _ (aA _)];rfl
theorem Bu {i:Nat} {row:List Rat} {d:Rat} (h1:rows[i]?=some row) (h2:due[i]?=some d):(bD rows due)[i]?=some (row++[d]):=by
 unfold bD;rw[jT,h1,h2]
theorem pB (hd:due.length=rows.length) (hw:∀xs∈rows,xs.length=n) {i:Nat} (hi:i < rows.length):(∀c,c < n->bV (bD rows due) i c=bV rows i c)/\bV (bD rows due) i n=due.getD i 0:=by
 have e1:=ae hi;have e2:=ae (show i < due.length by lia);have ej:=Bu e1 e2;have wi:=hw _ (aA hi);refine ⟨λc hc=>?_,?_⟩
 ·unfold bV;rw[aa (l:=bD rows due),ej,aa (l:=rows),e1];show (rows[i]++[due[i]]).getD c 0=(rows[i]).getD c 0
  rw[aa,aa,aW (by lia)]
 ·unfold bV;rw[aa (l:=bD rows due),ej,aa (l:=due),e2];show (rows[i]++[due[i]]).getD n 0=due[i]
  rw[aa,aO (by lia),wi,h7];rfl
theorem d9:(nE R ps n j).length=n:=by unfold nE;rw[ah,dk]
theorem yB {c:Nat} (h:c < n):(nE R ps n j).getD c 0=aQ j λi=>if ps.getD i 0=c then bV R i n else 0:=by
 unfold nE;rw[aa,aw,dA h];rfl
theorem Ac:nE R ps n 0=List.replicate n 0:=by
 unfold nE;show (List.range n).map (λ_=>(0:Rat))=_
 rw[List.map_const',dk]
theorem Ad {J:LR9} (RR:bJ J (n+1) R ps) (hj:j < ps.length):(nE R ps n j).set (ps.getD j 0) (bV R j n)=nE R ps n (j+1):=by
 obtain ⟨_,_,rr⟩:=RR;apply cm (by rw[cN,d9,d9]);intro c h1 h2;rw[d9] at h2;have e1:(nE R ps n j)[c]'(by rw[d9];exact h2)=aQ j λi=>if ps.getD i 0=c then bV R i n else 0:=by simp only[nE,cS,mT]
 have e2:(nE R ps n (j+1))[c]'(by rw[d9];exact h2)=aQ j (λi=>if ps.getD i 0=c then bV R i n else 0)+if ps.getD j 0=c then bV R j n else 0:=by simp only[nE,cS,mT];rfl
 rw[List.getElem_set,e2];by_cases q:ps.getD j 0=c
 ·rw[if_pos q,if_pos q,bK λi hi=>?_,xy];rw[if_neg];intro z;have:=rr.inc i j hi hj
  lia
 ·rw[if_neg q,if_neg q,e1,xA]
theorem Ae {c:Nat} (hp:c∉ps):(cI R ps n).getD c 0=0:=by
 by_cases hc:c < n
 ·unfold cI;rw[yB hc,bK λi hi=>?_];rw[if_neg (λz=>hp (by rw[<- z];exact getD_in hi))]
 ·rw[aa,aN (by unfold cI;rw[d9];lia)];rfl
theorem oE (hd:due.length=rows.length) (hw:∀xs∈rows,xs.length=n) (RR:bJ (bD rows due) (n+1) R ps) (hn:n∉ps) {i:Nat} {row:List Rat} (hr:rows[i]?=some row):dB row (cI R ps n)=due.getD i 0:=by
 obtain ⟨_,_,rr⟩:=RR;have hi:=(aB.mp hr).1;have wr:=hw row (ax hr);have ef:∀c,bV rows i c=row.getD c 0:=λc=>by unfold bV;rw[aa (l:=rows),hr];rfl
 obtain ⟨f1,f2⟩:=pB hd hw hi
 have low:∀j,j < ps.length->ps.getD j 0 < n:=λj hj=>by
  have:=rr.low j hj;have:ps.getD j 0≠n:=λz=>hn (by rw[<- z];exact getD_in hj)
  lia
 have co:=rr.coef (rr.span i (by rw[kd hd];exact hi)) n;rw[f2] at co;rw[co,cV (by unfold cI;rw[d9,wr]),wr]
 have e1:aQ n (λc=>row.getD c 0*(cI R ps n).getD c 0)=aQ n (λc=>aQ ps.length λj=>if ps.getD j 0=c then row.getD (ps.getD j 0) 0*bV R j n else 0):=by
  refine aC λc hc=>?_
  unfold cI;rw[yB hc,<- bU];refine aC λj _=>?_
  split
  ·rename_i q;rw[q]
  ·grind
 rw[e1,<- eO];refine aC λj hj=>?_
 rw[cy (i:=ps.getD j 0) (low j hj) λc _ ne=>if_neg λz=>ne z.symm,if_pos rfl,f1 _ (low j hj),ef]
theorem uM (hd:due.length=rows.length) (hw:∀xs∈rows,xs.length=n) (RR:bJ (bD rows due) (n+1) R ps) (hn:n∈ps):∃w:Nat->Rat,(∀c,c < n->aQ rows.length (λi=>w i*bV rows i c)=0)/\aQ rows.length (λi=>w i*due.getD i 0)=1:=by
 obtain ⟨_,_,rr⟩:=RR;obtain ⟨j,hj,ej⟩:=aL hn;have ejD:ps.getD j 0=n:=by rw[aa,ae hj];exact ej
 obtain ⟨w,hw'⟩:=rr.back j hj;rw[kd hd] at hw';refine ⟨w,λc hc=>?_,?_⟩
 ·have z:=rr.lead j hj c (by rw[ejD];exact hc);rw[hw' c] at z;rw[<- z];exact aC λi hi=>by rw[(pB hd hw hi).1 c hc]
 ·have u:=rr.unit j hj j hj;rw[if_pos rfl,ejD,hw' n] at u;rw[<- u];exact aC λi hi=>by rw[(pB hd hw hi).2]
theorem BU (hd:due.length=rows.length) (hw:∀xs∈rows,xs.length=n) (RR:bJ (bD rows due) (n+1) R ps) {x:Nat->Rat} (hx:∀i,i < rows.length->aQ n (λc=>bV rows i c*x c)=due.getD i 0):n∉ps:=λhn=>by
 obtain ⟨w,h1,h2⟩:=uM hd hw RR hn
 have e1:aQ rows.length (λi=>w i*due.getD i 0)=aQ rows.length (λi=>aQ n λc=>x c*(w i*bV rows i c)):=aC λi hi=>by
  rw[<- hx i hi,<- bU];exact aC λc _=>by grind
 have e2:aQ n (λc=>aQ rows.length λi=>x c*(w i*bV rows i c))=0:=bK λc hc=>by
  rw[bU,h1 c hc];grind
 rw[e1,eO,e2] at h2;exact absurd h2 (by decide)
theorem Dz {M W:Nat} (h0:0 < M) (tp:∀xs∈R,∀x∈xs,Tp M W x) {J:LR9} (RR:bJ J (n+1) R ps):∀x∈cI R ps n,Tp M W x:=λx hx=>by
 obtain ⟨_,_,rr⟩:=RR;obtain ⟨c,hc,rfl⟩:=aD.mp hx;by_cases hp:∃j,j < ps.length/\ps.getD j 0=c
 ·obtain ⟨j,hj,e⟩:=hp;rw[cy hj λi hi ne=>if_neg λz=>?_,if_pos e]
  ·exact A6 tp j n
  ·rcases eG i j with q | q | q
   ·have:=rr.inc i j q hj;lia
   ·exact ne q
   ·have:=rr.inc j i q hi;lia
 ·rw[bK λj hj=>if_neg λz=>hp ⟨j,hj,z⟩];exact Tp.zero
end
inductive qB (K:FG9) (vs:List V) (H:Hp) (Q:VK) (E9:XK):Prop
 | mk (p q:Addr) (n w:Nat) (H0:Hp) (rows:LR9) (due:List Rat):vs=[.ref p,.int n,.ref q]->dj K H0 H p rows->cK K H q due->due.length=rows.length->rows.length<=99->n<=99->(∀xs∈rows,xs.length=n)->pI (bD rows due) (n+1) w->((∀x R ps M H',bJ (bD rows due) (n+1) R ps->n∉ps->H x=none->aH H H'->cK K H' x (cI R ps n)->0 < M->M<=2^(min rows.length (n+1)*(w+4))->(∀y∈cI R ps n,Tp M (2^(min rows.length (n+1)*(w+4))) y)->Q (.ref x) H')/\(∀R ps H',bJ (bD rows due) (n+1) R ps->n∈ps->aH H H'->Q .non H'))->qB K vs H Q E9
def qA (rows:LR9) (n:Nat) (due:List Rat):LR9:=bD (bC rows n++[due]) (List.replicate n 0++[1])
inductive oC (K:FG9) (vs:List V) (H:Hp) (Q:VK) (E9:XK):Prop
 | mk (p q:Addr) (n w w':Nat) (H0:Hp) (rows:LR9) (due:List Rat):vs=[.ref p,.int n,.ref q]->dj K H0 H p rows->cK K H q due->due.length=rows.length->rows.length<=90->n<=90->(∀xs∈rows,xs.length=n)->pI (bD rows due) (n+1) w->pI (qA rows n due) (rows.length+1) w'->((∀t x R ps M H',bJ (bD rows due) (n+1) R ps->n∉ps->H' t=some (.tup [.str (Str.ofString "yes"),.ref x])->H x=none->aH H H'->cK K H' x (cI R ps n)->0 < M->M<=2^(min rows.length (n+1)*(w+4))->(∀y∈cI R ps n,Tp M (2^(min rows.length (n+1)*(w+4))) y)->Q (.ref t) H')/\(∀t x R ps R' ps' M H',bJ (bD rows due) (n+1) R ps->n∈ps->bJ (qA rows n due) (rows.length+1) R' ps'->rows.length∉ps'->H' t=some (.tup [.str (Str.ofString "no"),.ref x])->H x=none->aH H H'->cK K H' x (cI R' ps' rows.length)->0 < M->M<=2^(min (n+1) (rows.length+1)*(w'+4))->(∀y∈cI R' ps' rows.length,Tp M (2^(min (n+1) (rows.length+1)*(w'+4))) y)->Q (.ref t) H'))->oC K vs H Q E9
theorem xQ {rows R R':LR9} {due:List Rat} {ps ps':List Nat} {n:Nat} (hd:due.length=rows.length) (hw:∀xs∈rows,xs.length=n) (RR:bJ (bD rows due) (n+1) R ps) (hn:n∈ps) (RR':bJ (qA rows n due) (rows.length+1) R' ps'):rows.length∉ps':=by
 obtain ⟨w,h1,h2⟩:=uM hd hw RR hn;have l1:(bC rows n++[due]).length=n+1:=by rw[au,bY];rfl
 have w1:∀xs∈bC rows n++[due],xs.length=rows.length:=λxs hx=>by
  rcases aK.mp hx with hx | hx
  ·exact eM xs hx
  ·rw[cg.mp hx];exact hd
 refine BU (x:=w) (by rw[l1,au,az];rfl) w1 RR' λi hi=>?_
 rw[l1] at hi;by_cases e:i < n
 ·have e1:∀c,bV (bC rows n++[due]) i c=bV rows c i:=λc=>by
   unfold bV;rw[aa (l:=bC rows n++[due]),aW (by rw[bY];exact e)];unfold bC;rw[aw,dA e];show (rows.map λxs=>xs.getD i 0).getD c 0=_
   rw[aa,aw,aa (l:=rows)];cases rows[c]? with
   | none=>rfl
   | some y=>rfl
  have e2:(List.replicate n (0:Rat)++[1]).getD i 0=0:=by
   rw[aa,aW (by rw[az];exact e),dm,if_pos e];rfl
  rw[e2,<- h1 i e];exact aC λc _=>by rw[e1];grind
 ·have ei:i=n:=by lia
  subst ei
  have e1:∀c,bV (bC rows i++[due]) i c=due.getD c 0:=λc=>by
   unfold bV;rw[aa (l:=bC rows i++[due]),aO (by rw[bY];exact aj _),bY,h7];rfl
  have e2:(List.replicate i (0:Rat)++[1]).getD i 0=1:=by
   rw[aa,aO (by rw[az];exact aj _),az,h7];rfl
  rw[e2,<- h2];exact aC λc _=>by rw[e1];grind
theorem y8 {n:Nat}:((List.range n).map λ_=>(0:Rat))=List.replicate n 0:=by rw[List.map_const',dk]
def BR (K:FG9):Sp:=λvs H Q _=>∃m:Nat,vs=[.int m]/\m<=100/\∀r H',H r=none->aH H H'->cK K H' r (List.replicate m 0)->Q (.ref r) H'
inductive kU (K:FG9) (vs:List V) (H:Hp) (Q:VK) (E9:XK):Prop
 | mk (p q:Addr) (n w w':Nat) (H0:Hp) (rows:LR9) (row:List Rat):vs=[.ref p,.int n,.ref q]->dj K H0 H p rows->cK K H q row->row.length=n->rows.length<=90->n<=90->(∀xs∈rows,xs.length=n)->pI (bD (bC rows n) row) (rows.length+1) w->pI (bD (rows++[row]) (List.replicate rows.length 0++[1])) (n+1) w'->((∀t x R ps M H',bJ (bD (bC rows n) row) (rows.length+1) R ps->rows.length∉ps->H' t=some (.tup [.str (Str.ofString "in"),.ref x])->H x=none->aH H H'->cK K H' x (cI R ps rows.length)->0 < M->M<=2^(min n (rows.length+1)*(w+4))->(∀y∈cI R ps rows.length,Tp M (2^(min n (rows.length+1)*(w+4))) y)->Q (.ref t) H')/\(∀t x R ps R' ps' M H',bJ (bD (bC rows n) row) (rows.length+1) R ps->rows.length∈ps->bJ (bD (rows++[row]) (List.replicate rows.length 0++[1])) (n+1) R' ps'->n∉ps'->H' t=some (.tup [.str (Str.ofString "out"),.ref x])->H x=none->aH H H'->cK K H' x (cI R' ps' n)->0 < M->M<=2^(min (rows.length+1) (n+1)*(w'+4))->(∀y∈cI R' ps' n,Tp M (2^(min (rows.length+1) (n+1)*(w'+4))) y)->Q (.ref t) H'))->kU K vs H Q E9
def Ej (rows:LR9) (ws:List Rat) (n j:Nat):List Rat:=(List.range n).map λc=>aQ j λi=>ws.getD i 0*bV rows i c
def rJ (rows:LR9) (ws:List Rat) (n:Nat):List Rat:=Ej rows ws n ws.length
section
variable {rows:LR9} {ws xs row:List Rat} {n j:Nat}
theorem sX:(Ej rows ws n j).length=n:=by unfold Ej;rw[ah,dk]
theorem pT {c:Nat} (hc:c < n):(rJ rows ws n).getD c 0=aQ ws.length λi=>ws.getD i 0*bV rows i c:=by
 unfold rJ Ej;rw[aa,aw,dA hc];rfl
theorem lI (h:xs.length=ws.length):dB xs ws=dB ws xs:=by
 rw[cV h,cV h.symm,h];exact aC λc _=>eF ..
theorem qq {c:Nat} (hc:c < n):(bC rows n)[c]?=some (rows.map λxs=>xs.getD c 0):=by
 unfold bC;rw[aw,dA hc];rfl
theorem y9 {c i:Nat}:(rows.map λxs=>xs.getD c 0).getD i 0=bV rows i c:=by
 unfold bV;rw[aa,aw,aa (l:=rows)];cases rows[i]? with
 | none=>rfl
 | some y=>rfl
theorem xF {R:LR9} {ps:List Nat} (hl:row.length=n) (RR:bJ (bD (bC rows n) row) (rows.length+1) R ps) (hn:rows.length∉ps):rJ rows (cI R ps rows.length) n=row:=by
 have ls:(cI R ps rows.length).length=rows.length:=d9;apply cm (by unfold rJ;rw[sX,hl]);intro c h1 h2;have hc:c < n:=by lia
 have d:=oE (rows:=bC rows n) (by rw[bY,hl]) (λxs hx=>eM xs hx) RR hn (qq hc);have e:=pT (rows:=rows) (ws:=cI R ps rows.length) hc;have e1:(rJ rows (cI R ps rows.length) n).getD c 0=(rJ rows (cI R ps rows.length) n)[c]:=by rw[aa,ae h1];rfl
 have e2:row.getD c 0=row[c]:=by rw[aa,ae h2];rfl
 rw[<- e1,<- e2,e,<- d,cV (by rw[ah,ls]),ah,ls];exact aC λi _=>by rw[y9];grind
theorem xP {R:LR9} {ps:List Nat} (hw:∀xs∈rows,xs.length=n) (hl:row.length=n) (RR:bJ (bD (rows++[row]) (List.replicate rows.length 0++[1])) (n+1) R ps) (hn:n∉ps):dB (cI R ps n) row=1/\∀xs∈rows,dB xs (cI R ps n)=0:=by
 have l1:(List.replicate rows.length (0:Rat)++[1]).length=(rows++[row]).length:=by rw[au,au,az];rfl
 have w1:∀xs∈rows++[row],xs.length=n:=λxs hx=>by
  rcases aK.mp hx with hx | hx
  ·exact hw xs hx
  ·rw[cg.mp hx];exact hl
 have ls:(cI R ps n).length=n:=d9;refine ⟨?_,λxs hx=>?_⟩
 ·have:=oE l1 w1 RR hn (i:=rows.length) (row:=row) (by rw[aO (aj _),h7];rfl);rw[lI (by rw[ls,hl]),this,aa,aO (by rw[az];exact aj _),az,h7];rfl
 ·obtain ⟨i,hi,rfl⟩:=aL hx;have:=oE l1 w1 RR hn (i:=i) (row:=rows[i]) (by rw[aW hi,ae hi]);rw[this,aa,aW (by rw[az];exact hi),dm,if_pos hi];rfl
end
section
variable {rows R:LR9} {due:List Rat} {ps:List Nat} {n:Nat}
theorem sm {R':LR9} {ps':List Nat} (hd:due.length=rows.length) (hw:∀xs∈rows,xs.length=n) (RR':bJ (qA rows n due) (rows.length+1) R' ps') (hn:rows.length∉ps'):dB (cI R' ps' rows.length) due=1/\rJ rows (cI R' ps' rows.length) n=List.replicate n 0:=by
 have l1:(bC rows n++[due]).length=n+1:=by rw[au,bY];rfl
 have w1:∀xs∈bC rows n++[due],xs.length=rows.length:=λxs hx=>by
  rcases aK.mp hx with hx | hx
  ·exact eM xs hx
  ·rw[cg.mp hx];exact hd
 have l2:(List.replicate n (0:Rat)++[1]).length=(bC rows n++[due]).length:=by rw[l1,au,az];rfl
 have ls:(cI R' ps' rows.length).length=rows.length:=d9;refine ⟨?_,?_⟩
 ·have:=oE l2 w1 RR' hn (i:=n) (row:=due) (by rw[aO (by rw[bY];exact aj _),bY,h7];rfl);rw[lI (by rw[ls,hd]),this,aa,aO (by rw[az];exact aj _),az,h7];rfl
 ·apply cm (by unfold rJ;rw[sX,az]);intro c h1 h2;rw[az] at h2;have:=oE l2 w1 RR' hn (i:=c) (by rw[aW (by rw[bY];exact h2)];exact qq h2);have e1:(rJ rows (cI R' ps' rows.length) n).getD c 0=(rJ rows (cI R' ps' rows.length) n)[c]:=by rw[aa,ae h1];rfl
  rw[List.getElem_replicate,<- e1,pT h2,ls];rw[aa,aW (by rw[az];exact h2),dm,if_pos h2,cV (by rw[ah,ls]),ah] at this;have e:aQ rows.length (λi=>(cI R' ps' rows.length).getD i 0*bV rows i c)=aQ rows.length (λi=>(rows.map λxs=>xs.getD c 0).getD i 0*(cI R' ps' rows.length).getD i 0):=aC λi _=>by rw[y9];grind
  rw[e,this];rfl
theorem uL (hd:due.length=rows.length) (hw:∀xs∈rows,xs.length=n) (RR:bJ (bD rows due) (n+1) R ps) (hn:n∉ps):(rows.map λys=>dB ys (cI R ps n))=due:=by
 apply cm (by rw[ah,hd]);intro i h1 h2;rw[cS,oE hd hw RR hn (ae (by lia)),aa,ae h2];rfl
end
section
variable {rows rows' R R':LR9} {n w W:Nat} {ps ps':List Nat}
theorem xI (hw:∀xs∈rows,xs.length=n) (hW:1<=W) (ent:∀i,i < (rows.map ie).length->∀c,Fr 1 W (cW (rows.map ie) i c)):∀P,P<=n->∃ls ps d,sT (rows.map ie) n P ls ps d:=by
 intro P
 induction P with
 | zero=>intro _;exact ⟨_,_,_,sT.start λzs hz=>by obtain ⟨x,hx,rfl⟩:=aD.mp hz;rw[nj];exact hw x hx⟩
 | succ P ih =>
  intro hP;obtain ⟨ls,ps,d,I⟩:=ih (by lia);by_cases e:∃t,ps.length<=t/\t < ls.length/\cW ls t P≠0
  ·obtain ⟨t,h1,h2,h3⟩:=e;exact ⟨_,_,_,I.step hW ent h1 h2 h3⟩
  ·exact ⟨_,_,_,I.skip λi h1 h2=>by
    by_cases z:cW ls i P=0
    ·exact z
    ·exact absurd ⟨i,h1,h2,z⟩ e⟩
end
section
variable {mv pt R R' S X Y:LR9} {n t m i c:Nat} {ps ps':List Nat} {a:Nat->Nat->Rat}
theorem ER (h:i < X.length):bV (X++Y) i=bV X i:=by
 funext c;unfold bV;rw[aa (l:=X++Y),aW h,<- aa]
theorem EO:bV (X++Y) (X.length+i)=bV Y i:=by
 funext c;unfold bV;rw[aa (l:=X++Y),aO (by lia),show X.length+i - X.length=i by lia,<- aa]
end
theorem uk {rs:List Nat} {v v':Nat->eL}:∀{k:Nat} (pre:List eL),(∀j,j < k->∀r∈rs,v j r=v' j r)->fK rs (pre++ff v k)=fK rs (pre++ff v' k)
 | 0,_,_=>rfl
 | k+1,pre,h=>by
  show fK rs (pre++v k :: ff v k)=fK rs (pre++v' k :: ff v' k)
  rw[zC (h k (by lia))];have:=uk (k:=k) (pre++[v' k]) λj hj=>h j (by lia)
  simpa using this
theorem cw_map {τ:eL->eL} {v:Nat->eL}:∀{k:Nat},(ff v k).map τ=ff (λj=>τ (v j)) k
 | 0=>rfl
 | k+1=>by show τ (v k) :: _=_;rw[cw_map];rfl
theorem zB {N : Nat} {W : Nat → Nat} : ∀ {rs : List Nat} {vs : List eL}, vs.length ≤ N → (∀ v ∈ vs, ∀ r ∈ rs, Fr 1 (W r) (v r)) → Fr 1 ((rs.map λr => N * W r).foldr (· * ·) 1) (fK rs vs)
  | [], [], _, _ => by show Fr 1 1 1; exact (Fr.int (i := 1) (by decide))
  | [], _ :: _, _, _ => by show Fr 1 _ 0; exact Fr.zero
  | r :: rs, vs, hl, h => by
    have := za (F := λws => fK rs ws) (r := r) (B := (rs.map λr => N * W r).foldr (· * ·) 1) (W := W r) (post := vs) (pre := []) (s := 1) (λws h1 h2 => zB (by rw [bR] at h2; lia) λv hv r' hr' => h v (by simpa using h1 v hv) r' (.tail _ hr')) (λw hw => h w hw r (.head _)) (Fr.int (i := 1) (by decide));refine this.mono ?_;show _ ≤ N * W r * _
    rw [cX N];exact aR _ hl
section
variable {rows fs ls:LR9} {n r M W Wv Wb k P:Nat} {Pm Y Z B E a:Nat->Nat->Rat} {d:Rat} {ps:List Nat} {rs:LR9}
end
section
variable {rows R R1 R2 mv pt:LR9} {n r M V1 W W' Wv Wb k P:Nat} {Pm Y Z B E a:Nat->Nat->Rat} {d:Rat} {ps ps1 ps2:List Nat} {rs:LR9}
theorem BN (h0:0 < M) (h3:∀xs∈rows,∀x∈xs,Tp M W x):∀i,i < rows.length->∀c,Fr 1 W (cW (rows.map ie) i c):=λi hi c=>by
 have hx:=getD_in (e:=[]) hi;rw[uy hi];unfold bV;generalize rows.getD i []=xs at hx ⊢;by_cases hc:c < xs.length
 ·have t:=h3 xs hx _ (getD_in (e:=0) hc);obtain ⟨s,e,b⟩:=sZ t h0 (rk (xs:=xs)) (rl (aD.mpr ⟨_,getD_in (e:=0) hc,rfl⟩)) (xt h0 (h3 xs hx));rw[eF,e];exact Fr.int b
 ·rw[aa,aN (by lia)];show Fr 1 W (_*0)
  rw[h6];exact Fr.zero
theorem zq {V:Nat} {f:Nat->Rat}:∀{k:Nat},(∀j,j < k->Fr 1 V (f j))->Fr 1 (k*V) (aQ k f)
 | 0,_=>Fr.zero
 | k+1,h=>by
  rw[jC];exact (zq λj hj=>h j (by lia)).add (h k (by lia))
end
section
variable {rows R R1 R2 mv pt:LR9} {n t t2 a c:Nat} {ps ps1 ps2:List Nat}
theorem Af (RR:bJ rows n R ps):bJ R n R ps:=⟨RR.1,RR.2.1,RR.2.2.other (λi hi=>by rw[RR.1];exact RR.2.2.span i hi) (λi hi=>RR.2.2.back i (by rw[<- RR.1];exact hi))⟩
theorem xk {M W:Nat} (h:∀i,i < rows.length->∀c,Tp M W (bV rows i c)):∀xs∈rows,∀x∈xs,Tp M W x:=λxs hx x hx'=>by
 obtain ⟨i,hi,rfl⟩:=aL hx;obtain ⟨c,hc,rfl⟩:=aL hx';have:=h i hi c;unfold bV at this;rw[aa (l:=rows),ae hi] at this;have e:(some rows[i]).getD []=rows[i]:=rfl;rw[e,aa,ae hc] at this;exact this
end
theorem vi {F G:List eL->Rat} {r:Nat} {g:Nat->Rat} {c:Rat} (hF:∀ws:List eL,F (ws.map λv i=>g i*v i)=c*G ws):∀(post pre:List eL) (s:Rat),rK F r (pre.map λv i=>g i*v i) (post.map λv i=>g i*v i) s=g r*c*rK G r pre post s
 | [],_,_=>by show (0:Rat)=_*0;grind
 | v :: post,pre,s=>by
  have i1:=hF (pre++post);have i2:=vi (r:=r) hF post (pre++[v]) (-s);simp only[dq,kJ,List.map_nil,rK] at i1 i2 ⊢;rw[i1,i2];grind
theorem nV {g : Nat → Rat} : ∀ (rs : List Nat) (vs : List eL), fK rs (vs.map λv i => g i * v i) = (rs.map g).foldr (· * ·) 1 * fK rs vs
  | [], [] => by show (1 : Rat) = 1 * 1; grind
  | [], _ :: _ => by show (0 : Rat) = 1 * 0; grind
  | r :: rs, vs => by
    have := vi (r := r) (F := λws => fK rs ws) (G := λws => fK rs ws) (c := (rs.map g).foldr (· * ·) 1) (λws => nV rs ws) vs [] 1;exact this
theorem tK {g:Nat->Rat}:∀{rs:List Nat},(∀r∈rs,g r≠0)->(rs.map g).foldr (·*·) 1≠0
 | [],_=>by show (1:Rat)≠0;decide
 | r :: rs,h=>by
  show g r*_≠0
  have h1:=h r (.head _);have h2:=tK λr' hr'=>h r' (.tail _ hr')
  intro z;rcases kS.mp z with z | z
  ·exact h1 z
  ·exact h2 z
section
variable {rows R X K0:LR9} {due L:List Rat} {n m M W D E W0 W1:Nat} {ps:List Nat}
theorem sH (hw:∀xs∈rows,xs.length=n) (hW:1<=W) (h0:0 < M) (h3:∀xs∈rows,∀x∈xs,Tp M W x) (RR:bJ rows n R ps):∃pm:Nat->Nat,(∀i j,i < ps.length->j < ps.length->pm i=pm j->i=j)/\(∀t,t < ps.length->pm t < rows.length)/\ps.length<=rows.length/\fK (iP pm ps.length) (ff (λj i=>bV rows i (ps.getD j 0)) ps.length)≠0:=by
 have ent:=BN h0 h3;obtain ⟨ls,ps2,d,I⟩:=xI hw hW (by rw[ah];exact ent) n (aj _);obtain ⟨_,_,⟨pm,B⟩,E⟩:=I;rw[ah] at B E
 have RF:vD rows.length n (bV rows) ps2.length (λj=>ps2.getD j 0) (λi c=>cW ls i c / d):=vD.other (E.done λi hi c hc=>ra (n:=n) (λzs hz=>by
  obtain ⟨xs,hx,rfl⟩:=aD.mp hz;rw[nj];exact hw xs hx) hc) wg wj
 obtain ⟨e1,e2,e3⟩:=RF.uniq RR.2.2 (λ_ hi=>eA.row hi) (λ_ hi=>eA.row hi);have km:=B.km;have dt:=B.det;have d0:=B.d0
 have e4:fK (iP pm ps2.length) ([]++ff (λj r=>cW (rows.map ie) r (ps2.getD j 0)) ps2.length)=fK (iP pm ps2.length) ([]++ff (λj i=>zM rows i*bV rows i (ps.getD j 0)) ps2.length):=uk [] λj hj r hr=>by
  obtain ⟨t,ht,rfl⟩:=iU hr;rw[uy (B.rng t (by lia)),e2 j hj];rfl
 have e5:ff (λj i=>zM rows i*bV rows i (ps.getD j 0)) ps2.length=(ff (λj i=>bV rows i (ps.getD j 0)) ps2.length).map λv i=>zM rows i*v i:=(cw_map (τ:=λv i=>zM rows i*v i)).symm
 refine ⟨pm,λi j hi hj e=>B.inj i j (by lia) (by lia) e,λt ht=>B.rng t (by lia),by lia,?_⟩;rw[<- e1];intro z;apply d0;rw[dt];have e4:fK (iP pm ps2.length) (ff (λj r=>cW (rows.map ie) r (ps2.getD j 0)) ps2.length)=fK (iP pm ps2.length) (ff (λj i=>zM rows i*bV rows i (ps.getD j 0)) ps2.length):=e4;rw[e4,e5,nV,z,h6]
theorem Bp (hd:due.length=X.length) (hw:∀xs∈X,xs.length=n) (RR:bJ (bD X due) (n+1) R ps) (hn:n∉ps) {i:Nat} (hi:i < X.length):due.getD i 0=aQ ps.length λj=>bV R j n*bV X i (ps.getD j 0):=by
 obtain ⟨j1,j2⟩:=pB hd hw hi;have sp:=RR.2.2.span i (by rw[kd hd];exact hi);have:=RR.2.2.coef sp n;rw[<- j2,this];refine aC λj hj=>?_
 have lo:=RR.2.2.low j hj;have ne:ps.getD j 0≠n:=λz=>hn (by rw[<- z];exact getD_in hj)
 rw[j1 _ (by lia)];exact eF _ _
theorem wG (RR:bJ X (n+1) R ps) {y:Rat} (hy:y∈cI R ps n):y=0\/∃j,j < ps.length/\y=bV R j n:=by
 obtain ⟨c,hc,rfl⟩:=aL hy;have lc:(cI R ps n).length=n:=d9;have e:(cI R ps n)[c]=(cI R ps n).getD c 0:=by rw[aa,ae hc];rfl
 rw[e];by_cases hp:c∈ps
 ·obtain ⟨j,hj,ej⟩:=aL hp
  right
  refine ⟨j,hj,?_⟩;have ej':ps.getD j 0=c:=by rw[aa,ae hj];exact ej
  have:=yB (R:=R) (ps:=ps) (n:=n) (j:=ps.length) (c:=c) (by lia);unfold cI;rw[this,cy hj λi hi ne=>if_neg λz=>?_,if_pos ej'];rcases cY i j with y | y
  ·have:=RR.2.2.inc i j y hj
   lia
  ·have:=RR.2.2.inc j i (by lia) hi
   lia
 ·exact .inl (Ae hp)
theorem CZ {N Wx:Nat} {rs:List Nat} {vs:List eL} (hl:vs.length<=N) (h:∀v∈vs,∀r∈rs,Fr 1 Wx (v r)):∃z:Int,fK rs vs=(z:Rat)/\z.natAbs<=(N*Wx)^rs.length:=by
 have f:=rb hl h;obtain ⟨z,ez⟩:=p6 f;rw[ez] at f;exact ⟨z,ez,oS f⟩
theorem Ab {e:Nat} (he:ps.length<=n->ps.length<=e) (hK:∀xs∈K0,xs.length=n) (hL:L.length=n) (n15:n<=15) (D0:0 < D) (E0:0 < E) (w0:1<=W0) (w1:1<=W1) (tk:∀xs∈K0,∀x∈xs,Tp D W0 x) (tl:∀x∈L,Tp E W1 x) (RR:bJ (bD (bC K0 n) L) (K0.length+1) R ps) (hn:K0.length∉ps) :
  ∃q:Nat,0 < q/\q<=(16*W0)^e/\∀y∈cI R ps K0.length,Tp (E*q) (D*(n*(W1*(16*W0)^e))) y:=by
 have lt:(bC K0 n).length=n:=bY;have wt:∀xs∈bC K0 n,xs.length=K0.length:=eM;have hd:L.length=(bC K0 n).length:=by rw[lt];exact hL
 have tfn:∀i,i < n->∀j,bV (bC K0 n) i j=bV K0 j i:=λi hi j=>by
  unfold bV;rw[aa (l:=bC K0 n),qq hi];show (K0.map λxs=>xs.getD i 0).getD j 0=_
  rw[aa,aw,aa (l:=K0)];cases K0[j]? with
  | none=>show (0:Rat)=([]:List Rat).getD i 0;rw[aa];rfl
  | some xs=>rfl
 have tkf:∀j i,Tp D W0 (bV K0 j i):=λj i=>by
  unfold bV;rw[aa (l:=K0)];by_cases hj:j < K0.length
  ·rw[ae hj];exact eN (tk _ (aA hj)) i
  ·rw[aN (by lia)];show Tp D W0 (([]:List Rat).getD i 0)
   exact eN (by intro x z;cases z) i
 have tlf:∀i,Tp E W1 (L.getD i 0):=λi=>eN tl i
 have tj:∀xs∈bD (bC K0 n) L,∀x∈xs,Tp (D*E) (W0*E+W1*D) x:=xk λi hi c=>by
  rw[kd hd,lt] at hi;obtain ⟨j1,j2⟩:=pB hd wt (by rw[lt];exact hi);by_cases hc:c < K0.length
  ·rw[j1 c hc,tfn i hi];obtain ⟨z,ee,b⟩:=tkf c i;exact ⟨z*E,by rw[cM,av,<- ee,aq];grind,by rw[bS,aU];exact ag (aR _ b) (yl _ _)⟩
  ·by_cases hc2:c=K0.length
   ·rw[hc2,j2];obtain ⟨z,ee,b⟩:=tlf i;exact ⟨z*D,by rw[cM,av,<- ee,aq];grind,by rw[bS,aU];exact ag (aR _ b) (Nat.le_add_left _ _)⟩
   ·rw[ug (nP wt) (by lia)];exact ⟨0,by rw[mG];rfl,bc _⟩
 obtain ⟨pm,pinj,plt,kn,dne⟩:=sH (nP wt) (W:=W0*E+W1*D) (ag (cf w0 E0) (yl _ _)) (cf D0 E0) tj RR;rw[kd hd,lt] at plt kn
 have pl:∀j,j < ps.length->ps.getD j 0 < K0.length:=λj hj=>by
  have lo:=RR.2.2.low j hj;have ne:ps.getD j 0≠K0.length:=λz=>hn (by rw[<- z];exact getD_in hj)
  lia
 have Dne:(D:Rat)≠0:=λz=>by
  have:((D:Int):Rat)=0:=by rw[aq];exact z
  have:=i5 this
  lia
 have Ene:(E:Rat)≠0:=λz=>by
  have:((E:Int):Rat)=0:=by rw[aq];exact z
  have:=i5 this
  lia
 have rlt:∀r∈iP pm ps.length,r < n:=λr hr=>by
  obtain ⟨t,ht,rfl⟩:=iU hr;exact plt t ht
 obtain ⟨v,ev⟩:∃v:Nat->eL,v=λj i=>(D:Rat)*bV K0 (ps.getD j 0) i:=⟨_,rfl⟩
 have vint:∀j r,Fr 1 W0 (v j r):=λj r=>by
  obtain ⟨z,ee,b⟩:=tkf (ps.getD j 0) r;rw[ev];show Fr 1 W0 ((D:Rat)*_)
  rw[eF,ee];exact Fr.int b
 have den:fK (iP pm ps.length) (ff v ps.length)≠0:=by
  have e1:fK (iP pm ps.length) ([]++ff v ps.length)=fK (iP pm ps.length) ([]++ff (λj i=>(D:Rat)*bV (bD (bC K0 n) L) i (ps.getD j 0)) ps.length):=uk [] λj hj r hr=>by
   have hr:=rlt r hr;obtain ⟨j1,_⟩:=pB hd wt (i:=r) (by rw[lt];exact hr);rw[j1 _ (pl j hj),tfn r hr,ev]
  have e2:ff (λj i=>(D:Rat)*bV (bD (bC K0 n) L) i (ps.getD j 0)) ps.length=(ff (λj i=>bV (bD (bC K0 n) L) i (ps.getD j 0)) ps.length).map λv i=>(λ_=>(D:Rat)) i*v i:=(cw_map (τ:=λv i=>(D:Rat)*v i)).symm
  have e1:fK (iP pm ps.length) (ff v ps.length)=fK (iP pm ps.length) (ff (λj i=>(D:Rat)*bV (bD (bC K0 n) L) i (ps.getD j 0)) ps.length):=e1;rw[e1,e2,nV];intro z;rcases kS.mp z with z | z
  ·exact tK (g:=λ_=>(D:Rat)) (λ_ _=>Dne) z
  ·exact dne z
 obtain ⟨q,eq,bq⟩:=CZ (N:=16) (Wx:=W0) (rs:=iP pm ps.length) (vs:=ff v ps.length) (by rw[cw_len];lia) λw hw r _=>by
  obtain ⟨t,_,rfl⟩:=cw_in hw;exact vint t r
 rw[mV] at bq;have up:(16*W0)^ps.length<=(16*W0)^e:=af (by lia) (he kn);have q0:q≠0:=λz=>den (by rw[eq,z];rfl)
 refine ⟨q.natAbs,by lia,ag bq up,λy hy=>?_⟩;rcases wG RR hy with rfl | ⟨i,hi,rfl⟩
 ·exact ⟨0,by rw[mG];rfl,bc _⟩
 ·have hW:∀r∈iP pm ps.length,(E:Rat)*L.getD r 0=aQ ps.length λj=>((E:Rat)*bV R j K0.length / D)*v j r:=λr hr=>by
   have hr:=rlt r hr;rw[Bp hd wt RR hn (i:=r) (by rw[lt];exact hr),<- bU];refine aC λj hj=>?_
   rw[tfn r hr,ev]
   dsimp only
   grind
  have cr:=oT (v:=v) (c:=λj=>(E:Rat)*bV R j K0.length / D) (W:=λr=>(E:Rat)*L.getD r 0) hi hW
  have ex:fK (iP pm ps.length) (v9 v i ps.length++(λr=>(E:Rat)*L.getD r 0) :: ff v i)=aQ ps.length λt=>((E:Rat)*L.getD (pm t) 0)*fK (iP pm ps.length) (v9 v i ps.length++(λr=>if r=pm t then 1 else 0) :: ff v i):=ui (W:=λ_=>0) (v:=λt r=>if r=pm t then 1 else 0) (c:=λt=>(E:Rat)*L.getD (pm t) 0) _ _ (λr hr=>by
   obtain ⟨t,ht,rfl⟩:=iU hr;rw[cy ht λj hj ne=>by rw[if_neg λz=>ne (pinj j t hj ht z.symm),h6],if_pos rfl,sV])
  have hlen:∀x:eL,(v9 v i ps.length++x :: ff v i).length<=16:=λx=>by
   have:=congrArg List.length (cw_split (v:=v) hi);rw[au,bI,cw_len] at this;rw[au,bI]
   lia
  have nf:Fr 1 (n*(W1*(16*W0)^e)) (fK (iP pm ps.length) (v9 v i ps.length++(λr=>(E:Rat)*L.getD r 0) :: ff v i)):=by
   rw[ex];refine (zq (V:=W1*(16*W0)^e) λt ht=>?_).mono (aR _ kn);obtain ⟨z,ee,b⟩:=tlf (pm t)
   have f1:Fr 1 W1 ((E:Rat)*L.getD (pm t) 0):=by
    rw[eF,ee];exact Fr.int b
   have f2:=rb (W:=W0) (N:=16) (rs:=iP pm ps.length) (hlen λr=>if r=pm t then 1 else 0) λw hw r _=>by
    rcases aK.mp hw with hw | hw
    ·obtain ⟨s,_,rfl⟩:=vv hw;exact vint s r
    ·rcases aI.mp hw with rfl | hw
     ·dsimp only
      split
      ·exact Fr.one w0
      ·exact Fr.zero
     ·obtain ⟨s,_,rfl⟩:=cw_in hw;exact vint s r
   rw[mV] at f2;have:=f1.mul f2;rw[Nat.one_mul] at this;exact this.mono (e7 _ up)
  obtain ⟨z,ez⟩:=p6 nf;rw[ez] at nf cr;have bz:=oS nf;rw[eq] at cr
  have key:bV R i K0.length*((E:Rat)*(q:Rat))=(D:Rat)*(z:Rat):=by
   rw[cr];grind
  have kq:(((E*q.natAbs:Nat):Rat))=(E:Rat)*((q.natAbs:Nat):Rat):=cM ..;rcases vF q with h | h
  ·have hq:((q.natAbs:Nat):Rat)=(q:Rat):=by rw[<- aq,<- h]
   refine ⟨D*z,?_,by rw[bS,aU];exact e7 _ bz⟩;rw[kq,hq,key,av,aq]
  ·have hq:((q.natAbs:Nat):Rat)=-(q:Rat):=by rw[<- aq,<- bH];congr 1;lia
   refine ⟨-(D*z),?_,by rw[e8,bS,aU];exact e7 _ bz⟩;rw[kq,hq,bH,av,aq,<- key];grind
theorem yE {pm w : Nat → Nat} {X Y s : Nat} (hX : 1 ≤ X) (hY : 1 ≤ Y) (h1 : ∀ r, r ≠ s → w r ≤ X) (h2 : w s ≤ Y) : ∀ k, (∀ i j, i < k → j < k → pm i = pm j → i = j) → ((∃ t, t < k /\ pm t = s) → ((iP pm k).map w).foldr (· * ·) 1 ≤ X ^ k * Y) /\ ((∀ t, t < k → pm t ≠ s) → ((iP pm k).map w).foldr (· * ·) 1 ≤ X ^ k)
  | 0, _ => ⟨λ⟨t, h, _⟩ => absurd h (rF _), λ_ => aj _⟩
  | k + 1, inj => by
    obtain ⟨i1, i2⟩ := yE (pm := pm) (w := w) hX hY h1 h2 k λi j hi hj => inj i j (by lia) (by lia)
    have mul : ((iP pm (k + 1)).map w).foldr (· * ·) 1 = w (pm k) * ((iP pm k).map w).foldr (· * ·) 1 := rfl;refine ⟨λ⟨t, ht, et⟩ => ?_, λh => ?_⟩
    · rw [mul];by_cases e : pm k = s
      · have := i2 λt' ht' z => by
          have := inj t' k (by lia) (by lia) (z.trans e.symm)
          lia
        rw [e]
        calc w s * _ ≤ Y * X ^ k := bp h2 this
          _ = X ^ k * Y := bX _ _
          _ ≤ X ^ (k + 1) * Y := aR _ (af hX (zR _))
      · have := i1 ⟨t, by rcases cY t k with z | z; exact z; exact absurd (by rw [show k = t by lia]; exact et) e, et⟩
        calc w (pm k) * _ ≤ X * (X ^ k * Y) := bp (h1 _ e) this
          _ = X ^ (k + 1) * Y := by rw [mH, <- cX, bX X]
    · rw [mul, mH, bX (X ^ k)];exact bp (h1 _ (h k (by lia))) (i2 λt ht => h t (by lia))
theorem Ag {pm w:Nat->Nat} {X Y s:Nat} (hX:1<=X) (hY:1<=Y) (h1:∀r,r≠s->w r<=X) (h2:w s<=Y) {k n:Nat} (hk:k<=n) (inj:∀i j,i < k->j < k->pm i=pm j->i=j):((iP pm k).map w).foldr (·*·) 1<=X^n*Y:=by
 obtain ⟨a,b⟩:=yE (pm:=pm) (w:=w) hX hY h1 h2 k inj;have up:X^k<=X^n:=af hX hk;by_cases e:∃t,t < k/\pm t=s
 ·exact ag (a e) (aR _ up)
 ·exact ag (b λt ht z=>e ⟨t,ht,z⟩) (ag up (cC _ hY))
theorem xO {e:Nat} (he:ps.length<=n->ps.length<=K0.length+1->ps.length<=e) (hK:∀xs∈K0,xs.length=n) (hL:L.length=n) (n15:n<=15) (D0:0 < D) (E0:0 < E) (w0:1<=W0) (tk:∀xs∈K0,∀x∈xs,Tp D W0 x) (tl:∀x∈L,Tp E W1 x) (RR:bJ (bD (K0++[L]) (List.replicate K0.length 0++[1])) (n+1) R ps) (hn:n∉ps) :
  ∃q:Nat,0 < q/\q<=(16*W0)^e*(16*(W1+E))/\∀y∈cI R ps n,Tp q ((16*W0)^e*(16*(W1+E))) y:=by
 have hw:∀xs∈K0++[L],xs.length=n:=λxs hx=>by
  rcases aK.mp hx with hx | hx
  ·exact hK xs hx
  ·rw[cg.mp hx];exact hL
 have hd:(List.replicate K0.length (0:Rat)++[1]).length=(K0++[L]).length:=by simp
 have lX:(K0++[L]).length=K0.length+1:=by simp
 have due:∀i,i < K0.length+1->(List.replicate K0.length (0:Rat)++[1]).getD i 0=if i=K0.length then 1 else 0:=λi hi=>by
  rw[aa];by_cases ee:i=K0.length
  ·rw[aO (by simp;lia),if_pos ee];simp [ee]
  ·rw[aW (by simp;lia),if_neg ee,dm,if_pos (by lia)];rfl
 have tX:∀i c,Tp (if i=K0.length then E else D) (if i=K0.length then W1 else W0) (bV (K0++[L]) i c):=λi c=>by
  by_cases ee:i=K0.length
  ·rw[if_pos ee,if_pos ee,ee];have:=EO (X:=K0) (Y:=[L]) (i:=0);rw[Nat.add_zero] at this;rw[this];exact eN tl c
  ·rw[if_neg ee,if_neg ee];by_cases h:i < K0.length
   ·rw[ER h];unfold bV;rw[aa (l:=K0),ae h];exact eN (tk _ (aA h)) c
   ·unfold bV;rw[aa (l:=K0++[L]),aN (by rw[lX];lia)];exact eN (by intro x z;cases z) c
 have tj:∀xs∈bD (K0++[L]) (List.replicate K0.length 0++[1]),∀x∈xs,Tp (D*E) (W0*E+W1*D+D*E) x:=xk λi hi c=>by
  rw[kd hd] at hi;obtain ⟨j1,j2⟩:=pB hd hw hi;by_cases hc:c < n
  ·rw[j1 c hc];obtain ⟨z,ee,b⟩:=tX i c;by_cases h:i=K0.length
   ·rw[if_pos h] at ee b;exact ⟨z*D,by rw[cM,av,<- ee,aq];grind,by rw[bS,aU];have:=aR D b;lia⟩
   ·rw[if_neg h] at ee b;exact ⟨z*E,by rw[cM,av,<- ee,aq];grind,by rw[bS,aU];have:=aR E b;lia⟩
  ·by_cases hc2:c=n
   ·rw[hc2,j2,due i (by lia)]
    split
    ·exact ⟨(D*E:Nat),by rw[ou,aq],by rw[aU];lia⟩
    ·exact ⟨0,by rw[mG];rfl,bc _⟩
   ·rw[ug (nP hw) (by lia)];exact ⟨0,by rw[mG];rfl,bc _⟩
 obtain ⟨pm,pinj,plt,kn1,dne⟩:=sH (nP hw) (W:=W0*E+W1*D+D*E) (by have:=cf D0 E0;lia) (cf D0 E0) tj RR;rw[kd hd,lX] at plt kn1
 have pl:∀j,j < ps.length->ps.getD j 0 < n:=λj hj=>by
  have lo:=RR.2.2.low j hj;have ne:ps.getD j 0≠n:=λz=>hn (by rw[<- z];exact getD_in hj)
  lia
 have kn:ps.length<=n:=by
  have inc:∀j,j < ps.length->j<=ps.getD j 0:=by
   intro j
   induction j with
   | zero=>intro _;exact bc _
   | succ j ih =>
    intro hj;have:=ih (by lia);have:=RR.2.2.inc j (j+1) (by lia) hj
    lia
  rcases mS ps.length with z | z
  ·lia
  ·have:=inc (ps.length - 1) (by lia);have:=pl (ps.length - 1) (by lia)
   lia
 obtain ⟨g,eg⟩:∃g:Nat->Rat,g=λi=>((if i=K0.length then E else D:Nat):Rat):=⟨_,rfl⟩
 have gne:∀i,g i≠0:=λi z=>by
  rw[eg] at z;have z:(((if i=K0.length then E else D:Nat):Int):Rat)=0:=by rw[aq];exact z
  have:=i5 z
  split at this <;> lia
 have rlt:∀r∈iP pm ps.length,r < K0.length+1:=λr hr=>by
  obtain ⟨t,ht,rfl⟩:=iU hr;exact plt t ht
 obtain ⟨v,ev⟩:∃v:Nat->eL,v=λj i=>g i*bV (K0++[L]) i (ps.getD j 0):=⟨_,rfl⟩
 obtain ⟨wt,ew⟩:∃wt:Nat->Nat,wt=λi=>if i=K0.length then W1+E else W0:=⟨_,rfl⟩
 have vint:∀j r,Fr 1 (wt r) (v j r):=λj r=>by
  obtain ⟨z,ee,b⟩:=tX r (ps.getD j 0);rw[ev,eg,ew];show Fr 1 _ (_*_)
  rw[eF,ee];refine (Fr.int b).mono ?_
  dsimp only
  split <;> lia
 have bnd:∀{vs:List eL},vs.length<=16->(∀w∈vs,∀r∈iP pm ps.length,Fr 1 (wt r) (w r))->∃z:Int,fK (iP pm ps.length) vs=(z:Rat)/\z.natAbs<=(16*W0)^e*(16*(W1+E)):=λ{vs} hl h=>by
  have f:=zB hl h;obtain ⟨z,ez⟩:=p6 f;rw[ez] at f;refine ⟨z,ez,ag (oS f) (Ag (s:=K0.length) (by lia) (by lia) (λr hr=>?_) ?_ (he kn kn1) pinj)⟩
  ·rw[ew];dsimp only;rw[if_neg hr];exact aj _
  ·rw[ew];dsimp only;rw[if_pos rfl];exact aj _
 have den:fK (iP pm ps.length) (ff v ps.length)≠0:=by
  have e1:fK (iP pm ps.length) ([]++ff v ps.length)=fK (iP pm ps.length) ([]++ff (λj i=>g i*bV (bD (K0++[L]) (List.replicate K0.length 0++[1])) i (ps.getD j 0)) ps.length):=uk [] λj hj r hr=>by
   have hr:=rlt r hr;obtain ⟨j1,_⟩:=pB hd hw (i:=r) (by rw[lX];exact hr);rw[j1 _ (pl j hj),ev]
  have e2:ff (λj i=>g i*bV (bD (K0++[L]) (List.replicate K0.length 0++[1])) i (ps.getD j 0)) ps.length=(ff (λj i=>bV (bD (K0++[L]) (List.replicate K0.length 0++[1])) i (ps.getD j 0)) ps.length).map λv i=>g i*v i:=(cw_map (τ:=λv i=>g i*v i)).symm
  have e1:fK (iP pm ps.length) (ff v ps.length)=fK (iP pm ps.length) (ff (λj i=>g i*bV (bD (K0++[L]) (List.replicate K0.length 0++[1])) i (ps.getD j 0)) ps.length):=e1;rw[e1,e2,nV];intro z;rcases kS.mp z with z | z
  ·exact tK (λr _=>gne r) z
  ·exact dne z
 obtain ⟨q,eq,bq⟩:=bnd (vs:=ff v ps.length) (by rw[cw_len];lia) λw hw r _=>by
  obtain ⟨t,_,rfl⟩:=cw_in hw;exact vint t r
 have q0:q≠0:=λz=>den (by rw[eq,z];rfl)
 refine ⟨q.natAbs,by lia,bq,λy hy=>?_⟩;rcases wG RR hy with rfl | ⟨i,hi,rfl⟩
 ·exact ⟨0,by rw[mG];rfl,bc _⟩
 ·have hW:∀r∈iP pm ps.length,g r*(if r=K0.length then 1 else 0)=aQ ps.length λj=>bV R j n*v j r:=λr hr=>by
   have hr:=rlt r hr;rw[<- due r hr,Bp hd hw RR hn (i:=r) (by rw[lX];exact hr),<- bU];refine aC λj hj=>?_
   rw[ev]
   dsimp only
   grind
  have cr:=oT (v:=v) (c:=λj=>bV R j n) (W:=λr=>g r*(if r=K0.length then 1 else 0)) hi hW
  obtain ⟨z,ez,bz⟩:=bnd (vs:=v9 v i ps.length++(λr=>g r*(if r=K0.length then 1 else 0)) :: ff v i) (by
   have:=congrArg List.length (cw_split (v:=v) hi);rw[au,bI,cw_len] at this;rw[au,bI]
   lia) λw hw r _=>by
    rcases aK.mp hw with hw | hw
    ·obtain ⟨s,_,rfl⟩:=vv hw;exact vint s r
    ·rcases aI.mp hw with rfl | hw
     ·dsimp only
      by_cases ee:r=K0.length
      ·rw[if_pos ee,sV,eg,ew]
       dsimp only
       rw[if_pos ee,if_pos ee,<- aq];exact Fr.int (by rw[aU];lia)
      ·rw[if_neg ee,h6];exact Fr.zero
     ·obtain ⟨s,_,rfl⟩:=cw_in hw;exact vint s r
  rw[ez,eq] at cr;have key:bV R i n*(q:Rat)=(z:Rat):=cr.symm;rcases vF q with h | h
  ·have hq:((q.natAbs:Nat):Rat)=(q:Rat):=by rw[<- aq,<- h]
   exact ⟨z,by rw[hq,key],bz⟩
  ·have hq:((q.natAbs:Nat):Rat)=-(q:Rat):=by rw[<- aq,<- bH];congr 1;lia
   exact ⟨-z,by rw[hq,bH,<- key];grind,by rw[e8];exact bz⟩
end
section
variable {mv pt lk rows R N Hd:LR9} {st pr go:List Rat} {n r t T a c W B:Nat} {ps psd:List Nat} {Pm Y Z:Nat->Nat->Rat} {d:Rat}
theorem CV (h1:∀i j,i < j->j < ps.length->ps.getD i 0 < ps.getD j 0) (h2:∀j,j < ps.length->ps.getD j 0 < n):(kQ ps n).length+ps.length=n:=by
 have key:∀i,∃k,k<=ps.length/\(kQ ps i).length+k=i/\(∀j,j < k->ps.getD j 0 < i)/\∀j,k<=j->j < ps.length->i<=ps.getD j 0:=by
  intro i
  induction i with
  | zero=>exact ⟨0,bc _,rfl,λj hj=>absurd hj (rF _),λj _ _=>bc _⟩
  | succ i ih =>
   obtain ⟨k,k1,k2,k3,k4⟩:=ih;rw[qY];by_cases hk:k < ps.length/\ps.getD k 0=i
   ·have hm:i∈ps:=by rw[<- hk.2];exact getD_in hk.1
    rw[if_neg (λz=>z hm)];refine ⟨k+1,hk.1,by lia,λj hj=>?_,λj hj hl=>?_⟩
    ·rcases cY j k with z | z
     ·have:=k3 j z;lia
     ·rw[show j=k by lia,hk.2];lia
    ·have:=h1 k j (by lia) hl
     lia
   ·have hm:i∉ps:=λz=>by
     obtain ⟨j,hj,ej⟩:=aL z;have ej':ps.getD j 0=i:=by rw[aa,ae hj];exact ej
     rcases cY j k with y | y
     ·have:=k3 j y;lia
     ·rcases cY k j with x | x
      ·have:=h1 k j x hj;have:=k4 k (aj _) (by lia)
       lia
      ·exact hk ⟨by lia,by rw[show k=j by lia];exact ej'⟩
    rw[if_pos hm];refine ⟨k,k1,by rw[au,bO];lia,λj hj=>by have:=k3 j hj;lia,λj hj hl=>?_⟩;have:=k4 j hj hl;rcases cY i (ps.getD j 0) with y | y
    ·exact y
    ·exact absurd (by rw[show i=ps.getD j 0 by lia];exact getD_in hl) hm
 obtain ⟨k,k1,k2,k3,k4⟩:=key n;rcases cY k ps.length with z | z
 ·have:=k4 k (aj _) z;have:=h2 k z
  lia
 ·lia
theorem pX:∀xs∈bw R ps n,xs.length=n:=λxs hx=>by
 obtain ⟨_,_,_,rfl⟩:=oN hx;exact iZ
end
open PySem.MeetsSeq
section
variable {rows rows' R R' Hd Hd':LR9} {n:Nat} {ps ps' psd psd':List Nat}
theorem xW (RR:bJ rows n R ps) {x:Nat->Rat} (far:∀c,n<=c->x c=0) (hx:∀j,j < ps.length->(aQ n λc=>bV R j c*x c)=0):eA (bw R ps n).length (bV (bw R ps n)) x:=by
 have Rf:=RR.2.2;have lN:(bw R ps n).length=(kQ ps n).length:=by unfold bw;rw[ah]
 have fN:∀t,t < (bw R ps n).length->(kQ ps n).getD t 0 < n/\(kQ ps n).getD t 0∉ps:=λt ht=>nR.mp (getD_in (by lia))
 have vN:∀t,t < (bw R ps n).length->∀c,bV (bw R ps n) t c=(vG R ps n ((kQ ps n).getD t 0)).getD c 0:=λt ht c=>by
  have h:t < (kQ ps n).length:=by lia
  unfold bV bw;rw[aa (l:=List.map _ _),aw,ae h,aa (l:=kQ ps n),ae h];rfl
 have nd:(kQ ps n).Nodup:=by
  unfold kQ;exact List.Nodup.sublist List.filter_sublist List.nodup_range
 refine ⟨λt=>x ((kQ ps n).getD t 0),λc=>?_⟩
 suffices y0:∀c,x c - (aQ (bw R ps n).length λt=>x ((kQ ps n).getD t 0)*bV (bw R ps n) t c)=0 by
  have:=y0 c;grind
 have free:∀c,c < n->c∉ps->x c - (aQ (bw R ps n).length λt=>x ((kQ ps n).getD t 0)*bV (bw R ps n) t c)=0:=λc hc hp=>by
  obtain ⟨t0,h0,e0⟩:=aL (nR.mpr ⟨hc,hp⟩);have g0:(kQ ps n).getD t0 0=c:=by rw[aa,ae h0];exact e0
  rw[cy (i:=t0) (by lia) λt ht ne=>?_,vN t0 (by lia),wY hc hp,g0,if_pos rfl]
  ·grind
  ·rw[vN t ht,wY hc hp,if_neg λz=>ne ?_]
   ·grind
   ·have ht':t < (kQ ps n).length:=by lia
    have z:(kQ ps n)[t]=(kQ ps n)[t0]:=by
     rw[aa,ae ht'] at z;rw[e0];exact z.symm
    have pw:=List.pairwise_iff_getElem.mp nd;rcases eG t t0 with y | y | y
    ·exact absurd z (pw t t0 ht' h0 y)
    ·exact y
    ·exact absurd z.symm (pw t0 t h0 ht' y)
 have dN:∀j,j < ps.length->∀t,t < (bw R ps n).length->(aQ n λc=>bV R j c*bV (bw R ps n) t c)=0:=λj hj t ht=>by
  have hj':j < R.length:=by rw[RR.1];exact hj
  have wr:=RR.2.1 _ (aA hj');have dz:=yV (Af RR) (fN t ht).1 (fN t ht).2 (ae hj') wr;rw[cV (by rw[wr];exact iZ.symm),wr] at dz;refine Eq.trans (aC λc _=>?_) dz;rw[vN t ht];unfold bV;rw[aa (l:=R),ae hj'];rfl
 have dY:∀j,j < ps.length->(aQ n λc=>bV R j c*(x c - (aQ (bw R ps n).length λt=>x ((kQ ps n).getD t 0)*bV (bw R ps n) t c)))=0:=λj hj=>by
  have e:∀c,c < n->bV R j c*(x c - (aQ (bw R ps n).length λt=>x ((kQ ps n).getD t 0)*bV (bw R ps n) t c))=bV R j c*x c+(-1)*(aQ (bw R ps n).length λt=>x ((kQ ps n).getD t 0)*(bV R j c*bV (bw R ps n) t c)):=λc _=>by
   have:(aQ (bw R ps n).length λt=>x ((kQ ps n).getD t 0)*(bV R j c*bV (bw R ps n) t c))=bV R j c*aQ (bw R ps n).length λt=>x ((kQ ps n).getD t 0)*bV (bw R ps n) t c:=by
    rw[<- bU];exact aC λt _=>by grind
   rw[this];grind
  rw[aC e,ig,hx j hj,bU,eO,bK (k:=(bw R ps n).length) λt ht=>?_]
  ·grind
  ·rw[bU,dN j hj t ht];grind
 intro c;by_cases hc:c < n
 ·by_cases hp:c∈ps
  ·obtain ⟨j,hj,ej⟩:=aL hp;have g:ps.getD j 0=c:=by rw[aa,ae hj];exact ej
   have:=dY j hj;rw[cy (i:=c) hc λc' hc' ne=>?_] at this
   ·have u:=Rf.unit j hj j hj;rw[g,if_pos rfl] at u;rw[u] at this;grind
   ·by_cases hp':c'∈ps
    ·obtain ⟨i,hi,ei⟩:=aL hp';have gi:ps.getD i 0=c':=by rw[aa,ae hi];exact ei
     have u:=Rf.unit j hj i hi;rw[gi,if_neg (λz=>ne (by rw[<- gi,<- g,z]))] at u;rw[u];grind
    ·rw[free c' hc' hp'];grind
  ·exact free c hc hp
 ·rw[far c (by lia),bK λt _=>by rw[ug pX (by lia)];grind];grind
end
def EM:Kind Bool where
 R:=λ_ _ x i=>x=.bl i
 d:=0
 inj:=λ_ h1 h2=>by rw[h1] at h2;cases h2;rfl
 rc:=λ{X pins σ H s x y v u a b A} I rx ry h1 h2 _=>by
  subst h1 h2;cases (show v=Value.bool a from rx);cases (show u=Value.bool b from ry);have q:=SeqAt.RcAt.bool_bool (A:=A) (s:=s) a b;rwa [dS] at q
 ne:=λ{X pins σ H s x y v u a b A} I rx ry h1 h2 _=>by
  subst h1 h2;cases (show v=Value.bool a from rx);cases (show u=Value.bool b from ry);have q:=SeqAt.RcNeAt.bool_bool (A:=A) (s:=s) a b;rwa [dS] at q
 eq:=λ{X pins σ H s x y v u a b A} I rx ry h1 h2 _=>by
  subst h1 h2;cases (show v=Value.bool a from rx);cases (show u=Value.bool b from ry);have q:=SeqAt.EqAt.bool_bool (A:=A) (s:=s) a b;rwa [dS] at q
def DT (xs ys:List Rat):Prop:=∃M W D B:Nat,0 < M/\0 < D/\1<=W/\1<=B/\(∀x∈xs,Tp M W x)/\(∀y∈ys,Tp D B y)/\M*D<=2^3990/\128*(W*B)<=2^3990
section
variable {xs ys:List Rat}
theorem DT.x (h:DT xs ys) {x:Rat} (hx:x∈xs):pS x:=by
 obtain ⟨M,W,D,B,M0,D0,W1,B1,h1,_,b1,b2⟩:=h;have p39:(2:Nat)^3990<=2^3995:=af (by decide) (by decide);have a1:M<=M*D:=cC _ D0;have a2:W<=W*B:=cC _ B1;exact iS (h1 x hx) M0 (by lia) (by lia)
theorem DT.y (h:DT xs ys) {y:Rat} (hy:y∈ys):pS y:=by
 obtain ⟨M,W,D,B,M0,D0,W1,B1,_,h1,b1,b2⟩:=h;have p39:(2:Nat)^3990<=2^3995:=af (by decide) (by decide);have a1:D<=M*D:=Nat.le_mul_of_pos_left _ M0;have a2:B<=W*B:=Nat.le_mul_of_pos_left _ W1;exact iS (h1 y hy) D0 (by lia) (by lia)
theorem DT.mul (h:DT xs ys) {x y:Rat} (hx:x∈xs) (hy:y∈ys):pS (x*y):=by
 obtain ⟨M,W,D,B,M0,D0,W1,B1,h1,h2,b1,b2⟩:=h;have p39:(2:Nat)^3990<=2^3995:=af (by decide) (by decide);exact iS ((h1 x hx).mul (h2 y hy)) (cf M0 D0) (by lia) (by lia)
theorem DT.sum (h:DT xs ys) (hl:ys.length=xs.length) (h100:xs.length<=100) (i:Nat):pS (dB (xs.take i) (ys.take i)):=by
 obtain ⟨M,W,D,B,M0,D0,W1,B1,h1,h2,b1,b2⟩:=h;have p39:(2:Nat)^3990<=2^3995:=af (by decide) (by decide);have l1:(xs.take i).length=(ys.take i).length:=by rw[dH,dH,hl]
 have l2:(xs.take i).length<=128:=by rw[dH];lia
 rw[cV l1];have t:=Tp.sum (k:=(xs.take i).length) (M:=M*D) (W:=W*B) (f:=λc=>(xs.take i).getD c 0*(ys.take i).getD c 0) λc _=>(eN (λx hx=>h1 x (cD hx)) c).mul (eN (λx hx=>h2 x (cD hx)) c)
 have:(xs.take i).length*(W*B)<=128*(W*B):=aR _ l2;exact iS t (cf M0 D0) (by lia) (by lia)
theorem DT.pow {M D a c e f:Nat} (M0:0 < M) (D0:0 < D) (hM:M<=2^a) (hD:D<=2^c) (h1:∀x∈xs,Tp M (2^e) x) (h2:∀y∈ys,Tp D (2^f) y) (b1:a+c<=3990) (b2:7+(e+f)<=3990):DT xs ys :=
 ⟨M,2^e,D,2^f,M0,D0,cb,cb,h1,h2,ag (bp hM hD) (by rw[<- bx];exact af (by decide) b1),by rw[<- bx];exact ag (bp (show 128<=2^7 by decide) (aj _)) (by rw[<- bx];exact af (by decide) b2)⟩
theorem Tp.scale {M W:Nat} {x:Rat} (k:Nat) (h:Tp M W x):Tp (M*k) (W*k) x:=by
 obtain ⟨z,e,b⟩:=h;exact ⟨z*k,by rw[cM,av,<- e,aq];grind,by rw[bS,aU];exact aR _ b⟩
end
inductive wD (K:FG9) (vs:List V) (H:Hp) (Q:VK) (E9:XK):Prop
 | mk (p q:Addr) (xs ys:List Rat):vs=[.ref p,.ref q]->cK K H p xs->cK K H q ys->ys.length=xs.length->xs.length<=100->DT xs ys->(∀r H',aH H H'->bZ K H' (dB xs ys) (.ref r)->Q (.ref r) H')->wD K vs H Q E9
def DW (rows:LR9) (row:List Rat):Bool:=(rows.map λxs=>decide (dB xs row=0)).all id
theorem pY {rows:LR9} {row:List Rat}:DW rows row=true↔∀xs∈rows,dB xs row=0:=by
 unfold DW;rw[ia];constructor
 ·intro h xs hx;exact of_decide_eq_true (h _ (aD.mpr ⟨xs,hx,rfl⟩))
 ·intro h b hb;obtain ⟨xs,hx,rfl⟩:=aD.mp hb;exact decide_eq_true (h xs hx)
theorem mX:∀{bs:List Bool} {ys:List V},Paired (λb y=>y=V.bl b) bs ys->ys=bs.map V.bl
 | _,_,.nil=>rfl
 | _,_,.cons h t=>by rw[h,mX t];rfl
inductive o6 (K:FG9) (vs:List V) (H:Hp) (Q:VK) (E9:XK):Prop
 | mk (p q:Addr) (H0:Hp) (rows:LR9) (row:List Rat):vs=[.ref p,.ref q]->dj K H0 H p rows->cK K H q row->rows.length<=100->row.length<=100->((∀xs∈rows,xs.length=row.length/\DT xs row))->(∀H',aH H H'->Q (.bl (DW rows row)) H')->o6 K vs H Q E9
inductive o7 (K:FG9) (vs:List V) (H:Hp) (Q:VK) (E9:XK):Prop
 | mk (p q:Addr) (due pr:List Rat) (j:Nat):vs=[.ref p,.ref q]->cK K H p due->cK K H q pr->pr.length=due.length->due.length<=100->j < due.length->pr.getD j 0≠0->(∀i,i < j->pr.getD i 0=0)->pS (pr.getD j 0)->pS (1 / pr.getD j 0)->pS (due.getD j 0)->(∀r H',H r=none->aH H H'->cK K H' r (due.set j (due.getD j 0 - 1 / pr.getD j 0))->Q (.ref r) H')->o7 K vs H Q E9
def Et (rows:LR9) (m n:Nat):Prop:=∃M c e:Nat,0 < M/\M<=2^c/\M<=2^264/\c<=308/\(∀xs∈rows,∀x∈xs,Tp M (2^c) x)/\e*(c+4)<=1190/\min m (n+1)<=e/\min m n*(c+4)<=890/\(n+1)*(c+min m n*(c+4)+26)<=8900/\min (m+1) (n+1)*(c+1240)<=8900/\m<=12/\n<=12
def El (m n c:Nat):Bool:=decide (min m (n+1)*(c+4)<=1190) && (decide (min m n*(c+4)<=890) && (decide ((n+1)*(c+min m n*(c+4)+26)<=8900) && decide (min (m+1) (n+1)*(c+1240)<=8900)))
theorem yM {m n c:Nat} (h:El m n c=true):min m (n+1)*(c+4)<=1190/\min m n*(c+4)<=890/\(n+1)*(c+min m n*(c+4)+26)<=8900/\min (m+1) (n+1)*(c+1240)<=8900:=by
 unfold El at h;simpa only [cp,decide_eq_true_eq] using h
theorem n29:∀m,m < 13->∀n,n < 13->((m<=5/\n<=12)\/(m<=12/\n<=4))->El m n (16+4*m)=true/\(m*n<=12->El m n (284+2*m)=true):=by decide +kernel
theorem CU {rows:LR9} {m n M V:Nat} (hmn:(m<=5/\n<=12)\/(m<=12/\n<=4)) (M0:0 < M) (tF:∀xs∈rows,∀x∈xs,Fr M V x) (hAB:(M<=2^(12+2*m)/\V<=2^(4+2*m))\/(m*n<=12/\M<=2^264/\V<=2^(20+2*m))):Et rows m n:=by
 obtain ⟨ha,hb⟩:=n29 m (by lia) n (by lia) hmn;obtain ⟨a1,a2,a3,a4⟩:=yM ha;rcases hAB with ⟨h1,h2⟩ | ⟨h0,h1,h2⟩
 ·refine ⟨M,16+4*m,min m (n+1),M0,ag h1 (af (by decide) (by lia)),ag h1 (af (by decide) (by lia)),by lia,λxs hx x hx'=>Tp.of (tF xs hx x hx') ?_,a1,aj _,a2,a3,a4,by lia,by lia⟩;exact ag (bp h2 h1) (by rw[<- bx];exact af (by decide) (by lia))
 ·obtain ⟨b1,b2,b3,b4⟩:=yM (hb h0);refine ⟨M,284+2*m,min m (n+1),M0,ag h1 (af (by decide) (by lia)),h1,by lia,λxs hx x hx'=>Tp.of (tF xs hx x hx') ?_,b1,aj _,b2,b3,b4,by lia,by lia⟩;exact ag (bp h2 h1) (by rw[<- bx];exact af (by decide) (by lia))
section
variable {rows R ends:LR9} {row:List Rat} {n:Nat} {ps:List Nat}
theorem zE {A:LR9} {ws z:List Rat} (hA:∀xs∈A,xs.length=n) (hl:ws.length=A.length) (hz:z.length=n) (h:∀xs∈A,dB xs z=0):dB z (rJ A ws n)=0:=by
 have lw:(rJ A ws n).length=n:=sX;rw[cV (by rw[lw,hz]),hz]
 have e1:aQ n (λc=>z.getD c 0*(rJ A ws n).getD c 0)=aQ n (λc=>aQ ws.length λi=>ws.getD i 0*(bV A i c*z.getD c 0)):=aC λc hc=>by
  rw[pT hc,<- bU];exact aC λi _=>by grind
 rw[e1,<- eO];refine bK λi hi=>?_
 rw[bU];have hi':i < A.length:=by lia
 have:=h _ (aA hi');rw[cV (by rw[hA _ (aA hi'),hz]),hA _ (aA hi')] at this
 have e2:aQ n (λc=>bV A i c*z.getD c 0)=aQ n (λc=>(A[i]).getD c 0*z.getD c 0):=aC λc _=>by
  unfold bV;rw[aa (l:=A),ae hi'];rfl
 rw[e2,this];grind
theorem yn {A:LR9} (hA:∀xs∈A,xs.length=n) (hr:row.length=n) (h:eA A.length (bV A) λc=>row.getD c 0):∃ws,ws.length=A.length/\row=rJ A ws n:=by
 obtain ⟨w,hw⟩:=h;refine ⟨(List.range A.length).map w,by rw[ah,dk],?_⟩;apply cm (by rw[hr];exact sX.symm);intro c h1 h2;have e1:row.getD c 0=row[c]:=by rw[aa,ae h1];rfl
 have e2:(rJ A ((List.range A.length).map w) n).getD c 0=(rJ A ((List.range A.length).map w) n)[c]:=by rw[aa,ae h2];rfl
 have hw:row.getD c 0=_:=hw c;rw[<- e1,<- e2,pT (by lia),hw,ah,dk];refine aC λi hi=>?_
 rw[aa,aw,dA hi];rfl
theorem AG (RR:bJ rows n R ps) (hw:∀xs∈rows,xs.length=n) (hr:row.length=n) (h:∀xs∈rows,dB xs row=0):∃ws,ws.length=(bw R ps n).length/\row=rJ (bw R ps n) ws n:=by
 refine yn pX hr (xW RR (λc hc=>?_) λj hj=>?_)
 ·rw[aa,aN (by lia)];rfl
 ·obtain ⟨w,hw'⟩:=RR.2.2.back j hj
  have e:aQ n (λc=>bV R j c*row.getD c 0)=aQ n (λc=>aQ rows.length λi=>w i*(bV rows i c*row.getD c 0)):=aC λc _=>by
   rw[hw' c,eF,<- bU];exact aC λi _=>by grind
  rw[e,<- eO];refine bK λi hi=>?_
  have:=h _ (aA hi);rw[cV (by rw[hw _ (aA hi),hr]),hw _ (aA hi)] at this;rw[bU]
  have e2:aQ n (λc=>bV rows i c*row.getD c 0)=aQ n (λc=>(rows[i]).getD c 0*row.getD c 0):=aC λc _=>by
   unfold bV;rw[aa (l:=rows),ae hi];rfl
  rw[e2,this];grind
theorem AJ (RR:bJ rows n R ps) {a:Nat} (ha:a < n) (hp:a∉ps) (hr:row.length=n):dB row (vG R ps n a)=row.getD a 0 - aQ ps.length λj=>row.getD (ps.getD j 0) 0*bV R j a:=by
 obtain ⟨_,_,rr⟩:=RR;rw[cV (by unfold vG;rw[iZ,hr]),hr]
 have e1:aQ n (λc=>row.getD c 0*(vG R ps n a).getD c 0)=aQ n (λc=>(if c=a then row.getD a 0 else 0)+aQ ps.length λj=>if ps.getD j 0=c then -1*(row.getD (ps.getD j 0) 0*bV R j a) else 0):=by
  refine aC λc hc=>?_
  unfold vG;rw[yW hc];by_cases e:c=a
  ·rw[if_pos e,if_pos e,e,bK λj hj=>?_]
   ·grind
   ·rw[if_neg (λz=>hp (by rw[<- z];exact getD_in hj))]
  ·rw[if_neg e,if_neg e,<- bU,xy];refine aC λj _=>?_
   split
   ·rename_i q;rw[q];grind
   ·grind
 rw[e1,ig,cy (i:=a) ha (λj _ ne=>if_neg ne),if_pos rfl,<- eO]
 have e2:aQ ps.length (λj=>aQ n λc=>if ps.getD j 0=c then -1*(row.getD (ps.getD j 0) 0*bV R j a) else 0)=aQ ps.length λj=>-1*(row.getD (ps.getD j 0) 0*bV R j a):=by
  refine aC λj hj=>?_
  rw[cy (i:=ps.getD j 0) (rr.low j hj) λc _ ne=>if_neg λz=>ne z.symm,if_pos rfl]
 rw[e2,bU];grind
theorem xX (RR:bJ rows n R ps) (hw:∀xs∈rows,xs.length=n) (hr:row.length=n) (h:∀xs∈bw R ps n,dB xs row=0):∃ws,ws.length=rows.length/\row=rJ rows ws n:=by
 refine yn hw hr (eA.trans (λj hj=>RR.2.2.back j hj) ⟨λj=>row.getD (ps.getD j 0) 0,λc=>?_⟩);show row.getD c 0=_
 by_cases hc:c < n
 ·by_cases hp:c∈ps
  ·obtain ⟨j,hj,ej⟩:=aL hp;have g:ps.getD j 0=c:=by rw[aa,ae hj];exact ej
   rw[<- g,cy hj λi hi ne=>?_]
   ·have u:=RR.2.2.unit j hj j hj;rw[if_pos rfl] at u;rw[u,sV]
   ·have u:=RR.2.2.unit i hi j hj;rw[if_neg ne] at u;rw[u,h6]
  ·have z:=h _ (aD.mpr ⟨c,nR.mpr ⟨hc,hp⟩,rfl⟩);rw[lI (by rw[hr];exact iZ),AJ RR hc hp hr] at z;grind
 ·rw[aa,aN (by lia),bK λj _=>by rw[ug RR.2.1 (by lia),h6]];rfl
theorem yU (RR:bJ rows n R ps) (hw:∀xs∈rows,xs.length=n):∀z∈bw R ps n,∀xs∈rows,dB xs z=0:=λz hz xs hx=>by
 obtain ⟨a,h1,h2,rfl⟩:=oN hz;obtain ⟨i,hi,rfl⟩:=aL hx;exact yV RR h1 h2 (ae hi) (hw _ (aA hi))
theorem p0 {A Q Q':LR9} {qs qs':List Nat} (hA:∀xs∈A,xs.length=n) (hr:row.length=n) (RA:bJ (bD (bC A n) row) (A.length+1) Q qs) (RB:A.length∈qs->bJ (bD (A++[row]) (List.replicate A.length 0++[1])) (n+1) Q' qs'/\n∉qs') (B:LR9) (hB:∀xs∈B,xs.length=n) (h1:∀z∈B,∀xs∈A,dB xs z=0) (h2:∀z:List Rat,z.length=n->(∀xs∈A,dB xs z=0)->∃ws,ws.length=B.length/\z=rJ B ws n):(A.length∉qs)↔∀z∈B,dB z row=0:=by
 constructor
 ·intro hn z hz;rw[<- xF hr RA hn];exact zE hA d9 (hB z hz) (h1 z hz)
 ·intro h hn;obtain ⟨RR',hn'⟩:=RB hn;obtain ⟨p1,p2⟩:=xP hA hr RR' hn';have ls:(cI Q' qs' n).length=n:=d9;obtain ⟨ws,lw,e⟩:=h2 _ ls λxs hx=>p2 xs hx
  have:=zE (A:=B) (ws:=ws) (z:=row) hB lw hr λxs hx=>h xs hx
  rw[<- e,lI (by rw[hr,ls]),p1] at this;exact absurd this (by decide)
end
section
variable {rows ends:LR9} {row due:List Rat} {n:Nat}
theorem DY {M W:Nat} (h1:∀xs∈rows,∀x∈xs,Tp M W x) (h2:∀x∈due,Tp M W x):∀xs∈bD rows due,∀x∈xs,Tp M W x:=λxs hx x hx'=>by
 unfold bD at hx;obtain ⟨i,hi,rfl⟩:=aL hx;rw[gs] at hx';rcases aK.mp hx' with h | h
 ·exact h1 _ (aA _) x h
 ·rw[cg.mp h];exact h2 _ (aA _)
theorem ni {M W:Nat} (h:∀xs∈rows,∀x∈xs,Tp M W x):∀xs∈bC rows n,∀x∈xs,Tp M W x:=λxs hx x hx'=>by
 obtain ⟨c,_,rfl⟩:=aD.mp hx;obtain ⟨ys,hy,rfl⟩:=aD.mp hx';exact eN (h ys hy) c
theorem wa {M W:Nat} (h:∀xs∈rows,∀x∈xs,Tp M W x) (h2:∀x∈row,Tp M W x):∀xs∈rows++[row],∀x∈xs,Tp M W x:=λxs hx x hx'=>by
 rcases aK.mp hx with hx | hx
 ·exact h xs hx x hx'
 ·rw[cg.mp hx] at hx';exact h2 x hx'
theorem vU {M W k:Nat} (h:M<=W):∀x∈List.replicate k (0:Rat)++[1],Tp M W x:=λx hx=>by
 rcases aK.mp hx with hx | hx
 ·rw[ox hx];exact Tp.zero
 ·rw[cg.mp hx];exact ⟨M,by rw[ou,aq],by rw[aU];exact h⟩
theorem xJ {M w m N:Nat} (M0:0 < M) (M1:M<=2^4300) (w1:w<=4300) (h1:∀xs∈rows,∀x∈xs,Tp M (2^w) x) (h2:∀x∈due,Tp M (2^w) x) (hd:due.length=rows.length) (hr:min rows.length N<=m) (h15:m<=15) (h89:m*(w+4)<=8900):pI (bD rows due) N w :=
 yt M0 M1 w1 (DY h1 h2) (m:=m) (by rw[kd hd];exact hr) h15 h89
def Ep (rows ends:LR9) (n:Nat) (row:List Rat):Prop:=∃w,pI (bD (bC rows n) row) (rows.length+1) w/\pI (bD (rows++[row]) (List.replicate rows.length 0++[1])) (n+1) w/\pI (bD (bC ends n) row) (ends.length+1) w/\pI (bD (ends++[row]) (List.replicate ends.length 0++[1])) (n+1) w/\(∀xs∈ends,DT xs row)/\∀xs∈rows,DT xs row
theorem BV {E w:Nat} (E0:0 < E) (E1:E<=2^1300) (Ew:E<=2^w) (w13:w<=1300) (hn:(n+1)*(w+4)<=8900) (n12:n<=12) (hr:row.length=n) (h1:∀xs∈rows,∀x∈xs,Tp E (2^w) x) (h2:∀xs∈ends,∀x∈xs,Tp E (2^w) x) (h3:∀x∈row,Tp E (2^w) x):Ep rows ends n row:=by
 have E4:E<=2^4300:=ag E1 (af (by decide) (by decide));have lt:∀A:LR9,(bC A n).length=n:=λA=>bY
 have la:∀A:LR9,(List.replicate A.length (0:Rat)++[1]).length=(A++[row]).length:=λA=>by rw[au,au,az];rfl
 refine ⟨w,?_,?_,?_,?_,λxs hx=>?_,λxs hx=>?_⟩
 ·exact xJ (m:=n+1) E0 E4 (by lia) (ni h1) h3 (by rw[lt,hr]) (by rw[lt];lia) (by lia) hn
 ·exact xJ (m:=n+1) E0 E4 (by lia) (wa h1 h3) (vU Ew) (la _) (by lia) (by lia) hn
 ·exact xJ (m:=n+1) E0 E4 (by lia) (ni h2) h3 (by rw[lt,hr]) (by rw[lt];lia) (by lia) hn
 ·exact xJ (m:=n+1) E0 E4 (by lia) (wa h2 h3) (vU Ew) (la _) (by lia) (by lia) hn
 ·exact DT.pow E0 E0 E1 E1 (h2 xs hx) h3 (by decide) (by lia)
 ·exact DT.pow E0 E0 E1 E1 (h1 xs hx) h3 (by decide) (by lia)
theorem mul_pow {a b c d:Nat} (h:a<=2^c) (h':b<=2^d):a*b<=2^(c+d):=by
 rw[bx];exact bp h h'
theorem b29 {E f:Nat} (G:Et rows rows.length n) (hw:∀xs∈rows,xs.length=n) (E0:0 < E) (E1:E<=2^f) (f1:f<=1225) (hd:due.length=rows.length) (td:∀x∈due,Tp E (2^f) x) :
  (∃w,pI (bD rows due) (n+1) w/\pI (qA rows n due) (rows.length+1) w) /\
  (∀R ps,bJ (bD rows due) (n+1) R ps->n∉ps->∀xs∈rows,DT xs (cI R ps n)) /\
  (∀R ps,bJ (qA rows n due) (rows.length+1) R ps->rows.length∉ps->∃q,0 < q/\q<=2^(1195+f)/\∀y∈cI R ps rows.length,Tp q (2^(1195+f)) y):=by
 obtain ⟨M,c,e,M0,Mc,M264,c308,tp,he,hme,_,_,hs,m12,n12⟩:=G;have lt:(bC rows n).length=n:=bY;have hs':min (rows.length+1) (n+1)*(c+f+4)<=8900:=ag (e7 _ (by lia)) hs;have ME:M*E<=2^(c+f):=mul_pow Mc E1;have ME4:M*E<=2^4300:=ag ME (af (by decide) (by lia));have r1:∀xs∈rows,∀x∈xs,Tp (M*E) (2^(c+f)) x:=λxs hx x hx'=>((tp xs hx x hx').scale E).mono (mul_pow (aj _) E1)
 have r2:∀x∈due,Tp (M*E) (2^(c+f)) x:=λx hx=>by
  rw[bX M,Nat.add_comm c];exact ((td x hx).scale M).mono (mul_pow (aj _) Mc)
 have X:(16*2^c)^e<=2^1190:=by
  rw[show 16*2^c=2^(c+4) by rw[bx,bX],<- Nat.pow_mul,bX];exact af (by decide) he
 refine ⟨⟨c+f,?_,?_⟩,λR ps RR hn xs hx=>?_,λR ps RR hn=>?_⟩
 ·exact xJ (m:=min (rows.length+1) (n+1)) (cf M0 E0) ME4 (by lia) r1 r2 hd (by lia) (by lia) hs'
 ·exact xJ (m:=min (rows.length+1) (n+1)) (cf M0 E0) ME4 (by lia) (wa (ni r1) r2) (vU ME) (by rw[au,au,lt,az];rfl) (by rw[au,lt,bO];lia) (by lia) hs'
 ·have RR':=RR;rw[<- oy hw] at RR';have le1:=RR.le;obtain ⟨q,q0,q1,q2⟩:=Ab (K0:=bC rows n) (n:=rows.length) (L:=due) (D:=M) (E:=E) (W0:=2^c) (W1:=2^f) (e:=e) (ps:=ps) (λh=>by lia) eM hd (by lia) M0 E0 cb cb (ni tp) td (by rw[lt];exact RR') (by rw[lt];exact hn);rw[lt] at q2;have q3:=ag q1 X;refine DT.pow (a:=264) (c:=f+1190) (e:=c) (f:=264+(4+(f+1190))) M0 (cf E0 q0) M264 (mul_pow E1 q3) (tp xs hx) (λy hy=>(q2 y hy).mono ?_) (by lia) (by lia);exact mul_pow M264 (mul_pow (show rows.length<=2^4 by lia) (mul_pow (aj _) X))
 ·have le1:=RR.le;have RR':=RR;unfold qA at RR';obtain ⟨q,q0,q1,q2⟩:=xO (K0:=bC rows n) (n:=rows.length) (L:=due) (D:=M) (E:=E) (W0:=2^c) (W1:=2^f) (e:=e) (ps:=ps) (λh h'=>by rw[lt] at h';lia) eM hd (by lia) M0 E0 cb (ni tp) td (by rw[lt];exact RR') hn
  have b:(16*2^c)^e*(16*(2^f+E))<=2^(1195+f):=by
   have:16*(2^f+E)<=2^(5+f):=by rw[bx];lia
   have:=mul_pow X this;rwa [show 1190+(5+f)=1195+f by lia] at this
  exact ⟨q,q0,ag q1 b,λy hy=>(q2 y hy).mono b⟩
end
section
variable {pr due:List Rat} {j:Nat}
theorem vm {f:Nat->Rat}:∀n,(∃i,i < n/\f i≠0)->∃j,j < n/\f j≠0/\∀i,i < j->f i=0
 | 0,⟨i,h,_⟩=>absurd h (rF _)
 | n+1,⟨i,h,ne⟩=>by
  by_cases z:∃i,i < n/\f i≠0
  ·obtain ⟨j,a,b,c⟩:=vm n z;exact ⟨j,by lia,b,c⟩
  ·have zz:∀i,i < n->f i=0:=λi hi=>Classical.byContradiction λh=>z ⟨i,hi,h⟩
   have:i=n:=Classical.byContradiction λh'=>ne (zz i (by lia))
   exact ⟨n,by lia,this ▸ ne,zz⟩
theorem ya (hl:pr.length=due.length) (h:dB pr due=1):∃j,j < due.length/\pr.getD j 0≠0/\∀i,i < j->pr.getD i 0=0:=by
 refine vm (f:=λj=>pr.getD j 0) due.length (Classical.byContradiction λz=>?_);rw[cV hl,bK λc hc=>?_] at h
 ·exact absurd h (by decide)
 ·have:pr.getD c 0=0:=Classical.byContradiction λy=>z ⟨c,by lia,y⟩
  rw[this];grind
theorem yC {x:Rat} {c:Nat} (hj:j < due.length):(due.set j x).getD c 0=if c=j then x else due.getD c 0:=by
 rw[aa,List.getElem?_set,aa];by_cases e:j=c
 ·subst e;rw[if_pos rfl,if_pos hj,if_pos rfl];rfl
 ·rw[if_neg e,if_neg λz=>e z.symm]
theorem zF (hl:pr.length=due.length) (hj:j < due.length) (hp:pr.getD j 0≠0) (h:dB pr due=1):dB pr (due.set j (due.getD j 0 - 1 / pr.getD j 0))=0:=by
 rw[cV (by rw[cN];exact hl)];rw[cV hl] at h
 have e:aQ pr.length (λc=>pr.getD c 0*(due.set j (due.getD j 0 - 1 / pr.getD j 0)).getD c 0)=aQ pr.length (λc=>pr.getD c 0*due.getD c 0+if c=j then -1 else 0):=aC λc _=>by
  rw[yC hj];by_cases z:c=j
  ·rw[if_pos z,if_pos z,z];have:pr.getD j 0*(1 / pr.getD j 0)=1:=by rw[Rat.div_def,ou];exact Rat.mul_inv_cancel _ hp
   grind
  ·rw[if_neg z,if_neg z];grind
 rw[e,ig,h,cy (i:=j) (by lia) λc _ ne=>if_neg ne,if_pos rfl];grind
theorem AK {q:Nat} (hj:j < due.length) (q0:0 < q) (q1:q<=2^1210) (hp:pr.getD j 0≠0) (tq:∀y∈pr,Tp q (2^1210) y) (td:∀x∈due,Tp 2520 22680 x):pS (1 / pr.getD j 0)/\∃E,0 < E/\E<=2^1225/\∀x∈due.set j (due.getD j 0 - 1 / pr.getD j 0),Tp E (2^1225) x:=by
 obtain ⟨z,ez,bz⟩:=eN tq j
 have qne:(q:Rat)≠0:=λw=>by
  have:((q:Int):Rat)=0:=by rw[aq];exact w
  have:=i5 this
  lia
 have zne:z≠0:=λw=>by
  rw[w] at ez;rcases kS.mp (show pr.getD j 0*(q:Rat)=0 from ez) with h | h
  ·exact hp h
  ·exact qne h
 have zr:(z:Rat)≠0:=λw=>zne (i5 w)
 have t1:Tp z.natAbs q (1 / pr.getD j 0):=by
  have key:1 / pr.getD j 0*(z:Rat)=(q:Rat):=by
   rw[<- ez,<- Rat.mul_assoc,Rat.div_def,ou,Rat.inv_mul_cancel _ hp,ou]
  rcases vF z with h | h
  ·exact ⟨q,by rw[<- aq,<- h,key,aq],by rw[aU];exact aj _⟩
  ·refine ⟨-(q:Int),?_,by rw[e8,aU];exact aj _⟩;have hq:((z.natAbs:Nat):Rat)=-(z:Rat):=by rw[<- aq,<- bH];congr 1;lia
   rw[hq,bH,aq,<- key];grind
 have p1:(2:Nat)^1210<=2^3995:=af (by decide) (by decide);have z0:0 < z.natAbs:=by lia
 have p12:2520*z.natAbs<=2^1222:=mul_pow (c:=12) (d:=1210) (by decide) bz;have e25:(2:Nat)^1225=2^15*2^1210:=by rw[<- bx]
 have e22:(2:Nat)^1222=2^12*2^1210:=by rw[<- bx]
 refine ⟨iS t1 z0 (by lia) (by lia),2520*z.natAbs,by lia,by lia,λx hx=>?_⟩;have up:∀y∈due,Tp (2520*z.natAbs) (22680*2^1210) y:=λy hy=>((td y hy).scale z.natAbs).mono (e7 _ bz)
 rcases cP hx with hx | rfl
 ·exact (up x hx).mono (by lia)
 ·have a1:=up _ (getD_in (e:=0) hj);have a2:=t1.scale 2520;rw[bX z.natAbs] at a2;obtain ⟨y,ey,byy⟩:=a2;have a3:Tp (2520*z.natAbs) (2520*2^1210) (-(1 / pr.getD j 0)):=⟨-y,by rw[bH,<- ey];grind,by rw[e8];exact ag byy (by lia)⟩;rw[Rat.sub_eq_add_neg];exact (a1.add a3).mono (by lia)
end
inductive o4 (K:FG9) (vs:List V) (H:Hp) (Q:VK) (E9:XK):Prop
 | mk (p q:Addr) (n:Nat) (H0:Hp) (rows:LR9) (due:List Rat):vs=[.ref p,.int n,.ref q]->dj K H0 H p rows->cK K H q due->due.length=rows.length->(∀xs∈rows,xs.length=n)->Et rows rows.length n->(∀x∈due,Tp 2520 22680 x)->(∀H',aH H H'->Q (.bl true) H')->o4 K vs H Q E9
inductive nD (K:FG9) (vs:List V) (H:Hp) (Q:VK) (E9:XK):Prop
 | mk (p q r:Addr) (n:Nat) (H0 H1:Hp) (rows R:LR9) (row:List Rat) (ps:List Nat):vs=[.ref p,.int n,.ref q,.ref r]->dj K H0 H p rows->cK K H q row->dj K H1 H r (bw R ps n)->bJ rows n R ps->row.length=n->rows.length<=12->n<=12->(∀xs∈rows,xs.length=n)->Ep rows (bw R ps n) n row->(∀H',aH H H'->Q (.bl true) H')->nD K vs H Q E9
def uA (x y:Str) (b:Bool):Str:=if b=true then x else y
theorem A5 {b:Bool}:decide (uA (Str.ofString "in") (Str.ofString "out") b=Str.ofString "in")=b:=by cases b <;> decide
theorem BJ {b:Bool}:decide (uA (Str.ofString "yes") (Str.ofString "no") b=Str.ofString "yes")=b:=by cases b <;> decide
section
variable {K:FG9} {H H0:Hp} {Q:VK} {EE:Value->Shared->Prop} {p q:Addr} {n w:Nat} {A B:LR9} {row:List Rat}
theorem wu {x y:Str} {b:Bool} {P:Prop} (hb:b=true↔P) (h:P):uA x y b=x:=by unfold uA;rw[if_pos (hb.mpr h)]
theorem uz {x y:Str} {b:Bool} {P:Prop} (hb:b=true↔P) (h:¬P):uA x y b=y:=by unfold uA;rw[if_neg λz=>h (hb.mp z)]
theorem wm {E} (G:dj K H0 H p A) (Rr:cK K H q row) (lr:row.length=n) (m90:A.length<=90) (n90:n<=90) (hA:∀xs∈A,xs.length=n) (F1:pI (bD (bC A n) row) (A.length+1) w) (F2:pI (bD (A++[row]) (List.replicate A.length 0++[1])) (n+1) w)
  (hB:∀xs∈B,xs.length=n) (h1:∀z∈B,∀xs∈A,dB xs z=0) (h2:∀z:List Rat,z.length=n->(∀xs∈A,dB xs z=0)->∃ws,ws.length=B.length/\z=rJ B ws n)
  (k:∀t x H',H' t=some (.tup [.str (uA (Str.ofString "in") (Str.ofString "out") (DW B row)),.ref x])->aH H H'->Q (.ref t) H'):kU K [.ref p,.int n,.ref q] H Q E:=by
 refine ⟨p,q,n,w,w,H0,A,row,rfl,G,Rr,lr,m90,n90,hA,F1,F2,λt x R ps M H' RR hn g _ s _ _ _ _=>?_,λt x R ps R' ps' M H' RR hn RR' hn' g _ s _ _ _ _=>?_⟩
 ·refine k t x H' ?_ s;rw[wu pY ((p0 (Q':=[]) (qs':=[]) hA lr RR (λz=>absurd z hn) B hB h1 h2).mp hn)];exact g
 ·refine k t x H' ?_ s;rw[uz pY λz=>((p0 hA lr RR (λ_=>⟨RR',hn'⟩) B hB h1 h2).mpr z) hn];exact g
theorem z8 {E} {m:Nat} (G:dj K H0 H p (bC A n)) (Rr:cK K H q row) (lr:row.length=n) (hm:m=A.length) (m90:A.length<=90) (n90:n<=90) (hA:∀xs∈A,xs.length=n) (F1:pI (bD (bC A n) row) (A.length+1) w) (F2:pI (bD (A++[row]) (List.replicate A.length 0++[1])) (n+1) w)
  (hB:∀xs∈B,xs.length=n) (h1:∀z∈B,∀xs∈A,dB xs z=0) (h2:∀z:List Rat,z.length=n->(∀xs∈A,dB xs z=0)->∃ws,ws.length=B.length/\z=rJ B ws n)
  (k:∀t x H',H' t=some (.tup [.str (uA (Str.ofString "yes") (Str.ofString "no") (DW B row)),.ref x])->aH H H'->Q (.ref t) H'):oC K [.ref p,.int m,.ref q] H Q E:=by
 subst hm;have lt:(bC A n).length=n:=bY;have es:qA (bC A n) A.length row=bD (A++[row]) (List.replicate A.length 0++[1]):=by unfold qA;rw[oy hA]
 refine ⟨p,q,A.length,w,w,H0,bC A n,row,rfl,G,Rr,by lia,by lia,m90,eM,F1,by rw[es,lt];exact F2,λt x R ps M H' RR hn g _ s _ _ _ _=>?_,λt x R ps R' ps' M H' RR hn RR' hn' g _ s _ _ _ _=>?_⟩
 ·refine k t x H' ?_ s;rw[wu pY ((p0 (Q':=[]) (qs':=[]) hA lr RR (λz=>absurd z hn) B hB h1 h2).mp hn)];exact g
 ·rw[es,lt] at RR';rw[lt] at hn';refine k t x H' ?_ s;rw[uz pY λz=>((p0 hA lr RR (λ_=>⟨RR',hn'⟩) B hB h1 h2).mpr z) hn];exact g
end
section
variable {rows ends:LR9} {n M D c d:Nat}
theorem e29 (M0:0 < M) (D0:0 < D) (Mc:M<=2^c) (M264:M<=2^264) (Dd:D<=2^d) (c308:c<=308) (d890:d<=890) (hn:(n+1)*(c+d+26)<=8900) (n12:n<=12) (tp:∀xs∈rows,∀x∈xs,Tp M (2^c) x) (tD:∀xs∈ends,∀x∈xs,Tp D (2^d) x) {row:List Rat} (lr:row.length=n) (tr:∀x∈row,Tp (2520*(M*D)) (2^(c+d+22)) x):Ep rows ends n row:=by
 have a1:2520*(M*D)<=2^(12+(264+d)):=mul_pow (by decide) (mul_pow M264 Dd);have a2:2520*(M*D)<=2^(12+(c+d)):=mul_pow (by decide) (mul_pow Mc Dd);refine BV (E:=2520*(M*D)) (w:=c+d+22) (cf (by decide) (cf M0 D0)) (ag a1 (af (by decide) (by lia))) (ag a2 (af (by decide) (by lia))) (by lia) hn n12 lr (λxs hx x hx'=>?_) (λxs hx x hx'=>?_) tr
 ·have:=(tp xs hx x hx').scale (2520*D);rw[show M*(2520*D)=2520*(M*D) by rw[<- cX,bX M,cX]] at this;exact this.mono (ag (mul_pow (aj _) (mul_pow (c:=12) (by decide) Dd)) (af (by decide) (by lia)))
 ·have:=(tD xs hx x hx').scale (2520*M);rw[show D*(2520*M)=2520*(M*D) by rw[bX D,cX]] at this;exact this.mono (ag (mul_pow (aj _) (mul_pow (c:=12) (by decide) Mc)) (af (by decide) (by lia)))
theorem EG {x:Rat} (Mc:M<=2^c) (Dd:D<=2^d) (h:Tp 2520 22680 x):Tp (2520*(M*D)) (2^(c+d+20)) x:=(h.scale (M*D)).mono (ag (mul_pow (c:=15) (by decide) (mul_pow Mc Dd)) (af (by decide) (by lia)))
theorem EF {x:Rat} {m:Nat} (m12:m<=12) (Dd:D<=2^d) (h:Tp (2520*M) (m*(22680*2^c)) x):Tp (2520*(M*D)) (2^(c+d+20)) x:=by
 have:=h.scale D;rw[cX] at this;exact this.mono (ag (mul_pow (mul_pow (c:=4) (show m<=2^4 by lia) (mul_pow (c:=15) (by decide) (aj _))) Dd) (af (by decide) (by lia)))
theorem ED {x:Rat} {m:Nat} (m12:m<=12) (Mc:M<=2^c) (h:Tp (2520*D) (m*(22680*2^d)) x):Tp (2520*(M*D)) (2^(c+d+20)) x:=by
 have:=h.scale M;rw[cX,bX D] at this;exact this.mono (ag (mul_pow (mul_pow (c:=4) (show m<=2^4 by lia) (mul_pow (c:=15) (by decide) (aj _))) Mc) (af (by decide) (by lia)))
theorem yN {a:Nat}:2^(a+20)+2^(a+20)<=2^(a+22):=by
 rw[bx 2 a 20,bx 2 a 22]
 lia
theorem vK {W W':Nat} {xs ys:List Rat} (h1:∀x∈xs,Tp M W x) (h2:∀y∈ys,Tp M W' y):∀z∈List.zipWith (λx y=>x+y) xs ys,Tp M (W+W') z:=λz hz=>by
 obtain ⟨i,hi,rfl⟩:=aL hz;rw[gs];exact (h1 _ (aA _)).add (h2 _ (aA _))
theorem wA {W B:Nat} {q:Rat} {ys:List Rat} (hq:Tp D B q) (h:∀y∈ys,Tp M W y):∀z∈ys.map (λy=>q*y),Tp (D*M) (B*W) z:=λz hz=>by
 obtain ⟨y,hy,rfl⟩:=aD.mp hz;exact hq.mul (h y hy)
theorem xn {x:Rat} (h:Dr 9 x):Tp 2520 22680 x:=Tp.of (zD h (Nat.dvd_refl _)) (by decide)
theorem mI {W a:Nat} {x:Rat} (h:Tp M W x) (M0:0 < M) (h1:M<=2^a) (h2:W<=2^a) (ha:a<=3995):pS x:=iS h M0 (ag h1 (af (by decide) ha)) (ag h2 (af (by decide) ha))
end
end L2
open L2
local macro_rules | `(tactic| walk_at "hl") => `(tactic| first | (show _ ≤ sizeLine; with_unfolding_all decide) | (with_unfolding_all exact (by decide)))
local macro_rules | `(tactic| walk_at "sq") => `(tactic| first | with_reducible assumption | with_reducible exact oo.of (by assumption) | with_reducible exact bT.of (by assumption) | with_reducible exact oo.of aF | with_reducible exact bT.of aF | assumption)
local macro_rules | `(tactic| walk_at "sc") => `(tactic| first | (with_reducible show (0 : Int) < _; decide) | with_reducible exact AX (by decide) (by decide) | with_reducible exact AY (by decide) (by decide) | with_reducible exact cpow_of (by decide) (by decide) (by decide))
local macro_rules | `(tactic| walk_at "rd") => `(tactic| first
  | with_reducible refine Cb ?_
  | with_reducible refine Ak ?_
  | with_reducible refine Cr ?_
  | with_reducible refine yK ?_
  | ((with_reducible refine' BY ?hx1 ?_); (case hx1 => with_unfolding_all rfl))
  | with_reducible refine Ez ?_
  | with_reducible refine DG ?_
  | with_reducible refine DJ ?_
  | with_reducible refine DC ?_
  | with_reducible refine EA ?_
  | with_reducible refine Cq ?_
  | with_reducible refine Cg ?_
  | with_reducible refine Cp ?_
  | with_reducible refine rd_neS ?_
  | with_reducible refine rd_eqB ?_
  | with_reducible refine rd_neB ?_
  | with_reducible refine Al ?_
  | with_reducible refine rd_listZip ?_
  | with_reducible refine rd_fld ?_
  | with_reducible refine rd_sfld ?_
  | with_reducible refine rd_meth ?_
  | with_reducible refine rd_make ?_
  | with_reducible refine yJ ?_
  | with_reducible refine Ai ?_
  | with_reducible refine DD ?_
  | with_reducible refine Cc ?_
  | with_reducible refine rd_retN ?_
  | with_reducible refine Cm ?_
  | with_reducible refine Cs ?_
  | with_reducible refine DF ?_
  | with_reducible refine Ce ?_
  | with_reducible refine Aw ?_
  | with_reducible refine rd_orV ?_
  | with_reducible refine rd_notV ?_
  | with_reducible refine Cn ?_
  | with_reducible refine BX ?_
  | with_reducible refine D4 ?_
  | with_reducible refine DZ ?_
  | with_reducible refine D2 ?_
  | with_reducible refine D3 ?_
  | with_reducible refine DB ?_
  | with_reducible refine Cf ?_
  | with_reducible refine Ar ?_
  | with_reducible refine B9 ?_
  | with_reducible refine Ci ?_
  | with_reducible refine Au ?_
  | with_reducible refine DH ?_
  | with_reducible refine Aq ?_
  | with_reducible refine Cd ?_
  | with_reducible refine Av ?_
  | ((with_reducible refine' rd_aug ?hx1 ?_); (case hx1 => with_unfolding_all rfl))
  | with_reducible refine Ck ?_
  | with_reducible refine An ?_
  | with_reducible refine yL ?_
  | with_reducible refine Ao ?_
  | with_reducible refine DE ?_
  | with_reducible refine xN ?_
  | with_reducible refine Aj ?_
  | with_reducible refine Co ?_
  | with_reducible refine yI ?_
  | with_reducible refine rd_iTup ?_
  | with_reducible refine yH ?_
  | with_reducible refine yG ?_
  | ((with_reducible refine' As ?hx1 ?_); (case hx1 => with_unfolding_all rfl))
  | with_reducible refine Ah ?_
  | with_reducible refine DI ?_
  | with_reducible refine rd_bm0 ?_
  | with_reducible refine rd_brk ?_
  | ((with_reducible refine' Am ?hx1 ?hx2 ?_); (case hx1 => walk_at "sq"); (case hx2 => with_unfolding_all rfl))
  | with_reducible refine rd_cont ?_
  | ((with_reducible refine' eh ?hx1 ?_); (case hx1 => walk_at "sc"))
  | ((with_reducible refine' Cj ?hx1 ?hx2 ?_); (case hx1 => walk_at "sq"); (case hx2 => with_unfolding_all rfl))
  | ((with_reducible refine' cJ ?hx1 ?hx2 ?_); (case hx1 => walk_at "sq"); (case hx2 => with_unfolding_all rfl))
  | ((with_reducible refine' Ap ?hx1 ?hx2 ?_); (case hx1 => walk_at "sq"); (case hx2 => with_unfolding_all rfl))
  | ((with_reducible refine' jY ?hx1 ?hx2 ?hx3 ?_); (case hx1 => with_reducible first | assumption | exact aF); (case hx2 => with_unfolding_all rfl); (case hx3 => with_unfolding_all rfl))
  | with_reducible refine ⟨_, rfl, ?_⟩
  | with_reducible refine ⟨_, _, rfl, ?_⟩)
local macro_rules | `(tactic| walk_at "w") => `(tactic| repeat walk_at "rd")
local macro_rules | `(tactic| walk_at "d") => `(tactic| exact ⟨rfl,rfl,rfl,by decide +kernel,rfl,by decide +kernel,by decide +kernel⟩)
namespace Lw
open PySem PySem.Spec PyProof.Rows L2 Nm
set_option maxHeartbeats 4000000
def top (i:Nat):Stmt:=PySem.Challenge.pw_helmsum_k29_whole_either_or.main.body.getD i (.Pass ⟨0,0,0,0⟩)
abbrev gF:Stmt:=top 30
abbrev fD:Stmt:=top 31
abbrev eU:Stmt:=top 46
abbrev gD:Stmt:=top 32
abbrev d6:Stmt:=top 37
abbrev gC:Stmt:=top 38
abbrev gB:Stmt:=top 33
abbrev fG:Stmt:=top 40
abbrev fF:Stmt:=top 35
abbrev iO:Stmt:=top 41
abbrev fI:Stmt:=top 45
abbrev fB:Stmt:=top 9
abbrev cQ:Stmt:=top 3
abbrev cG:Stmt:=top 4
abbrev df:Stmt:=top 8
abbrev eQ:Stmt:=top 18
abbrev iN:Stmt:=top 20
abbrev eT:Stmt:=top 19
abbrev lS:Stmt:=top 21
abbrev jP:Stmt:=top 5
abbrev iK:Stmt:=top 22
abbrev gA:Stmt:=top 11
abbrev de:Stmt:=top 15
abbrev iM:Stmt:=top 16
abbrev lW:Stmt:=top 6
abbrev iL:Stmt:=top 26
abbrev d4:Stmt:=top 17
abbrev lV:Stmt:=top 27
abbrev eP:Stmt:=top 10
abbrev jO:Stmt:=top 24
abbrev d3:Stmt:=top 13
abbrev lU:Stmt:=top 25
abbrev gE:Stmt:=top 39
abbrev fH:Stmt:=top 34
abbrev fE:Stmt:=top 36
abbrev d8:Stmt:=top 48
abbrev d5:Stmt:=top 49
abbrev dZ:Stmt:=top 28
abbrev d7:Stmt:=top 47
abbrev dD:Stmt:=top 50
abbrev se:Stmt:=top 51
set_option genInjectivity false in
set_option genSizeOf false in
structure Ads where
 kB:Addr
 kl:FuncData
 ju:Addr
 jj:FuncData
 iH:Addr
 iD:FuncData
 kz:Addr
 ki:FuncData
 hJ:Addr
 gP:FuncData
 ky:Addr
 kh:FuncData
 kx:Addr
 kg:FuncData
 jx:Addr
 jo:FuncData
 jw:Addr
 jm:FuncData
 mC:Addr
 ml:FuncData
 jz:Addr
 jr:FuncData
 jt:Addr
 ji:FuncData
 eY:Addr
 eW:FuncData
 eE:Addr
 eD:FuncData
 fu:Addr
 fo:FuncData
 iF:Addr
 iB:FuncData
 mB:Addr
 mi:FuncData
 iG:Addr
 iC:FuncData
 qe:Addr
 p7:FuncData
 om:Addr
 nY:FuncData
 mq:Addr
 me:FuncData
 kv:Addr
 kf:FuncData
 ft:Addr
 fm:FuncData
 my:Addr
 mh:FuncData
 qi:Addr
 qb:FuncData
 mw:Addr
 mf:FuncData
 gY:Addr
 gN:FuncData
 qh:Addr
 p9:FuncData
 iE:Addr
 iA:FuncData
 oj:Addr
 nX:FuncData
 gX:Addr
 gM:FuncData
 qf:Addr
 p8:FuncData
 kA:Addr
 kj:FuncData
 jy:Addr
 jq:FuncData
 jv:Addr
 jk:FuncData
 hV:Addr
 gR:FuncData
 gZ:Addr
 gO:FuncData
 gW:Addr
 gL:FuncData
 hU:Addr
 gQ:FuncData
 gg:Addr
 fY:FuncData
 zP:Addr
 zH:FuncData
 a_NOUGHT:Addr
 a_ONE:Addr
structure Txt (K:W.Frag) (mg:Str->Option Value) (Z:Ads):Prop where
 pA:mg "_law_bag"=some (.ref Z.kB)
 rB:Binds K Z.kl ["_law_script"] []
 m9:ja K "_law_bag" "_law_bag" gF Z.kB Z.kl
 bu:mg "_law_take"=some (.ref Z.ju)
 bE:Binds K Z.jj ["_law_bag_here","_law_many"] []
 bB:ja K "_law_take" "_law_take" fD Z.ju Z.jj
 mO:mg "_law_sizes"=some (.ref Z.iH)
 oh:Binds K Z.iD ["_law_bag_here"] []
 kG:ja K "_law_sizes" "_law_sizes" eU Z.iH Z.iD
 dh:mg "_law_low"=some (.ref Z.kz)
 dP:Binds K Z.ki ["_law_top","_law_bottom"] []
 du:ja K "_law_low" "_law_low" gD Z.kz Z.ki
 fW:mg "_law_number"=some (.ref Z.hJ)
 gU:Binds K Z.gP ["_law_bag_here","_law_wide"] []
 fh:ja K "_law_number" "_law_number" d6 Z.hJ Z.gP
 jg:mg "_law_row"=some (.ref Z.ky)
 ku:Binds K Z.kh ["_law_bag_here","_law_many","_law_wide"] []
 i6:ja K "_law_row" "_law_row" gC Z.ky Z.kh
 lB:mg "_law_sum"=some (.ref Z.kx)
 m7:Binds K Z.kg ["_law_one","_law_other"] []
 kF:ja K "_law_sum" "_law_sum" gB Z.kx Z.kg
 fV:mg "_law_plus"=some (.ref Z.jx)
 ij:Binds K Z.jo ["_law_one","_law_other"] []
 fO:ja K "_law_plus" "_law_plus" fG Z.jx Z.jo
 j9:mg "_law_prod"=some (.ref Z.jw)
 lJ:Binds K Z.jm ["_law_one","_law_other"] []
 jB:ja K "_law_prod" "_law_prod" fF Z.jw Z.jm
 ka:mg "_law_by"=some (.ref Z.mC)
 mn:Binds K Z.ml ["_law_by_here","_law_row_here"] []
 jS:ja K "_law_by" "_law_by" iO Z.mC Z.ml
 nN:mg "_law_grid"=some (.ref Z.jz)
 pH:Binds K Z.jr ["_law_bag_here","_law_many","_law_size"] []
 lQ:ja K "_law_grid" "_law_grid" fI Z.jz Z.jr
 nK:mg "tops_over"=some (.ref Z.jt)
 pE:Binds K Z.ji ["row","bottom"] []
 lL:ja K "tops_over" "tops_over" fB Z.jt Z.ji
 fU:mg "common_divisor"=some (.ref Z.eY)
 gJ:Binds K Z.eW ["one","other"] []
 eZ:ja K "common_divisor" "common_divisor" cQ Z.eY Z.eW
 i4:mg "common_multiple"=some (.ref Z.eE)
 js:Binds K Z.eD ["wholes"] []
 gm:ja K "common_multiple" "common_multiple" cG Z.eE Z.eD
 jR:mg "common_bottom"=some (.ref Z.fu)
 kL:Binds K Z.fo ["row"] []
 iu:ja K "common_bottom" "common_bottom" df Z.fu Z.fo
 mM:mg "first_with"=some (.ref Z.iF)
 oe:Binds K Z.iB ["lines","begin","place"] []
 kD:ja K "first_with" "first_with" eQ Z.iF Z.iB
 qR:mg "cleared"=some (.ref Z.mB)
 sS:Binds K Z.mi ["lines","at","place","before"] []
 o3:ja K "cleared" "cleared" iN Z.mB Z.mi
 mN:mg "brought_up"=some (.ref Z.iG)
 og:Binds K Z.iC ["lines","at","to"] []
 kE:ja K "brought_up" "brought_up" eT Z.iG Z.iC
 qP:mg "swept"=some (.ref Z.qe)
 ur:Binds K Z.p7 ["rows","wide"] []
 qj:ja K "swept" "swept" lS Z.qe Z.p7
 ma:mg "lowest"=some (.ref Z.om)
 oa:Binds K Z.nY ["top","bottom"] []
 lM:ja K "lowest" "lowest" jP Z.om Z.nY
 m3:mg "reduced"=some (.ref Z.mq)
 oW:Binds K Z.me ["rows","wide"] []
 mE:ja K "reduced" "reduced" iK Z.mq Z.me
 pq:mg "unit_row"=some (.ref Z.kv)
 rz:Binds K Z.kf ["many","at"] []
 m8:ja K "unit_row" "unit_row" gA Z.kv Z.kf
 jQ:mg "leading_place"=some (.ref Z.ft)
 kK:Binds K Z.fm ["row"] []
 ir:ja K "leading_place" "leading_place" de Z.ft Z.fm
 m4:mg "leading"=some (.ref Z.my)
 oX:Binds K Z.mh ["rows"] []
 mF:ja K "leading" "leading" iM Z.my Z.mh
 vh:mg "minus"=some (.ref Z.qi)
 xv:Binds K Z.qb ["one","other"] []
 uw:ja K "minus" "minus" lW Z.qi Z.qb
 qQ:mg "null_at"=some (.ref Z.mw)
 sR:Binds K Z.mf ["rows","wide","at"] []
 oZ:ja K "null_at" "null_at" iL Z.mw Z.mf
 lA:mg "free_places"=some (.ref Z.gY)
 mP:Binds K Z.gN ["rows","wide"] []
 jI:ja K "free_places" "free_places" d4 Z.gY Z.gN
 vg:mg "nulls"=some (.ref Z.qh)
 xu:Binds K Z.p9 ["rows","wide"] []
 uv:ja K "nulls" "nulls" lV Z.qh Z.p9
 jG:mg "nought_row"=some (.ref Z.iE)
 ks:Binds K Z.iA ["many"] []
 iI:ja K "nought_row" "nought_row" eP Z.iE Z.iA
 oO:mg "solved"=some (.ref Z.oj)
 rA:Binds K Z.nX ["rows","wide","due"] []
 oq:ja K "solved" "solved" jO Z.oj Z.nX
 fS:mg "grid_turned"=some (.ref Z.gX)
 gT:Binds K Z.gM ["grid","wide"] []
 fg:ja K "grid_turned" "grid_turned" d3 Z.gX Z.gM
 ll:mg "solve"=some (.ref Z.qf)
 n9:Binds K Z.p8 ["rows","wide","due"] []
 mD:ja K "solve" "solve" lU Z.qf Z.p8
 eI:mg "_law_dot"=some (.ref Z.kA)
 fA:Binds K Z.kj ["_law_one","_law_other"] []
 eK:ja K "_law_dot" "_law_dot" gE Z.kA Z.kj
 nM:mg "_law_less"=some (.ref Z.jy)
 pG:Binds K Z.jq ["_law_one","_law_other"] []
 lP:ja K "_law_less" "_law_less" fH Z.jy Z.jq
 nL:mg "_law_quot"=some (.ref Z.jv)
 pF:Binds K Z.jk ["_law_one","_law_other"] []
 lO:ja K "_law_quot" "_law_quot" fE Z.jv Z.jk
 lD:mg "_law_mended"=some (.ref Z.hV)
 mR:Binds K Z.gR ["_law_due","_law_prices"] []
 jK:ja K "_law_mended" "_law_mended" d8 Z.hV Z.gR
 lC:mg "_law_solved"=some (.ref Z.gZ)
 mQ:Binds K Z.gO ["_law_rows","_law_size","_law_due"] []
 jJ:ja K "_law_solved" "_law_solved" d5 Z.gZ Z.gO
 i3:mg "weights_for"=some (.ref Z.gW)
 jH:Binds K Z.gL ["rows","wide","row"] []
 hZ:ja K "weights_for" "weights_for" dZ Z.gW Z.gL
 fX:mg "_law_nought"=some (.ref Z.hU)
 gV:Binds K Z.gQ ["_law_rows","_law_row_here"] []
 fj:ja K "_law_nought" "_law_nought" d7 Z.hU Z.gQ
 dU:mg "_law_spanned"=some (.ref Z.gg)
 eJ:Binds K Z.fY ["_law_rows","_law_size","_law_row_here","_law_ends"] []
 dG:ja K "_law_spanned" "_law_spanned" dD Z.gg Z.fY
 BH:ja K "law" "law" se Z.zP Z.zH
 abs:mg "abs"=none
 len:mg "len"=none
 min:mg "min"=none
 range:mg "range"=none
 zip:mg "zip"=none
 list:mg "list"=none
 enumerate:mg "enumerate"=none
 all:mg "all"=none
 mg_NOUGHT:mg "NOUGHT"=some (.ref Z.a_NOUGHT)
 sq_NOUGHT:∀H,oo K H Z.a_NOUGHT [.int 0,.int 1]
 mg_ONE:mg "ONE"=some (.ref Z.a_ONE)
 sq_ONE:∀H,oo K H Z.a_ONE [.int 1,.int 1]
section
variable {P:Program} {w:World} {K:W.Frag} {mg:Str->Option Value} {base:Heap} {Z:Ads}
theorem uR:be ["_law_script"] ["_law_script"] (ar gF):=by walk_at "d"
theorem vd (T:Txt K mg Z):cL P w K mg base iQ 1 Z.kB Z.kl ["_law_script"] (yz K):=by
 refine T.m9.ok uR (λvs H Q E h=>?_) (λcdv A outer s H vs Q E hr h=>?_)
 ·obtain ⟨a,ns,rfl,_⟩:=h;rfl
 ·obtain ⟨a,ns,rfl,hS,hlen,k⟩:=h;refine ⟨_,(ay (aV (j4 (ab ak (ab ak (ab ak (ab (cw ["_law_cell"] [] [] (dC (u6 wH (pv 0) wO (wM ak))) (λ_=>(bg (i:=0) (show List.Nodup (α:=PySem.Str) ["_law_cell"] by decide +kernel))) (λ_=>dd) (λ_=>(cz rj (by rfl) T.abs PyProof.Rows.boot_abs (ab (pv 0) ai)))) ai))))))),?_⟩;refine aS (σ:=[some (.ref a)]) rfl ?_;walk_at "w";refine ⟨a,_,rfl,hS,λl hl=>?_⟩;have hcl:(nZ (ns.map V.int) none (some 63)).length<=63:=ag (pC _ _ _) (by simpa using hlen);refine ⟨l,rfl,⟨_,bT.of aF⟩,?_⟩;refine fL (K:=K) (a:=l) (xs:=nZ (ns.map V.int) none (some 63)) (λi ys H'=>H'=upd H l (.lst (nZ (ns.map V.int) none (some 63)))/\∃cs:List Int,ys=cs.map V.int/\∀x∈cs,0<=x) (ag hcl (by decide)) ⟨rfl,[],rfl,λ_ z=>nomatch z⟩ (λi ys H' _ ⟨e,_⟩=>by subst e;exact bT.of aF) ?_ ?_
  ·rintro i x ys H' hx hi ⟨rfl,cs,rfl,hcs⟩
   obtain ⟨z,rfl⟩:∃z,x=V.int z:=by
    have hm:x∈ns.map V.int:=List.mem_of_mem_drop (cD (ax hx));obtain ⟨z,_,e⟩:=aD.mp hm;exact ⟨z,e.symm⟩
   walk_at "w";refine ⟨rfl,cs++[if z < 0 then -z else z],by simp,λx hx=>?_⟩;rcases aK.mp hx with hx | hx
   ·exact hcs x hx
   ·have e:x=if z < 0 then -z else z:=by simpa using hx
    subst e
    split <;> lia
  ·rintro ys H' hy ⟨rfl,cs,rfl,hcs⟩ p hp;walk_at "w";refine ⟨by show 4<=sizeLine;decide,λb hb=>?_⟩;have n1:b≠p:=λz=>by rw[z,aF] at hb;cases hb
   have hb1:(upd H l (.lst (nZ (ns.map V.int) none (some 63)))) b=none:=by rw[aY n1] at hb;exact hb
   have s1:aH H (upd H l (.lst (nZ (ns.map V.int) none (some 63)))):=aH.new hl;refine k b _ (s1.free hb1) ⟨p,0,1234567891,0,cs,aF,by rw[aY n1.symm];exact aF,by decide,by decide,by lia,hcs⟩ ((s1.trans (aH.new hp)).trans (aH.new hb))
theorem dM:be ["_law_bag_here","_law_many","_law_more","_law_cell","_law_value","_law_first","_law_second"] ["_law_bag_here","_law_many"] (ar fD):=by walk_at "d"
theorem bA (T:Txt K mg Z):cL P w K mg base iQ 1 Z.ju Z.jj ["_law_bag_here","_law_many"] z9:=by
 refine T.bB.ok dM (λvs H Q E h=>?_) (λcdv A outer s H vs Q E hr h=>?_)
 ·obtain ⟨p,n,rfl,_⟩:=h;rfl
 ·obtain ⟨p,n,rfl,⟨q,a,b,c,cs,hp,hq,ha,hc,hcl,hcs⟩,hn,hn2,k⟩:=h;have nqp:q≠p:=yf hp hq
  refine ⟨_,(lY (dF (bM lb (aP bP (pv 0) ak) ak (bN _)) (ao (aT (i:=2) dM.nd rfl (Or.inl rfl) ak)
   (lY (dF (bM su (aP bP (pv 0) ak) (cz cv (by rfl) T.len cH (ab (aP bP (pv 0) ak) ai)) (bN _)) (ao (aT (i:=3) dM.nd rfl (Or.inl rfl) (aP bP (aP bP (pv 0) ak) (aP bP (pv 0) ak)))
   (ao (Az (pv 0) ak zl ak CL set_list)
   (ao (dF (bM DS (pv 3) ak (bN _)) (ay (jD (pv 3) (j3 (pv 0) ak set_list))) b7)
   (ay (aT (i:=2) dM.nd rfl (Or.inl rfl) (bf iq (bf kZ (pv 3) ak) ak)))))) b7)
   (ay (jD (bf kZ (bf iq (bf b8 (aP bP (pv 0) ak) ak) (pv 2)) ak) (j3 (pv 0) ak set_list))))) b7)
   (ao (dF (bM wW (aP bP (pv 0) ak) ak (bN _)) (ao (aT (i:=4) dM.nd rfl (Or.inl rfl) (bf kZ (aP bP (pv 0) ak) (pv 1)))
   (ao (jD (bf fR (aP bP (pv 0) ak) (pv 1)) (j3 (pv 0) ak set_list))
   (ay (aV (pv 4))))) b7)
   (ao (aT (i:=5) dM.nd rfl (Or.inl rfl) (bf kZ (bf b8 (aP bP (pv 0) ak) ak) ak))
   (ao (aT (i:=6) dM.nd rfl (Or.inl rfl) (bf kZ (bf b8 (pv 5) ak) ak))
   (ao (dF (bM wW (pv 1) ak (bN _)) (ay (aV (bf kZ (bf iq (bf b8 (pv 6) ak) (pv 5)) (pv 1)))) b7)
   (ay (aV (bf kZ (bf fR (pv 6) ak) (pv 1))))))))),?_⟩
  refine aS (σ:=[some (.ref p),some (.int n),none,none,none,none,none]) rfl ?_;refine ⟨λσ' H'=>∃(x y:Option V) (a' b' c':Int),σ'=[some (.ref p),some (.int n),x,y,none,none,none]/\H' p=some (.lst [.int a',.int b',.int c',.ref q])/\0<=a'/\0<=c'/\c'<=cs.length/\cA p H H',?_,?_⟩
  ·walk_at "w";refine kO (λh0=>?_) (λh0=>?_)
   ·walk_at "w";refine ⟨λσ' H'=>∃(m:Int) (y:Option V) (a' c':Int),σ'=[some (.ref p),some (.int n),some (.int m),y,none,none,none]/\H' p=some (.lst [.int a',.int b,.int c',.ref q])/\0<=a'/\0<=c'/\c'<=cs.length/\cA p H H',?_,?_⟩
    ·walk_at "w";refine ⟨_,_,rfl,.inl (bT.of hq),?_⟩;walk_at "w";refine kO (λh1=>?_) (λh1=>?_)
     ·have h1':c < cs.length:=by simpa using of_decide_eq_true h1
      obtain ⟨z,hz⟩:∃z,cs[c.toNat]?=some z:=⟨_,ae (by lia)⟩;have hz0:0<=z:=hcs z (ax hz);walk_at "w";refine cJ (bT.of hq) (v:=.int z) ?_ ?_
      ·have:=fZ (xs:=cs.map V.int) (j:=c.toNat) (v:=.int z) (by rw[aw,hz];rfl);rwa [Int.toNat_of_nonneg hc] at this
      walk_at "w";refine kO (λh2=>?_) (λh2=>?_)
      ·walk_at "w";exact ⟨_,_,z,c+1,rfl,aF,hz0,by lia,by lia,(cA.set hp).trans (cA.set aF)⟩
      ·walk_at "w";exact ⟨_,_,a,c+1,rfl,aF,ha,by lia,by lia,cA.set hp⟩
     ·walk_at "w";exact ⟨_,_,a,c,rfl,hp,ha,hc,hcl,cA.refl _⟩
    ·rintro σ' H' ⟨m,y,a',c',rfl,hp',ha',hc',hcl',u'⟩;walk_at "w";exact ⟨_,_,a',_,c',rfl,aF,ha',hc',hcl',u'.trans (cA.set hp')⟩
   ·walk_at "w";exact ⟨_,_,a,b,c,rfl,hp,ha,hc,hcl,cA.refl _⟩
  ·rintro σ' H' ⟨x,y,a',b',c',rfl,hp',ha',hc',hcl',u'⟩;have hq':H' q=some (.lst (cs.map V.int)):=u'.1 q _ hq nqp
   have sn:Sz 8999 n:=by
    show n.natAbs < 2^8999
    exact aM (show n.natAbs < 2^64 by lia) (af (by decide) (by decide))
   walk_at "w";refine kO (λh0=>?_) (λh0=>?_)
   ·walk_at "w";refine eh (show (0:Int) < n from hn) ?_;walk_at "w";refine eh (show kM _ _ from ⟨by lia,sn⟩) ?_;walk_at "w";refine k _ _ (rH _ (by lia)) (mU _ hn) ⟨q,_,b',c',cs,aF,by rw[aY nqp];exact hq',?_,hc',hcl',hcs⟩ (u'.trans (cA.set hp'));rw[bF _ (by lia)];exact Int.ediv_nonneg ha' (by lia)
   ·walk_at "w";refine kO (λh1=>?_) (λh1=>?_)
    ·walk_at "w";refine eh (show (0:Int) < n from hn) ?_;exact k _ _ (rH _ (by lia)) (mU _ hn) ⟨q,a',b',c',cs,hp',hq',ha',hc',hcl',hcs⟩ u'
    ·walk_at "w";refine eh (show kM _ _ from ⟨by decide,by show (3:Nat) < 2^8999;exact aM (show 3 < 2^2 by decide) (af (by decide) (by decide))⟩) ?_;walk_at "w";refine eh (show (0:Int) < n from hn) ?_;exact k _ _ (rH _ (by lia)) (mU _ hn) ⟨q,a',b',c',cs,hp',hq',ha',hc',hcl',hcs⟩ u'
theorem dX:be ["_law_bag_here","_law_many","_law_size"] ["_law_bag_here"] (ar eU):=by walk_at "d"
theorem rQ (T:Txt K mg Z):cL P w K mg base iQ 2 Z.iH Z.iD ["_law_bag_here"] yv:=by
 refine T.kG.ok dX (λvs H Q E h=>?_) (λcdv A outer s H vs Q E hr h=>?_)
 ·obtain ⟨b,rfl,_⟩:=h;rfl
 ·obtain ⟨b,rfl,hB,k⟩:=h
  refine ⟨_,(ao (aT (i:=1) dX.nd rfl (Or.inl rfl) (cO (bA T) hr T.bu T.bB.kp T.bE (ab (pv 0) (ab ak ai))))
   (ao (aT (i:=2) dX.nd rfl (Or.inl rfl) (cO (bA T) hr T.bu T.bB.kp T.bE (ab (pv 0) (ab ak ai))))
   (ao (dF (bM lb (cO (bA T) hr T.bu T.bB.kp T.bE (ab (pv 0) (ab ak ai))) ak (bN _)) (ay (aT (i:=2) dX.nd rfl (Or.inl rfl) (bf iq ak (cO (bA T) hr T.bu T.bB.kp T.bE (ab (pv 0) (ab ak ai)))))) (ay (dF (bM lb (cO (bA T) hr T.bu T.bB.kp T.bE (ab (pv 0) (ab ak ai))) ak (bN _)) (ao (aT (i:=1) dX.nd rfl (Or.inl rfl) (bf iq ak (cO (bA T) hr T.bu T.bB.kp T.bE (ab (pv 0) (ab ak ai)))))
   (ay (aT (i:=2) dX.nd rfl (Or.inl rfl) (cz (sL rfl) (by rfl) T.min PyProof.Rows.boot_min (ab (pv 2) (ab ak ai)))))) b7)))
   (ay (aV (dO (ab (pv 1) (ab (pv 2) ai)))))))),?_⟩
  refine aS (σ:=[some (.ref b),none,none]) rfl ?_;walk_at "w";refine ⟨b,6,rfl,hB,by decide,by decide,λm H1 m0 m1 B1 u1=>?_⟩;walk_at "w";refine ⟨b,6,rfl,B1,by decide,by decide,λn H2 n0 n1 B2 u2=>?_⟩;walk_at "w";refine ⟨b,8,rfl,B2,by decide,by decide,λv H3 v0 v1 B3 u3=>?_⟩;have u13:=(u1.trans u2).trans u3;walk_at "w";refine kO (λh0=>?_) (λh0=>?_)
  ·walk_at "w";refine ⟨b,7,rfl,B3,by decide,by decide,λa H4 a0 a1 B4 u4=>?_⟩;walk_at "w";refine cu λr H5 s5 g5=>?_
   exact k r _ _ _ g5 (by lia) (by lia) (.inl ⟨by lia,by lia⟩) (B4.same s5) ((u13.trans u4).same s5)
  walk_at "w";refine ⟨b,8,rfl,B3,by decide,by decide,λv' H4 v0' v1' B4 u4=>?_⟩;walk_at "w";refine kO (λh1=>?_) (λh1=>?_)
  ·walk_at "w";refine ⟨b,5,rfl,B4,by decide,by decide,λa H5 a0 a1 B5 u5=>?_⟩;walk_at "w";refine cu λr H6 s6 g6=>?_
   exact k r _ _ _ g6 (by lia) (by split <;> lia) (.inr ⟨by lia,by split <;> lia⟩) (B5.same s6) (((u13.trans u4).trans u5).same s6)
  walk_at "w";refine cu λr H6 s6 g6=>?_
  exact k r _ _ _ g6 (by lia) (by lia) (.inl ⟨by lia,by lia⟩) (B4.same s6) ((u13.trans u4).same s6)
theorem jb:be ["_law_top","_law_bottom","_law_one","_law_other"] ["_law_top","_law_bottom"] (ar gD):=by walk_at "d"
theorem dI (T:Txt K mg Z):cL P w K mg base iQ 1 Z.kz Z.ki ["_law_top","_law_bottom"] BS:=by
 refine T.du.ok jb (λvs H Q E h=>?_) (λcdv A outer s H vs Q E hr h=>?_)
 ·obtain ⟨t,b,rfl,_⟩:=h;rfl
 ·obtain ⟨t,b,rfl,hb,hs,k⟩:=h
  refine ⟨_,(ao (aT (i:=2) jb.nd rfl (Or.inl rfl) (cz rj (by rfl) T.abs PyProof.Rows.boot_abs (ab (pv 0) ai)))
   (ao (aT (i:=3) jb.nd rfl (Or.inl rfl) (pv 1))
   (ao (uY PassesOwn.never (bM wV (pv 2) ak (bN _))
    (ay (Cy (i:=2) (j:=3) rfl jb.nd rfl rfl (by decide) rfl rfl (ab (bf kZ (pv 3) (pv 2)) (ab (pv 2) ai)) rfl)))
   (ay (aV (dO (ab (bf fR (pv 0) (pv 3)) (ab (bf fR (pv 1) (pv 3)) ai)))))))),?_⟩
  refine aS (σ:=[some (.int t),some (.int b),none,none]) rfl ?_;walk_at "w"
  refine wq (λσ' H'=>∃(u v:Int),σ'=[some (.int t),some (.int b),some (.int u),some (.int v)]/\H'=H/\0<=u/\0 < v/\Int.gcd u v=Int.gcd t b) (λσ' _=>match σ' with | [_,_,some (.int u),_]=>u.natAbs | _=>0) ⟨_,b,rfl,rfl,by split <;> lia,hb,by
   split
   ·rw[Int.neg_gcd]
   ·rfl⟩ ?_
  rintro σ' H' ⟨u,v,rfl,rfl,hu,hv,hg⟩;walk_at "w";refine kO (λh=>?_) (λh=>?_)
  ·have hu0:u≠0:=λz=>by subst z;simp at h
   walk_at "w";refine eh (show (0:Int) < u by lia) ?_;walk_at "w";have h1:=rH v hu0;have h2:=mU v (show 0 < u by lia);exact ⟨⟨v % u,u,rfl,rfl,h1,by lia,by rw[ic,zo,ic];exact hg⟩,by show (v % u).natAbs < u.natAbs;lia⟩
  ·have hu0:u=0:=by
    by_cases z:u=0
    ·exact z
    ·exfalso;apply h;simp [z]
   subst hu0
   have e:v=g t b:=by
    unfold g;rw[<- hg,Int.gcd_zero_left]
    lia
   have hgs:Sz 8999 v:=hs.le (by
    rw[e];have h1:(g t b).natAbs=Int.gcd t b:=by unfold g;simp
    rw[h1];exact kI (by lia) (by have:=dn (a:=t) (b:=b);exact dQ.mpr this |> λz=>by simpa using z))
   walk_at "w";refine eh (show kM _ _ from ⟨by lia,hgs⟩) ?_;walk_at "w";refine eh (show kM _ _ from ⟨by lia,hgs⟩) ?_;walk_at "w";refine cu λr H' s' h'=>?_
   rw[bF _ (by lia),bF _ (by lia),e] at h';exact k r H' s' h'
theorem kY:be ["_law_bag_here","_law_wide","_law_way"] ["_law_bag_here","_law_wide"] (ar d6):=by walk_at "d"
theorem iX (T:Txt K mg Z):cL P w K mg base iQ 2 Z.hJ Z.gP ["_law_bag_here","_law_wide"] (qD K):=by
 refine T.fh.ok kY (λvs H Q E h=>?_) (λcdv A outer s H vs Q E hr h=>?_)
 ·obtain ⟨b,w,rfl,_⟩:=h;rfl
 ·obtain ⟨b,w,rfl,hB,w0,w1,k⟩:=h
  refine ⟨_,(ao (aT (i:=2) kY.nd rfl (Or.inl rfl) (cO (bA T) hr T.bu T.bB.kp T.bE (ab (pv 0) (ab ak ai))))
   (ao (dF (bM su (pv 2) ak (bN _)) (ay (aV (dO (ab ak (ab ak ai))))) b7)
   (ao (dF (bM su (pv 2) ak (bN _)) (ay (aV (dO (ab (bf j6 (cO (bA T) hr T.bu T.bB.kp T.bE (ab (pv 0) (ab ak ai))) ak) (ab ak ai))))) b7)
   (ao (dF (bM lb (pv 2) ak (bN _)) (ay (aV (cO (dI T) hr T.dh T.du.kp T.dP (ab (bf j6 (cO (bA T) hr T.bu T.bB.kp T.bE (ab (pv 0) (ab ak ai))) ak) (ab (bf iq ak (cO (bA T) hr T.bu T.bB.kp T.bE (ab (pv 0) (ab ak ai)))) ai))))) b7)
   (ay (aV (cO (dI T) hr T.dh T.du.kp T.dP (ab (bf j6 (cO (bA T) hr T.bu T.bB.kp T.bE (ab (pv 0) (ab (bf iq (bf b8 ak (pv 1)) ak) ai))) (pv 1)) (ab (bf iq ak (cO (bA T) hr T.bu T.bB.kp T.bE (ab (pv 0) (ab (pv 1) ai)))) ai))))))))),?_⟩
  refine aS (σ:=[some (.ref b),some (.int w),none]) rfl ?_;walk_at "w";refine ⟨b,8,rfl,hB,by decide,by decide,λv H1 v0 v1 B1 u1=>?_⟩;walk_at "w";refine kO (λh0=>?_) (λh0=>?_)
  ·walk_at "w";refine cu λr H2 s2 g2=>?_
   exact k r 0 _ ⟨bc _,by show 1<=_;lia⟩ (bZ.mk g2 rfl) (B1.same s2) (u1.same s2)
  walk_at "w";refine kO (λh1=>?_) (λh1=>?_)
  ·walk_at "w";refine ⟨b,7,rfl,B1,by decide,by decide,λa H2 a0 a1 B2 u2=>?_⟩;walk_at "w";refine cu λr H3 s3 g3=>?_
   exact k r ((a - 3:Int):Rat) _ ⟨by show (a - 3).natAbs<=_;lia,by show 1<=_;lia⟩ (bZ.mk g3 rfl) (B2.same s3) ((u1.trans u2).same s3)
  walk_at "w";refine kO (λh2=>?_) (λh2=>?_)
  ·walk_at "w";refine ⟨b,13,rfl,B1,by decide,by decide,λa H2 a0 a1 B2 u2=>?_⟩;walk_at "w";refine ⟨b,6,rfl,B2,by decide,by decide,λc H3 c0 c1 B3 u3=>?_⟩;walk_at "w";refine ⟨_,_,rfl,by lia,(vM (by lia)).mono (by decide),λr H4 s4 g4=>?_⟩;obtain ⟨q,e,d,_⟩:=vZ (t:=a - 6) (b:=1+c) (W:=max w 6) (by lia) (by lia) (by lia);exact k r q _ d (bZ.mk g4 e) (B3.same s4) (((u1.trans u2).trans u3).same s4)
  walk_at "w";refine ⟨b,_,rfl,B1,by lia,by lia,λa H2 a0 a1 B2 u2=>?_⟩;walk_at "w";refine ⟨b,_,rfl,B2,by lia,by lia,λc H3 c0 c1 B3 u3=>?_⟩;walk_at "w";refine ⟨_,_,rfl,by lia,(vM (by lia)).mono (by decide),λr H4 s4 g4=>?_⟩;obtain ⟨q,e,d,_⟩:=vZ (t:=a - w) (b:=1+c) (W:=max w 6) (by lia) (by lia) (by lia);exact k r q _ d (bZ.mk g4 e) (B3.same s4) (((u1.trans u2).trans u3).same s4)
theorem uQ:be ["_law_bag_here","_law_many","_law_wide"] ["_law_bag_here","_law_many","_law_wide"] (ar gC):=by walk_at "d"
theorem lh (T:Txt K mg Z):cL P w K mg base iQ 3 Z.ky Z.kh ["_law_bag_here","_law_many","_law_wide"] (uK K):=by
 refine T.i6.ok uQ (λvs H Q E h=>?_) (λcdv A outer s H vs Q E hr h=>?_)
 ·obtain ⟨b,m,w,rfl,_⟩:=h;rfl
 ·obtain ⟨b,m,w,rfl,hB,hm,w0,w1,k⟩:=h;refine ⟨_,(ay (aV (cw ["_law_k"] ["_law_bag_here","_law_wide"] [0,2] (eV rfl T.range (ab (pv 1) ai)) (λ_=>(bg (i:=0) (show List.Nodup (α:=PySem.Str) ["_law_k","_law_bag_here","_law_wide"] by decide +kernel))) (λ_=>dd) (λ_=>(cO (iX T) hr T.fW T.fh.kp T.gU (ab (pv 1) (ab (pv 2) ai))))))),?_⟩;refine aS (σ:=[some (.ref b),some (.int m),some (.int w)]) rfl ?_;walk_at "w";refine ⟨by lia,by lia,?_⟩;refine yd (n:=m) (bZ K) (Dr (max w 6)) hB hm (λa u B=>a.upto u B) ?_ ?_
  ·rintro i H' NY NN hi u B k1;walk_at "w";exact ⟨b,w,rfl,B,w0,w1,λr x H2 hx h2 B2 u2=>k1 _ x _ u2 B2 hx h2⟩
  ·rintro ys cs H' p hp u B g lc hc pr nx;exact k p cs H' hp ⟨ys,g,pr⟩ lc hc B u
theorem uP:be ["_law_one","_law_other"] ["_law_one","_law_other"] (ar gB):=by walk_at "d"
theorem pk (T:Txt K mg Z):cL P w K mg base iQ 2 Z.kx Z.kg ["_law_one","_law_other"] (jV K (λx y=>x+y)):=by
 refine T.kF.ok uP (λvs H Q E h=>?_) (λcdv A outer s H vs Q E hr h=>?_)
 ·obtain ⟨p,q,a,b,c,d,rfl,hp,hq,hb,hd,sa,sb,sc,sd,k⟩:=xw h;rfl
 ·obtain ⟨p,q,a,b,c,d,rfl,hp,hq,hb,hd,sa,sb,sc,sd,k⟩:=xw h;refine ⟨_,(ay (aV (cO (dI T) hr T.dh T.du.kp T.dP (ab (bf iq (bf b8 (aP bo (pv 0) ak) (aP bo (pv 1) ak)) (bf b8 (aP bo (pv 1) ak) (aP bo (pv 0) ak))) (ab (bf b8 (aP bo (pv 0) ak) (aP bo (pv 1) ak)) ai))))),?_⟩;refine aS (σ:=[some (.ref p),some (.ref q)]) rfl ?_;have hbd:0 < b*d:=i7 hb hd;have sbd:Sz 8999 (b*d):=(sb.mul sd).mono (by decide);walk_at "w";refine eh (show dW _ _ from .inr ⟨_,_,sa,sd,by decide⟩) ?_;walk_at "w";refine eh (show dW _ _ from .inr ⟨_,_,sc,sb,by decide⟩) ?_;walk_at "w";refine eh (show dW _ _ from .inr ⟨_,_,sb,sd,by decide⟩) ?_;walk_at "w";walk_at "w";refine ⟨_,_,rfl,hbd,sbd,k⟩
theorem tG:be ["_law_one","_law_other"] ["_law_one","_law_other"] (ar fG):=by walk_at "d"
theorem iz (T:Txt K mg Z):cL P w K mg base iQ 3 Z.jx Z.jo ["_law_one","_law_other"] (uF K):=by
 refine T.fO.ok tG (λvs H Q E h=>?_) (λcdv A outer s H vs Q E hr h=>?_)
 ·obtain ⟨p,q,xs,ys,rfl,_⟩:=h;rfl
 ·obtain ⟨p,q,xs,ys,rfl,hp,hq,hl,hz,h1,h2,kk⟩:=h;refine ⟨_,(ay (aV (cw ["_law_k"] ["_law_one","_law_other"] [0,1] (eV rfl T.range (ab (cz cv (by rfl) T.len cH (ab (pv 0) ai)) ai)) (λ_=>(bg (i:=0) (show List.Nodup (α:=PySem.Str) ["_law_k","_law_one","_law_other"] by decide +kernel))) (λ_=>dd) (λ_=>(cO (pk T) hr T.lB T.kF.kp T.m7 (ab (aP (lF K (by rfl)) (pv 1) (pv 0)) (ab (aP (lF K (by rfl)) (pv 2) (pv 0)) ai))))))),?_⟩;refine aS (σ:=[some (.ref p),some (.ref q)]) rfl ?_;obtain ⟨us,gu,qu⟩:=id hp;obtain ⟨ws,gw,qw⟩:=id hq;have lu:=qu.length;walk_at "w";refine ⟨_,_,rfl,.inl (bT.of gu),?_⟩;walk_at "w";refine ⟨by lia,by lia,?_⟩;refine mm (n:=us.length) (bZ K) (λi=>xs.getD i 0+ys.getD i 0) (by lia) (λa b=>a.same b) ?_ ?_
  ·rintro i H' NY NN hi s k1;have ix:i < xs.length:=by lia
   have iy:i < ys.length:=by lia
   obtain ⟨vx,ex,nx⟩:=Bv (Paired.imp' (λ_ _ z=>z.same s) qu) ix;obtain ⟨vy,ey,ny⟩:=Bv (Paired.imp' (λ_ _ z=>z.same s) qw) iy;walk_at "w";refine cJ (bT.of (s _ _ gu)) ex ?_;walk_at "w";refine cJ (bT.of (s _ _ gw)) ey ?_;walk_at "w";exact ⟨_,_,_,_,rfl,nx,ny,h1 _ (getD_mem ix),h2 _ (getD_mem iy),λr3 H3 s3 n3=>k1 _ _ s3 n3⟩
  ·rintro ys' H' l hl' s g pr nx;exact kk l H' hl' s ⟨ys',g,by rw[xE (by lia)];rw[<- lu] at pr;exact pr⟩
theorem tz:be ["_law_one","_law_other"] ["_law_one","_law_other"] (ar fF):=by walk_at "d"
theorem nI (T:Txt K mg Z):cL P w K mg base iQ 2 Z.jw Z.jm ["_law_one","_law_other"] (jV K (λx y=>x*y)):=by
 refine T.jB.ok tz (λvs H Q E h=>?_) (λcdv A outer s H vs Q E hr h=>?_)
 ·obtain ⟨p,q,a,b,c,d,rfl,hp,hq,hb,hd,sa,sb,sc,sd,k⟩:=w5 h;rfl
 ·obtain ⟨p,q,a,b,c,d,rfl,hp,hq,hb,hd,sa,sb,sc,sd,k⟩:=w5 h;refine ⟨_,(ay (aV (cO (dI T) hr T.dh T.du.kp T.dP (ab (bf b8 (aP bo (pv 0) ak) (aP bo (pv 1) ak)) (ab (bf b8 (aP bo (pv 0) ak) (aP bo (pv 1) ak)) ai))))),?_⟩;refine aS (σ:=[some (.ref p),some (.ref q)]) rfl ?_;have hbd:0 < b*d:=i7 hb hd;have sbd:Sz 8999 (b*d):=(sb.mul sd).mono (by decide);walk_at "w";refine eh (show dW _ _ from .inr ⟨_,_,sa,sc,by decide⟩) ?_;walk_at "w";refine eh (show dW _ _ from .inr ⟨_,_,sb,sd,by decide⟩) ?_;walk_at "w";walk_at "w";refine ⟨_,_,rfl,hbd,sbd,k⟩
theorem vP:be ["_law_by_here","_law_row_here"] ["_law_by_here","_law_row_here"] (ar iO):=by walk_at "d"
theorem mZ (T:Txt K mg Z):cL P w K mg base iQ 3 Z.mC Z.ml ["_law_by_here","_law_row_here"] (yy K):=by
 refine T.jS.ok vP (λvs H Q E h=>?_) (λcdv A outer s H vs Q E hr h=>?_)
 ·obtain ⟨u,q,c,ys,rfl,_⟩:=h;rfl
 ·obtain ⟨u,q,c,ys,rfl,hc,sc,hq,hz,h2,kk⟩:=h;refine ⟨_,(ay (aV (cw ["_law_one"] ["_law_by_here"] [0] (dC (pv 1)) (λ_=>(bg (i:=0) (show List.Nodup (α:=PySem.Str) ["_law_one","_law_by_here"] by decide +kernel))) (λ_=>dd) (λ_=>(cO (nI T) hr T.j9 T.jB.kp T.lJ (ab (pv 1) (ab (pv 0) ai))))))),?_⟩;refine aS (σ:=[some u,some (.ref q)]) rfl ?_;obtain ⟨us,gu,qu⟩:=id hq;walk_at "w";refine ⟨⟨_,bT.of gu⟩,?_⟩;refine gI (K:=K) (F:=bZ K) (bZ K) (λy=>c*y) gu qu hz (λa b=>a.same b) (λa b=>a.same b) ?_ ?_
  ·rintro i y x H' NY NN en s hx k;walk_at "w";exact ⟨_,_,_,_,rfl,hc.same s,hx,sc,h2 y (ax en),λr H2 s2 h2'=>k _ _ s2 h2'⟩
  ·rintro ys' H' r hr s g pr nx;exact kk r H' hr s ⟨ys',g,pr⟩
theorem cq:be ["_law_bag_here","_law_many","_law_size","_law_wide","_law_grid_here","_law_k","_law_row_here","_law_way","_law_one","_law_other","_law_by_here"] ["_law_bag_here","_law_many","_law_size"] (ar fI):=by walk_at "d"
theorem tU (T:Txt K mg Z):cL P w K mg base iQ 4 Z.jz Z.jr ["_law_bag_here","_law_many","_law_size"] (uI K):=by
 refine T.lQ.ok cq (λvs H Q E h=>?_) (λcdv A outer s H vs Q E hr h=>?_)
 ·obtain ⟨b,m,n,rfl,_⟩:=h;rfl
 ·obtain ⟨b,m,n,rfl,hB,hm,hn,hmn,k⟩:=h
  refine ⟨_,(ao (aT (i:=3) cq.nd rfl (Or.inl rfl) (aP bP (j4 (ab ak (ab ak (ab ak (ab ak ai))))) (cO (bA T) hr T.bu T.bB.kp T.bE (ab (pv 0) (ab ak ai)))))
   (lY (dF (bM wW (bf b8 (pv 1) (pv 2)) ak (bN _)) (ay (aT (i:=3) cq.nd rfl (Or.inl rfl) (cz (sL rfl) (by rfl) T.min PyProof.Rows.boot_min (ab (pv 3) (ab ak ai))))) b7)
   (ao (aT (i:=4) cq.nd rfl (Or.inl rfl) (j4 ai))
   (ao (jZ PassesOwn.never rfl (eV rfl T.range (ab (pv 1) ai)) (bg (i:=5) cq.nd)
    (ao (aT (i:=6) cq.nd rfl (Or.inl rfl) (cO (lh T) hr T.jg T.i6.kp T.ku (ab (pv 0) (ab (pv 2) (ab (pv 3) ai)))))
   (ao (aT (i:=7) cq.nd rfl (Or.inl rfl) (cO (bA T) hr T.bu T.bB.kp T.bE (ab (pv 0) (ab ak ai))))
   (lY (dF (PW.pt (Cw (bM wW (pv 5) ak (bN _)) (Ay (bM su (pv 7) ak (bN _))))) (ao (aT (i:=8) cq.nd rfl (Or.inl rfl) (aP bP (pv 4) (cO (bA T) hr T.bu T.bB.kp T.bE (ab (pv 0) (ab (pv 5) ai)))))
   (ao (aT (i:=9) cq.nd rfl (Or.inl rfl) (aP bP (pv 4) (cO (bA T) hr T.bu T.bB.kp T.bE (ab (pv 0) (ab (pv 5) ai)))))
   (ao (aT (i:=10) cq.nd rfl (Or.inl rfl) (dO (ab (bf j6 (cO (bA T) hr T.bu T.bB.kp T.bE (ab (pv 0) (ab ak ai))) ak) (ab (bf iq ak (bf b8 ak (cO (bA T) hr T.bu T.bB.kp T.bE (ab (pv 0) (ab ak ai))))) ai))))
   (ay (aT (i:=6) cq.nd rfl (Or.inl rfl) (cO (iz T) hr T.fV T.fO.kp T.ij (ab (pv 8) (ab (cO (mZ T) hr T.ka T.jS.kp T.mn (ab (cO (dI T) hr T.dh T.du.kp T.dP (ab (aP bo (pv 10) ak) (ab (aP bo (pv 10) ak) ai))) (ab (pv 9) ai))) ai)))))))) b7)
   (ay (wL (yQ pM Dc C9 sC (pv 4) (ab (pv 6) ai))))))))
   (ay (aV (pv 4))))))),?_⟩
  refine aS (σ:=[some (.ref b),some (.int m),some (.int n),none,none,none,none,none,none,none,none]) rfl ?_;walk_at "w";refine je λl0 H1 s1 n1 g1=>?_
  walk_at "w";refine ⟨b,4,rfl,hB.same s1,by decide,by decide,λv H2 v0 v1 B2 u2=>?_⟩;have g2:=u2.other (λz=>hB.at (by rw[<- z];exact n1)) g1;obtain ⟨x,ex,mx,_⟩:=zO (xs:=[V.int 4,V.int 4,V.int 9,V.int 1000000]) v0 (by simpa using v1)
  obtain ⟨w,rfl,hw⟩:∃w:Nat,x=.int w/\(w=4\/w=9\/w=1000000):=by
   simp only[aI,b5,or_false] at mx;rcases mx with rfl | rfl | rfl | rfl
   ·exact ⟨4,rfl,.inl rfl⟩
   ·exact ⟨4,rfl,.inl rfl⟩
   ·exact ⟨9,rfl,.inr (.inl rfl)⟩
   ·exact ⟨1000000,rfl,.inr (.inr rfl)⟩
  walk_at "w";refine cJ (bT.of g2) ex ?_;walk_at "w";have u2':cA b H H2:=s1.upto.trans u2;refine ⟨λσ' H'=>∃(w:Nat),σ'=[some (.ref b),some (.int m),some (.int n),some (.int w),none,none,none,none,none,none,none]/\1<=w/\w<=1000000/\(12 < m*n->w<=9)/\kH H' b/\cA b H H',?_,?_⟩
  ·walk_at "w";refine eh (show dW _ _ from .inl (.inl ⟨by lia,by lia⟩)) ?_;walk_at "w";refine kO (λh0=>?_) (λh0=>?_)
   ·walk_at "w";rcases hw with rfl | rfl | rfl
    ·exact ⟨4,rfl,by decide,by decide,λ_=>by decide,B2,u2'⟩
    ·exact ⟨9,rfl,by decide,by decide,λ_=>by decide,B2,u2'⟩
    ·exact ⟨9,rfl,by decide,by decide,λ_=>by decide,B2,u2'⟩
   ·walk_at "w";refine ⟨by lia,by lia,λz=>?_,B2,u2'⟩
    exfalso
    apply h0;have e:(m:Int)*(n:Int)=((m*n:Nat):Int):=by rw[Int.natCast_mul]
    rw[e];exact decide_eq_true (by lia)
  clear hw ex g2 u2' B2 u2 v0 v1 mx;rintro σ' H3 ⟨w,rfl,w0,w1,w9,B3,u3⟩;walk_at "w";refine je λgr Hg s4 n4 g4=>?_
  have Bg:=B3.same s4;have gb:gr≠b:=λz=>B3.at (by rw[<- z];exact n4)
  obtain ⟨q0,I3,xs0,gq0⟩:=B3.inner;have gq:gr≠q0:=λz=>by rw[<- z,n4] at gq0;cases gq0
  have Ig:Inner Hg b q0:=(s4.upto (p:=b)).2 _ I3;obtain ⟨Hz,eHz⟩:∃Hz,Hz=upd H3 gr (.lst []):=⟨_,rfl⟩;have zg:Hz gr≠none:=by rw[eHz,aF];simp
  have zb:Hz b≠none:=by rw[eHz,aY gb.symm];exact B3.at
  have zn:∀p,p≠gr->H3 p=none->Hz p=none:=λp h1 h2=>by rw[eHz,aY h1];exact h2
  have zw:∀p,Hz p=none->H p=none:=λp h1=>u3.none B3 (by
   by_cases z:p=gr
   ·rw[z] at h1;exact absurd h1 zg
   ·rw[eHz,aY z] at h1;exact h1)
  clear eHz
  obtain ⟨c,hc,hc20,hcm⟩:∃c:Nat,max w 6<=2^c/\c<=20/\m*(c*n+2)<=264:=by
   by_cases z:w<=9
   ·refine ⟨4,by have:(2:Nat)^4=16:=rfl;lia,by decide,?_⟩;rw[Nat.mul_add,xC]
    lia
   ·refine ⟨20,by have:(2:Nat)^20=1048576:=rfl;lia,by decide,?_⟩
    have:m*n<=12:=by
     rcases cY 12 (m*n) with y | y
     ·exact absurd (w9 y) z
     ·exact y
    rw[Nat.mul_add,xC]
    lia
  walk_at "w";refine ⟨by lia,by lia,?_⟩
  refine m5 (n:=m) (λi σ' H'=>∃(x1 x2 x3 x4 x5 x6:Option V) (us:List V) (rows:LR9),σ'=[some (.ref b),some (.int m),some (.int n),some (.int w),some (.ref gr),x1,x2,x3,x4,x5,x6]/\H' gr=some (.lst us)/\Paired (eB K Hz H') rows us/\rows.length=i/\(∀xs∈rows,xs.length=n)/\GJ c n w i rows/\kH H' b/\Inner H' b q0/\cA b H3 H')
   ⟨none,none,none,none,none,none,[],[],rfl,g4,.nil,rfl,(λ_ z=>nomatch z),CO,Bg,Ig,s4.upto⟩ ?_ ?_
  ·rintro i σ' H' hi ⟨x1,x2,x3,x4,x5,x6,us,rows,rfl,gu,pr,li,lr,gi,B',I',u'⟩;have lu:=pr.length;walk_at "w";refine ⟨b,n,w,rfl,B',by lia,w0,w1,λp xs Ha np Ra la da Ba ua=>?_⟩;have pb:p≠b:=λz=>B'.at (by rw[<- z];exact np)
   have pz:Hz p=none:=zn p (λz=>by rw[z,gu] at np;cases np) (u'.none B' np);walk_at "w";refine ⟨b,6,rfl,Ba,by decide,by decide,λy Hb y0 y1 Bb ub=>?_⟩;have uab:=ua.trans ub;have gub:=uab.other gb gu;have prb:Paired (eB K Hz Hb) rows us:=Paired.imp' (λ_ _ z=>z.upto uab B' zb) pr;have Rb:=Ra.upto ub Ba pb;have Ib:=uab.2 _ I';have ub':=u'.trans uab;walk_at "w";refine ⟨λσ' H'=>∃(q:Addr) (zs:List Rat) (x3 x4 x5:Option V),σ'=[some (.ref b),some (.int m),some (.int n),some (.int w),some (.ref gr),some (.int i),some (.ref q),some (.int y),x3,x4,x5]/\H' gr=some (.lst us)/\Paired (eB K Hz H') rows us/\Hz q=none/\cK K H' q zs/\zs.length=n/\GJ c n w (i+1) (rows++[zs])/\kH H' b/\Inner H' b q0/\cA b H3 H',?_,?_⟩
   ·have gd:GJ c n w (i+1) (rows++[xs]):=AM gi la da hc hc20;walk_at "w";refine kO (λh0=>?_) (λh0=>?_)
    ·have i0:0 < i:=by have:=of_decide_eq_true h0;lia
     walk_at "w";refine kO (λh1=>?_) (λh1=>?_)
     ·have hbd:i*(c*n+2)<=264:=ag (aR _ (by lia)) hcm;obtain ⟨M,W,f0,f1,f2,f3⟩:=AO gi.1 (by lia) (by lia);walk_at "w";refine ⟨b,_,rfl,Bb,by lia,by lia,λj1 Hc j10 j11 Bc uc=>?_⟩;have gc:=uc.other gb gub;have pc:Paired (eB K Hz Hc) rows us:=Paired.imp' (λ_ _ z=>z.upto uc Bb zb) prb;obtain ⟨n1,rfl⟩:=i8 j10;obtain ⟨one,v1,_,e1,m1,r1,rfl,f1',R1⟩:=fw pc (i:=n1) (by lia);walk_at "w";refine cJ (bT.of gc) (fZ e1) ?_;walk_at "w";refine ⟨b,_,rfl,Bc,by lia,by lia,λj2 Hd j20 j21 Bd ud=>?_⟩;have gd':=ud.other gb gc;have pd:Paired (eB K Hz Hd) rows us:=Paired.imp' (λ_ _ z=>z.upto ud Bc zb) pc;obtain ⟨n2,rfl⟩:=i8 j20;obtain ⟨other,v2,_,e2,m2,r2,rfl,f2',R2⟩:=fw pd (i:=n2) (by lia);have R1:=R1.upto ud Bc (λz=>zb (by rw[<- z];exact f1'));walk_at "w";refine cJ (bT.of gd') (fZ e2) ?_;walk_at "w";refine ⟨b,_,rfl,Bd,by decide,by decide,λt He t0 t1 Be ue=>?_⟩;walk_at "w";refine ⟨b,_,rfl,Be,by decide,by decide,λd Hf d0 d1 Bf uf=>?_⟩;have uef:=ue.trans uf;have gf:=uef.other gb gd';have pf:Paired (eB K Hz Hf) rows us:=Paired.imp' (λ_ _ z=>z.upto uef Bd zb) pd;have R1:=R1.upto uef Bd (λz=>zb (by rw[<- z];exact f1'));have R2:=R2.upto uef Bd (λz=>zb (by rw[<- z];exact f2'));walk_at "w";refine cu λbt Hh sh gh=>?_
      walk_at "w";refine ⟨_,_,rfl,by lia,(vM (by lia)).mono (by decide),λlt Hj sj gj=>?_⟩;obtain ⟨q,eq,_,vq⟩:=vZ (t:=t - 2) (b:=1+2*d) (W:=3) (by lia) (by lia) (by lia);obtain ⟨z,ez,z6⟩:=Dh (t:=t - 2) (b:=1+2*d) (by lia) (by lia) vq;have nq:bZ K Hj q (.ref lt):=bZ.mk gj eq;have s5:=sh.trans sj;have sq:pS q:=vL (M:=3) (V:=2) ⟨z,ez,by lia⟩ (by decide) (ag (show 3<=2^2 by decide) (af (by decide) (by decide))) (ag (show 2<=2^1 by decide) (af (by decide) (by decide)));walk_at "w";refine ⟨_,r2,q,other,rfl,nq,sq,R2.same s5,by rw[lr other m2];lia,λy hy=>vL (f3 other m2 y hy) f0 f1 f2,λp3 Hk n3 s3 R3=>?_⟩;have s6:=s5.trans s3;walk_at "w";refine ⟨r1,p3,one,_,rfl,R1.same s6,R3,by rw[ah,lr one m1,lr other m2],by rw[lr one m1];lia,λy hy=>vL (f3 one m1 y hy) f0 f1 f2,λy hy=>?_,λp4 Hl n4' s4' R4=>?_⟩
      ·obtain ⟨y',hy',rfl⟩:=aD.mp hy;have fq:Fr 3 2 q:=⟨z,ez,by lia⟩;refine zp (M:=3*M) (V:=2*W) (by lia) ?_ ?_ (fq.mul (f3 other m2 y' hy'))
       ·exact ag (bp (show 3<=2^2 by decide) f1) (by rw[<- bx];exact af (by decide) (by decide))
       ·exact ag (bp (show 2<=2^1 by decide) f2) (by rw[<- bx];exact af (by decide) (by decide))
      have s7:=s6.trans s4';have uall:cA b H3 Hf:=((ub'.trans uc).trans ud).trans uef;walk_at "w";refine ⟨p4,_,_,_,_,rfl,s7 _ _ gf,Paired.imp' (λ_ _ z=>z.same s7) pf,?_,R4,by rw[dv,ah,lr one m1,lr other m2];lia,CN gi m1 m2 ez z6,Bf.same s7,(((uc.trans ud).trans uef).same s7).2 _ Ib,uall.same s7⟩;exact zn p4 (λz=>by rw[z,s6 _ _ gf] at n4';cases n4') ((uall.same s6).none (Bf.same s6) n4')
     ·walk_at "w";exact ⟨p,xs,_,_,_,rfl,gub,prb,pz,Rb,la,gd,Bb,Ib,ub'⟩
    ·walk_at "w";exact ⟨p,xs,_,_,_,rfl,gub,prb,pz,Rb,la,gd,Bb,Ib,ub'⟩
   ·rintro σ' H5 ⟨q,zs,x3,x4,x5,rfl,g5,p5,nq,R5,lz,gi5,B5,I5,u5⟩;walk_at "w";refine ⟨.inl ⟨rfl,_,bT.of g5⟩,?_⟩;walk_at "w";refine sf g5 (bQ (by lia)) ?_;have qg:q≠gr:=λz=>zg (by rw[<- z];exact nq)
    refine ⟨_,_,_,_,_,_,us++[.ref q],rows++[zs],rfl,aF,cB (Paired.imp' (λ_ _ z=>z.updL g5 zg) p5) (.cons ⟨q,rfl,nq,R5.updL g5 qg⟩ .nil),by simp [li],λys hy=>?_,gi5,B5.upd I5 gb gq,I5.upd gb,u5.after n4⟩;rcases aK.mp hy with hy | hy
    ·exact lr ys hy
    ·have e:ys=zs:=by simpa using hy
     rw[e];exact lz
  ·rintro σ' H' ⟨x1,x2,x3,x4,x5,x6,us,rows,rfl,gu,pr,li,lr,gi,B',I',u'⟩;walk_at "w"
   refine k gr rows H' (u3.none B3 n4) ⟨us,gu,Paired.imp' (λ_ _ ⟨q,a,e,c⟩=>⟨q,a,zw q e,c⟩) pr,λhm=>by
    obtain ⟨qs,_,q,e,e2,_⟩:=j5 pr hm;cases e;exact zg e2⟩ li lr (AN gi w9 hcm) B' (u3.trans u')
theorem tv:be ["row","bottom"] ["row","bottom"] (ar fB):=by walk_at "d"
theorem tR (T:Txt K mg Z):cL P w K mg base iQ 1 Z.jt Z.ji ["row","bottom"] (uE K):=by
 refine T.lL.ok tv (λvs H Q E h=>?_) (λcdv A outer s H vs Q E hr h=>?_)
 ·obtain ⟨p,ns,M,B,rfl,_⟩:=h;rfl
 ·obtain ⟨p,ns,M,B,rfl,hp,hl,hz,hB,sB,q⟩:=h;refine ⟨_,(ay (aV (cw ["value"] ["bottom"] [1] (dC (pv 0)) (λ_=>(bg (i:=0) (show List.Nodup (α:=PySem.Str) ["value","bottom"] by decide +kernel))) (λ_=>dd) (λ_=>(bf b8 (aP (nQ K (by rfl)) (pv 0) ak) (bf fR (pv 1) (aP (nQ K (by rfl)) (pv 0) ak))))))),?_⟩;refine aS (σ:=[some (.ref p),some (.int B)]) rfl ?_;obtain ⟨xs,gx,qx⟩:=id hp;have lx:=qx.length;walk_at "w";refine ⟨⟨_,bT.of gx⟩,?_⟩;refine fL (K:=K) (xs:=xs) (λi ys H'=>H'=H/\ys=(rT (ns.take i) B).map V.int) (bj (bQ (by lia))) ⟨rfl,rfl⟩ (λi ys H' _ ⟨e,_⟩=>by subst e;exact bT.of gx) ?_ ?_
  ·rintro i x ys H' hx hlen ⟨rfl,rfl⟩;obtain ⟨n,en,r,rfl,hr1⟩:=cR qx hx;have nz:=hz.2.2 n (ax en);have sn:Sz 4400 n.2:=uh hz.1 nz.2.1 hz.2.1;walk_at "w";refine eh (show kM _ _ from ⟨by lia,sn.mono (by decide)⟩) ?_;rw[bF _ (by lia)]
   have sq:Sz 4400 (B / n.2):=sB.le (by
    rw[Int.natAbs_ediv_of_nonneg (by lia)];exact Nat.div_le_self ..)
   walk_at "w";refine eh (show dW _ _ from .inr ⟨_,_,nz.2.2,sq,by decide⟩) ?_;exact ⟨rfl,by rw[take_snoc en];simp [rT]⟩
  ·rintro ys H' hy ⟨rfl,rfl⟩ l hl';exact q l _ hl' (aH.new hl') (by rw[aF,aJ (by lia)])
theorem eC:be ["one","other","rest"] ["one","other"] (ar cQ):=by walk_at "d"
theorem jf (T:Txt K mg Z):cL P w K mg base iQ 1 Z.eY Z.eW ["one","other"] Dy:=by
 refine T.eZ.ok eC (λvs H Q E h=>?_) (λcdv A outer s H vs Q E hr h=>?_)
 ·obtain ⟨a,b,rfl,_⟩:=h;rfl
 ·obtain ⟨a,b,rfl,k⟩:=h
  refine ⟨_,(ao (uY PassesOwn.never (bM wV (pv 1) ak (bN _))
    (ao (aT (i:=2) eC.nd rfl (Or.inl rfl) (bf AD (pv 0) (pv 1)))
   (ao (aT (i:=0) eC.nd rfl (Or.inl rfl) (pv 1))
   (ay (aT (i:=1) eC.nd rfl (Or.inl rfl) (pv 2))))))
   (ay (aV (cz rj (by rfl) T.abs PyProof.Rows.boot_abs (ab (pv 0) ai))))),?_⟩
  refine aS (σ:=[some (.int a),some (.int b),none]) rfl ?_;walk_at "w";refine wq (λσ' H'=>∃(u v:Int) (r:Option V),σ'=[some (.int u),some (.int v),r]/\H'=H/\Int.gcd u v=Int.gcd a b) (λσ' _=>match σ' with | [_,some (.int v),_]=>v.natAbs | _=>0) ⟨a,b,none,rfl,rfl,rfl⟩ ?_;rintro σ' H' ⟨u,v,r,rfl,rfl,hg⟩;walk_at "w";refine kO (λh=>?_) (λh=>?_)
  ·have hv:v≠0:=λz=>by subst z;simp at h
   walk_at "w";refine eh (show v≠0 from hv) ?_;walk_at "w";exact ⟨⟨v,u.fmod v,_,rfl,rfl,(zm u v).trans hg⟩,AU u v hv⟩
  ·have hv:v=0:=by
    by_cases z:v=0
    ·exact z
    ·exfalso;apply h;simp [z]
   subst hv;walk_at "w"
   have e:(if u < 0 then -u else u)=g a b:=by
    unfold g;rw[<- hg,Int.gcd_zero_right]
    split <;> lia
   rw[e];exact k
theorem dJ:be ["wholes","multiple","whole"] ["wholes"] (ar cG):=by walk_at "d"
theorem mY (T:Txt K mg Z):cL P w K mg base iQ 2 Z.eE Z.eD ["wholes"] (yw K):=by
 refine T.gm.ok dJ (λvs H Q E h=>?_) (λcdv A outer s H vs Q E hr h=>?_)
 ·obtain ⟨p,bs,M,rfl,_⟩:=h;rfl
 ·obtain ⟨p,bs,M,rfl,hp,hM,sM,hb,q⟩:=h
  refine ⟨_,(ao (aT (i:=1) dJ.nd rfl (Or.inl rfl) ak)
   (ao (jZ PassesOwn.never rfl (dC (pv 0)) (bg (i:=2) dJ.nd)
    (ay (aT (i:=1) dJ.nd rfl (Or.inl rfl) (bf b8 (pv 1) (bf fR (pv 2) (cO (jf T) hr T.fU T.eZ.kp T.gJ (ab (pv 1) (ab (pv 2) ai))))))))
   (ay (aV (pv 1))))),?_⟩
  refine aS (σ:=[some (.ref p),none,none]) rfl ?_;walk_at "w";refine ⟨⟨_,hp⟩,?_⟩;refine qZ (K:=K) (a:=p) (xs:=bs.map V.int) (λi σ' H'=>H'=H/\∃x,σ'=[some (.ref p),some (.int (oQ (bs.take i) 1)),x]) ⟨rfl,none,rfl⟩ (λi σ' H' _ ⟨e,_⟩=>by subst e;exact hp) ?_ ?_
  ·rintro i x σ' H' hx ⟨rfl,y,rfl⟩;rw[aw] at hx
   obtain ⟨b,eb,rfl⟩:∃b,bs[i]?=some b/\x=.int b:=by
    cases e:bs[i]? with
    | none=>rw[e] at hx;cases hx
    | some b=>rw[e] at hx;cases hx;exact ⟨b,rfl,rfl⟩
   have b1:=hb b (ax eb);have sb:Sz 4400 b:=uh hM b1.2 sM;have ht:∀c∈bs.take i,0 < c/\c∣M:=λc hc=>hb c (cD hc)
   have msz:Sz 4400 (oQ (bs.take i) 1):=uh hM (pZ (by decide) (Int.one_dvd _) ht) sM;generalize hm:oQ (bs.take i) 1=m at msz ⊢;have gp:0 < g m b:=qX (by lia);walk_at "w";refine ⟨m,b,rfl,?_⟩;walk_at "w";refine eh (show kM _ _ from ⟨by lia,(EN b1.1 sb).mono (by decide)⟩) ?_;rw[bF _ (by lia)];walk_at "w";refine eh (show dW _ _ from .inr ⟨_,_,msz,sb.hi (t:=m) (by lia),by decide⟩) ?_;walk_at "w";exact ⟨rfl,_,by rw[take_snoc eb,sD,hm];rfl⟩
  ·rintro σ' H' ⟨rfl,y,rfl⟩;walk_at "w";rw[aJ (by simp)];exact q
theorem oH:be ["row"] ["row"] (ar df):=by walk_at "d"
theorem oM (T:Txt K mg Z):cL P w K mg base iQ 3 Z.fu Z.fo ["row"] (yx K):=by
 refine T.iu.ok oH (λvs H Q E h=>?_) (λcdv A outer s H vs Q E hr h=>?_)
 ·obtain ⟨p,ns,M,rfl,_⟩:=h;rfl
 ·obtain ⟨p,ns,M,rfl,hp,hl,hz,q⟩:=h;refine ⟨_,(ay (aV (cO (mY T) hr T.i4 T.gm.kp T.js (ab (cw ["value"] [] [] (dC (pv 0)) (λ_=>(bg (i:=0) (show List.Nodup (α:=PySem.Str) ["value"] by decide +kernel))) (λ_=>dd) (λ_=>(aP (nQ K (by rfl)) (pv 0) ak))) ai)))),?_⟩;refine aS (σ:=[some (.ref p)]) rfl ?_;obtain ⟨xs,gx,qx⟩:=id hp;have lx:=qx.length;walk_at "w";refine ⟨⟨_,bT.of gx⟩,?_⟩;refine fL (K:=K) (xs:=xs) (λi ys H'=>H'=H/\ys=((ns.take i).map (·.2)).map V.int) (bj (bQ (by lia))) ⟨rfl,rfl⟩ (λi ys H' _ ⟨e,_⟩=>by subst e;exact bT.of gx) ?_ ?_
  ·rintro i x ys H' hx hlen ⟨rfl,rfl⟩;obtain ⟨n,en,r,rfl,hr1⟩:=cR qx hx;walk_at "w";exact ⟨rfl,by rw[take_snoc en];simp⟩
  ·rintro ys H' hy ⟨rfl,rfl⟩ l hl';walk_at "w";refine ⟨l,ns.map (·.2),M,rfl,bT.of (by rw[aF,aJ (by lia)]),hz.1,hz.2.1,λb hb=>?_,?_⟩
   ·obtain ⟨n,hn,rfl⟩:=aD.mp hb;exact ⟨(hz.2.2 n hn).1,(hz.2.2 n hn).2.1⟩
   ·exact q _ (aH.new hl')
theorem mJ:be ["lines","begin","place","at"] ["lines","begin","place"] (ar eQ):=by walk_at "d"
theorem rO (T:Txt K mg Z):cL P w K mg base iQ 1 Z.iF Z.iB ["lines","begin","place"] rZ:=by
 refine T.kD.ok mJ (λvs H Q E h=>?_) (λcdv A outer s H vs Q E hr h=>?_)
 ·obtain ⟨l,p,ls,b,c,rfl,_⟩:=h;rfl
 ·obtain ⟨l,p,ls,b,c,rfl,G,l1000,b1000,hc,k1,k2⟩:=h
  refine ⟨_,(ao (jZ PassesOwn.never rfl (xS rfl T.range (ab (pv 1) (ab (cz cv (by rfl) T.len cH (ab (pv 0) ai)) ai))) (bg (i:=3) mJ.nd)
    (ay (dF (bM wV (aP bP (aP bP (pv 0) (pv 3)) (pv 2)) ak (bN _)) (ay (aV (pv 3))) b7)))
   (ay (aV tO))),?_⟩
  refine aS (σ:=[some (.ref p),some (.int b),some (.int c),none]) rfl ?_;obtain ⟨_,xs,gx,qx⟩:=id G;have lx:=qx.length;walk_at "w";refine ⟨_,_,rfl,.inl (bT.of gx),?_⟩;rw[<- lx];walk_at "w";refine ⟨⟨by lia,by lia,by lia,by lia⟩,?_⟩;refine sF (lo:=(b:Int)) (n:=((ls.length:Int) - (b:Int)).toNat) (λi σ' H'=>H'=H/\(∃y,σ'=[some (.ref p),some (.int b),some (.int c),y])/\∀s,b<=s->s < b+i->cW ls s c=0) ⟨rfl,⟨_,rfl⟩,λs h1 h2=>absurd h2 (by lia)⟩ ?_ ?_
  ·rintro i σ' H' hi ⟨rfl,⟨y,rfl⟩,hz⟩;rw[show ((b:Int)+(i:Int))=((b+i:Nat):Int) by lia];obtain ⟨zs,v,ez,ev,mz,q,rfl,_,gq⟩:=fw qx (i:=b+i) (by lia);walk_at "w";refine cJ (bT.of gx) (fZ ev) ?_;walk_at "w";refine cJ (bT.of gq) (qo (hc zs mz)) ?_;walk_at "w";have ef:=ym (c:=c) ez;by_cases e:zs.getD c 0=0
   ·rw[decide_eq_true e];walk_at "w";refine ⟨rfl,⟨_,rfl⟩,λs h1 h2=>?_⟩;by_cases e2:s=b+i
    ·rw[e2,ef,e];rfl
    ·exact hz s h1 (by lia)
   ·rw[decide_eq_false e];walk_at "w";exact k1 (b+i) (by lia) (by lia) (by rw[ef];exact Eu.mpr e)
  ·rintro σ' H' ⟨rfl,⟨y,rfl⟩,hz⟩;walk_at "w";exact k2 λt h1 h2=>hz t h1 (by lia)
theorem jX:be ["lines","at","place","before","used","by","swept"] ["lines","at","place","before"] (ar iN):=by walk_at "d"
theorem vW (T:Txt K mg Z):cL P w K mg base iQ 1 Z.mB Z.mi ["lines","at","place","before"] r8:=by
 refine T.o3.ok jX (λvs H Q E h=>?_) (λcdv A outer s H vs Q E hr h=>?_)
 ·obtain ⟨l,p,ls,kk,c,n,b,rfl,_⟩:=h;rfl
 ·obtain ⟨l,p,ls,kk,c,n,b,rfl,hl,G,l1000,hk,hw,n1000,hc,b0,sb,hs,k⟩:=h
  refine ⟨_,(ao (aT (i:=4) jX.nd rfl (Or.inr rfl) (aP bP (pv 0) (pv 1)))
   (ao (aT (i:=5) jX.nd rfl (Or.inr rfl) (aP bP (pv 4) (pv 2)))
   (ao (wK 6 ["line"] ["used","by","place","before"] [4,5,2,3] jX.nd rfl rfl (dC (pv 0)) (λ_=>(bg (i:=0) (show List.Nodup (α:=PySem.Str) ["line","used","by","place","before"] by decide +kernel) rfl (Or.inr rfl) (Or.inl rfl))) (λ_=>dd) (λ_=>(cw ["mine","yours"] ["by","line","place","before"] [2,0,3,4] (yO K rfl T.zip (ab (pv 0) (ab (pv 1) ai))) (λ_=>(pW K 2 (dg (bg (i:=0) (show List.Nodup (α:=PySem.Str) ["mine","yours","by","line","place","before"] by decide +kernel)) (dg (bg (i:=1) (show List.Nodup (α:=PySem.Str) ["mine","yours","by","line","place","before"] by decide +kernel)) j0)))) (λ_=>dd) (λ_=>(bf fR (bf j6 (bf b8 (pv 2) (pv 0)) (bf b8 (aP (lF K (by rfl)) (pv 3) (pv 4)) (pv 1))) (pv 5))))))
   (ao (jD (pv 4) (j3 (pv 6) (pv 1) set_list))
   (ay (aV (pv 6))))))),?_⟩
  refine aS (σ:=[some (.ref p),some (.int kk),some (.int c),some (.int b),none,none,none]) rfl ?_;obtain ⟨pl,xs,gx,qx⟩:=id G;have lx:=qx.length;obtain ⟨zk,vk,ek,evk,mk,qk,rfl,qkl,gk⟩:=fw qx hk;have wk:=hw zk mk;have ek':ls.getD kk []=zk:=by rw[aa,ek];rfl
  walk_at "w";refine cJ (bT.of gx) (fZ evk) ?_;walk_at "w";refine cJ (bT.of gk) (qo (by lia)) ?_;walk_at "w";refine ⟨⟨_,bT.of gx⟩,?_⟩;refine fL (K:=K) (xs:=xs) (λi ys H'=>aH H H'/\Paired (xx l H') ((ls.take i).map λzs=>List.zipWith (λx y=>(zk.getD c 0*x - zs.getD c 0*y).fdiv b) zs zk) ys) (bj (bQ (by lia))) ⟨aH.refl _,.nil⟩ (λi ys H' _ ⟨s,_⟩=>bT.of (s _ _ gx)) ?_ ?_
  ·rintro i v ys0 H' hx hlen ⟨s',pr⟩;obtain ⟨zs,ec,q,rfl,ql,gq⟩:=cR qx hx;have mz:=ax ec;have wz:=hw zs mz;have gq':=s' _ _ gq;have gk':=s' _ _ gk;walk_at "w";refine ⟨⟨_,bT.of gq'⟩,⟨_,bT.of gk'⟩,?_⟩;refine rg (K:=K) (xs:=zs.map V.int) (ws:=zk.map V.int) (λj ys H2=>aH H' H2/\ys=((List.zipWith (λx y=>(zk.getD c 0*x - zs.getD c 0*y).fdiv b) zs zk).take j).map V.int) (bj (bQ (by rw[ah];lia))) (by rw[ah,ah];lia) ⟨aH.refl _,rfl⟩ (λj ys H2 _ ⟨s2,_⟩=>⟨bT.of (s2 _ _ gq'),bT.of (s2 _ _ gk')⟩) ?_ ?_
   ·rintro j v1 v2 ys H2 r h1 h2 hy ⟨s2,rfl⟩ hr
    obtain ⟨x,ex,rfl⟩:∃x,zs[j]?=some x/\V.int x=v1:=by
     rw[aw] at h1;cases e:zs[j]? with
     | none=>rw[e] at h1;cases h1
     | some x=>rw[e] at h1;exact ⟨x,rfl,bh h1⟩
    obtain ⟨y,ey,rfl⟩:∃y,zk[j]?=some y/\V.int y=v2:=by
     rw[aw] at h2;cases e:zk[j]? with
     | none=>rw[e] at h2;cases h2
     | some x=>rw[e] at h2;exact ⟨x,rfl,bh h2⟩
    have sr:aH H2 (upd H2 r (.tup [.int x,.int y])):=aH.new hr;have gr:(upd H2 r (.tup [.int x,.int y])) r=some (.tup [.int x,.int y]):=aF;generalize upd H2 r (.tup [.int x,.int y])=H3 at sr gr ⊢;have gq3:=sr _ _ (s2 _ _ gq');have sx:=hs zs mz x (ax ex);have sy:=hs zk mk y (ax ey);have s1:=hs zk mk _ (getD_in (e:=0) (show c < zk.length by lia));have s3:=hs zs mz _ (getD_in (e:=0) (show c < zs.length by lia));walk_at "w";refine eh (show dW _ _ from .inr ⟨_,_,s1,sx,by decide⟩) ?_;walk_at "w";refine cJ (bT.of gq3) (qo (by lia)) ?_;walk_at "w";refine eh (show dW _ _ from .inr ⟨_,_,s3,sy,by decide⟩) ?_;walk_at "w";refine eh (show kM _ _ from ⟨b0,sb⟩) ?_;have ez:(List.zipWith (λx y=>(zk.getD c 0*x - zs.getD c 0*y).fdiv b) zs zk)[j]?=some ((zk.getD c 0*x - zs.getD c 0*y).fdiv b):=by rw[jT,ex,ey]
    exact ⟨s2.trans sr,by rw[take_snoc ez];simp⟩
   ·rintro ys H2 hy ⟨s2,rfl⟩ r hr;have sn:aH H2 (upd H2 r (.lst (((List.zipWith (λx y=>(zk.getD c 0*x - zs.getD c 0*y).fdiv b) zs zk).take (zs.map V.int).length).map V.int))):=aH.new hr;refine ⟨(s'.trans s2).trans sn,?_⟩;rw[take_snoc ec,dq];refine cB (Paired.imp' (λ_ _ z=>(xx.same z s2).same sn) pr) (.cons ⟨r,rfl,ne_old (λz=>hl (s'.none (s2.none z))) hr,?_⟩ .nil);rw[aF,aJ (by rw[dv,ah];lia)]
  ·rintro ys H1 hy ⟨s1,pr⟩ r hr;have sn:aH H1 (upd H1 r (.lst ys)):=aH.new hr;have gn:(upd H1 r (.lst ys)) r=some (.lst ys):=aF;have ly:=pr.length;rw[ah,dH] at ly;generalize upd H1 r (.lst ys)=H2 at sn gn ⊢;walk_at "w";refine jY gn (md (by lia)) rfl ?_;have s2:aH H1 (upd H2 r (.lst (ys.set kk (.ref qk)))):=sn.after hr;walk_at "w";refine k r _ (s1.none hr) (s1.trans s2) ⟨ne_old (λz=>hl (s1.none z)) hr,_,aF,?_⟩;unfold vw;rw[ek'];rw[aJ (by lia)] at pr;exact fv (Paired.imp' (λ_ _ z=>xx.same z s2) pr) kk ⟨qk,rfl,qkl,(s1.trans s2) _ _ gk⟩
theorem mK:be ["lines","at","to","swapped"] ["lines","at","to"] (ar eT):=by walk_at "d"
theorem rP (T:Txt K mg Z):cL P w K mg base iQ 1 Z.iG Z.iC ["lines","at","to"] o8:=by
 refine T.kE.ok mK (λvs H Q E h=>?_) (λcdv A outer s H vs Q E hr h=>?_)
 ·obtain ⟨l,p,ls,t,kk,rfl,_⟩:=h;rfl
 ·obtain ⟨l,p,ls,t,kk,rfl,hl,G,l1000,ht,hk,k⟩:=h
  refine ⟨_,(ao (aT (i:=3) mK.nd rfl (Or.inl rfl) (so n8 (by rfl) T.list PyProof.Rows.boot_list (ab (pv 0) ai)))
   (ao (jD (aP bP (pv 0) (pv 1)) (j3 (pv 3) (pv 2) set_list))
   (ao (jD (aP bP (pv 0) (pv 2)) (j3 (pv 3) (pv 1) set_list))
   (ay (aV (pv 3)))))),?_⟩
  refine aS (σ:=[some (.ref p),some (.int t),some (.int kk),none]) rfl ?_;obtain ⟨pl,xs,gx,qx⟩:=id G;have lx:=qx.length;obtain ⟨zt,vt,et,evt,_,Ft⟩:=fw qx ht;obtain ⟨zk,vk,ek,evk,_,Fk⟩:=fw qx hk;walk_at "w";refine ⟨p,xs,rfl,.inl (bT.of gx),λc hc=>?_⟩;have sc:aH H (upd H c (.lst xs)):=aH.new hc;have gc:(upd H c (.lst xs)) c=some (.lst xs):=aF;generalize upd H c (.lst xs)=Hc at sc gc ⊢;walk_at "w";refine cJ (bT.of (sc _ _ gx)) (fZ evt) ?_;walk_at "w";refine jY gc (md (by lia)) rfl ?_;have s1:aH H (upd Hc c (.lst (xs.set kk vt))):=sc.after hc;have g1:(upd Hc c (.lst (xs.set kk vt))) c=some (.lst (xs.set kk vt)):=aF;generalize upd Hc c (.lst (xs.set kk vt))=H1 at s1 g1 ⊢;walk_at "w";refine cJ (bT.of (s1 _ _ gx)) (fZ evk) ?_;walk_at "w";refine jY g1 (md (by rw[cN];lia)) rfl ?_;have s2:aH H (upd H1 c (.lst ((xs.set kk vt).set t vk))):=s1.after hc;walk_at "w";refine k c _ hc s2 ⟨ne_old hl hc,_,aF,?_⟩;have et':ls.getD t []=zt:=by rw[aa,et];rfl
  have ek':ls.getD kk []=zk:=by rw[aa,ek];rfl
  unfold jU;rw[et',ek'];exact fv (fv (Paired.imp' (λ_ _ z=>xx.same z s2) qx) kk (xx.same Ft s2)) t (xx.same Fk s2)
theorem fP:be ["rows","wide","lines","leads","before","place","many","at"] ["rows","wide"] (ar lS):=by walk_at "d"
theorem vb (T:Txt K mg Z):cL P w K mg base iQ 4 Z.qe Z.p7 ["rows","wide"] (rW K):=by
 refine T.qj.ok fP (λvs H Q E h=>?_) (λcdv A outer s H vs Q E hr h=>?_)
 ·obtain ⟨p,n,w,H0,rows,rfl,_⟩:=h;rfl
 ·obtain ⟨p,n,w,H0,rows,rfl,G,r100,n100,hw,F,k⟩:=h
  refine ⟨_,(ao (wK 2 ["row"] [] [] fP.nd rfl rfl (dC (pv 0)) (λ_=>(bg (i:=0) (show List.Nodup (α:=PySem.Str) ["row"] by decide +kernel))) (λ_=>dd) (λ_=>(cO (tR T) hr T.nK T.lL.kp T.pE (ab (pv 0) (ab (cO (oM T) hr T.jR T.iu.kp T.kL (ab (pv 0) ai)) ai)))))
   (ao (aT (i:=3) fP.nd rfl (Or.inl rfl) (j4 ai))
   (ao (aT (i:=4) fP.nd rfl (Or.inl rfl) ak)
   (ao (jZ PassesOwn.never rfl (eV rfl T.range (ab (pv 1) ai)) (bg (i:=5) fP.nd)
    (ao (aT (i:=6) fP.nd rfl (Or.inl rfl) (cz cv (by rfl) T.len cH (ab (pv 3) ai)))
   (ao (aT (i:=7) fP.nd rfl (Or.inl rfl) (cO (rO T) hr T.mM T.kD.kp T.oe (ab (pv 2) (ab (pv 6) (ab (pv 5) ai)))))
   (ay (dF (bM wQ (pv 7) tO (bN _)) (ao (aT (i:=2) fP.nd rfl (Or.inl rfl) (cO (vW T) hr T.qR T.o3.kp T.sS (ab (cO (rP T) hr T.mN T.kE.kp T.og (ab (pv 2) (ab (pv 7) (ab (pv 6) ai)))) (ab (pv 6) (ab (pv 5) (ab (pv 4) ai))))))
   (ao (aT (i:=4) fP.nd rfl (Or.inl rfl) (aP bP (aP bP (pv 2) (pv 6)) (pv 5)))
   (ay (wL (yQ pM Dc C9 sC (pv 3) (ab (pv 5) ai)))))) b7)))))
   (ay (aV (dO (ab (u6 wH (pv 2) wO (wM (cz cv (by rfl) T.len cH (ab (pv 3) ai)))) (ab (pv 3) ai))))))))),?_⟩
  refine aS (σ:=[some (.ref p),some (.int n),none,none,none,none,none,none]) rfl ?_;obtain ⟨xs,gx,qx,_⟩:=id G;obtain ⟨W,hW,W2,ent⟩:=F.ent;obtain ⟨_,_,_,_,_,_,_,_,r15,r89⟩:=id F;walk_at "w";refine ⟨⟨_,bT.of gx⟩,?_⟩;refine gI (K:=K) (as:=rows) (F:=eB K H0) (λ(H:Hp) (zs:List Int) (v:V)=>∃q,v=V.ref q/\H q=some (.lst (zs.map V.int))) ie gx qx (by lia) (λa b=>a.same b) (λ⟨q,a,b⟩ s=>⟨q,a,s _ _ b⟩) ?_ ?_
  ·rintro i qs v H' NY NN ec s' ⟨u,rfl,_,R⟩ k1;have mx:=ax ec;obtain ⟨M,hM⟩:=F.rowM mx;obtain ⟨b1,sb⟩:=hM.bot;have lq:(qs.map nm).length<=1000:=by rw[ah,hw qs mx];lia
   walk_at "w";refine ⟨u,_,M,rfl,R.rowK,lq,hM,λH2 s2=>?_⟩;walk_at "w";exact ⟨u,_,M,_,rfl,(R.same s2).rowK,lq,hM,b1,sb,λr H3 n3 s3 g3=>k1 _ _ (s2.trans s3) ⟨r,rfl,g3⟩⟩
  rintro ys H1 lp0 hlp s1 g1 pr1 nx1;walk_at "w";refine je λqp H2 s2 nq gq=>?_
  have G2:lK qp H2 lp0 (rows.map ie):=⟨(λz=>by rw[z,nq] at g1;cases g1),ys,s2 _ _ g1,Paired.imp' (λ_ _ ⟨q,a,b⟩=>⟨q,a,(λz=>by rw[z,nq] at b;cases b),s2 _ _ b⟩) pr1⟩;have hq0:H qp=none:=s1.none nq;have s02:=s1.trans s2;have hm:(rows.map ie).length=rows.length:=ah ..;clear g1 pr1 nx1;walk_at "w";refine ⟨by lia,by lia,?_⟩;refine m5 (n:=n) (λP σ' H'=>aH H H'/\∃lp ls ps d y1 y2 y3,σ'=[some (.ref p),some (.int n),some (.ref lp),some (.ref qp),some (.int d),y1,y2,y3]/\H' qp=some (.lst (cE ps))/\lK qp H' lp ls/\sT (rows.map ie) n P ls ps d) ⟨s02,lp0,rows.map ie,[],1,_,_,_,rfl,gq,G2,sT.start λzs hz=>by obtain ⟨x,hx,rfl⟩:=aD.mp hz;rw[nj];exact hw x hx⟩ ?_ ?_
  ·rintro P σ' H' hP ⟨s',lp,ls,ps,d,y1,y2,y3,rfl,gq',G',I⟩;have hl:=I.len;have kP:=I.el.kP;have km:=I.el.km;have lps:(cE ps).length=ps.length:=ah ..;have hqp:H' qp≠none:=by rw[gq'];exact λz=>nomatch z
   obtain ⟨z1,z2⟩:=I.sz (r:=min rows.length n) hW ent (by lia) (by rw[hm];exact aj _) r15;have big:(16*W)^min rows.length n < 2^8999:=bL (vR W2) (dc (by decide) (by lia));walk_at "w";refine ⟨_,_,rfl,.inl (bT.of gq'),?_⟩;rw[lps];walk_at "w";refine ⟨qp,lp,ls,ps.length,P,rfl,G',by lia,by lia,λzs hz=>by rw[I.wide zs hz];exact hP,λt h1 h2 h3=>?_,λhz=>?_⟩
   ·walk_at "w";refine ⟨rfl,_,rfl,?_⟩;rw[show decide (V.int (t:Int)=V.non)=false from decide_eq_false (λz=>nomatch z)];walk_at "w";refine ⟨qp,lp,ls,t,ps.length,rfl,hqp,G',by lia,h2,by lia,λl1 Ha na sa Ga=>?_⟩;walk_at "w";refine ⟨qp,l1,_,ps.length,P,n,d,rfl,λz=>hqp (sa.none z),Ga,by rw[oA];lia,by rw[oA];lia,wC I.wide (by lia) h2,by lia,hP,I.d0,bL z1 big,λzs hz z hz'=>?_,λl2 Hb nb sb Gb=>?_⟩
    ·unfold jU at hz;have key:∀ys,ys∈ls->∀z∈ys,Sz 8999 z:=λys hy z hz=>bL (z2 ys hy z hz) big
     rcases cP hz with h | h
     ·rcases cP h with h | h
      ·exact key zs h z hz'
      ·rw[h] at hz';exact key _ (getD_in h2) z hz'
     ·rw[h] at hz';exact key _ (getD_in (by lia)) z hz'
    have sab:=sa.trans sb;have I2:=I.step hW ent h1 h2 h3;have hk2:ps.length < (vw (jU ls ps.length t) ps.length P d).length:=by rw[zK,oA];lia
    obtain ⟨n2,xs2,gx2,qx2⟩:=id Gb;obtain ⟨zk,vk,ek,evk,mk,qk,rfl,_,gk⟩:=fw qx2 hk2;have wk:=I2.wide zk mk;walk_at "w";refine cJ (bT.of gx2) (fZ evk) ?_;walk_at "w";refine cJ (bT.of gk) (qo (by lia)) ?_;have gqb:=sab _ _ gq';walk_at "w";refine ⟨.inl ⟨rfl,_,bT.of gqb⟩,?_⟩;walk_at "w";refine sf gqb (bQ (by lia)) ?_;refine ⟨(s'.trans sab).after hq0,l2,_,ps++[P],_,_,_,_,rfl,?_,Gb.upd,?_⟩
    ·rw[aF];unfold cE;rw[dq];rfl
    ·have e:(vw (jU ls ps.length t) ps.length P d).getD ps.length []=zk:=by rw[aa,ek];rfl
     rw[e] at I2;exact I2
   ·walk_at "w";refine ⟨rfl,_,rfl,?_⟩;rw[show decide (V.non=V.non)=true from decide_eq_true rfl];walk_at "w";exact ⟨s',lp,ls,ps,d,_,_,_,rfl,gq',G',I.skip hz⟩
  rintro σ' H' ⟨s',lp,ls,ps,d,y1,y2,y3,rfl,gq',G',I⟩;obtain ⟨R,hR⟩:=I.done hw F;have lps:(cE ps).length=ps.length:=ah ..;obtain ⟨nl,xs',gx',qx'⟩:=id G';walk_at "w";refine ⟨_,_,rfl,.inl (bT.of gq'),?_⟩;rw[lps];walk_at "w";refine Ca (bT.of gx') λsl H3 s3 n3 g3=>?_
  rw[zJ] at g3;walk_at "w";refine cu λt H4 s4 g4=>?_
  have s34:=s3.trans s4;exact k t sl qp R ps d _ H4 g4 (s34 _ _ gq') ⟨(λz=>by rw[z,gq'] at n3;cases n3),_,s4 _ _ g3,Paired.imp' (λ_ _ z=>xx.same z s34) (pg qx' ps.length)⟩ (s'.trans s34) hR
theorem oF:be ["top","bottom","divisor"] ["top","bottom"] (ar jP):=by walk_at "d"
theorem oJ (T:Txt K mg Z):cL P w K mg base iQ 2 Z.om Z.nY ["top","bottom"] xK:=by
 refine T.lM.ok oF (λvs H Q E h=>?_) (λcdv A outer s H vs Q E hr h=>?_)
 ·obtain ⟨t,b,rfl,_⟩:=h;rfl
 ·obtain ⟨t,b,rfl,hb,hs,k⟩:=h
  refine ⟨_,(ao (aT (i:=2) oF.nd rfl (Or.inl rfl) (cO (jf T) hr T.fU T.eZ.kp T.gJ (ab (pv 0) (ab (pv 1) ai))))
   (ao (dF (bM su (pv 1) ak (bN _)) (ay (aT (i:=2) oF.nd rfl (Or.inl rfl) (DQ BL (pv 2)))) b7)
   (ay (aV (dO (ab (bf fR (pv 0) (pv 2)) (ab (bf fR (pv 1) (pv 2)) ai))))))),?_⟩
  refine aS (σ:=[some (.int t),some (.int b),none]) rfl ?_;walk_at "w";refine ⟨t,b,rfl,?_⟩;have hg:=qX (t:=t) hb
  have hgs:Sz 8999 (g t b):=hs.le (by
   have h1:(g t b).natAbs=Int.gcd t b:=by unfold g;simp
   rw[h1];exact kI (by lia) (by have:=dn (a:=t) (b:=b);exact dQ.mpr this |> λz=>by simpa using z))
  have hgn:g (-t) (-b)=g t b:=by unfold g;rw[Int.gcd_neg,Int.neg_gcd]
  walk_at "w";refine kO (λh=>?_) (λh=>?_)
  ·have hb0:b < 0:=of_decide_eq_true h;walk_at "w";refine eh (show kM _ _ from ⟨by lia,hgs.neg⟩) ?_;walk_at "w";refine eh (show kM _ _ from ⟨by lia,hgs.neg⟩) ?_;walk_at "w";refine cu λr H' s' h'=>?_
   have e1:t.fdiv (-g t b)=lo (-t) (-b):=by
    unfold Nm.lo;rw[hgn,<- bF _ (by lia),<- Int.neg_fdiv_neg (-t),Int.neg_neg]
   have e2:b.fdiv (-g t b)=hi (-t) (-b):=by
    unfold Nm.hi;rw[hgn,<- bF _ (by lia),<- Int.neg_fdiv_neg (-b),Int.neg_neg]
   exact k r H' s' (by rw[if_pos hb0,if_pos hb0,<- e1,<- e2];exact h')
  ·have hb0:¬b < 0:=λz=>h (decide_eq_true z)
   walk_at "w";refine eh (show kM _ _ from ⟨by lia,hgs⟩) ?_;walk_at "w";refine eh (show kM _ _ from ⟨by lia,hgs⟩) ?_;walk_at "w";refine cu λr H' s' h'=>?_
   rw[bF _ (by lia),bF _ (by lia)] at h';exact k r H' s' (by rw[if_neg hb0,if_neg hb0];exact h')
theorem qG:be ["rows","wide","found"] ["rows","wide"] (ar iK):=by walk_at "d"
theorem qK (T:Txt K mg Z):cL P w K mg base iQ 5 Z.mq Z.me ["rows","wide"] (o5 K):=by
 refine T.mE.ok qG (λvs H Q E h=>?_) (λcdv A outer s H vs Q E hr h=>?_)
 ·obtain ⟨p,n,w,H0,rows,rfl,_⟩:=h;rfl
 ·obtain ⟨p,n,w,H0,rows,rfl,G,r100,n100,hw,F,k⟩:=h
  refine ⟨_,(ao (aT (i:=2) qG.nd rfl (Or.inl rfl) (cO (vb T) hr T.qP T.qj.kp T.ur (ab (pv 0) (ab (pv 1) ai))))
   (ay (aV (cw ["line","lead"] [] [] (nG rfl T.zip (ab (aP bo (pv 2) ak) (ab (aP bo (pv 2) ak) ai))) (λ_=>(pW K 2 (dg (bg (i:=0) (show List.Nodup (α:=PySem.Str) ["line","lead"] by decide +kernel) rfl (Or.inr rfl) (Or.inl rfl)) (dg (bg (i:=1) (show List.Nodup (α:=PySem.Str) ["line","lead"] by decide +kernel) rfl (Or.inr rfl) (Or.inl rfl)) j0)))) (λ_=>dd) (λ_=>(cw ["top"] ["line","lead"] [0,1] (u0 K (pv 0)) (λ_=>(bg (i:=0) (show List.Nodup (α:=PySem.Str) ["top","line","lead"] by decide +kernel))) (λ_=>dd) (λ_=>(cO (oJ T) hr T.ma T.lM.kp T.oa (ab (pv 0) (ab (aP (lF K (by rfl)) (pv 1) (pv 2)) ai)))))))))),?_⟩
  refine aS (σ:=[some (.ref p),some (.int n),none]) rfl ?_;obtain ⟨_,_,_,_,_,_,_,_,r15,r89⟩:=id F;walk_at "w";refine ⟨p,n,w,H0,rows,rfl,G,r100,n100,hw,F,λt lp qp R ps d ls H1 gt gq G1 s1 S=>?_⟩;obtain ⟨lR,wR,RR⟩:=id S.rr;have hl:=S.len;obtain ⟨_,xs,gx,qx⟩:=id G1;have lx:=qx.length;have lps:(cE ps).length=ps.length:=ah ..;have d0:(d:Rat)≠0:=λz=>S.d0 (i5 z)
  have dsz:Sz 8999 d:=bL S.dsz (dc (by decide) (by lia))
  have km:ps.length<=n:=by
   rcases cY n ps.length with z | z
   ·have inc:∀j,j < ps.length->j<=ps.getD j 0:=by
     intro j
     induction j with
     | zero=>intro _;exact bc _
     | succ j ih =>
      intro hj;have:=ih (by lia);have:=RR.inc j (j+1) (by lia) hj
      lia
    have h1:=inc (ps.length - 1) (by lia);have h2:=RR.low (ps.length - 1) (by lia)
    lia
   ·exact z
  walk_at "w";refine ⟨⟨_,bT.of gx⟩,⟨_,bT.of gq⟩,?_⟩;refine rg (K:=K) (xs:=xs) (ws:=cE ps) (λi ys H'=>aH H1 H'/\Paired (eB K H1 H') (R.take i) ys) (bj (bQ (by lia))) (by lia) ⟨aH.refl _,.nil⟩ (λi ys H' _ ⟨s,_⟩=>⟨bT.of (s _ _ gx),bT.of (s _ _ gq)⟩) ?_ ?_
  ·rintro i v1 v2 ys H' r h1 h2 hy ⟨s,pr⟩ hr;obtain ⟨zs,ez,q,rfl,_,gq1⟩:=cR qx h1;have hi:i < ls.length:=(aB.mp ez).1;have mz:=ax ez;have wz:=S.wide zs mz
   obtain ⟨j,ej,rfl⟩:∃j:Nat,ps[i]?=some j/\V.int (j:Int)=v2:=by
    unfold cE at h2;rw[aw] at h2;cases e:ps[i]? with
    | none=>rw[e] at h2;cases h2
    | some x=>rw[e] at h2;exact ⟨x,rfl,bh h2⟩
   have ej':ps.getD i 0=j:=by rw[aa,ej];rfl
   have jn:j < n:=by have:=RR.low i (by lia);rw[ej'] at this;exact this
   have sr:aH H' (upd H' r (.tup [.ref q,.int j])):=aH.new hr;have gr:(upd H' r (.tup [.ref q,.int j])) r=some (.tup [.ref q,.int j]):=aF;generalize upd H' r (.tup [.ref q,.int j])=H2 at sr gr ⊢;have s2:=s.trans sr;have iR:i < R.length:=by lia
   have eR:=ae iR;have wRi:=wR _ (aA iR)
   have ed:zs.getD j 0=d:=by
    have h:=S.val i j;rw[ym ez] at h;have u:=RR.unit i (by lia) i (by lia);rw[if_pos rfl,ej'] at u;rw[u,sV] at h;exact cx.mp h
   have val:∀c,((zs.getD c 0:Int):Rat)=(d:Rat)*(R[i]).getD c 0:=λc=>by
    have h:=S.val i c;rw[ym ez] at h;rw[h];unfold bV;rw[aa (l:=R),eR];rfl
   walk_at "w";refine ⟨⟨_,bT.of (s2 _ _ gq1)⟩,?_⟩;refine fL (K:=K) (xs:=zs.map V.int) (λc ys' H3=>aH H2 H3/\Paired (bZ K H3) ((R[i]).take c) ys') (bj (bQ (by rw[ah];lia))) ⟨aH.refl _,.nil⟩ (λc ys' H3 _ ⟨s3,_⟩=>bT.of ((s2.trans s3) _ _ gq1)) ?_ ?_
   ·rintro c x ys' H3 hx hlen ⟨s3,pr3⟩
    obtain ⟨z,ec,rfl⟩:∃z,zs[c]?=some z/\V.int z=x:=by
     rw[aw] at hx;cases e:zs[c]? with
     | none=>rw[e] at hx;cases hx
     | some x=>rw[e] at hx;exact ⟨x,rfl,bh hx⟩
    have hc:c < zs.length:=(aB.mp ec).1;have vc:=val c;have e1:zs.getD c 0=z:=by rw[aa,ec];rfl
    rw[e1] at vc;walk_at "w";refine cJ (bT.of ((s2.trans s3) _ _ gq1)) (qo (by lia)) ?_;rw[ed];walk_at "w";refine ⟨z,d,rfl,S.d0,dsz,λr4 H4 s4 g4=>?_⟩;have ec':(R[i])[c]?=some ((R[i]).getD c 0):=by rw[aa,ae (show c < (R[i]).length by lia)];rfl
    refine ⟨s3.trans s4,?_⟩;rw[take_snoc ec'];refine cB (Paired.imp' (λ_ _ z=>bZ.same z s4) pr3) (.cons (bZ.mk g4 ?_) .nil);rcases Int.lt_or_lt_of_ne S.d0 with hd | hd
    ·rw[if_pos hd,if_pos hd];refine jh (by lia) ?_;rw[bH,bH,vc];grind
    ·rw[if_neg (by lia),if_neg (by lia)];refine jh hd ?_;rw[vc];grind
   ·rintro ys' H3 hy' ⟨s3,pr3⟩ l4 hl4;have sn:aH H3 (upd H3 l4 (.lst ys')):=aH.new hl4;refine ⟨(s2.trans s3).trans sn,?_⟩;rw[take_snoc eR];rw[aJ (by rw[ah];lia)] at pr3;exact cB (Paired.imp' (λ_ _ z=>eB.same z ((sr.trans s3).trans sn)) pr) (.cons ⟨l4,rfl,(s2.trans s3).none hl4,ys',aF,Paired.imp' (λ_ _ z=>bZ.same z sn) pr3⟩ .nil)
  ·rintro ys H' hy ⟨s,pr⟩ r hr;have sn:aH H' (upd H' r (.lst ys)):=aH.new hr;rw[aJ (by lia)] at pr;refine k r R ps d.natAbs _ (s1.none (s.none hr)) ((s1.trans s).trans sn) ⟨ys,aF,Paired.imp' (λ_ _ z=>(eB.weak z s1).same sn) pr,yX (H0:=H1) (rows:=R) ⟨H',hr,pr⟩⟩ S.rr S.km ?_ S.dsz S.tp;have:=S.d0
   lia
theorem uN:be ["many","at"] ["many","at"] (ar gA):=by walk_at "d"
theorem va (T:Txt K mg Z):cL P w K mg base iQ 1 Z.kv Z.kf ["many","at"] (uC K):=by
 refine T.m8.ok uN (λvs H Q E h=>?_) (λcdv A outer s H vs Q E hr h=>?_)
 ·obtain ⟨m,a',rfl,_⟩:=h;rfl
 ·obtain ⟨m,a',rfl,hm,k⟩:=h;refine ⟨_,(ay (aV (cw ["place"] ["at"] [1] (eV rfl T.range (ab (pv 0) ai)) (λ_=>(bg (i:=0) (show List.Nodup (α:=PySem.Str) ["place","at"] by decide +kernel))) (λ_=>dd) (λ_=>(u9 (bM lb (pv 0) (pv 1) (bN _)) (lZ (v:=.ref Z.a_ONE) rfl T.mg_ONE rfl) (lZ (v:=.ref Z.a_NOUGHT) rfl T.mg_NOUGHT rfl)))))),?_⟩;refine aS (σ:=[some (.int m),some (.int a')]) rfl ?_;walk_at "w";refine ⟨by lia,by lia,?_⟩;refine mm (n:=m) (bZ K) (λi=>if ((i:Nat):Int)=a' then 1 else 0) hm (λa b=>a.same b) ?_ ?_
  ·rintro i H' NY NN hi s k1;walk_at "w";refine kO (λh0=>?_) (λh0=>?_)
   ·walk_at "w";exact k1 _ _ (aH.refl _) (by rw[if_pos (of_decide_eq_true h0)];exact ⟨_,rfl,T.sq_ONE _⟩)
   ·walk_at "w";exact k1 _ _ (aH.refl _) (by rw[if_neg (λz=>h0 (decide_eq_true z))];exact ⟨_,rfl,T.sq_NOUGHT _⟩)
  ·rintro ys H' l hl s g pr nx;exact k l _ hl s ⟨ys,g,pr⟩
theorem oG:be ["row"] ["row"] (ar de):=by walk_at "d"
theorem oK (T:Txt K mg Z):cL P w K mg base iQ 1 Z.ft Z.fm ["row"] (uG K):=by
 refine T.ir.ok oG (λvs H Q E h=>?_) (λcdv A outer s H vs Q E hr h=>?_)
 ·obtain ⟨p,xs,j,rfl,_⟩:=h;rfl
 ·obtain ⟨p,xs,j,rfl,R,x1000,hj,hne,hz,k⟩:=h;refine ⟨_,(ay (aV (cz (ye rfl) (by rfl) T.min PyProof.Rows.boot_min (ab (cw ["place","value"] [] [] (AA rfl T.enumerate (ab (pv 0) ai)) (λ_=>(pW K 2 (dg (bg (i:=0) (show List.Nodup (α:=PySem.Str) ["place","value"] by decide +kernel)) (dg (bg (i:=1) (show List.Nodup (α:=PySem.Str) ["place","value"] by decide +kernel)) j0)))) (λ_=>yP (bM (wU K (by rfl) (qW hr)) (pv 1) (lZ (v:=.ref Z.a_NOUGHT) rfl T.mg_NOUGHT rfl) (bN _))) (λ_=>(pv 0))) ai)))),?_⟩;refine aS (σ:=[some (.ref p)]) rfl ?_;obtain ⟨zs,gz,qz⟩:=id R;have lz:=qz.length;walk_at "w";refine ⟨⟨_,bT.of gz⟩,?_⟩;refine yc (K:=K) (xs:=zs) (λi ys H'=>aH H H'/\ys=cE (yj xs i)) (bj (bQ (by lia))) ⟨aH.refl _,rfl⟩ (λi ys H' _ ⟨s,_⟩=>bT.of (s _ _ gz)) ?_ ?_
  ·rintro i v ys H' r hx hlen ⟨s',rfl⟩ hr;obtain ⟨y,ey,ny⟩:=cR qz hx;have ey':xs.getD i 0=y:=by rw[aa,ey];rfl
   have sr:aH H' (upd H' r (.tup [.int i,v])):=aH.new hr;have gr:(upd H' r (.tup [.int i,v])) r=some (.tup [.int i,v]):=aF;generalize upd H' r (.tup [.int i,v])=H2 at sr gr ⊢;walk_at "w";refine ⟨_,_,qV,y,0,by decide,(ny.same s').same sr,⟨_,rfl,T.sq_NOUGHT _⟩,?_⟩;by_cases e:y=0
   ·rw[decide_eq_true e];walk_at "w";refine ⟨s'.trans sr,?_⟩;rw[wX,ey',if_neg (by simpa using e)]
   ·rw[decide_eq_false e];walk_at "w";refine ⟨s'.trans sr,?_⟩;rw[wX,ey',if_pos e];unfold cE;rw[dq];rfl
  ·rintro ys H1 hy ⟨s1,rfl⟩ l hl;have sn:aH H1 (upd H1 l (.lst (cE (yj xs zs.length)))):=aH.new hl;have gn:(upd H1 l (.lst (cE (yj xs zs.length)))) l=some (.lst (cE (yj xs zs.length))):=aF;generalize upd H1 l (.lst (cE (yj xs zs.length)))=H2 at sn gn ⊢
   have mj:j∈yj xs zs.length:=by
    unfold yj;exact kT.mpr ⟨sW.mpr (by lia),by simpa using hne⟩
   walk_at "w";refine ⟨l,xh (yj xs zs.length),rfl,bT.of (by rw[<- xY];exact gn),?_,λM hM hle=>?_⟩
   ·unfold xh;rw[ah];exact List.length_pos_of_mem mj
   ·obtain ⟨c,hc,rfl⟩:=aD.mp hM;have h1:=hle j (aD.mpr ⟨j,mj,rfl⟩);have h2:=(kT.mp hc).2
    have e:c=j:=by
     rcases eG c j with z | z | z
     ·exact absurd (hz c z) (of_decide_eq_true h2)
     ·exact z
     ·lia
    rw[e];exact k _ (s1.trans sn)
theorem vO:be ["rows"] ["rows"] (ar iM):=by walk_at "d"
theorem qL (T:Txt K mg Z):cL P w K mg base iQ 2 Z.my Z.mh ["rows"] (uH K):=by
 refine T.mF.ok vO (λvs H Q E h=>?_) (λcdv A outer s H vs Q E hr h=>?_)
 ·obtain ⟨p,n,H0,R,ps,rfl,_⟩:=h;rfl
 ·obtain ⟨p,n,H0,R,ps,rfl,G,r100,n100,⟨rows,RR⟩,k⟩:=h;refine ⟨_,(ay (aV (cw ["row"] [] [] (dC (pv 0)) (λ_=>(bg (i:=0) (show List.Nodup (α:=PySem.Str) ["row"] by decide +kernel))) (λ_=>dd) (λ_=>(cO (oK T) hr T.jQ T.ir.kp T.kK (ab (pv 0) ai)))))),?_⟩;refine aS (σ:=[some (.ref p)]) rfl ?_;obtain ⟨lR,wR,rr⟩:=id RR;obtain ⟨xs,gx,qx,_⟩:=id G;have lx:=qx.length;walk_at "w";refine ⟨⟨_,bT.of gx⟩,?_⟩;refine fL (K:=K) (xs:=xs) (λi ys H'=>aH H H'/\ys=cE (ps.take i)) (bj (bQ (by lia))) ⟨aH.refl _,rfl⟩ (λi ys H' _ ⟨s,_⟩=>bT.of (s _ _ gx)) ?_ ?_
  ·rintro i v ys H' hx hlen ⟨s',rfl⟩;obtain ⟨row,er,q,rfl,_,Rr⟩:=cR qx hx;have wr:=wR row (ax er);have hi:i < ps.length:=by have:=(aB.mp er).1;lia
   have ef:∀c,bV R i c=row.getD c 0:=λc=>by unfold bV;rw[aa (l:=R),er];rfl
   have ep:ps[i]?=some (ps.getD i 0):=by rw[aa,ae hi];rfl
   have lowp:=rr.low i hi;have u:=rr.unit i hi i hi;rw[if_pos rfl,ef] at u;walk_at "w";refine ⟨q,row,ps.getD i 0,rfl,Rr.same s',by lia,by lia,by rw[u];decide,λc hc=>by rw[<- ef];exact rr.lead i hi c hc,λH2 s2=>?_⟩;refine ⟨s'.trans s2,?_⟩;unfold cE;rw[take_snoc ep,dq];rfl
  ·rintro ys H1 hy ⟨s1,rfl⟩ r hr;refine k r _ (s1.none hr) (s1.trans (aH.new hr)) ?_;rw[aF,aJ (by lia)]
theorem yD:be ["one","other"] ["one","other"] (ar lW):=by walk_at "d"
theorem yT (T:Txt K mg Z):cL P w K mg base iQ 3 Z.qi Z.qb ["one","other"] (jV K (λx y=>x - y)):=by
 refine T.uw.ok yD (λvs H Q E h=>?_) (λcdv A outer s H vs Q E hr h=>?_)
 ·obtain ⟨p,q,a,b,c,d,rfl,hp,hq,hb,hd,sa,sb,sc,sd,k⟩:=pV h;rfl
 ·obtain ⟨p,q,a,b,c,d,rfl,hp,hq,hb,hd,sa,sb,sc,sd,k⟩:=pV h;refine ⟨_,(ay (aV (cO (oJ T) hr T.ma T.lM.kp T.oa (ab (bf j6 (bf b8 (aP bo (pv 0) ak) (aP bo (pv 1) ak)) (bf b8 (aP bo (pv 1) ak) (aP bo (pv 0) ak))) (ab (bf b8 (aP bo (pv 0) ak) (aP bo (pv 1) ak)) ai))))),?_⟩;refine aS (σ:=[some (.ref p),some (.ref q)]) rfl ?_;have hbd:0 < b*d:=i7 hb hd;have sbd:Sz 8999 (b*d):=(sb.mul sd).mono (by decide);walk_at "w";refine eh (show dW _ _ from .inr ⟨_,_,sa,sd,by decide⟩) ?_;walk_at "w";refine eh (show dW _ _ from .inr ⟨_,_,sc,sb,by decide⟩) ?_;walk_at "w";refine eh (show dW _ _ from .inr ⟨_,_,sb,sd,by decide⟩) ?_;walk_at "w";walk_at "w";refine ⟨_,_,rfl,by lia,sbd,λr H' s' h'=>?_⟩;rw[if_neg (by lia),if_neg (by lia)] at h';exact k r H' s' h'
theorem jW:be ["rows","wide","at","answer","lead","row"] ["rows","wide","at"] (ar iL):=by walk_at "d"
theorem vV (T:Txt K mg Z):cL P w K mg base iQ 4 Z.mw Z.mf ["rows","wide","at"] (rY K):=by
 refine T.oZ.ok jW (λvs H Q E h=>?_) (λcdv A outer s H vs Q E hr h=>?_)
 ·obtain ⟨p,n,a,H0,R,ps,rfl,_⟩:=h;rfl
 ·obtain ⟨p,n,a,H0,R,ps,rfl,G,r100,n100,⟨rows,RR⟩,ha,hp,hz,k⟩:=h
  refine ⟨_,(ao (aT (i:=3) jW.nd rfl (Or.inl rfl) (cO (va T) hr T.pq T.m8.kp T.rz (ab (pv 1) (ab (pv 2) ai))))
   (ao (jZ PassesOwn.never rfl (nG rfl T.zip (ab (cO (qL T) hr T.m4 T.mF.kp T.oX (ab (pv 0) ai)) (ab (pv 0) ai))) (tN rfl (dg (bg (i:=4) jW.nd) (dg (bg (i:=5) jW.nd) j0)))
    (ay (jD (cO (yT T) hr T.vh T.uw.kp T.xv (ab (lZ (v:=.ref Z.a_NOUGHT) rfl T.mg_NOUGHT rfl) (ab (aP bP (pv 5) (pv 2)) ai))) (j3 (pv 3) (pv 4) set_list))))
   (ay (aV (pv 3))))),?_⟩
  refine aS (σ:=[some (.ref p),some (.int n),some (.int a),none,none,none]) rfl ?_;obtain ⟨lR,wR,rr⟩:=id RR;walk_at "w";refine ⟨n,a,rfl,by lia,λan H1 na s1 R1=>?_⟩;rw[<- AH (R:=R) (ps:=ps)] at R1;obtain ⟨vs0,g0,q0⟩:=id R1;walk_at "w";refine ⟨p,n,H0,R,ps,rfl,G.same s1,r100,n100,⟨rows,RR⟩,λle H2 nl s2 g2=>?_⟩;have anl:le≠an:=λz=>by rw[z,g0] at nl;cases nl
  obtain ⟨rs,grs,qrs,_⟩:=id G;have lrs:=qrs.length;have lps:=nJ (ps:=ps);walk_at "w";refine ⟨⟨_,bT.of g2⟩,⟨_,bT.of ((s1.trans s2) _ _ grs)⟩,?_⟩;refine xl (K:=K) (xs:=cE ps) (ws:=rs) (λj σ' H'=>aH H H'/\H' le=some (.lst (cE ps))/\∃y1 y2 vs,σ'=[some (.ref p),some (.int n),some (.int a),some (.ref an),y1,y2]/\H' an=some (.lst vs)/\Paired (bZ K H') (wZ R ps n a j) vs) (by lia) ⟨s1.trans s2,g2,_,_,vs0,rfl,s2 _ _ g0,Paired.imp' (λ_ _ z=>bZ.same z s2) q0⟩ (λj σ' H' _ ⟨e,e2,_⟩=>⟨bT.of e2,bT.of (e _ _ grs)⟩) ?_ ?_
  ·rintro j v1 v2 σ' H' r h1 h2 ⟨s',gl,y1,y2,vs,rfl,ga,qa⟩ hr;obtain ⟨row,er,q,rfl,_,Rr⟩:=cR qrs h2;have mr:=ax er;have wr:=wR row mr;obtain ⟨pj,ej,rfl⟩:=tV h1;have hj:j < ps.length:=(aB.mp ej).1;have ejD:ps.getD j 0=pj:=by rw[aa,ej];rfl
   have pjn:pj < n:=by have:=rr.low j hj;rw[ejD] at this;exact this
   have fr:bV R j a=row.getD a 0:=by unfold bV;rw[aa (l:=R),er];rfl
   have sr:aH H' (upd H' r (.tup [.int pj,.ref q])):=aH.new hr;have gr:(upd H' r (.tup [.int pj,.ref q])) r=some (.tup [.int pj,.ref q]):=aF;generalize upd H' r (.tup [.int pj,.ref q])=H3 at sr gr ⊢;have s03:=s'.trans sr;obtain ⟨us,gu,qu⟩:=Rr.same s03;obtain ⟨vx,ex,nx⟩:=Bv qu (j:=a) (by lia);walk_at "w";refine cJ (bT.of gu) ex ?_;walk_at "w";refine ⟨_,_,0,row.getD a 0,rfl,⟨_,rfl,T.sq_NOUGHT _⟩,nx,yr,hz row mr _ (getD_in (by lia)),λr4 H4 s4 n4=>?_⟩;have ga4:=(sr.trans s4) _ _ ga;have gl4:=(sr.trans s4) _ _ gl;have la:=qa.length;rw[iZ] at la;walk_at "w";refine jY ga4 (md (by lia)) rfl ?_;refine ⟨(s03.trans s4).after na,by rw[aY anl];exact gl4,_,_,_,rfl,aF,?_⟩;rw[<- AI RR hj hp,ejD,fr,show -(row.getD a 0)=0 - row.getD a 0 by grind];exact fv (Paired.imp' (λ_ _ z=>(bZ.same z (sr.trans s4)).updL ga4) qa) pj (n4.updL ga4)
  ·rintro σ' H' ⟨s',gl,y1,y2,vs,rfl,ga,qa⟩;rw[lps] at qa;walk_at "w";exact k an H' na s' ⟨vs,ga,qa⟩
theorem kX:be ["rows","wide","leads"] ["rows","wide"] (ar d4):=by walk_at "d"
theorem qM (T:Txt K mg Z):cL P w K mg base iQ 3 Z.gY Z.gN ["rows","wide"] (uJ K):=by
 refine T.jI.ok kX (λvs H Q E h=>?_) (λcdv A outer s H vs Q E hr h=>?_)
 ·obtain ⟨p,n,H0,R,ps,rfl,_⟩:=h;rfl
 ·obtain ⟨p,n,H0,R,ps,rfl,G,r100,n100,RR,k⟩:=h
  refine ⟨_,(ao (aT (i:=2) kX.nd rfl (Or.inr rfl) (cO (qL T) hr T.m4 T.mF.kp T.oX (ab (pv 0) ai)))
   (ay (aV (cw ["place"] ["leads"] [2] (eV rfl T.range (ab (pv 1) ai)) (λ_=>(bg (i:=0) (show List.Nodup (α:=PySem.Str) ["place","leads"] by decide +kernel))) (λ_=>yP (bM (rN K (by rfl)) (pv 0) (pv 1) (by with_unfolding_all rfl))) (λ_=>(pv 0)))))),?_⟩
  refine aS (σ:=[some (.ref p),some (.int n),none]) rfl ?_;walk_at "w";refine ⟨p,n,H0,R,ps,rfl,G,r100,n100,RR,λl H1 nl s1 g1=>?_⟩;walk_at "w";refine ⟨by lia,by lia,?_⟩;refine m6 (n:=n) (λi ys H'=>aH H1 H'/\ys=cE (kQ ps i)) (bj (bQ (by lia))) ⟨aH.refl _,rfl⟩ ?_ ?_
  ·rintro i ys H' hi hlen ⟨s',rfl⟩;rw[xD];walk_at "w";refine ⟨l,cE ps,rfl,.inl (bT.of (s' _ _ g1)),rfl,sA,?_⟩;rw[vp];by_cases e:i∈ps
   ·rw[decide_eq_true e];walk_at "w";refine ⟨s',?_⟩;rw[qY,if_neg (by simpa using e)]
   ·rw[decide_eq_false e,show (if true=true then !false else false)=true from rfl];walk_at "w";refine ⟨s',?_⟩;rw[qY,if_pos e];unfold cE;rw[dq];rfl
  ·rintro ys H2 hy ⟨s2,rfl⟩ r hr;exact k r _ (s1.none (s2.none hr)) ((s1.trans s2).trans (aH.new hr)) aF
theorem uO:be ["rows","wide","basis"] ["rows","wide"] (ar lV):=by walk_at "d"
theorem yS (T:Txt K mg Z):cL P w K mg base iQ 6 Z.qh Z.p9 ["rows","wide"] (rX K):=by
 refine T.uv.ok uO (λvs H Q E h=>?_) (λcdv A outer s H vs Q E hr h=>?_)
 ·obtain ⟨p,n,w,H0,rows,rfl,_⟩:=h;rfl
 ·obtain ⟨p,n,w,H0,rows,rfl,G,r100,n100,hw,F,e39,k⟩:=h
  refine ⟨_,(ao (aT (i:=2) uO.nd rfl (Or.inr rfl) (cO (qK T) hr T.m3 T.mE.kp T.oW (ab (pv 0) (ab (pv 1) ai))))
   (ay (aV (cw ["at"] ["basis","wide"] [2,1] (dC (cO (qM T) hr T.lA T.jI.kp T.mP (ab (pv 2) (ab (pv 1) ai)))) (λ_=>(bg (i:=0) (show List.Nodup (α:=PySem.Str) ["at","basis","wide"] by decide +kernel))) (λ_=>dd) (λ_=>(cO (vV T) hr T.qQ T.oZ.kp T.sR (ab (pv 1) (ab (pv 2) (ab (pv 0) ai))))))))),?_⟩
  refine aS (σ:=[some (.ref p),some (.int n),none]) rfl ?_;walk_at "w";refine ⟨p,n,w,H0,rows,rfl,G,r100,n100,hw,F,λba R ps M H1 nb s1 G1 RR pm M0 M1 tM=>?_⟩;obtain ⟨lR,wR,rr⟩:=id RR;have pn:=RR.le;have p39:(2:Nat)^(min rows.length n*(w+4))<=2^3995:=af (by decide) (by lia);have szR:∀xs∈R,∀x∈xs,pS x:=λxs hx x hx'=>iS (tM xs hx x hx') M0 (ag M1 p39) p39
  have fl:=zu (ps:=ps) (i:=n);walk_at "w";refine ⟨ba,n,H,R,ps,rfl,G1,by lia,by lia,⟨rows,RR⟩,λfr H2 nf s2 g2=>?_⟩;walk_at "w";refine ⟨⟨_,bT.of g2⟩,?_⟩;refine fL (K:=K) (xs:=cE (kQ ps n)) (λi ys H'=>aH H2 H'/\Paired (eB K H H') ((kQ ps n).take i |>.map (vG R ps n)) ys) (bj (bQ (by rw[nJ];lia))) ⟨aH.refl _,.nil⟩ (λi ys H' _ ⟨s,_⟩=>bT.of (s _ _ g2)) ?_ ?_
  ·rintro i v ys H' hx hlen ⟨s',pr⟩;obtain ⟨a,ea,rfl⟩:=tV hx;obtain ⟨an,ap⟩:=nR.mp (ax ea);have s02:=(s1.trans s2).trans s';walk_at "w";refine ⟨ba,n,a,H,R,ps,rfl,(G1.same s2).same s',by lia,by lia,⟨rows,RR⟩,an,ap,szR,λr H3 nr s3 R3=>?_⟩;refine ⟨s'.trans s3,?_⟩;rw[take_snoc ea,dq];exact cB (Paired.imp' (λ_ _ z=>eB.same z s3) pr) (.cons ⟨r,rfl,s02.none nr,R3⟩ .nil)
  ·rintro ys H3 hy ⟨s3,pr⟩ r hr;rw[aJ (by rw[nJ];exact aj _)] at pr;have sn:aH H3 (upd H3 r (.lst ys)):=aH.new hr;have s03:=(s1.trans s2).trans s3;exact k r R ps M _ (s03.none hr) (s03.trans sn) ⟨ys,aF,Paired.imp' (λ_ _ z=>eB.same z sn) pr,yX (H0:=H) (rows:=bw R ps n) ⟨H3,hr,pr⟩⟩ RR pm M0 M1 λxs hx x hx'=>by obtain ⟨a,_,_,rfl⟩:=oN hx;exact DV M0 M1 tM RR x hx'
theorem rM:be ["many"] ["many"] (ar eP):=by walk_at "d"
theorem mL (T:Txt K mg Z):cL P w K mg base iQ 1 Z.iE Z.iA ["many"] (BR K):=by
 refine T.iI.ok rM (λvs H Q E h=>?_) (λcdv A outer s H vs Q E hr h=>?_)
 ·obtain ⟨m,rfl,_⟩:=h;rfl
 ·obtain ⟨m,rfl,hm,k⟩:=h;refine ⟨_,(ay (aV (cw ["place"] [] [] (eV rfl T.range (ab (pv 0) ai)) (λ_=>(bg (i:=0) (show List.Nodup (α:=PySem.Str) ["place"] by decide +kernel))) (λ_=>dd) (λ_=>(lZ (v:=.ref Z.a_NOUGHT) rfl T.mg_NOUGHT rfl))))),?_⟩;refine aS (σ:=[some (.int m)]) rfl ?_;walk_at "w";refine ⟨by lia,by lia,?_⟩;refine mm (n:=m) (bZ K) (λ_=>0) (by lia) (λa b=>a.same b) ?_ ?_
  ·rintro i Ha NY NN hi sa k1;walk_at "w";exact k1 _ _ (aH.refl _) ⟨_,rfl,T.sq_NOUGHT _⟩
  ·rintro ys H1 t ht s1 g1 pr _;exact k t H1 ht s1 ⟨ys,g1,by rw[<- y8];exact pr⟩
theorem jN:be ["rows","wide","due","found","answer","line","lead"] ["rows","wide","due"] (ar jO):=by walk_at "d"
theorem sv (T:Txt K mg Z):cL P w K mg base iQ 5 Z.oj Z.nX ["rows","wide","due"] (qB K):=by
 refine T.oq.ok jN (λvs H Q E h=>?_) (λcdv A outer s H vs Q E hr h=>?_)
 ·obtain ⟨p,q,n,w,H0,rows,due,rfl,_⟩:=h;rfl
 ·obtain ⟨p,q,n,w,H0,rows,due,rfl,G,Rd,hd,m99,n99,hw,F,k1,k2⟩:=h
  refine ⟨_,(ao (aT (i:=3) jN.nd rfl (Or.inl rfl) (cO (vb T) hr T.qP T.qj.kp T.ur (ab (cw ["row","wanted"] [] [] (nG rfl T.zip (ab (pv 0) (ab (pv 2) ai))) (λ_=>(pW K 2 (dg (bg (i:=0) (show List.Nodup (α:=PySem.Str) ["row","wanted"] by decide +kernel)) (dg (bg (i:=1) (show List.Nodup (α:=PySem.Str) ["row","wanted"] by decide +kernel)) j0)))) (λ_=>dd) (λ_=>(bf vS (pv 0) (j4 (ab (pv 1) ai))))) (ab (bf iq (pv 1) ak) ai))))
   (ao (dF (bM xU (pv 1) (aP bo (pv 3) ak) (by with_unfolding_all rfl)) (ay (aV tO)) b7)
   (ao (aT (i:=4) jN.nd rfl (Or.inl rfl) (cO (mL T) hr T.jG T.iI.kp T.ks (ab (pv 1) ai)))
   (ao (jZ PassesOwn.never rfl (nG rfl T.zip (ab (aP bo (pv 3) ak) (ab (aP bo (pv 3) ak) ai))) (tN rfl (dg (bg (i:=5) jN.nd) (dg (bg (i:=6) jN.nd) j0)))
    (ay (jD (cO (oJ T) hr T.ma T.lM.kp T.oa (ab (aP bP (pv 5) (pv 1)) (ab (aP bP (pv 5) (pv 6)) ai))) (j3 (pv 4) (pv 6) set_list))))
   (ay (aV (pv 4))))))),?_⟩
  refine aS (σ:=[some (.ref p),some (.int n),some (.ref q),none,none,none,none]) rfl ?_;obtain ⟨xs,gx,qx,_⟩:=id G;obtain ⟨ds,gd,qd⟩:=id Rd;have lx:=qx.length;have ld:=qd.length;have lj:=kd hd;walk_at "w";refine ⟨⟨_,bT.of gx⟩,⟨_,bT.of gd⟩,?_⟩;refine rg (K:=K) (xs:=xs) (ws:=ds) (λi ys H'=>aH H H'/\Paired (eB K H H') ((bD rows due).take i) ys) (bj (bQ (by lia))) (by lia) ⟨aH.refl _,.nil⟩ (λi ys H' _ ⟨s,_⟩=>⟨bT.of (s _ _ gx),bT.of (s _ _ gd)⟩) ?_ ?_
  ·rintro i v1 v2 ys H' r h1 h2 hy ⟨s,pr⟩ hr;obtain ⟨row,er,u,rfl,_,Ru⟩:=cR qx h1;obtain ⟨d,ed,nd⟩:=cR qd h2;have wr:=hw row (ax er);have sr:aH H' (upd H' r (.tup [.ref u,v2])):=aH.new hr;have gr:(upd H' r (.tup [.ref u,v2])) r=some (.tup [.ref u,v2]):=aF;generalize upd H' r (.tup [.ref u,v2])=H2 at sr gr ⊢;have s2:=s.trans sr;walk_at "w";refine je λl1 H3 s3 n3 g3=>?_
   have s23:=s2.trans s3;obtain ⟨zs,gz,qz⟩:=Ru.same s23;have lz:=qz.length;walk_at "w";refine vQ gz g3 (bj (bQ (by rw[bO];lia))) λl2 H4 s4 n4 g4=>?_
   refine ⟨s23.trans s4,?_⟩;rw[take_snoc (Bu er ed)];exact cB (Paired.imp' (λ_ _ z=>eB.same z ((sr.trans s3).trans s4)) pr) (.cons ⟨l2,rfl,s23.none n4,_,g4,Paired.imp' (λ_ _ z=>bZ.same z s4) (cB qz (.cons (nd.same s23) .nil))⟩ .nil)
  rintro ys H1 hy ⟨s1,pr⟩ l hl;have sn:aH H1 (upd H1 l (.lst ys)):=aH.new hl;have gn:(upd H1 l (.lst ys)) l=some (.lst ys):=aF;rw[aJ (by lia)] at pr;generalize upd H1 l (.lst ys)=H2 at sn gn ⊢;have GJ:dj K H H2 l (bD rows due):=sE pr sn hl gn;have s02:=s1.trans sn;walk_at "w";rw[show ((n:Int)+1)=((n+1:Nat):Int) by lia];refine ⟨l,n+1,w,H,_,rfl,GJ,by lia,by lia,nP hw,F,λt lp qp R ps d ls H3 gt gq GZ s3 S=>?_⟩;have s03:=s02.trans s3;have pn:=S.rr.le;walk_at "w";refine ⟨qp,cE ps,rfl,.inl (bT.of gq),rfl,sA,?_⟩;rw[vp];by_cases hn:n∈ps
  ·rw[decide_eq_true hn,show (if false=true then !true else true)=true from rfl];walk_at "w";exact k2 R ps H3 S.rr hn s03
  ·rw[decide_eq_false hn,show (if false=true then !false else false)=false from rfl];obtain ⟨lR,wR,rr⟩:=id S.rr;obtain ⟨_,zs,gz,qz⟩:=id GZ;have lz:=qz.length;have hl':=S.len
   have low:∀j,j < ps.length->ps.getD j 0 < n:=λj hj=>by
    have:=rr.low j hj;have:ps.getD j 0≠n:=λz=>hn (by rw[<- z];exact getD_in hj)
    lia
   obtain ⟨_,_,_,_,_,_,_,_,_,e89⟩:=id F;rw[lj] at e89;have dsz:Sz 8999 d:=bL S.dsz (dc (by decide) (by rw[lj];lia));have lps:=nJ (ps:=ps);walk_at "w";refine ⟨n,rfl,by lia,λan H4 na s4 R4=>?_⟩;rw[<- Ac (R:=R) (ps:=ps)] at R4;obtain ⟨vs0,g0,q0⟩:=id R4;have gt4:=s4 _ _ gt;walk_at "w";refine ⟨⟨_,bT.of (s4 _ _ gz)⟩,⟨_,bT.of (s4 _ _ gq)⟩,?_⟩;refine xl (K:=K) (xs:=zs) (ws:=cE ps) (λj σ' H'=>aH H3 H'/\∃y1 y2 vs,σ'=[some (.ref p),some (.int n),some (.ref q),some (.ref t),some (.ref an),y1,y2]/\H' an=some (.lst vs)/\Paired (bZ K H') (nE R ps n j) vs) (by lia) ⟨s4,_,_,vs0,rfl,g0,q0⟩ (λj σ' H' _ ⟨e,_⟩=>⟨bT.of (e _ _ gz),bT.of (e _ _ gq)⟩) ?_ ?_
   ·rintro j v1 v2 σ' H' r h1 h2 ⟨s',y1,y2,vs,rfl,ga,qa⟩ hr;obtain ⟨line,el,u,rfl,_,gu⟩:=cR qz h1;have wl:=S.wide line (ax el);obtain ⟨pj,ej,rfl⟩:=tV h2;have hj:j < ps.length:=(aB.mp ej).1;have ejD:ps.getD j 0=pj:=by rw[aa,ej];rfl
    have pjn:=low j hj;rw[ejD] at pjn;have v0:=S.val j n;rw[ym el] at v0
    have ed:line.getD pj 0=d:=by
     have h:=S.val j pj;rw[ym el] at h;have u:=rr.unit j hj j hj;rw[if_pos rfl,ejD] at u;rw[u,sV] at h;exact cx.mp h
    have sr:aH H' (upd H' r (.tup [.ref u,.int pj])):=aH.new hr;have gr:(upd H' r (.tup [.ref u,.int pj])) r=some (.tup [.ref u,.int pj]):=aF;generalize upd H' r (.tup [.ref u,.int pj])=H5 at sr gr ⊢;have gu5:=(s'.trans sr) _ _ gu;walk_at "w";refine cJ (bT.of gu5) (qo (by lia)) ?_;walk_at "w";refine cJ (bT.of gu5) (qo (by lia)) ?_;rw[ed];walk_at "w";refine ⟨_,d,rfl,S.d0,dsz,λr6 H6 s6 g6=>?_⟩;have d0:(d:Rat)≠0:=λz=>S.d0 (i5 z)
    have n6:bZ K H6 (bV R j n) (.ref r6):=by
     refine bZ.mk g6 ?_;rcases Int.lt_or_lt_of_ne S.d0 with hd' | hd'
     ·rw[if_pos hd',if_pos hd'];refine jh (by lia) ?_;rw[bH,bH,v0];grind
     ·rw[if_neg (by lia),if_neg (by lia)];refine jh hd' ?_;rw[v0];grind
    have ga6:=(sr.trans s6) _ _ ga;have la:=qa.length;rw[d9] at la;walk_at "w";refine jY ga6 (md (by lia)) rfl ?_;refine ⟨((s'.trans sr).trans s6).after na,_,_,_,rfl,aF,?_⟩;rw[<- Ad S.rr hj,ejD];exact fv (Paired.imp' (λ_ _ z=>(bZ.same z (sr.trans s6)).updL ga6) qa) pj (n6.updL ga6)
   ·rintro σ' H' ⟨s',y1,y2,vs,rfl,ga,qa⟩;rw[show zs.length=ps.length by lia] at qa;walk_at "w";refine k1 an R ps d.natAbs H' S.rr hn (s03.none na) (s03.trans s') ⟨vs,ga,qa⟩ (by have:=S.d0;lia) (by rw[<- lj];exact S.dsz) ?_;rw[<- lj];exact Dz (by have:=S.d0;lia) S.tp S.rr
theorem qH:be ["grid","wide"] ["grid","wide"] (ar d3):=by walk_at "d"
theorem iW (T:Txt K mg Z):cL P w K mg base iQ 1 Z.gX Z.gM ["grid","wide"] (uD K):=by
 refine T.fg.ok qH (λvs H Q E h=>?_) (λcdv A outer s H vs Q E hr h=>?_)
 ·obtain ⟨p,w,H0,rows,rfl,_⟩:=h;rfl
 ·obtain ⟨p,w,H0,rows,rfl,hp,hz,hw,hl,kk⟩:=h;refine ⟨_,(ay (aV (cw ["place"] ["grid"] [0] (eV rfl T.range (ab (pv 1) ai)) (λ_=>(bg (i:=0) (show List.Nodup (α:=PySem.Str) ["place","grid"] by decide +kernel) rfl (Or.inr rfl) (Or.inl rfl))) (λ_=>dd) (λ_=>(cw ["line"] ["place"] [0] (u0 K (pv 1)) (λ_=>(bg (i:=0) (show List.Nodup (α:=PySem.Str) ["line","place"] by decide +kernel))) (λ_=>dd) (λ_=>(aP (lF K (by rfl)) (pv 0) (pv 1)))))))),?_⟩;refine aS (σ:=[some (.ref p),some (.int w)]) rfl ?_;walk_at "w";refine ⟨by lia,by lia,?_⟩;refine mm (n:=w) (eB K H) (λj=>rows.map λxs=>xs.getD j 0) hw (λa b=>a.same b) ?_ ?_
  ·rintro j H1 NY NN hj s1 k1;obtain ⟨xs,gx,qx,_⟩:=hp.same s1;walk_at "w";refine ⟨⟨_,bT.of gx⟩,?_⟩;refine gI (K:=K) (F:=eB K H0) (bZ K) (λxs=>xs.getD j 0) gx qx hz (λa b=>a.same b) (λa b=>a.same b) ?_ ?_
   ·rintro i ns x H2 NY2 NN2 en s2 ⟨u,rfl,_,zs,gz,qz⟩ k2;obtain ⟨v,ev,hv⟩:=Bv qz (j:=j) (by rw[hl ns (ax en)];exact hj);walk_at "w";refine cJ (bT.of gz) ev ?_;exact k2 _ _ (aH.refl _) hv
   ·rintro ys' H2 r hr s2 g pr nx;exact k1 _ _ s2 ⟨r,rfl,s1.none hr,ys',g,pr⟩
  ·rintro ys' H1 r hr s1 g pr nx;exact kk r H1 hr s1 ⟨ys',g,pr,yX nx⟩
theorem qF:be ["rows","wide","due","answer","columns"] ["rows","wide","due"] (ar lU):=by walk_at "d"
theorem nH (T:Txt K mg Z):cL P w K mg base iQ 6 Z.qf Z.p8 ["rows","wide","due"] (oC K):=by
 refine T.mD.ok qF (λvs H Q E h=>?_) (λcdv A outer s H vs Q E hr h=>?_)
 ·obtain ⟨p,q,n,w,w1,H0,rows,due,rfl,_⟩:=h;rfl
 ·obtain ⟨p,q,n,w,w1,H0,rows,due,rfl,G,Rd,hd,m90,n90,hw,F,F1,k1,k2⟩:=h
  refine ⟨_,(ao (aT (i:=3) qF.nd rfl (Or.inl rfl) (cO (sv T) hr T.oO T.oq.kp T.rA (ab (pv 0) (ab (pv 1) (ab (pv 2) ai)))))
   (ao (dF (bM wQ (pv 3) tO (bN _)) (ay (aV (dO (ab jE (ab (pv 3) ai))))) b7)
   (ao (aT (i:=4) qF.nd rfl (Or.inl rfl) (cO (iW T) hr T.fS T.fg.kp T.gT (ab (pv 0) (ab (pv 1) ai))))
   (ay (aV (dO (ab jE (ab (cO (sv T) hr T.oO T.oq.kp T.rA (ab (bf vS (pv 4) (j4 (ab (pv 2) ai))) (ab (cz cv (by rfl) T.len cH (ab (pv 0) ai)) (ab (bf vS (cO (mL T) hr T.jG T.iI.kp T.ks (ab (pv 1) ai)) (j4 (ab (lZ (v:=.ref Z.a_ONE) rfl T.mg_ONE rfl) ai))) ai)))) ai)))))))),?_⟩
  refine aS (σ:=[some (.ref p),some (.int n),some (.ref q),none,none]) rfl ?_;walk_at "w";refine ⟨p,q,n,w,H0,rows,due,rfl,G,Rd,hd,by lia,by lia,hw,F,λx R ps M H1 RR hn nx s1 Rx M0 M1 tM=>?_,λR ps H1 RR hn s1=>?_⟩
  ·walk_at "w";refine ⟨rfl,_,rfl,?_⟩;rw[show decide (V.ref x=V.non)=false from decide_eq_false (λz=>nomatch z)];walk_at "w";refine cu λt H2 s2 g2=>?_
   exact k1 t x R ps M H2 RR hn g2 nx (s1.trans s2) (Rx.same s2) M0 M1 tM
  ·walk_at "w";refine ⟨rfl,_,rfl,?_⟩;rw[show decide (V.non=V.non)=true from decide_eq_true rfl];walk_at "w";refine ⟨p,n,H0,rows,rfl,G.same s1,by lia,by lia,hw,λco H2 nc s2 G2=>?_⟩;have s02:=s1.trans s2;walk_at "w";refine je λl3 H3 s3 n3 g3=>?_
   obtain ⟨cs,gc,qc,_⟩:=G2.same s3;have lc:=qc.length;rw[bY] at lc;walk_at "w";refine vQ gc g3 (bj (bQ (by rw[bO];lia))) λl4 H4 s4 n4 g4=>?_
   have s03:=s02.trans s3;have s04:=s03.trans s4;have G4:dj K (λ_=>none) H4 l4 (bC rows n++[due]):=sE (H:=H3) (cB (Paired.imp' (λ_ _ ⟨q',a,_,c⟩=>⟨q',a,rfl,c⟩) qc) (.cons ⟨q,rfl,rfl,Rd.same s03⟩ .nil)) s4 n4 g4;obtain ⟨xs,gx,qx,_⟩:=G.same s04;have lx:=qx.length;walk_at "w";refine ⟨_,_,rfl,.inl (bT.of gx),?_⟩;rw[<- lx];walk_at "w";refine ⟨n,rfl,by lia,λl5 H5 n5 s5 R5=>?_⟩;walk_at "w";refine je λl6 H6 s6 n6 g6=>?_
   obtain ⟨zs,gz,qz⟩:=R5.same s6;have lz:=qz.length;rw[az] at lz;walk_at "w";refine vQ gz g6 (bj (bQ (by rw[bO];lia))) λl7 H7 s7 n7 g7=>?_
   have s47:=(s5.trans s6).trans s7;have s07:=s04.trans s47;have R7:cK K H7 l7 (List.replicate n 0++[1]):=⟨_,g7,Paired.imp' (λ_ _ z=>bZ.same z s7) (cB qz (.cons ⟨_,rfl,T.sq_ONE _⟩ .nil))⟩;have l1:(bC rows n++[due]).length=n+1:=by rw[au,bY];rfl
   have w1':∀xs∈bC rows n++[due],xs.length=rows.length:=λxs hx=>by
    rcases aK.mp hx with hx | hx
    ·exact eM xs hx
    ·rw[cg.mp hx];exact hd
   walk_at "w";refine ⟨l4,l7,rows.length,w1,_,_,_,rfl,G4.same s47,R7,by rw[l1,au,az];rfl,by lia,by lia,w1',F1,λx R1 p1 M H8 RR1 hn1 nx s8 Rx M0 M1 tM=>?_,λR1 p1 H8 RR1 hn1 s8=>?_⟩
   ·walk_at "w";refine cu λt H9 s9 g9=>?_
    rw[l1] at M1 tM;exact k2 t x R ps R1 p1 M H9 RR hn RR1 hn1 g9 (s07.none nx) ((s07.trans s8).trans s9) (Rx.same s9) M0 M1 tM
   ·exact absurd hn1 (xQ hd hw RR hn RR1)
theorem jc:be ["_law_one","_law_other","_law_total","_law_k"] ["_law_one","_law_other"] (ar gE):=by walk_at "d"
theorem fJ (T:Txt K mg Z):cL P w K mg base iQ 3 Z.kA Z.kj ["_law_one","_law_other"] (wD K):=by
 refine T.eK.ok jc (λvs H Q E h=>?_) (λcdv A outer s H vs Q E hr h=>?_)
 ·obtain ⟨p,q,xs,ys,rfl,_⟩:=h;rfl
 ·obtain ⟨p,q,xs,ys,rfl,hp,hq,hl,hz,hD,kk⟩:=h
  refine ⟨_,(ao (aT (i:=2) jc.nd rfl (Or.inl rfl) (dO (ab ak (ab ak ai))))
   (ao (jZ PassesOwn.never rfl (eV rfl T.range (ab (cz cv (by rfl) T.len cH (ab (pv 0) ai)) ai)) (bg (i:=3) jc.nd)
    (ay (aT (i:=2) jc.nd rfl (Or.inl rfl) (cO (pk T) hr T.lB T.kF.kp T.m7 (ab (pv 2) (ab (cO (nI T) hr T.j9 T.jB.kp T.lJ (ab (aP bP (pv 0) (pv 3)) (ab (aP bP (pv 1) (pv 3)) ai))) ai))))))
   (ay (aV (pv 2))))),?_⟩
  refine aS (σ:=[some (.ref p),some (.ref q),none,none]) rfl ?_;obtain ⟨us,gu,qu⟩:=id hp;obtain ⟨ws,gw,qw⟩:=id hq;have lu:=qu.length;have lw:=qw.length;walk_at "w";refine cu λr0 H0 s0 g0=>?_
  walk_at "w";refine ⟨_,_,rfl,.inl (bT.of (s0 _ _ gu)),?_⟩;walk_at "w";refine ⟨by lia,by lia,?_⟩;refine m5 (n:=us.length) (λi σ' H'=>aH H H'/\∃(r:V) (v:Option V),σ'=[some (.ref p),some (.ref q),some r,v]/\bZ K H' (dB (xs.take i) (ys.take i)) r) ⟨s0,_,none,rfl,bZ.mk g0 rfl⟩ ?_ ?_
  ·rintro i σ' H' hi ⟨s,r,v,rfl,hr⟩;have ix:i < xs.length:=by lia
   have iy:i < ys.length:=by lia
   obtain ⟨vx,ex,nx⟩:=Bv (Paired.imp' (λ_ _ z=>z.same s) qu) ix;obtain ⟨vy,ey,ny⟩:=Bv (Paired.imp' (λ_ _ z=>z.same s) qw) iy;walk_at "w";refine cJ (bT.of (s _ _ gu)) ex ?_;walk_at "w";refine cJ (bT.of (s _ _ gw)) ey ?_;walk_at "w";refine ⟨_,_,_,_,rfl,nx,ny,hD.x (getD_mem ix),hD.y (getD_mem iy),λr3 H3 s3 n3=>?_⟩;walk_at "w";refine ⟨_,_,_,_,rfl,hr.same s3,n3,hD.sum hl hz i,hD.mul (getD_mem ix) (getD_mem iy),λr4 H4 s4 n4=>?_⟩;walk_at "w";exact ⟨(s.trans s3).trans s4,_,_,rfl,by rw[sG ix iy];exact n4⟩
  ·rintro σ' H' ⟨s,r,v,rfl,hr⟩;rw[aJ (by lia),aJ (by lia)] at hr;obtain ⟨t,rfl,ht⟩:=hr;walk_at "w";exact kk _ H' s ⟨t,rfl,ht⟩
theorem tH:be ["_law_one","_law_other"] ["_law_one","_law_other"] (ar fH):=by walk_at "d"
theorem tT (T:Txt K mg Z):cL P w K mg base iQ 2 Z.jy Z.jq ["_law_one","_law_other"] (jV K (λx y=>x - y)):=by
 refine T.lP.ok tH (λvs H Q E h=>?_) (λcdv A outer s H vs Q E hr h=>?_)
 ·obtain ⟨p,q,a,b,c,d,rfl,hp,hq,hb,hd,sa,sb,sc,sd,k⟩:=pV h;rfl
 ·obtain ⟨p,q,a,b,c,d,rfl,hp,hq,hb,hd,sa,sb,sc,sd,k⟩:=pV h;refine ⟨_,(ay (aV (cO (dI T) hr T.dh T.du.kp T.dP (ab (bf j6 (bf b8 (aP bo (pv 0) ak) (aP bo (pv 1) ak)) (bf b8 (aP bo (pv 1) ak) (aP bo (pv 0) ak))) (ab (bf b8 (aP bo (pv 0) ak) (aP bo (pv 1) ak)) ai))))),?_⟩;refine aS (σ:=[some (.ref p),some (.ref q)]) rfl ?_;have hbd:0 < b*d:=i7 hb hd;have sbd:Sz 8999 (b*d):=(sb.mul sd).mono (by decide);walk_at "w";refine eh (show dW _ _ from .inr ⟨_,_,sa,sd,by decide⟩) ?_;walk_at "w";refine eh (show dW _ _ from .inr ⟨_,_,sc,sb,by decide⟩) ?_;walk_at "w";refine eh (show dW _ _ from .inr ⟨_,_,sb,sd,by decide⟩) ?_;walk_at "w";walk_at "w";refine ⟨_,_,rfl,hbd,sbd,k⟩
theorem tw:be ["_law_one","_law_other"] ["_law_one","_law_other"] (ar fE):=by walk_at "d"
theorem tS (T:Txt K mg Z):cL P w K mg base iQ 2 Z.jv Z.jk ["_law_one","_law_other"] (qC K):=by
 refine T.lO.ok tw (λvs H Q E h=>?_) (λcdv A outer s H vs Q E hr h=>?_)
 ·obtain ⟨p,q,a,b,c,d,rfl,hp,hq,hb,hd,hc,sa,sb,sc,sd,k⟩:=uX h;rfl
 ·obtain ⟨p,q,a,b,c,d,rfl,hp,hq,hb,hd,hc,sa,sb,sc,sd,k⟩:=uX h
  refine ⟨_,(ao (dF (bM su (aP bo (pv 1) ak) ak (bN _)) (ay (aV (cO (dI T) hr T.dh T.du.kp T.dP (ab (bf j6 ak (bf b8 (aP bo (pv 0) ak) (aP bo (pv 1) ak))) (ab (bf j6 ak (bf b8 (aP bo (pv 0) ak) (aP bo (pv 1) ak))) ai))))) b7)
   (ay (aV (cO (dI T) hr T.dh T.du.kp T.dP (ab (bf b8 (aP bo (pv 0) ak) (aP bo (pv 1) ak)) (ab (bf b8 (aP bo (pv 0) ak) (aP bo (pv 1) ak)) ai)))))),?_⟩
  refine aS (σ:=[some (.ref p),some (.ref q)]) rfl ?_;have sbc:Sz 8999 (b*c):=(sb.mul sc).mono (by decide);walk_at "w";refine kO (λh=>?_) (λh=>?_)
  ·have h0:c < 0:=of_decide_eq_true h;have hbc:b*c < 0:=ng hb h0;walk_at "w";refine eh (show dW _ _ from .inr ⟨_,_,sa,sd,by decide⟩) ?_;walk_at "w";refine eh (show dW _ _ from .inr ⟨_,_,sb,sc,by decide⟩) ?_;walk_at "w";refine ⟨_,_,rfl,by lia,by rw[Int.zero_sub];exact sbc.neg,λr H' s' h'=>?_⟩;exact k r H' s' (by rw[if_pos h0,if_pos h0];exact h')
  ·have h0:¬c < 0:=λz=>h (decide_eq_true z)
   have hbc:0 < b*c:=i7 hb (by lia);walk_at "w";refine eh (show dW _ _ from .inr ⟨_,_,sa,sd,by decide⟩) ?_;walk_at "w";refine eh (show dW _ _ from .inr ⟨_,_,sb,sc,by decide⟩) ?_;walk_at "w";refine ⟨_,_,rfl,hbc,sbc,λr H' s' h'=>?_⟩;exact k r H' s' (by rw[if_neg h0,if_neg h0];exact h')
theorem iT:be ["_law_due","_law_prices","_law_at","_law_found"] ["_law_due","_law_prices"] (ar d8):=by walk_at "d"
theorem qO (T:Txt K mg Z):cL P w K mg base iQ 3 Z.hV Z.gR ["_law_due","_law_prices"] (o7 K):=by
 refine T.jK.ok iT (λvs H Q E h=>?_) (λcdv A outer s H vs Q E hr h=>?_)
 ·obtain ⟨p,q,due,pr,j,rfl,_⟩:=h;rfl
 ·obtain ⟨p,q,due,pr,j,rfl,Rd,Rp,hl,d100,jd,hne,hz,sp,sq,sd,k⟩:=h
  refine ⟨_,(ao (aT (i:=2) iT.nd rfl (Or.inl rfl) (yQ pM PySem.F.slot_list_index PySem.F.type_list_index y7 (cw ["_law_price"] [] [] (dC (pv 1)) (λ_=>(bg (i:=0) (show List.Nodup (α:=PySem.Str) ["_law_price"] by decide +kernel))) (λ_=>dd) (λ_=>(gK (wU K (by rfl) (qW hr)) (pv 0) (dO (ab ak (ab ak ai))) (bN _)))) (ab pe ai)))
   (ao (aT (i:=3) iT.nd rfl (Or.inl rfl) (so n8 (by rfl) T.list PyProof.Rows.boot_list (ab (pv 0) ai)))
   (ao (jD (cO (tT T) hr T.nM T.lP.kp T.pG (ab (aP bP (pv 0) (pv 2)) (ab (cO (tS T) hr T.nL T.lO.kp T.pF (ab (dO (ab ak (ab ak ai))) (ab (aP bP (pv 1) (pv 2)) ai))) ai))) (j3 (pv 3) (pv 2) set_list))
   (ay (aV (pv 3)))))),?_⟩
  refine aS (σ:=[some (.ref p),some (.ref q),none,none]) rfl ?_;obtain ⟨us,gu,qu⟩:=id Rp;have lu:=qu.length;walk_at "w";refine ⟨⟨_,bT.of gu⟩,?_⟩;refine gI (K:=K) (as:=pr) (F:=bZ K) (λ_ b y=>y=V.bl b) (λy=>decide (y≠0)) gu qu (by lia) (λh s=>h.same s) (λh _=>h) ?_ ?_
  ·rintro i c x H' NY NN ec s' nc k1;walk_at "w";refine cu λt6 H6 s6 g6=>?_
   walk_at "w";refine ⟨_,_,qV,c,0,by decide,nc.same s6,bZ.mk (q:=0) g6 rfl,?_⟩;refine k1 _ _ s6 ?_;rw[decide_not]
  rintro ys H2 l hl2 s2 g2 pr2 _;have ey:ys=(pr.map λy=>decide (y≠0)).map V.bl:=mX pr2;rw[ey] at g2;walk_at "w";refine ⟨.inl ⟨rfl,_,bT.of g2⟩,?_⟩;walk_at "w"
  have at_:∀i,i < pr.length->(pr.map λy=>decide (y≠0))[i]?=some (decide (pr.getD i 0≠0)):=λi hi=>by
   rw[aw,ae hi,aa,ae hi];rfl
  refine ⟨l,_,true,j,rfl,rfl,g2,by rw[at_ j (by lia),decide_eq_true hne],λi hi z=>?_,?_⟩
  ·rw[at_ i (by lia),hz i hi] at z;exact absurd z (by decide)
  obtain ⟨vs,gv,qv⟩:=Rd.same s2;have lv:=qv.length;walk_at "w";refine ⟨p,vs,rfl,.inl (bT.of gv),λf hf=>?_⟩;have s3:aH H2 (upd H2 f (.lst vs)):=aH.new hf;have gf:(upd H2 f (.lst vs)) f=some (.lst vs):=aF;generalize upd H2 f (.lst vs)=H3 at s3 gf ⊢;have s23:=s2.trans s3;have nf:H f=none:=s2.none hf;obtain ⟨vx,ex,nx⟩:=Bv (Paired.imp' (λ_ _ z=>bZ.same z s3) qv) jd;walk_at "w";refine cJ (bT.of (s3 _ _ gv)) ex ?_;walk_at "w";refine cu λt4 H4 s4 g4=>?_
  have s24:=s23.trans s4;obtain ⟨wx,ew,nw⟩:=Bv (Paired.imp' (λ_ _ z=>bZ.same z s24) qu) (show j < pr.length by lia);walk_at "w";refine cJ (bT.of (s24 _ _ gu)) ew ?_;walk_at "w";refine ⟨_,_,1,_,rfl,bZ.mk (q:=1) g4 rfl,nw,z7,sp,hne,λr5 H5 s5 n5=>?_⟩;walk_at "w";refine ⟨_,_,_,_,rfl,(nx.same s4).same s5,n5,sd,sq,λr6 H6 s6 n6=>?_⟩;have s36:=(s4.trans s5).trans s6;have gf6:=s36 _ _ gf;walk_at "w";refine jY gf6 (md (by lia)) rfl ?_;walk_at "w";refine k f _ nf ((s23.trans s36).after nf) ⟨_,aF,fv (Paired.imp' (λ_ _ z=>bZ.updL (bZ.same z (s3.trans s36)) gf6) qv) j (n6.updL gf6)⟩
theorem fQ:be ["_law_rows","_law_size","_law_due","_law_told","_law_mended_here","_law_again"] ["_law_rows","_law_size","_law_due"] (ar d5):=by walk_at "d"
theorem qN (T:Txt K mg Z):cL P w K mg base iQ 7 Z.gZ Z.gO ["_law_rows","_law_size","_law_due"] (o4 K):=by
 refine T.jJ.ok fQ (λvs H Q E h=>?_) (λcdv A outer s H vs Q E hr h=>?_)
 ·obtain ⟨p,q,n,H0,rows,due,rfl,_⟩:=h;rfl
 ·obtain ⟨p,q,n,H0,rows,due,rfl,G,Rd,hd,hw,g29,td,k⟩:=h
  refine ⟨_,(ao (aT (i:=3) fQ.nd rfl (Or.inr rfl) (cO (nH T) hr T.ll T.mD.kp T.n9 (ab (pv 0) (ab (pv 1) (ab (pv 2) ai)))))
   (ao (dF (bM lb (aP bo (pv 3) ak) jE (bN _)) (ay (aV (gK (oI (qW hr)) (cw ["_law_row_here"] ["_law_told"] [3] (dC (pv 0)) (λ_=>(bg (i:=0) (show List.Nodup (α:=PySem.Str) ["_law_row_here","_law_told"] by decide +kernel))) (λ_=>dd) (λ_=>(cO (fJ T) hr T.eI T.eK.kp T.fA (ab (pv 0) (ab (aP (nQ K (by rfl)) (pv 1) ak) ai))))) (pv 2) (bN _)))) b7)
   (ao (dF (bM (tQ (qW hr)) (cO (fJ T) hr T.eI T.eK.kp T.fA (ab (aP bo (pv 3) ak) (ab (pv 2) ai))) (dO (ab ak (ab ak ai))) (bN _)) (ay (aV pe)) b7)
   (ao (aT (i:=4) fQ.nd rfl (Or.inl rfl) (cO (qO T) hr T.lD T.jK.kp T.mR (ab (pv 2) (ab (aP bo (pv 3) ak) ai))))
   (ao (aT (i:=5) fQ.nd rfl (Or.inr rfl) (cO (nH T) hr T.ll T.mD.kp T.n9 (ab (pv 0) (ab (pv 1) (ab (pv 4) ai)))))
   (ao (dF (bM lb (aP bo (pv 5) ak) jE (bN _)) (ay (aV (CB (gK (oI (qW hr)) (cw ["_law_row_here"] ["_law_again"] [5] (dC (pv 0)) (λ_=>(bg (i:=0) (show List.Nodup (α:=PySem.Str) ["_law_row_here","_law_again"] by decide +kernel))) (λ_=>dd) (λ_=>(cO (fJ T) hr T.eI T.eK.kp T.fA (ab (pv 0) (ab (aP (nQ K (by rfl)) (pv 1) ak) ai))))) (pv 4) (bN _)) (CA (gK (oI (qW hr)) (cO (fJ T) hr T.eI T.eK.kp T.fA (ab (aP bo (pv 3) ak) (ab (pv 4) ai))) (dO (ab ak (ab ak ai))) (bN _)))))) b7)
   (ay (aV (gK (oI (qW hr)) (cO (fJ T) hr T.eI T.eK.kp T.fA (ab (aP bo (pv 5) ak) (ab (pv 4) ai))) (dO (ab ak (ab ak ai))) (bN _)))))))))),?_⟩
  refine aS (σ:=[some (.ref p),some (.int n),some (.ref q),none,none,none]) rfl ?_;have td15:∀x∈due,Tp 2520 (2^15) x:=λx hx=>(td x hx).mono (by decide)
  obtain ⟨⟨w,F1,F2⟩,yes1,no1⟩:=b29 (E:=2520) (f:=15) g29 hw (by decide) (by decide) (by decide) hd td15;obtain ⟨_,_,_,_,_,_,_,_,_,_,_,_,_,m12,n12⟩:=id g29;obtain ⟨rs,grs,qrs,_⟩:=id G;have lrs:=qrs.length;walk_at "w";refine ⟨p,q,n,w,w,H0,rows,due,rfl,G,Rd,hd,by lia,by lia,hw,F1,F2,λt x R ps D H1 RR hn g1 nx s1 Rx _ _ _=>?_,λt x R ps R' ps' D H1 RR hn RR' hn' g1 nx s1 Rx _ _ _=>?_⟩
  ·have dt:=yes1 R ps RR hn;have ey:=uL hd hw RR hn;have ls:(cI R ps n).length=n:=d9;walk_at "w";rw[decide_eq_true rfl];have g1r:=s1 _ _ grs;walk_at "w";refine ⟨⟨_,bT.of g1r⟩,?_⟩;refine gI (K:=K) (as:=rows) (F:=eB K H0) (bZ K) (λys=>dB ys (cI R ps n)) g1r (Paired.imp' (λ_ _ z=>eB.same z s1) qrs) (by lia) (λh s=>h.same s) (λh s=>h.same s) ?_ ?_
   ·rintro i c v H' NY NN ec s' ⟨u,rfl,_,Ru⟩ k1;have mo:=ax ec;have gt':=s' _ _ g1;walk_at "w";refine ⟨u,x,c,_,rfl,Ru,Rx.same s',by rw[ls,hw c mo],by rw[hw c mo];lia,dt c mo,λr2 H5 s5 n5=>?_⟩;exact k1 _ _ s5 n5
   rintro ys H2 l hl s2 g2 pr _;rw[ey] at pr;walk_at "w";refine ⟨_,_,zd,due,due,by decide,cK.kind ⟨_,g2,pr⟩,(Rd.same (s1.trans s2)).kind,?_⟩;rw[decide_eq_true rfl];exact k _ (s1.trans s2)
  obtain ⟨q1,q10,q11,tq⟩:=no1 R' ps' RR' hn';obtain ⟨e1,ew⟩:=sm hd hw RR' hn';have ls:(cI R' ps' rows.length).length=rows.length:=d9;generalize cI R' ps' rows.length=xs at *
  walk_at "w";rw[decide_eq_false (show ¬(Str.ofString "no"=Str.ofString "yes") by decide)];walk_at "w";refine ⟨x,q,xs,due,rfl,Rx,Rd.same s1,by lia,by lia,DT.pow (a:=1210) (c:=12) (e:=1210) (f:=15) q10 (by decide) q11 (by decide) tq td15 (by decide) (by decide),λr2 H2 s2 n2=>?_⟩;rw[e1] at n2;have g2:=s2 _ _ g1;walk_at "w";refine cu λt3 H3 s3 g3=>?_
  have gt3:=s3 _ _ g2;walk_at "w";refine ⟨_,_,qV,1,1,by decide,n2.same s3,bZ.mk (q:=1) g3 rfl,?_⟩;rw[decide_eq_true rfl];have s13:=s2.trans s3;have s03:=s1.trans s13;obtain ⟨j,jd,hne,hz⟩:=ya (by lia) e1;obtain ⟨szi,E,E0,E1,tE⟩:=AK jd q10 q11 hne tq td;have p12:(2:Nat)^1210<=2^3995:=af (by decide) (by decide);have em:=zF (by lia) jd hne e1;walk_at "w";refine ⟨q,x,due,xs,j,rfl,Rd.same s03,Rx.same s13,by lia,by lia,jd,hne,hz,iS (eN tq j) q10 (ag q11 p12) p12,szi,iS (eN td j) (by decide) (ag (show 2520<=2^1210 by decide) p12) (ag (show 22680<=2^1210 by decide) p12),λr4 H4 n4 s4 R4=>?_⟩;have hd':(due.set j (due.getD j 0 - 1 / xs.getD j 0)).length=rows.length:=by rw[cN];exact hd
  generalize due.set j (due.getD j 0 - 1 / xs.getD j 0)=mend at *
  obtain ⟨⟨w2,F3,F4⟩,yes2,no2⟩:=b29 (E:=E) (f:=1225) g29 hw E0 E1 (by decide) hd' tE;have s04:=s03.trans s4;have gt4:=s4 _ _ gt3;walk_at "w";refine ⟨p,r4,n,w2,w2,H0,rows,mend,rfl,G.same s04,R4,hd',by lia,by lia,hw,F3,F4,λt5 x5 R5 ps5 D5 H5 RR5 hn5 g5 nx5 s5 Rx5 _ _ _=>?_,λt5 x5 R5 ps5 R6 ps6 D5 H5 RR5 hn5 RR6 hn6 g5 nx5 s5 Rx5 _ _ _=>?_⟩
  ·have dt:=yes2 R5 ps5 RR5 hn5;have ey:=uL hd' hw RR5 hn5;have ls5:(cI R5 ps5 n).length=n:=d9;have gt5:=s5 _ _ gt4;have s05:=s04.trans s5;have R45:=R4.same s5;have Rx5':=Rx.same ((s13.trans s4).trans s5);walk_at "w";rw[decide_eq_true rfl];have g5r:=s05 _ _ grs;walk_at "w";refine ⟨⟨_,bT.of g5r⟩,?_⟩;refine gI (K:=K) (as:=rows) (F:=eB K H0) (bZ K) (λys=>dB ys (cI R5 ps5 n)) g5r (Paired.imp' (λ_ _ z=>eB.same z s05) qrs) (by lia) (λh s=>h.same s) (λh s=>h.same s) ?_ ?_
   ·rintro i c v H' NY NN ec s' ⟨u,rfl,_,Ru⟩ k1;have mo:=ax ec;have gt':=s' _ _ g5;walk_at "w";refine ⟨u,x5,c,_,rfl,Ru,Rx5.same s',by rw[ls5,hw c mo],by rw[hw c mo];lia,dt c mo,λr2 H5 s5 n5=>?_⟩;exact k1 _ _ s5 n5
   rintro ys H6 l hl s6 g6 pr _;rw[ey] at pr;have gt6:=s6 _ _ gt5;walk_at "w";refine ⟨_,_,zd,mend,mend,by decide,cK.kind ⟨_,g6,pr⟩,(R45.same s6).kind,?_⟩;rw[decide_eq_true rfl];walk_at "w";refine ⟨x,r4,xs,mend,rfl,Rx5'.same s6,R45.same s6,by lia,by lia,DT.pow (a:=1210) (c:=1225) (e:=1210) (f:=1225) q10 E0 q11 E1 tq tE (by decide) (by decide),λr7 H7 s7 n7=>?_⟩;rw[em] at n7;walk_at "w";refine cu λt8 H8 s8 g8=>?_
   walk_at "w";refine ⟨_,_,qV,0,0,by decide,n7.same s8,bZ.mk (q:=0) g8 rfl,?_⟩;rw[decide_eq_true rfl];exact k _ (((s05.trans s6).trans s7).trans s8)
  ·obtain ⟨q2,q20,q21,tq2⟩:=no2 R6 ps6 RR6 hn6;obtain ⟨e6,_⟩:=sm hd' hw RR6 hn6;have ls6:(cI R6 ps6 rows.length).length=rows.length:=d9;have gt5:=s5 _ _ gt4;have s05:=s04.trans s5;walk_at "w";rw[decide_eq_false (show ¬(Str.ofString "no"=Str.ofString "yes") by decide)];walk_at "w";refine ⟨x5,r4,_,mend,rfl,Rx5,R4.same s5,by lia,by lia,DT.pow (a:=2420) (c:=1225) (e:=2420) (f:=1225) q20 E0 q21 E1 tq2 tE (by decide) (by decide),λr7 H7 s7 n7=>?_⟩;rw[e6] at n7;walk_at "w";refine cu λt8 H8 s8 g8=>?_
   walk_at "w";refine ⟨_,_,qV,1,1,by decide,n7.same s8,bZ.mk (q:=1) g8 rfl,?_⟩;rw[decide_eq_true rfl];exact k _ ((s05.trans s7).trans s8)
theorem kW:be ["rows","wide","row","answer"] ["rows","wide","row"] (ar dZ):=by walk_at "d"
theorem lg (T:Txt K mg Z):cL P w K mg base iQ 7 Z.gW Z.gL ["rows","wide","row"] (kU K):=by
 refine T.hZ.ok kW (λvs H Q E h=>?_) (λcdv A outer s H vs Q E hr h=>?_)
 ·obtain ⟨p,q,n,w,w1,H0,rows,row,rfl,_⟩:=h;rfl
 ·obtain ⟨p,q,n,w,w1,H0,rows,row,rfl,G,Rr,hl,m90,n90,hw,F,F1,k1,k2⟩:=h
  refine ⟨_,(ao (aT (i:=3) kW.nd rfl (Or.inl rfl) (cO (nH T) hr T.ll T.mD.kp T.n9 (ab (cO (iW T) hr T.fS T.fg.kp T.gT (ab (pv 0) (ab (pv 1) ai))) (ab (cz cv (by rfl) T.len cH (ab (pv 0) ai)) (ab (pv 2) ai)))))
   (ay (aV (dO (ab (u9 (bM lb (aP bo (pv 3) ak) jE (bN _)) jE jE) (ab (aP bo (pv 3) ak) ai)))))),?_⟩
  refine aS (σ:=[some (.ref p),some (.int n),some (.ref q),none]) rfl ?_;walk_at "w";refine ⟨p,n,H0,rows,rfl,G,by lia,by lia,hw,λco H1 nc s1 G1=>?_⟩;obtain ⟨xs,gx,qx,_⟩:=G.same s1;have lx:=qx.length;walk_at "w";refine ⟨_,_,rfl,.inl (bT.of gx),?_⟩;rw[<- lx];have lT:(bC rows n).length=n:=bY;have eS:qA (bC rows n) rows.length row=bD (rows++[row]) (List.replicate rows.length 0++[1]):=by unfold qA;rw[oy hw]
  walk_at "w";refine ⟨co,q,rows.length,w,w1,_,bC rows n,row,rfl,G1,Rr.same s1,by lia,by lia,by lia,λxs hx=>eM xs hx,F,by rw[eS,lT];exact F1,λt x R ps M H2 RR hn g2 nx s2 Rx M0 M1 tM=>?_,λt x R ps R1 p1 M H2 RR hn RR1 hn1 g2 nx s2 Rx M0 M1 tM=>?_⟩
  ·rw[lT] at M1 tM;walk_at "w";rw[decide_eq_true rfl];walk_at "w";refine cu λt2 H3 s3 g3=>?_
   exact k1 t2 x R ps M H3 RR hn g3 (s1.none nx) ((s1.trans s2).trans s3) (Rx.same s3) M0 M1 tM
  ·rw[lT] at M1 tM RR1 hn1 Rx;rw[eS] at RR1;walk_at "w";rw[decide_eq_false (show ¬(Str.ofString "no"=Str.ofString "yes") by decide)];walk_at "w";refine cu λt2 H3 s3 g3=>?_
   exact k2 t2 x R ps R1 p1 M H3 RR hn RR1 hn1 g3 (s1.none nx) ((s1.trans s2).trans s3) (Rx.same s3) M0 M1 tM
theorem qI:be ["_law_rows","_law_row_here"] ["_law_rows","_law_row_here"] (ar d7):=by walk_at "d"
theorem iY (T:Txt K mg Z):cL P w K mg base iQ 4 Z.hU Z.gQ ["_law_rows","_law_row_here"] (o6 K):=by
 refine T.fj.ok qI (λvs H Q E h=>?_) (λcdv A outer s H vs Q E hr h=>?_)
 ·obtain ⟨p,q,H0,rows,row,rfl,_⟩:=h;rfl
 ·obtain ⟨p,q,H0,rows,row,rfl,G,Rr,m100,n100,hD,k⟩:=h;refine ⟨_,(ay (aV (cz (zL rfl) (by rfl) T.all PyProof.Rows.boot_all (ab (cw ["_law_one"] ["_law_row_here"] [1] (dC (pv 0)) (λ_=>(bg (i:=0) (show List.Nodup (α:=PySem.Str) ["_law_one","_law_row_here"] by decide +kernel))) (λ_=>dd) (λ_=>(gK (AE K (by rfl) (qW hr)) (cO (fJ T) hr T.eI T.eK.kp T.fA (ab (pv 0) (ab (pv 1) ai))) (dO (ab ak (ab ak ai))) (bN _)))) ai)))),?_⟩;refine aS (σ:=[some (.ref p),some (.ref q)]) rfl ?_;obtain ⟨rs,grs,qrs,_⟩:=id G;have lrs:=qrs.length;walk_at "w";refine ⟨⟨_,bT.of grs⟩,?_⟩;refine gI (K:=K) (as:=rows) (F:=eB K H0) (λ_ b y=>y=V.bl b) (λxs=>decide (dB xs row=0)) grs qrs (by lia) (λh s=>h.same s) (λh _=>h) ?_ ?_
  ·rintro i c x H' NY NN ec s' ⟨u,rfl,_,Ru⟩ k1;have mo:=ax ec;obtain ⟨wo,dt⟩:=hD c mo;walk_at "w";refine ⟨u,q,c,row,rfl,Ru,Rr.same s',wo.symm,by lia,dt,λr2 H5 s5 n5=>?_⟩;walk_at "w";refine cu λt6 H6 s6 g6=>?_
   walk_at "w";refine ⟨_,_,qV,dB c row,0,by decide,n5.same s6,bZ.mk (q:=0) g6 rfl,?_⟩;exact k1 _ _ (s5.trans s6) rfl
  rintro ys H2 l hl s2 g2 pr _;have ey:ys=(rows.map λxs=>decide (dB xs row=0)).map V.bl:=mX pr;walk_at "w";refine ⟨l,rows.map λxs=>decide (dB xs row=0),rfl,bT.of (by rw[g2,ey]),?_⟩;exact k _ s2
theorem pP:be ["_law_rows","_law_size","_law_row_here","_law_ends"] ["_law_rows","_law_size","_law_row_here","_law_ends"] (ar dD):=by walk_at "d"
theorem fk (T:Txt K mg Z):cL P w K mg base iQ 8 Z.gg Z.fY ["_law_rows","_law_size","_law_row_here","_law_ends"] (nD K):=by
 refine T.dG.ok pP (λvs H Q E h=>?_) (λcdv A outer s H vs Q E hr h=>?_)
 ·obtain ⟨p,q,r,n,H0,H1,rows,R,row,ps,rfl,_⟩:=h;rfl
 ·obtain ⟨p,q,r,n,H0,H1,rows,R,row,ps,rfl,G,Rr,GN,RR,lr,m12,n12,hw,S,k⟩:=h
  refine ⟨_,(ao (dF (bM (tQ (qW hr)) (gK lb (aP bo (cO (lg T) hr T.i3 T.hZ.kp T.jH (ab (pv 0) (ab (pv 1) (ab (pv 2) ai)))) ak) jE (bN _)) (cO (iY T) hr T.fX T.fj.kp T.gV (ab (pv 3) (ab (pv 2) ai))) (bN _)) (ay (aV pe)) b7)
   (ao (dF (bM (tQ (qW hr)) (gK lb (aP bo (cO (lg T) hr T.i3 T.hZ.kp T.jH (ab (pv 3) (ab (pv 1) (ab (pv 2) ai)))) ak) jE (bN _)) (cO (iY T) hr T.fX T.fj.kp T.gV (ab (pv 0) (ab (pv 2) ai))) (bN _)) (ay (aV pe)) b7)
   (ay (aV (gK (oI (qW hr)) (gK lb (aP bo (cO (nH T) hr T.ll T.mD.kp T.n9 (ab (cO (iW T) hr T.fS T.fg.kp T.gT (ab (pv 0) (ab (pv 1) ai))) (ab (cz cv (by rfl) T.len cH (ab (pv 0) ai)) (ab (pv 2) ai)))) ak) jE (bN _)) (cO (iY T) hr T.fX T.fj.kp T.gV (ab (pv 3) (ab (pv 2) ai))) (bN _)))))),?_⟩
  refine aS (σ:=[some (.ref p),some (.int n),some (.ref q),some (.ref r)]) rfl ?_;obtain ⟨w,F1,F2,F3,F4,dE,dR⟩:=S;have wN:∀xs∈bw R ps n,xs.length=n:=pX
  have lN:(bw R ps n).length<=12:=by
   have:(bw R ps n).length=(kQ ps n).length:=ah ..;have:=zu (ps:=ps) (i:=n)
   lia
  have nd:=yU RR hw;have nw:∀z:List Rat,z.length=n->(∀xs∈rows,dB xs z=0)->∃ws,ws.length=(bw R ps n).length/\z=rJ (bw R ps n) ws n:=λz lz h=>AG RR hw lz h
  have nd2:∀z∈rows,∀xs∈bw R ps n,dB xs z=0:=λz hz xs hx=>by rw[lI (by rw[wN xs hx,hw z hz])];exact nd xs hx z hz
  have F1':=F1;walk_at "w";refine wm (B:=bw R ps n) G Rr lr (by lia) (by lia) hw F1 F2 wN nd nw λt1 x1 H2 g1 s1=>?_
  walk_at "w";rw[A5];walk_at "w";refine ⟨r,q,H1,_,row,rfl,GN.same s1,Rr.same s1,by lia,by lia,λxs hx=>⟨by rw[wN xs hx,lr],dE xs hx⟩,λH3 s3=>?_⟩;walk_at "w";refine ⟨_,_,EM,_,_,by decide,rfl,rfl,?_⟩;rw[decide_eq_true rfl];have s13:=s1.trans s3;walk_at "w";refine wm (B:=rows) (GN.same s13) (Rr.same s13) lr (by lia) (by lia) wN F3 F4 hw nd2 ?_ λt4 x4 H4 g4 s4=>?_
  ·intro z lz h;exact xX RR hw lz h
  walk_at "w";rw[A5];have s14:=s13.trans s4;walk_at "w";refine ⟨p,q,H0,rows,row,rfl,G.same s14,Rr.same s14,by lia,by lia,λxs hx=>⟨by rw[hw xs hx,lr],dR xs hx⟩,λH5 s5=>?_⟩;walk_at "w";refine ⟨_,_,EM,_,_,by decide,rfl,rfl,?_⟩;rw[decide_eq_true rfl];have s15:=s14.trans s5;walk_at "w";refine ⟨p,n,H0,rows,rfl,G.same s15,by lia,by lia,hw,λr6 H6 n6 s6 G6=>?_⟩;have s16:=s15.trans s6;obtain ⟨rs,grs,qrs,_⟩:=G.same s16;have lrs:=qrs.length;walk_at "w";refine ⟨_,_,rfl,.inl (bT.of grs),?_⟩;walk_at "w";refine z8 (B:=bw R ps n) (A:=rows) G6 (Rr.same s16) lr (by lia) (by lia) (by lia) hw F1 F2 wN nd nw λt7 x7 H7 g7 s7=>?_
  walk_at "w";rw[BJ];have s17:=s16.trans s7;walk_at "w";refine ⟨r,q,H1,_,row,rfl,GN.same s17,Rr.same s17,by lia,by lia,λxs hx=>⟨by rw[wN xs hx,lr],dE xs hx⟩,λH8 s8=>?_⟩;walk_at "w";refine ⟨_,_,EM,_,_,by decide,rfl,rfl,?_⟩;rw[decide_eq_true rfl];exact k _ (s17.trans s8)
theorem ip:be ["_law_script","_law_bag_here","_law_many","_law_size","_law_rows","_law_ends","_law_total","_law_row_here","_law_other"] ["_law_script"] (ar se):=by walk_at "d"
theorem CD (T:Txt K mg Z):cL P w K mg base iQ 9 Z.zP Z.zH ["_law_script"] (qE K):=by
 refine T.BH.ok ip (λvs H Q E h=>?_) (λcdv A outer s H vs Q E hr h=>?_)
 ·obtain ⟨a0,ns,rfl,_⟩:=h;rfl
 ·obtain ⟨a0,ns,rfl,hS,hlen,k⟩:=h
  refine ⟨_,(ao (aT (i:=1) ip.nd rfl (Or.inl rfl) (cO (vd T) hr T.pA T.m9.kp T.rB (ab (pv 0) ai)))
   (ao (jD (cO (rQ T) hr T.mO T.kG.kp T.oh (ab (pv 1) ai)) (tN rfl (dg (bg (i:=2) ip.nd) (dg (bg (i:=3) ip.nd) j0))))
   (ao (aT (i:=4) ip.nd rfl (Or.inl rfl) (cO (tU T) hr T.nN T.lQ.kp T.pH (ab (pv 1) (ab (pv 2) (ab (pv 3) ai)))))
   (ao (aT (i:=5) ip.nd rfl (Or.inl rfl) (cO (yS T) hr T.vg T.uv.kp T.xu (ab (pv 4) (ab (pv 3) ai))))
   (ao (dF (bM wV (bf iq (cz cv (by rfl) T.len cH (ab (cO (qK T) hr T.m3 T.mE.kp T.oW (ab (pv 4) (ab (pv 3) ai))) ai)) (cz cv (by rfl) T.len cH (ab (pv 5) ai))) (pv 3) (bN _)) (ay (aV pe)) b7)
   (ao (dF (tJ (tI (cO (qN T) hr T.lC T.jJ.kp T.mQ (ab (pv 4) (ab (pv 3) (ab (cO (lh T) hr T.jg T.i6.kp T.ku (ab (pv 1) (ab (pv 2) (ab ak ai)))) ai)))))) (ay (aV pe)) b7)
   (ao (dF (tJ (tI (cO (fk T) hr T.dU T.dG.kp T.eJ (ab (pv 4) (ab (pv 3) (ab (cO (lh T) hr T.jg T.i6.kp T.ku (ab (pv 1) (ab (pv 3) (ab ak ai)))) (ab (pv 5) ai))))))) (ay (aV pe)) b7)
   (ao (aT (i:=6) ip.nd rfl (Or.inl rfl) (bf yR (j4 (ab (dO (ab ak (ab ak ai))) ai)) (pv 3)))
   (ao (jZ PassesOwn.never rfl (dC (pv 4)) (bg (i:=7) ip.nd)
    (ay (aT (i:=6) ip.nd rfl (Or.inl rfl) (cO (iz T) hr T.fV T.fO.kp T.ij (ab (pv 6) (ab (cO (mZ T) hr T.ka T.jS.kp T.mn (ab (cO (iX T) hr T.fW T.fh.kp T.gU (ab (pv 1) (ab ak ai))) (ab (pv 7) ai))) ai))))))
   (ao (aT (i:=8) ip.nd rfl (Or.inl rfl) (bf yR (j4 (ab (dO (ab ak (ab ak ai))) ai)) (pv 3)))
   (ao (jZ PassesOwn.never rfl (dC (pv 5)) (bg (i:=7) ip.nd)
    (ay (aT (i:=8) ip.nd rfl (Or.inl rfl) (cO (iz T) hr T.fV T.fO.kp T.ij (ab (pv 8) (ab (cO (mZ T) hr T.ka T.jS.kp T.mn (ab (cO (iX T) hr T.fW T.fh.kp T.gU (ab (pv 1) (ab ak ai))) (ab (pv 7) ai))) ai))))))
   (ao (dF (PW.pt (DP (tJ (tI (cO (fk T) hr T.dU T.dG.kp T.eJ (ab (pv 4) (ab (pv 3) (ab (pv 6) (ab (pv 5) ai))))))) (Cv (tJ (tI (cO (fk T) hr T.dU T.dG.kp T.eJ (ab (pv 4) (ab (pv 3) (ab (pv 8) (ab (pv 5) ai)))))))))) (ay (aV pe)) b7)
   (ay (aV (cO (fk T) hr T.dU T.dG.kp T.eJ (ab (pv 4) (ab (pv 3) (ab (cO (iz T) hr T.fV T.fO.kp T.ij (ab (pv 6) (ab (pv 8) ai))) (ab (pv 5) ai))))))))))))))))))),?_⟩
  refine aS (σ:=[some (.ref a0),none,none,none,none,none,none,none,none]) rfl ?_;walk_at "w";refine ⟨a0,ns,rfl,hS,hlen,λb H0 hb0 B0 s0=>?_⟩;walk_at "w";refine ⟨b,rfl,B0,λr m n H1 g1 m0 n0 hmn B1 u1=>?_⟩;obtain ⟨m,rfl⟩:=i8 m0;obtain ⟨n,rfl⟩:=i8 n0;have hmn':(m<=5/\n<=12)\/(m<=12/\n<=4):=by lia
  have mn60:m*n<=60:=by
   rcases hmn' with ⟨a,c⟩ | ⟨a,c⟩
   ·exact ag (bp a c) (by decide)
   ·exact ag (bp a c) (by decide)
  walk_at "w";refine ⟨b,m,n,rfl,B1,by lia,by lia,mn60,λrw rows H2 nrw G2 lm lw gd B2 u2=>?_⟩
  have g29:Et rows m n:=by
   obtain ⟨M,V1,M0,tF,hAB⟩:=gd;exact CU hmn' M0 tF hAB
  clear gd mn60 hmn hmn';subst lm;obtain ⟨M,c,e,M0,Mc,M264,c308,tp,he,hme,hd890,hE,hs,m12,n12⟩:=id g29;have rwb:rw≠b:=λz=>B1.at (by rw[<- z];exact nrw)
  have F:pI rows n c:=yt M0 (ag M264 (af (by decide) (by decide))) (by lia) tp (m:=min rows.length n) (aj _) (by lia) (by lia);walk_at "w";refine ⟨rw,n,c,H1,rows,rfl,G2,by lia,by lia,lw,F,by lia,λtd R ps D H3 ntd s3 G3 RR pm D0 D1 tD=>?_⟩;obtain ⟨d,ed⟩:∃d,d=min rows.length n*(c+4):=⟨_,rfl⟩;rw[<- ed] at D1 tD hE hd890;have wN:∀xs∈bw R ps n,xs.length=n:=pX;have lN:(bw R ps n).length=(kQ ps n).length:=ah ..;have cnt:=CV (n:=n) (ps:=ps) RR.2.2.inc RR.2.2.low;have B3:=B2.same s3;have tdb:td≠b:=λz=>B2.at (by rw[<- z];exact ntd)
  have S:∀{row:List Rat},row.length=n->(∀x∈row,Tp (2520*(M*D)) (2^(c+d+22)) x)->Ep rows (bw R ps n) n row:=λlr tr=>e29 M0 D0 Mc M264 D1 c308 hd890 hE n12 tp tD lr tr
  have up22:(2:Nat)^(c+d+20)<=2^(c+d+22):=af (by decide) (by lia);walk_at "w";refine ⟨rw,n,c,H1,rows,rfl,G2.same s3,by lia,by lia,lw,F,λrd R' ps' D' H4 nrd s4 G4 RR4 _ _ _ _=>?_⟩;obtain ⟨e1,e2⟩:=RR4.same RR;subst e1 e2;obtain ⟨rv,grv,qrv,_⟩:=id G4;have lrv:=qrv.length;have lR:=RR.1;obtain ⟨nv,gnv,qnv,_⟩:=G3.same s4;have lnv:=qnv.length;walk_at "w";refine ⟨_,_,rfl,.inl (bT.of grv),?_⟩;walk_at "w";refine ⟨_,_,rfl,.inl (bT.of gnv),?_⟩;walk_at "w";have cn:((rv.length:Int)+(nv.length:Int))=(n:Int):=by lia
  rw[cn,decide_eq_true rfl];have s24:=s3.trans s4;have B4:=B2.same s24;walk_at "w";refine ⟨b,rows.length,9,rfl,B4,by lia,by decide,by decide,λwr ws H5 nwr Rw lws dw B5 u5=>?_⟩;have U5:cA b H2 H5:=s24.upto.trans u5;have G5:=G2.upto U5 B2 rwb B1.at;have N5:=(G3.same s4).upto u5 B4 tdb B2.at;walk_at "w";refine ⟨rw,wr,n,H1,rows,ws,rfl,G5,Rw,lws,lw,g29,λx hx=>xn (dw x hx),λH6 s6=>?_⟩;have B6:=B5.same s6;walk_at "w";refine ⟨b,n,9,rfl,B6,by lia,by decide,by decide,λwr7 ws7 H7 nwr7 Rw7 lws7 dw7 B7 u7=>?_⟩;have G7:=(G5.same s6).upto u7 B6 rwb B1.at;have N7:=(N5.same s6).upto u7 B6 tdb B2.at;walk_at "w";refine ⟨rw,wr7,td,n,H1,H2,rows,_,ws7,_,rfl,G7,Rw7,N7,RR,lws7,m12,n12,lw,S lws7 (λx hx=>(EG Mc D1 (xn (dw7 x hx))).mono up22),λH8 s8=>?_⟩;have B8:=B7.same s8;have G8:=G7.same s8;have N8:=N7.same s8;have sumA:∀i,i<=12->i*(22680*2^c)<=2^909:=λi hi=>ag (mul_pow (c:=4) (show i<=2^4 by lia) (mul_pow (c:=15) (by decide) (aj _))) (af (by decide) (by lia))
  have botA:2520*M<=2^909:=ag (mul_pow (c:=12) (by decide) Mc) (af (by decide) (by lia));have b0A:0 < 2520*M:=by lia
  walk_at "w";refine cu λtAa HAa sAa gAa=>?_
  walk_at "w";refine je λtAb HAb sAb nAb gAb=>?_
  walk_at "w";refine yF gAb (by lia) λtotA HAc sAc nAc gAc=>?_
  have sA0:=(sAa.trans sAb).trans sAc;have RAc:cK K HAc totA (List.replicate n 0):=⟨_,gAc,mW (bZ.mk (q:=0) ((sAb.trans sAc) _ _ gAa) rfl) n⟩;have nbA:totA≠b:=λz=>(B8.same (sAa.trans sAb)).at (by rw[<- z];exact nAc)
  have BAc:=B8.same sA0;have GAc:=G8.same sA0;obtain ⟨rsA,grsA,qrsA,_⟩:=id GAc;have lrsA:=qrsA.length;have lenA:rsA.length<=12:=by lia
  walk_at "w";refine ⟨⟨_,bT.of grsA⟩,?_⟩;refine qZ (K:=K) (a:=rw) (xs:=rsA) (λi σ' H'=>∃tot y xs,σ'=[some (.ref a0),some (.ref b),some (.int rows.length),some (.int n),some (.ref rw),some (.ref td),some (.ref tot),y,none]/\kH H' b/\cA b HAc H'/\tot≠b/\cK K H' tot xs/\xs.length=n/\∀x∈xs,Tp (2520*M) (i*(22680*2^c)) x) ⟨totA,_,_,rfl,BAc,cA.refl _,nbA,RAc,az,λx hx=>by rw[ox hx];exact Tp.zero⟩ (λi σ' H' _ ⟨_,_,_,_,_,u,_⟩=>bT.of (u.other rwb grsA)) ?_ ?_
  ·rintro i v σ' Hi hv ⟨tot,y,xs,rfl,Bi,Ui,nbi,Ri,lxi,ti⟩;have hi:=(aB.mp hv).1;obtain ⟨one,eo,u,rfl,nu,Ru⟩:=cR qrsA hv;have mo:=ax eo;have wo:=lw one mo;have ub:u≠b:=λz=>B1.at (by rw[<- z];exact nu)
   walk_at "w";refine ⟨b,9,rfl,Bi,by decide,by decide,λrx x Hj dx nx Bj Uj=>?_⟩;have tx:=xn dx;have tm:=wA tx (tp one mo);walk_at "w";refine ⟨_,u,x,one,rfl,nx,mI tx (by decide) (a:=15) (by decide) (by decide) (by decide),Ru.upto (Ui.trans Uj) BAc ub,by lia,λz hz=>mI (tp one mo z hz) M0 (a:=890) (ag Mc (af (by decide) (by lia))) (af (by decide) (by lia)) (by decide),λrm Hk nk sk Rk=>?_⟩;have i12:i+1<=12:=by lia
   walk_at "w";refine ⟨tot,rm,xs,_,rfl,(Ri.upto Uj Bi nbi).same sk,Rk,by rw[ah,lxi,wo],by lia,λz hz=>mI (ti z hz) b0A botA (sumA i (by lia)) (by decide),λz hz=>mI (tm z hz) b0A botA (by have:=sumA 1 (by decide);lia) (by decide),λrn Hl nl sl Rl=>?_⟩;have Bl:=(Bj.same sk).same sl;walk_at "w";refine ⟨rn,_,_,rfl,Bl,(Ui.trans Uj).trans (sk.trans sl).upto,λz=>(Bj.same sk).at (by rw[<- z];exact nl),Rl,by rw[dv,ah,wo,lxi];lia,λz hz=>?_⟩;have:=vK ti tm z hz;rwa [<- jC] at this
  rintro σ' HA ⟨totA,yA,xsA,rfl,BA,UA,nbA,RA,lxA,tA⟩;have NA:=(N8.same sA0).upto UA BAc tdb B2.at;have GA:=GAc.upto UA BAc rwb B1.at;have sumZ:∀i,i<=12->i*(22680*2^d)<=2^909:=λi hi=>ag (mul_pow (c:=4) (show i<=2^4 by lia) (mul_pow (c:=15) (by decide) (aj _))) (af (by decide) (by lia))
  have botZ:2520*D<=2^909:=ag (mul_pow (c:=12) (by decide) D1) (af (by decide) (by lia));have b0Z:0 < 2520*D:=by lia
  walk_at "w";refine cu λtZa HZa sZa gZa=>?_
  walk_at "w";refine je λtZb HZb sZb nZb gZb=>?_
  walk_at "w";refine yF gZb (by lia) λtotZ HZc sZc nZc gZc=>?_
  have sZ0:=(sZa.trans sZb).trans sZc;have RZc:cK K HZc totZ (List.replicate n 0):=⟨_,gZc,mW (bZ.mk (q:=0) ((sZb.trans sZc) _ _ gZa) rfl) n⟩;have nbZ:totZ≠b:=λz=>(BA.same (sZa.trans sZb)).at (by rw[<- z];exact nZc)
  have BZc:=BA.same sZ0;have GZc:=NA.same sZ0;obtain ⟨rsZ,grsZ,qrsZ,_⟩:=id GZc;have lrsZ:=qrsZ.length;have lenZ:rsZ.length<=12:=by lia
  walk_at "w";refine ⟨⟨_,bT.of grsZ⟩,?_⟩;refine qZ (K:=K) (a:=td) (xs:=rsZ) (λi σ' H'=>∃tot y xs,σ'=[some (.ref a0),some (.ref b),some (.int rows.length),some (.int n),some (.ref rw),some (.ref td),some (.ref totA),y,some (.ref tot)]/\kH H' b/\cA b HZc H'/\tot≠b/\cK K H' tot xs/\xs.length=n/\∀x∈xs,Tp (2520*D) (i*(22680*2^d)) x) ⟨totZ,_,_,rfl,BZc,cA.refl _,nbZ,RZc,az,λx hx=>by rw[ox hx];exact Tp.zero⟩ (λi σ' H' _ ⟨_,_,_,_,_,u,_⟩=>bT.of (u.other tdb grsZ)) ?_ ?_
  ·rintro i v σ' Hi hv ⟨tot,y,xs,rfl,Bi,Ui,nbi,Ri,lxi,ti⟩;have hi:=(aB.mp hv).1;obtain ⟨one,eo,u,rfl,nu,Ru⟩:=cR qrsZ hv;have mo:=ax eo;have wo:=wN one mo;have ub:u≠b:=λz=>B2.at (by rw[<- z];exact nu)
   walk_at "w";refine ⟨b,9,rfl,Bi,by decide,by decide,λrx x Hj dx nx Bj Uj=>?_⟩;have tx:=xn dx;have tm:=wA tx (tD one mo);walk_at "w";refine ⟨_,u,x,one,rfl,nx,mI tx (by decide) (a:=15) (by decide) (by decide) (by decide),Ru.upto (Ui.trans Uj) BZc ub,by lia,λz hz=>mI (tD one mo z hz) D0 (a:=890) (ag D1 (af (by decide) (by lia))) (af (by decide) (by lia)) (by decide),λrm Hk nk sk Rk=>?_⟩;have i12:i+1<=12:=by lia
   walk_at "w";refine ⟨tot,rm,xs,_,rfl,(Ri.upto Uj Bi nbi).same sk,Rk,by rw[ah,lxi,wo],by lia,λz hz=>mI (ti z hz) b0Z botZ (sumZ i (by lia)) (by decide),λz hz=>mI (tm z hz) b0Z botZ (by have:=sumZ 1 (by decide);lia) (by decide),λrn Hl nl sl Rl=>?_⟩;have Bl:=(Bj.same sk).same sl;walk_at "w";refine ⟨rn,_,_,rfl,Bl,(Ui.trans Uj).trans (sk.trans sl).upto,λz=>(Bj.same sk).at (by rw[<- z];exact nl),Rl,by rw[dv,ah,wo,lxi];lia,λz hz=>?_⟩;have:=vK ti tm z hz;rwa [<- jC] at this
  rintro σ' HZ ⟨totZ,yZ,xsZ,rfl,BZ,UZ,nbZ,RZ,lxZ,tZ⟩;have NZ:=GZc.upto UZ BZc tdb B2.at;have GZ:=(GA.same sZ0).upto UZ BZc rwb B1.at;have RA':=(RA.same sZ0).upto UZ BZc nbA;have tA':∀x∈xsA,Tp (2520*(M*D)) (2^(c+d+20)) x:=λx hx=>EF lenA D1 (tA x hx)
  have tZ':∀x∈xsZ,Tp (2520*(M*D)) (2^(c+d+20)) x:=λx hx=>ED lenZ Mc (tZ x hx)
  have E0:0 < 2520*(M*D):=cf (by decide) (cf M0 D0);have E1:2520*(M*D)<=2^1300:=ag (mul_pow (c:=12) (by decide) (mul_pow M264 D1)) (af (by decide) (by lia));have E2:(2:Nat)^(c+d+20)<=2^1300:=af (by decide) (by lia);walk_at "w";refine ⟨rw,totA,td,n,H1,H2,rows,_,xsA,_,rfl,GZ,RA',NZ,RR,lxA,m12,n12,lw,S lxA (λx hx=>(tA' x hx).mono up22),λH9 s9=>?_⟩;walk_at "w";refine ⟨rw,totZ,td,n,H1,H2,rows,_,xsZ,_,rfl,GZ.same s9,RZ.same s9,NZ.same s9,RR,lxZ,m12,n12,lw,S lxZ (λx hx=>(tZ' x hx).mono up22),λHa sa=>?_⟩;have s9a:=s9.trans sa;walk_at "w";refine ⟨totA,totZ,xsA,xsZ,rfl,RA'.same s9a,RZ.same s9a,by lia,by lia,λz hz=>mI (tA' z hz) E0 E1 E2 (by decide),λz hz=>mI (tZ' z hz) E0 E1 E2 (by decide),λrp Hb nb sb Rb=>?_⟩;have s9b:=s9a.trans sb;have lz:(List.zipWith (λx y=>x+y) xsA xsZ).length=n:=by rw[dv];lia
  walk_at "w";refine ⟨rw,rp,td,n,H1,H2,rows,_,_,_,rfl,GZ.same s9b,Rb,NZ.same s9b,RR,lz,m12,n12,lw,S lz (λx hx=>(vK tA' tZ' x hx).mono yN),λHc sc=>?_⟩;exact k _
end
theorem CG {P:List Value->Prop} (h:∀x0,P [x0]):∀us:List Value,us.length=1->P us
 | [x0],_=>h x0
theorem ln2 {P:List Value->Prop} (h:∀x0 x1,P [x0,x1]):∀us:List Value,us.length=2->P us
 | [x0,x1],_=>h x0 x1
theorem AL {P:List Value->Prop} (h:∀x0 x1 x2,P [x0,x1,x2]):∀us:List Value,us.length=3->P us
 | [x0,x1,x2],_=>h x0 x1 x2
theorem ln4 {P:List Value->Prop} (h:∀x0 x1 x2 x3,P [x0,x1,x2,x3]):∀us:List Value,us.length=4->P us
 | [x0,x1,x2,x3],_=>h x0 x1 x2 x3
theorem all_mk {l:W.OpenLaw} {w:World} {K:W.Frag} {h:Heap} {mg:Str->Option Value} {fa:Addr}
  {f0 f1 f2 f3 f4 f5 f6 f7 f8 f9 f10 f11 f12 f13 f14 f15 f16 f17 f18 f19 f20 f21 f22 f23 f24 f25 f26 f27 f28 f29 f30 f31 f32 f33 f34 f35 f36 f37 f38 f39 f40:Addr} {od0 od1 od2 od3 od4 od5 od6 od7 od8 od9 od10 od11 od12 od13 od14 od15 od16 od17 od18 od19 od20 od21 od22 od23 od24 od25 od26 od27 od28 od29 od30 od31 od32 od33 od34 od35 od36 od37 od38 od39 od40 an0 an1 an2 an3 an4 an5 an6 an7 an8 an9 an10 an11 an12 an13 an14 an15 an16 an17 an18 an19 an20 an21 an22 an23 an24 an25 an26 an27 an28 an29 an30 an31 an32 an33 an34 an35 an36 an37 an38 an39 an40:Option Addr} {sl0 sl1 sl2 sl3 sl4 sl5 sl6 sl7 sl8 sl9 sl10 sl11 sl12 sl13 sl14 sl15 sl16 sl17 sl18 sl19 sl20 sl21 sl22 sl23 sl24 sl25 sl26 sl27 sl28 sl29 sl30 sl31 sl32 sl33 sl34 sl35 sl36 sl37 sl38 sl39 sl40:Array (Option Value)} {oc0 oc1 oc2 oc3 oc4 oc5 oc6 oc7 oc8 oc9 oc10 oc11 oc12 oc13 oc14 oc15 oc16 oc17 oc18 oc19 oc20 oc21 oc22 oc23 oc24 oc25 oc26 oc27 oc28 oc29 oc30 oc31 oc32 oc33 oc34 oc35 oc36 oc37 oc38 oc39 oc40 kV0 kV1 kV2 kV3 kV4 kV5 kV6 kV7 kV8 kV9 kV10 kV11 kV12 kV13 kV14 kV15 kV16 kV17 kV18 kV19 kV20 kV21 kV22 kV23 kV24 kV25 kV26 kV27 kV28 kV29 kV30 kV31 kV32 kV33 kV34 kV35 kV36 kV37 kV38 kV39 kV40 dc0 dc1 dc2 dc3 dc4 dc5 dc6 dc7 dc8 dc9 dc10 dc11 dc12 dc13 dc14 dc15 dc16 dc17 dc18 dc19 dc20 dc21 dc22 dc23 dc24 dc25 dc26 dc27 dc28 dc29 dc30 dc31 dc32 dc33 dc34 dc35 dc36 dc37 dc38 dc39 dc40 pm0 pm1 pm2 pm3 pm4 pm5 pm6 pm7 pm8 pm9 pm10 pm11 pm12 pm13 pm14 pm15 pm16 pm17 pm18 pm19 pm20 pm21 pm22 pm23 pm24 pm25 pm26 pm27 pm28 pm29 pm30 pm31 pm32 pm33 pm34 pm35 pm36 pm37 pm38 pm39 pm40 cd0 cd1 cd2 cd3 cd4 cd5 cd6 cd7 cd8 cd9 cd10 cd11 cd12 cd13 cd14 cd15 cd16 cd17 cd18 cd19 cd20 cd21 cd22 cd23 cd24 cd25 cd26 cd27 cd28 cd29 cd30 cd31 cd32 cd33 cd34 cd35 cd36 cd37 cd38 cd39 cd40 ct0 ct1 ct2 ct3 ct4 ct5 ct6 ct7 ct8 ct9 ct10 ct11 ct12 ct13 ct14 ct15 ct16 ct17 ct18 ct19 ct20 ct21 ct22 ct23 ct24 ct25 ct26 ct27 ct28 ct29 ct30 ct31 ct32 ct33 ct34 ct35 ct36 ct37 ct38 ct39 ct40:Value}
  (X:K.In h) (G:h.Ns mainGlobals mg) (hfa:mg "law"=some (.ref fa))
  (a0:W.nsIn K mainGlobals "_law_bag"=some (some (.ref f0))) (l0:K.lookup f0=some ⟨oc0,od0,.func (W.fnOf "_law_bag" "_law_bag" (bb gF) (aX gF) (ar gF) .none kV0 dc0 pm0 an0 cd0 ct0),sl0⟩) (c0:W.codeIn K cd0 "_law_bag"=true) (k0:W.keepIn K (.ref f0)=true)
  (a1:W.nsIn K mainGlobals "_law_take"=some (some (.ref f1))) (l1:K.lookup f1=some ⟨oc1,od1,.func (W.fnOf "_law_take" "_law_take" (bb fD) (aX fD) (ar fD) .none kV1 dc1 pm1 an1 cd1 ct1),sl1⟩) (c1:W.codeIn K cd1 "_law_take"=true) (k1:W.keepIn K (.ref f1)=true)
  (a2:W.nsIn K mainGlobals "_law_sizes"=some (some (.ref f2))) (l2:K.lookup f2=some ⟨oc2,od2,.func (W.fnOf "_law_sizes" "_law_sizes" (bb eU) (aX eU) (ar eU) .none kV2 dc2 pm2 an2 cd2 ct2),sl2⟩) (c2:W.codeIn K cd2 "_law_sizes"=true) (k2:W.keepIn K (.ref f2)=true)
  (a3:W.nsIn K mainGlobals "_law_low"=some (some (.ref f3))) (l3:K.lookup f3=some ⟨oc3,od3,.func (W.fnOf "_law_low" "_law_low" (bb gD) (aX gD) (ar gD) .none kV3 dc3 pm3 an3 cd3 ct3),sl3⟩) (c3:W.codeIn K cd3 "_law_low"=true) (k3:W.keepIn K (.ref f3)=true)
  (a4:W.nsIn K mainGlobals "_law_number"=some (some (.ref f4))) (l4:K.lookup f4=some ⟨oc4,od4,.func (W.fnOf "_law_number" "_law_number" (bb d6) (aX d6) (ar d6) .none kV4 dc4 pm4 an4 cd4 ct4),sl4⟩) (c4:W.codeIn K cd4 "_law_number"=true) (k4:W.keepIn K (.ref f4)=true)
  (a5:W.nsIn K mainGlobals "_law_row"=some (some (.ref f5))) (l5:K.lookup f5=some ⟨oc5,od5,.func (W.fnOf "_law_row" "_law_row" (bb gC) (aX gC) (ar gC) .none kV5 dc5 pm5 an5 cd5 ct5),sl5⟩) (c5:W.codeIn K cd5 "_law_row"=true) (k5:W.keepIn K (.ref f5)=true)
  (a6:W.nsIn K mainGlobals "_law_sum"=some (some (.ref f6))) (l6:K.lookup f6=some ⟨oc6,od6,.func (W.fnOf "_law_sum" "_law_sum" (bb gB) (aX gB) (ar gB) .none kV6 dc6 pm6 an6 cd6 ct6),sl6⟩) (c6:W.codeIn K cd6 "_law_sum"=true) (k6:W.keepIn K (.ref f6)=true)
  (a7:W.nsIn K mainGlobals "_law_plus"=some (some (.ref f7))) (l7:K.lookup f7=some ⟨oc7,od7,.func (W.fnOf "_law_plus" "_law_plus" (bb fG) (aX fG) (ar fG) .none kV7 dc7 pm7 an7 cd7 ct7),sl7⟩) (c7:W.codeIn K cd7 "_law_plus"=true) (k7:W.keepIn K (.ref f7)=true)
  (a8:W.nsIn K mainGlobals "_law_prod"=some (some (.ref f8))) (l8:K.lookup f8=some ⟨oc8,od8,.func (W.fnOf "_law_prod" "_law_prod" (bb fF) (aX fF) (ar fF) .none kV8 dc8 pm8 an8 cd8 ct8),sl8⟩) (c8:W.codeIn K cd8 "_law_prod"=true) (k8:W.keepIn K (.ref f8)=true)
  (a9:W.nsIn K mainGlobals "_law_by"=some (some (.ref f9))) (l9:K.lookup f9=some ⟨oc9,od9,.func (W.fnOf "_law_by" "_law_by" (bb iO) (aX iO) (ar iO) .none kV9 dc9 pm9 an9 cd9 ct9),sl9⟩) (c9:W.codeIn K cd9 "_law_by"=true) (k9:W.keepIn K (.ref f9)=true)
  (a10:W.nsIn K mainGlobals "_law_grid"=some (some (.ref f10))) (l10:K.lookup f10=some ⟨oc10,od10,.func (W.fnOf "_law_grid" "_law_grid" (bb fI) (aX fI) (ar fI) .none kV10 dc10 pm10 an10 cd10 ct10),sl10⟩) (c10:W.codeIn K cd10 "_law_grid"=true) (k10:W.keepIn K (.ref f10)=true)
  (a11:W.nsIn K mainGlobals "tops_over"=some (some (.ref f11))) (l11:K.lookup f11=some ⟨oc11,od11,.func (W.fnOf "tops_over" "tops_over" (bb fB) (aX fB) (ar fB) .none kV11 dc11 pm11 an11 cd11 ct11),sl11⟩) (c11:W.codeIn K cd11 "tops_over"=true) (k11:W.keepIn K (.ref f11)=true)
  (a12:W.nsIn K mainGlobals "common_divisor"=some (some (.ref f12))) (l12:K.lookup f12=some ⟨oc12,od12,.func (W.fnOf "common_divisor" "common_divisor" (bb cQ) (aX cQ) (ar cQ) .none kV12 dc12 pm12 an12 cd12 ct12),sl12⟩) (c12:W.codeIn K cd12 "common_divisor"=true) (k12:W.keepIn K (.ref f12)=true)
  (a13:W.nsIn K mainGlobals "common_multiple"=some (some (.ref f13))) (l13:K.lookup f13=some ⟨oc13,od13,.func (W.fnOf "common_multiple" "common_multiple" (bb cG) (aX cG) (ar cG) .none kV13 dc13 pm13 an13 cd13 ct13),sl13⟩) (c13:W.codeIn K cd13 "common_multiple"=true) (k13:W.keepIn K (.ref f13)=true)
  (a14:W.nsIn K mainGlobals "common_bottom"=some (some (.ref f14))) (l14:K.lookup f14=some ⟨oc14,od14,.func (W.fnOf "common_bottom" "common_bottom" (bb df) (aX df) (ar df) .none kV14 dc14 pm14 an14 cd14 ct14),sl14⟩) (c14:W.codeIn K cd14 "common_bottom"=true) (k14:W.keepIn K (.ref f14)=true)
  (a15:W.nsIn K mainGlobals "first_with"=some (some (.ref f15))) (l15:K.lookup f15=some ⟨oc15,od15,.func (W.fnOf "first_with" "first_with" (bb eQ) (aX eQ) (ar eQ) .none kV15 dc15 pm15 an15 cd15 ct15),sl15⟩) (c15:W.codeIn K cd15 "first_with"=true) (k15:W.keepIn K (.ref f15)=true)
  (a16:W.nsIn K mainGlobals "cleared"=some (some (.ref f16))) (l16:K.lookup f16=some ⟨oc16,od16,.func (W.fnOf "cleared" "cleared" (bb iN) (aX iN) (ar iN) .none kV16 dc16 pm16 an16 cd16 ct16),sl16⟩) (c16:W.codeIn K cd16 "cleared"=true) (k16:W.keepIn K (.ref f16)=true)
  (a17:W.nsIn K mainGlobals "brought_up"=some (some (.ref f17))) (l17:K.lookup f17=some ⟨oc17,od17,.func (W.fnOf "brought_up" "brought_up" (bb eT) (aX eT) (ar eT) .none kV17 dc17 pm17 an17 cd17 ct17),sl17⟩) (c17:W.codeIn K cd17 "brought_up"=true) (k17:W.keepIn K (.ref f17)=true)
  (a18:W.nsIn K mainGlobals "swept"=some (some (.ref f18))) (l18:K.lookup f18=some ⟨oc18,od18,.func (W.fnOf "swept" "swept" (bb lS) (aX lS) (ar lS) .none kV18 dc18 pm18 an18 cd18 ct18),sl18⟩) (c18:W.codeIn K cd18 "swept"=true) (k18:W.keepIn K (.ref f18)=true)
  (a19:W.nsIn K mainGlobals "lowest"=some (some (.ref f19))) (l19:K.lookup f19=some ⟨oc19,od19,.func (W.fnOf "lowest" "lowest" (bb jP) (aX jP) (ar jP) .none kV19 dc19 pm19 an19 cd19 ct19),sl19⟩) (c19:W.codeIn K cd19 "lowest"=true) (k19:W.keepIn K (.ref f19)=true)
  (a20:W.nsIn K mainGlobals "reduced"=some (some (.ref f20))) (l20:K.lookup f20=some ⟨oc20,od20,.func (W.fnOf "reduced" "reduced" (bb iK) (aX iK) (ar iK) .none kV20 dc20 pm20 an20 cd20 ct20),sl20⟩) (c20:W.codeIn K cd20 "reduced"=true) (k20:W.keepIn K (.ref f20)=true)
  (a21:W.nsIn K mainGlobals "unit_row"=some (some (.ref f21))) (l21:K.lookup f21=some ⟨oc21,od21,.func (W.fnOf "unit_row" "unit_row" (bb gA) (aX gA) (ar gA) .none kV21 dc21 pm21 an21 cd21 ct21),sl21⟩) (c21:W.codeIn K cd21 "unit_row"=true) (k21:W.keepIn K (.ref f21)=true)
  (a22:W.nsIn K mainGlobals "leading_place"=some (some (.ref f22))) (l22:K.lookup f22=some ⟨oc22,od22,.func (W.fnOf "leading_place" "leading_place" (bb de) (aX de) (ar de) .none kV22 dc22 pm22 an22 cd22 ct22),sl22⟩) (c22:W.codeIn K cd22 "leading_place"=true) (k22:W.keepIn K (.ref f22)=true)
  (a23:W.nsIn K mainGlobals "leading"=some (some (.ref f23))) (l23:K.lookup f23=some ⟨oc23,od23,.func (W.fnOf "leading" "leading" (bb iM) (aX iM) (ar iM) .none kV23 dc23 pm23 an23 cd23 ct23),sl23⟩) (c23:W.codeIn K cd23 "leading"=true) (k23:W.keepIn K (.ref f23)=true)
  (a24:W.nsIn K mainGlobals "minus"=some (some (.ref f24))) (l24:K.lookup f24=some ⟨oc24,od24,.func (W.fnOf "minus" "minus" (bb lW) (aX lW) (ar lW) .none kV24 dc24 pm24 an24 cd24 ct24),sl24⟩) (c24:W.codeIn K cd24 "minus"=true) (k24:W.keepIn K (.ref f24)=true)
  (a25:W.nsIn K mainGlobals "null_at"=some (some (.ref f25))) (l25:K.lookup f25=some ⟨oc25,od25,.func (W.fnOf "null_at" "null_at" (bb iL) (aX iL) (ar iL) .none kV25 dc25 pm25 an25 cd25 ct25),sl25⟩) (c25:W.codeIn K cd25 "null_at"=true) (k25:W.keepIn K (.ref f25)=true)
  (a26:W.nsIn K mainGlobals "free_places"=some (some (.ref f26))) (l26:K.lookup f26=some ⟨oc26,od26,.func (W.fnOf "free_places" "free_places" (bb d4) (aX d4) (ar d4) .none kV26 dc26 pm26 an26 cd26 ct26),sl26⟩) (c26:W.codeIn K cd26 "free_places"=true) (k26:W.keepIn K (.ref f26)=true)
  (a27:W.nsIn K mainGlobals "nulls"=some (some (.ref f27))) (l27:K.lookup f27=some ⟨oc27,od27,.func (W.fnOf "nulls" "nulls" (bb lV) (aX lV) (ar lV) .none kV27 dc27 pm27 an27 cd27 ct27),sl27⟩) (c27:W.codeIn K cd27 "nulls"=true) (k27:W.keepIn K (.ref f27)=true)
  (a28:W.nsIn K mainGlobals "nought_row"=some (some (.ref f28))) (l28:K.lookup f28=some ⟨oc28,od28,.func (W.fnOf "nought_row" "nought_row" (bb eP) (aX eP) (ar eP) .none kV28 dc28 pm28 an28 cd28 ct28),sl28⟩) (c28:W.codeIn K cd28 "nought_row"=true) (k28:W.keepIn K (.ref f28)=true)
  (a29:W.nsIn K mainGlobals "solved"=some (some (.ref f29))) (l29:K.lookup f29=some ⟨oc29,od29,.func (W.fnOf "solved" "solved" (bb jO) (aX jO) (ar jO) .none kV29 dc29 pm29 an29 cd29 ct29),sl29⟩) (c29:W.codeIn K cd29 "solved"=true) (k29:W.keepIn K (.ref f29)=true)
  (a30:W.nsIn K mainGlobals "grid_turned"=some (some (.ref f30))) (l30:K.lookup f30=some ⟨oc30,od30,.func (W.fnOf "grid_turned" "grid_turned" (bb d3) (aX d3) (ar d3) .none kV30 dc30 pm30 an30 cd30 ct30),sl30⟩) (c30:W.codeIn K cd30 "grid_turned"=true) (k30:W.keepIn K (.ref f30)=true)
  (a31:W.nsIn K mainGlobals "solve"=some (some (.ref f31))) (l31:K.lookup f31=some ⟨oc31,od31,.func (W.fnOf "solve" "solve" (bb lU) (aX lU) (ar lU) .none kV31 dc31 pm31 an31 cd31 ct31),sl31⟩) (c31:W.codeIn K cd31 "solve"=true) (k31:W.keepIn K (.ref f31)=true)
  (a32:W.nsIn K mainGlobals "_law_dot"=some (some (.ref f32))) (l32:K.lookup f32=some ⟨oc32,od32,.func (W.fnOf "_law_dot" "_law_dot" (bb gE) (aX gE) (ar gE) .none kV32 dc32 pm32 an32 cd32 ct32),sl32⟩) (c32:W.codeIn K cd32 "_law_dot"=true) (k32:W.keepIn K (.ref f32)=true)
  (a33:W.nsIn K mainGlobals "_law_less"=some (some (.ref f33))) (l33:K.lookup f33=some ⟨oc33,od33,.func (W.fnOf "_law_less" "_law_less" (bb fH) (aX fH) (ar fH) .none kV33 dc33 pm33 an33 cd33 ct33),sl33⟩) (c33:W.codeIn K cd33 "_law_less"=true) (k33:W.keepIn K (.ref f33)=true)
  (a34:W.nsIn K mainGlobals "_law_quot"=some (some (.ref f34))) (l34:K.lookup f34=some ⟨oc34,od34,.func (W.fnOf "_law_quot" "_law_quot" (bb fE) (aX fE) (ar fE) .none kV34 dc34 pm34 an34 cd34 ct34),sl34⟩) (c34:W.codeIn K cd34 "_law_quot"=true) (k34:W.keepIn K (.ref f34)=true)
  (a35:W.nsIn K mainGlobals "_law_mended"=some (some (.ref f35))) (l35:K.lookup f35=some ⟨oc35,od35,.func (W.fnOf "_law_mended" "_law_mended" (bb d8) (aX d8) (ar d8) .none kV35 dc35 pm35 an35 cd35 ct35),sl35⟩) (c35:W.codeIn K cd35 "_law_mended"=true) (k35:W.keepIn K (.ref f35)=true)
  (a36:W.nsIn K mainGlobals "_law_solved"=some (some (.ref f36))) (l36:K.lookup f36=some ⟨oc36,od36,.func (W.fnOf "_law_solved" "_law_solved" (bb d5) (aX d5) (ar d5) .none kV36 dc36 pm36 an36 cd36 ct36),sl36⟩) (c36:W.codeIn K cd36 "_law_solved"=true) (k36:W.keepIn K (.ref f36)=true)
  (a37:W.nsIn K mainGlobals "weights_for"=some (some (.ref f37))) (l37:K.lookup f37=some ⟨oc37,od37,.func (W.fnOf "weights_for" "weights_for" (bb dZ) (aX dZ) (ar dZ) .none kV37 dc37 pm37 an37 cd37 ct37),sl37⟩) (c37:W.codeIn K cd37 "weights_for"=true) (k37:W.keepIn K (.ref f37)=true)
  (a38:W.nsIn K mainGlobals "_law_nought"=some (some (.ref f38))) (l38:K.lookup f38=some ⟨oc38,od38,.func (W.fnOf "_law_nought" "_law_nought" (bb d7) (aX d7) (ar d7) .none kV38 dc38 pm38 an38 cd38 ct38),sl38⟩) (c38:W.codeIn K cd38 "_law_nought"=true) (k38:W.keepIn K (.ref f38)=true)
  (a39:W.nsIn K mainGlobals "_law_spanned"=some (some (.ref f39))) (l39:K.lookup f39=some ⟨oc39,od39,.func (W.fnOf "_law_spanned" "_law_spanned" (bb dD) (aX dD) (ar dD) .none kV39 dc39 pm39 an39 cd39 ct39),sl39⟩) (c39:W.codeIn K cd39 "_law_spanned"=true) (k39:W.keepIn K (.ref f39)=true)
  (a40:W.nsIn K mainGlobals "law"=some (some (.ref f40))) (l40:K.lookup f40=some ⟨oc40,od40,.func (W.fnOf "law" "law" (bb se) (aX se) (ar se) .none kV40 dc40 pm40 an40 cd40 ct40),sl40⟩) (c40:W.codeIn K cd40 "law"=true) (k40:W.keepIn K (.ref f40)=true)
  {m0:Addr} {mo0:Option Addr} {mn0:Nat} {ms0:Array (Option Value)} {mt0_0 mt0_1:Tok} (ca0:W.nsIn K mainGlobals "NOUGHT"=some (some (.ref m0))) (cl0:K.lookup m0=some ⟨.type "tuple",mo0,.seq #[.int 0 mt0_0,.int 1 mt0_1] mn0,ms0⟩)
  {m1:Addr} {mo1:Option Addr} {mn1:Nat} {ms1:Array (Option Value)} {mt1_0 mt1_1:Tok} (ca1:W.nsIn K mainGlobals "ONE"=some (some (.ref m1))) (cl1:K.lookup m1=some ⟨.type "tuple",mo1,.seq #[.int 1 mt1_0,.int 1 mt1_1] mn1,ms1⟩)
  (z_abs:W.nsIn K mainGlobals "abs"=some none)
  (z_len:W.nsIn K mainGlobals "len"=some none)
  (z_min:W.nsIn K mainGlobals "min"=some none)
  (z_range:W.nsIn K mainGlobals "range"=some none)
  (z_zip:W.nsIn K mainGlobals "zip"=some none)
  (z_list:W.nsIn K mainGlobals "list"=some none)
  (z_enumerate:W.nsIn K mainGlobals "enumerate"=some none)
  (z_all:W.nsIn K mainGlobals "all"=some none)
  : ∃fd:FuncData,(∀(s:Shared) (v:Value),BindsTo s fd ⟨[v],[]⟩ [("_law_script",v)])/\∀base:Heap,K.In base->base.Ns mainGlobals mg->cL l.prog w K mg base iQ 9 fa fd ["_law_script"] (qE K):=by
 have e:=hfa.symm.trans (W.mg_of X G a40);cases e;have F0:=bG (st:=gF) l0 c0 k0;have F1:=bG (st:=fD) l1 c1 k1;have F2:=bG (st:=eU) l2 c2 k2;have F3:=bG (st:=gD) l3 c3 k3;have F4:=bG (st:=d6) l4 c4 k4;have F5:=bG (st:=gC) l5 c5 k5;have F6:=bG (st:=gB) l6 c6 k6;have F7:=bG (st:=fG) l7 c7 k7;have F8:=bG (st:=fF) l8 c8 k8;have F9:=bG (st:=iO) l9 c9 k9;have F10:=bG (st:=fI) l10 c10 k10;have F11:=bG (st:=fB) l11 c11 k11;have F12:=bG (st:=cQ) l12 c12 k12;have F13:=bG (st:=cG) l13 c13 k13;have F14:=bG (st:=df) l14 c14 k14;have F15:=bG (st:=eQ) l15 c15 k15;have F16:=bG (st:=iN) l16 c16 k16;have F17:=bG (st:=eT) l17 c17 k17;have F18:=bG (st:=lS) l18 c18 k18;have F19:=bG (st:=jP) l19 c19 k19;have F20:=bG (st:=iK) l20 c20 k20;have F21:=bG (st:=gA) l21 c21 k21;have F22:=bG (st:=de) l22 c22 k22;have F23:=bG (st:=iM) l23 c23 k23;have F24:=bG (st:=lW) l24 c24 k24;have F25:=bG (st:=iL) l25 c25 k25;have F26:=bG (st:=d4) l26 c26 k26;have F27:=bG (st:=lV) l27 c27 k27;have F28:=bG (st:=eP) l28 c28 k28;have F29:=bG (st:=jO) l29 c29 k29;have F30:=bG (st:=d3) l30 c30 k30;have F31:=bG (st:=lU) l31 c31 k31;have F32:=bG (st:=gE) l32 c32 k32;have F33:=bG (st:=fH) l33 c33 k33;have F34:=bG (st:=fE) l34 c34 k34;have F35:=bG (st:=d8) l35 c35 k35;have F36:=bG (st:=d5) l36 c36 k36;have F37:=bG (st:=dZ) l37 c37 k37;have F38:=bG (st:=d7) l38 c38 k38;have F39:=bG (st:=dD) l39 c39 k39;have F40:=bG (st:=se) l40 c40 k40
 have T:Txt K mg { kB:=f0,kl:=_,ju:=f1,jj:=_,iH:=f2,iD:=_,kz:=f3,ki:=_,hJ:=f4,gP:=_,ky:=f5,kh:=_,kx:=f6,kg:=_,jx:=f7,jo:=_,jw:=f8,jm:=_,mC:=f9,ml:=_,jz:=f10,jr:=_,jt:=f11,ji:=_,eY:=f12,eW:=_,eE:=f13,eD:=_,fu:=f14,fo:=_,iF:=f15,iB:=_,mB:=f16,mi:=_,iG:=f17,iC:=_,qe:=f18,p7:=_,om:=f19,nY:=_,mq:=f20,me:=_,kv:=f21,kf:=_,ft:=f22,fm:=_,my:=f23,mh:=_,qi:=f24,qb:=_,mw:=f25,mf:=_,gY:=f26,gN:=_,qh:=f27,p9:=_,iE:=f28,iA:=_,oj:=f29,nX:=_,gX:=f30,gM:=_,qf:=f31,p8:=_,kA:=f32,kj:=_,jy:=f33,jq:=_,jv:=f34,jk:=_,hV:=f35,gR:=_,gZ:=f36,gO:=_,gW:=f37,gL:=_,hU:=f38,gQ:=_,gg:=f39,fY:=_,zP:=fa,zH:=_,a_NOUGHT:=m0,a_ONE:=m1 }:={
  pA:=W.mg_of X G a0
  rB:=F0.binds (ps:=["_law_script"]) λ_ _ _ _ _ _=>by refine CG ?_;intros;rfl
  m9:=F0
  bu:=W.mg_of X G a1
  bE:=F1.binds (ps:=["_law_bag_here","_law_many"]) λ_ _ _ _ _ _=>by refine ln2 ?_;intros;rfl
  bB:=F1
  mO:=W.mg_of X G a2
  oh:=F2.binds (ps:=["_law_bag_here"]) λ_ _ _ _ _ _=>by refine CG ?_;intros;rfl
  kG:=F2
  dh:=W.mg_of X G a3
  dP:=F3.binds (ps:=["_law_top","_law_bottom"]) λ_ _ _ _ _ _=>by refine ln2 ?_;intros;rfl
  du:=F3
  fW:=W.mg_of X G a4
  gU:=F4.binds (ps:=["_law_bag_here","_law_wide"]) λ_ _ _ _ _ _=>by refine ln2 ?_;intros;rfl
  fh:=F4
  jg:=W.mg_of X G a5
  ku:=F5.binds (ps:=["_law_bag_here","_law_many","_law_wide"]) λ_ _ _ _ _ _=>by refine AL ?_;intros;rfl
  i6:=F5
  lB:=W.mg_of X G a6
  m7:=F6.binds (ps:=["_law_one","_law_other"]) λ_ _ _ _ _ _=>by refine ln2 ?_;intros;rfl
  kF:=F6
  fV:=W.mg_of X G a7
  ij:=F7.binds (ps:=["_law_one","_law_other"]) λ_ _ _ _ _ _=>by refine ln2 ?_;intros;rfl
  fO:=F7
  j9:=W.mg_of X G a8
  lJ:=F8.binds (ps:=["_law_one","_law_other"]) λ_ _ _ _ _ _=>by refine ln2 ?_;intros;rfl
  jB:=F8
  ka:=W.mg_of X G a9
  mn:=F9.binds (ps:=["_law_by_here","_law_row_here"]) λ_ _ _ _ _ _=>by refine ln2 ?_;intros;rfl
  jS:=F9
  nN:=W.mg_of X G a10
  pH:=F10.binds (ps:=["_law_bag_here","_law_many","_law_size"]) λ_ _ _ _ _ _=>by refine AL ?_;intros;rfl
  lQ:=F10
  nK:=W.mg_of X G a11
  pE:=F11.binds (ps:=["row","bottom"]) λ_ _ _ _ _ _=>by refine ln2 ?_;intros;rfl
  lL:=F11
  fU:=W.mg_of X G a12
  gJ:=F12.binds (ps:=["one","other"]) λ_ _ _ _ _ _=>by refine ln2 ?_;intros;rfl
  eZ:=F12
  i4:=W.mg_of X G a13
  js:=F13.binds (ps:=["wholes"]) λ_ _ _ _ _ _=>by refine CG ?_;intros;rfl
  gm:=F13
  jR:=W.mg_of X G a14
  kL:=F14.binds (ps:=["row"]) λ_ _ _ _ _ _=>by refine CG ?_;intros;rfl
  iu:=F14
  mM:=W.mg_of X G a15
  oe:=F15.binds (ps:=["lines","begin","place"]) λ_ _ _ _ _ _=>by refine AL ?_;intros;rfl
  kD:=F15
  qR:=W.mg_of X G a16
  sS:=F16.binds (ps:=["lines","at","place","before"]) λ_ _ _ _ _ _=>by refine ln4 ?_;intros;rfl
  o3:=F16
  mN:=W.mg_of X G a17
  og:=F17.binds (ps:=["lines","at","to"]) λ_ _ _ _ _ _=>by refine AL ?_;intros;rfl
  kE:=F17
  qP:=W.mg_of X G a18
  ur:=F18.binds (ps:=["rows","wide"]) λ_ _ _ _ _ _=>by refine ln2 ?_;intros;rfl
  qj:=F18
  ma:=W.mg_of X G a19
  oa:=F19.binds (ps:=["top","bottom"]) λ_ _ _ _ _ _=>by refine ln2 ?_;intros;rfl
  lM:=F19
  m3:=W.mg_of X G a20
  oW:=F20.binds (ps:=["rows","wide"]) λ_ _ _ _ _ _=>by refine ln2 ?_;intros;rfl
  mE:=F20
  pq:=W.mg_of X G a21
  rz:=F21.binds (ps:=["many","at"]) λ_ _ _ _ _ _=>by refine ln2 ?_;intros;rfl
  m8:=F21
  jQ:=W.mg_of X G a22
  kK:=F22.binds (ps:=["row"]) λ_ _ _ _ _ _=>by refine CG ?_;intros;rfl
  ir:=F22
  m4:=W.mg_of X G a23
  oX:=F23.binds (ps:=["rows"]) λ_ _ _ _ _ _=>by refine CG ?_;intros;rfl
  mF:=F23
  vh:=W.mg_of X G a24
  xv:=F24.binds (ps:=["one","other"]) λ_ _ _ _ _ _=>by refine ln2 ?_;intros;rfl
  uw:=F24
  qQ:=W.mg_of X G a25
  sR:=F25.binds (ps:=["rows","wide","at"]) λ_ _ _ _ _ _=>by refine AL ?_;intros;rfl
  oZ:=F25
  lA:=W.mg_of X G a26
  mP:=F26.binds (ps:=["rows","wide"]) λ_ _ _ _ _ _=>by refine ln2 ?_;intros;rfl
  jI:=F26
  vg:=W.mg_of X G a27
  xu:=F27.binds (ps:=["rows","wide"]) λ_ _ _ _ _ _=>by refine ln2 ?_;intros;rfl
  uv:=F27
  jG:=W.mg_of X G a28
  ks:=F28.binds (ps:=["many"]) λ_ _ _ _ _ _=>by refine CG ?_;intros;rfl
  iI:=F28
  oO:=W.mg_of X G a29
  rA:=F29.binds (ps:=["rows","wide","due"]) λ_ _ _ _ _ _=>by refine AL ?_;intros;rfl
  oq:=F29
  fS:=W.mg_of X G a30
  gT:=F30.binds (ps:=["grid","wide"]) λ_ _ _ _ _ _=>by refine ln2 ?_;intros;rfl
  fg:=F30
  ll:=W.mg_of X G a31
  n9:=F31.binds (ps:=["rows","wide","due"]) λ_ _ _ _ _ _=>by refine AL ?_;intros;rfl
  mD:=F31
  eI:=W.mg_of X G a32
  fA:=F32.binds (ps:=["_law_one","_law_other"]) λ_ _ _ _ _ _=>by refine ln2 ?_;intros;rfl
  eK:=F32
  nM:=W.mg_of X G a33
  pG:=F33.binds (ps:=["_law_one","_law_other"]) λ_ _ _ _ _ _=>by refine ln2 ?_;intros;rfl
  lP:=F33
  nL:=W.mg_of X G a34
  pF:=F34.binds (ps:=["_law_one","_law_other"]) λ_ _ _ _ _ _=>by refine ln2 ?_;intros;rfl
  lO:=F34
  lD:=W.mg_of X G a35
  mR:=F35.binds (ps:=["_law_due","_law_prices"]) λ_ _ _ _ _ _=>by refine ln2 ?_;intros;rfl
  jK:=F35
  lC:=W.mg_of X G a36
  mQ:=F36.binds (ps:=["_law_rows","_law_size","_law_due"]) λ_ _ _ _ _ _=>by refine AL ?_;intros;rfl
  jJ:=F36
  i3:=W.mg_of X G a37
  jH:=F37.binds (ps:=["rows","wide","row"]) λ_ _ _ _ _ _=>by refine AL ?_;intros;rfl
  hZ:=F37
  fX:=W.mg_of X G a38
  gV:=F38.binds (ps:=["_law_rows","_law_row_here"]) λ_ _ _ _ _ _=>by refine ln2 ?_;intros;rfl
  fj:=F38
  dU:=W.mg_of X G a39
  eJ:=F39.binds (ps:=["_law_rows","_law_size","_law_row_here","_law_ends"]) λ_ _ _ _ _ _=>by refine ln4 ?_;intros;rfl
  dG:=F39
  BH:=F40
  abs:=W.mg_none_of X G z_abs
  len:=W.mg_none_of X G z_len
  min:=W.mg_none_of X G z_min
  range:=W.mg_none_of X G z_range
  zip:=W.mg_none_of X G z_zip
  list:=W.mg_none_of X G z_list
  enumerate:=W.mg_none_of X G z_enumerate
  all:=W.mg_none_of X G z_all
  mg_NOUGHT:=W.mg_of X G ca0
  sq_NOUGHT:=λH=>.inr ⟨_,_,_,cl0,rfl,rfl,jM rfl,.cons ⟨_,rfl⟩ (.cons ⟨_,rfl⟩ (.nil))⟩
  mg_ONE:=W.mg_of X G ca1
  sq_ONE:=λH=>.inr ⟨_,_,_,cl1,rfl,rfl,jM rfl,.cons ⟨_,rfl⟩ (.cons ⟨_,rfl⟩ (.nil))⟩ }
 exact ⟨_,λs v=>.of_eq rfl,λbase _ _=>CD T⟩
theorem walk {l:W.OpenLaw} {q:Program} {loose:List Str} {XP:(Str->Option Value)->Heap->Prop} {YP:World->Heap->Prop} {d:DefRec} {K:Params->W.Frag} (hn:l.most=some 63) (hdf:d.params.defaults=[])
  (hY:∀(w:World) (h:Heap),YP w h->(K w.params).In h)
  (F:∀(w:World) (mg:Str->Option Value) (fa:Addr) (h:Heap),(K w.params).In h->h.Ns mainGlobals mg->mg d.name=some (.ref fa) →
   ∃fd:FuncData,(∀(s:Shared) (u:Value),BindsTo s fd ⟨[u],[]⟩ [("_law_script",u)])/\∀base:Heap,(K w.params).In base->base.Ns mainGlobals mg->cL l.prog w (K w.params) mg base iQ 9 fa fd ["_law_script"] (qE (K w.params))) :
  W.WalkO q loose XP YP l.row.toRowW d [] (λf vs=>PySem.call f vs) :=
 L2.z3 (n:=63) (k:=9) (x:="_law_script") (CX:=λ_=>iQ) (sp:=λw=>qE (K w.params)) hn (by decide) hdf ⟨rfl,by decide,by decide⟩ hY F (λ_ _ a ns hl _ hS=>⟨a,ns,rfl,hS,hl,λ_=>rfl⟩) λ_ _ _ _ _ z=>z
end Lw
namespace PySem.W.Fast
def tw6121410863182145046:=()
def tw16609273365657635856:=()
def tw894424757635845819:=()
def tw17587968186895456225:=()
def tw4411202494100053268:=()
def tw11737519481240290184:=()
def tw1925584719843730167:=()
def tw7285681231173679242:=()
def tw13127807601971139908:=()
def tw14048292750389781886:=()
def tw17916658047735419479:=()
def tw14193517804230835526:=()
def tw10828003387000087585:=()
def tw54541672571711505:=()
def tw6779005656523662365:=()
def tw16493218451840754338:=()
def tw4944976493161941209:=()
def tw1879856260548461746:=()
def tw17363155669972748043:=()
def tw1027396535301177155:=()
def tw15004856501006031566:=()
def tw10009148434326223518:=()
def tw16790927952572967721:=()
def tw12137491370464189046:=()
def tw12300463307961903704:=()
def tw4816198339409133331:=()
def tw16516028080226465631:=()
def tw1315383059938034162:=()
def tw13572475320752719492:=()
def tw12876457450550586549:=()
def tw11641877957253226033:=()
def tw8635138520581437668:=()
def tw8595670757561314967:=()
def tw343451487906389547:=()
def tw1465100438896601608:=()
def tw3139138357684339723:=()
def tw7203423937029712169:=()
def tw6088336403436596186:=()
def tw11930619136315902417:=()
def tw16741439896498282136:=()
def tw8460883674963644698:=()
def tw16327492673002349868:=()
def tw1544214155236127419:=()
def tw928504670094039124:=()
def tw15303363177318362106:=()
def tw17976064110734996011:=()
def tw6511161182189760768:=()
def tw1957287230271739102:=()
def tw13874272392781735988:=()
def tw16710444569018101535:=()
def tw8411722727273056095:=()
def tw1281677971810863522:=()
def tw2412251929811768376:=()
def tw9120833859415277821:=()
def tw5440871998981793547:=()
def tw8327439123877146457:=()
def tw14948861545552062497:=()
def tw10274483912647882772:=()
def tw11597167401199347883:=()
def tw2890014672252380716:=()
def tw2366988969595520053:=()
def tw6334504722899234522:=()
def tw10007719349991692810:=()
def tw13481920945052525144:=()
def tw12718795930463113222:=()
def tw10165196496357702058:=()
def tw13009904254806518744:=()
def tw8047594166223872375:=()
def tw17105323098753946712:=()
def tw3138618256676629085:=()
def tw7635022241639680901:=()
def tw13494949002288610581:=()
def tw10231004718135863715:=()
def tw16178487248797314478:=()
def tw10751696582959664563:=()
def tw9524946815301611915:=()
def tw16137865862282980375:=()
def tw542720687984096663:=()
def tw657220085961377924:=()
def tw12454815266655910219:=()
def tw18245938371303671387:=()
def tw13230896984346422626:=()
def tw2178635761449806389:=()
def tw7060424018895707874:=()
def tw1216299020748898627:=()
def tw13711416319181514179:=()
def tw8451967503641682394:=()
def tw12215532094480888730:=()
def tw17613175009940857259:=()
def tw1778620118900396203:=()
def tw14971553093362290183:=()
def tw10710697827415716483:=()
def tw14924196251122460920:=()
def tw17105453736024394973:=()
def tw17237142408587943540:=()
def tw12686809371801912741:=()
def tw3862398055761459613:=()
def tw3794456187994167594:=()
def tw12102621820096049318:=()
def tw2494571971687240051:=()
def tw13990780134812615659:=()
def tw9264112801021012630:=()
def tw9219317551796133736:=()
def tw17094853612734088290:=()
def tw2943238289130733347:=()
def tw10827352895423222913:=()
def tw4228311518964563394:=()
def tw4783921921255648113:=()
def tw845368961789771534:=()
def tw10176327525841914747:=()
def tw12434485355946322234:=()
def tw48066055646025503:=()
def tw11737326748718211478:=()
def tw4144904784268542512:=()
def tw1290876958455693267:=()
def tw11864188272344557102:=()
def tw9070117394258354569:=()
def tw14927134409430160459:=()
def tw2852193260327330681:=()
def tw14022719307713631751:=()
def tw6046877975247196720:=()
def tw17984440798333252522:=()
def tw16071572819541596902:=()
def tw6060702403884637204:=()
def tw8132769019722024438:=()
def tw2482443481617750371:=()
def tw14649006242275534164:=()
def tw1676424431535237813:=()
def tw11265436719028444966:=()
def tw10368578843736283620:=()
def tw4200467744234911363:=()
def tw16126430543471150902:=()
def tw15684597831825779069:=()
def tw12758027702158965926:=()
def tw17405737302849060764:=()
def tw5329841532293382316:=()
def tw13298671386705126597:=()
def tw12176490944467338077:=()
def tw6732839714081095886:=()
def tw16124030456500051344:=()
def tw5360675997765764796:=()
def tw15712575190937529074:=()
def tw14618372167178349687:=()
def tw1971774688804117606:=()
def tw6114227041050772041:=()
def tw613118259680901036:=()
def tw15622802972858685193:=()
def tw11020029059203495012:=()
def tw1774902092286937163:=()
def tw4714740778073969187:=()
def tw10828545903148401106:=()
def tw8850865381359842041:=()
def tw7998599118357586968:=()
def tw8993145822934217757:=()
def tw2960567724891846285:=()
def tw17007679355146435569:=()
def tw12443316658795036838:=()
def tw14066623764481720898:=()
def tw12588219000284407317:=()
def tw5204781316231408894:=()
def tw7178166708701529030:=()
def tw12363543655325516393:=()
def tw899940950056450276:=()
def tw4825401434902011104:=()
def tw1258302396839847884:=()
def tw18195017136861686257:=()
def tw7871403079856798921:=()
def tw7995676508528271417:=()
def tw9501233513429654192:=()
def tw10180082661249145774:=()
def tw1193609970232257287:=()
def tw16283789463156491286:=()
def tw626352118567887067:=()
def tw10345391283251339470:=()
def tw8301330275148389167:=()
def tw17182066929151571162:=()
def tw2886801056600436098:=()
def tw14648043705880061855:=()
def tw8875367783794461288:=()
def tw2025278520559270227:=()
def tw5244458176824875338:=()
def tw1420307670291415522:=()
def tw7759368093443100508:=()
def tw6466956101523351149:=()
def tw1525798920825368169:=()
def tw11334896001934445890:=()
def tw18274898994177594005:=()
def tw3002625178038673450:=()
def tw1997662844032140581:=()
def tw17397670928418033525:=()
def tw9503792085433940651:=()
def tw15952536052599450576:=()
def tw10805672237523617874:=()
def tw13423593334026354763:=()
def tw15611848062471364136:=()
def tw15573630637656951383:=()
def tw3611394112906308573:=()
def tw6871495855550965914:=()
def tw12758710856553877562:=()
def tw14213402528662547996:=()
def tw1395434054296884444:=()
def tw12621980475384917899:=()
def tw5622561447522187261:=()
def tw15609360298613577130:=()
def tw12126460933801615892:=()
def tw5495846144318087074:=()
def tw18307554117300279883:=()
def tw16908234297397772113:=()
def tw15775481124498077682:=()
def tw3913465199163550921:=()
def tw10669405373295001292:=()
def tw8822312151931157628:=()
def tw2814175039257939067:=()
def tw16219741897623056077:=()
def tw17437240917488594806:=()
def tw4850025220925938040:=()
def tw16558939833569839065:=()
def tw7873271898676712311:=()
def tw10237507625941127070:=()
def tw17845334092595915480:=()
def tw1566632118784695930:=()
def tw64694327065447:=()
def tw1022084772977020855:=()
def tw7163733211385379911:=()
def tw10793349755736372397:=()
def tw474922192208555461:=()
def tw845870395732372079:=()
def tw7300439050732869454:=()
def tw11371844220741134767:=()
def tw1303382473193773790:=()
def tw7914582556865425918:=()
def tw18041896121236576366:=()
def tw2896912927072540120:=()
def tw1080481451466965744:=()
def tw5272901891339518155:=()
def tw2776972751593342493:=()
def tw14716530572342750157:=()
def tw6667232053132641961:=()
def tw9430357509713708664:=()
def tw18228485009688950854:=()
def tw8961314661293702960:=()
theorem te6121410863182145046:True:=trivial
end PySem.W.Fast
open PySem PySem.W PyProof.Rows
set_option maxRecDepth 100000 in
set_option maxHeartbeats 0 in
theorem PySem.Challenge.cw_helmsum_k29_whole_either_or_holds : PySem.Challenge.rw_helmsum_k29_whole_either_or.Holds := by
 w_on;o_law;k_head;(case hw=>w_witness2)
 k_fill
 refine Lw.walk (l:=PySem.Challenge.rw_helmsum_k29_whole_either_or) rfl rfl (λw h Y=>PySem.W.kIn_of Y) ?F
 case F =>
  intro w mg fa h KX G hmg;refine' Lw.all_mk KX G hmg ?a0 ?l0 ?c0 ?k0 ?a1 ?l1 ?c1 ?k1 ?a2 ?l2 ?c2 ?k2 ?a3 ?l3 ?c3 ?k3 ?a4 ?l4 ?c4 ?k4 ?a5 ?l5 ?c5 ?k5 ?a6 ?l6 ?c6 ?k6 ?a7 ?l7 ?c7 ?k7 ?a8 ?l8 ?c8 ?k8 ?a9 ?l9 ?c9 ?k9 ?a10 ?l10 ?c10 ?k10 ?a11 ?l11 ?c11 ?k11 ?a12 ?l12 ?c12 ?k12 ?a13 ?l13 ?c13 ?k13 ?a14 ?l14 ?c14 ?k14 ?a15 ?l15 ?c15 ?k15 ?a16 ?l16 ?c16 ?k16 ?a17 ?l17 ?c17 ?k17 ?a18 ?l18 ?c18 ?k18 ?a19 ?l19 ?c19 ?k19 ?a20 ?l20 ?c20 ?k20 ?a21 ?l21 ?c21 ?k21 ?a22 ?l22 ?c22 ?k22 ?a23 ?l23 ?c23 ?k23 ?a24 ?l24 ?c24 ?k24 ?a25 ?l25 ?c25 ?k25 ?a26 ?l26 ?c26 ?k26 ?a27 ?l27 ?c27 ?k27 ?a28 ?l28 ?c28 ?k28 ?a29 ?l29 ?c29 ?k29 ?a30 ?l30 ?c30 ?k30 ?a31 ?l31 ?c31 ?k31 ?a32 ?l32 ?c32 ?k32 ?a33 ?l33 ?c33 ?k33 ?a34 ?l34 ?c34 ?k34 ?a35 ?l35 ?c35 ?k35 ?a36 ?l36 ?c36 ?k36 ?a37 ?l37 ?c37 ?k37 ?a38 ?l38 ?c38 ?k38 ?a39 ?l39 ?c39 ?k39 ?a40 ?l40 ?c40 ?k40 ?ca0 ?cl0 ?ca1 ?cl1 ?z_abs ?z_len ?z_min ?z_range ?z_zip ?z_list ?z_enumerate ?z_all
  all_goals try k_is