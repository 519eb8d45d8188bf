import PyProof.Rows.All
import Wide.All
import OpenK.AllK
import Wide.FinOn
import Lean
import PyProof.EqAt
import PyProof.EqKinds
import PyProof.TupleCall
import PyProof.NeKinds
import PySem.Challenge.RW_helmsum_k31_systems_refused
set_option Elab.async false
set_option linter.all false
set_option maxRecDepth 100000
namespace L2
open PySem PySem.Spec PyProof.Rows
abbrev Key:=Sum Int Str
def keyIs:Key->Value->Bool
 | .inl k,v=>Value.isInt k v
 | .inr x,v=>Value.isStrOf x v
def keyH (w:World):Key->Int
 | .inl k=>hashInt k
 | .inr x=>hashStr w x
theorem keyIs_shape:∀{k:Key} {v:Value},keyIs k v=true->(∃i t,k=Sum.inl i∧v=Value.int i t)∨(∃x t,k=Sum.inr x∧v=Value.str x t)
 | .inl i,v,h=>by
  obtain ⟨t,e⟩:=Value.isInt_shape (k:=i) (v:=v) h
  exact .inl ⟨i,t,rfl,e⟩
 | .inr x,v,h=>by
  obtain ⟨t,e⟩:=Value.isStrOf_shape (x:=x) (v:=v) h
  exact .inr ⟨x,t,rfl,e⟩
theorem key_ll (a b:Int):decide ((Sum.inl a:Key)=Sum.inl b)=(a == b):=by
 by_cases e:a=b
 ·subst e;simp
 ·have h:¬(Sum.inl a:Key)=Sum.inl b:=fun q=>e (Sum.inl.inj q)
  rw[decide_eq_false h]
  exact (beq_eq_false_iff_ne.mpr e).symm
theorem key_rr (a b:Str):decide ((Sum.inr a:Key)=Sum.inr b)=decide (a=b):=by
 by_cases e:a=b
 ·subst e;simp
 ·have h:¬(Sum.inr a:Key)=Sum.inr b:=fun q=>e (Sum.inr.inj q)
  rw[decide_eq_false h,decide_eq_false e]
theorem key_lr (a:Int) (b:Str):decide ((Sum.inl a:Key)=Sum.inr b)=false:=decide_eq_false (fun q=>nomatch q)
theorem key_rl (a:Str) (b:Int):decide ((Sum.inr a:Key)=Sum.inl b)=false:=decide_eq_false (fun q=>nomatch q)
def mixKind (prog:Program) (w:World):PySem.KeyKind prog w Key where
 is:=keyIs
 hash:=keyH w
 inj:=fun v a b ha hb=>by
  rcases keyIs_shape ha with ⟨i,t,rfl,rfl⟩ | ⟨x,t,rfl,rfl⟩
  ·rcases keyIs_shape hb with ⟨j,u,rfl,e⟩ | ⟨y,u,rfl,e⟩
   ·injection e with e1 _;rw[e1]
   ·exact nomatch e
  ·rcases keyIs_shape hb with ⟨j,u,rfl,e⟩ | ⟨y,u,rfl,e⟩
   ·exact nomatch e
   ·injection e with e1 _;rw[e1]
 byValue:=fun k v h=>by
  rcases keyIs_shape h with ⟨i,t,rfl,rfl⟩ | ⟨x,t,rfl,rfl⟩ <;> rfl
 pyHash:=fun hv h=>by
  rcases keyIs_shape hv with ⟨i,t,rfl,rfl⟩ | ⟨x,t,rfl,rfl⟩
  ·exact wpAny_pyHash_int h
  ·exact wpAny_pyHash_str h
 eqBool:=fun hu hv h=>by
  rcases keyIs_shape hu with ⟨i,t,rfl,rfl⟩ | ⟨x,t,rfl,rfl⟩
  ·rcases keyIs_shape hv with ⟨j,u,rfl,rfl⟩ | ⟨y,u,rfl,rfl⟩
   ·rw[key_ll] at h;exact wpAny_eqBool_int h
   ·rw[key_lr] at h;exact SeqAt.EqAt.int_str i t y u _ _ _ _ h
  ·rcases keyIs_shape hv with ⟨j,u,rfl,rfl⟩ | ⟨y,u,rfl,rfl⟩
   ·rw[key_rl] at h;exact SeqAt.EqAt.str_int x t j u _ _ _ _ h
   ·rw[key_rr] at h;exact wpAny_eqBool_str h
 «strs»:=fun k x t v h=>by
  rcases keyIs_shape h with ⟨i,u,rfl,e⟩ | ⟨y,u,rfl,e⟩
  ·exact nomatch e
  ·injection e with e1 _
   subst e1
   cases v <;> rfl
end L2
namespace L2
open PySem PySem.Spec PyProof.Rows
inductive V where
  | non | bl (b : Bool) | int (i : Int) | str (x : Str) | byt (b : Array UInt8) | flt (b : UInt64) | ref (a : Addr) | ty (n : String)
  deriving DecidableEq

def RelV:V->Value->Prop
 | .non,u=>u=Value.none
 | .bl b,u=>u=Value.bool b
 | .int i,u=>∃t,u=Value.int i t
 | .str x,u=>∃t,u=Value.str x t
 | .byt b,u=>∃t,u=Value.bytes b t
 | .flt b,u=>∃t,u=Value.float b t
 | .ref a,u=>u=Value.ref a
 | .ty n,u=>u=Value.type n
abbrev Vals:List V->List Value->Prop:=Paired RelV
theorem Vals.length {xs:List V} {us:List Value} (r:Vals xs us):xs.length=us.length:=Paired.length r
theorem Vals.get:∀{xs:List V} {us:List Value} {i:Nat} {x:V},Vals xs us->xs[i]?=some x->∃u,us[i]?=some u∧RelV x u
 | _,_,_,_,.nil,e=>by simp at e
 | _,_,0,_,.cons r _,e=>by simp at e;subst e;exact ⟨_,rfl,r⟩
 | _,_,i+1,x,.cons _ t,e=>by
  obtain ⟨u,h1,h2⟩:=Vals.get (i:=i) (x:=x) t (by simpa using e)
  exact ⟨u,by simpa using h1,h2⟩
theorem Vals.set {x:V} {u:Value} (r:RelV x u):∀{xs:List V} {us:List Value} (i:Nat),Vals xs us->Vals (xs.set i x) (us.set i u)
 | _,_,_,.nil=>.nil
 | _,_,0,.cons _ t=>.cons r t
 | _,_,i+1,.cons q t=>.cons q (Vals.set r i t)
theorem Vals.append:∀{xs ys:List V} {us ws:List Value},Vals xs us->Vals ys ws->Vals (xs++ys) (us++ws)
 | _,_,_,_,.nil,s=>s
 | _,_,_,_,.cons r t,s=>.cons r (Vals.append t s)
theorem Vals.take:∀{xs:List V} {us:List Value} (n:Nat),Vals xs us->Vals (xs.take n) (us.take n)
 | _,_,0,_=>.nil
 | _,_,_+1,.nil=>.nil
 | _,_,n+1,.cons r t=>.cons r (Vals.take n t)
theorem Vals.drop:∀{xs:List V} {us:List Value} (n:Nat),Vals xs us->Vals (xs.drop n) (us.drop n)
 | _,_,0,r=>r
 | _,_,_+1,.nil=>.nil
 | _,_,n+1,.cons _ t=>Vals.drop n t
theorem Vals.none_of:∀{xs:List V} {us:List Value} {i:Nat},Vals xs us->xs[i]?=none->us[i]?=none:=fun {xs us i} r e=>by
 have h1:=r.length
 have h2:xs.length<=i:=List.getElem?_eq_none_iff.mp e
 exact List.getElem?_eq_none_iff.mpr (by lia)
def RelO:Option V->Option Value->Prop
 | some v,some u=>RelV v u
 | none,none=>True
 | _,_=>False
def KV {κ:Type}:List (κ×V)->List (κ×Value)->Prop:=Paired fun (p:κ×V) (q:κ×Value)=>p.1=q.1∧RelV p.2 q.2
def kV:Key->V
 | .inl i=>.int i
 | .inr x=>.str x
inductive HO where
 | lst (xs:List V)
 | tup (xs:List V)
 | dK (kvs:List (Key×V)) | dT (kvs:List (List Key×V))
 | set (S:Int->Bool) (n:Nat)
 | ins (C dx:Addr) (fs:List (Str×V))
 | own (x:Addr)
 | xd (fs:List (Str×V))
 | met (f x:Addr)
 | rng (lo hi:Int)
 | frz (o:Obj) (u:HO)
 | tbl (ps:Array Value)
 | ext (φ:Heap->Prop)
abbrev Hp:=Addr->Option HO
def upd (H:Hp) (a:Addr) (o:HO):Hp:=fun b=>if b=a then some o else H b
theorem upd_same {H:Hp} {a:Addr} {o:HO}:upd H a o a=some o:=by unfold upd;rw[if_pos rfl]
theorem upd_ne {H:Hp} {a b:Addr} {o:HO} (h:b≠a):upd H a o b=H b:=by unfold upd;rw[if_neg h]
theorem ne_of_none {H:Hp} {a b:Addr} {o:HO} (h:H a=some o) (h':H b=none):a≠b:=by
 intro e;subst e;rw[h] at h';cases h'
section
variable (P:Program) (w:World)
def ObjOk (H:Hp) (h:Heap) (a:Addr):HO->Prop
 | .lst xs=>xs.length<=sizeLine∧∃(its:List Value) (n:Nat),Vals xs its∧h.get? a=some { cls:=.type "list",data:=.seq its.toArray n }
 | .tup xs=>xs.length<=sizeLine∧∃its:List Value,Vals xs its∧IsTup h a its.toArray
 | .dK kvs=>kvs.length<=sizeLine∧(a == sysModules)=false∧∃vs,KV kvs vs∧h.DictOf (mixKind P w) a vs
 | .dT kvs=>kvs.length<=sizeLine∧(a == sysModules)=false∧∃xs:List (List Key×Addr×Value),
   Paired (fun (p:List Key×V) (q:List Key×Addr×Value)=>p.1=q.1∧H q.2.1=some (.tup (p.1.map kV))∧RelV p.2 q.2.2) kvs xs ∧
   ∃o es ep,h.get? a=some o∧o.ExactDict∧o.data=.dict es ep∧es.toList=xs.map (entryOfKey (tupleKind (mixKind P w)))∧(xs.map (·.1)).Nodup
 | .set S n=>h.SetOf (intKind P w) a S n
 | .ins C dx fs=>H dx=some (.own a)∧fs.length<=1000∧dx≠a∧h.get? a=some (PySem.W.instObj C dx) ∧
   ∃mA,h.Ns1 dx mA∧(∀f,RelO (fs.lookup f) (mA f))∧PySem.Within mA (fs.map (·.1))
 | .own _=>∃o,h.get? a=some o
 | .xd fs=>∃mA,h.Ns1 a mA∧∀f,RelO (fs.lookup f) (mA f)
 | .rng lo hi=>∃t u v,h.get? a=some { cls:=.type "range",data:=.fields #[.int lo t,.int hi u,.int 1 v] }
 | .frz o u=>h.get? a=some o∧ObjOk H h a u
 | .tbl ps=>h.get? a=some { cls:=.none,data:=.fields ps }
 | .met f x=>h.get? a=some (PySem.W.methodObj (.ref f) (.ref x))
 | .ext φ=>φ h∧(∃o,h.get? a=some o)∧∀h1 h2:Heap,φ h1->(∀o,h1.get? a=some o->h2.get? a=some o)->φ h2
def HOk (H:Hp) (h:Heap):Prop:=∀a o,H a=some o->ObjOk P w H h a o
end
section
variable {P:Program} {w:World} {H H':Hp} {h h':Heap} {a:Addr} {o:HO}
theorem ObjOk.lt (x:ObjOk P w H h a o):a < h.objs.size:=by
 cases o with
 | lst xs=>obtain ⟨_,_,_,_,e⟩:=x;exact Heap.lt_size e
 | tup xs=>obtain ⟨_,_,_,p⟩:=x;exact p.lt
 | dK kvs=>obtain ⟨_,_,_,_,o,_,_,e,_⟩:=x;exact Heap.lt_size e
 | dT kvs=>obtain ⟨_,_,_,_,o,_,_,e,_⟩:=x;exact Heap.lt_size e
 | set S n=>obtain ⟨o,_,_,_,e,_⟩:=x;exact Heap.lt_size e
 | ins C dx fs=>obtain ⟨_,_,_,e,_⟩:=x;exact Heap.lt_size e
 | own y=>obtain ⟨_,e⟩:=x;exact Heap.lt_size e
 | xd fs=>obtain ⟨_,⟨_,_,_,e,_⟩,_⟩:=x;exact Heap.lt_size e
 | rng lo hi=>obtain ⟨_,_,_,e⟩:=x;exact Heap.lt_size e
 | frz ob u=>obtain ⟨e,_⟩:=x;exact Heap.lt_size e
 | tbl ps=>exact Heap.lt_size (show h.get? a=some _ from x)
 | met f y=>exact Heap.lt_size (show h.get? a=some _ from x)
 | ext φ=>obtain ⟨_,⟨_,e⟩,_⟩:=x;exact Heap.lt_size e
theorem Paired.mapP {α β:Type} {F G:α->β->Prop}:∀{l₁:List α} {l₂:List β},Paired F l₁ l₂->(∀a b,F a b->G a b)->Paired G l₁ l₂
 | _,_,.nil,_=>.nil
 | _,_,.cons r t,f=>.cons (f _ _ r) (Paired.mapP t f)
theorem Paired.imp' {α β:Type} {F G:α->β->Prop} (f:∀a b,F a b->G a b) {l₁:List α} {l₂:List β} (r:Paired F l₁ l₂):Paired G l₁ l₂:=Paired.mapP r f
theorem ObjOk.stay (x:ObjOk P w H h a o) (k:∀b u,(b=a∨H b=some (.own a))->h.get? b=some u->h'.get? b=some u)
  (ho:∀b,H b=some (.own a)->H' b=some (.own a)) (ht:∀b xs,H b=some (.tup xs)->H' b=some (.tup xs)):ObjOk P w H' h' a o:=by
 induction o with
 | lst xs=>obtain ⟨z,its,n,r,e⟩:=x;exact ⟨z,its,n,r,k _ _ (.inl rfl) e⟩
 | tup xs=>obtain ⟨z,its,r,ob,e,c⟩:=x;exact ⟨z,its,r,ob,k _ _ (.inl rfl) e,c⟩
 | dK kvs=>obtain ⟨z,y,vs,r,ob,es,ep,e,c⟩:=x;exact ⟨z,y,vs,r,ob,es,ep,k _ _ (.inl rfl) e,c⟩
 | dT kvs =>
  obtain ⟨z,y,xs,r,ob,es,ep,e,c⟩:=x
  exact ⟨z,y,xs,Paired.mapP r fun p q z=>⟨z.1,ht _ _ z.2.1,z.2.2⟩,ob,es,ep,k _ _ (.inl rfl) e,c⟩
 | set S n=>obtain ⟨ob,es,ep,t,e,c⟩:=x;exact ⟨ob,es,ep,t,k _ _ (.inl rfl) e,c⟩
 | ins C dx fs =>
  obtain ⟨d,z,ne,e,mA,⟨od,es,ep,e2,c⟩,r⟩:=x
  exact ⟨ho _ d,z,ne,k _ _ (.inl rfl) e,mA,⟨od,es,ep,k _ _ (.inr d) e2,c⟩,r⟩
 | own y=>obtain ⟨ob,e⟩:=x;exact ⟨ob,k _ _ (.inl rfl) e⟩
 | xd fs=>obtain ⟨mA,⟨od,es,ep,e,c⟩,r⟩:=x;exact ⟨mA,⟨od,es,ep,k _ _ (.inl rfl) e,c⟩,r⟩
 | rng lo hi=>obtain ⟨t,u,v,e⟩:=x;exact ⟨t,u,v,k _ _ (.inl rfl) e⟩
 | frz ob u ih=>obtain ⟨e,q⟩:=x;exact ⟨k _ _ (.inl rfl) e,ih q⟩
 | tbl ps =>
  have e:h.get? a=some { cls:=.none,data:=.fields ps }:=x
  show h'.get? a=some { cls:=.none,data:=.fields ps }
  exact k a _ (.inl rfl) e
 | met f y =>
  have e:h.get? a=some (PySem.W.methodObj (.ref f) (.ref y)):=x
  show h'.get? a=some (PySem.W.methodObj (.ref f) (.ref y))
  exact k a _ (.inl rfl) e
 | ext φ=>obtain ⟨p,⟨o,e⟩,st⟩:=x;exact ⟨st _ _ p fun o q=>k _ _ (.inl rfl) q,⟨o,k _ _ (.inl rfl) e⟩,st⟩
theorem HOk.lt (x:HOk P w H h) (e:H a=some o):a < h.objs.size:=(x a o e).lt
theorem HOk.fresh (x:HOk P w H h) (e:h.objs.size<=a):H a=none:=by
 cases q:H a with
 | none=>rfl
 | some u=>exact absurd (Nat.lt_of_lt_of_le (x.lt q) e) (Nat.lt_irrefl _)
theorem HOk.kept (x:HOk P w H h) (k:∀b u,h.get? b=some u->h'.get? b=some u):HOk P w H h':=fun a o e =>
 (x a o e).stay (fun b u _ q=>k b u q) (fun _ q=>q) fun _ _ q=>q
theorem HOk.laid (x:HOk P w H h) (k:∀b u,h.get? b=some u->h'.get? b=some u) (hp:h.objs.size<=a) (new:ObjOk P w (upd H a o) h' a o):HOk P w (upd H a o) h':=fun b u e=>by
 have hn:=x.fresh hp
 by_cases hb:b=a
 ·subst hb;rw[upd_same] at e;cases e;exact new
 ·rw[upd_ne hb] at e
  exact (x b u e).stay (fun c v _ q=>k c v q) (fun c q=>by rw[upd_ne (ne_of_none q hn)];exact q) fun c xs q=>by rw[upd_ne (ne_of_none q hn)];exact q
end
def Rd (H:Hp) (a:Addr) (u:HO):Prop:=H a=some u∨∃o,H a=some (.frz o u)
theorem Rd.of {H:Hp} {a:Addr} {u:HO} (h:H a=some u):Rd H a u:=.inl h
theorem Rd.ok {P:Program} {w:World} {H:Hp} {h:Heap} {a:Addr} {u:HO} (r:Rd H a u) (x:HOk P w H h):ObjOk P w H h a u:=by
 rcases r with r | ⟨o,r⟩
 ·exact x a u r
 ·obtain ⟨_,q⟩:=x a _ r
  exact q
def Mut:Option HO->Prop
 | some (.lst _)=>True
 | some (.dK _)=>True
 | some (.dT _)=>True
 | some (.set _ _)=>True
 | some (.ins _ _ _)=>True
 | some (.ext _)=>True
 | _=>False
section
variable {P:Program} {w:World} {H:Hp} {h h':Heap} {x e:Addr} {o':HO}
theorem HOk.write (ok:HOk P w H h) (mu:Mut (H x)) (he:e=x∨H e=some (.own x)) (k:∀b u,b≠e->h.get? b=some u->h'.get? b=some u) (heo:∃u,h'.get? e=some u)
  (new:ObjOk P w (upd H x o') h' x o'):HOk P w (upd H x o') h':=fun b u q=>by
 have nown:∀c y,H c=some (.own y)->c≠x:=fun c y r z=>by subst z;rw[r] at mu;exact mu
 have ntup:∀c xs,H c=some (.tup xs)->c≠x:=fun c xs r z=>by subst z;rw[r] at mu;exact mu
 by_cases hb:b=x
 ·subst hb;rw[upd_same] at q;cases q;exact new
 ·rw[upd_ne hb] at q
  by_cases hbe:b=e
  ·have q':H b=some (.own x):=by
    rcases he with z | z
    ·exact absurd (hbe.trans z) hb
    ·rw[hbe];exact z
   rw[q] at q';cases q'
   obtain ⟨v,hv⟩:=heo
   exact ⟨v,by rw[hbe];exact hv⟩
  ·refine (ok b u q).stay (fun c v hc r=>k c v ?_ r) (fun c r=>by rw[upd_ne (nown c b r)];exact r) fun c xs r=>by rw[upd_ne (ntup c xs r)];exact r
   rcases hc with rfl | hc
   ·exact hbe
   ·rintro rfl
    rcases he with z | z
    ·exact nown c b hc z
    ·rw[hc] at z;cases z;exact hb rfl
end
structure Un (fs ex:List Addr) (H H':Hp) (h h':Heap):Prop where
 keep:∀b o,h.get? b=some o->H b=none->b∉fs->b∉ex->h'.get? b=some o
 slot:∀b o,h.get? b=some o->H b=none->b∈fs->b∉ex->∃sl,h'.get? b=some { o with slots:=sl }
 free:∀b o,h.get? b=some o->H b=none->b∉ex->H' b=none
 there:∀b o,h.get? b=some o->b∉ex->∃o',h'.get? b=some o'
 tups:∀b xs,H b=some (.tup xs)->H' b=some (.tup xs)
 frzs:∀b o u,H b=some (.frz o u)->H' b=some (.frz o u)
 tbls:∀b ps,H b=some (.tbl ps)->∃more,H' b=some (.tbl (ps++more))
section
variable {fs fs' ex ex':List Addr} {H H1 H2:Hp} {h h1 h2 h':Heap} {a x e:Addr} {o:HO}
theorem Un.any (u:Un fs ex H H1 h h1) {b:Addr} {ob:Obj} (q:h.get? b=some ob) (n:H b=none) (hx:b∉ex):∃sl,h1.get? b=some { ob with slots:=sl }:=by
 by_cases hb:b∈fs
 ·exact u.slot b ob q n hb hx
 ·exact ⟨ob.slots,u.keep b ob q n hb hx⟩
theorem Un.trans (a:Un fs ex H H1 h h1) (b:Un fs ex H1 H2 h1 h2):Un fs ex H H2 h h2 where
 keep:=fun c ob q n hc hx=>b.keep c ob (a.keep c ob q n hc hx) (a.free c ob q n hx) hc hx
 slot:=fun c ob q n hc hx=>by
  obtain ⟨sl,e1⟩:=a.slot c ob q n hc hx
  obtain ⟨sl',e2⟩:=b.slot c _ e1 (a.free c ob q n hx) hc hx
  exact ⟨sl',e2⟩
 free:=fun c ob q n hx=>by
  obtain ⟨o',e1⟩:=a.there c ob q hx
  exact b.free c o' e1 (a.free c ob q n hx) hx
 there:=fun c ob q hx=>by
  obtain ⟨o',e1⟩:=a.there c ob q hx
  exact b.there c o' e1 hx
 tups:=fun c xs q=>b.tups c xs (a.tups c xs q)
 frzs:=fun c ob xs q=>b.frzs c ob xs (a.frzs c ob xs q)
 tbls:=fun c ps q=>by
  obtain ⟨m1,e1⟩:=a.tbls c ps q
  obtain ⟨m2,e2⟩:=b.tbls c _ e1
  exact ⟨m1++m2,by rw[e2,Array.append_assoc]⟩
theorem Un.kept (k:∀b u,h.get? b=some u->h'.get? b=some u):Un fs ex H H h h' :=
 ⟨fun b ob q _ _ _=>k b ob q,fun b ob q _ _ _=>⟨ob.slots,k b ob q⟩,fun _ _ _ n _=>n,fun b ob q _=>⟨ob,k b ob q⟩,fun _ _ q=>q,fun _ _ _ q=>q,fun _ ps q=>⟨#[],by rw[q];simp⟩⟩
theorem Un.refl:Un fs ex H H h h:=Un.kept fun _ _ q=>q
theorem Un.laid (k:∀b u,h.get? b=some u->h'.get? b=some u) (hp:h.objs.size<=a) (hn:H a=none):Un fs ex H (upd H a o) h h' where
 keep:=fun b u q _ _ _=>k b u q
 slot:=fun b u q _ _ _=>⟨u.slots,k b u q⟩
 free:=fun b u q n _=>by rw[upd_ne (Nat.ne_of_lt (Nat.lt_of_lt_of_le (Heap.lt_size q) hp))];exact n
 there:=fun b u q _=>⟨u,k b u q⟩
 tups:=fun b xs q=>by rw[upd_ne (ne_of_none q hn)];exact q
 frzs:=fun b u xs q=>by rw[upd_ne (ne_of_none q hn)];exact q
 tbls:=fun b ps q=>⟨#[],by rw[upd_ne (ne_of_none q hn),q];simp⟩
theorem Un.write (mu:Mut (H x)) (he:e=x∨H e=some (.own x)) (k:∀b u,b≠e->h.get? b=some u->h'.get? b=some u) (heo:∃u,h'.get? e=some u):Un fs ex H (upd H x o) h h':=by
 have hx:∀b,H b=none->b≠x:=fun b n z=>by subst z;rw[n] at mu;exact mu
 have hb:∀b,H b=none->b≠e:=fun b n z=>by
  subst z
  rcases he with r | r
  ·exact hx b n r
  ·rw[n] at r;cases r
 have hm:∀b u,H b=some u->¬Mut (some u)->b≠x:=fun b u q nm z=>by subst z;rw[q] at mu;exact nm mu
 refine ⟨fun b u q n _ _=>k b u (hb b n) q,fun b u q n _ _=>⟨u.slots,k b u (hb b n) q⟩,fun b u q n _=>by rw[upd_ne (hx b n)];exact n,fun b u q _=>?_,
  fun b xs q=>by rw[upd_ne (hm b _ q fun z=>z)];exact q,fun b u xs q=>by rw[upd_ne (hm b _ q fun z=>z)];exact q,fun b ps q=>⟨#[],by rw[upd_ne (hm b _ q fun z=>z),q];simp⟩⟩
 by_cases hbe:b=e
 ·subst hbe;exact heo
 ·exact ⟨u,k b u hbe q⟩
theorem Un.mono (u:Un fs ex H H1 h h1) (hs:∀b∈fs,b∈fs') (hx:∀b∈ex,b∈ex'):Un fs' ex' H H1 h h1 :=
 ⟨fun b ob q n hb he=>u.keep b ob q n (fun z=>hb (hs b z)) fun z=>he (hx b z),fun _ _ q n _ he=>u.any q n fun z=>he (hx _ z),fun b ob q n he=>u.free b ob q n fun z=>he (hx b z),fun b ob q he=>u.there b ob q fun z=>he (hx b z),u.tups,u.frzs,u.tbls⟩
end
def trk (h:Heap) (H:Hp):List Addr:=(List.range h.objs.size).filter fun a=>(H a).isSome
def hidT (h:Heap) (H:Hp):Heap:=PySem.W.hideAll h (trk h H)
theorem hidT_size (h:Heap) (H:Hp):(hidT h H).objs.size=h.objs.size:=PySem.W.hideAll_size _ _
theorem hidT_get {h:Heap} {H:Hp} {b:Addr} {o:Obj} (e:h.get? b=some o) (n:H b=none):(hidT h H).get? b=some o :=
 PySem.W.hideAll_get _ e fun hm=>by
  have q:(H b).isSome=true:=(List.mem_filter.mp hm).2
  rw[n] at q;simp at q
theorem of_hidT {h:Heap} {H:Hp} {b:Addr} {o:Obj} (e:(hidT h H).get? b=some o):h.get? b=some o∧H b=none:=by
 have e':h.get? b=some o:=PySem.W.of_hideAll (trk h H) e
 refine ⟨e',?_⟩
 cases q:H b with
 | none=>rfl
 | some x =>
  have hm:b∈trk h H:=List.mem_filter.mpr ⟨List.mem_range.mpr (Heap.lt_size e'),by simp [q]⟩
  have z:(hidT h H).get? b=none:=PySem.W.hideAll_none (trk h H) hm
  rw[z] at e;cases e
def allNews (g h:Heap) (L:Addr):List (Addr×Obj):=(List.range h.objs.size).filterMap fun a=>if a=L∨(g.get? a).isSome=true then none else (h.get? a).map fun o=>(a,o)
def rest (g h:Heap) (L d:Addr):List (Addr×Obj):=(allNews g h L).filter fun p=>decide (p.1≠d)
end L2
namespace L2
open PySem PySem.Spec PyProof.Rows
structure Mod (K:PySem.W.Frag) (mg:Str->Option Value) (base:Heap):Prop where
 kin:K.In base
 glob:base.Ns mainGlobals mg
 blt:∃mb,base.Ns builtinsNs mb∧∀x:Str,x≠"__name__"->mb x=bootBuiltins x
 nolimit:base.NoLimit
 sysm:∃mm,base.Ns sysModules mm
structure Cx where
 prog:Program
 w:World
 K:PySem.W.Frag
 mg:Str->Option Value
 base:Heap
 A:Around
 N:List Str
 s₀:Shared
 H₀:Hp
 env:Env
 outer:List Env
 stack:List Env
 ex:List Addr
 fn:Str->Bool
 calm:Bool
 pn:List (Addr×Obj)
 xe:Value->Shared->Prop
def frs (l:List Env):List Addr:=l.filterMap (·.frame)
abbrev Cx.fs (X:Cx):List Addr:=frs X.outer
def Vis (sc:Scope) (x:Str):Prop:=sc.names.lookup x=some .local∨sc.names.lookup x=some .cell∨sc.names.lookup x=some .free
def Loc (sc:Scope) (x:Str):Prop:=sc.names.lookup x=some .local∨sc.names.lookup x=some .cell
def Look (env:Env) (h:Heap) (m:Str->Option Value) (x:Str) (u:Value):Prop :=
 (env.kindOf x=some .local∧m x=some u)∨((env.kindOf x=some .cell∨env.kindOf x=some .free)∧∃c,env.cells.lookup x=some c∧h.IsCell c (some u))
structure Cx.Ok (X:Cx):Prop where
 mod:Mod X.K X.mg X.base
 kind:X.env.scope.kind=.function
 glob:X.env.globals=mainGlobals
 blt:X.env.builtins=builtinsNs
 above:X.s₀.heap.objs.size<=X.env.locals
 inj:∀x y c,X.env.cells.lookup x=some c->X.env.cells.lookup y=some c->x=y
 has:∀x,(X.env.kindOf x=some .cell∨X.env.kindOf x=some .free)->∃c,X.env.cells.lookup x=some c
 cab:∀x c,X.fn x=true->X.env.cells.lookup x=some c->X.s₀.heap.objs.size<=c
 hd:X.calm=true->X.A.handled=none
 frames:X.A.frames=some X.stack
 stk:X.stack=X.outer∨(X.stack=X.env :: X.outer∧X.env.frame=some X.env.locals)
 exf:∀b∈X.ex,b≠X.env.locals∧∀x c,X.env.cells.lookup x=some c->c≠b
 bs:∀b o,X.base.get? b=some o->X.s₀.heap.get? b=some o∧X.H₀ b=none
 bsz:X.base.objs.size<=X.s₀.heap.objs.size
 noex:∀b o,X.base.get? b=some o->b∉X.ex
 exfs:∀b∈X.ex,b∉X.fs
 funs:X.s₀.heap.FunFrames X.base X.outer
 frf:∀b∈X.fs,X.H₀ b=none
structure Inv (X:Cx) (pins:List (Addr×Obj)) (σ:List (Option V)) (H:Hp) (s:Shared):Prop where
 ok:X.Ok
 os:s.os=X.s₀.os
 bare:AllBare s.gens
 base:Un X.fs X.ex X.H₀ H X.s₀.heap s.heap
 loc:∃m,s.heap.Ns X.env.locals m∧∀(i:Nat) (x:Str) (v:V),X.N[i]?=some x->σ[i]?=some (some v)->Vis X.env.scope x->∃u,RelV v u∧Look X.env s.heap m x u
 cell:∀x c,X.env.cells.lookup x=some c->∃v,s.heap.IsCell c v
 free:H X.env.locals=none
 freeC:∀x c,X.env.cells.lookup x=some c->H c=none
 pin:∀p∈X.pn++pins,s.heap.get? p.1=some p.2∧H p.1=none∧p.1≠X.env.locals∧p.1∉X.fs∧∀v,p.2.data≠.cell v
 hok:HOk X.prog X.w H s.heap
 len:σ.length=X.N.length
section
variable {X:Cx} {pins:List (Addr×Obj)} {σ:List (Option V)} {H H':Hp} {s:Shared} {h':Heap}
theorem Cx.Ok.nofr (ok:X.Ok) {b:Addr} {o:Obj} (e:X.base.get? b=some o):b∉X.fs:=fun hb=>by
 have:=(ok.funs.mem hb).1
 rw[e] at this;cases this
theorem Inv.bs (I:Inv X pins σ H s):∀b o,X.base.get? b=some o->s.heap.get? b=some o∧H b=none:=fun b o e =>
 ⟨I.base.keep b o (I.ok.bs b o e).1 (I.ok.bs b o e).2 (I.ok.nofr e) (I.ok.noex b o e),I.base.free b o (I.ok.bs b o e).1 (I.ok.bs b o e).2 (I.ok.noex b o e)⟩
theorem Inv.bk (I:Inv X pins σ H s):∀b o,X.base.get? b=some o->s.heap.get? b=some o:=fun b o e=>(I.bs b o e).1
theorem Inv.mod (I:Inv X pins σ H s):Mod X.K X.mg X.base:=I.ok.mod
theorem Inv.kIn (I:Inv X pins σ H s):X.K.In s.heap:=I.ok.mod.kin.keeps I.bk
theorem Inv.nolimit (I:Inv X pins σ H s):s.heap.NoLimit:=I.ok.mod.nolimit.keeps I.bk
theorem Inv.fr (I:Inv X pins σ H s):∃m,Fr X.base X.env.locals s.heap m :=
 let ⟨m,hn,_⟩:=I.loc
 ⟨m,hn,I.bk,Nat.le_trans I.ok.bsz I.ok.above⟩
theorem Inv.lt (I:Inv X pins σ H s):X.env.locals < s.heap.objs.size:=let ⟨_,hn,_⟩:=I.loc;hn.lt
theorem Inv.sz (I:Inv X pins σ H s):X.s₀.heap.objs.size<=s.heap.objs.size:=Nat.le_trans I.ok.above (Nat.le_of_lt I.lt)
theorem Inv.nofs (I:Inv X pins σ H s) {a:Addr} (h:s.heap.objs.size<=a):a∉X.fs:=fun hb=>by
 obtain ⟨_,o,ho,_⟩:=I.ok.funs.mem hb
 exact absurd (Nat.lt_of_lt_of_le (Heap.lt_size ho) (Nat.le_trans I.sz h)) (Nat.lt_irrefl _)
theorem Inv.cne (I:Inv X pins σ H s):∀x c,X.env.cells.lookup x=some c->c≠X.env.locals:=fun x c e z=>by
 obtain ⟨v,o,ho,hd⟩:=I.cell x c e
 obtain ⟨m,⟨o',es,ep,ho',hd',_⟩,_⟩:=I.loc
 rw[z,ho'] at ho;cases ho;rw[hd'] at hd;cases hd
theorem Inv.funs (I:Inv X pins σ H s):s.heap.FunFrames X.base X.outer:=by
 have all:∀(l:List Env),(∀b∈frs l,b∈X.fs)->X.s₀.heap.FunFrames X.base l->s.heap.FunFrames X.base l:=by
  intro l
  induction l with
  | nil=>intro _ _;trivial
  | cons env r ih =>
   intro hs hl
   obtain ⟨hk,⟨L,o,hf,hn,ho,hd⟩,hr⟩:=hl
   have hL:L∈X.fs:=hs L (by unfold frs;rw[List.filterMap_cons,hf];exact List.mem_cons_self)
   obtain ⟨sl,e⟩:=I.base.slot L o ho (I.ok.frf L hL) hL fun z=>I.ok.exfs L z hL
   exact ⟨hk,⟨L,_,hf,hn,e,hd⟩,ih (fun b hb=>hs b (by unfold frs;rw[List.filterMap_cons,hf];exact List.mem_cons_of_mem _ hb)) hr⟩
 exact all X.outer (fun _ hb=>hb) I.ok.funs
theorem Inv.stack (I:Inv X pins σ H s):s.heap.FunFrames X.base X.stack:=by
 rcases I.ok.stk with e | ⟨e,hf⟩
 ·rw[e];exact I.funs
 ·rw[e]
  obtain ⟨m,hn,_⟩:=I.loc
  refine .cons (by rw[I.ok.kind];decide) hf hn ?_ I.funs
  exact Heap.get?_none_of_le (Nat.le_trans I.ok.bsz I.ok.above)
theorem Inv.stkSub (I:Inv X pins σ H s):∀b∈frs X.stack,b∈X.env.locals :: X.fs:=fun b hb=>by
 rcases I.ok.stk with e | ⟨e,hf⟩
 ·rw[e] at hb;exact List.mem_cons_of_mem _ hb
 ·rw[e] at hb
  unfold frs at hb
  rw[List.filterMap_cons,hf] at hb
  exact hb
theorem Inv.stkFree (I:Inv X pins σ H s):∀b∈frs X.stack,H b=none:=fun b hb=>by
 rcases List.mem_cons.mp (I.stkSub b hb) with e | hb
 ·rw[e];exact I.free
 ·obtain ⟨_,o,ho,_⟩:=I.ok.funs.mem hb
  exact I.base.free b o ho (I.ok.frf b hb) fun z=>I.ok.exfs b z hb
theorem Inv.step {g':Array GenState} {t':Nat} {d':Drawn} {ch:List Addr} (I:Inv X pins σ H s)
  (hch:∀b∈ch,(b∈X.ex∨X.s₀.heap.objs.size<=b)∧b≠X.env.locals∧(∀x c,X.env.cells.lookup x=some c->c≠b)∧∀p∈X.pn++pins,p.1≠b)
  (keep:∀b o,b≠X.env.locals->b∉X.fs->b∉ch->s.heap.get? b=some o->H b=none->h'.get? b=some o)
  (slot:∀b o,b≠X.env.locals->b∈X.fs->b∉ch->s.heap.get? b=some o->H b=none->∃sl,h'.get? b=some { o with slots:=sl }) (free:∀b o,b∉ch->s.heap.get? b=some o->H b=none->H' b=none)
  (there:∀b o,b∉ch->s.heap.get? b=some o->∃o',h'.get? b=some o')
  (tups:∀b xs,H b=some (.tup xs)->H' b=some (.tup xs)) (frzs:∀b o u,H b=some (.frz o u)->H' b=some (.frz o u)) (tbls:∀b ps,H b=some (.tbl ps)->∃more,H' b=some (.tbl (ps++more)))
  (ns:∀m,s.heap.Ns X.env.locals m->h'.Ns X.env.locals m) (hok:HOk X.prog X.w H' h') (hg:AllBare g') :
  Inv X pins σ H' { s with heap:=h',gens:=g',drawn:=d',toks:=t' }:=by
 have neL:∀b o,X.s₀.heap.get? b=some o->b≠X.env.locals:=fun b o e=>Nat.ne_of_lt (Nat.lt_of_lt_of_le (Heap.lt_size e) I.ok.above)
 have neC:∀b o,X.s₀.heap.get? b=some o->b∉X.ex->b∉ch:=fun b o e hx hb=>by
  rcases (hch b hb).1 with z | z
  ·exact hx z
  ·exact absurd (Nat.lt_of_lt_of_le (Heap.lt_size e) z) (Nat.lt_irrefl _)
 have cellK:∀x c,X.env.cells.lookup x=some c->∀v,s.heap.IsCell c v->h'.IsCell c v:=fun x c e v ⟨o,ho,hd⟩=>by
  have nch:c∉ch:=fun z=>(hch c z).2.2.1 x c e rfl
  by_cases hc:c∈X.fs
  ·obtain ⟨sl,q⟩:=slot c o (I.cne x c e) hc nch ho (I.freeC x c e)
   exact ⟨_,q,hd⟩
  ·exact ⟨o,keep c o (I.cne x c e) hc nch ho (I.freeC x c e),hd⟩
 refine ⟨I.ok,I.os,hg,⟨fun b o e n hb hx=>?_,fun b o e n hb hx=>?_,fun b o e n hx=>?_,fun b o e hx=>?_,fun b xs e=>tups b xs (I.base.tups b xs e),fun b o xs e=>frzs b o xs (I.base.frzs b o xs e),fun b ps e=>?_⟩,?_,fun x c e=>?_,?_,fun x c e=>?_,fun p hp=>?_,hok,I.len⟩
 ·exact keep b o (neL b o e) hb (neC b o e hx) (I.base.keep b o e n hb hx) (I.base.free b o e n hx)
 ·obtain ⟨sl,e1⟩:=I.base.slot b o e n hb hx
  obtain ⟨sl',e2⟩:=slot b _ (neL b o e) hb (neC b o e hx) e1 (I.base.free b o e n hx)
  exact ⟨sl',e2⟩
 ·obtain ⟨o',e1⟩:=I.base.there b o e hx
  exact free b o' (neC b o e hx) e1 (I.base.free b o e n hx)
 ·obtain ⟨o',e1⟩:=I.base.there b o e hx
  exact there b o' (neC b o e hx) e1
 ·obtain ⟨m1,e1⟩:=I.base.tbls b ps e
  obtain ⟨m2,e2⟩:=tbls b _ e1
  exact ⟨m1++m2,by rw[e2,Array.append_assoc]⟩
 ·obtain ⟨m,hn,hl⟩:=I.loc
  refine ⟨m,ns m hn,fun i x v e1 e2 e3=>?_⟩
  obtain ⟨u,r,l⟩:=hl i x v e1 e2 e3
  refine ⟨u,r,?_⟩
  rcases l with l | ⟨k,c,e,z⟩
  ·exact .inl l
  ·exact .inr ⟨k,c,e,cellK x c e _ z⟩
 ·obtain ⟨v,z⟩:=I.cell x c e
  exact ⟨v,cellK x c e v z⟩
 ·obtain ⟨m,⟨o,_,_,ho,_⟩,_⟩:=I.loc
  exact free _ o (fun z=>(hch _ z).2.1 rfl) ho I.free
 ·obtain ⟨v,o,ho,hd⟩:=I.cell x c e
  exact free c o (fun z=>(hch c z).2.2.1 x c e rfl) ho (I.freeC x c e)
 ·obtain ⟨e,n,ne,nf,d⟩:=I.pin p hp
  have nch:p.1∉ch:=fun z=>(hch p.1 z).2.2.2 p hp rfl
  exact ⟨keep p.1 p.2 ne nf nch e n,free p.1 p.2 nch e n,ne,nf,d⟩
theorem Inv.un {t':Nat} (I:Inv X pins σ H s) (u:Un X.fs [] H H' s.heap h') (hok:HOk X.prog X.w H' h'):Inv X pins σ H' { s with heap:=h',toks:=t' }:=by
 obtain ⟨m,⟨o,es,ep,ho,r⟩,_⟩:=id I.loc
 obtain ⟨sl,hL⟩:=u.any ho I.free (by simp)
 exact I.step (g':=s.gens) (d':=s.drawn) (ch:=[]) (fun _ z=>nomatch z) (fun b o _ hb _ e n=>u.keep b o e n hb (by simp)) (fun b o _ hb _ e n=>u.slot b o e n hb (by simp)) (fun b o _ e n=>u.free b o e n (by simp)) (fun b o _ e=>u.there b o e (by simp)) u.tups u.frzs u.tbls (fun m' hm=>by
  obtain ⟨o',es',ep',ho',r'⟩:=hm
  rw[ho] at ho';cases ho'
  exact ⟨_,es',ep',hL,r'⟩) hok I.bare
theorem Inv.call {g':Array GenState} {t':Nat} {d':Drawn} {ch:List Addr} (I:Inv X pins σ H s) (u:Un (frs X.stack) ch H H' s.heap h') (hok:HOk X.prog X.w H' h') (hg:AllBare g')
  (hch:∀b∈ch,(b∈X.ex∨X.s₀.heap.objs.size<=b)∧b≠X.env.locals∧(∀x c,X.env.cells.lookup x=some c->c≠b)∧∀p∈X.pn++pins,p.1≠b) :
  Inv X pins σ H' { s with heap:=h',gens:=g',drawn:=d',toks:=t' }:=by
 obtain ⟨m,⟨o,es,ep,ho,r⟩,_⟩:=id I.loc
 obtain ⟨sl,hL⟩:=u.any ho I.free fun z=>(hch _ z).2.1 rfl
 exact I.step (ch:=ch) hch (fun b o hL hb hc e n=>u.keep b o e n (fun z=>(List.mem_cons.mp (I.stkSub b z)).elim hL hb) hc) (fun b o _ _ hc e n=>u.any e n hc) (fun b o hc e n=>u.free b o e n hc) (fun b o hc e=>u.there b o e hc) u.tups u.frzs u.tbls (fun m' hm=>by
  obtain ⟨o',es',ep',ho',r'⟩:=hm
  rw[ho] at ho';cases ho'
  exact ⟨_,es',ep',hL,r'⟩) hok hg
theorem Inv.turned {t':Nat} {it:Addr} (I:Inv X pins σ H s) (k:∀b o,b≠it->s.heap.get? b=some o->h'.get? b=some o) (hn:H it=none) (hL:it≠X.env.locals)
  (h1:it∈X.ex∨X.s₀.heap.objs.size<=it) (h2:∀x c,X.env.cells.lookup x=some c->c≠it) (h3:∀p∈X.pn++pins,p.1≠it):Inv X pins σ H { s with heap:=h',toks:=t' }:=by
 have nit:∀b u,H b=some u->b≠it:=fun b u e z=>by rw[z,hn] at e;cases e
 refine I.step (g':=s.gens) (d':=s.drawn) (ch:=[it]) (fun b hb=>?_) (fun b o _ _ hc e _=>k b o (fun z=>hc (by simp [z])) e) (fun b o _ _ hc e _=>⟨o.slots,k b o (fun z=>hc (by simp [z])) e⟩) (fun _ _ _ _ n=>n)
  (fun b o hc e=>⟨o,k b o (fun z=>hc (by simp [z])) e⟩) (fun _ _ e=>e) (fun _ _ _ e=>e) (fun b ps e=>⟨#[],by rw[e];simp⟩) (fun m hm=>?_) (fun b u e=>?_) I.bare
 ·have e:b=it:=by simpa using hb
  subst e
  exact ⟨h1,hL,h2,h3⟩
 ·obtain ⟨o,es,ep,ho,r⟩:=hm
  exact ⟨o,es,ep,k _ o (Ne.symm hL) ho,r⟩
 ·refine (I.hok b u e).stay (fun c v hc q=>k c v ?_ q) (fun _ q=>q) fun _ _ q=>q
  rcases hc with z | z
  ·rw[z];exact nit b u e
  ·exact nit c _ z
theorem Inv.tok (I:Inv X pins σ H s) (t:Nat):Inv X pins σ H { s with toks:=t }:=I.un (h':=s.heap) (t':=t) Un.refl I.hok
theorem Inv.kept {t':Nat} (I:Inv X pins σ H s) (k:∀b u,s.heap.get? b=some u->h'.get? b=some u):Inv X pins σ H { s with heap:=h',toks:=t' }:=I.un (Un.kept k) (I.hok.kept k)
theorem Inv.laid {a:Addr} {o:HO} {t':Nat} (I:Inv X pins σ H s) (k:∀b u,s.heap.get? b=some u->h'.get? b=some u) (hp:s.heap.objs.size<=a) (new:ObjOk X.prog X.w (upd H a o) h' a o) :
  Inv X pins σ (upd H a o) { s with heap:=h',toks:=t' }:=I.un (Un.laid k hp (I.hok.fresh hp)) (I.hok.laid k hp new)
theorem Inv.write {x e:Addr} {o:HO} {t':Nat} (I:Inv X pins σ H s) (mu:Mut (H x)) (he:e=x∨H e=some (.own x)) (k:∀b u,b≠e->s.heap.get? b=some u->h'.get? b=some u) (heo:∃u,h'.get? e=some u)
  (new:ObjOk X.prog X.w (upd H x o) h' x o):Inv X pins σ (upd H x o) { s with heap:=h',toks:=t' }:=I.un (Un.write mu he k heo) (I.hok.write mu he k heo new)
theorem Inv.weak {σ':List (Option V)} (I:Inv X pins σ H s) (hl:σ'.length=σ.length) (w:∀(i:Nat) v,σ'[i]?=some (some v)->σ[i]?=some (some v)):Inv X pins σ' H s :=
 ⟨I.ok,I.os,I.bare,I.base,let ⟨m,hn,hl'⟩:=I.loc;⟨m,hn,fun i x v e1 e2 e3=>hl' i x v e1 (w i v e2) e3⟩,I.cell,I.free,I.freeC,I.pin,I.hok,hl.trans I.len⟩
theorem Inv.pins_of {pins':List (Addr×Obj)} (I:Inv X pins σ H s) (h:∀p∈pins',s.heap.get? p.1=some p.2∧H p.1=none∧p.1≠X.env.locals∧p.1∉X.fs∧∀v,p.2.data≠.cell v):Inv X pins' σ H s :=
 ⟨I.ok,I.os,I.bare,I.base,I.loc,I.cell,I.free,I.freeC,fun p hp=>(List.mem_append.mp hp).elim (fun z=>I.pin p (List.mem_append_left _ z)) (h p),I.hok,I.len⟩
theorem nodup_ix {N:List Str} (hN:N.Nodup) {i j:Nat} {x:Str} (a:N[i]?=some x) (b:N[j]?=some x):i=j:=by
 obtain ⟨h1,e1⟩:=List.getElem?_eq_some_iff.mp a
 obtain ⟨h2,e2⟩:=List.getElem?_eq_some_iff.mp b
 exact (List.getElem_inj hN).mp (e1.trans e2.symm)
theorem store_ok2 {M:Model} {A:Around} {E:Value->Shared->Prop} {i:Nat} {x:Str} {v:V} {u:Value} {Q:Unit->Shared->Prop} (I:Inv X pins σ H s) (hN:X.N.Nodup) (hi:X.N[i]?=some x) (hx:Loc X.env.scope x) (r:RelV v u)
  (h:∀s',Inv X pins (σ.set i (some v)) H s'->(∃a,Heap.SameBut a s.heap s'.heap∧(a=X.env.locals∨X.env.cells.lookup x=some a))->Q () s') (hf:X.fn x=true∨X.env.scope.names.lookup x=some .local:=by first | exact .inl rfl | exact .inr rfl | assumption):wpAny M A (storeName X.env x u) Q E s:=by
 obtain ⟨m,hn,hl⟩:=id I.loc
 have hcls:(X.env.scope.kind == .class || (X.env.scope.kind == .module && X.env.locals != X.env.globals))=false:=by rw[I.ok.kind];rfl
 have hiσ:i < σ.length:=by rw[I.len];exact (List.getElem?_eq_some_iff.mp hi).1
 have cne:=I.cne
 have tracked:∀{a:Addr} {h':Heap},(∃o,s.heap.get? a=some o∧H a=none)->Heap.SameBut a s.heap h'->HOk X.prog X.w H h':=fun {a h'} ha hs b ob e=>by
  obtain ⟨_,_,hfree⟩:=ha
  refine (I.hok b ob e).stay (fun c w' hc q=>(hs.2 c ?_).trans q) (fun _ q=>q) fun _ _ q=>q
  rintro rfl
  rcases hc with rfl | hc
  ·rw[hfree] at e;cases e
  ·rw[hfree] at hc;cases hc
 rcases hx with hk | hk
 ·refine wpAny_storeName_local hk hn (fun h' hn' hs=>?_) hcls
  obtain ⟨oL,_,_,hoL,_⟩:=id hn
  refine h _ ⟨I.ok,I.os,I.bare,⟨fun b o e n hb hx=>?_,fun b o e n hb hx=>?_,I.base.free,fun b o e hx=>?_,I.base.tups,I.base.frzs,I.base.tbls⟩,⟨_,hn',fun j y v' e1 e2 e3=>?_⟩,fun y c e=>?_,I.free,I.freeC,fun p hp=>?_,tracked ⟨oL,hoL,I.free⟩ hs,by simpa using I.len⟩ ⟨_,hs,.inl rfl⟩
  ·exact (hs.2 b (Nat.ne_of_lt (Nat.lt_of_lt_of_le (Heap.lt_size e) I.ok.above))).trans (I.base.keep b o e n hb hx)
  ·obtain ⟨sl,e1⟩:=I.base.slot b o e n hb hx
   exact ⟨sl,(hs.2 b (Nat.ne_of_lt (Nat.lt_of_lt_of_le (Heap.lt_size e) I.ok.above))).trans e1⟩
  ·obtain ⟨o',e1⟩:=I.base.there b o e hx
   exact ⟨o',(hs.2 b (Nat.ne_of_lt (Nat.lt_of_lt_of_le (Heap.lt_size e) I.ok.above))).trans e1⟩
  ·by_cases hj:j=i
   ·subst hj
    rw[hi] at e1;cases e1
    rw[List.getElem?_set_self hiσ] at e2
    cases e2
    exact ⟨u,r,.inl ⟨hk,by simp⟩⟩
   ·rw[List.getElem?_set_ne (Ne.symm hj)] at e2
    obtain ⟨u',r',q⟩:=hl j y v' e1 e2 e3
    refine ⟨u',r',?_⟩
    rcases q with ⟨k,e⟩ | ⟨k,c,e,z⟩
    ·refine .inl ⟨k,?_⟩
     have:y≠x:=fun e=>hj (nodup_ix hN e1 (e ▸ hi))
     simp [this,e]
    ·exact .inr ⟨k,c,e,z.sameBut hs (cne y c e)⟩
  ·obtain ⟨w',z⟩:=I.cell y c e
   exact ⟨w',z.sameBut hs (cne y c e)⟩
  ·obtain ⟨e,n,ne,nf,d⟩:=I.pin p hp
   exact ⟨(hs.2 p.1 ne).trans e,n,ne,nf,d⟩
 ·have hfn:X.fn x=true:=by
   rcases hf with z | z
   ·exact z
   ·rw[z] at hk;cases hk
  obtain ⟨c,hc⟩:=I.ok.has x (.inl hk)
  obtain ⟨w',z⟩:=I.cell x c hc
  refine wpAny_storeName_cell I.ok.kind hk hc z (fun h' hc' hs=>?_)
  obtain ⟨oc,hoc,hocd⟩:=id z
  refine h { s with heap:=h' } ⟨I.ok,I.os,I.bare,⟨fun b o e n hb hx=>?_,fun b o e n hb hx=>?_,I.base.free,fun b o e hx=>?_,I.base.tups,I.base.frzs,I.base.tbls⟩,⟨m,hn.sameBut hs (Ne.symm (cne x c hc)),fun j y v' e1 e2 e3=>?_⟩,fun y c' e=>?_,I.free,I.freeC,fun p hp=>?_,tracked ⟨oc,hoc,I.freeC x c hc⟩ hs,by simpa using I.len⟩ ⟨c,hs,.inr hc⟩
  ·exact (hs.2 b (Nat.ne_of_lt (Nat.lt_of_lt_of_le (Heap.lt_size e) (I.ok.cab x c hfn hc)))).trans (I.base.keep b o e n hb hx)
  ·obtain ⟨sl,e1⟩:=I.base.slot b o e n hb hx
   exact ⟨sl,(hs.2 b (Nat.ne_of_lt (Nat.lt_of_lt_of_le (Heap.lt_size e) (I.ok.cab x c hfn hc)))).trans e1⟩
  ·obtain ⟨o',e1⟩:=I.base.there b o e hx
   exact ⟨o',(hs.2 b (Nat.ne_of_lt (Nat.lt_of_lt_of_le (Heap.lt_size e) (I.ok.cab x c hfn hc)))).trans e1⟩
  ·by_cases hj:j=i
   ·subst hj
    rw[hi] at e1;cases e1
    rw[List.getElem?_set_self hiσ] at e2
    cases e2
    exact ⟨u,r,.inr ⟨.inl hk,c,hc,hc'⟩⟩
   ·rw[List.getElem?_set_ne (Ne.symm hj)] at e2
    obtain ⟨u',r',q⟩:=hl j y v' e1 e2 e3
    refine ⟨u',r',?_⟩
    rcases q with q | ⟨k,c',e,z'⟩
    ·exact .inl q
    ·refine .inr ⟨k,c',e,z'.sameBut hs ?_⟩
     rintro rfl
     exact hj (nodup_ix hN e1 (I.ok.inj _ _ _ e hc ▸ hi))
  ·by_cases hcc:c'=c
   ·subst hcc;exact ⟨_,hc'⟩
   ·obtain ⟨w2,z2⟩:=I.cell y c' e
    exact ⟨w2,z2.sameBut hs hcc⟩
  ·obtain ⟨e,n,ne,nf,d⟩:=I.pin p hp
   refine ⟨(hs.2 p.1 ?_).trans e,n,ne,nf,d⟩
   intro q
   rw[q,hoc] at e
   have q':oc=p.2:=Option.some.inj e
   exact d w' (by rw[← q'];exact hocd)
theorem store_ok {M:Model} {A:Around} {E:Value->Shared->Prop} {i:Nat} {x:Str} {v:V} {u:Value} {Q:Unit->Shared->Prop} (I:Inv X pins σ H s) (hN:X.N.Nodup) (hi:X.N[i]?=some x) (hx:Loc X.env.scope x) (r:RelV v u)
  (h:∀s',Inv X pins (σ.set i (some v)) H s'->Q () s') (hf:X.fn x=true∨X.env.scope.names.lookup x=some .local:=by first | exact .inl rfl | exact .inr rfl | assumption):wpAny M A (storeName X.env x u) Q E s :=
 store_ok2 I hN hi hx r (fun s' I' _=>h s' I') hf
theorem Inv.call' {s':Shared} {ch:List Addr} (I:Inv X pins σ H s) (ho:s'.os=s.os) (u:Un (frs X.stack) ch H H' s.heap s'.heap) (hok:HOk X.prog X.w H' s'.heap) (hg:AllBare s'.gens)
  (hch:∀b∈ch,(b∈X.ex∨X.s₀.heap.objs.size<=b)∧b≠X.env.locals∧(∀x c,X.env.cells.lookup x=some c->c≠b)∧∀p∈X.pn++pins,p.1≠b):Inv X pins σ H' s':=by
 obtain ⟨h',g',d',t',o'⟩:=s'
 have e:o'=s.os:=ho
 subst e
 exact I.call (g':=g') (t':=t') (d':=d') u hok hg hch
end
abbrev XK:=Value->Option Addr->Hp->Prop
abbrev St:=List (Option V)
abbrev VK:=V->Hp->Prop
abbrev TE:=St->Hp->VK->Prop
abbrev TT:=St->Hp->(Bool->Hp->Prop)->Prop
abbrev TA:=St->Hp->(List V->Hp->Prop)->Prop
structure Ends where
 nx:St->Hp->Prop
 rt:VK
 bk:St->Hp->Prop:=fun _ _=>False
 ct:St->Hp->Prop:=fun _ _=>False
abbrev TS:=Ends->St->Hp->Prop
def EP (X:Cx) (pins:List (Addr×Obj)) (σ:St) (Q:VK) (u:Value) (s':Shared):Prop:=∃v H',Inv X pins σ H' s'∧RelV v u∧Q v H'
def TP (X:Cx) (pins:List (Addr×Obj)) (σ:St) (Q:Bool->Hp->Prop) (b:Bool) (s':Shared):Prop:=∃H',Inv X pins σ H' s'∧Q b H'
def AP (X:Cx) (pins:List (Addr×Obj)) (σ:St) (Q:List V->Hp->Prop) (us:List Value) (s':Shared):Prop:=∃vs H',Inv X pins σ H' s'∧Vals vs us∧Q vs H'
def SP (X:Cx) (pins:List (Addr×Obj)) (D:Ends) (f:Flow) (s':Shared):Prop :=
 match f with
 | .next=>∃σ' H',Inv X pins σ' H' s'∧D.nx σ' H'
 | .brk=>∃σ' H',Inv X pins σ' H' s'∧D.bk σ' H'
 | .cont=>∃σ' H',Inv X pins σ' H' s'∧D.ct σ' H'
 | .ret u=>∃v σ' H',Inv X pins σ' H' s'∧RelV v u∧D.rt v H'
def PE (X:Cx) (e:Expr) (t:TE):Prop :=
 ∀(pins:List (Addr×Obj)) (s:Shared) (σ:St) (H:Hp) (Q:VK),Inv X pins σ H s->t σ H Q->wpAny (model X.prog X.w) X.A (eval e X.env) (EP X pins σ Q) X.xe s
def PT (X:Cx) (e:Expr) (t:TT):Prop :=
 ∀(pins:List (Addr×Obj)) (s:Shared) (σ:St) (H:Hp) (Q:Bool->Hp->Prop),Inv X pins σ H s->t σ H Q->wpAny (model X.prog X.w) X.A (isTrue e X.env (eval e X.env)) (TP X pins σ Q) X.xe s
def PW (X:Cx) (e:Expr) (t:TT):Prop :=
 ∀(whole:Sem Value) (pins:List (Addr×Obj)) (s:Shared) (σ:St) (H:Hp) (Q:Bool->Hp->Prop),Inv X pins σ H s->t σ H Q->wpAny (model X.prog X.w) X.A (isTrue e X.env whole) (TP X pins σ Q) X.xe s
theorem PW.pt {X:Cx} {e:Expr} {t:TT} (h:PW X e t):PT X e t:=h _
def PA (X:Cx) (es:List Expr) (t:TA):Prop :=
 ∀(pos:Pos) (pins:List (Addr×Obj)) (s:Shared) (σ:St) (H:Hp) (Q:List V->Hp->Prop),Inv X pins σ H s->t σ H Q->wpAny (model X.prog X.w) X.A (spliced (backTo pos (starEach es X.env))) (AP X pins σ Q) X.xe s
def PS (X:Cx) (st:Stmt) (t:TS):Prop :=
 ∀(pins:List (Addr×Obj)) (s:Shared) (σ:St) (H:Hp) (D:Ends),Inv X pins σ H s->t D σ H->wpAny (model X.prog X.w) X.A (exec st X.env) (SP X pins D) X.xe s
def PSs (X:Cx) (st:List Stmt) (t:TS):Prop :=
 ∀(pins:List (Addr×Obj)) (s:Shared) (σ:St) (H:Hp) (D:Ends),Inv X pins σ H s->t D σ H->wpAny (model X.prog X.w) X.A (execs st X.env) (SP X pins D) X.xe s
theorem thn {α:Type} {t:Sem α} {Q Q':α->Shared->Prop} {M:Model} {A:Around} {E:Value->Shared->Prop} {s:Shared} (h:wpAny M A t Q E s) (hQ:∀a s,Q a s->Q' a s):wpAny M A t Q' E s:=wpAny_mono h hQ fun _ _ x=>x
end L2
namespace L2
open PySem PySem.Spec PyProof.Rows
section
variable {X:Cx}
def tVar (i:Nat):TE:=fun σ H Q=>∃v,σ[i]?=some (some v)∧Q v H
def tC (v:V):TE:=fun _ H Q=>Q v H
theorem pe_var {i:Nat} {x:Str} {pos:Pos} (hN:X.N[i]?=some x) (hv:Vis X.env.scope x) (hd:(x == ("__debug__":Str))=false:=by decide) (hcd:(x == ("__classdict__":Str))=false:=by decide):PE X (.Name x pos) (tVar i):=by
 intro pins s σ H Q I h
 obtain ⟨v,e,h⟩:=h
 obtain ⟨m,hn,hl⟩:=I.loc
 obtain ⟨u,r,l⟩:=hl i x v hN e hv
 have fin:EP X pins σ Q u s:=⟨v,H,I,r,h⟩
 rcases l with ⟨hk,hm⟩ | ⟨hk,c,hc,hcell⟩
 ·exact wpAny_Name (wpAny_loadName_local I.ok.kind hk hn hm fin) hd
 ·rcases hk with hk | hk
  ·exact wpAny_Name (wpAny_loadName_cell I.ok.kind hk hc hcell fin) hd
  ·exact wpAny_Name (wpAny_loadName_free I.ok.kind hk hc hcell fin hcd) hd
theorem pe_int {i j pos}:PE X (.Constant (.int i) j pos) (tC (.int i)):=fun _ _ _ H _ I h=>wpAny_Constant_int ⟨.int i,H,I.tok _,⟨_,rfl⟩,h⟩
theorem pe_bl {b j pos}:PE X (.Constant (.bool b) j pos) (tC (.bl b)):=fun _ _ _ H _ I h=>Constant_bool ⟨.bl b,H,I,rfl,h⟩
theorem pe_non {j pos}:PE X (.Constant .none j pos) (tC .non):=fun _ _ _ H _ I h=>Constant_none ⟨.non,H,I,rfl,h⟩
theorem pe_str {x j pos}:PE X (.Constant (.str x) j pos) (tC (.str x)):=fun _ _ _ H _ I h=>Calls.Constant_str ⟨.str x,H,I.tok _,⟨_,rfl⟩,h⟩
def Gl (X:Cx) (x:Str):Prop:=X.env.kindOf x=some .globalImplicit
theorem ld_glob {E:Value->Shared->Prop} {pins:List (Addr×Obj)} {s:Shared} {σ:St} {H:Hp} {x:Str} {u:Value} {pos:Pos} {Q:Value->Shared->Prop} (I:Inv X pins σ H s) (hg:Gl X x) (hm:X.mg x=some u) (h:Q u s)
  (hd:(x == ("__debug__":Str))=false:=by decide):wpAny (model X.prog X.w) X.A (eval (.Name x pos) X.env) Q E s :=
 Calls.Name_function_global I.ok.kind hg (Calls.loadGlobal_global (by rw[I.ok.glob];exact I.mod.glob.keeps I.bk) hm h) hd
theorem ld_blt {E:Value->Shared->Prop} {pins:List (Addr×Obj)} {s:Shared} {σ:St} {H:Hp} {x:Str} {u:Value} {pos:Pos} {Q:Value->Shared->Prop} (I:Inv X pins σ H s) (hg:Gl X x) (hm:X.mg x=none) (hv:bootBuiltins x=some u) (h:Q u s)
  (hn:x≠"__name__":=by decide) (hd:(x == ("__debug__":Str))=false:=by decide):wpAny (model X.prog X.w) X.A (eval (.Name x pos) X.env) Q E s:=by
 obtain ⟨mb,h1,h2⟩:=I.mod.blt
 exact Calls.Name_function_global I.ok.kind hg (Calls.loadGlobal_builtin (by rw[I.ok.glob];exact I.mod.glob.keeps I.bk) hm (by rw[I.ok.blt];exact h1.keeps I.bk) ((h2 x hn).trans hv) h) hd
theorem pe_glob {x:Str} {v:V} {u:Value} {pos:Pos} (hg:Gl X x) (hm:X.mg x=some u) (r:RelV v u) (hd:(x == ("__debug__":Str))=false:=by decide):PE X (.Name x pos) (tC v) :=
 fun _ _ _ H _ I h=>ld_glob I hg hm ⟨v,H,I,r,h⟩ hd
theorem pe_bltn {x:Str} {v:V} {u:Value} {pos:Pos} (hg:Gl X x) (hm:X.mg x=none) (hv:bootBuiltins x=some u) (r:RelV v u) (hn:x≠"__name__":=by decide) (hd:(x == ("__debug__":Str))=false:=by decide):PE X (.Name x pos) (tC v) :=
 fun _ _ _ H _ I h=>ld_blt I hg hm hv ⟨v,H,I,r,h⟩ hn hd
def t2I (ta tb:TE) (k:Int->Int->Hp->Prop):St->Hp->Prop:=fun σ H=>ta σ H fun x H1=>tb σ H1 fun y H2=>∃i j,x=.int i∧y=.int j∧k i j H2
variable {a b:Expr} {ta tb:TE} {pos:Pos}
def tCmp (p:Int->Int->Bool) (ta tb:TE):TE:=fun σ H Q=>t2I ta tb (fun i j H2=>Q (.bl (p i j)) H2) σ H
abbrev tLt:TE->TE->TE:=tCmp fun i j=>decide (i < j)
abbrev tLe:TE->TE->TE:=tCmp fun i j=>decide (i<=j)
abbrev tGt:TE->TE->TE:=tCmp fun i j=>decide (j < i)
abbrev tGe:TE->TE->TE:=tCmp fun i j=>decide (j<=i)
abbrev tEqI:TE->TE->TE:=tCmp fun i j=>decide (i=j)
abbrev tNeI:TE->TE->TE:=tCmp fun i j=>!decide (i=j)
def tB (t:TE):TT:=fun σ H Q=>t σ H fun x H1=>∃c,x=.bl c∧Q c H1
theorem pt_val {e:Expr} {t:TE} (h:PE X e t) (he:∀whole,isTrue e X.env whole=(do let v ← whole;standAt e.pos;holding [v] (truthy v)):=by intro _;rfl):PT X e (tB t):=by
 intro pins s σ H Q I hw
 refine isTrue_plain (thn (h pins s σ H _ I hw) fun v s1 ⟨x,H1,I1,r1,q1⟩=>?_) (he _)
 obtain ⟨d,rfl,q⟩:=q1
 cases r1
 exact wpAny_truthy_bool ⟨H1,I1,q⟩
variable {tA tB':TT} {rest:List Expr}
def tAnd (t u:TT):TT:=fun σ H Q=>t σ H fun c H1=>if c=true then u σ H1 Q else Q false H1
def tOr (t u:TT):TT:=fun σ H Q=>t σ H fun c H1=>if c=true then Q true H1 else u σ H1 Q
def tNot (t:TT):TT:=fun σ H Q=>t σ H fun c H1=>Q (!c) H1
theorem pw_and1 (ha:PT X a tA):PW X (.BoolOp .And [a] pos) tA:=by
 intro wh pins s σ H Q I h
 refine isTrue_and (thn (ha pins s σ H Q I h) fun c s1 e=>?_)
 cases c with
 | true=>exact isTrue_and_nil e
 | false=>exact e
theorem pw_or1 (ha:PT X a tA):PW X (.BoolOp .Or [a] pos) tA:=by
 intro wh pins s σ H Q I h
 refine isTrue_or (thn (ha pins s σ H Q I h) fun c s1 e=>?_)
 cases c with
 | false=>exact isTrue_or_nil e
 | true=>exact e
theorem pw_and (ha:PT X a tA) (hb:PW X (.BoolOp .And (b :: rest) pos) tB'):PW X (.BoolOp .And (a :: b :: rest) pos) (tAnd tA tB'):=by
 intro wh pins s σ H Q I h
 refine isTrue_and (thn (ha pins s σ H _ I h) fun c s1 ⟨H1,I1,q1⟩=>?_)
 cases c with
 | true=>exact hb wh pins s1 σ H1 Q I1 q1
 | false=>exact ⟨H1,I1,q1⟩
theorem pw_or (ha:PT X a tA) (hb:PW X (.BoolOp .Or (b :: rest) pos) tB'):PW X (.BoolOp .Or (a :: b :: rest) pos) (tOr tA tB'):=by
 intro wh pins s σ H Q I h
 refine isTrue_or (thn (ha pins s σ H _ I h) fun c s1 ⟨H1,I1,q1⟩=>?_)
 cases c with
 | true=>exact ⟨H1,I1,q1⟩
 | false=>exact hb wh pins s1 σ H1 Q I1 q1
theorem pt_not (ha:PT X a tA):PT X (.UnaryOp .Not a pos) (tNot tA):=by
 intro pins s σ H Q I h
 exact isTrue_not (ha pins s σ H (fun c H1=>Q (!c) H1) I h)
def tAndV (ta tb:TE):TE:=fun σ H Q=>ta σ H fun x H1=>∃c,x=.bl c∧if c=true then tb σ H1 Q else Q (.bl false) H1
def tOrV (ta tb:TE):TE:=fun σ H Q=>ta σ H fun x H1=>∃c,x=.bl c∧if c=true then Q (.bl true) H1 else tb σ H1 Q
def tNotV (ta:TE):TE:=fun σ H Q=>ta σ H fun x H1=>∃c,x=.bl c∧Q (.bl (!c)) H1
theorem pe_one {op} {t:TE} (h:PE X a t):PE X (.BoolOp op [a] pos) t:=fun pins s σ H Q I hw=>BoolOp_one (h pins s σ H Q I hw)
theorem pe_and (ha:PE X a ta) (hb:PE X (.BoolOp .And (b :: rest) pos) tb):PE X (.BoolOp .And (a :: b :: rest) pos) (tAndV ta tb):=by
 intro pins s σ H Q I h
 refine BoolOp_and (thn (ha pins s σ H _ I h) fun v s1 ⟨x,H1,I1,r1,q1⟩=>?_)
 obtain ⟨c,rfl,q1⟩:=q1
 cases r1
 refine wpAny_truthy_bool ?_
 cases c with
 | true=>exact hb pins s1 σ H1 Q I1 q1
 | false=>exact ⟨.bl false,H1,I1,rfl,q1⟩
theorem pe_or (ha:PE X a ta) (hb:PE X (.BoolOp .Or (b :: rest) pos) tb):PE X (.BoolOp .Or (a :: b :: rest) pos) (tOrV ta tb):=by
 intro pins s σ H Q I h
 refine BoolOp_or (thn (ha pins s σ H _ I h) fun v s1 ⟨x,H1,I1,r1,q1⟩=>?_)
 obtain ⟨c,rfl,q1⟩:=q1
 cases r1
 refine wpAny_truthy_bool ?_
 cases c with
 | false=>exact hb pins s1 σ H1 Q I1 q1
 | true=>exact ⟨.bl true,H1,I1,rfl,q1⟩
theorem pe_not (ha:PE X a ta):PE X (.UnaryOp .Not a pos) (tNotV ta):=by
 intro pins s σ H Q I h
 refine UnaryOp_ (thn (ha pins s σ H _ I h) fun v s1 ⟨x,H1,I1,r1,q1⟩=>?_)
 obtain ⟨c,rfl,q1⟩:=q1
 cases r1
 exact not_of (wpAny_truthy_bool ⟨.bl (!c),H1,I1,rfl,q1⟩)
def tIf (t:TT) (ta tb:TE):TE:=fun σ H Q=>t σ H fun c H1=>if c=true then ta σ H1 Q else tb σ H1 Q
end
end L2
namespace L2
open PySem PySem.Spec PyProof.Rows
def SqL (K:PySem.W.Frag) (H:Hp) (a:Addr) (xs:List V):Prop :=
 Rd H a (.lst xs) ∨
  ∃(o:Obj) (its:Array Value) (n:Nat),K.lookup a=some o∧o.cls=.type "list"∧o.dict=none∧o.data=.seq its n∧its.size<=sizeLine∧Vals xs its.toList
def SqT (K:PySem.W.Frag) (H:Hp) (a:Addr) (xs:List V):Prop :=
 Rd H a (.tup xs) ∨
  ∃(o:Obj) (its:Array Value) (n:Nat),K.lookup a=some o∧o.cls=.type "tuple"∧o.data=.seq its n∧its.size<=sizeLine∧Vals xs its.toList
def absV:Value->Option V
 | .none=>some .non
 | .bool b=>some (.bl b)
 | .int i _=>some (.int i)
 | .str x _=>some (.str x)
 | .bytes b _=>some (.byt b)
 | .float b _=>some (.flt b)
 | .ref a=>some (.ref a)
 | .type n=>some (.ty n)
 | _=>none
theorem RelV.abs {x:V} {u:Value} (r:RelV x u):absV u=some x:=by
 cases x with
 | non=>cases r;rfl
 | bl _=>cases r;rfl
 | int _=>obtain ⟨t,rfl⟩:=r;rfl
 | str _=>obtain ⟨t,rfl⟩:=r;rfl
 | byt _=>obtain ⟨t,rfl⟩:=r;rfl
 | flt _=>obtain ⟨t,rfl⟩:=r;rfl
 | ref _=>cases r;rfl
 | ty _=>cases r;rfl
theorem RelV.inj {x y:V} {u:Value} (r:RelV x u) (q:RelV y u):x=y:=Option.some.inj (r.abs.symm.trans q.abs)
theorem Vals.inj:∀{xs ys:List V} {us:List Value},Vals xs us->Vals ys us->xs=ys
 | _,_,_,.nil,.nil=>rfl
 | _,_,_,.cons r t,.cons r' t'=>by rw[r.inj r',Vals.inj t t']
section
variable {X:Cx} {pins:List (Addr×Obj)} {σ:St} {H:Hp} {s:Shared} {a:Addr} {xs ys:List V}
theorem SqL.of {K:PySem.W.Frag} (h:H a=some (.lst xs)):SqL K H a xs:=.inl (.inl h)
theorem SqT.of {K:PySem.W.Frag} (h:H a=some (.tup xs)):SqT K H a xs:=.inl (.inl h)
theorem Inv.list (I:Inv X pins σ H s) (h:SqL X.K H a xs):∃its:List Value,Vals xs its∧PlainL s.heap a its.toArray∧xs.length<=sizeLine:=by
 rcases h with h | ⟨o,its,n,hk,hc,hd,hs,hz,r⟩
 ·obtain ⟨z,its,n,r,e⟩:=h.ok I.hok
  exact ⟨its,r,⟨_,n,e,rfl,rfl,rfl⟩,z⟩
 ·refine ⟨its.toList,r,⟨o,n,I.kIn a o hk,hc,hd,by simpa using hs⟩,?_⟩
  have e:=r.length
  simp only[Array.length_toList] at e
  lia
theorem Inv.tuple (I:Inv X pins σ H s) (h:SqT X.K H a xs):∃its:List Value,Vals xs its∧IsTup s.heap a its.toArray∧xs.length<=sizeLine:=by
 rcases h with h | ⟨o,its,n,hk,hc,hs,hz,r⟩
 ·obtain ⟨z,its,r,p⟩:=h.ok I.hok
  exact ⟨its,r,p,z⟩
 ·refine ⟨its.toList,r,⟨o,I.kIn a o hk,hc,n,by simpa using hs⟩,?_⟩
  have e:=r.length
  simp only[Array.length_toList] at e
  lia
theorem Inv.list_inj (I:Inv X pins σ H s) (h:SqL X.K H a xs) (h':SqL X.K H a ys):xs=ys:=by
 obtain ⟨its,r,⟨o,n,e,_,_,d⟩,_⟩:=I.list h
 obtain ⟨its',r',⟨o',n',e',_,_,d'⟩,_⟩:=I.list h'
 rw[e] at e';cases e'
 rw[d] at d'
 injection d' with d1 _
 have:its=its':=by simpa using congrArg Array.toList d1
 subst this
 exact r.inj r'
theorem Inv.tuple_inj (I:Inv X pins σ H s) (h:SqT X.K H a xs) (h':SqT X.K H a ys):xs=ys:=by
 obtain ⟨its,r,⟨o,e,_,n,d⟩,_⟩:=I.tuple h
 obtain ⟨its',r',⟨o',e',_,n',d'⟩,_⟩:=I.tuple h'
 rw[e] at e';cases e'
 rw[d] at d'
 injection d' with d1 _
 have:its=its':=by simpa using congrArg Array.toList d1
 subst this
 exact r.inj r'
end
abbrev Cx.wish (X:Cx) (E:Value->Shared->Prop):Cx:={ X with xe:=E }
abbrev Cx.nox (X:Cx):Cx:=X.wish fun _ _=>False
theorem Cx.Ok.wish {X:Cx} (ok:X.Ok) (E:Value->Shared->Prop):(X.wish E).Ok :=
 ⟨ok.mod,ok.kind,ok.glob,ok.blt,ok.above,ok.inj,ok.has,ok.cab,ok.hd,ok.frames,ok.stk,ok.exf,ok.bs,ok.bsz,ok.noex,ok.exfs,ok.funs,ok.frf⟩
theorem Cx.Ok.unwish {X:Cx} {E:Value->Shared->Prop} (ok:(X.wish E).Ok):X.Ok :=
 ⟨ok.mod,ok.kind,ok.glob,ok.blt,ok.above,ok.inj,ok.has,ok.cab,ok.hd,ok.frames,ok.stk,ok.exf,ok.bs,ok.bsz,ok.noex,ok.exfs,ok.funs,ok.frf⟩
section
variable {X:Cx} {pins:List (Addr×Obj)} {σ:St} {H:Hp} {s:Shared} {E:Value->Shared->Prop}
theorem Inv.wish (I:Inv X pins σ H s) (E:Value->Shared->Prop):Inv (X.wish E) pins σ H s:=⟨I.ok.wish E,I.os,I.bare,I.base,I.loc,I.cell,I.free,I.freeC,I.pin,I.hok,I.len⟩
theorem Inv.unwish (I:Inv (X.wish E) pins σ H s):Inv X pins σ H s:=⟨I.ok.unwish,I.os,I.bare,I.base,I.loc,I.cell,I.free,I.freeC,I.pin,I.hok,I.len⟩
theorem SP.unwish {D:Ends} {f:Flow} {s':Shared} (h:SP (X.wish E) pins D f s'):SP X pins D f s':=by
 cases f with
 | next=>obtain ⟨σ',H',I,q⟩:=h;exact ⟨σ',H',I.unwish,q⟩
 | brk=>obtain ⟨σ',H',I,q⟩:=h;exact ⟨σ',H',I.unwish,q⟩
 | cont=>obtain ⟨σ',H',I,q⟩:=h;exact ⟨σ',H',I.unwish,q⟩
 | ret u=>obtain ⟨v,σ',H',I,r,q⟩:=h;exact ⟨v,σ',H',I.unwish,r,q⟩
theorem PE.nox {e:Expr} {t:TE} (h:PE X.nox e t):PE X e t:=fun pins s σ H Q I hw =>
 wpAny_mono (h pins s σ H Q (I.wish _) hw) (fun _ _ ⟨v,H',I',r,q⟩=>⟨v,H',I'.unwish,r,q⟩) fun _ _ z=>False.elim z
theorem PT.nox {e:Expr} {t:TT} (h:PT X.nox e t):PT X e t:=fun pins s σ H Q I hw =>
 wpAny_mono (h pins s σ H Q (I.wish _) hw) (fun _ _ ⟨H',I',q⟩=>⟨H',I'.unwish,q⟩) fun _ _ z=>False.elim z
theorem PSs.nox {st:List Stmt} {t:TS} (h:PSs X.nox st t):PSs X st t:=fun pins s σ H D I hw =>
 wpAny_mono (h pins s σ H D (I.wish _) hw) (fun _ _ q=>q.unwish) fun _ _ z=>False.elim z
end
section
variable {X:Cx} {st:Stmt} {rest:List Stmt} {t u:TS} {e:Expr} {te:TE} {pos:Pos}
def tNext:TS:=fun D σ H=>D.nx σ H
def tSeq (t u:TS):TS:=fun D σ H=>t { D with nx:=u D } σ H
theorem pss_nil:PSs X [] tNext:=fun _ _ σ H _ I h=>wpAny_execs_nil ⟨σ,H,I,h⟩
theorem pss_cons (h1:PS X st t) (h2:PSs X rest u):PSs X (st :: rest) (tSeq t u):=by
 intro pins s σ H D I h
 refine wpAny_execs_cons (thn (h1 pins s σ H { D with nx:=u D } I h) fun f s1 q=>?_)
 cases f with
 | next =>
  obtain ⟨σ',H',I',q⟩:=q
  exact h2 pins s1 σ' H' D I' q
 | ret v=>exact q
 | brk=>exact q
 | cont=>exact q
theorem pss_one (h1:PS X st t):PSs X [st] t:=by
 intro pins s σ H D I h
 refine wpAny_execs_cons (thn (h1 pins s σ H D I h) fun f s1 q=>?_)
 cases f with
 | next=>exact wpAny_execs_nil q
 | ret v=>exact q
 | brk=>exact q
 | cont=>exact q
def tBreak:TS:=fun D σ H=>D.bk σ H
def tCont:TS:=fun D σ H=>D.ct σ H
theorem Inv.quiet {pins:List (Addr×Obj)} {σ:St} {H:Hp} {s:Shared} (I:Inv X pins σ H s):interactive X.env=false:=by simp [interactive,I.ok.kind]
def tDrop (te:TE):TS:=fun D σ H=>te σ H fun _ H1=>D.nx σ H1
theorem ps_expr (he:PE X e te) (hs:swapsWith e none pos.line X.env=pure false:=by rfl):PS X (.Expr e pos) (tDrop te):=by
 intro pins s σ H D I h
 exact wpAny_Expr_any (thn (he pins s σ H _ I h) fun v s1 ⟨x,H1,I1,r1,q1⟩=>⟨σ,H1,I1,q1⟩) I.quiet hs
def tRet (te:TE):TS:=fun D σ H=>te σ H D.rt
theorem ps_ret (he:PE X e te):PS X (.Return (some e) pos) (tRet te):=by
 intro pins s σ H D I h
 exact wpAny_Return_some (thn (he pins s σ H _ I h) fun v s1 ⟨x,H1,I1,r1,q1⟩=>⟨x,σ,H1,I1,r1,q1⟩)
def tRetN:TS:=fun D _ H=>D.rt .non H
def tIfS (c:TT) (t u:TS):TS:=fun D σ H=>c σ H fun b H1=>if b=true then t D σ H1 else u D σ H1
theorem ps_if {c:Expr} {a b:List Stmt} {tc:TT} (hc:PT X c tc) (ha:PSs X a t) (hb:PSs X b u):PS X (.If c a b pos) (tIfS tc t u):=by
 intro pins s σ H D I h
 refine wpAny_If (thn (hc pins s σ H _ I h) fun d s1 ⟨H1,I1,q1⟩=>?_)
 cases d with
 | true=>exact ha pins s1 σ H1 D I1 q1
 | false=>exact hb pins s1 σ H1 D I1 q1
end
abbrev TG:=V->St->Hp->(St->Hp->Prop)->Prop
abbrev TGs:=List V->St->Hp->(St->Hp->Prop)->Prop
def PG (X:Cx) (target:Expr) (t:TG):Prop :=
 ∀(pins:List (Addr×Obj)) (s:Shared) (σ:St) (H:Hp) (v:V) (u:Value) (Q:St->Hp->Prop),Inv X pins σ H s->RelV v u->t v σ H Q →
  wpAny (model X.prog X.w) X.A (assign target X.env u) (fun _ s'=>∃σ' H',Inv X pins σ' H' s'∧Q σ' H') X.xe s
def PGs (X:Cx) (ts:List Expr) (t:TGs):Prop :=
 ∀(pins:List (Addr×Obj)) (s:Shared) (σ:St) (H:Hp) (vs:List V) (us:List Value) (Q:St->Hp->Prop),Inv X pins σ H s->Vals vs us->t vs σ H Q →
  wpAny (model X.prog X.w) X.A (assignInOrder ((assignEach ts X.env).map (·.2)) us) (fun _ s'=>∃σ' H',Inv X pins σ' H' s'∧Q σ' H') X.xe s
abbrev TSet:=V->V->V->Hp->(Hp->Prop)->Prop
def PSet (X:Cx) (t:TSet):Prop :=
 ∀(pins:List (Addr×Obj)) (s:Shared) (σ:St) (H:Hp) (o i v:V) (ov iv u:Value) (Q:Hp->Prop),Inv X pins σ H s->RelV o ov->RelV i iv->RelV v u->t o i v H Q →
  wpAny (model X.prog X.w) X.A (setItem ov iv u) (fun _ s'=>∃H',Inv X pins σ H' s'∧Q H') X.xe s
abbrev TIp:=V->V->Hp->VK->Prop
def PIp (X:Cx) (op:Operator) (t:TIp):Prop :=
 ∀(pins:List (Addr×Obj)) (s:Shared) (σ:St) (H:Hp) (x y:V) (v u:Value) (Q:VK),Inv X pins σ H s->RelV x v->RelV y u->t x y H Q →
  wpAny (model X.prog X.w) X.A (inplaceOp op v u) (EP X pins σ Q) X.xe s
section
variable {X:Cx} {pos:Pos}
def gName (i:Nat):TG:=fun v σ H Q=>Q (σ.set i (some v)) H
theorem pg_name {i:Nat} {x:Str} (hN:X.N.Nodup) (hi:X.N[i]?=some x) (hx:Loc X.env.scope x) (hf:X.fn x=true∨X.env.scope.names.lookup x=some .local:=by first | exact .inl rfl | exact .inr rfl | assumption):PG X (.Name x pos) (gName i):=by
 intro pins s σ H v u Q I r h
 exact wpAny_assign_Name (store_ok I hN hi hx r (fun s' I'=>⟨_,H,I',h⟩) hf)
def gNil:TGs:=fun vs σ H Q=>vs=[]∧Q σ H
def gCons (t:TG) (u:TGs):TGs:=fun vs σ H Q=>∃v r,vs=v :: r∧t v σ H fun σ' H'=>u r σ' H' Q
theorem pgs_nil:PGs X [] gNil:=by
 intro pins s σ H vs us Q I r h
 obtain ⟨e,h⟩:=h
 subst e
 cases r
 exact assignInOrder_nil ⟨σ,H,I,h⟩
theorem pgs_cons {e:Expr} {es:List Expr} {t:TG} {u:TGs} (h1:PG X e t) (h2:PGs X es u)
  (hs:(assignEach (e :: es) X.env).map (·.2)=assign e X.env :: (assignEach es X.env).map (·.2):=by rfl):PGs X (e :: es) (gCons t u):=by
 intro pins s σ H vs us Q I r h
 obtain ⟨v,vr,e1,h⟩:=h
 subst e1
 cases r with
 | cons r rr =>
  rw[hs]
  refine assignInOrder_cons (thn (h1 pins s σ H _ _ _ I r h) fun _ s1 ⟨σ1,H1,I1,q1⟩=>?_)
  exact h2 pins s1 σ1 H1 _ _ Q I1 rr q1
def gTup (K:PySem.W.Frag) (n:Nat) (t:TGs):TG:=fun v σ H Q=>∃a xs,v=.ref a∧SqT K H a xs∧xs.length=n∧t xs σ H Q
theorem pg_tup {es:List Expr} {k:Nat} {t:TGs} {n:Nat} (hc:X.calm=true) (h:PGs X es t)
  (hn:(assignEach es X.env).length=n:=by rfl) (hst:(assignEach es X.env).findIdx? (·.1)=none:=by rfl):PG X (.Tuple es k pos) (gTup X.K n t):=by
 intro pins s σ H v u Q I r hw
 obtain ⟨a,xs,e1,hq,hl,hw⟩:=hw
 subst e1
 cases r
 obtain ⟨its,rv,ht,hz⟩:=I.tuple hq
 refine assign_Tuple_tuple (I.ok.hd hc) ht (by simp [hn,← hl,rv.length]) hst fun h' hx=>?_
 have I1:Inv X pins σ H { s with heap:=h' }:=I.kept (t':=s.toks) fun b o e=>hx b o (Nat.ne_of_lt (Heap.lt_size e)) e
 exact h pins _ σ H xs _ Q I1 (by simpa using rv) hw
def gSub (to ti:TE) (t:TSet):TG:=fun v σ H Q=>to σ H fun o H1=>ti σ H1 fun i H2=>t o i v H2 fun H3=>Q σ H3
theorem pg_sub {o i : Expr} {to ti : TE} {t : TSet} (ho : PE X o to) (hi : PE X i ti) (hs : PSet X t)
    (ha : ∀ v, assign (.Subscript o i pos) X.env v = (do
      let ov ← holding [v] (eval o X.env)
      let iv ← holding [v, ov] (eval i X.env)
      standAt pos
      holding [v, ov, iv] (setItem ov iv v)
      release [v, ov, iv] []) := by intro _; rfl) : PG X (.Subscript o i pos) (gSub to ti t) := by
  intro pins s σ H v u Q I r h
  rw [ha]
  refine wpAny_bind (wpAny_holding (thn (ho pins s σ H _ I h) fun ov s1 ⟨x, H1, I1, r1, q1⟩ => ?_))
  refine wpAny_bind (wpAny_holding (thn (hi pins s1 σ H1 _ I1 q1) fun iv s2 ⟨y, H2, I2, r2, q2⟩ => ?_))
  refine wpAny_bind (wpAny_standAt (wpAny_bind (wpAny_holding (thn (hs pins s2 σ H2 x y v ov iv u _ I2 r1 r2 r q2) fun _ s3 ⟨H3, I3, q3⟩ => ?_))))
  exact wpAny_release ⟨σ, H3, I3, q3⟩
def tAsg (te:TE) (g:TG):TS:=fun D σ H=>te σ H fun x H1=>g x σ H1 D.nx
theorem ps_asg {tg e:Expr} {te:TE} {g:TG} (he:PE X e te) (hg:PG X tg g) (hs:swapsWithSole [tg] e pos.line X.env=pure false:=by rfl) (hw:swappedStores [tg] e X.env=pure none:=by rfl)
  (h1:(assignEach [tg] X.env).map (·.2)=[assign tg X.env]:=by rfl):PS X (.Assign [tg] e pos) (tAsg te g):=by
 intro pins s σ H D I h
 refine wpAny_Assign_stores (thn (he pins s σ H _ I h) fun v s1 ⟨x,H1,I1,r1,q1⟩=>?_) hs hw
 rw[h1]
 exact thn (hg pins s1 σ H1 x v _ I1 r1 q1) fun _ s2 q=>q
theorem ps_set {i:Nat} {x:Str} {e:Expr} {te:TE} {pos':Pos} (hN:X.N.Nodup) (hi:X.N[i]?=some x) (hx:Loc X.env.scope x) (he:PE X e te) (hs:swapsWith e (some (.Name x pos')) pos.line X.env=pure false:=by rfl) (hf:X.fn x=true∨X.env.scope.names.lookup x=some .local:=by first | exact .inl rfl | exact .inr rfl | assumption) :
  PS X (.Assign [.Name x pos'] e pos) (tAsg te (gName i)):=by
 intro pins s σ H D I h
 refine wpAny_Assign_Name (thn (he pins s σ H _ I h) fun v s1 ⟨y,H1,I1,r1,q1⟩=>?_) hs
 exact store_ok I1 hN hi hx r1 (fun s2 I2=>⟨_,H1,I2,q1⟩) hf
def tPar (i j:Nat) (ta:TA):TS:=fun D σ H=>ta σ H fun vs H1=>∃v w,vs=[v,w]∧D.nx ((σ.set i (some v)).set j (some w)) H1
theorem ps_par {i j:Nat} {x y:Str} {a b:Expr} {ta:TA} {px py pt:Pos} {kt k2 pt2} (hc:X.calm=true) (hN:X.N.Nodup) (hi:X.N[i]?=some x) (hj:X.N[j]?=some y) (hij:i≠j)
  (hx:X.env.scope.names.lookup x=some .local) (hy:X.env.scope.names.lookup y=some .local) (ha:PA X [a,b] ta)
  (hw:swappedStores [.Tuple [.Name x px,.Name y py] kt pt] (.Tuple [a,b] k2 pt2) X.env=pure (some [x,y]))
  (hs:swapsWithSole [.Tuple [.Name x px,.Name y py] kt pt] (.Tuple [a,b] k2 pt2) pos.line X.env=pure false:=by rfl) :
  PS X (.Assign [.Tuple [.Name x px,.Name y py] kt pt] (.Tuple [a,b] k2 pt2) pos) (tPar i j ta):=by
 intro pins s σ H D I h
 rw[exec_Assign_arm]
 refine wpAny_bind (wpAny_standAt ?_)
 rw[hs]
 refine wpAny_bind (wpAny_pure ?_)
 rw[if_neg (by decide)]
 refine wpAny_bind (Tuple_ (thn (ha _ pins s σ H _ I h) fun us s1 ⟨vs,H1,I1,r1,q1⟩=>?_))
 obtain ⟨v,w,e1,q1⟩:=q1
 subst e1
 obtain ⟨u1,u2,rfl,rv,rw'⟩:∃u1 u2,us=[u1,u2]∧RelV v u1∧RelV w u2:=by
  cases r1 with
  | cons p q =>
   cases q with
   | cons p' q' =>
    cases q'
    exact ⟨_,_,rfl,p,p'⟩
 refine wpAny_newObj_type ?_ (by show 2<=sizeLine;decide)
 have I2:Inv X pins σ H1 { s1 with heap:=s1.heap.push { cls:=.type "tuple",data:=.seq [u1,u2].toArray } }:=I1.kept (t':=s1.toks) fun b o e=>Heap.get?_push_of_some _ e
 rw[hw]
 refine wpAny_bind (wpAny_pure ?_)
 show wpAny (model X.prog X.w) X.A (do rule "assign.swapped-stores";let items ← unpackItems (.ref s1.heap.objs.size) 2 none;assignInOrder [fun v=>bindName X.env y v,fun v=>bindName X.env x v] items.reverse;pure Flow.next) _ _ _
 refine wpAny_bind (wpAny_rule (wpAny_bind (unpackItems_tuple (items:=#[u1,u2]) (I.ok.hd hc) (IsTup.new s1.heap _) fun h' hx'=>?_)))
 have I3:=I2.kept (h':=h') (t':=s1.toks) fun b o e=>hx' b o (Nat.ne_of_lt (Heap.lt_size e)) e
 show wpAny _ _ (assignInOrder [fun v=>bindName X.env y v,fun v=>bindName X.env x v] [u2,u1] >>= fun _=>pure Flow.next) _ _ _
 refine wpAny_bind (assignInOrder_cons (wpAny_bindName (store_ok I3 hN hj (.inl hy) rw' (fun s2 I4=>?_) (.inr hy))))
 refine assignInOrder_cons (wpAny_bindName (store_ok I4 hN hi (.inl hx) rv (fun s3 I5=>assignInOrder_nil (wpAny_pure ?_)) (.inr hx)))
 rw[List.set_comm _ _ (Ne.symm hij)] at I5
 exact ⟨_,H1,I5,q1⟩
def tAug (i:Nat) (te:TE) (ti:TIp):TS:=fun D σ H=>∃x,σ[i]?=some (some x)∧te σ H fun y H1=>ti x y H1 fun z H2=>D.nx (σ.set i (some z)) H2
def tAugS (to ti te:TE) (tget:V->V->Hp->VK->Prop) (tip:TIp) (tset:TSet):TS:=fun D σ H=>to σ H fun o H1=>ti σ H1 fun i H2=>tget o i H2 fun x H3=>te σ H3 fun y H4=>tip x y H4 fun z H5=>tset o i z H5 fun H6=>D.nx σ H6
def PGet (X:Cx) (t:V->V->Hp->VK->Prop):Prop :=
 ∀(pins:List (Addr×Obj)) (s:Shared) (σ:St) (H:Hp) (o i:V) (ov iv:Value) (Q:VK),Inv X pins σ H s->RelV o ov->RelV i iv->t o i H Q →
  wpAny (model X.prog X.w) X.A (getItem ov iv) (EP X pins σ Q) X.xe s
theorem ps_augS {o i e:Expr} {to ti te:TE} {tget:V->V->Hp->VK->Prop} {tip:TIp} {tset:TSet} {op:Operator} {tpos:Pos} (ho:PE X o to) (hi:PE X i ti) (hg:PGet X tget) (he:PE X e te) (hp:PIp X op tip) (hs:PSet X tset)
  (ha:∀ov iv new,augStore i ov iv new=(do holding [new,ov,iv] (setItem ov iv new);release [new,ov,iv] [];pure .next):=by intros;rfl):PS X (.AugAssign (.Subscript o i tpos) op e pos) (tAugS to ti te tget tip tset):=by
 intro pins s σ H D I h
 refine wpAny_AugAssign_SubscriptAny (thn (ho pins s σ H _ I h) fun ov s1 ⟨x1,H1,I1,r1,q1⟩=>?_) ha
 refine thn (hi pins s1 σ H1 _ I1 q1) fun iv s2 ⟨x2,H2,I2,r2,q2⟩=>?_
 refine thn (hg pins s2 σ H2 x1 x2 ov iv _ I2 r1 r2 q2) fun old s3 ⟨x3,H3,I3,r3,q3⟩=>?_
 refine thn (he pins s3 σ H3 _ I3 q3) fun v s4 ⟨x4,H4,I4,r4,q4⟩=>?_
 refine thn (hp pins s4 σ H4 x3 x4 old v _ I4 r3 r4 q4) fun new s5 ⟨x5,H5,I5,r5,q5⟩=>?_
 exact thn (hs pins s5 σ H5 x1 x2 x5 ov iv new _ I5 r1 r2 r5 q5) fun _ s6 ⟨H6,I6,q6⟩=>⟨σ,H6,I6,q6⟩
def ipI (f:Int->Int->Int):TIp:=fun x y H Q=>∃i j,x=.int i∧y=.int j∧Q (.int (f i j)) H
theorem ip_add:PIp X .Add (ipI fun i j=>i+j):=by
 intro pins s σ H x y v u Q I r1 r2 h
 obtain ⟨i,j,e1,e2,q⟩:=h
 subst e1;subst e2
 obtain ⟨t,rfl⟩:=r1
 obtain ⟨t',rfl⟩:=r2
 exact iadd_int ⟨.int _,H,I.tok _,⟨_,rfl⟩,q⟩
end
section
variable {X:Cx} {pos:Pos}
def tWhile (c:TT) (tb:TS):TS:=fun D σ H=>∃W:Nat->St->Hp->Prop,(∃m,W m σ H)∧∀m σ H,W m σ H →
 c σ H fun b H1=>if b=true then ∃N:St->Hp->Prop,(∀σ' H',N σ' H'->∃m',m' < m∧W m' σ' H')∧tb { D with nx:=N,ct:=N,bk:=D.nx } σ H1 else D.nx σ H1
theorem ps_while {c:Expr} {body:List Stmt} {tc:TT} {tb:TS} (hp:PassesOwn (model X.prog X.w) X.A X.env X.xe) (hc:PT X c tc) (hb:PSs X body tb):PS X (.While c body [] pos) (tWhile tc tb):=by
 intro pins s σ H D I h
 obtain ⟨W,⟨m0,w0⟩,turn⟩:=h
 refine wpAny_While (codeAny_whileLoop (fun n s'=>∃σ' H',Inv X pins σ' H' s'∧W n σ' H') ?_ m0 ⟨σ,H,I,w0⟩)
 rintro n s1 ⟨σ1,H1,I1,w1⟩
 refine wpAny_passesOwn hp (thn (hc pins s1 σ1 H1 _ I1 (turn n σ1 H1 w1)) fun b s2 ⟨H2,I2,q2⟩=>?_)
 cases b with
 | true =>
  obtain ⟨N,hN,q2⟩:=q2
  rw[if_pos rfl]
  refine wpAny_passesOwn hp (thn (hb pins s2 σ1 H2 _ I2 q2) fun f s3 q3=>?_)
  cases f with
  | next =>
   obtain ⟨σ3,H3,I3,n3⟩:=q3
   obtain ⟨m',hm,w3⟩:=hN σ3 H3 n3
   exact ⟨m',hm,σ3,H3,I3,w3⟩
  | cont =>
   obtain ⟨σ3,H3,I3,n3⟩:=q3
   obtain ⟨m',hm,w3⟩:=hN σ3 H3 n3
   exact ⟨m',hm,σ3,H3,I3,w3⟩
  | brk=>exact q3
  | ret v=>exact q3
 | false =>
  rw[if_neg Bool.false_ne_true]
  exact wpAny_execs_nil ⟨σ1,H2,I2,q2⟩
end
structure It where
 go:Nat->Hp->Prop
 yld:Nat->Hp->V->Hp->Prop
 stop:Nat->Hp->Prop
def FpOk (X:Cx) (pins:List (Addr×Obj)) (H:Hp) (b:Addr):Prop :=
 H b=none∧b≠X.env.locals∧b∉X.fs∧(b∈X.ex∨X.s₀.heap.objs.size<=b)∧(∀x c,X.env.cells.lookup x=some c->c≠b)∧∀p∈X.pn++pins,p.1≠b
theorem Inv.fpOk {X:Cx} {pins:List (Addr×Obj)} {σ:St} {H H':Hp} {s:Shared} {b:Addr} (I:Inv X pins σ H s) (hb:s.heap.objs.size<=b) (hn:H' b=none):FpOk X pins H' b:=by
 refine ⟨hn,Nat.ne_of_gt (Nat.lt_of_lt_of_le I.lt hb),I.nofs hb,.inr (Nat.le_trans I.sz hb),fun x c e z=>?_,fun p hp z=>?_⟩
 ·obtain ⟨v,q⟩:=I.cell x c e
  exact absurd (Nat.lt_of_lt_of_le q.lt (by rw[z];exact hb)) (Nat.lt_irrefl _)
 ·exact absurd (Nat.lt_of_lt_of_le (Heap.lt_size (I.pin p hp).1) (by rw[z];exact hb)) (Nat.lt_irrefl _)
structure Turn (P:Program) (w:World) (K:PySem.W.Frag) (tg:Expr) (J:It) (fp:List Addr) (it:Addr) (tn:Nat->Heap->Prop):Prop where
 mem:it∈fp
 obj:∀i h,tn i h->∀b∈fp,∃o,h.get? b=some o∧∀v,o.data≠.cell v
 keep:∀i h h',tn i h->(∀b∈fp,∀o,h.get? b=some o->h'.get? b=some o)->tn i h'
 item:∀(X:Cx),X.prog=P->X.w=w->X.K=K->X.calm=true->∀(i:Nat) (pins:List (Addr×Obj)) (s:Shared) (σ:St) (H:Hp) (E:Value->Shared->Prop),Inv X pins σ H s->(∀b∈fp,FpOk X pins H b)->tn i s.heap->J.go i H →
  wpAny (model P w) X.A (pyNext (.ref it)) (fun r s1=>∃u,r=some u ∧
   wpAny (model P w) X.A (letOwnedTupleGo tg (.ref it) u) (fun _ s2=>∃x H',Inv X pins σ H' s2∧RelV x u∧J.yld i H x H'∧tn (i+1) s2.heap∧∀b∈fp,H' b=none) E s1) E s
 done:∀(X:Cx),X.prog=P->X.w=w->X.K=K->X.calm=true->∀(i:Nat) (pins:List (Addr×Obj)) (s:Shared) (σ:St) (H:Hp) (E:Value->Shared->Prop),Inv X pins σ H s->(∀b∈fp,FpOk X pins H b)->tn i s.heap->J.stop i H →
  wpAny (model P w) X.A (pyNext (.ref it)) (fun r s1=>r=none∧Inv X pins σ H s1) E s
 self:∀(A:Around) (i:Nat) (s:Shared) (Q:Value->Shared->Prop) (E:Value->Shared->Prop),tn i s.heap->Q (.ref it) s->wpAny (model P w) A (pyIter (.ref it)) Q E s
abbrev TI:=St->Hp->(It->Hp->Prop)->Prop
def PIE (X:Cx) (pins:List (Addr×Obj)) (σ:St) (tg:Expr) (R:It->Hp->Prop) (itv:Value) (s2:Shared):Prop :=
 ∃(it:Addr) (fp:List Addr) (tn:Nat->Heap->Prop) (J:It) (H':Hp),itv=.ref it∧Inv X pins σ H' s2∧Turn X.prog X.w X.K tg J fp it tn∧tn 0 s2.heap∧(∀b∈fp,FpOk X pins H' b)∧R J H'
def PI (X:Cx) (tg iter:Expr) (wi:TI):Prop :=
 ∀(pins:List (Addr×Obj)) (s:Shared) (σ:St) (H:Hp) (R:It->Hp->Prop),Inv X pins σ H s->wi σ H R →
  wpAny (model X.prog X.w) X.A (eval iter X.env) (fun v s1=>wpAny (model X.prog X.w) X.A (pyIter v) (PIE X pins σ tg R) X.xe s1) X.xe s
theorem go_of {M : Model} {A : Around} {E : Value → Shared → Prop} {s : Shared} {tg : Expr} {it : Addr} {u : Value} {o : Obj} {n : String} {vs : Array Value} {Q : Unit → Shared → Prop} (ho : s.heap.get? it = some o) (hc : o.cls = .type n) (hd : o.data = .fields vs)
    (hn : ["enumerate", "zip", "dict_itemiterator", "dict_reverseitemiterator", "odict_iterator", "itertools.zip_longest", "itertools.pairwise"].contains n = false) (hQ : Q () s) : wpAny M A (letOwnedTupleGo tg (.ref it) u) Q E s := by
  unfold letOwnedTupleGo
  cases tg <;> first
    | exact wpAny_pure hQ
    | (cases u <;> first
        | exact wpAny_pure hQ
        | (refine wpAny_bind (wpAny_load ho ?_)
           rw [hc, hd]
           show wpAny M A (if (["enumerate", "zip", "dict_itemiterator", "dict_reverseitemiterator", "odict_iterator", "itertools.zip_longest", "itertools.pairwise"].contains n && vs[0]? == some (rawInt _)) = true then _ else _) Q E s
           rw [if_neg (by intro h; rw [hn, Bool.false_and] at h; cases h)]
           exact wpAny_pure hQ))

def Itl (K:PySem.W.Frag) (a:Addr):It :=
 ⟨fun i H=>∃xs x,SqL K H a xs∧xs[i]?=some x,fun i H x H'=>H'=H∧∀xs,SqL K H a xs->xs[i]?=some x,fun i H=>∃xs,SqL K H a xs∧xs.length<=i⟩
def Itt (K:PySem.W.Frag) (a:Addr):It :=
 ⟨fun i H=>∃xs x,SqT K H a xs∧xs[i]?=some x,fun i H x H'=>H'=H∧∀xs,SqT K H a xs->xs[i]?=some x,fun i H=>∃xs,SqT K H a xs∧xs.length<=i⟩
def Itr (lo:Int) (n:Nat):It:=⟨fun i _=>i < n,fun i H x H'=>H'=H∧x=.int (lo+i),fun i _=>n<=i⟩
theorem turn_list {P:Program} {w:World} {K:PySem.W.Frag} {tg:Expr} (a it:Addr):Turn P w K tg (Itl K a) [it] it (fun i h=>h.IsListIter it a i) where
 mem:=by simp
 obj:=fun i h st b hb=>by
  have e:b=it:=by simpa using hb
  subst e
  obtain ⟨o,e,c,d⟩:=st
  exact ⟨o,e,fun v z=>by rw[d] at z;cases z⟩
 keep:=fun i h h' st k=>st.at fun o e=>k it (by simp) o e
 item:=by
  intro X hP hw hK hc i pins s σ H E I hf st hg
  subst hP hw hK
  obtain ⟨xs,x,hq,hx⟩:=hg
  obtain ⟨its,rv,p,hz⟩:=I.list hq
  obtain ⟨u,hu,ru⟩:=rv.get hx
  obtain ⟨f0,f1,f2,f3,f4,f5⟩:=hf it (by simp)
  refine wpAny_pyNext_list_item st p.isList (x:=u) (by simpa using hu) fun h' st' sb=>?_
  have I1:Inv X pins σ H { s with heap:=h' }:=I.turned (t':=s.toks) (fun b o hb e=>(sb.2 b hb).trans e) f0 f1 f3 f4 f5
  obtain ⟨o,e,c,d⟩:=id st'
  exact ⟨u,rfl,go_of (s:={ s with heap:=h' }) e c d (by decide) ⟨x,H,I1,ru,⟨rfl,fun ys hy=>by rw[I.list_inj hy hq];exact hx⟩,st',fun b hb=>(hf b hb).1⟩⟩
 done:=by
  intro X hP hw hK hc i pins s σ H E I hf st hg
  subst hP hw hK
  obtain ⟨xs,hq,hx⟩:=hg
  obtain ⟨its,rv,p,hz⟩:=I.list hq
  obtain ⟨f0,f1,f2,f3,f4,f5⟩:=hf it (by simp)
  have hl:=rv.length
  exact wpAny_pyNext_list_end (I.ok.hd hc) st p.isList (by simp;lia) fun h' eb=>⟨rfl,I.turned (t':=s.toks) (fun b o hb e=>eb b o hb e) f0 f1 f3 f4 f5⟩
 self:=fun _ _ _ _ _ st h=>wpAny_pyIter_listiter st h
theorem turn_tuple {P:Program} {w:World} {K:PySem.W.Frag} {tg:Expr} (a it:Addr):Turn P w K tg (Itt K a) [it] it (fun i h=>h.IsTupleIter it a i) where
 mem:=by simp
 obj:=fun i h st b hb=>by
  have e:b=it:=by simpa using hb
  subst e
  obtain ⟨o,e,c,d⟩:=st
  exact ⟨o,e,fun v z=>by rw[d] at z;cases z⟩
 keep:=fun i h h' st k=>st.at fun o e=>k it (by simp) o e
 item:=by
  intro X hP hw hK hc i pins s σ H E I hf st hg
  subst hP hw hK
  obtain ⟨xs,x,hq,hx⟩:=hg
  obtain ⟨its,rv,p,hz⟩:=I.tuple hq
  obtain ⟨u,hu,ru⟩:=rv.get hx
  obtain ⟨f0,f1,f2,f3,f4,f5⟩:=hf it (by simp)
  refine wpAny_pyNext_tuple_item st (show s.heap.IsTuple a its.toArray from p) (x:=u) (by simpa using hu) fun h' st' sb=>?_
  have I1:Inv X pins σ H { s with heap:=h' }:=I.turned (t':=s.toks) (fun b o hb e=>(sb.2 b hb).trans e) f0 f1 f3 f4 f5
  obtain ⟨o,e,c,d⟩:=id st'
  exact ⟨u,rfl,go_of (s:={ s with heap:=h' }) e c d (by decide) ⟨x,H,I1,ru,⟨rfl,fun ys hy=>by rw[I.tuple_inj hy hq];exact hx⟩,st',fun b hb=>(hf b hb).1⟩⟩
 done:=by
  intro X hP hw hK hc i pins s σ H E I hf st hg
  subst hP hw hK
  obtain ⟨xs,hq,hx⟩:=hg
  obtain ⟨its,rv,p,hz⟩:=I.tuple hq
  obtain ⟨f0,f1,f2,f3,f4,f5⟩:=hf it (by simp)
  have hl:=rv.length
  exact wpAny_pyNext_tuple_end (I.ok.hd hc) st (show s.heap.IsTuple a its.toArray from p) (by simp;lia) fun h' eb=>⟨rfl,I.turned (t':=s.toks) (fun b o hb e=>eb b o hb e) f0 f1 f3 f4 f5⟩
 self:=fun _ _ _ _ _ st h=>wpAny_pyIter_tupleiter st h
theorem turn_range {P:Program} {w:World} {K:PySem.W.Frag} {tg:Expr} (it:Addr) (lo:Int) (n:Nat):Turn P w K tg (Itr lo n) [it] it (fun i h=>IsRangeIter h it (lo+(i:Nat)*1) ((n:Int) - (i:Nat)) 1) where
 mem:=by simp
 obj:=fun i h st b hb=>by
  have e:b=it:=by simpa using hb
  subst e
  exact ⟨_,st,fun v z=>by
   have z':Data.fields _=Data.cell v:=z
   cases z'⟩
 keep:=fun i h h' st k=>k it (by simp) _ st
 item:=by
  intro X hP hw hK hc i pins s σ H E I hf st hg
  subst hP hw hK
  obtain ⟨f0,f1,f2,f3,f4,f5⟩:=hf it (by simp)
  have W:=Walks.range (prog:=X.prog) (w:=X.w) (I.ok.hd hc) it lo 1 n
  refine W.item i s _ _ hg st fun v h' tk hv st' kk=>?_
  obtain ⟨t,rfl⟩:=hv
  have I1:Inv X pins σ H { s with heap:=h',toks:=tk }:=I.turned (fun b o hb e=>kk b o (by simpa using hb) e) f0 f1 f3 f4 f5
  refine ⟨_,rfl,go_of (s:={ s with heap:=h',toks:=tk }) (n:="range_iterator") st' rfl rfl (by decide) ⟨.int (lo+i),H,I1,⟨t,?_⟩,⟨rfl,rfl⟩,st',fun b hb=>(hf b hb).1⟩⟩
  rw[Int.mul_one]
 done:=by
  intro X hP hw hK hc i pins s σ H E I hf st hg
  subst hP hw hK
  obtain ⟨f0,f1,f2,f3,f4,f5⟩:=hf it (by simp)
  exact wpAny_pyNext_range_end (I.ok.hd hc) st (by have:n<=i:=hg;lia) fun h' eb=>⟨rfl,I.turned (t':=s.toks) (fun b o hb e=>eb b o hb e) f0 f1 f3 f4 f5⟩
 self:=fun _ _ _ _ _ st h=>wpAny_pyIter_rangeiter st h
end L2
namespace L2
open PySem PySem.Spec PyProof.Rows
section
variable {X:Cx} {tg:Expr}
def iList (K:PySem.W.Frag) (tl:TE):TI:=fun σ H R=>tl σ H fun x H1=>∃a,x=.ref a∧(∃xs,SqL K H1 a xs)∧R (Itl K a) H1
def iTup (K:PySem.W.Frag) (tl:TE):TI:=fun σ H R=>tl σ H fun x H1=>∃a,x=.ref a∧(∃xs,SqT K H1 a xs)∧R (Itt K a) H1
theorem pi_list {l:Expr} {tl:TE} (hl:PE X l tl):PI X tg l (iList X.K tl):=by
 intro pins s σ H R I h
 refine thn (hl pins s σ H _ I h) fun v s1 ⟨x,H1,I1,r1,q1⟩=>?_
 obtain ⟨a,e,⟨xs,hq⟩,q⟩:=q1
 subst e
 cases r1
 obtain ⟨its,rv,p,hz⟩:=I1.list hq
 refine wpAny_pyIter_list p.isList ?_
 refine ⟨s1.heap.objs.size,[s1.heap.objs.size],_,_,H1,rfl,I1.kept (t':=s1.toks) fun b o e=>Heap.get?_push_of_some _ e,turn_list a _,⟨_,Heap.get?_push_size _ rfl,rfl,rfl⟩,fun b hb=>?_,q⟩
 have e:b=s1.heap.objs.size:=by simpa using hb
 subst e
 exact I1.fpOk (Nat.le_refl _) (I1.hok.fresh (Nat.le_refl _))
theorem pi_tup {l:Expr} {tl:TE} (hl:PE X l tl):PI X tg l (iTup X.K tl):=by
 intro pins s σ H R I h
 refine thn (hl pins s σ H _ I h) fun v s1 ⟨x,H1,I1,r1,q1⟩=>?_
 obtain ⟨a,e,⟨xs,hq⟩,q⟩:=q1
 subst e
 cases r1
 obtain ⟨its,rv,p,hz⟩:=I1.tuple hq
 refine wpAny_pyIter_tuple (show s1.heap.IsTuple a its.toArray from p) ?_
 refine ⟨s1.heap.objs.size,[s1.heap.objs.size],_,_,H1,rfl,I1.kept (t':=s1.toks) fun b o e=>Heap.get?_push_of_some _ e,turn_tuple a _,⟨_,Heap.get?_push_size _ rfl,rfl,rfl⟩,fun b hb=>?_,q⟩
 have e:b=s1.heap.objs.size:=by simpa using hb
 subst e
 exact I1.fpOk (Nat.le_refl _) (I1.hok.fresh (Nat.le_refl _))
theorem range_it {pins:List (Addr×Obj)} {σ:St} {H:Hp} {s:Shared} {R:It->Hp->Prop} {E:Value->Shared->Prop} {lo hi:Int} {t u v:Tok} {tk:Nat} (I:Inv X pins σ H s) (h1:-(2^62)<=lo) (h2:lo < 2^62) (h3:-(2^62)<=hi) (h4:hi < 2^62)
  (q:R (Itr lo (hi - lo).toNat) H):wpAny (model X.prog X.w) X.A (pyIter (.ref s.heap.objs.size)) (PIE X pins σ tg R) E { s with heap:=s.heap.push { cls:=.type "range",data:=.fields #[.int lo t,.int hi u,.int 1 v] },toks:=tk }:=by
 refine wpAny_pyIter_range (IsRange.new ..) (small_one h1 h2 h3 h4) ?_
 have I1:Inv X pins σ H { s with heap:=s.heap.push { cls:=.type "range",data:=.fields #[.int lo t,.int hi u,.int 1 v] },toks:=tk }:=I.kept fun b o e=>Heap.get?_push_of_some _ e
 refine ⟨(s.heap.push { cls:=.type "range",data:=.fields #[.int lo t,.int hi u,.int 1 v] }).objs.size,[(s.heap.push { cls:=.type "range",data:=.fields #[.int lo t,.int hi u,.int 1 v] }).objs.size],_,_,H,rfl,
  I1.kept (t':=tk) fun b o e=>Heap.get?_push_of_some _ e,turn_range _ lo (hi - lo).toNat,?_,fun b hb=>?_,q⟩
 ·have e1:lo+((0:Nat):Int)*1=lo:=by simp
  have e2:(((hi - lo).toNat:Nat):Int) - ((0:Nat):Int)=Builtin.Range.rangeSize lo hi 1:=by rw[rangeSize_one];split <;> lia
  show IsRangeIter _ _ (lo+((0:Nat):Int)*1) ((((hi - lo).toNat:Nat):Int) - ((0:Nat):Int)) 1
  rw[e1,e2]
  exact Heap.get?_push_size _ rfl
 ·have e:b=(s.heap.push { cls:=.type "range",data:=.fields #[.int lo t,.int hi u,.int 1 v] }).objs.size:=by simpa using hb
  subst e
  exact I1.fpOk (Nat.le_refl _) (I1.hok.fresh (Nat.le_refl _))
def iRng1 (ta:TA):TI:=fun σ H R=>ta σ H fun vs H1=>∃j:Int,vs=[.int j]∧-(2^62)<=j∧j < 2^62∧R (Itr 0 j.toNat) H1
def iRng2 (ta:TA):TI:=fun σ H R=>ta σ H fun vs H1=>∃i j:Int,vs=[.int i,.int j]∧(-(2^62)<=i∧i < 2^62∧-(2^62)<=j∧j < 2^62)∧R (Itr i (j - i).toNat) H1
theorem pi_range1 {a:Expr} {ta:TA} {p pos:Pos} (hg:Gl X "range") (hm:X.mg "range"=none) (ha:PA X [a] ta) (hs:starEach [a] X.env=[(false,eval a X.env)]:=by rfl):PI X tg (.Call (.Name "range" p) [a] [] pos) (iRng1 ta):=by
 intro pins s σ H R I h
 refine Call_ (ld_blt I hg hm boot_range (PyProof.Rows.callWith_type1 (thn (ha pos pins s σ H _ I h) fun us s1 ⟨vs,H1,I1,r1,q1⟩=>?_) hs rfl))
 obtain ⟨j,e,q1,q2,q⟩:=q1
 subst e
 cases r1 with
 | cons r rr =>
  cases rr
  obtain ⟨t,rfl⟩:=r
  exact call_range_1 (range_it I1 (by lia) (by lia) q1 q2 (by simpa using q))
theorem pi_range2 {a b:Expr} {ta:TA} {p pos:Pos} (hg:Gl X "range") (hm:X.mg "range"=none) (ha:PA X [a,b] ta) (hs:starEach [a,b] X.env=[(false,eval a X.env),(false,eval b X.env)]:=by rfl) (hs2:starEach [b] X.env=[(false,eval b X.env)]:=by rfl) :
  PI X tg (.Call (.Name "range" p) [a,b] [] pos) (iRng2 ta):=by
 intro pins s σ H R I h
 refine Call_ (ld_blt I hg hm boot_range (PyProof.Rows.callWith_type1 (thn (ha pos pins s σ H _ I h) fun us s1 ⟨vs,H1,I1,r1,q1⟩=>?_) (by rw[hs,hs2]) (by rw[hs2];rfl)))
 obtain ⟨i,j,e,⟨q1,q2,q3,q4⟩,q⟩:=q1
 subst e
 cases r1 with
 | cons r rr =>
  cases rr with
  | cons r' rr =>
   cases rr
   obtain ⟨t,rfl⟩:=r
   obtain ⟨t',rfl⟩:=r'
   exact call_range_2 (range_it I1 q1 q2 q3 q4 q)
def tFor (wi:TI) (g:TG) (tb:TS):TS:=fun D σ H=>wi σ H fun J H1=>∃W:Nat->Nat->St->Hp->Prop,(∃m,W 0 m σ H1)∧∀i m σ H,W i m σ H →
 (J.stop i H∧D.nx σ H)∨(J.go i H∧∃N:St->Hp->Prop,(∀σ' H',N σ' H'->∃m',m' < m∧W (i+1) m' σ' H')∧∀x H',J.yld i H x H'->g x σ H' fun σ2 H2=>tb { D with nx:=N,ct:=N,bk:=D.nx } σ2 H2)
def pinsAt (fp:List Addr) (h:Heap):List (Addr×Obj):=fp.filterMap fun b=>(h.get? b).map fun o=>(b,o)
theorem mem_pinsAt {fp:List Addr} {h:Heap} {b:Addr} {o:Obj} (hb:b∈fp) (e:h.get? b=some o):(b,o)∈pinsAt fp h:=List.mem_filterMap.mpr ⟨b,hb,by rw[e];rfl⟩
theorem of_pinsAt {fp:List Addr} {h:Heap} {p:Addr×Obj} (hp:p∈pinsAt fp h):p.1∈fp∧h.get? p.1=some p.2:=by
 obtain ⟨b,hb,e⟩:=List.mem_filterMap.mp hp
 cases q:h.get? b with
 | none=>rw[q] at e;cases e
 | some o =>
  rw[q] at e
  have e':(b,o)=p:=Option.some.inj e
  subst e'
  exact ⟨hb,q⟩
theorem Inv.pinned {pins:List (Addr×Obj)} {σ:St} {H:Hp} {s:Shared} {fp:List Addr} (I:Inv X pins σ H s) (hf:∀b∈fp,FpOk X pins H b) (ho:∀b∈fp,∃o,s.heap.get? b=some o∧∀v,o.data≠.cell v):Inv X (pins++pinsAt fp s.heap) σ H s :=
 I.pins_of fun p hp=>(List.mem_append.mp hp).elim (fun z=>I.pin p (List.mem_append_right _ z)) fun z=>by
  obtain ⟨hb,e⟩:=of_pinsAt z
  obtain ⟨f0,f1,f2,_⟩:=hf p.1 hb
  obtain ⟨o,e',d⟩:=ho p.1 hb
  rw[e] at e';cases e'
  exact ⟨e,f0,f1,f2,d⟩
theorem Inv.unpinned {pins pl:List (Addr×Obj)} {σ:St} {H:Hp} {s:Shared} (I:Inv X (pins++pl) σ H s):Inv X pins σ H s:=I.pins_of fun p hp=>I.pin p (List.mem_append_right _ (List.mem_append_left _ hp))
theorem ps_for {iter : Expr} {body : List Stmt} {wi : TI} {g : TG} {tb : TS} {pos : Pos} (hp : PassesOwn (model X.prog X.w) X.A X.env X.xe) (hc : X.calm = true) (hi : PI X tg iter wi) (hg : PG X tg g) (hb : PSs X body tb)
    (hs : ∀ x, foldedSetIterable iter X.env x = pure x := by intro _; rfl) : PS X (.For tg iter body [] pos) (tFor wi g tb) := by
  intro pins s σ H D I h
  refine wpAny_For (thn (hi pins s σ H _ I h) fun v s1 h1 => thn h1 fun itv s2 h2 => ?_) hs
  obtain ⟨it, fp, tn, J, H2, e, I2, T, st2, f2, W, ⟨m0, w0⟩, turn⟩ := h2
  subst e
  -- what stays true of the iterator's objects through the loop
  have stat : ∀ {H' : Hp}, (∀ b ∈ fp, H' b = none) → ∀ b ∈ fp, FpOk X pins H' b := fun hn b hb => ⟨hn b hb, (f2 b hb).2⟩
  refine codeAny_forLoop_any (fun n s' => ∃ i σ' H', Inv X pins σ' H' s' ∧ tn i s'.heap ∧ (∀ b ∈ fp, H' b = none) ∧ W i n σ' H') ?_ m0 ⟨0, σ, H2, I2, st2, fun b hb => (f2 b hb).1, w0⟩
  rintro n s3 ⟨i, σ3, H3, I3, st3, fr3, w3⟩
  rcases turn i n σ3 H3 w3 with ⟨stop, qn⟩ | ⟨go, N, hN, step⟩
  · refine wpAny_passesOwn hp (thn (T.done X rfl rfl rfl hc i pins s3 σ3 H3 X.xe I3 (stat fr3) st3 stop) fun r s4 ⟨hr, I4⟩ => ?_)
    subst hr
    exact wpAny_execs_nil ⟨σ3, H3, I4, qn⟩
  · refine wpAny_passesOwn hp (thn (T.item X rfl rfl rfl hc i pins s3 σ3 H3 X.xe I3 (stat fr3) st3 go) fun r s4 ⟨u, hr, h4⟩ => ?_)
    subst hr
    refine wpAny_passesOwn hp (thn h4 fun _ s5 ⟨x, H5, I5, r5, y5, st5, fr5⟩ => ?_)
    have I5' := I5.pinned (stat fr5) (T.obj _ _ st5)
    refine wpAny_passesOwn hp (thn (hg _ s5 σ3 H5 x u _ I5' r5 (step x H5 y5)) fun _ s6 ⟨σ6, H6, I6, q6⟩ => ?_)
    refine wpAny_passesOwn hp (thn (hb _ s6 σ6 H6 _ I6 q6) fun f s7 q7 => ?_)
    have again : ∀ {σ7 : St} {H7 : Hp}, Inv X (pins ++ pinsAt fp s5.heap) σ7 H7 s7 → N σ7 H7 → ∃ m, m < n ∧ ∃ i σ' H', Inv X pins σ' H' s7 ∧ tn i s7.heap ∧ (∀ b ∈ fp, H' b = none) ∧ W i m σ' H' := fun {σ7 H7} I7 n7 => by
      obtain ⟨m', hm, w7⟩ := hN σ7 H7 n7
      refine ⟨m', hm, i + 1, σ7, H7, I7.unpinned, T.keep _ _ _ st5 fun b hb o e => (I7.pin (b, o) (List.mem_append_right _ (List.mem_append_right _ (mem_pinsAt hb e)))).1, fun b hb => ?_, w7⟩
      obtain ⟨o, e, d⟩ := T.obj _ _ st5 b hb
      exact (I7.pin (b, o) (List.mem_append_right _ (List.mem_append_right _ (mem_pinsAt hb e)))).2.1
    cases f with
    | next => obtain ⟨σ7, H7, I7, n7⟩ := q7; exact again I7 n7
    | cont => obtain ⟨σ7, H7, I7, n7⟩ := q7; exact again I7 n7
    | brk => obtain ⟨σ7, H7, I7, q7⟩ := q7; exact ⟨σ7, H7, I7.unpinned, q7⟩
    | ret v => obtain ⟨x7, σ7, H7, I7, r7, q7⟩ := q7; exact ⟨x7, σ7, H7, I7.unpinned, r7, q7⟩
end
theorem for_list {K:PySem.W.Frag} {a:Addr} {xs:List V} {g:TG} {tb:TS} {D:Ends} {σ:St} {H:Hp} (Pv:Nat->St->Hp->Prop) (h0:Pv 0 σ H) (hl:∀i σ H,i<=xs.length->Pv i σ H->SqL K H a xs)
  (hs:∀i x σ H,xs[i]?=some x->Pv i σ H->g x σ H fun σ2 H2=>tb { D with nx:=Pv (i+1),ct:=Pv (i+1),bk:=D.nx } σ2 H2) (hd:∀σ H,Pv xs.length σ H->D.nx σ H) :
  ∃W:Nat->Nat->St->Hp->Prop,(∃m,W 0 m σ H)∧∀i m σ H,W i m σ H →
   ((Itl K a).stop i H∧D.nx σ H)∨((Itl K a).go i H∧∃N:St->Hp->Prop,(∀σ' H',N σ' H'->∃m',m' < m∧W (i+1) m' σ' H')∧∀x H',(Itl K a).yld i H x H'->g x σ H' fun σ2 H2=>tb { D with nx:=N,ct:=N,bk:=D.nx } σ2 H2):=by
 refine ⟨fun i m σ H=>m=xs.length - i∧i<=xs.length∧Pv i σ H,⟨xs.length,by simp,Nat.zero_le _,h0⟩,?_⟩
 rintro i m σ H ⟨rfl,hi,p⟩
 have q:=hl i σ H hi p
 by_cases hlt:i < xs.length
 ·refine .inr ⟨⟨xs,xs[i],q,by simp [hlt]⟩,Pv (i+1),fun σ' H' p'=>⟨xs.length - (i+1),by lia,rfl,hlt,p'⟩,fun x H' y=>?_⟩
  obtain ⟨e,y⟩:=y
  subst e
  exact hs i x σ _ (y xs q) p
 ·have e:i=xs.length:=by lia
  subst e
  exact .inl ⟨⟨xs,q,Nat.le_refl _⟩,hd σ H p⟩
theorem for_tup {K:PySem.W.Frag} {a:Addr} {xs:List V} {g:TG} {tb:TS} {D:Ends} {σ:St} {H:Hp} (Pv:Nat->St->Hp->Prop) (h0:Pv 0 σ H) (hl:∀i σ H,i<=xs.length->Pv i σ H->SqT K H a xs)
  (hs:∀i x σ H,xs[i]?=some x->Pv i σ H->g x σ H fun σ2 H2=>tb { D with nx:=Pv (i+1),ct:=Pv (i+1),bk:=D.nx } σ2 H2) (hd:∀σ H,Pv xs.length σ H->D.nx σ H) :
  ∃W:Nat->Nat->St->Hp->Prop,(∃m,W 0 m σ H)∧∀i m σ H,W i m σ H →
   ((Itt K a).stop i H∧D.nx σ H)∨((Itt K a).go i H∧∃N:St->Hp->Prop,(∀σ' H',N σ' H'->∃m',m' < m∧W (i+1) m' σ' H')∧∀x H',(Itt K a).yld i H x H'->g x σ H' fun σ2 H2=>tb { D with nx:=N,ct:=N,bk:=D.nx } σ2 H2):=by
 refine ⟨fun i m σ H=>m=xs.length - i∧i<=xs.length∧Pv i σ H,⟨xs.length,by simp,Nat.zero_le _,h0⟩,?_⟩
 rintro i m σ H ⟨rfl,hi,p⟩
 have q:=hl i σ H hi p
 by_cases hlt:i < xs.length
 ·refine .inr ⟨⟨xs,xs[i],q,by simp [hlt]⟩,Pv (i+1),fun σ' H' p'=>⟨xs.length - (i+1),by lia,rfl,hlt,p'⟩,fun x H' y=>?_⟩
  obtain ⟨e,y⟩:=y
  subst e
  exact hs i x σ _ (y xs q) p
 ·have e:i=xs.length:=by lia
  subst e
  exact .inl ⟨⟨xs,q,Nat.le_refl _⟩,hd σ H p⟩
theorem for_range {lo:Int} {n:Nat} {g:TG} {tb:TS} {D:Ends} {σ:St} {H:Hp} (Pv:Nat->St->Hp->Prop) (h0:Pv 0 σ H)
  (hs:∀i σ H,i < n->Pv i σ H->g (.int (lo+i)) σ H fun σ2 H2=>tb { D with nx:=Pv (i+1),ct:=Pv (i+1),bk:=D.nx } σ2 H2) (hd:∀σ H,Pv n σ H->D.nx σ H) :
  ∃W:Nat->Nat->St->Hp->Prop,(∃m,W 0 m σ H)∧∀i m σ H,W i m σ H →
   ((Itr lo n).stop i H∧D.nx σ H)∨((Itr lo n).go i H∧∃N:St->Hp->Prop,(∀σ' H',N σ' H'->∃m',m' < m∧W (i+1) m' σ' H')∧∀x H',(Itr lo n).yld i H x H'->g x σ H' fun σ2 H2=>tb { D with nx:=N,ct:=N,bk:=D.nx } σ2 H2):=by
 refine ⟨fun i m σ H=>m=n - i∧i<=n∧Pv i σ H,⟨n,by simp,Nat.zero_le _,h0⟩,?_⟩
 rintro i m σ H ⟨rfl,hi,p⟩
 by_cases hlt:i < n
 ·refine .inr ⟨hlt,Pv (i+1),fun σ' H' p'=>⟨n - (i+1),by lia,rfl,hlt,p'⟩,fun x H' y=>?_⟩
  obtain ⟨e,y⟩:=y
  subst e y
  exact hs i σ _ hlt p
 ·have e:i=n:=by lia
  subst e
  exact .inl ⟨Nat.le_refl _,hd σ H p⟩
end L2
namespace L2
open PySem PySem.Spec PyProof.Rows
abbrev R2:=V->V->Hp->VK->Prop
def OpR (X:Cx) (f:Value->Value->Sem Value) (r:R2):Prop :=
 ∀(pins:List (Addr×Obj)) (s:Shared) (σ:St) (H:Hp) (x y:V) (v u:Value) (Q:VK),Inv X pins σ H s->RelV x v->RelV y u->r x y H Q →
  wpAny (model X.prog X.w) X.A (f v u) (EP X pins σ Q) X.xe s
def UnR (X:Cx) (f:Value->Sem Value) (r:V->Hp->VK->Prop):Prop :=
 ∀(pins:List (Addr×Obj)) (s:Shared) (σ:St) (H:Hp) (x:V) (v:Value) (Q:VK),Inv X pins σ H s->RelV x v->r x H Q →
  wpAny (model X.prog X.w) X.A (f v) (EP X pins σ Q) X.xe s
def CallR (X:Cx) (f:Value) (r:List V->Hp->VK->Prop):Prop :=
 ∀(pins:List (Addr×Obj)) (s:Shared) (σ:St) (H:Hp) (xs:List V) (us:List Value) (Q:VK),Inv X pins σ H s->Vals xs us->r xs H Q →
  wpAny (model X.prog X.w) X.A (call f us) (EP X pins σ Q) X.xe s
def tOp (r:R2) (ta tb:TE):TE:=fun σ H Q=>ta σ H fun x H1=>tb σ H1 fun y H2=>r x y H2 Q
def tUn (r:V->Hp->VK->Prop) (ta:TE):TE:=fun σ H Q=>ta σ H fun x H1=>r x H1 Q
def rI (C:Int->Int->Prop) (g:Int->Int->V):R2:=fun x y H Q=>∃i j,x=.int i∧y=.int j∧C i j∧Q (g i j) H
def rI0 (g:Int->Int->V):R2:=fun x y H Q=>∃i j,x=.int i∧y=.int j∧Q (g i j) H
def rU (g:Int->V):V->Hp->VK->Prop:=fun x H Q=>∃i,x=.int i∧Q (g i) H
section
variable {X:Cx} {a b c:Expr} {ta tb tc:TE} {pos:Pos}
theorem binT (ha:PE X a ta) (hb:PE X b tb) {pins:List (Addr×Obj)} {s:Shared} {σ:St} {H:Hp} {R:V->V->Hp->Prop} (I:Inv X pins σ H s)
  (h:ta σ H fun x H1=>tb σ H1 fun y H2=>R x y H2) {Q:Value->Shared->Prop} {f:Value->Value->Sem Value}
  (hf:∀v u s2 x y H2,Inv X pins σ H2 s2->RelV x v->RelV y u->R x y H2->wpAny (model X.prog X.w) X.A (f v u) Q X.xe s2) :
  wpAny (model X.prog X.w) X.A (eval a X.env) (fun v s₁=>wpAny (model X.prog X.w) X.A (eval b X.env) (fun u s₂=>wpAny (model X.prog X.w) X.A (f v u) Q X.xe s₂) X.xe s₁) X.xe s:=by
 refine thn (ha pins s σ H _ I h) fun v s1 ⟨x,H1,I1,r1,q1⟩=>?_
 refine thn (hb pins s1 σ H1 _ I1 q1) fun u s2 ⟨y,H2,I2,r2,q2⟩=>?_
 exact hf v u s2 x y H2 I2 r1 r2 q2
theorem pe_op {op:Operator} {r:R2} (ho:OpR X (binaryOp op) r) (ha:PE X a ta) (hb:PE X b tb):PE X (.BinOp a op b pos) (tOp r ta tb):=by
 intro pins s σ H Q I h
 exact wpAny_BinOp (binT ha hb I h fun v u s2 x y H2 I2 rx ry q=>ho pins s2 σ H2 x y v u Q I2 rx ry q)
theorem pe_un {op:UnaryOp} {r:V->Hp->VK->Prop} (ho:UnR X (unaryOp op) r) (ha:PE X a ta):PE X (.UnaryOp op a pos) (tUn r ta):=by
 intro pins s σ H Q I h
 exact UnaryOp_ (thn (ha pins s σ H _ I h) fun v s1 ⟨x,H1,I1,r1,q1⟩=>ho pins s1 σ H1 x v Q I1 r1 q1)
theorem opI {f:Value->Value->Sem Value} {C:Int->Int->Prop} {g:Int->Int->Int}
  (rule:∀(i j:Int) (t u:Tok) (s:Shared) (Q:Value->Shared->Prop) (E:Value->Shared->Prop),C i j->Q (.int (g i j) s.toks) { s with toks:=s.toks+1 }->wpAny (model X.prog X.w) X.A (f (.int i t) (.int j u)) Q E s) :
  OpR X f (rI C fun i j=>.int (g i j)):=by
 intro pins s σ H x y v u Q I rx ry h
 obtain ⟨i,j,rfl,rfl,hc,q⟩:=h
 obtain ⟨t,rfl⟩:=rx
 obtain ⟨t',rfl⟩:=ry
 exact rule i j t t' s _ _ hc ⟨.int (g i j),H,I.tok _,⟨_,rfl⟩,q⟩
theorem opI0 {f:Value->Value->Sem Value} {g:Int->Int->Int}
  (rule:∀(i j:Int) (t u:Tok) (s:Shared) (Q:Value->Shared->Prop) (E:Value->Shared->Prop),Q (.int (g i j) s.toks) { s with toks:=s.toks+1 }->wpAny (model X.prog X.w) X.A (f (.int i t) (.int j u)) Q E s) :
  OpR X f (rI0 fun i j=>.int (g i j)):=by
 intro pins s σ H x y v u Q I rx ry h
 obtain ⟨i,j,rfl,rfl,q⟩:=h
 obtain ⟨t,rfl⟩:=rx
 obtain ⟨t',rfl⟩:=ry
 exact rule i j t t' s _ _ ⟨.int (g i j),H,I.tok _,⟨_,rfl⟩,q⟩
theorem opB0 {f:Value->Value->Sem Value} {g:Int->Int->Bool}
  (rule:∀(i j:Int) (t u:Tok) (s:Shared) (Q:Value->Shared->Prop) (E:Value->Shared->Prop),Q (.bool (g i j)) s->wpAny (model X.prog X.w) X.A (f (.int i t) (.int j u)) Q E s) :
  OpR X f (rI0 fun i j=>.bl (g i j)):=by
 intro pins s σ H x y v u Q I rx ry h
 obtain ⟨i,j,rfl,rfl,q⟩:=h
 obtain ⟨t,rfl⟩:=rx
 obtain ⟨t',rfl⟩:=ry
 exact rule i j t t' s _ _ ⟨.bl (g i j),H,I,rfl,q⟩
def CPow (i j:Int):Prop:=0<=j∧j<=1000000∧i.natAbs < 2^64
def CMul (i j:Int):Prop:=(-(2^64) < i∧i < 2^64)∨(-(2^64) < j∧j < 2^64)
theorem CMul.ok {i j:Int} (h:CMul i j):IntMulOk i j:=by
 rcases h with ⟨h1,h2⟩ | ⟨h1,h2⟩
 ·exact .of_left (intBits_le_64 h1 h2)
 ·exact .of_right (intBits_le_64 h1 h2)
theorem op_add:OpR X (binaryOp .Add) (rI0 fun i j=>.int (i+j)):=opI0 fun _ _ _ _ _ _ _ q=>add_int q
theorem op_sub:OpR X (binaryOp .Sub) (rI0 fun i j=>.int (i - j)):=opI0 fun _ _ _ _ _ _ _ q=>sub_int q
theorem op_mod:OpR X (binaryOp .Mod) (rI (fun _ j=>0 < j) fun i j=>.int (i % j)):=opI fun i j _ _ _ _ _ hc q=>by
 have h1:(0:Int) < j:=hc
 exact mod_int' (by lia) (by rw[Int.fmod_eq_emod_of_nonneg i (by lia)];exact q)
theorem op_modN:OpR X (binaryOp .Mod) (rI (fun _ j=>j≠0) fun i j=>.int (i.fmod j)):=opI fun _ _ _ _ _ _ _ hc q=>mod_int' hc q
theorem unI {f:Value->Sem Value} {g:Int->Int}
  (rule:∀(i:Int) (t:Tok) (s:Shared) (Q:Value->Shared->Prop) (E:Value->Shared->Prop),Q (.int (g i) s.toks) { s with toks:=s.toks+1 }->wpAny (model X.prog X.w) X.A (f (.int i t)) Q E s) :
  UnR X f (rU fun i=>.int (g i)):=by
 intro pins s σ H x v Q I rx h
 obtain ⟨i,rfl,q⟩:=h
 obtain ⟨t,rfl⟩:=rx
 exact rule i t s _ _ ⟨.int (g i),H,I.tok _,⟨_,rfl⟩,q⟩
theorem un_neg:UnR X (unaryOp .USub) (rU fun i=>.int (-i)):=unI fun _ _ _ _ _ q=>neg_int q
end
def scal:V->V->Bool
 | .non,.non=>true | .non,.int _=>true | .int _,.non=>true | .non,.bl _=>true | .bl _,.non=>true | .non,.str _=>true | .str _,.non=>true
 | .int _,.int _=>true | .bl _,.bl _=>true | .str _,.str _=>true | .byt _,.byt _=>true
 | .int _,.str _=>true | .str _,.int _=>true | .bl _,.str _=>true | .str _,.bl _=>true
 | _,_=>false
def rEq:R2:=fun x y H Q=>scal x y=true∧Q (.bl (decide (x=y))) H
def rNe:R2:=fun x y H Q=>scal x y=true∧Q (.bl (!decide (x=y))) H
theorem dec_int {i j:Int}:decide (V.int i=V.int j)=(i == j):=by
 rw[Bool.eq_iff_iff]
 simp
theorem dec_bl {i j:Bool}:decide (V.bl i=V.bl j)=(i == j):=by
 rw[Bool.eq_iff_iff]
 simp
theorem dec_str {i j:Str}:decide (V.str i=V.str j)=(i == j):=by
 rw[Bool.eq_iff_iff]
 simp
theorem dec_byt {i j:Array UInt8}:decide (V.byt i=V.byt j)=(i.toList == j.toList):=by
 rw[Bool.eq_iff_iff]
 cases i
 cases j
 simp
section
variable {X:Cx} {a b c:Expr} {ta tb tc:TE} {pos:Pos}
theorem fin_bl {pins:List (Addr×Obj)} {σ:St} {H:Hp} {s:Shared} {Q:VK} {k k':Bool} (I:Inv X pins σ H s) (q:Q (.bl k) H) (e:k=k'):EP X pins σ Q (.bool k') s:=by
 subst e
 exact ⟨.bl k,H,I,rfl,q⟩
theorem op_eq:OpR X (compareOp .Eq) rEq:=by
 intro pins s σ H x y v u Q I rx ry h
 obtain ⟨hs,q⟩:=h
 cases x with
 | non =>
  cases rx
  cases y with
  | non=>cases ry;exact PySem.EqNone.eq_none_none (fin_bl I q (by simp))
  | bl j=>cases ry;exact PySem.EqNone.eq_none_bool (fin_bl I q (by simp))
  | int j=>obtain ⟨t',rfl⟩:=ry;exact PySem.EqNone.eq_none_int (fin_bl I q (by simp))
  | str j=>obtain ⟨t',rfl⟩:=ry;exact PySem.EqNone.eq_none_str (fin_bl I q (by simp))
  | _=>exact absurd (show false=true from hs) Bool.false_ne_true
 | bl i =>
  cases rx
  cases y with
  | non=>cases ry;exact PySem.EqNone.eq_bool_none (fin_bl I q (by simp))
  | bl j=>cases ry;exact eq_bool (fin_bl I q dec_bl)
  | str j=>obtain ⟨t',rfl⟩:=ry;exact PySem.EqMixed.eq_bool_str (fin_bl I q (by simp))
  | _=>exact absurd (show false=true from hs) Bool.false_ne_true
 | int i =>
  obtain ⟨t,rfl⟩:=rx
  cases y with
  | non=>cases ry;exact PySem.EqNone.eq_int_none (fin_bl I q (by simp))
  | int j=>obtain ⟨t',rfl⟩:=ry;exact eq_int (fin_bl I q dec_int)
  | str j=>obtain ⟨t',rfl⟩:=ry;exact PySem.EqMixed.eq_int_str (fin_bl I q (by simp))
  | _=>exact absurd (show false=true from hs) Bool.false_ne_true
 | str i =>
  obtain ⟨t,rfl⟩:=rx
  cases y with
  | non=>cases ry;exact PySem.EqNone.eq_str_none (fin_bl I q (by simp))
  | bl j=>cases ry;exact PySem.EqMixed.eq_str_bool (fin_bl I q (by simp))
  | int j=>obtain ⟨t',rfl⟩:=ry;exact PySem.EqMixed.eq_str_int (fin_bl I q (by simp))
  | str j=>obtain ⟨t',rfl⟩:=ry;exact eq_str (fin_bl I q dec_str)
  | _=>exact absurd (show false=true from hs) Bool.false_ne_true
 | byt i =>
  obtain ⟨t,rfl⟩:=rx
  cases y with
  | byt j=>obtain ⟨t',rfl⟩:=ry;exact PySem.W.eq_bytes (fin_bl I q dec_byt)
  | _=>exact absurd (show false=true from hs) Bool.false_ne_true
 | _=>cases y <;> exact absurd (show false=true from hs) Bool.false_ne_true
theorem op_ne:OpR X (compareOp .NotEq) rNe:=by
 intro pins s σ H x y v u Q I rx ry h
 obtain ⟨hs,q⟩:=h
 cases x with
 | non =>
  cases rx
  cases y with
  | non=>cases ry;exact PySem.EqNone.ne_none_none (fin_bl I q (by simp))
  | bl j=>cases ry;exact PySem.EqNone.ne_none_bool (fin_bl I q (by simp))
  | int j=>obtain ⟨t',rfl⟩:=ry;exact PySem.EqNone.ne_none_int (fin_bl I q (by simp))
  | str j=>obtain ⟨t',rfl⟩:=ry;exact PySem.EqNone.ne_none_str (fin_bl I q (by simp))
  | _=>exact absurd (show false=true from hs) Bool.false_ne_true
 | bl i =>
  cases rx
  cases y with
  | non=>cases ry;exact PySem.EqNone.ne_bool_none (fin_bl I q (by simp))
  | bl j=>cases ry;exact ne_bool (fin_bl I q (congrArg not dec_bl))
  | str j=>obtain ⟨t',rfl⟩:=ry;exact PySem.EqMixed.ne_bool_str (fin_bl I q (by simp))
  | _=>exact absurd (show false=true from hs) Bool.false_ne_true
 | int i =>
  obtain ⟨t,rfl⟩:=rx
  cases y with
  | non=>cases ry;exact PySem.EqNone.ne_int_none (fin_bl I q (by simp))
  | int j=>obtain ⟨t',rfl⟩:=ry;exact ne_int (fin_bl I q (congrArg not dec_int))
  | str j=>obtain ⟨t',rfl⟩:=ry;exact PySem.EqMixed.ne_int_str (fin_bl I q (by simp))
  | _=>exact absurd (show false=true from hs) Bool.false_ne_true
 | str i =>
  obtain ⟨t,rfl⟩:=rx
  cases y with
  | non=>cases ry;exact PySem.EqNone.ne_str_none (fin_bl I q (by simp))
  | bl j=>cases ry;exact PySem.EqMixed.ne_str_bool (fin_bl I q (by simp))
  | int j=>obtain ⟨t',rfl⟩:=ry;exact PySem.EqMixed.ne_str_int (fin_bl I q (by simp))
  | str j=>obtain ⟨t',rfl⟩:=ry;exact ne_str (fin_bl I q (congrArg not dec_str))
  | _=>exact absurd (show false=true from hs) Bool.false_ne_true
 | byt i =>
  obtain ⟨t,rfl⟩:=rx
  cases y with
  | byt j=>obtain ⟨t',rfl⟩:=ry;exact PySem.W.ne_bytes (fin_bl I q (congrArg not dec_byt))
  | _=>exact absurd (show false=true from hs) Bool.false_ne_true
 | _=>cases y <;> exact absurd (show false=true from hs) Bool.false_ne_true
theorem op_lt:OpR X (compareOp .Lt) (rI0 fun i j=>.bl (decide (i < j))):=opB0 fun _ _ _ _ _ _ _ q=>lt_int q
theorem op_gt:OpR X (compareOp .Gt) (rI0 fun i j=>.bl (decide (j < i))):=opB0 fun _ _ _ _ _ _ _ q=>gt_int q
theorem op_ge:OpR X (compareOp .GtE) (rI0 fun i j=>.bl (decide (j<=i))):=opB0 fun _ _ _ _ _ _ _ q=>ge_int q
theorem OpR.or {f:Value->Value->Sem Value} {r r':R2} (h:OpR X f r) (h':OpR X f r'):OpR X f (fun x y H Q=>r x y H Q∨r' x y H Q):=by
 intro pins s σ H x y v u Q I rx ry q
 rcases q with q | q
 ·exact h pins s σ H x y v u Q I rx ry q
 ·exact h' pins s σ H x y v u Q I rx ry q
theorem nomark (b:Expr) {op:CmpOp} (h:op≠.In:=by decide) (h2:op≠.NotIn:=by decide):behindInMarks op b=false:=by
 have e1:(op == CmpOp.In)=false:=by cases op <;> first | rfl | exact absurd rfl h
 have e2:(op == CmpOp.NotIn)=false:=by cases op <;> first | rfl | exact absurd rfl h2
 cases b <;> simp [behindInMarks,e1,e2]
theorem pe_cmpR {op:CmpOp} {r:R2} (ho:OpR X (compareOp op) r) (ha:PE X a ta) (hb:PE X b tb) (hm:behindInMarks op b=false):PE X (.Compare a [op] [b] pos) (tOp r ta tb):=by
 intro pins s σ H Q I h
 exact wpAny_Compare1 (binT ha hb I h fun v u s2 x y H2 I2 rx ry q=>ho pins s2 σ H2 x y v u Q I2 rx ry q) hm
def tTest (t:TE):TT:=fun σ H Q=>t σ H fun x H'=>∃k,x=.bl k∧Q k H'
theorem pt_cmpR {op:CmpOp} {r:R2} (ho:OpR X (compareOp op) r) (ha:PE X a ta) (hb:PE X b tb) (hm:behindInMarks op b=false):PT X (.Compare a [op] [b] pos) (tTest (tOp r ta tb)):=by
 intro pins s σ H Q I h
 refine wpAny_isTrue_Compare1 (thn (ha pins s σ H _ I h) fun v s1 ⟨x,H1,I1,r1,q1⟩=>thn (hb pins s1 σ H1 _ I1 q1) fun u s2 ⟨y,H2,I2,r2,q2⟩ =>
  thn (ho pins s2 σ H2 x y v u _ I2 r1 r2 q2) fun c s3 ⟨z,H3,I3,r3,k,e,q3⟩=>?_) hm
 subst e
 cases r3
 exact wpAny_truthy_bool ⟨H3,I3,q3⟩
theorem line63:(sizeLine:Nat) < 2^63:=by rw[sizeLine_eq];decide
theorem vals1 {x:V} {us:List Value} (r:Vals [x] us):∃u,us=[u]∧RelV x u:=by
 cases r with
 | cons r1 r2=>cases r2;exact ⟨_,rfl,r1⟩
theorem vals2 {x y:V} {us:List Value} (r:Vals [x,y] us):∃u w',us=[u,w']∧RelV x u∧RelV y w':=by
 cases r with
 | cons r1 r2 =>
  cases r2 with
  | cons r3 r4=>cases r4;exact ⟨_,_,rfl,r1,r3⟩
theorem call_abs:CallR X (.builtin "abs") (fun xs H Q=>∃i,xs=[.int i]∧Q (.int (if i < 0 then -i else i)) H):=by
 intro pins s σ H xs us Q I r h
 obtain ⟨i,rfl,q⟩:=h
 obtain ⟨u,rfl,t,rfl⟩:=vals1 r
 exact call_abs_int fun u tk=>⟨.int (if i < 0 then -i else i),H,I.tok _,⟨_,rfl⟩,q⟩
theorem call_min2 (hc:X.calm=true):CallR X (.builtin "min") (fun xs H Q=>∃i j,xs=[.int i,.int j]∧Q (.int (if j < i then j else i)) H):=by
 intro pins s σ H xs us Q I r h
 obtain ⟨i,j,rfl,q⟩:=h
 obtain ⟨u,w',rfl,⟨t,rfl⟩,⟨t',rfl⟩⟩:=vals2 r
 refine min_two_ints (I.ok.hd hc) fun h' tk k=>⟨_,H,I.kept k,?_,q⟩
 by_cases hj:j < i
 ·rw[if_pos hj,if_pos hj];exact ⟨_,rfl⟩
 ·rw[if_neg hj,if_neg hj];exact ⟨_,rfl⟩
end
end L2
namespace L2
open PySem PySem.Spec PyProof.Rows
structure ObjM (h:Heap) (x dx C:Addr) (mA:Str->Option Value):Prop where
 obj:h.get? x=some (PySem.W.instObj C dx)
 ns:h.Ns1 dx mA
 ne:dx≠x
theorem lookIn_ns {h:Heap} {dx:Addr} {mA:Str->Option Value} (n:h.Ns1 dx mA):∃od,h.get? dx=some od∧∀name,PySem.W.lookIn name od=some (mA name):=by
 obtain ⟨o,es,ep,ho,hd,hk,_,hm⟩:=n
 refine ⟨o,ho,fun name=>?_⟩
 have e:=hm name
 unfold nsFind findBy at e
 rw[← Array.find?_toList] at e
 unfold PySem.W.lookIn
 rw[hd]
 dsimp only
 split
 ·rename_i y q
  rw[q] at e
  exact congrArg some e
 ·rename_i q
  rw[q] at e
  have a:es.toList.any (·.refKey)=false:=by
   rw[List.any_eq_false]
   intro y hy
   obtain ⟨z,t,hkey⟩:=hk y (Array.mem_toList_iff.mp hy)
   simp [DictEntry.refKey,hkey]
  have a':¬es.toList.any (·.refKey)=true:=by rw[a];exact Bool.false_ne_true
  rw[if_neg a']
  exact congrArg some e
theorem ObjM.look {h:Heap} {x dx C:Addr} {mA:Str->Option Value} (I:ObjM h x dx C mA):∃od,PySem.W.InstAt h x (PySem.W.instObj C dx) C (some od)∧∀name,PySem.W.lookIn name od=some (mA name) :=
 let ⟨od,ho,hl⟩:=lookIn_ns I.ns
 ⟨od,⟨I.obj,rfl,rfl,ho⟩,hl⟩
section
variable {prog:Program} {w:World} {A:Around} {E:Value->Shared->Prop} {s:Shared} {K:PySem.W.Frag} {x dx C f:Addr} {mA:Str->Option Value} {name:Str} {v:Value}
theorem get_map {expr:Bool} {Q:Value->Shared->Prop} (X:K.In s.heap) (I:ObjM s.heap x dx C mA) (hg:PySem.W.plainGet K C name=true) (hh:PySem.W.hasDictIn K C=true)
  (ha:PySem.W.findIn K (.ref C) name=some none) (hv:mA name=some v) (hv':PySem.W.handedIn v=true) (h:Q v { s with toks:=s.toks+1 }) :
  wpAny (model prog w) A (getAttr (.ref x) name expr) Q E s:=by
 obtain ⟨od,J,hl⟩:=I.look
 exact PySem.W.get_value X J (PySem.W.plainGet_of hg).1 (PySem.W.findObj_own hh ha rfl (by rw[hl,hv])) hv' h
theorem get_meth {pl:Sem Bool} {Q:Value×List Value->Shared->Prop} (X:K.In s.heap) (I:ObjM s.heap x dx C mA) (hg:PySem.W.plainGet K C name=true)
  (hf:PySem.W.findIn K (.ref C) name=some (some (.ref f))) (ht:PySem.W.isFn K (.ref f)=true) (hv:mA name=none) (h:Q (.ref f,[.ref x]) s) :
  wpAny (model prog w) A (getMethod (.ref x) name pl) Q E s:=by
 obtain ⟨od,J,hl⟩:=I.look
 exact PySem.W.method_fn X J (PySem.W.plainGet_of hg).1 (PySem.W.plainGet_of hg).2 hf (beq_iff_eq.mp ht) (by show (PySem.W.lookIn name od).map (·.isSome)=some false;rw[hl,hv];rfl) h
theorem set_map {ns:List Str} {Q:Unit->Shared->Prop} (X:K.In s.heap) (I:ObjM s.heap x dx C mA)
  (hs:PySem.W.findIn K (.ref C) "__setattr__"=some (some (.builtin "object.__setattr__"))) (hp:PySem.W.plainOver K C=true) (ht:PySem.W.takerIn K C name=some none) (hh:PySem.W.hasDictIn K C=true)
  (hw:PySem.Within mA ns) (hsz:ns.length<=sizeLine)
  (h:∀h',ObjM h' x dx C (fun y=>if y=name then some v else mA y)->Heap.SameBut dx s.heap h'->Q () { s with heap:=h',toks:=s.toks+2 }) :
  wpAny (model prog w) A (setAttr (.ref x) name v) Q E s:=by
 obtain ⟨od,J,hl⟩:=I.look
 refine PySem.W.set_plain X J hs (PySem.W.osa_open (s:={ s with toks:=s.toks+1 }) (r:=none) X J hp ht fun b=>?_)
 obtain ⟨cd,hc,hd'⟩:=PySem.W.any_some hh
 have hx:s.heap.get? x=some ⟨.ref C,some dx,.plain,#[]⟩:=I.obj
 refine wpAny_bind (wpAny_pure (wpAny_bind (wpAny_bind (wpAny_loadPart hx (wpAny_bind (PySem.W.Looks.here (s:={ s with toks:=s.toks+1 }) (PySem.W.looks_clsIn X hc) ?_))))))
 rw[hd']
 refine wpAny_pure (a:=some dx) (wpAny_bind (wpAny_pure (wpAny_bind ?_)))
 refine wpAny_nsSet1 (s:={ s with toks:=s.toks+1 }) I.ns fun h' hn2 hs2=>?_
 obtain ⟨oD,esD,epD,hoD,hdD,hcD⟩:=hn2.count (PySem.Within.cons name v hw)
 refine wpAny_bind (wpAny_lookBehind hoD (by rw[hdD];exact pastItsLine_dict (Nat.le_trans hcD (by rw[List.length_cons];lia))) ?_)
 exact wpAny_pure (h _ ⟨(hs2.2 _ (Ne.symm I.ne)).trans I.obj,hn2,I.ne⟩ hs2)
theorem make_map {R:Result->Shared->Prop} {vs:List Value} {kw:List (Str×Value)} (X:K.In s.heap) (hm:PySem.W.makesIn K C=true)
  (hi:PySem.W.findIn K (.ref C) "__init__"=some (some (.ref f))) (hf:PySem.W.typeIn K (.ref f)=some (.type "function"))
  (h:codeAny (model prog w) (A.under (.builtin "type.__call__" ⟨.ref C :: vs,kw⟩)) (.call (.ref f) ⟨.ref (s.heap.objs.size+1) :: vs,kw⟩) (PySem.W.InitBack (s.heap.objs.size+1) R)
   { s with heap:=(s.heap.push PySem.W.emptyDict).push (PySem.W.instObj C s.heap.objs.size) }) :
  codeAny (model prog w) A (.call (.ref C) ⟨vs,kw⟩) R s:=by
 obtain ⟨hh,g,d,t,os⟩:=s
 exact PySem.W.make_core (PySem.W.makes_of X hm) (PySem.W.looks_findIn X hi) (fun self=>PySem.W.bind_fn X self hf) (.inl rfl) h
end
def putF (f:Str) (v:V):List (Str×V)->List (Str×V)
 | []=>[(f,v)]
 | (g,x) :: r=>if g=f then (g,v) :: r else (g,x) :: putF f v r
theorem lookup_putF (f g:Str) (v:V):∀fs:List (Str×V),(putF f v fs).lookup g=if g=f then some v else fs.lookup g
 | []=>by
  show List.lookup g [(f,v)]=_
  by_cases h:g=f
  ·have hb:(g == f)=true:=beq_iff_eq.mpr h
   simp only[List.lookup,hb,if_pos h]
  ·have hb:(g == f)=false:=beq_eq_false_iff_ne.mpr h
   simp only[List.lookup,hb,if_neg h]
 | (k,x) :: r=>by
  have ih:=lookup_putF f g v r
  rw[show putF f v ((k,x) :: r)=(if k=f then (k,v) :: r else (k,x) :: putF f v r) from rfl]
  by_cases hk:k=f
  ·rw[if_pos hk]
   by_cases h:g=k
   ·have hb:(g == k)=true:=beq_iff_eq.mpr h
    simp only[List.lookup,hb,if_pos (h.trans hk)]
   ·have hb:(g == k)=false:=beq_eq_false_iff_ne.mpr h
    simp only[List.lookup,hb,if_neg (fun e:g=f=>h (e.trans hk.symm))]
  ·rw[if_neg hk]
   by_cases h:g=k
   ·have hb:(g == k)=true:=beq_iff_eq.mpr h
    simp only[List.lookup,hb,if_neg (fun e:g=f=>hk (h.symm.trans e))]
   ·have hb:(g == k)=false:=beq_eq_false_iff_ne.mpr h
    simp only[List.lookup,hb]
    exact ih
theorem keys_putF (f:Str) (v:V):∀fs:List (Str×V),f∈(putF f v fs).map (·.1)∧∀g,g∈fs.map (·.1)->g∈(putF f v fs).map (·.1)
 | []=>⟨by simp [putF],fun g h=>by simp at h⟩
 | (k,x) :: r=>by
  obtain ⟨i1,i2⟩:=keys_putF f v r
  rw[show putF f v ((k,x) :: r)=(if k=f then (k,v) :: r else (k,x) :: putF f v r) from rfl]
  by_cases hk:k=f
  ·rw[if_pos hk]
   subst hk
   exact ⟨by simp,fun g h=>by simpa using h⟩
  ·rw[if_neg hk]
   refine ⟨?_,fun g h=>?_⟩
   ·rw[List.map_cons]
    exact List.mem_cons_of_mem _ i1
   ·rw[List.map_cons] at h ⊢
    rcases List.mem_cons.mp h with e | e
    ·exact List.mem_cons.mpr (.inl e)
    ·exact List.mem_cons_of_mem _ (i2 g e)
theorem length_putF (f:Str) (v:V):∀fs:List (Str×V),(putF f v fs).length<=fs.length+1
 | []=>by simp [putF]
 | (k,x) :: r=>by
  have ih:=length_putF f v r
  rw[show putF f v ((k,x) :: r)=(if k=f then (k,v) :: r else (k,x) :: putF f v r) from rfl]
  by_cases hk:k=f
  ·rw[if_pos hk,List.length_cons,List.length_cons];lia
  ·rw[if_neg hk,List.length_cons,List.length_cons];lia
theorem RelO.some_of {v:V} {o:Option Value} (r:RelO (some v) o):∃u,o=some u∧RelV v u:=by
 cases o with
 | none=>exact (show False from r).elim
 | some u=>exact ⟨u,rfl,r⟩
theorem RelO.none_of {o:Option Value} (r:RelO none o):o=none:=by
 cases o with
 | none=>rfl
 | some u=>exact (show False from r).elim
theorem handed_of {v:V} {u:Value} (r:RelV v u):PySem.W.handedIn u=true:=by
 cases v with
 | non=>cases (show u=Value.none from r);rfl
 | bl b=>cases (show u=Value.bool b from r);rfl
 | int i=>obtain ⟨t,e⟩:=(show ∃t,u=Value.int i t from r);cases e;rfl
 | str x=>obtain ⟨t,e⟩:=(show ∃t,u=Value.str x t from r);cases e;rfl
 | byt b=>obtain ⟨t,e⟩:=(show ∃t,u=Value.bytes b t from r);cases e;rfl
 | flt b=>obtain ⟨t,e⟩:=(show ∃t,u=Value.float b t from r);cases e;rfl
 | ref a=>cases (show u=Value.ref a from r);rfl
 | ty n=>cases (show u=Value.type n from r);rfl
section
variable {P:Program} {w:World} {H H':Hp} {h h':Heap} {a C dx:Addr} {fs fs':List (Str×V)}
theorem ins_get (hok:HOk P w H h) (e:H a=some (.ins C dx fs)):∃mA,ObjM h a dx C mA∧(∀f,RelO (fs.lookup f) (mA f))∧PySem.Within mA (fs.map (·.1))∧fs.length<=1000∧H dx=some (.own a):=by
 obtain ⟨d,z,ne,ob,mA,n,r,q⟩:=(show ObjOk P w H h a (.ins C dx fs) from hok a _ e)
 exact ⟨mA,⟨ob,n,ne⟩,r,q,z,d⟩
end
structure Cls (K:PySem.W.Frag) (C:Addr):Prop where
 pg:PySem.W.plainGet K C Str.empty=true
 hd:PySem.W.hasDictIn K C=true
 po:PySem.W.plainOver K C=true
 sa:PySem.W.findIn K (.ref C) "__setattr__"=some (some (.builtin "object.__setattr__"))
theorem Cls.get {K:PySem.W.Frag} {C:Addr} (c:Cls K C) (f:Str):PySem.W.plainGet K C f=true:=c.pg
def NoAttr (K:PySem.W.Frag) (C:Addr) (f:Str):Prop:=PySem.W.findIn K (.ref C) f=some none
theorem NoAttr.taker {K:PySem.W.Frag} {C:Addr} {f:Str} (n:NoAttr K C f):PySem.W.takerIn K C f=some none:=by
 unfold PySem.W.takerIn
 rw[show PySem.W.findIn K (.ref C) f=some none from n]
 rfl
structure Con (K:PySem.W.Frag) (C:Addr) (f:Str) (v:V) (u:Value):Prop where
 at_:PySem.W.findIn K (.ref C) f=some (some u)
 rel:RelV v u
 get:PySem.W.specialIn K u "__get__"=some none
 cp:PySem.W.copiedNames.contains f=false
structure Meth (K:PySem.W.Frag) (C:Addr) (m:Str) (f:Addr):Prop where
 at_:PySem.W.findIn K (.ref C) m=some (some (.ref f))
 fn:PySem.W.isFn K (.ref f)=true
 kp:PySem.W.keepIn K (.ref f)=true
section
variable {X:Cx} {pins:List (Addr×Obj)} {σ:St} {H:Hp} {s:Shared} {a C dx:Addr} {fs:List (Str×V)} {f:Str} {v:V} {A:Around} {E:Value->Shared->Prop}
theorem getattr_ok {b:Bool} {Q:Value->Shared->Prop} (I:Inv X pins σ H s) (e:H a=some (.ins C dx fs)) (c:Cls X.K C) (n:NoAttr X.K C f) (l:fs.lookup f=some v)
  (h:∀u s',Inv X pins σ H s'->RelV v u->Q u s'):wpAny (model X.prog X.w) A (getAttr (.ref a) f b) Q E s:=by
 obtain ⟨mA,O,r,_,_,_⟩:=ins_get I.hok e
 obtain ⟨u,hu,ru⟩:=RelO.some_of (v:=v) (o:=mA f) (by rw[← l];exact r f)
 exact get_map I.kIn O (c.get f) c.hd n hu (handed_of ru) (h u _ (I.tok _) ru)
theorem getmeth_ok {m:Str} {g:Addr} {pl:Sem Bool} {Q:Value×List Value->Shared->Prop} (I:Inv X pins σ H s) (e:H a=some (.ins C dx fs)) (c:Cls X.K C) (k:Meth X.K C m g) (l:fs.lookup m=none)
  (h:Q (.ref g,[.ref a]) s):wpAny (model X.prog X.w) A (getMethod (.ref a) m pl) Q E s:=by
 obtain ⟨mA,O,r,_,_,_⟩:=ins_get I.hok e
 have hn:mA m=none:=RelO.none_of (by rw[← l];exact r m)
 exact get_meth I.kIn O (c.get m) k.at_ k.fn hn h
theorem setattr_ok {y:V} {u:Value} {Q:Unit->Shared->Prop} (I:Inv X pins σ H s) (e:H a=some (.ins C dx fs)) (c:Cls X.K C) (n:NoAttr X.K C f) (hl:fs.length < 1000) (ry:RelV y u)
  (h:∀s',Inv X pins σ (upd H a (.ins C dx (putF f y fs))) s'->Q () s'):wpAny (model X.prog X.w) A (setAttr (.ref a) f u) Q E s:=by
 obtain ⟨mA,O,r,wi,_,ho⟩:=ins_get I.hok e
 have hz:(fs.map (·.1)).length<=sizeLine:=by rw[List.length_map,sizeLine_eq];lia
 refine set_map I.kIn O c.sa c.po n.taker c.hd wi hz fun h' O' sb=>h _ ?_
 have hd:∃o,h'.get? dx=some o:=let ⟨o,_,_,e',_⟩:=O'.ns;⟨o,e'⟩
 refine I.write (x:=a) (e:=dx) (by rw[e];exact True.intro) (.inr ho) (fun b q hb z=>(sb.2 b hb).trans z) hd ?_
 refine ⟨by rw[upd_ne O.ne];exact ho,?_,O.ne,O'.obj,_,O'.ns,fun g=>?_,fun g hg=>?_⟩
 ·have:=length_putF f y fs;lia
 ·show RelO ((putF f y fs).lookup g) (if g=f then some u else mA g)
  rw[lookup_putF]
  by_cases q:g=f
  ·rw[if_pos q,if_pos q];exact ry
  ·rw[if_neg q,if_neg q];exact r g
 ·by_cases q:g=f
  ·rw[q];exact (keys_putF f y fs).1
  ·refine (keys_putF f y fs).2 g (wi g fun z=>hg ?_)
   show (if g=f then some u else mA g)=none
   rw[if_neg q];exact z
theorem Inv.made (I:Inv X pins σ H s):Inv X pins σ (upd (upd H s.heap.objs.size (.own (s.heap.objs.size+1))) (s.heap.objs.size+1) (.ins C s.heap.objs.size []))
  { s with heap:=(s.heap.push PySem.W.emptyDict).push (PySem.W.instObj C s.heap.objs.size) }:=by
 have e1:(s.heap.push PySem.W.emptyDict).get? s.heap.objs.size=some PySem.W.emptyDict:=Heap.get?_push_size s.heap rfl
 have e2:((s.heap.push PySem.W.emptyDict).push (PySem.W.instObj C s.heap.objs.size)).get? (s.heap.objs.size+1)=some (PySem.W.instObj C s.heap.objs.size):=by
  have:=Heap.get?_push_size (s.heap.push PySem.W.emptyDict) (o:=PySem.W.instObj C s.heap.objs.size) rfl
  rwa [Heap.size_push] at this
 have e3:(s.heap.push PySem.W.emptyDict).Ns s.heap.objs.size (fun _=>none):=⟨PySem.W.emptyDict,#[],_,e1,rfl,(fun e he=>absurd he (by simp)),fun _=>rfl⟩
 have I1:=I.laid (a:=s.heap.objs.size) (o:=.own (s.heap.objs.size+1)) (h':=s.heap.push PySem.W.emptyDict) (t':=s.toks) (fun b u q=>Heap.get?_push_of_some _ q) (Nat.le_refl _) ⟨_,e1⟩
 refine I1.laid (a:=s.heap.objs.size+1) (o:=.ins C s.heap.objs.size []) (t':=s.toks) (fun b u q=>Heap.get?_push_of_some _ q) (Nat.le_of_eq (Heap.size_push _ _)) ?_
 have ne:s.heap.objs.size≠s.heap.objs.size+1:=Nat.ne_of_lt (Nat.lt_succ_self _)
 refine ⟨by rw[upd_ne ne,upd_same],Nat.zero_le _,ne,e2,fun _=>none,(Heap.Ns1.of_empty e3).at fun o q=>Heap.get?_push_of_some _ q,fun _=>True.intro,fun y hy=>absurd rfl hy⟩
theorem attr_of {prog:Program} {w:World} {env:Env} {e:Expr} {f:Str} {pos:Pos} {s:Shared} {Q:Value->Shared->Prop} (hb:attributeBase e f env (eval e env)=eval e env)
  (h:wpAny (model prog w) A (eval e env) (fun o s₁=>wpAny (model prog w) A (getAttr o f true) Q E s₁) E s):wpAny (model prog w) A (eval (.Attribute e f pos) env) Q E s :=
 Attribute_any_ h (by rw[arm_eval_Attribute,hb])
end
def tFld (K:PySem.W.Frag) (ta:TE) (f:Str):TE:=fun σ H Q=>ta σ H fun x H1=>∃a C dx fs v,x=.ref a∧H1 a=some (.ins C dx fs)∧Cls K C∧NoAttr K C f∧fs.lookup f=some v∧Q v H1
def sFld (K:PySem.W.Frag) (ta tv:TE) (f:Str):TS:=fun D σ H=>tv σ H fun y H1=>ta σ H1 fun x H2=>∃a C dx fs,x=.ref a∧H2 a=some (.ins C dx fs)∧Cls K C∧NoAttr K C f∧fs.length < 1000 ∧
 D.nx σ (upd H2 a (.ins C dx (putF f y fs)))
section
variable {X:Cx} {o e value:Expr} {f:Str} {pos pos' tpos:Pos} {ta tv:TE}
theorem pe_fld (he:PE X e ta) (hb:attributeBase e f X.env (eval e X.env)=eval e X.env):PE X (.Attribute e f pos) (tFld X.K ta f):=by
 intro pins s σ H Q I h
 refine attr_of hb (thn (he pins s σ H _ I h) fun u s1 ⟨x,H1,I1,rx,a,C,dx,fs,v,ex,ea,c,n,l,q⟩=>?_)
 subst ex
 obtain rfl:u=Value.ref a:=rx
 exact getattr_ok I1 ea c n l fun u' s2 I2 ru=>⟨v,H1,I2,ru,q⟩
theorem ps_fld (ha:PE X o ta) (hv:PE X value tv) (hs:swapsWith value (some (.Attribute o f pos')) pos.line X.env=pure false):PS X (.Assign [.Attribute o f pos'] value pos) (sFld X.K ta tv f):=by
 intro pins s σ H D I h
 refine plainObj_wpAny_Assign_Attribute (thn (hv pins s σ H _ I h) fun u s1 ⟨y,H1,I1,ry,q⟩=>thn (ha pins s1 σ H1 _ I1 q) fun ov s2 ⟨x,H2,I2,rx,a,C,dx,fs,ex,ea,c,n,l,q2⟩=>?_) hs
 subst ex
 obtain rfl:ov=Value.ref a:=rx
 exact setattr_ok I2 ea c n l ry fun s3 I3=>⟨σ,_,I3,q2⟩
end
section
variable {X:Cx} {pins:List (Addr×Obj)} {σ:St} {H:Hp} {s:Shared} {A:Around} {E:Value->Shared->Prop} {Q:Value->Shared->Prop} {c:Value} {b:Bool}
inductive TyOf (K:PySem.W.Frag) (H:Hp):V->Value->Prop where
 | non:TyOf K H .non (.type "NoneType")
 | bl (x:Bool):TyOf K H (.bl x) (.type "bool")
 | int (i:Int):TyOf K H (.int i) (.type "int")
 | str (x:Str):TyOf K H (.str x) (.type "str")
 | flt (x:UInt64):TyOf K H (.flt x) (.type "float")
 | lst {a:Addr} {xs:List V} (e:H a=some (.lst xs)):TyOf K H (.ref a) (.type "list")
 | frz {a:Addr} {o:Obj} {xs:List V} (e:H a=some (.frz o (.lst xs))):TyOf K H (.ref a) (.type "list")
 | tup {a:Addr} {xs:List V} (e:H a=some (.tup xs)):TyOf K H (.ref a) (.type "tuple")
 | dK {a:Addr} {kvs:List (Key×V)} (e:H a=some (.dK kvs)):TyOf K H (.ref a) (.type "dict")
 | dT {a:Addr} {kvs:List (List Key×V)} (e:H a=some (.dT kvs)):TyOf K H (.ref a) (.type "dict")
 | ins {a C dx:Addr} {fs:List (Str×V)} (e:H a=some (.ins C dx fs)) (cl:Cls K C) (ha:PySem.W.findIn K (.ref C) "__class__"=some (some (.builtin "object.__class__")))
   (hn:PySem.W.specialIn K (.builtin "object.__class__") "__get__"=some (some (.builtin "getset_descriptor.__get__"))) (htk:PySem.W.takesIn K (.builtin "object.__class__")=some true)
   (hm:PySem.W.mroIn K C (.type "object")=some true):TyOf K H (.ref a) (.ref C)
theorem isinst_ok {x:V} {u t:Value} (I:Inv X pins σ H s) (rx:RelV x u) (ty:TyOf X.K H x t) (e:PySem.W.kitOne X.K t c=some b) (h:∀tk,Q (.bool b) { s with toks:=tk }) :
  wpAny (model X.prog X.w) A (call (.builtin "isinstance") [u,c]) Q E s:=by
 cases ty with
 | non=>cases (show u=Value.none from rx);exact PySem.W.kia_one PySem.W.kitx_none I.kIn True.intro e (fun z=>nomatch z) h
 | bl y=>cases (show u=Value.bool y from rx);exact PySem.W.kia_one PySem.W.kitx_bool I.kIn True.intro e (fun z=>nomatch z) h
 | int i=>obtain ⟨t,q⟩:=(show ∃t,u=Value.int i t from rx);cases q;exact PySem.W.kia_one PySem.W.kitx_int I.kIn True.intro e (fun z=>nomatch z) h
 | str y=>obtain ⟨t,q⟩:=(show ∃t,u=Value.str y t from rx);cases q;exact PySem.W.kia_one PySem.W.kitx_str I.kIn True.intro e (fun z=>nomatch z) h
 | flt y=>obtain ⟨t,q⟩:=(show ∃t,u=Value.float y t from rx);cases q;exact PySem.W.kia_one PySem.W.kitx_float I.kIn True.intro e (fun z=>nomatch z) h
 | @lst a xs ea =>
  cases (show u=Value.ref a from rx)
  obtain ⟨_,_,n,_,h1⟩:=(show ObjOk X.prog X.w H s.heap a (.lst xs) from I.hok a _ ea)
  exact PySem.W.kia_one PySem.W.kitx_list I.kIn ⟨_,h1,rfl⟩ e (fun z=>nomatch z) h
 | @frz a ob xs ea =>
  cases (show u=Value.ref a from rx)
  obtain ⟨_,_,_,n,_,h1⟩:=(show ObjOk X.prog X.w H s.heap a (.frz ob (.lst xs)) from I.hok a _ ea)
  exact PySem.W.kia_one PySem.W.kitx_list I.kIn ⟨_,h1,rfl⟩ e (fun z=>nomatch z) h
 | @tup a xs ea =>
  cases (show u=Value.ref a from rx)
  obtain ⟨_,_,_,p⟩:=(show ObjOk X.prog X.w H s.heap a (.tup xs) from I.hok a _ ea)
  obtain ⟨o,h1,h2,_⟩:=p
  exact PySem.W.kia_one PySem.W.kitx_tuple I.kIn ⟨o,h1,h2⟩ e (fun z=>nomatch z) h
 | @dK a kvs ea =>
  cases (show u=Value.ref a from rx)
  obtain ⟨_,_,vs,_,p⟩:=(show ObjOk X.prog X.w H s.heap a (.dK kvs) from I.hok a _ ea)
  obtain ⟨o,es,ep,h1,h2,_⟩:=p
  exact PySem.W.kia_one PySem.W.kitx_dict I.kIn ⟨o,h1,h2.1⟩ e (fun z=>nomatch z) h
 | @dT a kvs ea =>
  cases (show u=Value.ref a from rx)
  obtain ⟨_,_,xs,_,o,es,ep,h1,h2,_⟩:=(show ObjOk X.prog X.w H s.heap a (.dT kvs) from I.hok a _ ea)
  exact PySem.W.kia_one PySem.W.kitx_dict I.kIn ⟨o,h1,h2.1⟩ e (fun z=>nomatch z) h
 | @ins a C dx fs ea cl ha hn htk hm =>
  cases (show u=Value.ref a from rx)
  obtain ⟨mA,O,_⟩:=ins_get I.hok ea
  obtain ⟨od,J,_⟩:=O.look
  exact PySem.W.kia_one (PySem.W.kitx_own (cl.get _) cl.hd ha hn htk hm) I.kIn J e (fun z=>nomatch z) h
end
end L2
namespace L2
open PySem PySem.Spec PyProof.Rows
structure Room (k:Nat) (A:Around):Prop where
 hd:A.handled=none
 dp:A.depth+3*k+5 < recursionLimit
 un:A.units+16*k+200 < cLine
 gd:A.guards=some []
theorem Room.mono {j k:Nat} {A:Around} (r:Room k A) (h:j<=k):Room j A:=⟨r.hd,by have:=r.dp;lia,by have:=r.un;lia,r.gd⟩
theorem Room.deeper {k:Nat} {A:Around} (r:Room (k+1) A) (env:Env):Room k (A.deeper env) :=
 ⟨r.hd,by have:=r.dp;show A.depth+1+3*k+5 < _;lia,by have:=r.un;show A.units+3+16*k+200 < _;lia,r.gd⟩
theorem Room.in1 {k:Nat} {A:Around} (r:Room (k+1) A):Room k A.in1 :=
 ⟨r.hd,by have:=r.dp;show A.depth+3*k+5 < _;lia,by have:=r.un;show A.units+1+16*k+200 < _;lia,r.gd⟩
theorem make_depth {A:Around} {C:Addr} {us:List Value} {kw:List (Str×Value)}:(A.under (.builtin "type.__call__" ⟨.ref C :: us,kw⟩)).depth=A.depth+1:=by
 first | rfl | simp [Around.under,Code.weight,Code.isCreation,Code.isGuard,Code.isCaller,Code.frames,Code.isFrame,guardIds]
theorem make_units {A:Around} {C:Addr} {us:List Value} {kw:List (Str×Value)}:(A.under (.builtin "type.__call__" ⟨.ref C :: us,kw⟩)).units=A.units+1:=by
 first | rfl | simp [Around.under,Code.cUnits,Code.frames,Code.isFrame]
theorem Room.make {k:Nat} {A:Around} (r:Room (k+1) A) (C:Addr) (us:List Value) (kw:List (Str×Value)):Room k (A.under (.builtin "type.__call__" ⟨.ref C :: us,kw⟩)) :=
 ⟨r.hd,by have:=r.dp;rw[make_depth];lia,by have:=r.un;rw[make_units];lia,by first | exact r.gd | simpa [Around.under,Code.guards,pushGuards] using r.gd⟩
theorem Room.depth {k:Nat} {A:Around} (r:Room k A):A.depth < recursionLimit:=by have:=r.dp;lia
theorem Room.units {k:Nat} {A:Around} (r:Room k A):A.units+64 < cLine:=by have:=r.un;lia
def tNil:TA:=fun _ H Q=>Q [] H
def tCons (ta:TE) (tr:TA):TA:=fun σ H Q=>ta σ H fun x H1=>tr σ H1 fun xs H2=>Q (x :: xs) H2
section
variable {X:Cx} {e:Expr} {es:List Expr} {te:TE} {t:TA} {pos:Pos}
theorem pa_nil:PA X [] tNil:=fun _ _ _ _ H Q I h=>Calls.spliced_nil ⟨[],H,I,.nil,h⟩
theorem pa_cons (ha:PE X e te) (hr:PA X es t) (hs:starEach (e :: es) X.env=(false,eval e X.env) :: starEach es X.env:=by rfl):PA X (e :: es) (tCons te t):=by
 intro pos pins s σ H Q I h
 rw[hs]
 show wpAny _ _ (spliced ((false,eval e X.env) :: backTo pos (starEach es X.env))) _ _ s
 refine Calls.spliced_cons (thn (ha pins s σ H _ I h) fun u s1 ⟨x,H1,I1,r1,q1⟩=>?_)
 exact thn (hr pos pins s1 σ H1 _ I1 q1) fun us s2 ⟨xs,H2,I2,r2,q2⟩=>⟨x :: xs,H2,I2,.cons r1 r2,q2⟩
def tTup (t:TA):TE:=fun σ H Q=>t σ H fun xs H1=>xs.length<=sizeLine∧∀p,H1 p=none->Q (.ref p) (upd H1 p (.tup xs))
def tLst (t:TA):TE:=fun σ H Q=>t σ H fun xs H1=>xs.length<=sizeLine∧∀p,H1 p=none->Q (.ref p) (upd H1 p (.lst xs))
theorem pe_tup {x1} (h:PA X es t):PE X (.Tuple es x1 pos) (tTup t):=by
 intro pins s σ H Q I hq
 refine wpAny_Tuple_spliced (thn (h pos pins s σ H _ I hq) fun us s1 ⟨xs,H1,I1,r,z,q⟩=>⟨by rw[← r.length];exact z,?_⟩)
 have hf:H1 s1.heap.objs.size=none:=I1.hok.fresh (Nat.le_refl _)
 refine ⟨.ref s1.heap.objs.size,upd H1 s1.heap.objs.size (.tup xs),I1.laid (t':=s1.toks) (fun b u e=>Heap.get?_push_of_some _ e) (Nat.le_refl _) ?_,rfl,q _ hf⟩
 exact ⟨z,us,r,⟨_,Heap.get?_push_size _ rfl,rfl,_,rfl⟩⟩
theorem pe_lst (h:PA X es t):PE X (.List es pos) (tLst t):=by
 intro pins s σ H Q I hq
 refine wpAny_List_spliced (thn (h pos pins s σ H _ I hq) fun us s1 ⟨xs,H1,I1,r,z,q⟩=>⟨by rw[← r.length];exact z,?_⟩)
 have hf:H1 s1.heap.objs.size=none:=I1.hok.fresh (Nat.le_refl _)
 refine ⟨.ref s1.heap.objs.size,upd H1 s1.heap.objs.size (.lst xs),I1.laid (t':=s1.toks) (fun b u e=>Heap.get?_push_of_some _ e) (Nat.le_refl _) ?_,rfl,q _ hf⟩
 exact ⟨z,us,0,r,Heap.get?_push_size _ rfl⟩
end
abbrev Sp:=List V->Hp->VK->XK->Prop
abbrev CXT:=List Env->Hp->Shared->XK->Value->Shared->Prop
structure Env0 (P:Program) (w:World) (K:PySem.W.Frag) (mg:Str->Option Value) (base:Heap) (A:Around) (outer:List Env) (s:Shared) (H:Hp):Prop where
 frames:A.frames=some outer
 mod:Mod K mg base
 bs:∀b o,base.get? b=some o->s.heap.get? b=some o∧H b=none
 bsz:base.objs.size<=s.heap.objs.size
 funs:s.heap.FunFrames base outer
 frf:∀b∈frs outer,H b=none
 hok:HOk P w H s.heap
 bare:AllBare s.gens
def CE (outer:List Env) (P:Program) (w:World) (H:Hp) (s:Shared) (Q:VK) (u:Value) (s':Shared):Prop :=
 ∃v H',s'.os=s.os∧AllBare s'.gens∧Un (frs outer) [] H H' s.heap s'.heap∧HOk P w H' s'.heap∧RelV v u∧Q v H'
def CR (CX:CXT) (outer:List Env) (P:Program) (w:World) (H:Hp) (s:Shared) (Q:VK) (E:XK) (r:Result) (s':Shared):Prop :=
 match r with
 | .ok (.ret u)=>CE outer P w H s Q u s'
 | .ok _=>False
 | .error e=>CX outer H s E e s'
structure FnOk (P:Program) (w:World) (K:PySem.W.Frag) (mg:Str->Option Value) (base:Heap) (CX:CXT) (k:Nat) (f:Addr) (fd:FuncData) (ps:List Str) (sp:Sp):Prop where
 len:∀vs H Q E,sp vs H Q E->vs.length=ps.length
 run:∀(A:Around) (outer:List Env) (s:Shared) (H:Hp) (args:Args) (us:List Value) (vs:List V) (Q:VK) (E:XK),Room k A->Env0 P w K mg base A outer s H->BindsTo s fd args (ps.zip us)->Vals vs us->sp vs H Q E →
  codeAny (model P w) A (.call (.ref f) args) (CR CX outer P w H s Q E) s
theorem FnOk.mono {P:Program} {w:World} {K:PySem.W.Frag} {mg:Str->Option Value} {base:Heap} {CX:CXT} {j k:Nat} {f:Addr} {fd:FuncData} {ps:List Str} {sp:Sp} (F:FnOk P w K mg base CX j f fd ps sp) (h:j<=k) :
  FnOk P w K mg base CX k f fd ps sp:=⟨F.len,fun A outer s H args us vs Q E hr=>F.run A outer s H args us vs Q E (hr.mono h)⟩
theorem Env0.make {P:Program} {w:World} {K:PySem.W.Frag} {mg:Str->Option Value} {base:Heap} {A:Around} {outer:List Env} {s:Shared} {H:Hp} (e:Env0 P w K mg base A outer s H) (C:Addr) (us:List Value) (kw:List (Str×Value)) :
  Env0 P w K mg base (A.under (.builtin "type.__call__" ⟨.ref C :: us,kw⟩)) outer s H:=⟨by first | exact e.frames | (simpa [Around.under,Code.envs,Code.isFrame,pushEnvs] using e.frames),e.mod,e.bs,e.bsz,e.funs,e.frf,e.hok,e.bare⟩
theorem Env0.in1 {P:Program} {w:World} {K:PySem.W.Frag} {mg:Str->Option Value} {base:Heap} {A:Around} {outer:List Env} {s:Shared} {H:Hp} (e:Env0 P w K mg base A outer s H) :
  Env0 P w K mg base A.in1 outer s H:=⟨e.frames,e.mod,e.bs,e.bsz,e.funs,e.frf,e.hok,e.bare⟩
section
variable {X:Cx} {pins:List (Addr×Obj)} {σ:St} {H:Hp} {s s':Shared}
theorem Inv.env0 (I:Inv X pins σ H s):Env0 X.prog X.w X.K X.mg X.base X.A X.stack s H :=
 ⟨I.ok.frames,I.ok.mod,I.bs,Nat.le_trans I.ok.bsz I.sz,I.stack,I.stkFree,I.hok,I.bare⟩
theorem Inv.after {Q:VK} {u:Value} (I:Inv X pins σ H s) (h:CE X.stack X.prog X.w H s Q u s'):EP X pins σ Q u s':=by
 obtain ⟨v,H',os,bare,un,hok,r,q⟩:=h
 obtain ⟨hh,g,d,t,os'⟩:=s'
 obtain rfl:os'=s.os:=os
 exact ⟨v,H',I.call (h':=hh) (g':=g) (d':=d) (t':=t) (ch:=[]) un hok bare (fun b z=>absurd z (by simp)),r,q⟩
end
def tCall (sp:Sp) (dvs:List V) (E:XK) (t:TA):TE:=fun σ H Q=>t σ H fun vs H1=>sp (vs++dvs) H1 Q E
def tMeth (C:Addr) (m:Str) (sp:Sp) (dvs:List V) (E:XK) (ta:TE) (t:TA):TE:=fun σ H Q=>ta σ H fun x H1=>∃a dx fs,x=.ref a∧H1 a=some (.ins C dx fs)∧fs.lookup m=none ∧
 t σ H1 fun vs H2=>sp (x :: (vs++dvs)) H2 Q E
def tMake (C:Addr) (sp:Sp) (dvs:List V) (E:XK) (t:TA):TE:=fun σ H Q=>t σ H fun vs H1=>∀x dx,H1 x=none->H1 dx=none->dx≠x →
 sp (.ref x :: (vs++dvs)) (upd (upd H1 dx (.own x)) x (.ins C dx [])) (fun v H2=>v=.non∧Q (.ref x) H2) E
def Binds (K:PySem.W.Frag) (fd:FuncData) (ps:List Str) (ds:List Value):Prop :=
 ∀(s:Shared) (us:List Value),K.In s.heap->(us++ds).length=ps.length->BindsTo s fd ⟨us,[]⟩ (ps.zip (us++ds))
theorem Binds.all {K:PySem.W.Frag} {fd:FuncData} {ps:List Str} (h:∀us:List Value,us.length=ps.length->bindArgs fd ⟨us,[]⟩=pure (ps.zip us)):Binds K fd ps []:=fun s us _ hl=>by
 rw[List.append_nil] at hl ⊢
 exact .of_eq (h us hl)
def Passes (CX:CXT) (X:Cx) (E:XK):Prop:=∀(pins:List (Addr×Obj)) (σ:St) (H:Hp) (s:Shared) (e:Value) (s':Shared),Inv X pins σ H s->CX X.stack H s E e s'->X.xe e s'
section
variable {X:Cx} {CX:CXT} {k:Nat} {f C:Addr} {fd:FuncData} {ps:List Str} {sp:Sp} {dvs:List V} {ds:List Value} {E:XK} {x m:Str} {p pos apos:Pos} {e o:Expr} {es:List Expr} {ta:TE} {t:TA}
theorem run_fn {pins:List (Addr×Obj)} {σ:St} {H:Hp} {s:Shared} {Q:VK} {us:List Value} {vs:List V} (F:FnOk X.prog X.w X.K X.mg X.base CX k f fd ps sp) (hr:Room k X.A) (hb:Binds X.K fd ps ds) (hd:Vals dvs ds) (hx:Passes CX X E)
  (I:Inv X pins σ H s) (r:Vals vs us) (h:sp (vs++dvs) H Q E):wpAny (model X.prog X.w) X.A (call (.ref f) us) (EP X pins σ Q) X.xe s:=by
 have r2:Vals (vs++dvs) (us++ds):=r.append hd
 have hl:(us++ds).length=ps.length:=by rw[← r2.length];exact F.len _ _ _ _ h
 refine wpAny_call (codeAny_mono (F.run X.A X.stack s H ⟨us,[]⟩ (us++ds) (vs++dvs) Q E hr I.env0 (hb s us I.kIn hl) r2 h) fun r s' hq=>?_)
 cases r with
 | error e=>exact hx pins σ H s e s' I hq
 | ok fl =>
  cases fl with
  | ret u=>exact I.after hq
  | next=>exact False.elim hq
  | brk=>exact False.elim hq
  | cont=>exact False.elim hq
theorem pe_call (F:FnOk X.prog X.w X.K X.mg X.base CX k f fd ps sp) (hr:Room k X.A) (hg:Gl X x) (hm:X.mg x=some (.ref f)) (hk:PySem.W.keepIn X.K (.ref f)=true) (hb:Binds X.K fd ps ds) (hd:Vals dvs ds) (hx:Passes CX X E)
  (ha:PA X (e :: es) t) (hdb:(x == ("__debug__":Str))=false:=by decide) (he:starEach (e :: es) X.env=(false,eval e X.env) :: starEach es X.env:=by rfl) (hpl:(backTo pos (starEach es X.env)).any (·.1)=false:=by rfl) :
  PE X (.Call (.Name x p) (e :: es) [] pos) (tCall sp dvs E t):=by
 intro pins s σ H Q I h
 refine wpAny_Call_Name_kw (ld_glob I hg hm ?_ hdb)
 refine PySem.W.callWith_K (h₀:=X.base) I.ok.mod.kin hk (thn (ha pos pins s σ H _ I h) fun us s1 ⟨vs,H1,I1,r,q⟩=>⟨I1.kIn,?_⟩) he hpl
 exact run_fn F hr hb hd hx I1 r q
theorem pe_call0 (F:FnOk X.prog X.w X.K X.mg X.base CX k f fd ps sp) (hr:Room k X.A) (hg:Gl X x) (hm:X.mg x=some (.ref f)) (hk:PySem.W.keepIn X.K (.ref f)=true) (hb:Binds X.K fd ps ds) (hd:Vals dvs ds) (hx:Passes CX X E)
  (hdb:(x == ("__debug__":Str))=false:=by decide):PE X (.Call (.Name x p) [] [] pos) (tCall sp dvs E tNil):=by
 intro pins s σ H Q I h
 refine wpAny_Call_Name_kw (ld_glob I hg hm ?_ hdb)
 exact PySem.W.callWith_K0 I.kIn hk (run_fn (us:=[]) F hr hb hd hx I .nil h)
theorem pe_meth0 {pl : Sem Bool} (he : PE X o ta) (c : Cls X.K C) (hm : Meth X.K C m f) (F : FnOk X.prog X.w X.K X.mg X.base CX k f fd ps sp) (hr : Room k X.A) (hb : Binds X.K fd ps ds) (hd : Vals dvs ds) (hx : Passes CX X E)
    (ht : eval (.Call (.Attribute o m apos) [] [] pos) X.env = (do
      let ov ← eval o X.env
      standAt apos.atName
      let (f, first) ← holding [ov] (getMethod ov m pl)
      callWith pos f first (backTo pos (starEach [] X.env)) (backToKw pos (keywordEach [] X.env))) := by rfl) :
    PE X (.Call (.Attribute o m apos) [] [] pos) (tMeth C m sp dvs E ta tNil) := by
  intro pins s σ H Q I h
  refine PySem.W.methodCall_KW (pl := pl) (thn (he pins s σ H _ I h) fun u s1 ⟨x, H1, I1, rx, a, dx, fs, ex, ea, l, q⟩ => ?_) ht
  subst ex
  obtain rfl : u = Value.ref a := rx
  refine getmeth_ok I1 ea c hm l ?_
  exact PySem.W.callWith_K0 (first := [.ref a]) I1.kIn hm.kp (run_fn (us := [.ref a]) (vs := [.ref a]) F hr hb hd hx I1 (.cons rfl .nil) q)

structure Mk (K:PySem.W.Frag) (C f:Addr):Prop where
 makes:PySem.W.makesIn K C=true
 init:PySem.W.findIn K (.ref C) "__init__"=some (some (.ref f))
 fn:PySem.W.isFn K (.ref f)=true
 kp:PySem.W.keepIn K (.ref C)=true
theorem run_make {pins:List (Addr×Obj)} {σ:St} {H:Hp} {s:Shared} {Q:VK} {us:List Value} {vs:List V} (M:Mk X.K C f) (F:FnOk X.prog X.w X.K X.mg X.base CX k f fd ps sp) (hr:Room (k+1) X.A) (hb:Binds X.K fd ps ds) (hd:Vals dvs ds)
  (hx:Passes CX X E) (I:Inv X pins σ H s) (r:Vals vs us)
  (h:∀x dx,H x=none->H dx=none->dx≠x->sp (.ref x :: (vs++dvs)) (upd (upd H dx (.own x)) x (.ins C dx [])) (fun v H2=>v=.non∧Q (.ref x) H2) E) :
  wpAny (model X.prog X.w) X.A (call (.ref C) us) (EP X pins σ Q) X.xe s:=by
 have hq:=h (s.heap.objs.size+1) s.heap.objs.size (I.hok.fresh (Nat.le_succ _)) (I.hok.fresh (Nat.le_refl _)) (Nat.ne_of_lt (Nat.lt_succ_self _))
 have I2:=Inv.made (C:=C) I
 have r2:Vals (V.ref (s.heap.objs.size+1) :: (vs++dvs)) (Value.ref (s.heap.objs.size+1) :: (us++ds)):=.cons rfl (r.append hd)
 have hl:(Value.ref (s.heap.objs.size+1) :: us++ds).length=ps.length:=by
  have e:=r2.length
  rw[F.len _ _ _ _ hq] at e
  exact e.symm
 refine wpAny_call (make_map (f:=f) I.kIn M.makes M.init (beq_iff_eq.mp M.fn) (codeAny_mono (F.run _ X.stack _ _ ⟨Value.ref (s.heap.objs.size+1) :: us,[]⟩ (Value.ref (s.heap.objs.size+1) :: (us++ds)) _ _ E (hr.make C us [])
  (I2.env0.make C us []) (hb _ (Value.ref (s.heap.objs.size+1) :: us) I2.kIn hl) r2 hq) fun r s' hq'=>?_))
 cases r with
 | error e=>exact hx pins σ _ _ e s' I2 hq'
 | ok fl =>
  cases fl with
  | ret u =>
   obtain ⟨v,H',I3,rv,ev,q3⟩:=I2.after hq'
   subst ev
   exact ⟨rv,⟨V.ref (s.heap.objs.size+1),H',I3,rfl,q3⟩⟩
  | next=>exact False.elim hq'
  | brk=>exact False.elim hq'
  | cont=>exact False.elim hq'
theorem pe_make (M:Mk X.K C f) (F:FnOk X.prog X.w X.K X.mg X.base CX k f fd ps sp) (hr:Room (k+1) X.A) (hg:Gl X x) (hm:X.mg x=some (.ref C)) (hb:Binds X.K fd ps ds) (hd:Vals dvs ds) (hx:Passes CX X E)
  (ha:PA X (e :: es) t) (hdb:(x == ("__debug__":Str))=false:=by decide) (he:starEach (e :: es) X.env=(false,eval e X.env) :: starEach es X.env:=by rfl) (hpl:(backTo pos (starEach es X.env)).any (·.1)=false:=by rfl) :
  PE X (.Call (.Name x p) (e :: es) [] pos) (tMake C sp dvs E t):=by
 intro pins s σ H Q I h
 refine wpAny_Call_Name_kw (ld_glob I hg hm ?_ hdb)
 refine PySem.W.callWith_K (h₀:=X.base) I.ok.mod.kin M.kp (thn (ha pos pins s σ H _ I h) fun us s1 ⟨vs,H1,I1,r,q⟩=>⟨I1.kIn,?_⟩) he hpl
 exact run_make M F hr hb hd hx I1 r q
end
section
variable {X:Cx} {CX:CXT} {k:Nat} {f C:Addr} {fd:FuncData} {ps ks:List Str} {sp:Sp} {E:XK} {x m:Str} {p pos apos kpos:Pos} {e o:Expr} {es:List Expr} {kws:List Keyword} {te ta:TE} {t tk:TA} {nm:Option Str}
structure KBinds (K:PySem.W.Frag) (fd:FuncData) (ps ks:List Str) (g:List Value->List Value->List Value) (gV:List V->List V->List V):Prop where
 to:∀(s:Shared) (us ws:List Value),K.In s.heap->(g us ws).length=ps.length->BindsTo s fd ⟨us,ks.zip ws⟩ (ps.zip (g us ws))
 rel:∀{vs:List V} {us:List Value} {zs:List V} {ws:List Value},Vals vs us->Vals zs ws->Vals (gV vs zs) (g us ws)
variable {g:List Value->List Value->List Value} {gV:List V->List V->List V}
end
structure FnScope (N P:List Str) (sc:Scope):Prop where
 kind:sc.kind=.function
 co:sc.isCoroutine=false
 gen:sc.isGenerator=false
 nd:N.Nodup
 pre:N.take P.length=P
 par:∀x∈P,sc.names.lookup x=some .local∨sc.names.lookup x=some .cell
 nofree:∀y∈sc.names,y.2≠.free
theorem bindL_out {kindOf:Str->Option NameKind} {x:Str}:∀{binds:List (Str×Value)} {m:Str->Option Value},(∀v,(x,v)∉binds)->bindL kindOf binds m x=m x
 | [],_,_=>rfl
 | (n,v) :: r,m,h=>by
  unfold bindL
  rw[bindL_out fun w hw=>h w (List.mem_cons_of_mem _ hw)]
  split
  ·have:x≠n:=by rintro rfl;exact h v List.mem_cons_self
   simp [this]
  ·rfl
theorem bindC_out {kindOf:Str->Option NameKind} {x:Str}:∀{binds:List (Str×Value)} {m:Str->Option Value},(∀v,(x,v)∉binds)->bindC kindOf binds m x=m x
 | [],_,_=>rfl
 | (n,v) :: r,m,h=>by
  unfold bindC
  rw[bindC_out fun w hw=>h w (List.mem_cons_of_mem _ hw)]
  split
  ·rfl
  ·have:x≠n:=by rintro rfl;exact h v List.mem_cons_self
   simp [this]
theorem bindL_get {kindOf:Str->Option NameKind} {x:Str} {v:Value}:∀{P:List Str} {vs:List Value} {i:Nat} {m:Str->Option Value},P.Nodup->P[i]?=some x->vs[i]?=some v->kindOf x=some .local →
  bindL kindOf (P.zip vs) m x=some v
 | [],_,_,_,_,h,_,_=>by simp at h
 | _ :: _,[],_,_,_,_,h,_=>by simp at h
 | p :: P,w :: vs,0,m,nd,h1,h2,hk=>by
  simp at h1 h2;subst h1;subst h2
  show bindL kindOf ((p,w) :: P.zip vs) m p=_
  unfold bindL
  rw[bindL_out fun v hv=>(List.nodup_cons.mp nd).1 (List.of_mem_zip hv).1,if_pos hk]
  simp
 | p :: P,w :: vs,i+1,m,nd,h1,h2,hk=>by
  show bindL kindOf ((p,w) :: P.zip vs) m x=_
  unfold bindL
  exact bindL_get (i:=i) (List.nodup_cons.mp nd).2 (by simpa using h1) (by simpa using h2) hk
theorem bindC_get {kindOf:Str->Option NameKind} {x:Str} {v:Value}:∀{P:List Str} {vs:List Value} {i:Nat} {m:Str->Option Value},P.Nodup->P[i]?=some x->vs[i]?=some v->kindOf x≠some .local →
  bindC kindOf (P.zip vs) m x=some v
 | [],_,_,_,_,h,_,_=>by simp at h
 | _ :: _,[],_,_,_,_,h,_=>by simp at h
 | p :: P,w :: vs,0,m,nd,h1,h2,hk=>by
  simp at h1 h2;subst h1;subst h2
  show bindC kindOf ((p,w) :: P.zip vs) m p=_
  unfold bindC
  rw[bindC_out fun v hv=>(List.nodup_cons.mp nd).1 (List.of_mem_zip hv).1,if_neg hk]
  simp
 | p :: P,w :: vs,i+1,m,nd,h1,h2,hk=>by
  show bindC kindOf ((p,w) :: P.zip vs) m x=_
  unfold bindC
  exact bindC_get (i:=i) (List.nodup_cons.mp nd).2 (by simpa using h1) (by simpa using h2) hk
def start (N:List Str) (vs:List V):St:=vs.map some++List.replicate (N.length - vs.length) none
def cxOf (CX:CXT) (P:Program) (w:World) (K:PySem.W.Frag) (mg:Str->Option Value) (base:Heap) (N:List Str) (qual:Str) (scope:Scope) (f:Addr) (cd:Value) (A:Around) (outer:List Env) (s:Shared) (H:Hp) (E:XK):Cx where
 prog:=P
 w:=w
 K:=K
 mg:=mg
 base:=base
 A:=A.deeper (envOfC qual scope s.heap.objs.size f cd)
 N:=N
 s₀:=s
 H₀:=H
 env:=envOfC qual scope s.heap.objs.size f cd
 outer:=outer
 stack:=envOfC qual scope s.heap.objs.size f cd :: outer
 ex:=[]
 calm:=true
 fn:=fun _=>true
 pn:=[]
 xe:=fun e s'=>wpAny (model P w) (A.deeper (envOfC qual scope s.heap.objs.size f cd)) (leaving (envOfC qual scope s.heap.objs.size f cd) e) (fun _ s''=>CX outer H s E e s'') (fun e' s''=>CX outer H s E e' s'') s'
theorem cell_has {sc:Scope} {n:Nat} {x:Str} (h:sc.names.lookup x=some .cell):∃c,(cellsFrom n sc.names []).lookup x=some c:=by
 have q:=PySem.W.cellsFrom_some sc.names n [] (.inl h)
 exact Option.isSome_iff_exists.mp q
theorem inv_start {CX:CXT} {P:Program} {w:World} {K:PySem.W.Frag} {mg:Str->Option Value} {base:Heap} {N ps:List Str} {qual:Str} {scope:Scope} {f:Addr} {cd:Value} {A:Around} {outer:List Env} {s s1:Shared} {H:Hp} {E:XK} {us:List Value} {vs:List V}
  (S:FnScope N ps scope) (hd:A.handled=none) (e0:Env0 P w K mg base A outer s H) (hl:vs.length=ps.length) (r:Vals vs us)
  (x:InCallC s s.heap.objs.size (bindL (envOfC qual scope s.heap.objs.size f cd).kindOf (ps.zip us) fun _=>none) (cellsFrom (s.heap.objs.size+1) scope.names []) (bindC (envOfC qual scope s.heap.objs.size f cd).kindOf (ps.zip us) fun _=>none) s1) :
  Inv (cxOf CX P w K mg base N qual scope f cd A outer s H E) [] (start N vs) H s1:=by
 have hpl:ps.length<=N.length:=by have:=congrArg List.length S.pre;rw[List.length_take] at this;lia
 obtain ⟨h1,tk,rfl,hk⟩:=x.done
 have noA:∀b:Addr,b∉(cxOf CX P w K mg base N qual scope f cd A outer s H E).ex:=fun b z=>absurd (show b∈([]:List Addr) from z) (by simp)
 refine ⟨⟨e0.mod,S.kind,rfl,rfl,Nat.le_refl _,fun y z c h1 h2=>?_,fun y hy=>?_,fun y c _ h=>?_,fun _=>hd,Around.frames_deeper e0.frames,.inr ⟨rfl,rfl⟩,fun b z=>absurd z (noA b),e0.bs,e0.bsz,fun b _ _=>noA b,fun b z=>absurd z (noA b),e0.funs,e0.frf⟩,
  rfl,e0.bare,Un.kept hk,⟨_,x.toInCall.ns,fun i y v h1 h2 h3=>?_⟩,fun y c h=>⟨_,x.cell y c h⟩,e0.hok.fresh (Nat.le_refl _),fun y c h=>?_,fun p hp=>absurd (show p∈([]:List (Addr×Obj)) from hp) (by simp),e0.hok.kept hk,?_⟩
 ·exact name_of_addr x.apart (PySem.mem_of_lookup h1) (PySem.mem_of_lookup h2)
 ·have hy:scope.names.lookup y=some .cell∨scope.names.lookup y=some .free:=hy
  rcases hy with hy | hy
  ·exact cell_has hy
  ·exact absurd rfl (S.nofree _ (PySem.mem_of_lookup hy))
 ·exact Nat.le_of_lt (x.above y c (PySem.mem_of_lookup h))
 ·have hi:i < vs.length:=by
   unfold start at h2
   by_cases hi:i < vs.length
   ·exact hi
   ·rw[List.getElem?_append_right (by simpa using hi)] at h2
    rw[List.getElem?_replicate] at h2
    split at h2 <;> cases h2
  have ha:vs[i]?=some v:=by
   unfold start at h2
   rw[List.getElem?_append_left (by simpa using hi),List.getElem?_map] at h2
   cases e:vs[i]? with
   | none=>rw[e] at h2;cases h2
   | some a=>rw[e] at h2;cases h2;rfl
  obtain ⟨u,hu,rv⟩:=r.get ha
  have hp:ps[i]?=some y:=by
   rw[← S.pre,List.getElem?_take_of_lt (by lia)];exact h1
  have ndP:ps.Nodup:=by rw[← S.pre];exact S.nd.sublist (List.take_sublist _ _)
  refine ⟨u,rv,?_⟩
  rcases S.par y (List.mem_of_getElem? hp) with k | k
  ·exact .inl ⟨k,bindL_get ndP hp hu k⟩
  ·obtain ⟨c,e⟩:=cell_has (n:=s.heap.objs.size+1) k
   refine .inr ⟨.inl k,c,e,?_⟩
   have q:=x.cell y c e
   rw[bindC_get ndP hp hu (by show scope.names.lookup y≠_;rw[k];decide)] at q
   exact q
 ·exact e0.hok.fresh (Nat.le_of_lt (x.above y c (PySem.mem_of_lookup h)))
 ·unfold start
  show _=N.length
  rw[List.length_append,List.length_map,List.length_replicate]
  lia
theorem fn_of {CX:CXT} {P:Program} {w:World} {K:PySem.W.Frag} {mg:Str->Option Value} {base:Heap} {k:Nat} {f:Addr} {name qual:Str} {params:Arguments} {body:List Stmt} {scope:Scope} {dV kV doc pm cdv ct oc:Value} {an od:Option Addr}
  {osl:Array (Option Value)} {N ps:List Str} {sp:Sp} (lk:K.lookup f=some ⟨oc,od,.func (PySem.W.fnOf name qual params body scope dV kV doc pm an cdv ct),osl⟩) (hcd:PySem.W.codeIn K cdv qual=true) (S:FnScope N ps scope)
  (len:∀vs H Q E,sp vs H Q E->vs.length=ps.length)
  (hbody:∀(A:Around) (outer:List Env) (s:Shared) (H:Hp) (vs:List V) (Q:VK) (E:XK),Room k (A.deeper (envOfC qual scope s.heap.objs.size f cdv))->sp vs H Q E →
   ∃t,PSs (cxOf CX P w K mg base N qual scope f cdv A outer s H E) body t∧t { nx:=fun _ H'=>Q .non H',rt:=Q } (start N vs) H) :
  FnOk P w K mg base CX (k+1) f (PySem.W.fnOf name qual params body scope dV kV doc pm an cdv ct) ps sp:=by
 refine ⟨len,fun A outer s H args us vs Q E hr e0 hb r hsp=>?_⟩
 have hl:=len _ _ _ _ hsp
 have KX:K.In s.heap:=e0.mod.kin.keeps fun b o e=>(e0.bs b o e).1
 have lim:s.heap.NoLimit:=e0.mod.nolimit.keeps fun b o e=>(e0.bs b o e).1
 have hkind:∀y∈ps.zip us,scope.names.lookup y.1=some .local∨(scope.names.lookup y.1=some .cell∧((cellsFrom (s.heap.objs.size+1) scope.names []).lookup y.1).isSome=true):=fun ⟨n,v⟩ hy=>by
  rcases S.par n (List.of_mem_zip hy).1 with q | q
  ·exact .inl q
  ·exact .inr ⟨q,PySem.W.cellsFrom_some _ _ _ (.inl q)⟩
 refine codeAny_call_function hr.depth (KX _ _ lk) rfl S.co S.gen rfl (PySem.W.codeRec_of KX hcd) (hb _ _ _ _ ?_)
 refine wpAny_newFunctionEnv_cells S.kind hkind fun env he s1 x=>?_
 subst he
 refine ⟨lim.keeps x.toInCall.keep,codeAny_func ?_⟩
 obtain ⟨t,ht,hq⟩:=hbody A outer s H vs Q E (hr.deeper _) hsp
 have I:Inv (cxOf CX P w K mg base N qual scope f cdv A outer s H E) [] (start N vs) H s1:=inv_start S hr.hd e0 hl r x
 refine wpAny_mono (ht [] s1 (start N vs) H _ I hq) (fun fl s' hs=>?_) fun e s' hs=>hs
 have fin:∀{σ':St} {H':Hp} {v:V} {u:Value},Inv (cxOf CX P w K mg base N qual scope f cdv A outer s H E) [] σ' H' s'->RelV v u->Q v H'->CE outer P w H s Q u s' :=
  fun {σ' H' v u} J rv q=>⟨v,H',J.os,J.bare,J.base,J.hok,rv,q⟩
 cases fl with
 | ret u =>
  obtain ⟨v,σ',H',J,rv,q⟩:=hs
  exact fin J rv q
 | next =>
  obtain ⟨σ',H',J,q⟩:=hs
  exact fin (v:=V.non) (u:=Value.none) J rfl q
 | brk =>
  obtain ⟨_,_,_,q⟩:=hs
  exact False.elim q
 | cont =>
  obtain ⟨_,_,_,q⟩:=hs
  exact False.elim q
end L2
namespace L2
open PySem PySem.Spec PyProof.Rows
section
variable {X:Cx} {x:Str} {p pos:Pos} {e:Expr} {es:List Expr} {t:TA} {id T:String} {r:List V->Hp->VK->Prop}
def tCB (r:List V->Hp->VK->Prop) (t:TA):TE:=fun σ H Q=>t σ H fun vs H1=>r vs H1 Q
theorem pe_callB (hc:CallR X (.builtin id) r) (hg:Gl X x) (hm:X.mg x=none) (hv:bootBuiltins x=some (.builtin id)) (ha:PA X (e :: es) t) (hn:x≠"__name__":=by decide) (hdb:(x == ("__debug__":Str))=false:=by decide)
  (he:starEach (e :: es) X.env=(false,eval e X.env) :: starEach es X.env:=by rfl) (hpl:(backTo pos (starEach es X.env)).any (·.1)=false:=by rfl):PE X (.Call (.Name x p) (e :: es) [] pos) (tCB r t):=by
 intro pins s σ H Q I h
 refine wpAny_Call_Name_kw (ld_blt I hg hm hv ?_ hn hdb)
 exact PyProof.Rows.callWith_builtin1 (thn (ha pos pins s σ H _ I h) fun us s1 ⟨vs,H1,I1,r1,q1⟩=>hc pins s1 σ H1 vs us Q I1 r1 q1) he hpl
theorem pe_callTy (hc:CallR X (.type T) r) (hg:Gl X x) (hm:X.mg x=none) (hv:bootBuiltins x=some (.type T)) (ha:PA X (e :: es) t) (hn:x≠"__name__":=by decide) (hdb:(x == ("__debug__":Str))=false:=by decide)
  (he:starEach (e :: es) X.env=(false,eval e X.env) :: starEach es X.env:=by rfl) (hpl:(backTo pos (starEach es X.env)).any (·.1)=false:=by rfl):PE X (.Call (.Name x p) (e :: es) [] pos) (tCB r t):=by
 intro pins s σ H Q I h
 refine wpAny_Call_Name_kw (ld_blt I hg hm hv ?_ hn hdb)
 exact PyProof.Rows.callWith_type1 (thn (ha pos pins s σ H _ I h) fun us s1 ⟨vs,H1,I1,r1,q1⟩=>hc pins s1 σ H1 vs us Q I1 r1 q1) he hpl
end
end L2
namespace HT
open PySem PyProof.Rows
section
open PySem.SeqAt
open PySem.AutoSeq1 (wpAny_loadPart')
open PySem.MeetsSeq PySem.MeetsSeq2 PySem.MeetsSeq3
end
section
variable {prog:Program} {w:World} {A:Around} {E:Value->Shared->Prop} {s:Shared}
def sIx (n d:Nat):Option Int->Nat
 | none=>d
 | some v=>if v < 0 then (v+(n:Int)).toNat else min v.toNat n
theorem sIx_none (n d:Nat):sIx n d none=d:=rfl
theorem sIx_nat (n d k:Nat):sIx n d (some (k:Int))=min k n:=by
 show (if (k:Int) < 0 then ((k:Int)+(n:Int)).toNat else min (k:Int).toNat n)=min k n
 rw[if_neg (by lia),Int.toNat_natCast]
end
end HT
namespace L2
open PySem PySem.Spec PyProof.Rows
abbrev TO:=St->Hp->(Option Int->Hp->Prop)->Prop
def PO (X:Cx) (e:Option Expr) (t:TO):Prop :=
 ∀(pins:List (Addr×Obj)) (s:Shared) (σ:St) (H:Hp) (Q:Option Int->Hp->Prop),Inv X pins σ H s->t σ H Q →
  wpAny (model X.prog X.w) X.A (evalPart e X.env) (fun u s'=>∃o H',Inv X pins σ H' s'∧IsPart u o∧Q o H') X.xe s
def tNoPart:TO:=fun _ H Q=>Q none H
def tPart (t:TE):TO:=fun σ H Q=>t σ H fun x H1=>∃i,x=.int i∧Q (some i) H1
section
variable {X:Cx} {e:Expr} {te:TE} {lo hi:Option Expr} {tl th:TO} {pos p2:Pos}
theorem po_none:PO X none tNoPart:=by
 intro pins s σ H Q I h
 rw[evalPart_none]
 exact wpAny_pure ⟨none,H,I,.none,h⟩
theorem po_some (h:PE X e te):PO X (some e) (tPart te):=by
 intro pins s σ H Q I hw
 rw[evalPart_some]
 refine thn (h pins s σ H _ I hw) fun u s1 ⟨x,H1,I1,r1,q1⟩=>?_
 obtain ⟨i,rfl,q⟩:=q1
 obtain ⟨t,rfl⟩:=r1
 exact ⟨some i,H1,I1,.int i t,q⟩
def SlR (X:Cx) (r:V->Option Int->Option Int->Hp->VK->Prop):Prop :=
 ∀(pins:List (Addr×Obj)) (s:Shared) (σ:St) (H:Hp) (x:V) (v vl vu:Value) (lo hi:Option Int) (sl:Addr) (Q:VK),Inv X pins σ H s->RelV x v->s.heap.IsSliceOf sl vl vu .none->IsPart vl lo->IsPart vu hi->r x lo hi H Q →
  ∃T id,typeLookup (.type T) "__getitem__"=pure (some (.builtin id))∧s.TypeIs v T∧wpAny (model X.prog X.w) X.A (getItem v (.ref sl)) (EP X pins σ Q) X.xe s
theorem SlR.or {r r':V->Option Int->Option Int->Hp->VK->Prop} (h:SlR X r) (h':SlR X r'):SlR X (fun x lo hi H Q=>r x lo hi H Q∨r' x lo hi H Q):=by
 intro pins s σ H x v vl vu lo hi sl Q I rx hs pl pu q
 rcases q with q | q
 ·exact h pins s σ H x v vl vu lo hi sl Q I rx hs pl pu q
 ·exact h' pins s σ H x v vl vu lo hi sl Q I rx hs pl pu q
def tSl (r:V->Option Int->Option Int->Hp->VK->Prop) (te:TE) (tl th:TO):TE:=fun σ H Q=>te σ H fun x H1=>tl σ H1 fun l H2=>th σ H2 fun u H3=>r x l u H3 Q
theorem pe_slice {r:V->Option Int->Option Int->Hp->VK->Prop} (hr:SlR X r) (he:PE X e te) (hl:PO X lo tl) (hu:PO X hi th):PE X (.Subscript e (.Slice lo hi none p2) pos) (tSl r te tl th):=by
 intro pins s σ H Q I h
 refine Subscript_ (thn (he pins s σ H _ I h) fun v s1 ⟨x,H1,I1,r1,q1⟩=>?_)
 refine wpAny_Slice (thn (hl pins s1 σ H1 _ I1 q1) fun vl s2 ⟨l,H2,I2,pl,q2⟩=>thn (hu pins s2 σ H2 _ I2 q2) fun vu s3 ⟨u,H3,I3,pu,q3⟩=>?_)
 rw[evalPart_none]
 refine wpAny_pure ?_
 have I4:Inv X pins σ H3 { s3 with heap:=s3.heap.push { cls:=.type "slice",data:=.fields #[vl,vu,.none] } }:=I3.kept (t':=s3.toks) fun b ob q=>Heap.get?_push_of_some _ q
 obtain ⟨T,id,hT,ht,hg⟩:=hr pins { s3 with heap:=s3.heap.push { cls:=.type "slice",data:=.fields #[vl,vu,.none] } } σ H3 x v vl vu l u s3.heap.objs.size Q I4 r1 (Heap.IsSliceOf.new ..) pl pu q3
 show wpAny (model X.prog X.w) X.A (subscriptTail e (.Slice lo hi none p2) v (.ref s3.heap.objs.size)) (EP X pins σ Q) X.xe { s3 with heap:=s3.heap.push { cls:=.type "slice",data:=.fields #[vl,vu,.none] } }
 exact tail_any (ops:=[.ref s3.heap.objs.size,v]) ht hT hg (by with_unfolding_all rfl)
def cutV (xs:List V) (lo hi:Option Int):List V:=(xs.drop (HT.sIx xs.length 0 lo)).take (HT.sIx xs.length xs.length hi - HT.sIx xs.length 0 lo)
theorem cutV_length (xs:List V) (lo hi:Option Int):(cutV xs lo hi).length<=xs.length:=by
 unfold cutV
 rw[List.length_take,List.length_drop]
 lia
end
end L2
namespace L2
open PySem PySem.Spec PyProof.Rows
def ixN (n:Nat) (i:Int):Option Nat:=if 0<=i then (if i < n then some i.toNat else none) else if -(n:Int)<=i then some (i+n).toNat else none
def atI {α:Type} (xs:List α) (i:Int):Option α:=(ixN xs.length i).bind fun j=>xs[j]?
theorem ixN_seq {n:Nat} {i:Int} {j:Nat} (h:ixN n i=some j):seqIndex? i n=some j∧j < n∧-(n:Int)<=i∧i < n:=by
 unfold ixN at h
 by_cases h0:0<=i
 ·rw[if_pos h0] at h
  by_cases h1:i < n
  ·rw[if_pos h1] at h
   have e:i.toNat=j:=Option.some.inj h
   exact ⟨by rw[seqIndex_of h0 h1,e],by lia,by lia,h1⟩
  ·rw[if_neg h1] at h;cases h
 ·rw[if_neg h0] at h
  by_cases h1:-(n:Int)<=i
  ·rw[if_pos h1] at h
   have e:(i+n).toNat=j:=Option.some.inj h
   exact ⟨by rw[seqIndex_neg (by lia) h1,e],by lia,h1,by lia⟩
  ·rw[if_neg h1] at h;cases h
theorem atI_get {α:Type} {xs:List α} {i:Int} {v:α} (h:atI xs i=some v):∃j,seqIndex? i xs.length=some j∧xs[j]?=some v∧j < xs.length∧-(xs.length:Int)<=i∧i < xs.length:=by
 unfold atI at h
 cases e:ixN xs.length i with
 | none=>rw[e] at h;cases h
 | some j =>
  rw[e] at h
  obtain ⟨h1,h2,h3,h4⟩:=ixN_seq e
  exact ⟨j,h1,h,h2,h3,h4⟩
theorem atI_nat {α:Type} {xs:List α} {j:Nat} {v:α} (h:xs[j]?=some v):atI xs (j:Int)=some v:=by
 have hj:j < xs.length:=(List.getElem?_eq_some_iff.mp h).1
 have e:ixN xs.length (j:Int)=some j:=by
  unfold ixN
  rw[if_pos (by lia),if_pos (by lia)];simp
 unfold atI;rw[e];exact h
def PlainIx (b:Expr):Prop:=∀o i,subscripted b false o i=operate [o,i] (getItem o i)
def IxR (X:Cx) (r:R2):Prop :=
 ∀(value slice:Expr) (pins:List (Addr×Obj)) (s:Shared) (σ:St) (H:Hp) (x y:V) (v u:Value) (Q:VK),Inv X pins σ H s->RelV x v->RelV y u->r x y H Q →
  subscripted slice false v u=operate [v,u] (getItem v u)->wpAny (model X.prog X.w) X.A (subscriptTail value slice v u) (EP X pins σ Q) X.xe s
def MtR (X:Cx) (id:String) (r:V->List V->Hp->VK->Prop):Prop :=
 ∀(pins:List (Addr×Obj)) (s:Shared) (σ:St) (H:Hp) (x:V) (xs:List V) (v:Value) (us:List Value) (Q:VK),Inv X pins σ H s->RelV x v->Vals xs us->r x xs H Q →
  wpAny (model X.prog X.w) X.A (call (.builtin id) (v :: us)) (EP X pins σ Q) X.xe s
section
variable {X:Cx} {a b:Expr} {ta tb:TE} {pos:Pos}
theorem IxR.or {r r':R2} (h:IxR X r) (h':IxR X r'):IxR X (fun x y H Q=>r x y H Q∨r' x y H Q):=by
 intro value slice pins s σ H x y v u Q I rx ry q hs
 rcases q with q | q
 ·exact h value slice pins s σ H x y v u Q I rx ry q hs
 ·exact h' value slice pins s σ H x y v u Q I rx ry q hs
theorem MtR.or {id:String} {r r':V->List V->Hp->VK->Prop} (h:MtR X id r) (h':MtR X id r'):MtR X id (fun x xs H Q=>r x xs H Q∨r' x xs H Q):=by
 intro pins s σ H x xs v us Q I rx rs q
 rcases q with q | q
 ·exact h pins s σ H x xs v us Q I rx rs q
 ·exact h' pins s σ H x xs v us Q I rx rs q
theorem pe_ix {r:R2} (hr:IxR X r) (ha:PE X a ta) (hb:PE X b tb) (hs:PlainIx b):PE X (.Subscript a b pos) (tOp r ta tb):=by
 intro pins s σ H Q I h
 exact Subscript_ (binT ha hb I h fun v u s2 x y H2 I2 rx ry q=>hr a b pins s2 σ H2 x y v u Q I2 rx ry q (hs _ _))
def rIxL (K:PySem.W.Frag):R2:=fun x y H Q=>∃p xs i v,x=.ref p∧y=.int i∧SqL K H p xs∧atI xs i=some v∧Q v H
def rIxT (K:PySem.W.Frag):R2:=fun x y H Q=>∃p xs i v,x=.ref p∧y=.int i∧SqT K H p xs∧atI xs i=some v∧Q v H
theorem ix_list:IxR X (rIxL X.K):=by
 intro value slice pins s σ H x y v u Q I rx ry h hs
 obtain ⟨p,xs,i,z,rfl,rfl,hq,he,q⟩:=h
 cases rx
 obtain ⟨t,rfl⟩:=ry
 obtain ⟨its,r,pl,hz⟩:=I.list hq
 obtain ⟨j,h1,h2,h3,h4,h5⟩:=atI_get he
 obtain ⟨w,ew,rw'⟩:=r.get h2
 have hl:=r.length
 have hn:=line63
 have fin:EP X pins σ Q w s:=⟨z,H,I,rw',q⟩
 by_cases h0:0<=i
 ·have hj:i.toNat=j:=by
   rw[seqIndex_of h0 h5] at h1
   exact Option.some.inj h1
  exact item_listR pl.isList h0 (by lia) (by rw[hj];simpa using ew) fin hs
 ·have hj:(i+(its.toArray.size:Int)).toNat=j:=by
   rw[seqIndex_neg (by lia) h4] at h1
   rw[List.size_toArray,← hl]
   exact Option.some.inj h1
  exact subscriptTail_builtinR (x:=w) pl.isList.typeIs slot_list_getitem.lookup
   (wpAny_getItem_list_neg (Q:=fun r s'=>r=w∧EP X pins σ Q r s') pl.isList (by lia) (by rw[List.size_toArray] <;> lia) (by lia) (by rw[hj];simpa using ew) ⟨rfl,fin⟩) hs
theorem ix_tup:IxR X (rIxT X.K):=by
 intro value slice pins s σ H x y v u Q I rx ry h hs
 obtain ⟨p,xs,i,z,rfl,rfl,hq,he,q⟩:=h
 cases rx
 obtain ⟨t,rfl⟩:=ry
 obtain ⟨its,r,pl,hz⟩:=I.tuple hq
 obtain ⟨j,h1,h2,h3,h4,h5⟩:=atI_get he
 obtain ⟨w,ew,rw'⟩:=r.get h2
 have hl:=r.length
 have hn:=line63
 have fin:EP X pins σ Q w s:=⟨z,H,I,rw',q⟩
 exact subscriptTail_builtinR (x:=w) pl.typeIs slot_tuple_getitem.lookup
  (getItem_tuple (j:=j) (Q:=fun r s'=>r=w∧EP X pins σ Q r s') pl (by lia) (by lia) (by rw[List.size_toArray,← hl];exact h1) (by simpa using ew) ⟨rfl,fin⟩) hs
theorem mapSeq_set (its:List Value) (n j:Nat) (u:Value):Obj.mapSeq (·.setIfInBounds j u) { cls:=.type "list",data:=.seq its.toArray n }={ cls:=.type "list",data:=.seq (its.set j u).toArray n }:=by
 simp [Obj.mapSeq]
theorem Inv.lst {pins:List (Addr×Obj)} {σ:St} {H:Hp} {s:Shared} {p:Addr} {xs:List V} (I:Inv X pins σ H s) (h:H p=some (.lst xs)) :
  ∃(its:List Value) (n:Nat),Vals xs its∧s.heap.get? p=some { cls:=.type "list",data:=.seq its.toArray n }∧xs.length<=sizeLine:=by
 obtain ⟨z,its,n,r,e⟩:=I.hok p _ h
 exact ⟨its,n,r,e,z⟩
theorem Inv.lstUpd {pins:List (Addr×Obj)} {σ:St} {H:Hp} {s:Shared} {p:Addr} {xs ys:List V} {its its':List Value} {n n':Nat} {f:Obj->Obj} (I:Inv X pins σ H s) (h:H p=some (.lst xs))
  (ho:s.heap.get? p=some { cls:=.type "list",data:=.seq its.toArray n }) (hf:f { cls:=.type "list",data:=.seq its.toArray n }={ cls:=.type "list",data:=.seq its'.toArray n' }) (r:Vals ys its') (hz:ys.length<=sizeLine) (t:Nat) :
  Inv X pins σ (upd H p (.lst ys)) { s with heap:=s.heap.update p f,toks:=t }:=by
 have e:(s.heap.update p f).get? p=some { cls:=.type "list",data:=.seq its'.toArray n' }:=by
  rw[Heap.get?_update_self f ho (by rw[hf] <;> rfl),hf]
 refine I.write (x:=p) (e:=p) (by rw[h];trivial) (.inl rfl) (fun b u hb q=>(Heap.get?_update_other _ _ (Ne.symm hb)).trans q) ⟨_,e⟩ ?_
 exact ⟨hz,its',n',r,e⟩
def rSetL:V->V->V->Hp->(Hp->Prop)->Prop:=fun o i v H Q=>∃p xs k j,o=.ref p∧i=.int k∧H p=some (.lst xs)∧ixN xs.length k=some j∧Q (upd H p (.lst (xs.set j v)))
theorem set_list:PSet X rSetL:=by
 intro pins s σ H o i v ov iv u Q I ro ri rv h
 obtain ⟨p,xs,k,j,rfl,rfl,hp,hj,q⟩:=h
 cases ro
 obtain ⟨t,rfl⟩:=ri
 obtain ⟨its,n,r,ho,hz⟩:=I.lst hp
 obtain ⟨h1,h2,h3,h4⟩:=ixN_seq hj
 have hl:=r.length
 have hn:=line63
 have I':Inv X pins σ (upd H p (.lst (xs.set j v))) { s with heap:=s.heap.update p (Obj.mapSeq (·.setIfInBounds j u)) } :=
  I.lstUpd hp ho (mapSeq_set its n j u) (r.set rv j) (by rw[List.length_set];exact hz) s.toks
 by_cases h0:0<=k
 ·have hk:k.toNat=j:=by
   rw[seqIndex_of h0 h4] at h1
   exact Option.some.inj h1
  exact PySem.W.ki_setAt ho h0 (by lia) (by rw[List.size_toArray,← hl];exact h4) (by rw[hk];exact ⟨_,I',q⟩)
 ·have hk:(k+(its.toArray.size:Int)).toNat=j:=by
   rw[seqIndex_neg (by lia) h3] at h1
   rw[List.size_toArray,← hl]
   exact Option.some.inj h1
  exact PySem.W.ki_setBack ho (by lia) (by rw[List.size_toArray,← hl];exact h3) (by lia) (by rw[hk];exact ⟨_,I',q⟩)
theorem slice_bounds (lo hi:Option Int) (n:Nat):(sliceBounds lo hi none n).1=((HT.sIx n 0 lo:Nat):Int)∧(sliceBounds lo hi none n).2.1=((HT.sIx n n hi:Nat):Int)∧(sliceBounds lo hi none n).2.2=1:=by
 refine ⟨?_,?_,rfl⟩
 ·cases lo with
  | none=>simp [sliceBounds,HT.sIx]
  | some i =>
   simp only[sliceBounds,HT.sIx,Option.getD_none,show (1:Int) > 0 by decide,if_true]
   by_cases h:i < 0
   ·simp only[h,if_true] <;> lia
   ·simp only[h,if_false] <;> lia
 ·cases hi with
  | none=>simp [sliceBounds,HT.sIx]
  | some i =>
   simp only[sliceBounds,HT.sIx,Option.getD_none,show (1:Int) > 0 by decide,if_true]
   by_cases h:i < 0
   ·simp only[h,if_true] <;> lia
   ·simp only[h,if_false] <;> lia
theorem slicePick_cut (its:List Value) (lo hi:Option Int):slicePick its.toArray lo hi none=((its.drop (HT.sIx its.length 0 lo)).take (HT.sIx its.length its.length hi - HT.sIx its.length 0 lo)).toArray:=by
 obtain ⟨h1,h2,h3⟩:=slice_bounds lo hi its.toArray.size
 unfold slicePick
 rw[h1,h2,h3]
 simp only[sliceRange_one,pick_run,List.size_toArray] <;> rfl
def rSlL (K:PySem.W.Frag):V->Option Int->Option Int->Hp->VK->Prop:=fun x lo hi H Q=>∃a xs,x=.ref a∧SqL K H a xs∧∀p,H p=none->Q (.ref p) (upd H p (.lst (cutV xs lo hi)))
theorem sl_list:SlR X (rSlL X.K):=by
 intro pins s σ H x v vl vu lo hi sl Q I rx hs pl pu h
 obtain ⟨a,xs,rfl,hx,q⟩:=h
 cases rx
 obtain ⟨its,r,ht,hz⟩:=I.list hx
 have hlen:=r.length
 refine ⟨"list",_,slot_list_getitem.lookup,ht.isList.typeIs,?_⟩
 refine wpAny_getItem_list_slice ht.isList hs pl pu .none (by simp) ?_ (by rw[List.size_toArray] <;> lia)
 rw[slicePick_cut,← hlen]
 refine ⟨.ref s.heap.objs.size,_,I.laid (t':=s.toks) (o:=.lst (cutV xs lo hi)) (fun b ob q=>Heap.get?_push_of_some _ q) (Nat.le_refl _) ?_,rfl,q _ (I.hok.fresh (Nat.le_refl _))⟩
 exact ⟨Nat.le_trans (cutV_length xs lo hi) hz,_,0,(r.drop (HT.sIx xs.length 0 lo)).take (HT.sIx xs.length xs.length hi - HT.sIx xs.length 0 lo),Heap.get?_push_size _ rfl⟩
theorem call_len_seq:CallR X (.builtin "len") (fun xs H Q=>∃p ys,xs=[.ref p]∧(SqL X.K H p ys∨SqT X.K H p ys)∧Q (.int ys.length) H):=by
 intro pins s σ H xs us Q I r h
 obtain ⟨p,ys,rfl,hq,q⟩:=h
 obtain ⟨u,rfl,rx⟩:=vals1 r
 cases rx
 have hn:=line63
 rcases hq with hq | hq
 ·obtain ⟨its,r',pl,hz⟩:=I.list hq
  have hlen:=r'.length
  exact Calls.call_len_list pl.isList (by simp only[List.size_toArray] <;> lia) ⟨.int ys.length,H,I.tok _,⟨s.toks+1,by rw[List.size_toArray,hlen]⟩,q⟩
 ·obtain ⟨its,r',pl,hz⟩:=I.tuple hq
  have hlen:=r'.length
  exact len_tuple pl (by simp only[List.size_toArray] <;> lia) ⟨.int ys.length,H,I.tok _,⟨s.toks+1,by rw[List.size_toArray,hlen]⟩,q⟩
theorem CallR.or {f:Value} {r r':List V->Hp->VK->Prop} (h:CallR X f r) (h':CallR X f r'):CallR X f (fun xs H Q=>r xs H Q∨r' xs H Q):=by
 intro pins s σ H xs us Q I rs q
 rcases q with q | q
 ·exact h pins s σ H xs us Q I rs q
 ·exact h' pins s σ H xs us Q I rs q
theorem call_list_of:CallR X (.type "list") (fun xs H Q=>∃p ys,xs=[.ref p]∧(SqL X.K H p ys∨SqT X.K H p ys)∧∀l,H l=none->Q (.ref l) (upd H l (.lst ys))):=by
 intro pins s σ H xs us Q I r h
 obtain ⟨p,ys,rfl,hq,q⟩:=h
 obtain ⟨u,rfl,rx⟩:=vals1 r
 cases rx
 have fin:∀(its:List Value),Vals ys its->ys.length<=sizeLine->∀(h':Heap) (c':Nat),(∀b o',s.heap.get? b=some o'->h'.get? b=some o') →
   h'.get? s.heap.objs.size=some { cls:=.type "list",dict:=none,data:=.seq its.toArray c',slots:=#[] }->EP X pins σ Q (.ref s.heap.objs.size) { s with heap:=h' }:=fun its r' hz h' c' kp e =>
  ⟨.ref s.heap.objs.size,_,I.laid (t':=s.toks) kp (Nat.le_refl _) (show ObjOk X.prog X.w _ h' _ (.lst ys) from ⟨hz,its,c',r',e⟩),rfl,q _ (I.hok.fresh (Nat.le_refl _))⟩
 rcases hq with hq | hq
 ·obtain ⟨its,r',pl,hz⟩:=I.list hq
  have hlen:=r'.length
  obtain ⟨o,ho,hc,n,hd⟩:=pl.isList
  exact call_list_seq p (.inl rfl) ho hc hd (fun h' c' kp e=>fin its r' hz h' c' kp e) (by simp only[List.size_toArray] <;> lia)
 ·obtain ⟨its,r',pl,hz⟩:=I.tuple hq
  have hlen:=r'.length
  obtain ⟨o,ho,hc,n,hd⟩:=pl
  exact call_list_seq p (.inr rfl) ho hc hd (fun h' c' kp e=>fin its r' hz h' c' kp e) (by simp only[List.size_toArray] <;> lia)
theorem call_tuple_of:CallR X (.type "tuple") (fun xs H Q=>∃p ys,xs=[.ref p]∧((SqL X.K H p ys∧∀l,H l=none->Q (.ref l) (upd H l (.tup ys)))∨(SqT X.K H p ys∧Q (.ref p) H))):=by
 intro pins s σ H xs us Q I r h
 obtain ⟨p,ys,rfl,h⟩:=h
 obtain ⟨u,rfl,rx⟩:=vals1 r
 cases rx
 rcases h with ⟨hq,q⟩ | ⟨hq,q⟩
 ·obtain ⟨its,r',pl,hz⟩:=I.list hq
  have hlen:=r'.length
  refine call_tuple_list pl.isList (fun h' kp=>?_) (by simp only[List.size_toArray] <;> lia)
  have I1:Inv X pins σ H { s with heap:=h' }:=I.kept (t':=s.toks) kp
  have I2:Inv X pins σ (upd H h'.objs.size (.tup ys)) { s with heap:=h'.push { cls:=.type "tuple",data:=.seq its.toArray } } :=
   I1.laid (t':=s.toks) (fun b o e=>Heap.get?_push_of_some _ e) (Nat.le_refl _) (show ObjOk X.prog X.w _ _ _ (.tup ys) from ⟨hz,its,r',IsTup.new _ _⟩)
  exact ⟨.ref h'.objs.size,_,I2,rfl,q _ (I1.hok.fresh (Nat.le_refl _))⟩
 ·obtain ⟨its,r',pl,hz⟩:=I.tuple hq
  exact call_tuple_same pl ⟨.ref p,H,I,rfl,q⟩
def tyV (K:PySem.W.Frag) (T:String) (x:V) (H:Hp):Prop:=match x with
 | .str _=>T="str"
 | .int _=>T="int"
 | .ref p=>(T="list"∧∃xs,SqL K H p xs)∨(T="tuple"∧∃o,K.lookup p=some o∧o.cls=.type "tuple"∧o.dict=none) ∨
   (T="dict"∧((∃kvs,H p=some (.dK kvs))∨∃kvs,H p=some (.dT kvs)))∨(T="set"∧∃S n,H p=some (.set S n))
 | _=>False
theorem tyV_is {pins:List (Addr×Obj)} {σ:St} {H:Hp} {s:Shared} {T:String} {x:V} {v:Value} (I:Inv X pins σ H s) (r:RelV x v) (ty:tyV X.K T x H) :
  s.TypeIs v T∧∀a,v=.ref a->∃ob,s.heap.get? a=some ob∧ob.dict=none:=by
 cases x with
 | str z =>
  obtain ⟨t,rfl⟩:=r
  cases (show T="str" from ty)
  exact ⟨typeIs_str s z t,fun _ e=>nomatch e⟩
 | int i =>
  obtain ⟨t,rfl⟩:=r
  cases (show T="int" from ty)
  exact ⟨typeIs_int s i t,fun _ e=>nomatch e⟩
 | ref p =>
  cases r
  rcases ty with ⟨rfl,xs,hq⟩ | ⟨rfl,o,hk,hc,hd⟩ | ⟨rfl,hk⟩ | ⟨rfl,S,n,hk⟩
  ·obtain ⟨its,_,pl,_⟩:=I.list hq
   refine ⟨pl.isList.typeIs,fun a e=>?_⟩
   cases e
   obtain ⟨o,n,e,c,hd,_⟩:=pl
   exact ⟨o,e,hd⟩
  ·refine ⟨⟨o,I.kIn p o hk,hc⟩,fun a e=>?_⟩
   cases e
   exact ⟨o,I.kIn _ o hk,hd⟩
  ·have z:∃o,s.heap.get? p=some o∧o.ExactDict:=by
    rcases hk with ⟨kvs,hk⟩ | ⟨kvs,hk⟩
    ·obtain ⟨_,_,_,_,o,_,_,e,ex,_⟩:=I.hok p _ hk
     exact ⟨o,e,ex⟩
    ·obtain ⟨_,_,_,_,o,_,_,e,ex,_⟩:=I.hok p _ hk
     exact ⟨o,e,ex⟩
   obtain ⟨o,e,ex⟩:=z
   refine ⟨⟨o,e,ex.1⟩,fun a e2=>?_⟩
   cases e2
   exact ⟨o,e,ex.2.1⟩
  ·obtain ⟨o,_,_,_,e,ex,_⟩:=I.hok p _ hk
   refine ⟨⟨o,e,ex.1⟩,fun a e2=>?_⟩
   cases e2
   exact ⟨o,e,ex.2.1⟩
 | _=>exact False.elim ty
def tBM0 (K:PySem.W.Frag) (T:String) (r:V->List V->Hp->VK->Prop) (to:TE):TE:=fun σ H Q=>to σ H fun x H1=>tyV K T x H1∧r x [] H1 Q
def tBM (K:PySem.W.Frag) (T:String) (r:V->List V->Hp->VK->Prop) (to:TE) (t:TA):TE:=fun σ H Q=>to σ H fun x H1=>tyV K T x H1∧t σ H1 fun xs H2=>r x xs H2 Q
variable {o e:Expr} {es:List Expr} {to:TE} {t:TA} {name:Str} {apos cpos:Pos} {T id:String} {r:V->List V->Hp->VK->Prop}
theorem pe_bm (pa:PlainAttrs T) (slot:Slot T name id) (hty:typeOf (.builtin id)=pure (.type "method_descriptor")) (hm:MtR X id r) (ho:PE X o to) (ha:PA X (e :: es) t)
  (hbase:attributeBase o name X.env (eval o X.env)=eval o X.env:=by rfl)
  (hfew:((backTo cpos (starEach (e :: es) X.env)).all (fun x=>!x.1) && (backToKw cpos (keywordEach [] X.env)).all (fun x=>x.1.isSome)
   && decide ((e :: es).length+([]:List Keyword).length+(if ([]:List Keyword).isEmpty then 0 else 1) < 30))=true:=by rfl)
  (hline:(apos.endLine == cpos.line)=true:=by rfl) (hs:starEach (e :: es) X.env=(false,eval e X.env) :: starEach es X.env:=by rfl) (hplain:(backTo cpos (starEach es X.env)).any (·.1)=false:=by rfl) :
  PE X (.Call (.Attribute o name apos) (e :: es) [] cpos) (tBM X.K T r to t):=by
 intro pins s σ H Q I h
 refine wpAny_Call_method_late hbase hfew hline rfl (thn (ho pins s σ H _ I h) fun v s1 ⟨x,H1,I1,r1,ty,q1⟩=>?_)
 obtain ⟨h1,h2⟩:=tyV_is I1 r1 ty
 refine ⟨T,id,pa,slot,hty,h1,h2,?_⟩
 have hA:=ha cpos pins s1 σ H1 _ I1 q1
 rw[hs] at hA ⊢
 refine Calls.callWith_builtin (by show (false || (backTo cpos (starEach es X.env)).any (·.1))=false;rw[hplain] <;> rfl) (Calls.evalArgs_plain ?_)
 exact thn hA fun us s2 ⟨vs,H2,I2,r2,q2⟩=>hm pins s2 σ H2 x vs v us Q I2 r1 r2 q2
/- xs.append(e),list.index on a module's tuple .. are MtR facts of 06m -/
end
end L2
namespace L2
open PySem PySem.Spec PyProof.Rows
def MtM (X:Cx) (id:String) (r:V->List V->Hp->VK->Prop):Prop :=
 ∀(pins:List (Addr×Obj)) (s:Shared) (σ:St) (H:Hp) (x:V) (xs:List V) (v:Value) (us:List Value) (Q:VK),Inv X pins σ H s->RelV x v->Vals xs us->r x xs H Q →
  wpAny (model X.prog X.w) X.A (call (.builtin id) (v :: us)) (EP X pins σ Q) X.xe s
theorem Vals.one:∀{x:V} {us:List Value},Vals [x] us->∃u,us=[u]∧RelV x u
 | _,_,.cons r .nil=>⟨_,rfl,r⟩
theorem Vals.two:∀{x y:V} {us:List Value},Vals [x,y] us->∃u v,us=[u,v]∧RelV x u∧RelV y v
 | _,_,_,.cons r (.cons q .nil)=>⟨_,_,rfl,r,q⟩
theorem Vals.zero:∀{us:List Value},Vals [] us->us=[]
 | _,.nil=>rfl
theorem Vals.reverse {xs:List V} {us:List Value} (h:Vals xs us):Vals xs.reverse us.reverse:=by
 induction h with
 | nil=>exact .nil
 | cons r t ih=>rw[List.reverse_cons,List.reverse_cons];exact Vals.append ih (.cons r .nil)
theorem Vals.rep {xs:List V} {us:List Value} (h:Vals xs us):∀k:Nat,Vals (List.replicate k xs).flatten (List.replicate k us).flatten
 | 0=>.nil
 | k+1=>by
  rw[List.replicate_succ,List.replicate_succ,List.flatten_cons,List.flatten_cons]
  exact Vals.append h (Vals.rep h k)
theorem foldl_rep (its:List Value):∀(k:Nat) (acc:List Value),
  List.foldl (fun x1 x2=>x1++x2) acc.toArray (List.replicate k its.toArray)=(acc++(List.replicate k its).flatten).toArray
 | 0,acc=>by simp
 | k+1,acc=>by
  have e:acc.toArray++its.toArray=(acc++its).toArray:=by simp
  have e2:(acc++its)++(List.replicate k its).flatten=acc++(List.replicate (k+1) its).flatten:=by
   rw[List.replicate_succ,List.flatten_cons,List.append_assoc]
  rw[← e2,← foldl_rep its k (acc++its),← e,List.replicate_succ,List.foldl_cons]
section
variable {X:Cx} {pins:List (Addr×Obj)} {σ:St} {H:Hp} {s:Shared} {l b:Addr} {xs ys zs:List V}
theorem Inv.lset {its its':List Value} {n:Nat} {f:Array Value->Array Value} {t':Nat} (I:Inv X pins σ H s) (hH:H l=some (.lst xs))
  (e:s.heap.get? l=some { cls:=.type "list",data:=.seq its.toArray n }) (hf:f its.toArray=its'.toArray) (hv:Vals ys its') (hz:ys.length<=sizeLine) :
  Inv X pins σ (upd H l (.lst ys)) { s with heap:=s.heap.update l (Obj.mapSeq f),toks:=t' }:=by
 have q:=PySem.IsL.update e f
 rw[hf] at q
 refine I.write (x:=l) (e:=l) (by rw[hH];exact trivial) (.inl rfl) (fun b' u hb hu=>(Heap.get?_update_other s.heap (Obj.mapSeq f) (Ne.symm hb)).trans hu) ⟨_,q⟩ ?_
 exact ⟨hz,its',_,hv,q⟩
theorem Inv.lnew {its:List Value} {t':Nat} (I:Inv X pins σ H s) (hv:Vals ys its) (hz:ys.length<=sizeLine) :
  Inv X pins σ (upd H s.heap.objs.size (.lst ys)) { s with heap:=s.heap.push { cls:=.type "list",data:=.seq its.toArray },toks:=t' } :=
 I.laid (fun _ _ q=>Heap.get?_push_of_some _ q) (Nat.le_refl _) ⟨hz,its,0,hv,Heap.get?_push_size _ rfl⟩
theorem Inv.fresh (I:Inv X pins σ H s):H s.heap.objs.size=none:=I.hok.fresh (Nat.le_refl _)
theorem Inv.lstM (I:Inv X pins σ H s) (hH:H l=some (.lst xs)):xs.length<=sizeLine∧∃(its:List Value) (n:Nat),Vals xs its∧xs.length=its.length∧s.heap.get? l=some { cls:=.type "list",data:=.seq its.toArray n }:=by
 obtain ⟨z,its,n,r,e⟩:=I.hok l _ hH
 exact ⟨z,its,n,r,r.length,e⟩
theorem notLongL {n:Nat} (h:n<=sizeLine):Builtin.List.listTooLong n=false:=by
 unfold Builtin.List.listTooLong
 exact decide_eq_false (by lia)
end
section
variable {X:Cx}
def rAppend:V->List V->Hp->VK->Prop:=fun x vs H Q=>∃l xs y,x=.ref l∧vs=[y]∧H l=some (.lst xs)∧xs.length < sizeLine∧Q .non (upd H l (.lst (xs++[y])))
theorem mt_append:MtM X "list.append" rAppend:=by
 intro pins s σ H x vs v us Q I rx rv h
 obtain ⟨l,xs,y,rfl,rfl,hH,hz,q⟩:=h
 cases rx
 obtain ⟨u,rfl,ru⟩:=rv.one
 obtain ⟨z,its,n,r,hl,e⟩:=I.lstM hH
 refine call_meets F.slot_list_append ⟨_,e,rfl⟩ F.entry_list_append (F.args_list_append_2 _ _) (PySem.list_append l its.toArray n u (by rw[List.size_toArray];lia)) ⟨e,?_⟩
 refine ⟨.non,_,I.lset (its':=its++[u]) hH e (by simp) (r.append (.cons ru .nil)) ?_,rfl,q⟩
 rw[List.length_append,List.length_singleton]
 lia
def rCat:R2:=fun x y H Q=>∃l b xs zs,x=.ref l∧y=.ref b∧H l=some (.lst xs)∧H b=some (.lst zs)∧xs.length+zs.length<=sizeLine∧∀p,H p=none->Q (.ref p) (upd H p (.lst (xs++zs)))
theorem op_cat:OpR X (binaryOp .Add) rCat:=by
 intro pins s σ H x y v u Q I rx ry h
 obtain ⟨l,b,xs,zs,rfl,rfl,hH,hB,hz,q⟩:=h
 cases rx
 cases ry
 obtain ⟨z,its,n,r,hl,e⟩:=I.lstM hH
 obtain ⟨z2,its2,n2,r2,hl2,e2⟩:=I.lstM hB
 refine PySem.P.add_list e e2 ?_ (by rw[List.size_toArray,List.size_toArray];lia)
 have ea:its.toArray++its2.toArray=(its++its2).toArray:=by simp
 rw[ea]
 exact ⟨.ref _,_,I.lnew (t':=s.toks) (r.append r2) (by rw[List.length_append];lia),rfl,q _ I.fresh⟩
def rRep:R2:=fun x y H Q=>∃l k xs,x=.ref l∧y=.int k∧H l=some (.lst xs)∧-(2^63)<=k∧k < 2^63∧xs.length*k.toNat<=sizeLine ∧
 ∀p,H p=none->Q (.ref p) (upd H p (.lst (List.replicate k.toNat xs).flatten))
theorem len_rep {α:Type} (xs:List α) (k:Nat):(List.replicate k xs).flatten.length=k*xs.length:=by
 induction k with
 | zero=>simp
 | succ k ih=>rw[List.replicate_succ,List.flatten_cons,List.length_append,ih,Nat.succ_mul,Nat.add_comm]
theorem op_rep:OpR X (binaryOp .Mult) rRep:=by
 intro pins s σ H x y v u Q I rx ry h
 obtain ⟨l,k,xs,rfl,rfl,hH,h1,h2,hz,q⟩:=h
 cases rx
 obtain ⟨t,rfl⟩:=ry
 obtain ⟨z,its,n,r,hl,e⟩:=I.lstM hH
 have hlen:its.toArray.size*k.toNat<=sizeLine:=by rw[List.size_toArray,← hl];exact hz
 have hcap:¬its.toArray.size*k.toNat > (2^63 - 1) / 8:=by
  have:(sizeLine:Nat)<=(2^63 - 1) / 8:=by decide
  lia
 have hfit:¬(!Builtin.List.listFitsIndex k)=true:=by
  rw[fitsIndex_both h1 h2]
  exact Bool.false_ne_true
 have hlong:¬Builtin.List.listTooLong (its.toArray.size*k.toNat)=true:=by
  rw[notLongL hlen]
  exact Bool.false_ne_true
 have hnew:List.foldl (fun x1 x2=>x1++x2) #[] (List.replicate (if its.toArray.isEmpty=true then 0 else k.toNat) its.toArray)=(List.replicate k.toNat its).flatten.toArray:=by
  have f0:∀m:Nat,List.foldl (fun x1 x2=>x1++x2) #[] (List.replicate m its.toArray)=(List.replicate m its).flatten.toArray:=fun m=>by
   have:=foldl_rep its m []
   rw[List.nil_append] at this
   exact this
  rw[f0]
  cases its with
  | nil=>simp
  | cons a r'=>rw[if_neg (by simp)]
 refine wpAny_binaryOp_repeat_ref (T:="list") (U:="int") (by decide) ⟨_,e,rfl⟩ (fun s'=>typeIs_int s' k t) noFill_list_mul F.fills_int_mul F.slot_int_rmul repeat_list F.slot_int_index.lookup
  (call_meets F.slot_int_rmul (typeIs_int s k t) F.entry_int_rmul (F.args_int_rmul_2 _ _) (int___rmul___int_list k t l its.toArray n)
   ⟨e,rfl,⟨_,e,rfl⟩,call_meets F.slot_list_mul ⟨_,e,rfl⟩ F.entry_list_mul (F.args_list_mul_2 _ _) (AutoListH.list___mul___list_int_3 l its.toArray n k t hfit hcap hlong) ⟨e,?_⟩⟩)
 rw[hnew]
 exact ⟨.ref _,_,I.lnew (t':=s.toks) (r.rep k.toNat) (by rw[len_rep,Nat.mul_comm];exact hz),rfl,q _ I.fresh⟩
end
section
variable {prog:Program} {w:World} {A:Around} {E:Value->Shared->Prop} {s:Shared}
end
section
variable {X:Cx}
end
end L2
namespace Att
open PySem PySem.W PySem.Calls PyProof.Rows
theorem ints_of_wellAll {P:Params} {h:Heap}:∀(ns:List Int) (vs:List Value),WellAll P h vs (ns.map WData.int)->IntsAre vs ns:=by
 intro ns
 induction ns with
 | nil =>
  intro vs w
  rw[List.map_nil] at w
  cases w
  exact .nil
 | cons n ns ih =>
  intro vs w
  rw[List.map_cons] at w
  cases w with
  | cons a b =>
   cases a
   exact .cons _ _ (ih _ b)
theorem script_of {l:OpenLaw} {n:Nat} (hn:l.most=some n) {P:Params} {h:Heap} {args:List WData} {vals:List Value}
  (hpre:l.row.toRowW.claim.pre args=true) (hwl:WellAll P h vals args) :
  ∃a vs ns,vals=[Value.ref a]∧args=[WData.list (ns.map WData.int)]∧h.get? a=some { cls:=.type "list",data:=.seq vs.toArray }∧IntsAre vs ns∧ns.length<=n:=by
 have hsh:WShape.hasAll [] args [.list .int]=true:=(pre_splitW hpre).1
 have hc:l.pre.holds [] { args:=args }=true:=(pre_splitW hpre).2
 obtain ⟨d,r,rfl,h1,h2⟩:=hasAllW_cons hsh
 obtain rfl:=hasAllW_nil h2
 obtain ⟨xs,rfl,h3⟩:=hasW_list h1
 obtain ⟨ns,rfl⟩:=items_int h3
 have hlen:ns.length<=n:=by
  unfold OpenLaw.pre at hc
  have h4:(WTm.not (.lt (.lit (.int (n:Int))) (.len (.arg 0)))).holds [] { args:=[.list (ns.map .int)] }=true:=by
   have h4:=(holds_andW hc).1
   rw[hn] at h4
   exact h4
  have h5:=condW_of h4 (w_not (w_lt w_lit (w_len_list (w_arg rfl))))
  rw[List.length_map] at h5
  refine Nat.le_of_not_lt fun q=>?_
  have q':(n:Int) < ((ns.length:Nat):Int):=by lia
  first
   | (rw[decide_eq_true q'] at h5;exact absurd h5 (by decide))
   | (simp at h5;lia)
 cases hwl with
 | cons w1 w2 =>
  cases w2
  cases w1 with
  | list ho hall=>exact ⟨_,_,ns,rfl,rfl,ho,ints_of_wellAll ns _ hall,hlen⟩
theorem post_true (l:OpenLaw) (args:List WData):l.row.toRowW.claim.post args (.bool true) args=true :=
 postW_of (r:=l.row.toRowW) (X:=(true == true))
  (show WShape.has [] (.bool true) .bool=true by first | rfl | decide | simp [WShape.has,WShape.arms,WShape.armsAll])
  (show (WTm.eq .res (.lit (.bool true))).value [] { args:=args,res:=some (.bool true),after:=args }=some (.bool (true == true)) from w_eq_bool (w_res rfl) w_lit) rfl
theorem attach_call {l:OpenLaw} {n:Nat} {q:Program} {loose:List Str} {XP:(Str->Option Value)->Heap->Prop} {YP:World->Heap->Prop} {d:DefRec}
  (hn:l.most=some n) (hdf:d.params.defaults=[])
  (call:∀(w:World) (s₀ s₁:Shared) (mg mb:Str->Option Value) (fa:Addr) (o:Obj) (pm cd doc:Value) (a:Addr) (vs:List Value) (ns:List Int),
   Ground q loose [] XP w s₀ mg mb s₁.heap->YP w s₁.heap →
   s₁.heap.get? fa=some o->o.data=.func (docDef d.name d.params d.body d.scope pm cd doc)->s₁.heap.CodeRec cd d.name->mg d.name=some (.ref fa) →
   s₁.heap.get? a=some { cls:=.type "list",data:=.seq vs.toArray }->IntsAre vs ns->ns.length<=n->s₁.gens=#[] →
   codeAny (model l.prog w) callerA (.call (.ref fa) ⟨[.ref a],[]⟩) (fun r s'=>r=.ok (.ret (.bool true))∧OldK s₁.heap s'.heap∧s'.os=s₁.os∧AllBare s'.gens) s₁) :
  WalkO q loose XP YP l.row.toRowW d [] (fun f vs=>PySem.call f vs):=by
 intro w s₀ s₁ mg mb G Y fa o pm cd doc dV kV ho hd hcd hD hmg hg args vals as hpre hlay hrd hwl hlo
 obtain rfl:dV=.none:=Dflts.none hD hdf
 obtain rfl:kV=.none:=Dflts.noKw hD
 obtain ⟨a,vs,ns,rfl,rfl,hobj,hints,hlen⟩:=script_of hn hpre hwl
 refine enter_call (codeAny_mono (call w s₀ s₁ mg mb fa o pm cd doc a vs ns G Y ho (fd_plain hd) hcd hmg hobj hints hlen hg) fun r s' hq=>?_)
 obtain ⟨rfl,h2,h3,h4⟩:=hq
 exact ⟨.inl ⟨.bool true,.bool true,[],rfl,fun _=>rfl,.bool true,post_true l _,fun _=>⟨List.Pairwise.nil,fun _ hm=>(nomatch hm)⟩⟩,h2,h3,h4⟩
section
variable {prog:Program} {w:World} {A:Around} {E:Value->Shared->Prop} {s:Shared} {K:Frag}
def ledger (h:Heap) (L d:Addr):List (Addr×Obj):=(List.range h.objs.size).filterMap fun a=>if a=L∨a=d then none else (h.get? a).map fun o=>(a,o)
end
end Att
namespace L2
open PySem PySem.Spec PyProof.Rows
theorem vals_ints:∀{vs:List Value} {ns:List Int},IntsAre vs ns->Vals (ns.map V.int) vs
 | _,_,.nil=>.nil
 | _,_,.cons n t h=>.cons ⟨t,rfl⟩ (vals_ints h)
def Only (H:Hp):Prop:=∀b,H b=none∨∃o xs,H b=some (.frz o (.lst xs))
theorem law_call {P : Program} {w : World} {K : PySem.W.Frag} {mg mb : Str → Option Value} {CX : CXT} {k : Nat} {fa a : Addr} {fd : FuncData} {x : Str} {sp : Sp} {s₁ : Shared} {vs : List Value} {ns : List Int}
    (KX : K.In s₁.heap) (hns : s₁.heap.Ns mainGlobals mg) (hb : s₁.heap.Ns builtinsNs mb) (hbb : ∀ x : Str, x ≠ "__name__" → mb x = bootBuiltins x) (hlim : s₁.heap.NoLimit) (hsy : ∃ mm, s₁.heap.Ns sysModules mm) (hg : s₁.gens = #[])
    (ha : s₁.heap.get? a = some { cls := .type "list", data := .seq vs.toArray }) (hi : IntsAre vs ns) (hl : ns.length ≤ sizeLine) (hr : Room k callerA)
    (F : ∀ base : Heap, K.In base → base.Ns mainGlobals mg → FnOk P w K mg base CX k fa fd [x] sp) (hbind : ∀ (s : Shared) (u : Value), BindsTo s fd ⟨[u], []⟩ [(x, u)])
    (hsp : ∀ H : Hp, Only H → SqL K H a (ns.map V.int) → sp [.ref a] H (fun v _ => v = .bl true) fun _ _ _ => False)
    (hCX : ∀ H e s', CX [] H s₁ (fun _ _ _ => False) e s' → False) :
    codeAny (model P w) callerA (.call (.ref fa) ⟨[.ref a], []⟩) (fun r s' => r = .ok (.ret (.bool true)) ∧ OldK s₁.heap s'.heap ∧ s'.os = s₁.os ∧ AllBare s'.gens) s₁ := by
  have rv := vals_ints hi
  have lenV := hi.length
  -- from an abstract heap in which nothing but the script may be tracked
  have core : ∀ H : Hp, Only H → SqL K H a (ns.map V.int) → HOk P w H s₁.heap → (∀ b, H b ≠ none → b = a) → (H a ≠ none → K.lookup a = none) →
      codeAny (model P w) callerA (.call (.ref fa) ⟨[.ref a], []⟩) (fun r s' => r = .ok (.ret (.bool true)) ∧ OldK s₁.heap s'.heap ∧ s'.os = s₁.os ∧ AllBare s'.gens) s₁ := by
    intro H hO hS hok hA hK
    have base_of : ∀ {b : Addr} {o : Obj}, s₁.heap.get? b = some o → H b = none → (hidT s₁.heap H).get? b = some o := fun e n => hidT_get e n
    have noA : ∀ {b : Addr} {o : Obj} {es : Array DictEntry} {ep : Nat}, s₁.heap.get? b = some o → o.data = .dict es ep → H b = none := fun {b o es ep} e d => by
      cases q : H b with
      | none => rfl
      | some u =>
        have e' : b = a := hA b (by rw [q]; simp)
        subst e'
        rw [ha] at e; cases e
        have d' : Data.seq vs.toArray _ = Data.dict es ep := d
        cases d'
    have nsK : ∀ {b : Addr} {m : Str → Option Value}, s₁.heap.Ns b m → (hidT s₁.heap H).Ns b m := fun {b m} ⟨o, es, ep, e, d, r⟩ => ⟨o, es, ep, base_of e (noA e d), d, r⟩
    have hKb : K.In (hidT s₁.heap H) := fun b o e => base_of (KX b o e) (by
      cases q : H b with
      | none => rfl
      | some u =>
        have e' : b = a := hA b (by rw [q]; simp)
        subst e'
        rw [hK (by rw [q]; simp)] at e; cases e)
    have hM : Mod K mg (hidT s₁.heap H) := ⟨hKb, nsK hns, ⟨mb, nsK hb, hbb⟩, let ⟨mc, h1, h2⟩ := hlim; ⟨mc, nsK h1, h2⟩, let ⟨mc, h1⟩ := hsy; ⟨mc, nsK h1⟩⟩
    have e0 : Env0 P w K mg (hidT s₁.heap H) callerA [] s₁ H := ⟨rfl, hM, fun b o e => of_hidT e, Nat.le_of_eq (hidT_size _ _), trivial, fun b hb => absurd (show b ∈ ([] : List Addr) from hb) (by simp), hok, .of_eq hg⟩
    refine codeAny_mono ((F _ hKb (nsK hns)).run callerA [] s₁ H ⟨[.ref a], []⟩ [.ref a] [.ref a] _ _ hr e0 (hbind s₁ (.ref a)) (.cons rfl .nil) (hsp H hO hS)) fun r s' h => ?_
    cases r with
    | error e => exact (hCX H e s' h).elim
    | ok fl =>
      cases fl with
      | next => exact False.elim h
      | brk => exact False.elim h
      | cont => exact False.elim h
      | ret u =>
        obtain ⟨v, H', os, bare, un, hok', r', q⟩ := h
        have q' : v = .bl true := q
        subst q'
        obtain rfl : u = Value.bool true := r'
        refine ⟨rfl, OldK.of_keep fun b o e => ?_, os, bare⟩
        cases q : H b with
        | none => exact un.keep b o e q (by intro z; exact absurd (show b ∈ ([] : List Addr) from z) (by simp)) (by simp)
        | some u =>
          rcases hO b with z | ⟨ob, xs, z⟩
          · rw [q] at z; cases z
          · have z2 := un.frzs b ob _ z
            obtain ⟨e1, _⟩ := hok b _ z
            obtain ⟨e2, _⟩ := hok' b _ z2
            rw [e] at e1; cases e1
            exact e2
  cases hk : K.lookup a with
  | some o =>
    -- the script is one of the module's own objects
    have e := KX a o hk
    rw [ha] at e
    cases e
    refine core (fun _ => none) (fun _ => .inl rfl) (.inr ⟨_, vs.toArray, _, hk, rfl, rfl, rfl, by rw [List.size_toArray, lenV]; exact hl, by simpa using rv⟩) (fun b u z => by have z' : (none : Option HO) = some u := z; cases z') (fun b z => absurd rfl z) fun z => absurd rfl z
  | none =>
    refine core (fun b => if b = a then some (.frz { cls := .type "list", data := .seq vs.toArray } (.lst (ns.map V.int))) else none) (fun b => ?_) (.inl (.inr ⟨{ cls := .type "list", data := .seq vs.toArray }, if_pos rfl⟩)) (fun b u z => ?_) (fun b z => ?_) fun _ => hk
    · by_cases hb : b = a
      · exact .inr ⟨_, _, if_pos hb⟩
      · exact .inl (if_neg hb)
    · by_cases hb : b = a
      · have z' := (if_pos hb).symm.trans z
        cases z'
        subst hb
        exact ⟨ha, by rw [List.length_map]; exact hl, vs, _, rv, ha⟩
      · have z' := (if_neg hb).symm.trans z
        cases z'
    · by_cases hb : b = a
      · exact hb
      · exact absurd (if_neg hb) z
end L2
namespace L2
open PySem PySem.Spec PyProof.Rows
abbrev KOf {K:PySem.W.Frag} {h:Heap} (_:K.In h):PySem.W.Frag:=K
theorem walk_of {l:PySem.W.OpenLaw} {n k:Nat} {q:Program} {loose:List Str} {XP:(Str->Option Value)->Heap->Prop} {YP:World->Heap->Prop} {d:DefRec} {K:Params->PySem.W.Frag} {CX:World->CXT} {sp:World->Sp} {x:Str}
  (hn:l.most=some n) (hn2:n<=sizeLine) (hdf:d.params.defaults=[]) (hr:Room k callerA) (hi:importsNone q=true)
  (hY:∀(w:World) (h:Heap),YP w h->(K w.params).In h)
  (F:∀(w:World) (mg:Str->Option Value) (fa:Addr) (h:Heap),(K w.params).In h->h.Ns mainGlobals mg->mg d.name=some (.ref fa) →
   ∃fd:FuncData,(∀(s:Shared) (u:Value),BindsTo s fd ⟨[u],[]⟩ [(x,u)]) ∧
    ∀base:Heap,(K w.params).In base->base.Ns mainGlobals mg->FnOk l.prog w (K w.params) mg base (CX w) k fa fd [x] (sp w))
  (hsp:∀(w:World) (H:Hp) (a:Addr) (ns:List Int),ns.length<=n->Only H->SqL (K w.params) H a (ns.map V.int)->sp w [.ref a] H (fun v _=>v=.bl true) fun _ _ _=>False)
  (hCX:∀(w:World) (H:Hp) (s:Shared) (e:Value) (s':Shared),CX w [] H s (fun _ _ _=>False) e s'->False) :
  PySem.W.WalkO q loose XP YP l.row.toRowW d [] (fun f vs=>PySem.call f vs):=by
 refine Att.attach_call hn hdf fun w s₀ s₁ mg mb fa o pm cd doc a vs ns G Y ho hd hcd hmg hobj hints hlen hg=>?_
 have KX:=hY w _ Y
 obtain ⟨fd,hb,hF⟩:=F w mg fa _ KX G.T.g hmg
 exact law_call KX G.T.g G.T.b G.T.builtins G.T.nolimit (let ⟨mm,e,_⟩:=(G.T.seer hi).mods;⟨mm,e⟩) hg hobj hints (Nat.le_trans hlen hn2) hr hF hb (fun H hO hS=>hsp w H a ns hlen hO hS) fun H e s'=>hCX w H s₁ e s'
end L2

/- THE LAST THEOREM (shape; LID, My.* are yours):
   My.Adr: a structure of the addresses that your layer names (classes, functions); My.Txt K t: a structure (Prop) of the equations over K;
   My.txt_mk : {K} {implicit addresses ..} (e1 : nsIn K mainGlobals "law" = some (some (.ref f))) (e2 : K.lookup f = some ⟨oc, od, .func (fnOf "law" "law" params body scope dV kV doc pm an cdv ct), sl⟩) (e3 : codeIn K cdv "law" = true) .. : ∃ t, My.Txt K t

set_option maxRecDepth 100000 in
set_option maxHeartbeats 0 in
theorem PySem.Challenge.cw_LID_holds : PySem.Challenge.rw_LID.Holds := by
  w_on; o_law; k_head; (case hw => w_witness2)
  k_fill
  refine L2.walk_of (l := PySem.Challenge.rw_LID) (n := 63) (k := 40) (x := "script") (CX := fun w => ..) (sp := fun _ => My.sp_law) rfl (by decide) rfl ⟨rfl, by decide, by decide⟩ (fun w h Y => PySem.W.kIn_of Y) ?F ?S ?C
  case F =>
    intro w mg fa h KX G hmg
    have T : ∃ t, My.Txt (L2.KOf KX) t := by
      dsimp only [L2.KOf]                          -- K must stand as «<heap const> w.params» for k_is
      refine' My.txt_mk ?e1 ?e2 ?e3 ..
      (case e1 => PySem.W.k_is)                    -- in the order: a name -> its address -> its object -> its parts
      (case e2 => PySem.W.k_is)
      ..
    obtain ⟨t, T⟩ := T
    have e0 := hmg.symm.trans (PySem.W.mg_of KX G T.law)
    cases e0                                       -- fa is the law's own address
    exact ⟨_, fun s u => .of_eq rfl, fun base kb nb => My.law_fn T kb nb⟩     -- if «.of_eq rfl» comes too early: refine' ⟨_, ?b, fun base kb nb => My.law_fn T kb nb⟩; exact fun s u => .of_eq rfl
  case S => exact fun w H a ns hl hO hS => ..
  case C => exact ..
(the tactic k_is has no namespace: write k_is) -/

namespace L2
open PySem PySem.Spec PyProof.Rows
def inClass (s:Stmt) (j:Nat):Stmt:=match s with
 | .ClassDef _ _ _ body _ _ _ _ _ _ _=>body.getD j (.Pass ⟨0,0,0,0⟩)
 | _=>.Pass ⟨0,0,0,0⟩
def defArgs (s:Stmt):Arguments:=match s with
 | .FunctionDef _ a _ _ _ _ _ _ _ _=>a
 | _=>{ posonlyargs:=[],args:=[],vararg:=none,kwonlyargs:=[],kw_defaults:=[],kwarg:=none,defaults:=[] }
def defBody (s:Stmt):List Stmt:=match s with
 | .FunctionDef _ _ b _ _ _ _ _ _ _=>b
 | _=>[]
def defScope (s:Stmt):Scope:=match s with
 | .FunctionDef _ _ _ _ _ _ sc _ _ _=>sc
 | _=>{ kind:=.function,names:=[],isGenerator:=false,isCoroutine:=false }
abbrev CX0:CXT:=fun _ _ _ _ _ _=>False
abbrev E0:XK:=fun _ _ _=>False
theorem pass0 {X:Cx}:Passes CX0 X E0:=fun _ _ _ _ _ _ _ h=>h.elim
structure Fun (K:PySem.W.Frag) (x qual:Str) (st:Stmt) (f:Addr) (fd:FuncData):Prop where
 ex:∃(oc:Value) (od:Option Addr) (kV doc pm:Value) (an:Option Addr) (cdv ct:Value) (osl:Array (Option Value)),
  fd=PySem.W.fnOf x qual (defArgs st) (defBody st) (defScope st) .none kV doc pm an cdv ct∧K.lookup f=some ⟨oc,od,.func fd,osl⟩∧PySem.W.codeIn K cdv qual=true
 kp:PySem.W.keepIn K (.ref f)=true
section
variable {P:Program} {w:World} {K:PySem.W.Frag} {mg:Str->Option Value} {base:Heap}
theorem Fun.ok {x qual:Str} {st:Stmt} {f:Addr} {fd:FuncData} {N ps:List Str} {k:Nat} {sp:Sp} (F:Fun K x qual st f fd) (S:FnScope N ps (defScope st)) (len:∀vs H Q E,sp vs H Q E->vs.length=ps.length)
  (hbody:∀(cdv:Value) (A:Around) (outer:List Env) (s:Shared) (H:Hp) (vs:List V) (Q:VK) (E:XK),Room k (A.deeper (envOfC qual (defScope st) s.heap.objs.size f cdv))->sp vs H Q E →
   ∃t,PSs (cxOf CX0 P w K mg base N qual (defScope st) f cdv A outer s H E).nox (defBody st) t∧t { nx:=fun _ H'=>Q .non H',rt:=Q } (start N vs) H):FnOk P w K mg base CX0 (k+1) f fd ps sp:=by
 obtain ⟨oc,od,kV,doc,pm,an,cdv,ct,osl,rfl,lk,hcd⟩:=F.ex
 refine fn_of lk hcd S len fun A outer s H vs Q E hr hsp=>?_
 obtain ⟨t,h,q⟩:=hbody cdv A outer s H vs Q E hr hsp
 exact ⟨t,h.nox,q⟩
theorem Fun.binds {x qual:Str} {st:Stmt} {f:Addr} {fd:FuncData} {ps:List Str} (F:Fun K x qual st f fd)
  (h:∀(kV doc pm:Value) (an:Option Addr) (cdv ct:Value) (us:List Value),us.length=ps.length->bindArgs (PySem.W.fnOf x qual (defArgs st) (defBody st) (defScope st) .none kV doc pm an cdv ct) ⟨us,[]⟩=pure (ps.zip us)):Binds K fd ps []:=by
 obtain ⟨oc,od,kV,doc,pm,an,cdv,ct,osl,rfl,lk,hcd⟩:=F.ex
 exact .all (h kV doc pm an cdv ct)
theorem fun_mk {x qual:Str} {st:Stmt} {f:Addr} {oc:Value} {od an:Option Addr} {osl:Array (Option Value)} {kV doc pm cdv ct:Value} (l:K.lookup f=some ⟨oc,od,.func (PySem.W.fnOf x qual (defArgs st) (defBody st) (defScope st) .none kV doc pm an cdv ct),osl⟩)
  (c:PySem.W.codeIn K cdv qual=true) (k:PySem.W.keepIn K (.ref f)=true):Fun K x qual st f (PySem.W.fnOf x qual (defArgs st) (defBody st) (defScope st) .none kV doc pm an cdv ct):=⟨⟨oc,od,kV,doc,pm,an,cdv,ct,osl,rfl,l,c⟩,k⟩
end
theorem small1000 {n:Nat} (h:n<=1000):n < sizeLine:=Nat.lt_of_le_of_lt h (by decide)
section
variable {X:Cx}
theorem pv (i:Nat) {x:Str} {pos:Pos} (hN:X.N[i]?=some x:=by rfl) (hv:Vis X.env.scope x:=by first | exact Or.inl rfl | exact Or.inr (Or.inl rfl) | exact Or.inr (Or.inr rfl)) (hd:(x == ("__debug__":Str))=false:=by decide)
  (hcd:(x == ("__classdict__":Str))=false:=by decide):PE X (.Name x pos) (tVar i):=pe_var hN hv hd hcd
end
theorem iteF {A B:Prop} (h:B):if false=true then A else B:=by
 rw[if_neg Bool.false_ne_true]
 exact h
theorem iteT {A B:Prop} (h:A):if true=true then A else B:=by
 rw[if_pos rfl]
 exact h
theorem ite2 {c A B:Prop} [Decidable c] (h1:c->A) (h2:¬c->B):if c then A else B:=by
 by_cases h:c
 ·rw[if_pos h]
  exact h1 h
 ·rw[if_neg h]
  exact h2 h
def Same (H H':Hp):Prop:=∀b o,H b=some o->H' b=some o
theorem Same.refl (H:Hp):Same H H:=fun _ _ h=>h
theorem Same.trans {H H1 H2:Hp} (a:Same H H1) (b:Same H1 H2):Same H H2:=fun c o h=>b c o (a c o h)
theorem Same.free {H H':Hp} (e:Same H H') {l:Addr} (h:H' l=Option.none):H l=Option.none:=by
 cases q:H l with
 | none=>rfl
 | some o =>
  rw[e l o q] at h
  cases h
theorem Same.seq {K:PySem.W.Frag} {H H':Hp} {a:Addr} {xs:List V} (e:Same H H') (h:SqL K H a xs):SqL K H' a xs:=by
 rcases h with (h | ⟨o,h⟩) | h
 ·exact .inl (.inl (e _ _ h))
 ·exact .inl (.inr ⟨o,e _ _ h⟩)
 ·exact .inr h
end L2
namespace Nm
theorem gcd_fmod (a b:Int):Int.gcd b (a.fmod b)=Int.gcd a b:=by
 rw[Int.fmod_def,Int.gcd_comm a b]
 apply Nat.dvd_antisymm
 ·apply Int.dvd_gcd
  ·exact Int.gcd_dvd_left ..
  ·have h1:=Int.gcd_dvd_left (a:=b) (b:=a - b*a.fdiv b)
   have h2:=Int.gcd_dvd_right (a:=b) (b:=a - b*a.fdiv b)
   have h3:=Int.dvd_add h2 (Int.dvd_mul_of_dvd_left (c:=a.fdiv b) h1)
   rwa [Int.sub_add_cancel] at h3
 ·apply Int.dvd_gcd
  ·exact Int.gcd_dvd_left ..
  ·exact Int.dvd_sub (Int.gcd_dvd_right ..) (Int.dvd_mul_of_dvd_left (Int.gcd_dvd_left ..))
theorem gcd_emod (a b:Int):Int.gcd b (a % b)=Int.gcd a b:=by
 rw[Int.emod_def,Int.gcd_comm a b]
 apply Nat.dvd_antisymm
 ·apply Int.dvd_gcd
  ·exact Int.gcd_dvd_left ..
  ·have h1:=Int.gcd_dvd_left (a:=b) (b:=a - b*(a / b))
   have h2:=Int.gcd_dvd_right (a:=b) (b:=a - b*(a / b))
   have h3:=Int.dvd_add h2 (Int.dvd_mul_of_dvd_left (c:=a / b) h1)
   rwa [Int.sub_add_cancel] at h3
 ·apply Int.dvd_gcd
  ·exact Int.gcd_dvd_left ..
  ·exact Int.dvd_sub (Int.gcd_dvd_right ..) (Int.dvd_mul_of_dvd_left (Int.gcd_dvd_left ..))
theorem fmod_lt (a b:Int) (h:b≠0):(a.fmod b).natAbs < b.natAbs:=by
 rcases Int.lt_or_gt_of_ne h with h | h
 ·have e:a.fmod b=-((-a).fmod (-b)):=by
   have:=Int.neg_fmod_neg (-a) (-b)
   simp only[Int.neg_neg] at this
   exact this
  have h1:=Int.fmod_nonneg_of_pos (-a) (b:=-b) (by lia)
  have h2:=Int.fmod_lt_of_pos (-a) (b:=-b) (by lia)
  lia
 ·have h1:=Int.fmod_nonneg_of_pos a h
  have h2:=Int.fmod_lt_of_pos a h
  lia
def g (t b:Int):Int:=(Int.gcd t b:Int)
def lo (t b:Int):Int:=t / g t b
def hi (t b:Int):Int:=b / g t b
theorem g_pos {t b:Int} (h:b≠0):0 < g t b:=by
 unfold g
 have:0 < Int.gcd t b:=Int.gcd_pos_of_ne_zero_right _ h
 lia
theorem lo_mul (t b:Int):lo t b*g t b=t:=Int.ediv_mul_cancel (Int.gcd_dvd_left ..)
theorem hi_mul (t b:Int):hi t b*g t b=b:=Int.ediv_mul_cancel (Int.gcd_dvd_right ..)
theorem hi_pos {t b:Int} (h:0 < b):0 < hi t b:=by
 have h1:=g_pos (t:=t) (b:=b) (by lia)
 have h2:=hi_mul t b
 by_cases h3:0 < hi t b
 ·exact h3
 ·have:hi t b*g t b<=0:=Int.mul_nonpos_of_nonpos_of_nonneg (by lia) (by lia)
  lia
theorem lohi_gcd {t b:Int} (h:b≠0):Int.gcd (lo t b) (hi t b)=1:=by
 have h1:=g_pos (t:=t) h
 have e:=Int.gcd_mul_right (lo t b) (g t b) (hi t b)
 rw[lo_mul,hi_mul] at e
 have e2:(g t b).natAbs=Int.gcd t b:=by unfold g;simp
 rw[e2] at e
 have h2:0 < Int.gcd t b:=Int.gcd_pos_of_ne_zero_right _ h
 exact Nat.eq_of_mul_eq_mul_right h2 (by rw[← e,Nat.one_mul])
theorem lohi_cross (t b:Int):lo t b*b=t*hi t b:=by
 have h1:=lo_mul t b
 have h2:=hi_mul t b
 calc lo t b*b=lo t b*(hi t b*g t b):=by rw[h2]
  _=(lo t b*g t b)*hi t b:=by rw[Int.mul_comm (hi t b),← Int.mul_assoc]
  _=t*hi t b:=by rw[h1]
theorem dvd_of_cop {a b c:Int} (h:Int.gcd a b=1) (hd:a∣b*c):a∣c:=by
 have h1:a.natAbs∣b.natAbs*c.natAbs:=by rw[← Int.natAbs_mul];exact Int.natAbs_dvd_natAbs.mpr hd
 have h2:Nat.Coprime a.natAbs b.natAbs:=h
 exact Int.natAbs_dvd_natAbs.mp (h2.dvd_of_dvd_mul_left h1)
theorem uniq {a b c d:Int} (hb:0 < b) (hd:0 < d) (h1:Int.gcd a b=1) (h2:Int.gcd c d=1) (e:a*d=c*b):a=c∧b=d:=by
 have e1:b∣d:=by
  have:b∣a*d:=⟨c,by rw[e,Int.mul_comm]⟩
  exact dvd_of_cop (by rw[Int.gcd_comm];exact h1) this
 have e2:d∣b:=by
  have:d∣c*b:=⟨a,by rw[← e,Int.mul_comm]⟩
  exact dvd_of_cop (by rw[Int.gcd_comm];exact h2) this
 have e3:b=d:=Int.dvd_antisymm (by lia) (by lia) e1 e2
 subst e3
 exact ⟨Int.eq_of_mul_eq_mul_right (by lia) e,rfl⟩
theorem low_of {t b c d:Int} (hb:0 < b) (hd:0 < d) (h2:Int.gcd c d=1) (e:t*d=c*b):lo t b=c∧hi t b=d:=by
 refine uniq (hi_pos hb) hd (lohi_gcd (by lia)) h2 ?_
 have h:=lohi_cross t b
 have hb':b≠0:=by lia
 apply Int.eq_of_mul_eq_mul_right hb'
 calc lo t b*d*b=lo t b*b*d:=by rw[Int.mul_assoc,Int.mul_comm d b,← Int.mul_assoc]
  _=t*hi t b*d:=by rw[h]
  _=t*d*hi t b:=by rw[Int.mul_assoc,Int.mul_comm (hi t b),← Int.mul_assoc]
  _=c*b*hi t b:=by rw[e]
  _=c*hi t b*b:=by rw[Int.mul_assoc,Int.mul_comm b,← Int.mul_assoc]
theorem low_id {a b:Int} (hb:0 < b) (h:Int.gcd a b=1):lo a b=a∧hi a b=b:=low_of hb hb h rfl
theorem natAbs_mul_le {a b:Int} (h:b≠0):a.natAbs<=(a*b).natAbs:=by
 rw[Int.natAbs_mul]
 exact Nat.le_mul_of_pos_right _ (Int.natAbs_pos.mpr h)
theorem lo_le {t b:Int} (h:b≠0):(lo t b).natAbs<=t.natAbs:=by
 have:=natAbs_mul_le (a:=lo t b) (b:=g t b) (by have:=g_pos (t:=t) h;lia)
 rwa [lo_mul] at this
theorem hi_le {t b:Int} (h:b≠0):(hi t b).natAbs<=b.natAbs:=by
 have:=natAbs_mul_le (a:=hi t b) (b:=g t b) (by have:=g_pos (t:=t) h;lia)
 rwa [hi_mul] at this
def Sz (k:Nat) (x:Int):Prop:=x.natAbs < 2^k
theorem Sz.mono {j k:Nat} {x:Int} (h:Sz j x) (l:j<=k):Sz k x:=Nat.lt_of_lt_of_le h (Nat.pow_le_pow_right (by decide) l)
theorem Sz.mul {j k:Nat} {x y:Int} (h1:Sz j x) (h2:Sz k y):Sz (j+k) (x*y):=by
 unfold Sz at *
 rw[Int.natAbs_mul,Nat.pow_add]
 exact Nat.mul_lt_mul'' h1 h2
theorem Sz.add {j k:Nat} {x y:Int} (h1:Sz j x) (h2:Sz k y):Sz (j+k+1) (x+y):=by
 have a1:Sz (j+k) x:=h1.mono (by lia)
 have a2:Sz (j+k) y:=h2.mono (by lia)
 unfold Sz at *
 have:=Int.natAbs_add_le x y
 rw[Nat.pow_succ]
 lia
theorem Sz.neg {k:Nat} {x:Int} (h:Sz k x):Sz k (-x):=by unfold Sz at *;rw[Int.natAbs_neg];exact h
theorem Sz.sub {j k:Nat} {x y:Int} (h1:Sz j x) (h2:Sz k y):Sz (j+k+1) (x - y):=by
 rw[Int.sub_eq_add_neg];exact h1.add h2.neg
theorem Sz.le {k:Nat} {x y:Int} (h:Sz k y) (l:x.natAbs<=y.natAbs):Sz k x:=Nat.lt_of_le_of_lt l h
theorem Sz.lo {k:Nat} {t b:Int} (h:Sz k t) (hb:b≠0):Sz k (lo t b):=h.le (lo_le hb)
theorem Sz.hi {k:Nat} {t b:Int} (h:Sz k b) (hb:b≠0):Sz k (hi t b):=h.le (hi_le hb)
end Nm
namespace L2
open PySem PySem.Spec PyProof.Rows
structure Bk (env:Env) (scope:Scope) (own capN:List Str):Prop where
 kind:scope.kind=.function
 locs:∀y∈scope.names,y.2=.local->scope.names.lookup y.1=some .local
 ownk:∀x∈own,scope.names.lookup x=some .local∨scope.names.lookup x=some .cell
 cells:∀y∈scope.names,y.2=.cell->y.1∈own∧y.1∉capN
 frees:∀y∈scope.names,y.2=.free->y.1∈capN∧y.1∉own
 capf:∀x∈capN,scope.names.lookup x=some .free
 caps:∀x∈capN,env.kindOf x=some .cell∨env.kindOf x=some .free
def bkS (scope:Scope) (own capN:List Str):Bool :=
 decide (scope.kind=.function) && scope.names.all (fun y=>decide (y.2=.local->scope.names.lookup y.1=some .local) && decide (y.2=.cell->y.1∈own∧y.1∉capN) && decide (y.2=.free->y.1∈capN∧y.1∉own)) &&
 own.all (fun x=>decide (scope.names.lookup x=some .local∨scope.names.lookup x=some .cell)) && capN.all fun x=>decide (scope.names.lookup x=some .free)
def capsB (env:Env):List Str->Bool
 | []=>true
 | x :: r=>(match env.kindOf x with | some .cell=>true | some .free=>true | _=>false) && capsB env r
theorem capsB_ok {env:Env}:∀{capN:List Str},capsB env capN=true->∀x∈capN,env.kindOf x=some .cell∨env.kindOf x=some .free
 | [],_,_,h=>nomatch h
 | y :: r,h,x,hx=>by
  unfold capsB at h
  rw[Bool.and_eq_true] at h
  rcases List.mem_cons.mp hx with e | hx
  ·subst e
   have h1:=h.1
   split at h1
   ·rename_i e;exact .inl e
   ·rename_i e;exact .inr e
   ·cases h1
  ·exact capsB_ok h.2 x hx
theorem Bk.of {env:Env} {scope:Scope} {own capN:List Str} (h1:bkS scope own capN=true) (h2:capsB env capN=true):Bk env scope own capN:=by
 unfold bkS at h1
 rw[Bool.and_eq_true,Bool.and_eq_true,Bool.and_eq_true,List.all_eq_true,List.all_eq_true,List.all_eq_true] at h1
 obtain ⟨⟨⟨a1,a2⟩,a3⟩,a4⟩:=h1
 have a2':∀y∈scope.names,(y.2=.local->scope.names.lookup y.1=some .local)∧(y.2=.cell->y.1∈own∧y.1∉capN)∧(y.2=.free->y.1∈capN∧y.1∉own):=fun y hy=>by
  have q:=a2 y hy
  rw[Bool.and_eq_true,Bool.and_eq_true] at q
  exact ⟨of_decide_eq_true q.1.1,of_decide_eq_true q.1.2,of_decide_eq_true q.2⟩
 exact ⟨of_decide_eq_true a1,fun y hy=>(a2' y hy).1,fun x hx=>of_decide_eq_true (a3 x hx),fun y hy=>(a2' y hy).2.1,fun y hy=>(a2' y hy).2.2,fun x hx=>of_decide_eq_true (a4 x hx),capsB_ok h2⟩
def capCells (env:Env):List (Str×NameKind)->List (Str×Addr)->List (Str×Addr)
 | [],acc=>acc
 | (n,k) :: r,acc=>if k == .free then capCells env r ((n,(env.cells.lookup n).getD 0) :: acc) else capCells env r acc
theorem capCells_app (env:Env):∀(names:List (Str×NameKind)) (acc:List (Str×Addr)),capCells env names acc=capCells env names []++acc
 | [],_=>rfl
 | (n,k) :: r,acc=>by
  unfold capCells
  split
  ·rw[capCells_app env r (_ :: acc),capCells_app env r [_],List.append_assoc];rfl
  ·exact capCells_app env r acc
theorem capCells_mem (env:Env):∀(names:List (Str×NameKind)) {x:Str} {c:Addr},(x,c)∈capCells env names []->(x,NameKind.free)∈names∧c=(env.cells.lookup x).getD 0
 | [],_,_,h=>nomatch h
 | (n,k) :: r,x,c,h=>by
  unfold capCells at h
  split at h
  ·rename_i hk
   have ek:k=.free:=by simpa using hk
   subst ek
   rw[capCells_app] at h
   rcases List.mem_append.mp h with h | h
   ·have q:=capCells_mem env r h
    exact ⟨List.mem_cons_of_mem _ q.1,q.2⟩
   ·have e:(x,c)=(n,(env.cells.lookup n).getD 0):=by simpa using h
    cases e
    exact ⟨List.mem_cons_self,rfl⟩
  ·have q:=capCells_mem env r h
   exact ⟨List.mem_cons_of_mem _ q.1,q.2⟩
theorem lookup_some_of_mem {α:Type}:∀{l:List (Str×α)} {x:Str} {c:α},(x,c)∈l->∃d,l.lookup x=some d
 | (k,v) :: r,x,c,h=>by
  rw[List.lookup_cons]
  cases hb:x == k with
  | true=>exact ⟨v,rfl⟩
  | false =>
   rcases List.mem_cons.mp h with e | h
   ·cases e;simp at hb
   ·exact lookup_some_of_mem h
theorem capCells_has (env:Env):∀(names:List (Str×NameKind)) {x:Str},(x,NameKind.free)∈names->∃c,(x,c)∈capCells env names []
 | (n,k) :: r,x,h=>by
  unfold capCells
  rcases List.mem_cons.mp h with e | h
  ·cases e
   rw[if_pos (by decide),capCells_app]
   exact ⟨_,List.mem_append_right _ List.mem_cons_self⟩
  ·obtain ⟨c,q⟩:=capCells_has env r h
   split
   ·rw[capCells_app];exact ⟨c,List.mem_append_left _ q⟩
   ·exact ⟨c,q⟩
theorem closureFor_cap {scope:Scope} {env:Env} (h:∀y∈scope.names,y.2=.free->∃c,env.cells.lookup y.1=some c):closureFor scope env=pure (capCells env scope.names []):=by
 have gen:∀(names:List (Str×NameKind)) (acc:List (Str×Addr)) (f:Str×NameKind->List (Str×Addr)->Sem (ForInStep (List (Str×Addr)))),
   (∀name kind cells,f (name,kind) cells=if kind == .free then (do let a ← cellOf env name;pure (.yield ((name,a) :: cells))) else pure (.yield cells)) →
   (∀y∈names,y.2=.free->∃c,env.cells.lookup y.1=some c)->forIn names acc f=pure (capCells env names acc):=by
  intro names
  induction names with
  | nil=>intro acc f hf _;rw[List.forIn_nil];rfl
  | cons y r ih =>
   intro acc f hf hh
   obtain ⟨n,k⟩:=y
   rw[List.forIn_cons,hf]
   unfold capCells
   by_cases hk:(k == NameKind.free)=true
   ·obtain ⟨c,hc⟩:=hh (n,k) List.mem_cons_self (by simpa using hk)
    have hc':env.cells.lookup n=some c:=hc
    have e:cellOf env n=pure c:=by unfold cellOf;rw[hc']
    rw[if_pos hk,if_pos hk,e,hc']
    simp only[pure_bind,Option.getD_some]
    exact ih _ f hf fun y hy=>hh y (List.mem_cons_of_mem _ hy)
   ·rw[if_neg hk,if_neg hk]
    simp only[pure_bind]
    exact ih _ f hf fun y hy=>hh y (List.mem_cons_of_mem _ hy)
 simp only[closureFor]
 rw[gen scope.names [] _ (fun name kind cells=>by cases hkc:kind == NameKind.free <;> simp [hkc]) h]
 rfl
theorem cellsFrom_app:∀(names:List (Str×NameKind)) (n:Nat) (acc:List (Str×Addr)),cellsFrom n names acc=cellsFrom n names []++acc
 | [],_,_=>rfl
 | (x,k) :: r,n,acc=>by
  unfold cellsFrom
  split
  ·rw[cellsFrom_app r (n+1) (_ :: acc),cellsFrom_app r (n+1) [_],List.append_assoc];rfl
  ·exact cellsFrom_app r n acc
theorem cellsFrom_mem:∀(names:List (Str×NameKind)) (n:Nat) {x:Str} {c:Addr},(x,c)∈cellsFrom n names []->(x,NameKind.cell)∈names
 | [],_,_,_,h=>nomatch h
 | (y,k) :: r,n,x,c,h=>by
  unfold cellsFrom at h
  split at h
  ·rename_i hk
   have ek:k=.cell:=by simpa using hk
   subst ek
   rw[cellsFrom_app] at h
   rcases List.mem_append.mp h with h | h
   ·exact List.mem_cons_of_mem _ (cellsFrom_mem r _ h)
   ·have e:(x,c)=(y,n):=by simpa using h
    cases e
    exact List.mem_cons_self
  ·exact List.mem_cons_of_mem _ (cellsFrom_mem r _ h)
def blkEnv (env:Env) (scope:Scope) (C:Addr):Env :=
 { scope:=relabel scope env,locals:=C,globals:=env.globals,cells:=cellsFrom (C+1) scope.names (capCells env scope.names []),qual:=env.qual,func:=none,code:=env.code,frame:=env.frame,builtins:=env.builtins }
theorem newBlockEnv {M:Model} {A:Around} {E:Value->Shared->Prop} {s:Shared} {scope:Scope} {g:Addr} {cl:List (Str×Addr)} {qual:Str} {env:Env} {Q:Env->Shared->Prop}
  (h:Q (newEnv scope s.heap.objs.size g (cellsFrom (s.heap.objs.size+1) scope.names cl) qual none .none (some env) builtinsNs) { s with heap:=pushCells (s.heap.push { cls:=.type "dict",data:=.dict #[] }) scope.names }) :
  wpAny M A (newFunctionEnv scope g cl [] qual none .none (some env)) Q E s:=by
 simp only[newFunctionEnv,Option.isSome_some,if_true]
 refine wpAny_bind (wpAny_alloc ?_)
 refine wpAny_bind (wpAny_layCells _ (fun name kind cells=>by cases hkc:kind == NameKind.cell <;> simp [hkc]) _ _ _ _ ?_)
 rw[show ({ s with heap:=s.heap.push { cls:=.type "dict",data:=.dict #[] } }:Shared).heap.objs.size=s.heap.objs.size+1 from Heap.size_push ..]
 rw[List.forIn_nil]
 exact wpAny_bind (wpAny_pure (wpAny_pure h))
theorem relabel_look {scope:Scope} {env:Env} {x:Str}:∀{k:NameKind},(relabel scope env).names.lookup x=some k->∃k0,scope.names.lookup x=some k0∧(k=k0∨(k0=.free∧k=.cell)):=by
 unfold relabel
 show ∀{k:NameKind},(scope.names.map fun (n,k)=>if (k == NameKind.free && env.scope.kind == .function && env.kindOf n == some .cell) then (n,NameKind.cell) else (n,k)).lookup x=some k->_
 induction scope.names with
 | nil=>intro k h;cases h
 | cons y r ih =>
  intro k h
  obtain ⟨n,k1⟩:=y
  rw[List.map_cons,List.lookup_cons] at h
  rw[List.lookup_cons]
  by_cases hc:(k1 == NameKind.free && env.scope.kind == .function && env.kindOf n == some .cell)=true
  ·simp only[hc,if_true] at h
   cases hb:x == n with
   | true =>
    simp only[hb] at h
    have e1:k1=.free:=by
     rw[Bool.and_eq_true,Bool.and_eq_true] at hc
     simpa using hc.1.1
    cases h
    exact ⟨k1,rfl,.inr ⟨e1,rfl⟩⟩
   | false=>simp only[hb] at h;exact ih h
  ·have hc':(k1 == NameKind.free && env.scope.kind == .function && env.kindOf n == some .cell)=false:=by simpa using hc
   simp only[hc',Bool.false_eq_true,if_false] at h
   cases hb:x == n with
   | true=>simp only[hb] at h;cases h;exact ⟨_,rfl,.inl rfl⟩
   | false=>simp only[hb] at h;exact ih h
theorem relabel_cap {scope:Scope} {env:Env} {x:Str}:scope.names.lookup x=some .free->(relabel scope env).names.lookup x=some .cell∨(relabel scope env).names.lookup x=some .free:=by
 unfold relabel
 show _->(scope.names.map fun (n,k)=>if (k == NameKind.free && env.scope.kind == .function && env.kindOf n == some .cell) then (n,NameKind.cell) else (n,k)).lookup x=some .cell∨(scope.names.map fun (n,k)=>if (k == NameKind.free && env.scope.kind == .function && env.kindOf n == some .cell) then (n,NameKind.cell) else (n,k)).lookup x=some .free
 induction scope.names with
 | nil=>intro h;cases h
 | cons y r ih =>
  intro h
  obtain ⟨n,k1⟩:=y
  rw[List.lookup_cons] at h
  rw[List.map_cons]
  by_cases hc:(k1 == NameKind.free && env.scope.kind == .function && env.kindOf n == some .cell)=true
  ·simp only[hc,if_true,List.lookup_cons]
   cases hb:x == n with
   | true=>exact .inl rfl
   | false=>rw[hb] at h;exact ih h
  ·have hc':(k1 == NameKind.free && env.scope.kind == .function && env.kindOf n == some .cell)=false:=by simpa using hc
   simp only[hc',Bool.false_eq_true,if_false,List.lookup_cons]
   cases hb:x == n with
   | true=>rw[hb] at h;cases h;exact .inr rfl
   | false=>rw[hb] at h;exact ih h
structure Bz where
 s:Shared
 H:Hp
 fp:List Addr
 C:Addr
def blk (X:Cx) (own capN:List Str) (scope:Scope) (Z:Bz):Cx where
 prog:=X.prog
 w:=X.w
 K:=X.K
 mg:=X.mg
 base:=X.base
 A:=X.A
 N:=own++capN
 s₀:=Z.s
 H₀:=Z.H
 env:=blkEnv X.env scope Z.C
 outer:=X.stack
 stack:=X.stack
 ex:=Z.fp
 fn:=fun x=>own.contains x
 calm:=true
 pn:=[]
 xe:=fun _ _=>False
section
variable {X:Cx} {pins:List (Addr×Obj)} {σ:St} {own capN:List Str} {scope:Scope} {Z:Bz}
theorem blk_cells (B:Bk X.env scope own capN) (I:Inv X pins σ Z.H Z.s) {x:Str} {c:Addr} (h:(blkEnv X.env scope Z.C).cells.lookup x=some c) :
  (x∈own∧(x,c)∈cellsFrom (Z.C+1) scope.names [])∨(x∈capN∧x∉own∧X.env.cells.lookup x=some c):=by
 have h':(cellsFrom (Z.C+1) scope.names (capCells X.env scope.names [])).lookup x=some c:=h
 rw[cellsFrom_app] at h'
 rcases List.mem_append.mp (mem_of_lookup h') with m | m
 ·exact .inl ⟨(B.cells _ (cellsFrom_mem _ _ m) rfl).1,m⟩
 ·obtain ⟨m1,e⟩:=capCells_mem _ _ m
  obtain ⟨q1,q2⟩:=B.frees _ m1 rfl
  obtain ⟨d,hd⟩:=I.ok.has x (B.caps x q1)
  rw[hd] at e
  exact .inr ⟨q1,q2,by rw[hd,e];rfl⟩
theorem blk_cap (B:Bk X.env scope own capN) (I:Inv X pins σ Z.H Z.s) {x:Str} {c:Addr} (hx:x∈capN) (h:X.env.cells.lookup x=some c):(blkEnv X.env scope Z.C).cells.lookup x=some c:=by
 have hm:(x,NameKind.free)∈scope.names:=mem_of_lookup (B.capf x hx)
 obtain ⟨c1,m1⟩:=capCells_has X.env scope.names hm
 have hs:∃d,(blkEnv X.env scope Z.C).cells.lookup x=some d:=by
  show ∃d,(cellsFrom (Z.C+1) scope.names (capCells X.env scope.names [])).lookup x=some d
  rw[cellsFrom_app]
  exact lookup_some_of_mem (List.mem_append_right _ m1)
 obtain ⟨d,hd⟩:=hs
 rcases blk_cells B I hd with ⟨q,m⟩ | ⟨_,_,q⟩
 ·exact absurd hx (B.cells _ (cellsFrom_mem _ _ m) rfl).2
 ·rw[h] at q;cases q;exact hd
theorem own_cells (h:Heap) (C:Addr) (hC:h.objs.size=C+1) (names:List (Str×NameKind)):CellsOk (pushCells h names) (C+1) (cellsFrom (C+1) names []):=by
 have q:=cellsFrom_ok names h (C+1) [] ⟨fun _ _ hm=>(nomatch hm),List.Pairwise.nil⟩ (by rw[hC];exact Nat.le_refl _)
 rwa [hC] at q
theorem cell_lt (I:Inv X pins σ Z.H Z.s) {x:Str} {c:Addr} (h:X.env.cells.lookup x=some c):@LT.lt Nat instLTNat c Z.s.heap.objs.size:=by
 obtain ⟨v,q⟩:=I.cell x c h
 exact q.lt
theorem blk_ok {h1:Heap} (I:Inv X pins σ Z.H Z.s) (hc:X.calm=true) (B:Bk X.env scope own capN) (hC:Z.s.heap.objs.size<=Z.C) (hcl:CellsOk h1 (Z.C+1) (cellsFrom (Z.C+1) scope.names []))
  (hf:∀b∈Z.fp,FpOk X pins Z.H b∧@LT.lt Nat instLTNat b Z.s.heap.objs.size):(blk X own capN scope Z).Ok:=by
 refine ⟨I.ok.mod,B.kind,I.ok.glob,I.ok.blt,hC,fun x y c h1 h2=>?_,fun x hx=>?_,fun x c hx h=>?_,fun _=>I.ok.hd hc,I.ok.frames,.inl rfl,fun b hb=>⟨?_,fun x c h=>?_⟩,I.bs,Nat.le_trans I.ok.bsz I.sz,fun b o e hb=>?_,fun b hb hz=>?_,I.stack,I.stkFree⟩
 ·rcases blk_cells B I h1 with ⟨q1,m1⟩ | ⟨q1,n1,m1⟩ <;> rcases blk_cells B I h2 with ⟨q2,m2⟩ | ⟨q2,n2,m2⟩
  ·exact name_of_addr hcl.apart m1 m2
  ·have l1:=(hcl.empty _ _ m1).2
   have l2:=cell_lt I m2
   lia
  ·have l1:=(hcl.empty _ _ m2).2
   have l2:=cell_lt I m1
   lia
  ·exact I.ok.inj x y c m1 m2
 ·have hx':(relabel scope X.env).names.lookup x=some .cell∨(relabel scope X.env).names.lookup x=some .free:=hx
  have hk:scope.names.lookup x=some .cell∨scope.names.lookup x=some .free:=by
   rcases hx' with h | h
   ·obtain ⟨k0,e,q | ⟨q,_⟩⟩:=relabel_look h
    ·exact .inl (by rw[e,← q])
    ·exact .inr (by rw[e,q])
   ·obtain ⟨k0,e,q | ⟨_,q⟩⟩:=relabel_look h
    ·exact .inr (by rw[e,← q])
    ·cases q
  show ∃c,(cellsFrom (Z.C+1) scope.names (capCells X.env scope.names [])).lookup x=some c
  rcases hk with h | h
  ·exact Option.isSome_iff_exists.mp (PySem.W.cellsFrom_some scope.names (Z.C+1) _ (.inl h))
  ·obtain ⟨c,m⟩:=capCells_has X.env scope.names (mem_of_lookup h)
   rw[cellsFrom_app]
   exact lookup_some_of_mem (List.mem_append_right _ m)
 ·have ho:x∈own:=by have hx':own.contains x=true:=hx;simpa using hx'
  rcases blk_cells B I h with ⟨_,m⟩ | ⟨_,n,_⟩
  ·have:=(hcl.empty _ _ m).2
   have hC':Z.s.heap.objs.size<=Z.C:=hC
   show Z.s.heap.objs.size<=c
   lia
  ·exact absurd ho n
 ·intro e
  have e':@Eq Nat b Z.C:=e
  have:=(hf b hb).2
  lia
 ·have l:=(hf b hb).2
  rcases blk_cells B I h with ⟨_,m⟩ | ⟨_,_,m⟩
  ·intro e
   have e':@Eq Nat c b:=e
   have:=(hcl.empty _ _ m).2
   lia
  ·exact (hf b hb).1.2.2.2.2.1 x c m
 ·obtain ⟨_,_,_,f3,_⟩:=(hf b hb).1
  rcases f3 with f3 | f3
  ·exact I.ok.noex b o e f3
  ·exact absurd (Nat.lt_of_lt_of_le (Heap.lt_size e) (Nat.le_trans I.ok.bsz f3)) (Nat.lt_irrefl _)
 ·obtain ⟨_,f1,f2,_⟩:=(hf b hb).1
  rcases List.mem_cons.mp (I.stkSub b hz) with e | e
  ·exact f1 e
  ·exact f2 e
def st0 (k:Nat) (cap:List Nat) (σ:St):St:=List.replicate k none++cap.map fun j=>(σ[j]?).join
def CapOk (X:Cx) (capN:List Str) (cap:List Nat):Prop:=cap.map (fun j=>X.N[j]?)=capN.map some
theorem CapOk.get {cap:List Nat} (h:CapOk X capN cap) {i:Nat} {x:Str} (e:capN[i]?=some x):∃j,cap[i]?=some j∧X.N[j]?=some x:=by
 have q:=congrArg (fun l=>l[i]?) h
 simp only[List.getElem?_map,e,Option.map_some] at q
 cases hc:cap[i]? with
 | none=>rw[hc] at q;cases q
 | some j=>rw[hc] at q;exact ⟨j,rfl,by simpa using q⟩
theorem cap_look {cap:List Nat} {h':Heap} {m:Str->Option Value} (I:Inv X pins σ Z.H Z.s) (B:Bk X.env scope own capN) (hcap:CapOk X capN cap)
  (kc:∀x c,X.env.cells.lookup x=some c->∀v,Z.s.heap.IsCell c v->h'.IsCell c v) {i:Nat} {x:Str} {v:V} (e1:(own++capN)[i]?=some x) (e2:(st0 own.length cap σ)[i]?=some (some v)) :
  ∃u,RelV v u∧Look (blkEnv X.env scope Z.C) h' m x u:=by
 have hi:own.length<=i:=by
  by_cases hi:own.length<=i
  ·exact hi
  ·exfalso
   unfold st0 at e2
   rw[List.getElem?_append_left (by simpa using hi),List.getElem?_replicate] at e2
   split at e2 <;> cases e2
 rw[List.getElem?_append_right hi] at e1
 unfold st0 at e2
 rw[List.getElem?_append_right (by simpa using hi),List.length_replicate,List.getElem?_map] at e2
 obtain ⟨j,hj,hN⟩:=hcap.get e1
 rw[hj] at e2
 have e3:(σ[j]?).join=some v:=by simpa using e2
 have e4:σ[j]?=some (some v):=by
  cases q:σ[j]? with
  | none=>rw[q] at e3;cases e3
  | some o=>rw[q] at e3;simp at e3;rw[e3]
 have hx:x∈capN:=List.mem_of_getElem? e1
 have hk:=B.caps x hx
 obtain ⟨m0,_,hl⟩:=I.loc
 obtain ⟨u,r,l⟩:=hl j x v hN e4 (.inr hk)
 refine ⟨u,r,.inr ⟨relabel_cap (B.capf x hx),?_⟩⟩
 rcases l with ⟨hk2,_⟩ | ⟨_,c,hc,z⟩
 ·rcases hk with hk | hk
  ·rw[hk] at hk2;cases hk2
  ·rw[hk] at hk2;cases hk2
 ·exact ⟨c,blk_cap B I hx hc,kc x c hc _ z⟩
theorem fs_lt (I:Inv X pins σ Z.H Z.s) {b:Addr} (h:b∈frs X.stack):@LT.lt Nat instLTNat b Z.s.heap.objs.size:=by
 obtain ⟨_,o,ho,_⟩:=I.stack.mem h
 exact Heap.lt_size ho
theorem blk_inv {cap:List Nat} {h1:Heap} {D:Addr} {oD:Obj} {t1:Nat} (I:Inv X pins σ Z.H Z.s) (hc:X.calm=true) (B:Bk X.env scope own capN) (hcap:CapOk X capN cap) (hC:Z.s.heap.objs.size<=Z.C)
  (hcl:CellsOk h1 (Z.C+1) (cellsFrom (Z.C+1) scope.names [])) (hf:∀b∈Z.fp,FpOk X pins Z.H b∧@LT.lt Nat instLTNat b Z.s.heap.objs.size)
  (hk:∀b o,Z.s.heap.get? b=some o->h1.get? b=some o) (hn:h1.Ns Z.C fun _=>none) (hD:Z.s.heap.objs.size<=D) (hDC:D≠Z.C) (hoD:h1.get? D=some oD) (hdD:∀v,oD.data≠.cell v) :
  Inv (blk X own capN scope Z) [(D,oD)] (st0 own.length cap σ) Z.H { Z.s with heap:=h1,toks:=t1 }:=by
 refine ⟨blk_ok I hc B hC hcl hf,rfl,I.bare,Un.kept hk,⟨_,hn,fun i x v e1 e2 _=>cap_look I B hcap (fun x c _ v z=>z.keeps hk) e1 e2⟩,fun x c h=>?_,I.hok.fresh hC,fun x c h=>?_,fun p hp=>?_,I.hok.kept hk,?_⟩
 ·rcases blk_cells B I h with ⟨_,m⟩ | ⟨_,_,m⟩
  ·exact ⟨none,(hcl.empty _ _ m).1⟩
  ·obtain ⟨v,q⟩:=I.cell x c m
   exact ⟨v,q.keeps hk⟩
 ·rcases blk_cells B I h with ⟨_,m⟩ | ⟨_,_,m⟩
  ·exact I.hok.fresh (by have:=(hcl.empty _ _ m).2;lia)
  ·exact I.freeC x c m
 ·have e:p=(D,oD):=by simpa [blk] using hp
  subst e
  exact ⟨hoD,I.hok.fresh hD,hDC,fun z=>Nat.lt_irrefl _ (Nat.lt_of_lt_of_le (fs_lt I z) hD),hdD⟩
 ·show (st0 own.length cap σ).length=(own++capN).length
  have:=congrArg List.length hcap
  simp only[List.length_map] at this
  unfold st0
  simp [this]
theorem blk_late {cap:List Nat} {pins':List (Addr×Obj)} {σ':St} {H':Hp} {s':Shared} (I:Inv X pins σ Z.H Z.s) (B:Bk X.env scope own capN) (hcap:CapOk X capN cap) (hf:∀b∈Z.fp,FpOk X pins Z.H b∧@LT.lt Nat instLTNat b Z.s.heap.objs.size)
  (J:Inv (blk X own capN scope Z) pins' σ' H' s'):Inv (blk X own capN scope Z) pins' (st0 own.length cap σ) H' s':=by
 refine ⟨J.ok,J.os,J.bare,J.base,?_,J.cell,J.free,J.freeC,J.pin,J.hok,?_⟩
 ·obtain ⟨m,hn,_⟩:=J.loc
  refine ⟨m,hn,fun i x v e1 e2 _=>cap_look I B hcap (fun x c hx v z=>?_) e1 e2⟩
  obtain ⟨o,ho,hd⟩:=z
  obtain ⟨sl,e⟩:=J.base.any ho (I.freeC x c hx) fun z=>(hf c z).1.2.2.2.2.1 x c hx rfl
  exact ⟨_,e,hd⟩
 ·show (st0 own.length cap σ).length=(own++capN).length
  have:=congrArg List.length hcap
  simp only[List.length_map] at this
  unfold st0
  simp [this]
theorem blk_end {σ':St} {H':Hp} {s':Shared} {D:Addr} {its:List Value} {n:Nat} {ys:List V} (I:Inv X pins σ Z.H Z.s) (hf:∀b∈Z.fp,FpOk X pins Z.H b∧@LT.lt Nat instLTNat b Z.s.heap.objs.size) (hD:Z.s.heap.objs.size<=D)
  (J:Inv (blk X own capN scope Z) [(D,{ cls:=.type "list",data:=.seq its.toArray n })] σ' H' s') (r:Vals ys its) (hz:ys.length<=sizeLine) :
  Inv X pins σ (upd H' D (.lst ys)) s':=by
 have pD:=J.pin (D,{ cls:=.type "list",data:=.seq its.toArray n }) (by simp)
 have ne:∀{b:Addr} {o:Obj},Z.s.heap.get? b=some o->b≠D:=fun e z=>by subst z;exact Nat.lt_irrefl _ (Nat.lt_of_lt_of_le (Heap.lt_size e) hD)
 have nt:∀{b:Addr} {u:HO},H' b=some u->b≠D:=fun e z=>by rw[z,pD.2.1] at e;cases e
 refine I.call' (ch:=Z.fp) J.os ⟨J.base.keep,J.base.slot,fun b o e h hx=>?_,J.base.there,fun b xs e=>?_,fun b o u e=>?_,fun b ps e=>?_⟩ (fun b u e=>?_) J.bare fun b hb=>?_
 ·rw[upd_ne (ne e)];exact J.base.free b o e h hx
 ·have q:=J.base.tups b xs e
  rw[upd_ne (nt q)];exact q
 ·have q:=J.base.frzs b o u e
  rw[upd_ne (nt q)];exact q
 ·obtain ⟨more,q⟩:=J.base.tbls b ps e
  exact ⟨more,by rw[upd_ne (nt q)];exact q⟩
 ·by_cases hb:b=D
  ·subst hb
   rw[upd_same] at e
   cases e
   exact ⟨hz,its,n,r,pD.1⟩
  ·rw[upd_ne hb] at e
   exact (J.hok b u e).stay (fun c v _ q=>q) (fun c q=>by rw[upd_ne (nt q)];exact q) fun c xs q=>by rw[upd_ne (nt q)];exact q
 ·obtain ⟨_,f1,_,f3,f4,f5⟩:=(hf b hb).1
  exact ⟨f3,f1,f4,f5⟩
end
end L2
namespace L2
open PySem PySem.Spec PyProof.Rows
theorem thn0 {α:Type} {t:Sem α} {Q Q':α->Shared->Prop} {M:Model} {A:Around} {E:Value->Shared->Prop} {s:Shared} (h:wpAny M A t Q (fun _ _=>False) s) (hQ:∀a s,Q a s->Q' a s):wpAny M A t Q' E s :=
 wpAny_mono h hQ fun _ _ z=>False.elim z
theorem compLoop_own {prog:Program} {w:World} {A:Around} {R:Result->Shared->Prop} {s:Shared} {elt target iter:Expr} {ifs:List Expr} {scope:Scope} {pos:Pos} {it acc:Value} {env:Env} (I:Nat->Shared->Prop)
  (turn:∀(E:Value->Shared->Prop) n s,I n s->wpAny (model prog w) A (pyNext it) (fun r s₁=>match r with
   | none=>R (.ok .next) s₁
   | some v=>wpAny (model prog w) A (letOwnedTupleGo target it v) (fun _ s₂=>wpAny (model prog w) A (assign target env v) (fun _ s₃ =>
     wpAny (model prog w) A (forIn ifs true fun c r=>if r=true then do let ok ← isTrue c env (eval c env);pure (ForInStep.yield ok) else pure (ForInStep.yield r)) (fun ok s₄ =>
      if ok=true then wpAny (model prog w) A (eval elt env) (fun x s₅=>wpAny (model prog w) A (call (.builtin "list.append") [acc,x]) (fun _ s₆=>∃m,m < n∧I m s₆) E s₅) E s₄
      else ∃m,m < n∧I m s₄) E s₃) E s₂) E s₁) E s)
  (n:Nat) (h:I n s):codeAny (model prog w) A (.compLoop (.ListComp elt [⟨target,iter,ifs,0⟩] scope pos) 0 it acc env) R s:=by
 refine codeAny_loop rfl I (fun n s hI=>?_) n h
 show wpAny _ A ((compTurn (.ListComp elt [⟨target,iter,ifs,0⟩] scope pos) 0 it acc env).onRaise (fun x=>do noteFrame x env;theTreesLotGoes x)) _ _ s
 refine wpAny_noted ?_
 rw[compTurn_list]
 refine wpAny_bind (wpAny_standAt (wpAny_bind (wpAny_mono (turn _ n s hI) (fun r s₁ h₁=>?_) fun _ _ h'=>h')))
 cases r with
 | none=>exact wpAny_pure h₁
 | some v =>
  refine wpAny_bind (wpAny_mono h₁ (fun _ s₂ h₂=>wpAny_bind (wpAny_mono h₂ (fun _ s₃ h₃=>wpAny_bind (wpAny_mono h₃ (fun ok s₄ h₄=>?_) fun _ _ h'=>h')) fun _ _ h'=>h')) fun _ _ h'=>h')
  cases ok with
  | false=>exact wpAny_pure ⟨rfl,h₄⟩
  | true =>
   exact wpAny_bind (wpAny_bind (wpAny_mono h₄ (fun x s₅ h₅=>wpAny_bind (wpAny_mono h₅ (fun _ s₆ h₆=>wpAny_pure (wpAny_pure ⟨rfl,h₆⟩)) fun _ _ h'=>h')) fun _ _ h'=>h'))
def PF (X:Cx) (ifs:List Expr) (t:TT):Prop :=
 ∀(pins:List (Addr×Obj)) (s:Shared) (σ:St) (H:Hp) (Q:Bool->Hp->Prop),Inv X pins σ H s->t σ H Q →
  wpAny (model X.prog X.w) X.A (forIn ifs true fun c r=>if r=true then do let ok ← isTrue c X.env (eval c X.env);pure (ForInStep.yield ok) else pure (ForInStep.yield r)) (TP X pins σ Q) X.xe s
def tYes:TT:=fun _ H Q=>Q true H
theorem pf_nil {X:Cx}:PF X [] tYes:=fun _ _ _ H _ I h=>wpAny_tests_nil ⟨H,I,h⟩
def tTurn (σ₀:St) (g:TG) (tf:TT) (te:TE) (x:V) (H:Hp) (NY:V->Hp->Prop) (NN:Hp->Prop):Prop :=
 g x σ₀ H fun σ2 H2=>tf σ2 H2 fun b H3=>if b=true then te σ2 H3 NY else NN H3
def CompW (J:It) (σ₀:St) (g:TG) (tf:TT) (te:TE) (Q:VK) (H1:Hp):Prop :=
 ∃W:Nat->Nat->List V->Hp->Prop,(∃m,W 0 m [] H1)∧∀i m ys H,W i m ys H →
  (J.stop i H∧ys.length<=sizeLine∧∀p,H p=none->Q (.ref p) (upd H p (.lst ys))) ∨
  (J.go i H∧ys.length < sizeLine∧∃(NY:V->Hp->Prop) (NN:Hp->Prop),(∀y H',NY y H'->∃m',m' < m∧W (i+1) m' (ys++[y]) H')∧(∀H',NN H'->∃m',m' < m∧W (i+1) m' ys H') ∧
   ∀x H',J.yld i H x H'->tTurn σ₀ g tf te x H' NY NN)
def tComp (wi:TI) (k:Nat) (cap:List Nat) (g:TG) (tf:TT) (te:TE):TE:=fun σ H Q=>wi σ H fun J H1=>CompW J (st0 k cap σ) g tf te Q H1
abbrev lobj (its:List Value) (n:Nat):Obj:={ cls:=.type "list",data:=.seq its.toArray n }
section
variable {X:Cx} {own capN:List Str} {cap:List Nat} {scope:Scope} {elt tg iter:Expr} {ifs:List Expr} {pos:Pos} {wi:TI} {g:TG} {tf:TT} {te:TE}
theorem comp_core {use:Option (Value->Sem Unit)} {Qe:Value->Shared->Prop} {fpos:Pos} (hc:X.calm=true) (B:Bk X.env scope own capN) (hcap:CapOk X capN cap)
  (hi:PI X tg iter wi) (hg:∀Z,PG (blk X own capN scope Z) tg g) (hf:∀Z,PF (blk X own capN scope Z) ifs tf) (he:∀Z,PE (blk X own capN scope Z) elt te)
  (hs:∀x,foldedSetIterable iter X.env x=pure x) {pins:List (Addr×Obj)} {s:Shared} {σ:St} {H:Hp} {Q:VK} (I:Inv X pins σ H s) (h:tComp wi own.length cap g tf te σ H Q)
  (fin:∀(D C:Addr) (s':Shared) (H':Hp),Inv X pins σ H' s'->FpOk X pins H' C->(∃m,s'.heap.Ns C m)->Q (.ref D) H'->compPost (model X.prog X.w) X.A X.xe use Qe (.ref D) C (.ok .next) s') :
  wpAny (model X.prog X.w) X.A (comprehension (.ListComp elt [⟨tg,iter,ifs,0⟩] scope pos) scope X.env fpos (newList []) false (eval iter X.env) use) Qe X.xe s:=by
 refine wpAny_comprehension_free (use:=use) rfl hs (closureFor_cap fun y hy hk=>I.ok.has y.1 (B.caps _ (B.frees y hy hk).1)) B.kind B.locs ?_
 refine thn (hi pins s σ H _ I h) fun v s1 h1=>thn h1 fun itv s2 h2=>?_
 obtain ⟨it,fp,tn,J,H2,e,I2,T,st2,f2,W,⟨m0,w0⟩,turn⟩:=h2
 subst e
 have hfp:∀b∈fp,FpOk X pins H2 b∧@LT.lt Nat instLTNat b s2.heap.objs.size:=fun b hb=>⟨f2 b hb,let ⟨_,e,_⟩:=T.obj _ _ st2 b hb;Heap.lt_size e⟩
 refine wpAny_newObj_type (newBlockEnv ?_) (Nat.zero_le _)
 have es:(s2.heap.push { cls:=.type "list",data:=.seq ([]:List Value).toArray }).objs.size=s2.heap.objs.size+1:=Heap.size_push ..
 show codeAny _ _ (.compStart _ 0 (.ref it) (.ref s2.heap.objs.size) { newEnv scope (s2.heap.push { cls:=.type "list",data:=.seq ([]:List Value).toArray }).objs.size X.env.globals (cellsFrom ((s2.heap.push { cls:=.type "list",data:=.seq ([]:List Value).toArray }).objs.size+1) scope.names (capCells X.env scope.names [])) X.env.qual none .none (some X.env) builtinsNs with scope:=relabel scope X.env })
  (compPost (model X.prog X.w) X.A X.xe use Qe (.ref s2.heap.objs.size) (s2.heap.push { cls:=.type "list",data:=.seq ([]:List Value).toArray }).objs.size)
  { s2 with heap:=pushCells ((s2.heap.push { cls:=.type "list",data:=.seq ([]:List Value).toArray }).push { cls:=.type "dict",data:=.dict #[] }) scope.names }
 have hk1:∀b o,(s2.heap.push { cls:=.type "list",data:=.seq ([]:List Value).toArray }).get? b=some o->(pushCells ((s2.heap.push { cls:=.type "list",data:=.seq ([]:List Value).toArray }).push { cls:=.type "dict",data:=.dict #[] }) scope.names).get? b=some o :=
  fun b o e=>pushCells_keeps _ _ _ _ (Heap.get?_push_of_some _ e)
 have hk:∀b o,s2.heap.get? b=some o->(pushCells ((s2.heap.push { cls:=.type "list",data:=.seq ([]:List Value).toArray }).push { cls:=.type "dict",data:=.dict #[] }) scope.names).get? b=some o:=fun b o e=>hk1 b o (Heap.get?_push_of_some _ e)
 have hoD:=hk1 s2.heap.objs.size _ (Heap.get?_push_size s2.heap (o:={ cls:=.type "list",data:=.seq ([]:List Value).toArray }) rfl)
 have hn:=(Heap.Ns.new (s2.heap.push { cls:=.type "list",data:=.seq ([]:List Value).toArray }) (.type "dict")).keeps (pushCells_keeps scope.names _)
 have hcl:=own_cells ((s2.heap.push { cls:=.type "list",data:=.seq ([]:List Value).toArray }).push { cls:=.type "dict",data:=.dict #[] }) (s2.heap.objs.size+1) (by rw[Heap.size_push,es]) scope.names
 rw[es] at hn ⊢
 generalize pushCells ((s2.heap.push { cls:=.type "list",data:=.seq ([]:List Value).toArray }).push { cls:=.type "dict",data:=.dict #[] }) scope.names=h3 at hk hoD hn hcl ⊢
 have Z:Bz:=⟨s2,H2,fp,s2.heap.objs.size+1⟩
 have I3:Inv (blk X own capN scope ⟨s2,H2,fp,s2.heap.objs.size+1⟩) [(s2.heap.objs.size,lobj [] 0)] (st0 own.length cap σ) H2 { s2 with heap:=h3 } :=
  blk_inv (Z:=⟨s2,H2,fp,s2.heap.objs.size+1⟩) (t1:=s2.toks) I2 hc B hcap (Nat.le_succ _) hcl hfp hk hn (Nat.le_refl _) (Nat.ne_of_lt (Nat.lt_succ_self _)) hoD (fun v z=>nomatch z)
 have st3:tn 0 h3:=T.keep _ _ _ st2 fun b _ o e=>hk b o e
 have loop:codeAny (model X.prog X.w) X.A (.compLoop (.ListComp elt [⟨tg,iter,ifs,0⟩] scope pos) 0 (.ref it) (.ref s2.heap.objs.size) (blkEnv X.env scope (s2.heap.objs.size+1))) (compPost (model X.prog X.w) X.A X.xe use Qe (.ref s2.heap.objs.size) (s2.heap.objs.size+1)) { s2 with heap:=h3 }:=by
  refine compLoop_own (fun m s'=>∃i ys σ' H' its n,Inv (blk X own capN scope ⟨s2,H2,fp,s2.heap.objs.size+1⟩) [(s2.heap.objs.size,lobj its n)] σ' H' s'∧tn i s'.heap∧(∀b∈fp,H' b=none)∧Vals ys its∧W i m ys H') ?_ m0
   ⟨0,[],_,H2,[],0,I3,st3,fun b hb=>(f2 b hb).1,.nil,w0⟩
  rintro E n s4 ⟨i,ys,σ4,H4,its,k,I4,st4,fr4,rv,w4⟩
  have fpo:∀{pp:List (Addr×Obj)} {H':Hp},(∀p∈pp,p.1=s2.heap.objs.size)->(∀b∈fp,H' b=none)->∀b∈fp,FpOk (blk X own capN scope ⟨s2,H2,fp,s2.heap.objs.size+1⟩) pp H' b:=fun {pp H'} hpp hn b hb=>by
   obtain ⟨e1,e2⟩:=I4.ok.exf b hb
   refine ⟨hn b hb,e1,I4.ok.exfs b hb,.inl hb,e2,fun p hp=>?_⟩
   have hp':p∈pp:=by simpa [blk] using hp
   have l:=(hfp b hb).2
   rw[hpp p hp']
   exact fun z=>Nat.lt_irrefl _ (by rw[← z] at l;exact l)
  have pinD:∀{its:List Value} {n:Nat},∀p∈[(s2.heap.objs.size,lobj its n)],p.1=s2.heap.objs.size:=fun p hp=>by simp at hp;rw[hp]
  rcases turn i n ys H4 w4 with ⟨stop,hz,q⟩ | ⟨go,hlt,NY,NN,hNY,hNN,step⟩
  ·refine thn (T.done (blk X own capN scope ⟨s2,H2,fp,s2.heap.objs.size+1⟩) rfl rfl rfl rfl i _ s4 σ4 H4 E I4 (fpo pinD fr4) st4 stop) fun r s5 ⟨hr,I5⟩=>?_
   subst hr
   have pD:=I5.pin (s2.heap.objs.size,lobj its k) (by simp)
   have I6:=blk_end (Z:=⟨s2,H2,fp,s2.heap.objs.size+1⟩) I2 hfp (Nat.le_refl _) I5 rv hz
   have hC:upd H4 s2.heap.objs.size (.lst ys) (s2.heap.objs.size+1)=none:=by
    rw[upd_ne (Nat.ne_of_gt (Nat.lt_succ_self _))];exact I5.free
   obtain ⟨m,hm,_⟩:=I5.loc
   exact fin _ _ s5 _ I6 (I2.fpOk (Nat.le_succ _) hC) ⟨m,hm⟩ (q _ pD.2.1)
  ·refine thn (T.item (blk X own capN scope ⟨s2,H2,fp,s2.heap.objs.size+1⟩) rfl rfl rfl rfl i _ s4 σ4 H4 E I4 (fpo pinD fr4) st4 go) fun r s5 ⟨u,hr,h5⟩=>?_
   subst hr
   refine thn h5 fun _ s6 ⟨x,H6,I6,r6,y6,st6,fr6⟩=>?_
   have I6':=(blk_late (Z:=⟨s2,H2,fp,s2.heap.objs.size+1⟩) I2 B hcap hfp I6).pinned (fpo pinD fr6) (T.obj _ _ st6)
   have back:∀{σ7:St} {H7:Hp} {s7:Shared},Inv (blk X own capN scope ⟨s2,H2,fp,s2.heap.objs.size+1⟩) ([(s2.heap.objs.size,lobj its k)]++pinsAt fp s6.heap) σ7 H7 s7 →
     Inv (blk X own capN scope ⟨s2,H2,fp,s2.heap.objs.size+1⟩) [(s2.heap.objs.size,lobj its k)] σ7 H7 s7∧tn (i+1) s7.heap∧∀b∈fp,H7 b=none:=fun {σ7 H7 s7} I7=>by
    refine ⟨I7.unpinned,T.keep _ _ _ st6 fun b hb o e=>(I7.pin (b,o) (List.mem_append_right _ (List.mem_append_right _ (mem_pinsAt hb e)))).1,fun b hb=>?_⟩
    obtain ⟨o,e,d⟩:=T.obj _ _ st6 b hb
    exact (I7.pin (b,o) (List.mem_append_right _ (List.mem_append_right _ (mem_pinsAt hb e)))).2.1
   refine thn0 (hg _ _ s6 _ H6 x u _ I6' r6 (step x H6 y6)) fun _ s7 ⟨σ7,H7,I7,q7⟩=>?_
   refine thn0 (hf _ _ s7 σ7 H7 _ I7 q7) fun ok s8 ⟨H8,I8,q8⟩=>?_
   cases ok with
   | false =>
    rw[if_neg Bool.false_ne_true] at q8 ⊢
    obtain ⟨m',hm,w8⟩:=hNN H8 q8
    obtain ⟨J1,J2,J3⟩:=back I8
    exact ⟨m',hm,i+1,ys,σ7,H8,its,k,J1,J2,J3,rv,w8⟩
   | true =>
    rw[if_pos rfl] at q8 ⊢
    refine thn0 (he _ _ s8 σ7 H8 _ I8 q8) fun z s9 ⟨y,H9,I9,r9,q9⟩=>?_
    obtain ⟨J1,J2,J3⟩:=back I9
    obtain ⟨m',hm,w9⟩:=hNY y H9 q9
    have pD:=J1.pin (s2.heap.objs.size,lobj its k) (by simp)
    have hl:=rv.length
    refine call_meets F.slot_list_append ⟨_,pD.1,rfl⟩ F.entry_list_append (F.args_list_append_2 _ _) (PySem.list_append s2.heap.objs.size its.toArray k z (by rw[List.size_toArray];lia)) ⟨pD.1,?_⟩
    have e9:=PySem.IsL.update pD.1 (fun a=>a.push z)
    have e9':(its.toArray.push z)=(its++[z]).toArray:=by simp
    rw[e9'] at e9
    obtain ⟨n',e9⟩:∃n',(s9.heap.update s2.heap.objs.size (Obj.mapSeq fun a=>a.push z)).get? s2.heap.objs.size=some (lobj (its++[z]) n'):=⟨_,e9⟩
    have J4:Inv (blk X own capN scope ⟨s2,H2,fp,s2.heap.objs.size+1⟩) [] σ7 H9 { s9 with heap:=s9.heap.update s2.heap.objs.size (Obj.mapSeq fun a=>a.push z),toks:=s9.toks } :=
     (J1.pins_of (pins':=[]) fun p hp=>nomatch hp).turned (fun b o hb e=>(Heap.get?_update_other s9.heap _ (Ne.symm hb)).trans e) pD.2.1 pD.2.2.1 (.inr (Nat.le_refl _)) (fun x c hx z=>by
      rcases blk_cells (Z:=⟨s2,H2,fp,s2.heap.objs.size+1⟩) B I2 hx with ⟨_,m⟩ | ⟨_,_,m⟩
      ·have:=(hcl.empty _ _ m).2
       have z':@Eq Nat c s2.heap.objs.size:=z
       lia
      ·have:=cell_lt (Z:=⟨s2,H2,fp,s2.heap.objs.size+1⟩) I2 m
       rw[z] at this
       exact Nat.lt_irrefl _ this) fun p hp=>by simp [blk] at hp
    have nfp:∀b∈fp,b≠s2.heap.objs.size:=fun b hb z=>by have:=(hfp b hb).2;rw[z] at this;exact Nat.lt_irrefl _ this
    refine ⟨m',hm,i+1,ys++[y],σ7,H9,its++[z],n',J4.pins_of fun p hp=>?_,T.keep _ _ _ J2 fun b hb o e=>(Heap.get?_update_other s9.heap _ (Ne.symm (nfp b hb))).trans e,J3,rv.append (.cons r9 .nil),w9⟩
    have ep:p=(s2.heap.objs.size,lobj (its++[z]) n'):=by simpa using hp
    rw[ep]
    exact ⟨e9,pD.2.1,pD.2.2.1,pD.2.2.2.1,fun v z=>nomatch z⟩
 exact codeAny_compStart_list loop (T.self _ _ _ _ _ st3 loop)
theorem pe_comp (own capN:List Str) (cap:List Nat) (hi:PI X tg iter wi) (hg:∀Z,PG (blk X own capN scope Z) tg g) (hf:∀Z,PF (blk X own capN scope Z) ifs tf) (he:∀Z,PE (blk X own capN scope Z) elt te)
  (h1:bkS scope own capN=true:=by decide +kernel) (h2:capsB X.env capN=true:=by rfl) (hcap:CapOk X capN cap:=by rfl) (hc:X.calm=true:=by rfl) (hs:∀x,foldedSetIterable iter X.env x=pure x:=by intro _;rfl) :
  PE X (.ListComp elt [⟨tg,iter,ifs,0⟩] scope pos) (tComp wi own.length cap g tf te):=by
 intro pins s σ H Q I h
 rw[eval_ListComp]
 refine comp_core (use:=none) hc (Bk.of h1 h2) hcap hi hg hf he hs I h fun D C s' H' I' fC hm q=>?_
 obtain ⟨m,hm⟩:=hm
 refine ⟨m,hm,fun h' hs'=>?_⟩
 obtain ⟨f0,f1,f2,f3,f4,f5⟩:=fC
 exact ⟨.ref D,H',I'.turned (t':=s'.toks) (fun b o hb e=>(hs'.2 b hb).trans e) f0 f1 f3 f4 f5,rfl,q⟩
theorem ps_setC (i:Nat) (own capN:List Str) (cap:List Nat) {x:Str} {pos' spos:Pos} (hN:X.N.Nodup) (hi':X.N[i]?=some x) (hx:X.env.scope.names.lookup x=some .local) (hi:PI X tg iter wi) (hg:∀Z,PG (blk X own capN scope Z) tg g) (hf:∀Z,PF (blk X own capN scope Z) ifs tf) (he:∀Z,PE (blk X own capN scope Z) elt te)
  (h1:bkS scope own capN=true:=by decide +kernel) (h2:capsB X.env capN=true:=by rfl) (hcap:CapOk X capN cap:=by rfl) (hc:X.calm=true:=by rfl) (hs:∀x,foldedSetIterable iter X.env x=pure x:=by intro _;rfl)
  (hsw:swapsWith (.ListComp elt [⟨tg,iter,ifs,0⟩] scope pos) (some (.Name x pos')) spos.line X.env=pure true:=by rfl) :
  PS X (.Assign [.Name x pos'] (.ListComp elt [⟨tg,iter,ifs,0⟩] scope pos) spos) (tAsg (tComp wi own.length cap g tf te) (gName i)):=by
 intro pins s σ H D I h
 rw[exec_Assign_Name_used _ _ _ _ hsw]
 refine wpAny_bind (wpAny_standAt (wpAny_bind ?_))
 rw[arm_evalThenUse_ListComp]
 refine wpAny_bind (comp_core (Q:=fun v H1=>D.nx (σ.set i (some v)) H1) (use:=some _) hc (Bk.of h1 h2) hcap hi hg hf he hs I h fun L C s' H' I' fC hm q=>?_)
 obtain ⟨m,hm⟩:=hm
 obtain ⟨f0,f1,f2,f3,f4,f5⟩:=fC
 refine wpAny_assign_Name (store_ok2 I' hN hi' (.inl hx) (v:=.ref L) rfl (fun s'' I'' ⟨a,sb,ha⟩=>?_) (.inr hx))
 have hCa:C≠a:=by
  rcases ha with e | e
  ·rw[e];exact f1
  ·exact (f4 x a e).symm
 refine ⟨m,hm.at' fun o e=>(sb.2 C hCa).trans e,fun h' hs'=>?_⟩
 have I3:=I''.turned (h':=h') (t':=s''.toks) (fun b o hb e=>(hs'.2 b hb).trans e) f0 f1 f3 f4 f5
 exact wpAny_pure (wpAny_pure ⟨_,H',I3,q⟩)
end
section
variable {K:PySem.W.Frag} {a:Addr} {xs:List V} {g:TG} {tf:TT} {te:TE} {Q:VK} {σ₀:St} {H:Hp}
theorem comp_list (Pv:Nat->List V->Hp->Prop) (hz:xs.length<=sizeLine) (h0:Pv 0 [] H) (hl:∀i ys H,i<=xs.length->Pv i ys H->SqL K H a xs)
  (hs:∀i x ys H,xs[i]?=some x->ys.length<=i->Pv i ys H->tTurn σ₀ g tf te x H (fun y H'=>Pv (i+1) (ys++[y]) H') (fun H'=>Pv (i+1) ys H'))
  (hd:∀ys H,ys.length<=xs.length->Pv xs.length ys H->∀p,H p=none->Q (.ref p) (upd H p (.lst ys))):CompW (Itl K a) σ₀ g tf te Q H:=by
 refine ⟨fun i m ys H=>m=xs.length - i∧i<=xs.length∧ys.length<=i∧Pv i ys H,⟨xs.length,by simp,Nat.zero_le _,Nat.zero_le _,h0⟩,?_⟩
 rintro i m ys H ⟨rfl,hi,hy,p⟩
 have q:=hl i ys H hi p
 by_cases hlt:i < xs.length
 ·refine .inr ⟨⟨xs,xs[i],q,by simp [hlt]⟩,by lia,fun y H'=>Pv (i+1) (ys++[y]) H',fun H'=>Pv (i+1) ys H',fun y H' p'=>⟨xs.length - (i+1),by lia,rfl,hlt,by rw[List.length_append,List.length_singleton];lia,p'⟩,fun H' p'=>⟨xs.length - (i+1),by lia,rfl,hlt,by lia,p'⟩,fun x H' y=>?_⟩
  obtain ⟨e,y⟩:=y
  subst e
  exact hs i x ys _ (y xs q) hy p
 ·have e:i=xs.length:=by lia
  subst e
  exact .inl ⟨⟨xs,q,Nat.le_refl _⟩,by lia,hd ys H hy p⟩
theorem comp_range {lo:Int} {n:Nat} (Pv:Nat->List V->Hp->Prop) (hz:n<=sizeLine) (h0:Pv 0 [] H)
  (hs:∀i ys H,i < n->ys.length<=i->Pv i ys H->tTurn σ₀ g tf te (.int (lo+i)) H (fun y H'=>Pv (i+1) (ys++[y]) H') (fun H'=>Pv (i+1) ys H'))
  (hd:∀ys H,ys.length<=n->Pv n ys H->∀p,H p=none->Q (.ref p) (upd H p (.lst ys))):CompW (Itr lo n) σ₀ g tf te Q H:=by
 refine ⟨fun i m ys H=>m=n - i∧i<=n∧ys.length<=i∧Pv i ys H,⟨n,by simp,Nat.zero_le _,Nat.zero_le _,h0⟩,?_⟩
 rintro i m ys H ⟨rfl,hi,hy,p⟩
 by_cases hlt:i < n
 ·refine .inr ⟨hlt,by lia,fun y H'=>Pv (i+1) (ys++[y]) H',fun H'=>Pv (i+1) ys H',fun y H' p'=>⟨n - (i+1),by lia,rfl,hlt,by rw[List.length_append,List.length_singleton];lia,p'⟩,fun H' p'=>⟨n - (i+1),by lia,rfl,hlt,by lia,p'⟩,fun x H' y=>?_⟩
  obtain ⟨e,y⟩:=y
  subst e y
  exact hs i ys _ hlt hy p
 ·have e:i=n:=by lia
  subst e
  exact .inl ⟨Nat.le_refl _,by lia,hd ys H hy p⟩
end
end L2
namespace L2
open PySem PySem.Spec PyProof.Rows Nm
def CMulS (i j:Int):Prop:=CMul i j∨∃m n,Sz m i∧Sz n j∧m+n<=1000000
def CDivS (i j:Int):Prop:=j≠0∧Sz 8999 j
theorem bits_of_sz {k:Nat} {i:Int} (h:Sz k i):Builtin.Int.intBits i<=k:=by
 unfold Builtin.Int.intBits
 by_cases e:i=0
 ·subst e;simp
 ·have e':(i == 0)=false:=by simpa using e
  rw[e']
  have hn:i.natAbs≠0:=by lia
  have:=(Nat.log2_lt hn).mpr h
  simp only[Bool.false_eq_true,if_false]
  lia
theorem CMulS.ok {i j:Int} (h:CMulS i j):IntMulOk i j:=by
 rcases h with h | ⟨m,n,h1,h2,h3⟩
 ·exact h.ok
 ·have e:(2:Nat)^20=1048576:=by decide
  exact .of_bits (by have:=bits_of_sz h1;lia) (by have:=bits_of_sz h2;lia)
section
variable {X:Cx} {a b:Expr} {ta tb:TE} {pos:Pos}
theorem op_mulS:OpR X (binaryOp .Mult) (rI CMulS fun i j=>.int (i*j)):=opI fun _ _ _ _ _ _ _ hc q=>mul_int q hc.ok
theorem op_fdivS:OpR X (binaryOp .FloorDiv) (rI CDivS fun i j=>.int (i.fdiv j)):=opI fun i j _ _ _ _ _ hc q=>by
 refine floordiv_int hc.1 q (.inl (PyProof.noPylong_of_log2 ?_))
 have hn:j.natAbs≠0:=by have:=hc.1;lia
 have:=(Nat.log2_lt hn).mpr hc.2
 lia
def tSeqM (t u:TS):TS:=fun D σ H=>∃N:St->Hp->Prop,t { D with nx:=N } σ H∧∀σ' H',N σ' H'->u D σ' H'
theorem pss_consM {st:Stmt} {rest:List Stmt} {t u:TS} (h1:PS X st t) (h2:PSs X rest u):PSs X (st :: rest) (tSeqM t u):=by
 intro pins s σ H D I h
 obtain ⟨N,h,k⟩:=h
 refine wpAny_execs_cons (thn (h1 pins s σ H { D with nx:=N } I h) fun f s1 q=>?_)
 cases f with
 | next =>
  obtain ⟨σ',H',I',q⟩:=q
  exact h2 pins s1 σ' H' D I' (k _ _ q)
 | ret v=>exact q
 | brk=>exact q
 | cont=>exact q
def rGetL (K:PySem.W.Frag):V->V->Hp->VK->Prop:=fun o i H Q=>∃p xs k v,o=.ref p∧i=.int k∧SqL K H p xs∧atI xs k=some v∧Q v H
theorem get_list:PGet X (rGetL X.K):=by
 intro pins s σ H o i ov iv Q I ro ri h
 obtain ⟨p,xs,k,z,rfl,rfl,hq,he,q⟩:=h
 cases ro
 obtain ⟨t,rfl⟩:=ri
 obtain ⟨its,r,pl,hz⟩:=I.list hq
 obtain ⟨j,h1,h2,h3,h4,h5⟩:=atI_get he
 obtain ⟨w,ew,rw'⟩:=r.get h2
 have hl:=r.length
 have hn:=line63
 have fin:EP X pins σ Q w s:=⟨z,H,I,rw',q⟩
 by_cases h0:0<=k
 ·have hj:k.toNat=j:=by
   rw[seqIndex_of h0 h5] at h1
   exact Option.some.inj h1
  exact wpAny_getItem_list pl.isList h0 (by lia) (by rw[hj];simpa using ew) fin
 ·have hj:(k+(its.toArray.size:Int)).toNat=j:=by
   rw[seqIndex_neg (by lia) h4] at h1
   rw[List.size_toArray,← hl]
   exact Option.some.inj h1
  exact wpAny_getItem_list_neg pl.isList (by lia) (by rw[List.size_toArray] <;> lia) (by lia) (by rw[hj];simpa using ew) fin
def rIsT (K:PySem.W.Frag) (T:String):V->Hp->VK->Prop:=fun x H Q=>∃t b,TyOf K H x t∧PySem.W.kitOne K t (.type T)=some b∧Q (.bl b) H
theorem pe_isT {c:Str} {T:String} {p p2:Pos} (hg:Gl X "isinstance") (hm:X.mg "isinstance"=none) (hb:bootBuiltins c=some (.type T)) (hmc:X.mg c=none) (ha:PE X a ta) (hgc:Gl X c:=by rfl) (hn:c≠"__name__":=by decide)
  (hd:(c == ("__debug__":Str))=false:=by decide) (he:starEach [a,.Name c p2] X.env=[(false,eval a X.env),(false,eval (.Name c p2) X.env)]:=by rfl)
  (hpl:(backTo pos (starEach [.Name c p2] X.env)).any (·.1)=false:=by rfl) (he2:starEach [.Name c p2] X.env=[(false,eval (.Name c p2) X.env)]:=by rfl):PE X (.Call (.Name "isinstance" p) [a,.Name c p2] [] pos) (tUn (rIsT X.K T) ta):=by
 intro pins s σ H Q I h
 refine wpAny_Call_Name_kw (ld_blt I hg hm PyProof.Rows.boot_isinstance ?_)
 have hA:PA X [a,.Name c p2] (tCons ta (tCons (tC (.ty T)) tNil)):=pa_cons ha (pa_cons (pe_bltn hgc hmc hb rfl hn hd) pa_nil he2) (by rw[he,he2])
 have hq:tCons ta (tCons (tC (.ty T)) tNil) σ H (fun vs H1=>∃x,vs=[x,.ty T]∧rIsT X.K T x H1 Q):=by
  show ta σ H fun x H1=>∃x',[x,V.ty T]=[x',V.ty T]∧rIsT X.K T x' H1 Q
  have e:(fun x H1=>∃x',[x,V.ty T]=[x',V.ty T]∧rIsT X.K T x' H1 Q)=fun x H1=>rIsT X.K T x H1 Q:=by
   funext x H1
   apply propext
   constructor
   ·rintro ⟨x',e,q⟩;cases e;exact q
   ·intro q;exact ⟨x,rfl,q⟩
  rw[e]
  exact h
 refine PyProof.Rows.callWith_builtin1 (thn (hA pos pins s σ H _ I hq) fun us s1 ⟨vs,H1,I1,r1,x,e,q1⟩=>?_) (by rw[he,he2]) hpl
 subst e
 obtain ⟨u,w',rfl,ru,rt⟩:=vals2 r1
 cases rt
 obtain ⟨t,bb,ty,ek,q⟩:=q1
 exact isinst_ok I1 ru ty ek fun tk=>⟨.bl bb,H1,I1.tok tk,rfl,q⟩
end
structure Kind (α:Type) [DecidableEq α] where
 R:PySem.W.Frag->Hp->V->α->Prop
 d:Nat
 inj:∀{X:Cx} {pins:List (Addr×Obj)} {σ:St} {H:Hp} {s:Shared} {x:V} {a b:α},Inv X pins σ H s->R X.K H x a->R X.K H x b->a=b
 rc:∀{X:Cx} {pins:List (Addr×Obj)} {σ:St} {H:Hp} {s:Shared} {x y:V} {v u:Value} {a b:α} {A:Around},Inv X pins σ H s->RelV x v->RelV y u->R X.K H x a->R X.K H y b->A.units+d < cLine->SeqAt.RcAt A s v u (decide (a=b))
 ne:∀{X:Cx} {pins:List (Addr×Obj)} {σ:St} {H:Hp} {s:Shared} {x y:V} {v u:Value} {a b:α} {A:Around},Inv X pins σ H s->RelV x v->RelV y u->R X.K H x a->R X.K H y b->A.units+d < cLine->SeqAt.RcNeAt A s v u (!decide (a=b))
 eq:∀{X:Cx} {pins:List (Addr×Obj)} {σ:St} {H:Hp} {s:Shared} {x y:V} {v u:Value} {a b:α} {A:Around},Inv X pins σ H s->RelV x v->RelV y u->R X.K H x a->R X.K H y b->A.units+d < cLine->SeqAt.EqAt A s v u (decide (a=b))
def kInt:Kind Int where
 R:=fun _ _ x i=>x=.int i
 d:=0
 inj:=fun _ h1 h2=>by rw[h1] at h2;cases h2;rfl
 rc:=fun {X pins σ H s x y v u a b A} I rx ry h1 h2 _=>by
  subst h1 h2
  obtain ⟨t,rfl⟩:=rx
  obtain ⟨t',rfl⟩:=ry
  have q:=SeqAt.RcAt.int_int (A:=A) (s:=s) a t b t'
  rwa [Bool.beq_eq_decide_eq] at q
 ne:=fun {X pins σ H s x y v u a b A} I rx ry h1 h2 _=>by
  subst h1 h2
  obtain ⟨t,rfl⟩:=rx
  obtain ⟨t',rfl⟩:=ry
  have q:=SeqAt.RcNeAt.int_int (A:=A) (s:=s) a t b t'
  rwa [Bool.beq_eq_decide_eq] at q
 eq:=fun {X pins σ H s x y v u a b A} I rx ry h1 h2 _=>by
  subst h1 h2
  obtain ⟨t,rfl⟩:=rx
  obtain ⟨t',rfl⟩:=ry
  have q:=SeqAt.EqAt.int_int (A:=A) (s:=s) a t b t'
  rwa [Bool.beq_eq_decide_eq] at q
theorem paired_get {α β:Type} {F:α->β->Prop}:∀{l1:List α} {l2:List β} {i:Nat} (_:Paired F l1 l2) (h1:i < l1.length) (h2:i < l2.length),F l1[i] l2[i]
 | _,_,_,.nil,h1,_=>absurd h1 (Nat.not_lt_zero _)
 | _,_,0,.cons r _,_,_=>r
 | _,_,i+1,.cons _ t,h1,h2=>paired_get (i:=i) t (Nat.lt_of_succ_lt_succ h1) (Nat.lt_of_succ_lt_succ h2)
theorem paired_inj {α β:Type} {F:α->β->Prop} (hF:∀a b x,F a x->F b x->a=b):∀{l1 l2:List α} {l:List β},Paired F l1 l->Paired F l2 l->l1=l2
 | _,_,_,.nil,.nil=>rfl
 | _,_,_,.cons r t,.cons r' t'=>by rw[hF _ _ _ r r',paired_inj hF t t']
theorem decide_lists {α:Type} [DecidableEq α] (as bs:List α) (h:as.length=bs.length):(List.range as.length).all (fun j=>decide (as[j]?=bs[j]?))=decide (as=bs):=by
 rw[Bool.eq_iff_iff,List.all_eq_true,decide_eq_true_iff]
 constructor
 ·intro q
  apply List.ext_getElem?
  intro i
  by_cases hi:i < as.length
  ·exact of_decide_eq_true (q i (List.mem_range.mpr hi))
  ·rw[List.getElem?_eq_none (by lia),List.getElem?_eq_none (by lia)]
 ·rintro rfl i _
  simp
section
variable {α:Type} [DecidableEq α] (k:Kind α)
theorem Kind.items {X:Cx} {pins:List (Addr×Obj)} {σ:St} {H:Hp} {s:Shared} {A:Around} (I:Inv X pins σ H s) (hA:A.units+k.d < cLine) {xs ys:List V} {us ws:List Value} {as bs:List α}
  (rx:Vals xs us) (ry:Vals ys ws) (ha:Paired (fun a x=>k.R X.K H x a) as xs) (hb:Paired (fun a x=>k.R X.K H x a) bs ys) :
  ∀j (h1:j < us.toArray.size) (h2:j < ws.toArray.size),SeqAt.EqAt A s us.toArray[j] ws.toArray[j] (decide (as[j]?=bs[j]?)):=fun j h1 h2=>by
 have l1:j < us.length:=by simpa using h1
 have l2:j < ws.length:=by simpa using h2
 have e1:=rx.length
 have e2:=ry.length
 have e3:=ha.length
 have e4:=hb.length
 obtain ⟨u,hu,ru⟩:=rx.get (i:=j) (x:=xs[j]'(by lia)) (by simp)
 obtain ⟨w,hw,rw'⟩:=ry.get (i:=j) (x:=ys[j]'(by lia)) (by simp)
 have q:=k.eq (A:=A) I ru rw' (paired_get ha (by lia) (by lia)) (paired_get hb (by lia) (by lia)) hA
 have eu:us.toArray[j]=u:=by
  have:=hu
  rw[List.getElem?_eq_getElem l1] at this
  simpa using this
 have ew:ws.toArray[j]=w:=by
  have:=hw
  rw[List.getElem?_eq_getElem l2] at this
  simpa using this
 rw[eu,ew,List.getElem?_eq_getElem (show j < as.length by lia),List.getElem?_eq_getElem (show j < bs.length by lia)]
 have e5:decide (some as[j]=some bs[j])=decide (as[j]=bs[j]):=by simp
 rw[e5]
 exact q
theorem tup_all {α:Type} [DecidableEq α] (as bs:List α) {n m:Nat} (h1:as.length=n) (h2:bs.length=m):((List.range (min n m)).all (fun j=>decide (as[j]?=bs[j]?)) && n == m)=decide (as=bs):=by
 subst h1 h2
 by_cases e:as.length=bs.length
 ·rw[show min as.length bs.length=as.length by lia,decide_lists as bs e]
  simp [e]
 ·have h1:(as.length == bs.length)=false:=by simpa using e
  rw[h1,Bool.and_false]
  exact (decide_eq_false fun z=>e (by rw[z])).symm
def kTup:Kind (List α) where
 R:=fun K H x as=>∃p xs,x=.ref p∧SqT K H p xs∧Paired (fun a x=>k.R K H x a) as xs
 d:=k.d+1
 inj:=fun {X pins σ H s x a b} I h1 h2=>by
  obtain ⟨p,xs,rfl,hp,pa⟩:=h1
  obtain ⟨q,ys,e,hq,pb⟩:=h2
  cases e
  have e:=I.tuple_inj hp hq
  subst e
  exact paired_inj (F:=fun a x=>k.R X.K H x a) (fun a b x=>k.inj I) pa pb
 rc:=fun {X pins σ H s x y v u a b A} I rx ry h1 h2 hA=>by
  obtain ⟨p,xs,rfl,hp,pa⟩:=h1
  obtain ⟨q,ys,rfl,hq,pb⟩:=h2
  cases rx
  cases ry
  obtain ⟨us,r1,t1,_⟩:=I.tuple hp
  obtain ⟨ws,r2,t2,_⟩:=I.tuple hq
  have z:=SeqAt.RcAt.tuples (A:=A) (e:=fun j=>decide (a[j]?=b[j]?)) (show s.heap.IsTuple p us.toArray from t1) (show s.heap.IsTuple q ws.toArray from t2) (by lia) (k.items (A:=A.in1) I (by show A.units+1+k.d < cLine;lia) r1 r2 pa pb)
  rwa [tup_all a b (by rw[pa.length,r1.length];simp) (by rw[pb.length,r2.length];simp)] at z
 ne:=fun {X pins σ H s x y v u a b A} I rx ry h1 h2 hA=>by
  obtain ⟨p,xs,rfl,hp,pa⟩:=h1
  obtain ⟨q,ys,rfl,hq,pb⟩:=h2
  cases rx
  cases ry
  obtain ⟨us,r1,t1,_⟩:=I.tuple hp
  obtain ⟨ws,r2,t2,_⟩:=I.tuple hq
  have z:=SeqAt.RcNeAt.tuples (A:=A) (e:=fun j=>decide (a[j]?=b[j]?)) (show s.heap.IsTuple p us.toArray from t1) (show s.heap.IsTuple q ws.toArray from t2) (by lia) (k.items (A:=A.in1) I (by show A.units+1+k.d < cLine;lia) r1 r2 pa pb)
  rwa [tup_all a b (by rw[pa.length,r1.length];simp) (by rw[pb.length,r2.length];simp)] at z
 eq:=fun {X pins σ H s x y v u a b A} I rx ry h1 h2 hA=>by
  obtain ⟨p,xs,rfl,hp,pa⟩:=h1
  obtain ⟨q,ys,rfl,hq,pb⟩:=h2
  cases rx
  cases ry
  by_cases e:p=q
  ·subst e
   have e:=I.tuple_inj hp hq
   subst e
   rw[paired_inj (F:=fun a x=>k.R X.K H x a) (fun a b x=>k.inj I) pa pb,decide_eq_true rfl]
   exact SeqAt.EqAt.same _
  ·obtain ⟨us,r1,t1,_⟩:=I.tuple hp
   obtain ⟨ws,r2,t2,_⟩:=I.tuple hq
   have z:=SeqAt.RcAt.tuples (A:=A) (e:=fun j=>decide (a[j]?=b[j]?)) (show s.heap.IsTuple p us.toArray from t1) (show s.heap.IsTuple q ws.toArray from t2) (by lia) (k.items (A:=A.in1) I (by show A.units+1+k.d < cLine;lia) r1 r2 pa pb)
   rw[tup_all a b (by rw[pa.length,r1.length];simp) (by rw[pb.length,r2.length];simp)] at z
   exact .of_refs e z
theorem lst_rc {X:Cx} {pins:List (Addr×Obj)} {σ:St} {H:Hp} {s:Shared} {p q:Addr} {xs ys:List V} {a b:List α} {A:Around} (I:Inv X pins σ H s) (hp:SqL X.K H p xs) (hq:SqL X.K H q ys)
  (pa:Paired (fun a x=>k.R X.K H x a) a xs) (pb:Paired (fun a x=>k.R X.K H x a) b ys) (hA:A.units+(k.d+1) < cLine) :
  SeqAt.RcAt A s (.ref p) (.ref q) (decide (a=b))∧SeqAt.RcNeAt A s (.ref p) (.ref q) (!decide (a=b)):=by
 obtain ⟨us,r1,t1,_⟩:=I.list hp
 obtain ⟨ws,r2,t2,_⟩:=I.list hq
 have l1:=r1.length
 have l2:=r2.length
 have l3:=pa.length
 have l4:=pb.length
 by_cases e:us.length=ws.length
 ·have it:=k.items (A:=A.in1) I (by show A.units+1+k.d < cLine;lia) r1 r2 pa pb
  have z:=SeqAt.RcAt.lists (A:=A) (e:=fun j=>decide (a[j]?=b[j]?)) t1.isList t2.isList (by simpa using e) (by lia) it
  have z2:=SeqAt.RcNeAt.lists (A:=A) (e:=fun j=>decide (a[j]?=b[j]?)) t1.isList t2.isList (by simpa using e) (by lia) it
  have e1:us.toArray.size=a.length:=by rw[List.size_toArray];lia
  rw[e1,decide_lists a b (by lia)] at z z2
  exact ⟨z,z2⟩
 ·have hne:¬a=b:=fun z=>e (by have:=congrArg List.length z;lia)
  rw[decide_eq_false hne]
  exact ⟨SeqAt.RcAt.lists_lengths t1.isList t2.isList (by simpa using e) (by lia),SeqAt.RcNeAt.lists_lengths t1.isList t2.isList (by simpa using e) (by lia)⟩
def kLst:Kind (List α) where
 R:=fun K H x as=>∃p xs,x=.ref p∧SqL K H p xs∧Paired (fun a x=>k.R K H x a) as xs
 d:=k.d+1
 inj:=fun {X pins σ H s x a b} I h1 h2=>by
  obtain ⟨p,xs,rfl,hp,pa⟩:=h1
  obtain ⟨q,ys,e,hq,pb⟩:=h2
  cases e
  have e:=I.list_inj hp hq
  subst e
  exact paired_inj (F:=fun a x=>k.R X.K H x a) (fun a b x=>k.inj I) pa pb
 rc:=fun {X pins σ H s x y v u a b A} I rx ry h1 h2 hA=>by
  obtain ⟨p,xs,rfl,hp,pa⟩:=h1
  obtain ⟨q,ys,rfl,hq,pb⟩:=h2
  cases rx
  cases ry
  exact (lst_rc k I hp hq pa pb hA).1
 ne:=fun {X pins σ H s x y v u a b A} I rx ry h1 h2 hA=>by
  obtain ⟨p,xs,rfl,hp,pa⟩:=h1
  obtain ⟨q,ys,rfl,hq,pb⟩:=h2
  cases rx
  cases ry
  exact (lst_rc k I hp hq pa pb hA).2
 eq:=fun {X pins σ H s x y v u a b A} I rx ry h1 h2 hA=>by
  obtain ⟨p,xs,rfl,hp,pa⟩:=h1
  obtain ⟨q,ys,rfl,hq,pb⟩:=h2
  cases rx
  cases ry
  by_cases e:p=q
  ·subst e
   have e:=I.list_inj hp hq
   subst e
   rw[paired_inj (F:=fun a x=>k.R X.K H x a) (fun a b x=>k.inj I) pa pb,decide_eq_true rfl]
   exact SeqAt.EqAt.same _
  ·exact .of_refs e (lst_rc k I hp hq pa pb hA).1
def Kind.via {β:Type} [DecidableEq β] (f:β->α) (fi:∀a b,f a=f b->a=b) (R':PySem.W.Frag->Hp->V->β->Prop) (im:∀{K H x b},R' K H x b->k.R K H x (f b)):Kind β where
 R:=R'
 d:=k.d
 inj:=fun I h1 h2=>fi _ _ (k.inj I (im h1) (im h2))
 rc:=fun {X pins σ H s x y v u a b A} I rx ry h1 h2 hA=>by
  have z:=k.rc (A:=A) I rx ry (im h1) (im h2) hA
  rwa [decide_eq_decide.mpr (show f a=f b↔a=b from ⟨fi a b,fun e=>by rw[e]⟩)] at z
 ne:=fun {X pins σ H s x y v u a b A} I rx ry h1 h2 hA=>by
  have z:=k.ne (A:=A) I rx ry (im h1) (im h2) hA
  rwa [decide_eq_decide.mpr (show f a=f b↔a=b from ⟨fi a b,fun e=>by rw[e]⟩)] at z
 eq:=fun {X pins σ H s x y v u a b A} I rx ry h1 h2 hA=>by
  have z:=k.eq (A:=A) I rx ry (im h1) (im h2) hA
  rwa [decide_eq_decide.mpr (show f a=f b↔a=b from ⟨fi a b,fun e=>by rw[e]⟩)] at z
end
def NumR (K:PySem.W.Frag) (H:Hp) (x:V) (n:Int×Int):Prop:=∃p,x=.ref p∧SqT K H p [.int n.1,.int n.2]
def kNum:Kind (Int×Int):=(kTup kInt).via (fun n=>[n.1,n.2]) (fun a b e=>by cases a;cases b;simp at e;rw[e.1,e.2]) NumR fun ⟨p,e,h⟩=>⟨p,_,e,h,.cons rfl (.cons rfl .nil)⟩
def kRow:Kind (List (Int×Int)):=kLst kNum
def kGrid:Kind (List (List (Int×Int))):=kLst kRow
abbrev RowR:=kRow.R
abbrev GridR:=kGrid.R
def rEqD (K:PySem.W.Frag):R2:=fun x y H Q=>∃(α:Type) (_:DecidableEq α) (k:Kind α) (a b:α),k.d<=50∧k.R K H x a∧k.R K H y b∧Q (.bl (decide (a=b))) H
def rNeD (K:PySem.W.Frag):R2:=fun x y H Q=>∃(α:Type) (_:DecidableEq α) (k:Kind α) (a b:α),k.d<=50∧k.R K H x a∧k.R K H y b∧Q (.bl (!decide (a=b))) H
theorem op_eqD {X:Cx} (hu:X.A.units+50 < cLine):OpR X (compareOp .Eq) (rEqD X.K):=by
 intro pins s σ H x y v u Q I rx ry h
 obtain ⟨α,_,k,a,b,hd,ha,hb,q⟩:=h
 exact k.rc (A:=X.A) I rx ry ha hb (by lia) _ _ _ _ ⟨.bl (decide (a=b)),H,I,rfl,q⟩
theorem op_neD {X:Cx} (hu:X.A.units+50 < cLine):OpR X (compareOp .NotEq) (rNeD X.K):=by
 intro pins s σ H x y v u Q I rx ry h
 obtain ⟨α,_,k,a,b,hd,ha,hb,q⟩:=h
 exact k.ne (A:=X.A) I rx ry ha hb (by lia) _ _ _ _ ⟨.bl (!decide (a=b)),H,I,rfl,q⟩
theorem hu50 {A:Around} {k:Nat} (hr:Room k A):A.units+50 < cLine:=by have:=hr.units;lia
def Inner (H:Hp) (p q:Addr):Prop:=∃a b c:Int,H p=some (.lst [.int a,.int b,.int c,.ref q])
def Upto (p:Addr) (H H':Hp):Prop:=(∀b o,H b=some o->b≠p->H' b=some o)∧∀q,Inner H p q->Inner H' p q
theorem Upto.refl {p:Addr} (H:Hp):Upto p H H:=⟨fun _ _ h _=>h,fun _ h=>h⟩
theorem Upto.trans {p:Addr} {H H1 H2:Hp} (a:Upto p H H1) (b:Upto p H1 H2):Upto p H H2:=⟨fun c o h n=>b.1 c o (a.1 c o h n) n,fun q h=>b.2 q (a.2 q h)⟩
theorem Inner.inj {H:Hp} {p q q':Addr} (h:Inner H p q) (h':Inner H p q'):q=q':=by
 obtain ⟨a,b,c,e⟩:=h
 obtain ⟨a',b',c',e'⟩:=h'
 rw[e] at e'
 have:=HO.lst.inj (Option.some.inj e')
 simp at this
 exact this.2.2.2
theorem Upto.set {p q:Addr} {H:Hp} {a b c a' b' c':Int} (h:H p=some (.lst [.int a,.int b,.int c,.ref q])):Upto p H (upd H p (.lst [.int a',.int b',.int c',.ref q])) :=
 ⟨fun b u h n=>by rw[upd_ne n];exact h,fun q' h'=>by
  rw[(Inner.inj ⟨a,b,c,h⟩ h').symm]
  exact ⟨a',b',c',upd_same⟩⟩
theorem Same.upto {p:Addr} {H H':Hp} (h:Same H H'):Upto p H H':=⟨fun b o e _=>h b o e,fun q ⟨a,b,c,e⟩=>⟨a,b,c,h _ _ e⟩⟩
theorem Same.new {H:Hp} {p:Addr} {o:HO} (h:H p=Option.none):Same H (upd H p o):=fun b u e=>by rw[upd_ne (ne_of_none e h)];exact e
theorem Same.sqt {K:PySem.W.Frag} {H H':Hp} {a:Addr} {xs:List V} (e:Same H H') (h:SqT K H a xs):SqT K H' a xs:=by
 rcases h with (h | ⟨o,h⟩) | h
 ·exact .inl (.inl (e _ _ h))
 ·exact .inl (.inr ⟨o,e _ _ h⟩)
 ·exact .inr h
theorem Same.num {K:PySem.W.Frag} {H H':Hp} {x:V} {n:Int×Int} (e:Same H H') (h:NumR K H x n):NumR K H' x n:=by obtain ⟨p,q,r⟩:=h;exact ⟨p,q,e.sqt r⟩
theorem Same.row {K:PySem.W.Frag} {H H':Hp} {x:V} {n:List (Int×Int)} (e:Same H H') (h:RowR K H x n):RowR K H' x n:=by obtain ⟨p,xs,q,r,z⟩:=h;exact ⟨p,xs,q,e.seq r,Paired.imp' (fun _ _ q=>e.num q) z⟩
theorem Same.grid {K:PySem.W.Frag} {H H':Hp} {x:V} {n:List (List (Int×Int))} (e:Same H H') (h:GridR K H x n):GridR K H' x n:=by obtain ⟨p,xs,q,r,z⟩:=h;exact ⟨p,xs,q,e.seq r,Paired.imp' (fun _ _ q=>e.row q) z⟩
section
variable {σ:St} {H:Hp} {D:Ends}
theorem rd_start {t:TS} {σ0 σ:St} {D:Ends} {H:Hp} (e:σ0=σ) (h:t D σ H):t D σ0 H:=by rw[e];exact h
theorem rd_seq {t u:TS} (h:t { D with nx:=u D } σ H):tSeq t u D σ H:=h
theorem rd_next (h:D.nx σ H):tNext D σ H:=h
theorem rd_asg {te:TE} {g:TG} (h:te σ H fun x H1=>g x σ H1 D.nx):tAsg te g D σ H:=h
theorem rd_gname {i:Nat} {v:V} {Q:St->Hp->Prop} (h:Q (σ.set i (some v)) H):gName i v σ H Q:=h
theorem rd_ret {te:TE} (h:te σ H D.rt):tRet te D σ H:=h
theorem rd_retN (h:D.rt .non H):tRetN D σ H:=h
theorem rd_ifS {c:TT} {t u:TS} (h:c σ H fun b H1=>if b=true then t D σ H1 else u D σ H1):tIfS c t u D σ H:=h
theorem rd_drop {te:TE} (h:te σ H fun _ H1=>D.nx σ H1):tDrop te D σ H:=h
theorem rd_brk (h:D.bk σ H):tBreak D σ H:=h
theorem rd_cont (h:D.ct σ H):tCont D σ H:=h
theorem rd_par {i j:Nat} {ta:TA} (h:ta σ H fun vs H1=>∃v w,vs=[v,w]∧D.nx ((σ.set i (some v)).set j (some w)) H1):tPar i j ta D σ H:=h
theorem rd_augS {to ti te:TE} {tget:V->V->Hp->VK->Prop} {tip:TIp} {tset:TSet}
  (h:to σ H fun o H1=>ti σ H1 fun i H2=>tget o i H2 fun x H3=>te σ H3 fun y H4=>tip x y H4 fun z H5=>tset o i z H5 fun H6=>D.nx σ H6):tAugS to ti te tget tip tset D σ H:=h
theorem rd_aug {i:Nat} {te:TE} {ti:TIp} {x:V} (e:σ[i]?=some (some x)) (h:te σ H fun y H1=>ti x y H1 fun z H2=>D.nx (σ.set i (some z)) H2):tAug i te ti D σ H:=⟨x,e,h⟩
theorem rd_ipI {f:Int->Int->Int} {i j:Int} {Q:VK} (h:Q (.int (f i j)) H):ipI f (.int i) (.int j) H Q:=⟨i,j,rfl,rfl,h⟩
theorem rd_for {wi:TI} {g:TG} {tb:TS} (h:wi σ H fun J H1=>∃W:Nat->Nat->St->Hp->Prop,(∃m,W 0 m σ H1)∧∀i m σ H,W i m σ H →
  (J.stop i H∧D.nx σ H)∨(J.go i H∧∃N:St->Hp->Prop,(∀σ' H',N σ' H'->∃m',m' < m∧W (i+1) m' σ' H')∧∀x H',J.yld i H x H'->g x σ H' fun σ2 H2=>tb { D with nx:=N,ct:=N,bk:=D.nx } σ2 H2)):tFor wi g tb D σ H:=h
variable {Q:VK} {QA:List V->Hp->Prop} {QB:Bool->Hp->Prop}
theorem rd_var {i:Nat} {v:V} (e:σ[i]?=some (some v)) (h:Q v H):tVar i σ H Q:=⟨v,e,h⟩
theorem rd_c {v:V} (h:Q v H):tC v σ H Q:=h
theorem rd_op {r:R2} {ta tb:TE} (h:ta σ H fun x H1=>tb σ H1 fun y H2=>r x y H2 Q):tOp r ta tb σ H Q:=h
theorem rd_un {r:V->Hp->VK->Prop} {ta:TE} (h:ta σ H fun x H1=>r x H1 Q):tUn r ta σ H Q:=h
theorem rd_I0 {g:Int->Int->V} {i j:Int} (h:Q (g i j) H):rI0 g (.int i) (.int j) H Q:=⟨i,j,rfl,rfl,h⟩
theorem rd_I {C:Int->Int->Prop} {g:Int->Int->V} {i j:Int} (hc:C i j) (h:Q (g i j) H):rI C g (.int i) (.int j) H Q:=⟨i,j,rfl,rfl,hc,h⟩
theorem rd_U {g:Int->V} {i:Int} (h:Q (g i) H):rU g (.int i) H Q:=⟨i,rfl,h⟩
theorem rd_eqI {i j:Int} (h:Q (.bl (decide (i=j))) H):rEq (.int i) (.int j) H Q:=⟨rfl,by
 have e:decide (V.int i=V.int j)=decide (i=j):=by simp
 rw[e];exact h⟩
theorem rd_neI {i j:Int} (h:Q (.bl (!decide (i=j))) H):rNe (.int i) (.int j) H Q:=⟨rfl,by
 have e:decide (V.int i=V.int j)=decide (i=j):=by simp
 rw[e];exact h⟩
theorem rd_eqS {i j:Str} (h:Q (.bl (decide (i=j))) H):rEq (.str i) (.str j) H Q:=⟨rfl,by
 have e:decide (V.str i=V.str j)=decide (i=j):=by simp
 rw[e];exact h⟩
theorem rd_neS {i j:Str} (h:Q (.bl (!decide (i=j))) H):rNe (.str i) (.str j) H Q:=⟨rfl,by
 have e:decide (V.str i=V.str j)=decide (i=j):=by simp
 rw[e];exact h⟩
theorem rd_test {t:TE} (h:t σ H fun x H'=>∃k,x=.bl k∧QB k H'):tTest t σ H QB:=h
theorem rd_tB {t:TE} (h:t σ H fun x H'=>∃k,x=.bl k∧QB k H'):tB t σ H QB:=h
theorem rd_and {t u:TT} (h:t σ H fun c H1=>if c=true then u σ H1 QB else QB false H1):tAnd t u σ H QB:=h
theorem rd_or {t u:TT} (h:t σ H fun c H1=>if c=true then QB true H1 else u σ H1 QB):tOr t u σ H QB:=h
theorem rd_not {t:TT} (h:t σ H fun c H1=>QB (!c) H1):tNot t σ H QB:=h
theorem rd_andV {t u:TE} (h:t σ H fun x H1=>∃c,x=.bl c∧if c=true then u σ H1 Q else Q (.bl false) H1):tAndV t u σ H Q:=h
theorem rd_orV {t u:TE} (h:t σ H fun x H1=>∃c,x=.bl c∧if c=true then Q (.bl true) H1 else u σ H1 Q):tOrV t u σ H Q:=h
theorem rd_notV {t:TE} (h:t σ H fun x H1=>∃c,x=.bl c∧Q (.bl (!c)) H1):tNotV t σ H Q:=h
theorem rd_ifE {c:TT} {ta tb:TE} (h:c σ H fun b H1=>if b=true then ta σ H1 Q else tb σ H1 Q):tIf c ta tb σ H Q:=h
theorem rd_yes (h:QB true H):tYes σ H QB:=h
theorem rd_nil (h:QA [] H):tNil σ H QA:=h
theorem rd_cons {ta:TE} {tr:TA} (h:ta σ H fun x H1=>tr σ H1 fun xs H2=>QA (x :: xs) H2):tCons ta tr σ H QA:=h
theorem rd_call {sp:Sp} {E:XK} {t:TA} (h:t σ H fun vs H1=>sp vs H1 Q E):tCall sp [] E t σ H Q:=by
 have e:(fun vs H1=>sp (vs++[]) H1 Q E)=fun vs H1=>sp vs H1 Q E:=by funext vs H1;rw[List.append_nil]
 show t σ H fun vs H1=>sp (vs++[]) H1 Q E
 rw[e];exact h
theorem rd_cb {r:List V->Hp->VK->Prop} {t:TA} (h:t σ H fun vs H1=>r vs H1 Q):tCB r t σ H Q:=h
theorem rd_ixT {K:PySem.W.Frag} {p:Addr} {xs:List V} {i:Int} {v:V} (hx:SqT K H p xs) (e:atI xs i=some v) (h:Q v H):rIxT K (.ref p) (.int i) H Q:=⟨p,xs,i,v,rfl,rfl,hx,e,h⟩
theorem rd_ixL {K:PySem.W.Frag} {p:Addr} {xs:List V} {i:Int} (hx:SqL K H p xs) {v:V} (e:atI xs i=some v) (h:Q v H):rIxL K (.ref p) (.int i) H Q:=⟨p,xs,i,v,rfl,rfl,hx,e,h⟩
theorem rd_getL {K:PySem.W.Frag} {p:Addr} {xs:List V} {i:Int} (hx:SqL K H p xs) {v:V} (e:atI xs i=some v) (h:Q v H):rGetL K (.ref p) (.int i) H Q:=⟨p,xs,i,v,rfl,rfl,hx,e,h⟩
theorem rd_setL {QH:Hp->Prop} {p:Addr} {xs:List V} {i:Int} {v:V} {j:Nat} {ys:List V} (hx:H p=some (.lst xs)) (e:ixN xs.length i=some j) (ey:xs.set j v=ys) (h:QH (upd H p (.lst ys))):rSetL (.ref p) (.int i) v H QH:=⟨p,xs,i,j,rfl,rfl,hx,e,by rw[ey];exact h⟩
theorem rd_gsub {to ti:TE} {t:TSet} {v:V} {QS:St->Hp->Prop} (h:to σ H fun o H1=>ti σ H1 fun i H2=>t o i v H2 fun H3=>QS σ H3):gSub to ti t v σ H QS:=h
theorem rd_gcons {t:TG} {u:TGs} {v:V} {r:List V} {QS:St->Hp->Prop} (h:t v σ H fun σ' H'=>u r σ' H' QS):gCons t u (v :: r) σ H QS:=⟨v,r,rfl,h⟩
theorem rd_gnil {QS:St->Hp->Prop} (h:QS σ H):gNil [] σ H QS:=⟨rfl,h⟩
theorem rd_gtup {K:PySem.W.Frag} {n:Nat} {t:TGs} {a:Addr} {xs:List V} {QS:St->Hp->Prop} (hx:SqT K H a xs) (hl:xs.length=n) (h:t xs σ H QS):gTup K n t (.ref a) σ H QS:=⟨a,xs,rfl,hx,hl,h⟩
theorem rd_sl {r:V->Option Int->Option Int->Hp->VK->Prop} {te:TE} {tl th:TO} (h:te σ H fun x H1=>tl σ H1 fun l H2=>th σ H2 fun u H3=>r x l u H3 Q):tSl r te tl th σ H Q:=h
theorem rd_noPart {QO:Option Int->Hp->Prop} (h:QO none H):tNoPart σ H QO:=h
theorem rd_part {t:TE} {QO:Option Int->Hp->Prop} (h:t σ H fun x H1=>∃i,x=.int i∧QO (some i) H1):tPart t σ H QO:=h
variable {R:It->Hp->Prop} {K:PySem.W.Frag}
theorem rd_iList {tl:TE} (h:tl σ H fun x H1=>∃a,x=.ref a∧(∃xs,SqL K H1 a xs)∧R (Itl K a) H1):iList K tl σ H R:=h
theorem rd_iTup {tl:TE} (h:tl σ H fun x H1=>∃a,x=.ref a∧(∃xs,SqT K H1 a xs)∧R (Itt K a) H1):iTup K tl σ H R:=h
theorem rd_iRng1 {ta:TA} (h:ta σ H fun vs H1=>∃j:Int,vs=[.int j]∧-(2^62)<=j∧j < 2^62∧R (Itr 0 j.toNat) H1):iRng1 ta σ H R:=h
theorem rd_iRng2 {ta:TA} (h:ta σ H fun vs H1=>∃i j:Int,vs=[.int i,.int j]∧(-(2^62)<=i∧i < 2^62∧-(2^62)<=j∧j < 2^62)∧R (Itr i (j - i).toNat) H1):iRng2 ta σ H R:=h
theorem rd_comp {wi:TI} {k:Nat} {cap:List Nat} {g:TG} {tf:TT} {te:TE} {σ₀:St} (e:st0 k cap σ=σ₀) (h:wi σ H fun J H1=>CompW J σ₀ g tf te Q H1):tComp wi k cap g tf te σ H Q:=by
 unfold tComp;rw[e];exact h
theorem rd_turn {g:TG} {tf:TT} {te:TE} {x:V} {NY:V->Hp->Prop} {NN:Hp->Prop} (h:g x σ H fun σ2 H2=>tf σ2 H2 fun b H3=>if b=true then te σ2 H3 NY else NN H3):tTurn σ g tf te x H NY NN:=h
theorem rd_bm {T:String} {r:V->List V->Hp->VK->Prop} {to:TE} {t:TA} (h:to σ H fun x H1=>tyV K T x H1∧t σ H1 fun xs H2=>r x xs H2 Q):tBM K T r to t σ H Q:=h
theorem rd_bm0 {T:String} {r:V->List V->Hp->VK->Prop} {to:TE} (h:to σ H fun x H1=>tyV K T x H1∧r x [] H1 Q):tBM0 K T r to σ H Q:=h
def NewT (Q:VK) (xs:List V) (H:Hp):Prop:=xs.length<=sizeLine∧∀p,H p=none->Q (.ref p) (upd H p (.tup xs))
def NewL (Q:VK) (xs:List V) (H:Hp):Prop:=xs.length<=sizeLine∧∀p,H p=none->Q (.ref p) (upd H p (.lst xs))
theorem rd_tup {t:TA} (h:t σ H (NewT Q)):tTup t σ H Q:=h
theorem rd_lst {t:TA} (h:t σ H (NewL Q)):tLst t σ H Q:=h
theorem short_ok {n:Nat} (h:Nat.ble n 1000=true):n<=sizeLine:=Nat.le_of_lt (small1000 (Nat.le_of_ble_eq_true h))
theorem rd_newT {xs:List V} (h:∀p H',Same H H'->H' p=some (.tup xs)->Q (.ref p) H') (hl:Nat.ble xs.length 1000=true:=by rfl):NewT Q xs H :=
 ⟨short_ok hl,fun p hp=>h p _ (Same.new hp) upd_same⟩
theorem rd_newL {xs:List V} (h:∀p H',Same H H'->H p=none->H' p=some (.lst xs)->Q (.ref p) H') (hl:Nat.ble xs.length 1000=true:=by rfl):NewL Q xs H :=
 ⟨short_ok hl,fun p hp=>h p _ (Same.new hp) hp upd_same⟩
theorem iteNT {A B:Prop} (h:B):if (!true)=true then A else B:=iteF h
theorem iteNF {A B:Prop} (h:A):if (!false)=true then A else B:=iteT h
def WB (tb:TS) (D:Ends) (Pv:St->Hp->Prop) (μ:St->Hp->Nat) (n:Nat) (σ:St) (H:Hp):Prop:=∃N:St->Hp->Prop,(∀σ' H',N σ' H'->∃m',m' < n∧(m'=μ σ' H'∧Pv σ' H'))∧tb { D with nx:=N,ct:=N,bk:=D.nx } σ H
theorem rd_wb {tb:TS} {Pv:St->Hp->Prop} {μ:St->Hp->Nat} {n:Nat} (h:tb { D with nx:=fun σ' H'=>Pv σ' H'∧μ σ' H' < n,ct:=fun σ' H'=>Pv σ' H'∧μ σ' H' < n,bk:=D.nx } σ H):WB tb D Pv μ n σ H :=
 ⟨_,fun σ' H' ⟨p,l⟩=>⟨_,l,rfl,p⟩,h⟩
theorem while_i {c:TT} {tb:TS} (Pv:St->Hp->Prop) (μ:St->Hp->Nat) (h0:Pv σ H) (hs:∀σ H,Pv σ H->c σ H fun b H1=>if b=true then WB tb D Pv μ (μ σ H) σ H1 else D.nx σ H1):tWhile c tb D σ H:=by
 refine ⟨fun m σ H=>m=μ σ H∧Pv σ H,⟨_,rfl,h0⟩,?_⟩
 rintro m σ H ⟨rfl,p⟩
 exact hs σ H p
end
end L2
namespace L2
open PySem PySem.Spec PyProof.Rows Nm
def Bag (H:Hp) (p:Addr):Prop:=∃(q:Addr) (a b c:Int) (cs:List Int),H p=some (.lst [.int a,.int b,.int c,.ref q])∧H q=some (.lst (cs.map V.int))∧0<=a∧0<=c∧c<=(cs.length:Int)∧∀x∈cs,(0:Int)<=x
theorem bag_apart {H:Hp} {p q:Addr} {a b c:Int} {cs:List Int} (hp:H p=some (.lst [.int a,.int b,.int c,.ref q])) (hq:H q=some (.lst (cs.map V.int))):q≠p:=fun e=>by
 rw[e,hp] at hq
 have h:=HO.lst.inj (Option.some.inj hq)
 cases cs with
 | nil=>cases h
 | cons x1 cs=>cases cs with
  | nil=>cases h
  | cons x2 cs=>cases cs with
   | nil=>cases h
   | cons x3 cs=>cases cs with
    | nil=>cases h
    | cons x4 cs=>simp at h
theorem Bag.same {H H':Hp} {p:Addr} (h:Bag H p) (e:Same H H'):Bag H' p:=by obtain ⟨q,a,b,c,cs,h1,h2,r⟩:=h;exact ⟨q,a,b,c,cs,e _ _ h1,e _ _ h2,r⟩
theorem Upto.tup {H H':Hp} {p r:Addr} {xs:List V} (u:Upto p H H') (B:Bag H p) (h:H r=some (.tup xs)):H' r=some (.tup xs):=by
 obtain ⟨q,a,b,c,cs,h1,_⟩:=B
 exact u.1 r _ h fun e=>by rw[e,h1] at h;cases h
theorem Upto.other {H H':Hp} {p r:Addr} {o:HO} (u:Upto p H H') (n:r≠p) (h:H r=some o):H' r=some o:=u.1 r _ h n
theorem Bag.inner {H:Hp} {p:Addr} (h:Bag H p):∃q,Inner H p q∧∃xs,H q=some (.lst xs):=by obtain ⟨q,a,b,c,cs,h1,h2,_⟩:=h;exact ⟨q,⟨a,b,c,h1⟩,_,h2⟩
theorem Bag.upd {H:Hp} {p q r:Addr} {o:HO} (h:Bag H p) (hi:Inner H p q) (n1:r≠p) (n2:r≠q):Bag (L2.upd H r o) p:=by
 obtain ⟨q',a,b,c,cs,h1,h2,z⟩:=h
 have e:q'=q:=Inner.inj ⟨a,b,c,h1⟩ hi
 subst e
 exact ⟨q',a,b,c,cs,by rw[upd_ne n1.symm];exact h1,by rw[upd_ne n2.symm];exact h2,z⟩
theorem Inner.upd {H:Hp} {p q r:Addr} {o:HO} (hi:Inner H p q) (n1:r≠p):Inner (L2.upd H r o) p q:=by obtain ⟨a,b,c,h⟩:=hi;exact ⟨a,b,c,by rw[upd_ne n1.symm];exact h⟩
def sp_take:Sp:=fun vs H Q _=>∃p n,vs=[.ref p,.int n]∧Bag H p∧0 < n∧n < 2^64∧∀v H',0<=v->v < n->Bag H' p->Upto p H H'->Q (.int v) H'
inductive sp_bag (K:PySem.W.Frag) (vs:List V) (H:Hp) (Q:VK) (E9:XK):Prop
 | mk (a:Addr) (ns:List Int):vs=[.ref a]->SqL K H a (ns.map V.int)->ns.length<=63->(∀p H',H p=none->Bag H' p->Same H H'->Q (.ref p) H')->sp_bag K vs H Q E9
inductive sp_law (K:PySem.W.Frag) (vs:List V) (H:Hp) (Q:VK) (E9:XK):Prop
 | mk (a:Addr) (ns:List Int):vs=[.ref a]->SqL K H a (ns.map V.int)->ns.length<=63->(∀H',Q (.bl true) H')->sp_law K vs H Q E9
def N60 (a b:Int):Prop:=0 < b∧Int.gcd a b=1∧a.natAbs < 10^60∧b.natAbs < 10^60
theorem lt60 {x:Int} (h:x.natAbs < 10^60):Sz 200 x:=Nat.lt_of_lt_of_le h (by decide +kernel)
theorem N60.sa {a b:Int} (h:N60 a b):Sz 200 a:=lt60 h.2.2.1
theorem N60.sb {a b:Int} (h:N60 a b):Sz 200 b:=lt60 h.2.2.2
def sp_low:Sp:=fun vs H Q _=>∃t b,vs=[.int t,.int b]∧0 < b∧Sz 8999 b∧∀r H',Same H H'->H' r=some (.tup [.int (lo t b),.int (hi t b)])->Q (.ref r) H'
def sp_cd:Sp:=fun vs H Q _=>∃a b,vs=[.int a,.int b]∧Q (.int (g a b)) H
def fPlus (a b c d:Int):Int:=a*d+c*b
def fTimes (a _b c _d:Int):Int:=a*c
def sp_ar (K:PySem.W.Frag) (f:Int->Int->Int->Int->Int):Sp:=fun vs H Q _=>∃p q a b c d,vs=[.ref p,.ref q]∧SqT K H p [.int a,.int b]∧SqT K H q [.int c,.int d]∧0 < b∧0 < d∧Sz 4000 a∧Sz 4000 b∧Sz 4000 c∧Sz 4000 d ∧
 ∀r H',Same H H'->H' r=some (.tup [.int (lo (f a b c d) (b*d)),.int (hi (f a b c d) (b*d))])->Q (.ref r) H'
def PairR (H:Hp) (_:Unit) (x:V):Prop:=∃r r1 r2 a b c d,x=.ref r∧N60 a b∧N60 c d∧H r=some (.tup [.ref r1,.ref r2])∧H r1=some (.tup [.int a,.int b])∧H r2=some (.tup [.int c,.int d])
theorem PairR.same {H H':Hp} {u:Unit} {x:V} (h:PairR H u x) (e:Same H H'):PairR H' u x:=by obtain ⟨r,r1,r2,a,b,c,d,q,n1,n2,g0,g1,g2⟩:=h;exact ⟨r,r1,r2,a,b,c,d,q,n1,n2,e _ _ g0,e _ _ g1,e _ _ g2⟩
theorem paired_app {α β:Type} {F:α->β->Prop}:∀{l1 l1':List α} {l2 l2':List β},Paired F l1 l2->Paired F l1' l2'->Paired F (l1++l1') (l2++l2')
 | _,_,_,_,.nil,h=>h
 | _,_,_,_,.cons r t,h=>.cons r (paired_app t h)
end L2
namespace L2
open PySem PySem.Spec PyProof.Rows Nm
def Itz (K : PySem.W.Frag) (l1 l2 : Addr) : It :=
  ⟨fun i H => ∃ xs ys x y, SqL K H l1 xs ∧ SqL K H l2 ys ∧ xs[i]? = some x ∧ ys[i]? = some y,
   fun i H v H' => ∃ p x y, v = .ref p ∧ H p = none ∧ H' = upd H p (.tup [x, y]) ∧ (∀ xs, SqL K H l1 xs → xs[i]? = some x) ∧ ∀ ys, SqL K H l2 ys → ys[i]? = some y,
   fun i H => ∃ xs ys, SqL K H l1 xs ∧ SqL K H l2 ys ∧ (xs.length ≤ i ∨ ys.length ≤ i)⟩
section
variable {X:Cx}
def iZip (K:PySem.W.Frag) (ta:TA):TI:=fun σ H R=>ta σ H fun vs H1=>∃l1 l2,vs=[.ref l1,.ref l2]∧(∃xs,SqL K H1 l1 xs)∧(∃ys,SqL K H1 l2 ys)∧R (Itz K l1 l2) H1
theorem call_all (hc:X.calm=true):CallR X (.builtin "all") (fun xs H Q=>∃(p:Addr) (bs:List Bool),xs=[.ref p]∧SqL X.K H p (bs.map V.bl)∧Q (.bl (bs.all id)) H):=by
 intro pins s σ H xs us Q I r h
 obtain ⟨p,bs,rfl,hp,q⟩:=h
 obtain ⟨u,rfl,ru⟩:=vals1 r
 cases ru
 obtain ⟨vs,rv,pl,hz⟩:=I.list hp
 have hb:PyProof.Rows.LSm.BoolsAre vs bs:=by
  clear q hp pl hz
  induction bs generalizing vs with
  | nil=>cases rv;exact .nil
  | cons b bs ih =>
   rw[List.map_cons] at rv
   cases rv with
   | cons r1 r2=>cases r1;exact .cons b (ih _ r2)
 have hlt:p < s.heap.objs.size:=by obtain ⟨_,e,_⟩:=pl.isList;exact Heap.lt_size e
 refine call_all_walk (wpAny_pyIter_list pl.isList ?_)
 refine ⟨s.heap.objs.size,[s.heap.objs.size,p],[s.heap.objs.size],vs.toArray.size,_,_,fun i=>(bs[i]?).getD true,rfl,Walks.list (A:=X.A.in1) (I.ok.hd hc) _ p (Nat.ne_of_lt hlt) vs.toArray,
  ⟨⟨_,Heap.get?_push_size _ rfl,rfl,rfl⟩,pl.isList.push _⟩,fun i v s' Q' E' hP hQ=>?_,fun h' tk hk=>?_⟩
 ·obtain ⟨b,e,rfl⟩:=hb.get i v (by simpa using hP)
  simp only[e,Option.getD_some] at hQ
  exact wpAny_truthy_bool hQ
 ·have e:((List.range vs.toArray.size).all fun i=>(bs[i]?).getD true)=bs.all id:=by
   rw[List.size_toArray,hb.length];exact PyProof.Rows.LSm.range_all bs
  rw[e]
  exact ⟨.bl _,H,I.kept (t':=tk) (PyProof.Rows.LSm.kept_iter hk),rfl,q⟩
end
section
variable {K:PySem.W.Frag} {l1 l2:Addr} {xs ws:List V} {g:TG} {tf:TT} {te:TE} {Q:VK} {σ₀:St} {H:Hp}
end
section
variable {X:Cx}
theorem ix_listK (K:PySem.W.Frag) (hK:X.K=K):IxR X (rIxL K):=by subst hK;exact ix_list
theorem pi_listK (K:PySem.W.Frag) {tg l:Expr} {tl:TE} (hl:PE X l tl) (hK:X.K=K:=by rfl):PI X tg l (iList K tl):=by subst hK;exact pi_list hl
end
theorem pa_consE {X:Cx} {e e':Expr} {es:List Expr} {te:TE} {t:TA} (h:e=e') (ha:PE X e' te) (hr:PA X es t) (hs:∀l,starEach (e' :: l) X.env=(false,eval e' X.env) :: starEach l X.env:=by intro _;rfl):PA X (e :: es) (tCons te t):=by subst h;exact pa_cons ha hr (hs _)
section
variable {X:Cx} {pos:Pos}
theorem Inv.big2 {pins:List (Addr×Obj)} {σ:St} {H:Hp} {s:Shared} (I:Inv X pins σ H s):sysModules < s.heap.objs.size:=by
 have h:mainGlobals < s.heap.objs.size:=(I.mod.glob.keeps I.bk).lt
 exact Nat.lt_trans (by decide) h
theorem dk_none {P:Program} {w:World} {H:Hp} (h:Heap) (hb:sysModules < h.objs.size):ObjOk P w H (h.push { cls:=.type "dict",data:=.dict #[] }) h.objs.size (.dK []) :=
 ⟨Nat.zero_le _,beq_eq_false_iff_ne.mpr (Ne.symm (Nat.ne_of_lt hb)),[],.nil,Heap.DictOf.new h⟩
def tDNew:TE:=fun _ H Q=>∀p,H p=none->Q (.ref p) (upd H p (.dK []))
theorem pe_dnew:PE X (.Dict [] [] pos) tDNew:=fun pins s σ H Q I h =>
 wpAny_Dict_empty ⟨.ref s.heap.objs.size,_,I.laid (a:=s.heap.objs.size) (o:=.dK []) (t':=s.toks) (fun _ _ q=>Heap.get?_push_of_some _ q) (Nat.le_refl _) (dk_none s.heap I.big2),rfl,h _ (I.hok.fresh (Nat.le_refl _))⟩
end
section
variable {σ:St} {H:Hp} {D:Ends} {Q:VK}
theorem rd_append {l:Addr} {xs:List V} {y:V} (hl:H l=some (.lst xs)) (hz:xs.length < sizeLine) (h:Q .non (upd H l (.lst (xs++[y])))):rAppend (.ref l) [y] H Q:=⟨l,xs,y,rfl,rfl,hl,hz,h⟩
theorem rd_eqB {i j:Bool} (h:Q (.bl (decide (i=j))) H):rEq (.bl i) (.bl j) H Q:=⟨rfl,by
 have e:decide (V.bl i=V.bl j)=decide (i=j):=by simp
 rw[e];exact h⟩
theorem rd_neB {i j:Bool} (h:Q (.bl (!decide (i=j))) H):rNe (.bl i) (.bl j) H Q:=⟨rfl,by
 have e:decide (V.bl i=V.bl j)=decide (i=j):=by simp
 rw[e];exact h⟩
theorem rd_iZip {K:PySem.W.Frag} {ta:TA} {R:It->Hp->Prop} (h:ta σ H fun vs H1=>∃l1 l2,vs=[.ref l1,.ref l2]∧(∃xs,SqL K H1 l1 xs)∧(∃ys,SqL K H1 l2 ys)∧R (Itz K l1 l2) H1):iZip K ta σ H R:=h
theorem rd_cat {l b:Addr} {xs zs:List V} (h1:H l=some (.lst xs)) (h2:H b=some (.lst zs)) (hz:xs.length+zs.length<=sizeLine) (h:∀p H',Same H H'->H p=none->H' p=some (.lst (xs++zs))->Q (.ref p) H'):rCat (.ref l) (.ref b) H Q :=
 ⟨l,b,xs,zs,rfl,rfl,h1,h2,hz,fun p hp=>h p _ (Same.new hp) hp upd_same⟩
theorem rd_slL {K:PySem.W.Frag} {a:Addr} {xs:List V} {lo hi:Option Int} (h1:SqL K H a xs) (h:∀p H',Same H H'->H p=none->H' p=some (.lst (cutV xs lo hi))->Q (.ref p) H'):rSlL K (.ref a) lo hi H Q :=
 ⟨a,xs,rfl,h1,fun p hp=>h p _ (Same.new hp) hp upd_same⟩
theorem atI_some {α:Type} {xs:List α} {i:Int} (h0:0<=i) (h1:i < xs.length):∃v,atI xs i=some v∧v∈xs∧xs[i.toNat]?=some v:=by
 have hj:i.toNat < xs.length:=by lia
 refine ⟨xs[i.toNat],?_,List.getElem_mem hj,by simp [hj]⟩
 have:=atI_nat (xs:=xs) (j:=i.toNat) (v:=xs[i.toNat]) (by simp [hj])
 rwa [Int.toNat_of_nonneg h0] at this
end
inductive Kn (H:Hp):V->Prop where
 | non:Kn H .non
 | bl (b:Bool):Kn H (.bl b)
 | int (i:Int):Kn H (.int i)
 | str (x:Str):Kn H (.str x)
 | lst {a:Addr} {xs:List V} (e:H a=some (.lst xs)):Kn H (.ref a)
 | tup {a:Addr} {xs:List V} (e:H a=some (.tup xs)):Kn H (.ref a)
 | dic {a:Addr} {kvs:List (Key×V)} (e:H a=some (.dK kvs)):Kn H (.ref a)
theorem Kn.same {H H':Hp} {x:V} (h:Kn H x) (e:Same H H'):Kn H' x:=by
 cases h with
 | non=>exact .non
 | bl b=>exact .bl b
 | int i=>exact .int i
 | str x=>exact .str x
 | lst q=>exact .lst (e _ _ q)
 | tup q=>exact .tup (e _ _ q)
 | dic q=>exact .dic (e _ _ q)
def tyB (T:String) (x:V) (H:Hp):Bool:=match x with
 | .int _=>T == "int"
 | .bl _=>T == "int" || T == "bool"
 | .ref a=>(match H a with
  | some (.lst _)=>T == "list"
  | some (.tup _)=>T == "tuple"
  | _=>false)
 | _=>false
def OkT (T:String):Prop:=T="int"∨T="bool"∨T="list"∨T="tuple"
theorem rd_isT {K:PySem.W.Frag} {H:Hp} {Q:VK} {x:V} {T:String} (h:Kn H x) (hT:OkT T) (q:Q (.bl (tyB T x H)) H):rIsT K T x H Q:=by
 cases h with
 | non=>rcases hT with rfl | rfl | rfl | rfl <;> exact ⟨_,_,.non,rfl,q⟩
 | bl b=>rcases hT with rfl | rfl | rfl | rfl <;> exact ⟨_,_,.bl b,rfl,q⟩
 | int i=>rcases hT with rfl | rfl | rfl | rfl <;> exact ⟨_,_,.int i,rfl,q⟩
 | str x=>rcases hT with rfl | rfl | rfl | rfl <;> exact ⟨_,_,.str x,rfl,q⟩
 | lst e =>
  simp only[tyB,e] at q
  rcases hT with rfl | rfl | rfl | rfl <;> exact ⟨_,_,.lst e,rfl,q⟩
 | tup e =>
  simp only[tyB,e] at q
  rcases hT with rfl | rfl | rfl | rfl <;> exact ⟨_,_,.tup e,rfl,q⟩
 | dic e =>
  simp only[tyB,e] at q
  rcases hT with rfl | rfl | rfl | rfl <;> exact ⟨_,_,.dK e,rfl,q⟩
def wholeB (x:V):Bool:=match x with
 | .int _=>true
 | _=>false
theorem wholeB_ty (x:V) (H:Hp):(tyB "int" x H && !tyB "bool" x H)=wholeB x:=by
 cases x with
 | ref a =>
  show ((match H a with | some (.lst _)=>"int" == "list" | some (.tup _)=>"int" == "tuple" | _=>false) && !(match H a with | some (.lst _)=>"bool" == "list" | some (.tup _)=>"bool" == "tuple" | _=>false))=false
  split <;> simp +decide
 | _=>simp +decide [tyB,wholeB]
def numB (x:V) (H:Hp):Bool:=match x with
 | .ref p=>(match H p with
  | some (.tup [.int a,.int b])=>decide (0 < b∧Int.gcd a b=1)
  | _=>false)
 | _=>false
def Kn2 (H:Hp) (x:V):Prop:=Kn H x∧∀p xs,x=.ref p->H p=some (.tup xs)->∀y∈xs,Kn H y∧∀i,y=.int i->Sz 8999 i
def Kn3 (H:Hp) (x:V):Prop:=Kn2 H x∧∀p xs,x=.ref p->H p=some (.lst xs)->xs.length<=1000∧∀y∈xs,Kn2 H y
theorem Kn.at_same {H H':Hp} {p:Addr} {o:HO} (h:Kn H (.ref p)) (e:Same H H') (q:H' p=some o):H p=some o:=by
 cases h with
 | lst g=>rw[e _ _ g] at q;rw[g,q]
 | tup g=>rw[e _ _ g] at q;rw[g,q]
 | dic g=>rw[e _ _ g] at q;rw[g,q]
theorem Kn2.same {H H':Hp} {x:V} (h:Kn2 H x) (e:Same H H'):Kn2 H' x :=
 ⟨h.1.same e,fun p xs ex q y hy=>by
  subst ex
  obtain ⟨k,z⟩:=h.2 p xs rfl (h.1.at_same e q) y hy
  exact ⟨k.same e,z⟩⟩
theorem Kn3.same {H H':Hp} {x:V} (h:Kn3 H x) (e:Same H H'):Kn3 H' x :=
 ⟨h.1.same e,fun p xs ex q=>by
  subst ex
  obtain ⟨l,k⟩:=h.2 p xs rfl (h.1.1.at_same e q)
  exact ⟨l,fun y hy=>(k y hy).same e⟩⟩
theorem numB_tup {H:Hp} {p:Addr} {a b:Int} (h:H p=some (.tup [.int a,.int b])):numB (.ref p) H=decide (0 < b∧Int.gcd a b=1):=by simp only[numB,h]
theorem numB_no {H:Hp} {p:Addr} {xs:List V} (h:H p=some (.tup xs)) (hn:xs.length≠2∨xs.all wholeB=false):numB (.ref p) H=false:=by
 simp only[numB,h]
 split
 ·rename_i a b e
  cases e
  rcases hn with hn | hn
  ·exact absurd rfl hn
  ·cases hn
 ·rfl
def NumH (H:Hp) (n:Int×Int) (x:V):Prop:=∃r,x=.ref r∧H r=some (.tup [.int n.1,.int n.2])
def RowH (H:Hp) (p:Addr) (ns:List (Int×Int)):Prop:=∃xs,H p=some (.lst xs)∧Paired (NumH H) ns xs
theorem NumH.same {H H':Hp} {n:Int×Int} {x:V} (h:NumH H n x) (e:Same H H'):NumH H' n x:=by obtain ⟨r,q,g⟩:=h;exact ⟨r,q,e _ _ g⟩
theorem RowH.same {H H':Hp} {p:Addr} {ns:List (Int×Int)} (h:RowH H p ns) (e:Same H H'):RowH H' p ns:=by obtain ⟨xs,g,q⟩:=h;exact ⟨xs,e _ _ g,Paired.imp' (fun _ _ z=>z.same e) q⟩
theorem NumH.upto {H H':Hp} {n:Int×Int} {x:V} {b:Addr} (h:NumH H n x) (u:Upto b H H') (B:Bag H b):NumH H' n x:=by obtain ⟨r,q,g⟩:=h;exact ⟨r,q,u.tup B g⟩
theorem RowH.upto {H H':Hp} {p b:Addr} {ns:List (Int×Int)} (h:RowH H p ns) (u:Upto b H H') (B:Bag H b) (n:p≠b):RowH H' p ns:=by obtain ⟨xs,g,q⟩:=h;exact ⟨xs,u.other n g,Paired.imp' (fun _ _ z=>z.upto u B) q⟩
theorem NumH.kind {K:PySem.W.Frag} {H:Hp} {n:Int×Int} {x:V} (h:NumH H n x):NumR K H x n:=by obtain ⟨r,q,g⟩:=h;exact ⟨r,q,SqT.of g⟩
theorem RowH.kind {K:PySem.W.Frag} {H:Hp} {p:Addr} {ns:List (Int×Int)} (h:RowH H p ns):kRow.R K H (.ref p) ns:=by obtain ⟨xs,g,q⟩:=h;exact ⟨p,xs,rfl,SqL.of g,Paired.imp' (fun _ _ z=>z.kind) q⟩
theorem NumH.kn {H:Hp} {n:Int×Int} {x:V} (h:NumH H n x) (s1:Sz 8999 n.1) (s2:Sz 8999 n.2):Kn2 H x:=by
 obtain ⟨r,rfl,g⟩:=h
 refine ⟨.tup g,fun p xs e q y hy=>?_⟩
 cases e
 rw[g] at q
 cases q
 simp only[List.mem_cons,List.not_mem_nil,or_false] at hy
 rcases hy with rfl | rfl
 ·exact ⟨.int _,fun i e=>by cases e;exact s1⟩
 ·exact ⟨.int _,fun i e=>by cases e;exact s2⟩
theorem paired_mem {α β:Type} {F:α->β->Prop}:∀{l1:List α} {l2:List β} {y:β},Paired F l1 l2->y∈l2->∃x∈l1,F x y
 | _,_,_,.nil,h=>nomatch h
 | _,_,_,.cons r t,h=>by
  rcases List.mem_cons.mp h with rfl | h
  ·exact ⟨_,List.mem_cons_self,r⟩
  ·obtain ⟨x,hx,q⟩:=paired_mem t h
   exact ⟨x,List.mem_cons_of_mem _ hx,q⟩
theorem paired_at {α β:Type} {F:α->β->Prop} {l1:List α} {l2:List β} {i:Nat} {y:β} (h:Paired F l1 l2) (e:l2[i]?=some y):∃x,l1[i]?=some x∧F x y:=by
 have hl:=h.length
 have hi:i < l2.length:=(List.getElem?_eq_some_iff.mp e).1
 refine ⟨l1[i]'(by lia),by simp,?_⟩
 have:=paired_get h (i:=i) (by lia) hi
 have e2:l2[i]=y:=(List.getElem?_eq_some_iff.mp e).2
 rwa [e2] at this
def NumOk (n:Int×Int):Prop:=0 < n.2∧Int.gcd n.1 n.2=1∧Sz 8000 n.1∧Sz 8000 n.2
theorem RowH.kn {H:Hp} {p:Addr} {ns:List (Int×Int)} (h:RowH H p ns) (hl:ns.length<=1000) (hn:∀n∈ns,NumOk n):Kn3 H (.ref p):=by
 obtain ⟨xs,g,q⟩:=h
 refine ⟨⟨.lst g,fun p' xs' e q'=>?_⟩,fun p' xs' e q'=>?_⟩
 ·cases e;rw[g] at q';cases q'
 ·cases e
  rw[g] at q'
  cases q'
  refine ⟨by rw[← q.length];exact hl,fun y hy=>?_⟩
  obtain ⟨n,hm,z⟩:=paired_mem q hy
  exact z.kn ((hn n hm).2.2.1.mono (by decide)) ((hn n hm).2.2.2.mono (by decide))
end L2
namespace L2
open PySem PySem.Spec PyProof.Rows Nm
def ar (f:Int->Int->Int->Int->Int) (n m:Int×Int):Int×Int:=(lo (f n.1 n.2 m.1 m.2) (n.2*m.2),hi (f n.1 n.2 m.1 m.2) (n.2*m.2))
theorem N60.ok {n:Int×Int} (h:N60 n.1 n.2):NumOk n:=⟨h.1,h.2.1,h.sa.mono (by decide),h.sb.mono (by decide)⟩
theorem take_snoc {α:Type} {l:List α} {i:Nat} {v:α} (h:l[i]?=some v):l.take (i+1)=l.take i++[v]:=by rw[List.take_add_one,h];rfl
theorem Same.after {H H':Hp} {r:Addr} {o:HO} (s:Same H H') (h:H r=Option.none):Same H (upd H' r o):=fun b u e=>by rw[upd_ne (ne_of_none e h)];exact s b u e
theorem Upto.after {H H':Hp} {b r:Addr} {o:HO} (s:Upto b H H') (h:H r=Option.none):Upto b H (upd H' r o):=⟨fun c u e n=>by rw[upd_ne (ne_of_none e h)];exact s.1 c u e n,fun q hi=>(s.2 q hi).upd fun z=>by obtain ⟨_,_,_,e⟩:=hi;rw[← z,h] at e;cases e⟩
theorem Upto.same {H H' H'':Hp} {b:Addr} (s:Upto b H H') (e:Same H' H''):Upto b H H'':=s.trans e.upto
def sp_whole:Sp:=fun vs H Q _=>∃x,vs=[x]∧Kn H x∧Q (.bl (wholeB x)) H
end L2
namespace L2
open PySem PySem.Spec PyProof.Rows Nm
theorem tup_of {x:V} {H:Hp} (h:tyB "tuple" x H=true):∃p xs,x=.ref p∧H p=some (.tup xs):=by
 cases x with
 | ref a =>
  have h':(match H a with | some (.lst _)=>"tuple" == "list" | some (.tup _)=>"tuple" == "tuple" | _=>false)=true:=h
  split at h'
  ·simp +decide at h'
  ·rename_i xs e;exact ⟨a,xs,rfl,e⟩
  ·cases h'
 | _=>simp +decide [tyB] at h
theorem numB_not {x:V} {H:Hp} (h:¬tyB "tuple" x H=true):numB x H=false:=by
 cases x with
 | ref a =>
  cases e:H a with
  | none=>simp only[numB,e]
  | some o =>
   cases o with
   | tup xs=>exact absurd (by simp +decide [tyB,e]) h
   | _=>simp only[numB,e]
 | _=>rfl
theorem wholeB_int {x:V} (h:wholeB x=true):∃i,x=.int i:=by
 cases x with
 | int i=>exact ⟨i,rfl⟩
 | _=>cases h
theorem two_of {xs:List V} (h:xs.length=2):∃u v,xs=[u,v]:=by
 match xs,h with
 | [u,v],_=>exact ⟨u,v,rfl⟩
end L2
namespace L2
open PySem PySem.Spec PyProof.Rows Nm
theorem NumH.updL {H:Hp} {p:Addr} {xs ys:List V} {n:Int×Int} {x:V} (h:NumH H n x) (hp:H p=some (.lst xs)):NumH (upd H p (.lst ys)) n x:=by
 obtain ⟨r,e,g⟩:=h
 refine ⟨r,e,?_⟩
 rw[upd_ne fun z=>by rw[z,hp] at g;cases g]
 exact g
theorem RowH.updL {H:Hp} {p r:Addr} {xs ys:List V} {ns:List (Int×Int)} (h:RowH H r ns) (hp:H p=some (.lst xs)) (n:r≠p):RowH (upd H p (.lst ys)) r ns:=by
 obtain ⟨zs,g,q⟩:=h
 exact ⟨zs,by rw[upd_ne n];exact g,Paired.imp' (fun _ _ z=>z.updL hp) q⟩
theorem app_all {α:Type} {Pr:α->Prop} {l:List α} {a:α} (h:∀n∈l,Pr n) (ha:Pr a):∀n∈l++[a],Pr n:=fun n hn=>by
 rcases List.mem_append.mp hn with hn | hn
 ·exact h n hn
 ·have e:n=a:=by simpa using hn
  rw[e];exact ha
theorem sm60 {x:Int} (h:x.natAbs<=1000):x.natAbs < 10^60:=Nat.lt_of_le_of_lt h (by decide +kernel)
theorem sz_sm {b:Int} (h2:b.natAbs<=1000):Sz 8999 b:=(lt60 (sm60 h2)).mono (by decide)
theorem Kn3.flat {H:Hp} {x:V} (h:Kn H x) (hr:∀p,x≠.ref p):Kn3 H x:=⟨⟨h,fun p _ e=>absurd e (hr p)⟩,fun p _ e=>absurd e (hr p)⟩
theorem Kn2.tup {H:Hp} {p:Addr} {xs:List V} (g:H p=some (.tup xs)) (h:∀y∈xs,Kn H y∧∀i,y=.int i->Sz 8999 i):Kn2 H (.ref p):=⟨.tup g,fun p' xs' e q=>by cases e;rw[g] at q;cases q;exact h⟩
theorem Kn3.tup {H:Hp} {p:Addr} {xs:List V} (g:H p=some (.tup xs)) (h:∀y∈xs,Kn H y∧∀i,y=.int i->Sz 8999 i):Kn3 H (.ref p):=⟨Kn2.tup g h,fun p' xs' e q=>by cases e;rw[g] at q;cases q⟩
theorem Kn2.lst {H:Hp} {p:Addr} {xs:List V} (g:H p=some (.lst xs)):Kn2 H (.ref p):=⟨.lst g,fun p' xs' e q=>by cases e;rw[g] at q;cases q⟩
theorem Kn3.lst {H:Hp} {p:Addr} {xs:List V} (g:H p=some (.lst xs)) (hl:xs.length<=1000) (h:∀y∈xs,Kn2 H y):Kn3 H (.ref p):=⟨Kn2.lst g,fun p' xs' e q=>by cases e;rw[g] at q;cases q;exact ⟨hl,h⟩⟩
theorem Kn3.dic {H:Hp} {p:Addr} {kvs:List (Key×V)} (g:H p=some (.dK kvs)):Kn3 H (.ref p):=⟨⟨.dic g,fun p' xs' e q=>by cases e;rw[g] at q;cases q⟩,fun p' xs' e q=>by cases e;rw[g] at q;cases q⟩
theorem Kn2.flat {H:Hp} {x:V} (h:Kn H x) (hr:∀p,x≠.ref p):Kn2 H x:=(Kn3.flat h hr).1
theorem Kn.upto {H H':Hp} {x:V} {b:Addr} (h:Kn H x) (u:Upto b H H') (hx:x≠.ref b):Kn H' x:=by
 cases h with
 | non=>exact .non
 | bl b=>exact .bl b
 | int i=>exact .int i
 | str x=>exact .str x
 | lst q=>exact .lst (u.1 _ _ q fun z=>hx (by rw[z]))
 | tup q=>exact .tup (u.1 _ _ q fun z=>hx (by rw[z]))
 | dic q=>exact .dic (u.1 _ _ q fun z=>hx (by rw[z]))
theorem cut_mem {xs:List V} {lo hi:Option Int} {y:V} (h:y∈cutV xs lo hi):y∈xs:=List.mem_of_mem_drop (List.mem_of_mem_take h)
end L2
namespace L2
open PySem PySem.Spec PyProof.Rows Nm
abbrev ZipR (h:Heap) (z TI TO:Addr) (f0 f1:Value):Prop:=h.get? z=some { cls:=.type "zip",dict:=none,data:=.fields #[f0,f1,.bool false,.ref TI,.ref TO],slots:=#[] }
section
variable {prog:Program} {w:World} {A:Around} {E:Value->Shared->Prop} {s:Shared}
end
section
variable {X:Cx} {pins:List (Addr×Obj)} {σ:St} {H:Hp} {s:Shared}
theorem Inv.moved {h':Heap} {ch:List Addr} {g':Array GenState} {d':Drawn} {t':Nat} (I:Inv X pins σ H s) (fx:∀b∈ch,FpOk X pins H b) (up:∀b o,b∉ch->s.heap.get? b=some o->h'.get? b=some o) (hg:AllBare g') :
  Inv X pins σ H { s with heap:=h',gens:=g',drawn:=d',toks:=t' }:=by
 have nx:∀b o,H b=some o->b∉ch:=fun b o e hb=>by have:=(fx b hb).1;rw[this] at e;cases e
 refine I.step (ch:=ch) (fun b hb=>?_) (fun b o _ _ hb e _=>up b o hb e) (fun b o _ _ hb e _=>⟨o.slots,up b o hb e⟩) (fun b o hb e n=>n) (fun b o hb e=>⟨o,up b o hb e⟩) (fun b q e=>e) (fun b o q e=>e) (fun b q e=>⟨#[],by rw[e];simp⟩) (fun m hm=>?_) (fun b o e=>?_) hg
 ·obtain ⟨_,f1,_,f3,f4,f5⟩:=fx b hb
  exact ⟨f3,f1,f4,f5⟩
 ·obtain ⟨o,es,ep,ho,r⟩:=hm
  exact ⟨o,es,ep,up _ o (fun z=>(fx _ z).2.1 rfl) ho,r⟩
 ·refine (I.hok b o e).stay (fun c v' hc q=>up c v' ?_ q) (fun c q=>q) fun c xs q=>q
  rcases hc with rfl | hc
  ·exact nx _ _ e
  ·exact nx _ _ hc
theorem Inv.track {p:Addr} {o:HO} (I:Inv X pins σ H s) (fp:FpOk X pins H p) (new:ObjOk X.prog X.w (upd H p o) s.heap p o):Inv X pins σ (upd H p o) s:=by
 have nt:∀{b:Addr} {u:HO},H b=some u->b≠p:=fun e z=>by rw[z,fp.1] at e;cases e
 refine I.step (h':=s.heap) (g':=s.gens) (d':=s.drawn) (t':=s.toks) (ch:=[p]) (fun b hb=>?_) (fun b o _ _ _ e _=>e) (fun b o _ _ _ e _=>⟨o.slots,e⟩) (fun b o hb e n=>?_) (fun b o _ e=>⟨o,e⟩) (fun b q e=>by rw[upd_ne (nt e)];exact e) (fun b o q e=>by rw[upd_ne (nt e)];exact e)
  (fun b q e=>⟨#[],by rw[upd_ne (nt e),e];simp⟩) (fun m hm=>hm) (fun b u e=>?_) I.bare
 ·have e:b=p:=by simpa using hb
  subst e
  obtain ⟨_,f1,_,f3,f4,f5⟩:=fp
  exact ⟨f3,f1,f4,f5⟩
 ·rw[upd_ne fun z=>hb (by simp [z])];exact n
 ·by_cases hb:b=p
  ·subst hb;rw[upd_same] at e;cases e;exact new
  ·rw[upd_ne hb] at e
   exact (I.hok b u e).stay (fun c v _ q=>q) (fun c q=>by rw[upd_ne (nt q)];exact q) fun c xs q=>by rw[upd_ne (nt q)];exact q
end
def PrR (H:Hp) (p:V×V) (x:V):Prop:=∃T,x=.ref T∧H T=some (.tup [p.1,p.2])
theorem PrR.same {H H':Hp} {p:V×V} {x:V} (h:PrR H p x) (e:Same H H'):PrR H' p x:=by obtain ⟨T,q,g⟩:=h;exact ⟨T,q,e _ _ g⟩
def Zst (h:Heap) (z TI TO:Addr) (base:Nat):Prop:=(∃a b,IsPair h TO a b)∧(IsZip h z TI TO .none∨∃(T:Addr) (b1:Bool) (o:Obj),ZipR h z TI TO (rawInt T) (.bool b1)∧h.get? T=some o∧@LE.le Nat instLENat base T)
section
variable {X:Cx} {pins:List (Addr×Obj)} {σ:St}
theorem FpOk.heap {H H':Hp} {b:Addr} (f:FpOk X pins H b) (e:H' b=none):FpOk X pins H' b:=⟨e,f.2⟩
structure Zad where
 z:Addr
 TI:Addr
 TO:Addr
 i1:Addr
 i2:Addr
 S:Addr
 base:Nat
def Zad.all (a:Zad):List Addr:=[a.z,a.TI,a.TO,a.i1,a.i2,a.S]
structure Zad.Ok (a:Zad):Prop where
 tt:a.TI≠a.TO
 ii:a.i1≠a.i2
 Sz:a.S≠a.z
 STI:a.S≠a.TI
 STO:a.S≠a.TO
 Si1:a.S≠a.i1
 Si2:a.S≠a.i2
 lt:∀b∈a.all,@LT.lt Nat instLTNat b a.base
structure LzI (X:Cx) (pins:List (Addr×Obj)) (σ:St) (H1:Hp) (a:Zad) (l1 l2:Addr) (i:Nat) (H:Hp) (s:Shared):Prop where
 inv:Inv X pins σ H s
 same:Same H1 H
 fps:∀b∈a.all,FpOk X pins H b
 sz:a.base<=s.heap.objs.size
 zst:Zst s.heap a.z a.TI a.TO a.base
 pt:IsPair s.heap a.TI (.ref a.i1) (.ref a.i2)
 j1:s.heap.IsListIter a.i1 l1 i
 j2:s.heap.IsListIter a.i2 l2 i
variable {a:Zad} {l1 l2:Addr} {H1 H:Hp} {s:Shared} {i:Nat} {xs ys:List V}
theorem LzI.push {h':Heap} (L:LzI X pins σ H1 a l1 l2 i H s) (O:a.Ok) (k:∀b o,b≠a.S->s.heap.get? b=some o->h'.get? b=some o) (hz:h'.objs.size=s.heap.objs.size):LzI X pins σ H1 a l1 l2 i H { s with heap:=h' }:=by
 refine ⟨L.inv.moved (g':=s.gens) (d':=s.drawn) (t':=s.toks) (ch:=[a.S]) (fun b hb=>?_) (fun b o hb e=>k b o (fun z=>hb (by simp [z])) e) L.inv.bare,L.same,L.fps,by show a.base<=h'.objs.size;rw[hz];exact L.sz,?_,k _ _ O.STI.symm L.pt,L.j1.at fun o e=>k _ o O.Si1.symm e,L.j2.at fun o e=>k _ o O.Si2.symm e⟩
 ·have e:b=a.S:=by simpa using hb
  rw[e];exact L.fps _ (by simp [Zad.all])
 ·obtain ⟨⟨c,d,z0⟩,z4⟩:=L.zst
  refine ⟨⟨c,d,k _ _ O.STO.symm z0⟩,?_⟩
  rcases z4 with z1 | ⟨T,b1,o,z1,z2,z3⟩
  ·exact .inl (k _ _ O.Sz.symm z1)
  ·refine .inr ⟨T,b1,o,k _ _ O.Sz.symm z1,k _ _ (fun e=>?_) z2,z3⟩
   have:=O.lt a.S (by simp [Zad.all])
   rw[← e] at this
   exact absurd this (Nat.not_lt.mpr z3)
end
section
variable {X:Cx}
def tListZip (K:PySem.W.Frag) (ta:TA):TE:=fun σ H Q=>ta σ H fun vs H1=>∃(l1 l2:Addr) (xs ys:List V),vs=[.ref l1,.ref l2]∧SqL K H1 l1 xs∧SqL K H1 l2 ys∧ys.length=xs.length ∧
 ∀L ts H',Same H1 H'->H1 L=none->H' L=some (.lst ts)->Paired (PrR H') (xs.zip ys) ts->Q (.ref L) H'
end
end L2
namespace Nm
def lcmL:List Int->Int->Int
 | [],m=>m
 | b :: r,m=>lcmL r (m*(b / g m b))
end Nm
namespace L2
open PySem PySem.Spec PyProof.Rows Nm
def RowK (K:PySem.W.Frag) (H:Hp) (p:Addr) (ns:List (Int×Int)):Prop:=∃xs,H p=some (.lst xs)∧Paired (fun n x=>NumR K H x n) ns xs
theorem RowK.same {K:PySem.W.Frag} {H H':Hp} {p:Addr} {ns:List (Int×Int)} (h:RowK K H p ns) (e:Same H H'):RowK K H' p ns:=by obtain ⟨xs,g,q⟩:=h;exact ⟨xs,e _ _ g,Paired.imp' (fun _ _ z=>e.num z) q⟩
theorem RowH.rowK {K:PySem.W.Frag} {H:Hp} {p:Addr} {ns:List (Int×Int)} (h:RowH H p ns):RowK K H p ns:=by obtain ⟨xs,g,q⟩:=h;exact ⟨xs,g,Paired.imp' (fun _ _ z=>z.kind) q⟩
theorem RowK.kind {K:PySem.W.Frag} {H:Hp} {p:Addr} {ns:List (Int×Int)} (h:RowK K H p ns):kRow.R K H (.ref p) ns:=by obtain ⟨xs,g,q⟩:=h;exact ⟨p,xs,rfl,SqL.of g,q⟩
def rIsTK (K:PySem.W.Frag) (T:String):V->Hp->VK->Prop:=fun x H Q=>rIsT K T x H Q∨∃a xs b,x=.ref a∧SqT K H a xs∧PySem.W.kitOne K (.type "tuple") (.type T)=some b∧Q (.bl b) H
def topsL (ns:List (Int×Int)) (B:Int):List Int:=ns.map fun n=>n.1*(B / n.2)
def botL (ns:List (Int×Int)):Int:=lcmL (ns.map (·.2)) 1
def dotL (ns ms:List (Int×Int)):Int:=(List.zipWith (·*·) (topsL ns (botL ns)) (topsL ms (botL ms))).sum
def RowSz (k:Nat) (ns:List (Int×Int)):Prop:=(∀n∈ns,0 < n.2∧Sz k n.1∧Sz k n.2)∧1+k*ns.length<=4400
inductive sp_cm (K:PySem.W.Frag) (vs:List V) (H:Hp) (Q:VK) (E9:XK):Prop
 | mk (p:Addr) (bs:List Int) (k:Nat):vs=[.ref p]->SqL K H p (bs.map V.int)->((∀b∈bs,0 < b∧Sz k b))->1+k*bs.length<=4400->Q (.int (lcmL bs 1)) H->sp_cm K vs H Q E9
inductive sp_cb (K:PySem.W.Frag) (vs:List V) (H:Hp) (Q:VK) (E9:XK):Prop
 | mk (p:Addr) (ns:List (Int×Int)) (k:Nat):vs=[.ref p]->RowK K H p ns->ns.length<=1000->RowSz k ns->(∀H',Same H H'->Q (.int (botL ns)) H')->sp_cb K vs H Q E9
inductive sp_tops (K:PySem.W.Frag) (vs:List V) (H:Hp) (Q:VK) (E9:XK):Prop
 | mk (p:Addr) (ns:List (Int×Int)) (k:Nat) (B:Int):vs=[.ref p,.int B]->RowK K H p ns->ns.length<=1000->RowSz k ns->0 < B->Sz 4400 B->(∀r H',H r=none->Same H H'->H' r=some (.lst ((topsL ns B).map V.int))->Q (.ref r) H')->sp_tops K vs H Q E9
inductive sp_dot (K:PySem.W.Frag) (vs:List V) (H:Hp) (Q:VK) (E9:XK):Prop
 | mk (p q:Addr) (ns ms:List (Int×Int)) (k:Nat):vs=[.ref p,.ref q]->RowK K H p ns->RowK K H q ms->ms.length=ns.length->ns.length<=1000->RowSz k ns->RowSz k ms->(∀r H',Same H H'->H' r=some (.tup [.int (lo (dotL ns ms) (botL ns*botL ms)),.int (hi (dotL ns ms) (botL ns*botL ms))])->Q (.ref r) H')->sp_dot K vs H Q E9
theorem rd_listZip {σ:St} {H:Hp} {Q:VK} {K:PySem.W.Frag} {ta:TA} (h:ta σ H fun vs H1=>∃(l1 l2:Addr) (xs ys:List V),vs=[.ref l1,.ref l2]∧SqL K H1 l1 xs∧SqL K H1 l2 ys∧ys.length=xs.length ∧
 ∀L ts H',Same H1 H'->H1 L=none->H' L=some (.lst ts)->Paired (PrR H') (xs.zip ys) ts->Q (.ref L) H'):tListZip K ta σ H Q:=h
def unitV (a0 a1:Addr) (at':Int) (m:Nat):List V:=(List.range m).map fun (i:Nat)=>if ((i:Nat):Int)=at' then V.ref a1 else V.ref a0
def allN (ns:List (Int×Int)):Bool:=ns.all fun n=>decide (n=(0,1))
inductive sp_isn (K:PySem.W.Frag) (vs:List V) (H:Hp) (Q:VK) (E9:XK):Prop
 | mk (p:Addr) (ns:List (Int×Int)):vs=[.ref p]->RowK K H p ns->ns.length<=1000->(∀H',Same H H'->Q (.bl (allN ns)) H')->sp_isn K vs H Q E9
def sp_isnumK (K:PySem.W.Frag):Sp:=fun vs H Q _=>∃x n,vs=[x]∧NumR K H x n∧NumOk n∧∀H',Same H H'->Q (.bl true) H'
inductive sp_isrowK (K:PySem.W.Frag) (vs:List V) (H:Hp) (Q:VK) (E9:XK):Prop
 | mk (p:Addr) (ns:List (Int×Int)):vs=[.ref p,.int ns.length]->RowK K H p ns->ns.length<=1000->(∀n∈ns,NumOk n)->(∀H',Same H H'->Q (.bl true) H')->sp_isrowK K vs H Q E9
theorem pe_isTK {X:Cx} {a:Expr} {ta:TE} {pos:Pos} {c:Str} {T:String} {p p2:Pos} (hg:Gl X "isinstance") (hm:X.mg "isinstance"=none) (hb:bootBuiltins c=some (.type T)) (hmc:X.mg c=none) (ha:PE X a ta) (hgc:Gl X c:=by rfl) (hn:c≠"__name__":=by decide)
  (hd:(c == ("__debug__":Str))=false:=by decide) (he:starEach [a,.Name c p2] X.env=[(false,eval a X.env),(false,eval (.Name c p2) X.env)]:=by rfl)
  (hpl:(backTo pos (starEach [.Name c p2] X.env)).any (·.1)=false:=by rfl) (he2:starEach [.Name c p2] X.env=[(false,eval (.Name c p2) X.env)]:=by rfl):PE X (.Call (.Name "isinstance" p) [a,.Name c p2] [] pos) (tUn (rIsTK X.K T) ta):=by
 intro pins s σ H Q I h
 refine wpAny_Call_Name_kw (ld_blt I hg hm PyProof.Rows.boot_isinstance ?_)
 have hA:PA X [a,.Name c p2] (tCons ta (tCons (tC (.ty T)) tNil)):=pa_cons ha (pa_cons (pe_bltn hgc hmc hb rfl hn hd) pa_nil he2) (by rw[he,he2])
 have hq:tCons ta (tCons (tC (.ty T)) tNil) σ H (fun vs H1=>∃x,vs=[x,.ty T]∧rIsTK X.K T x H1 Q):=by
  show ta σ H fun x H1=>∃x',[x,V.ty T]=[x',V.ty T]∧rIsTK X.K T x' H1 Q
  have e:(fun x H1=>∃x',[x,V.ty T]=[x',V.ty T]∧rIsTK X.K T x' H1 Q)=fun x H1=>rIsTK X.K T x H1 Q:=by
   funext x H1
   apply propext
   constructor
   ·rintro ⟨x',e,q⟩;cases e;exact q
   ·intro q;exact ⟨x,rfl,q⟩
  rw[e]
  exact h
 refine PyProof.Rows.callWith_builtin1 (thn (hA pos pins s σ H _ I hq) fun us s1 ⟨vs,H1,I1,r1,x,e,q1⟩=>?_) (by rw[he,he2]) hpl
 subst e
 obtain ⟨u,w',rfl,ru,rt⟩:=vals2 r1
 cases rt
 rcases q1 with ⟨t,bb,ty,ek,q⟩ | ⟨ad,xs,bb,rfl,hs,ek,q⟩
 ·exact isinst_ok I1 ru ty ek fun tk=>⟨.bl bb,H1,I1.tok tk,rfl,q⟩
 ·cases ru
  obtain ⟨its,_,⟨o,g1,g2,_⟩,_⟩:=I1.tuple hs
  exact PySem.W.kia_one PySem.W.kitx_tuple I1.kIn ⟨o,g1,g2⟩ ek (fun z=>nomatch z) fun tk=>⟨.bl bb,H1,I1.tok tk,rfl,q⟩
inductive sp_due (K:PySem.W.Frag) (vs:List V) (H:Hp) (Q:VK) (E9:XK):Prop
 | mk (p q:Addr) (ns ms:List (Int×Int)) (k:Nat):vs=[.ref p,.ref q]->RowH H p ns->RowH H q ms->ms.length=ns.length->ns.length<=1000->RowSz k ns->RowSz k ms->(2*k+2)*ns.length+2<=4000->(∀r x y H',Same H H'->H' r=some (.tup [.int x,.int y])->0 < y->Int.gcd x y=1->Sz 4000 x->Sz 4000 y->x*(botL ns*botL ms)=dotL ns ms*y->Q (.ref r) H')->sp_due K vs H Q E9
end L2
namespace L2
open PySem PySem.Spec PyProof.Rows Nm
theorem rd_rep {H:Hp} {Q:VK} {l:Addr} {k:Nat} {x:V} (h:H l=some (.lst [x])) (hk:k<=1000) (q:∀p H',Same H H'->H p=none->H' p=some (.lst (List.replicate k x))->Q (.ref p) H'):rRep (.ref l) (.int k) H Q :=
 ⟨l,k,[x],rfl,rfl,h,by lia,by lia,Nat.le_of_lt (small1000 (by simp;lia)),fun p hp=>q p _ (Same.new hp) hp (by rw[upd_same];simp)⟩
theorem ixN_nat {n a:Nat} (h:a < n):ixN n (a:Int)=some a:=by
 unfold ixN
 rw[if_pos (by lia),if_pos (by lia),Int.toNat_natCast]
inductive sp_unitsL (K:PySem.W.Frag) (vs:List V) (H:Hp) (Q:VK) (E9:XK):Prop
 | mk (m a:Nat):vs=[.int m,.int a]->m<=48->a<=m->(∀H',Same H H'->Q (.bl true) H')->sp_unitsL K vs H Q E9
end L2
namespace L2
open PySem PySem.Spec PyProof.Rows Nm
def rListOf (K:PySem.W.Frag):List V->Hp->VK->Prop:=fun xs H Q=>∃p ys,xs=[.ref p]∧(SqL K H p ys∨SqT K H p ys)∧∀l,H l=none->Q (.ref l) (upd H l (.lst ys))
theorem call_list_ofK {X:Cx} (K:PySem.W.Frag) (hK:X.K=K):CallR X (.type "list") (rListOf K):=by subst hK;exact call_list_of
theorem Same.none {H H':Hp} {l:Addr} (s:Same H H') (h:H' l=Option.none):H l=Option.none:=by
 cases e:H l with
 | none=>rfl
 | some o=>have:=s _ _ e;rw[h] at this;cases this
def GridK (K:PySem.W.Frag) (H:Hp) (p:Addr) (rows:List (List (Int×Int))):Prop:=∃xs,H p=some (.lst xs)∧Paired (fun ns x=>∃q,x=V.ref q∧RowK K H q ns) rows xs
theorem GridK.same {K:PySem.W.Frag} {H H':Hp} {p:Addr} {rows:List (List (Int×Int))} (h:GridK K H p rows) (e:Same H H'):GridK K H' p rows:=by obtain ⟨xs,g,q⟩:=h;exact ⟨xs,e _ _ g,Paired.imp' (fun _ _ ⟨q,a,b⟩=>⟨q,a,b.same e⟩) q⟩
def dotN (ns ms:List (Int×Int)):Int×Int:=(lo (dotL ns ms) (botL ns*botL ms),hi (dotL ns ms) (botL ns*botL ms))
inductive sp_gridon (K:PySem.W.Frag) (vs:List V) (H:Hp) (Q:VK) (E9:XK):Prop
 | mk (p q:Addr) (rows:List (List (Int×Int))) (ms:List (Int×Int)) (k:Nat):vs=[.ref p,.ref q]->GridK K H p rows->RowK K H q ms->rows.length<=1000->ms.length<=1000->((∀ns∈rows,ns.length=ms.length∧RowSz k ns))->RowSz k ms->(∀r H',H r=none->Same H H'->RowH H' r (rows.map fun ns=>dotN ns ms)->Q (.ref r) H')->sp_gridon K vs H Q E9
def UGrid (a0 a1:Addr) (m:Nat) (H0 H:Hp) (i:Nat) (xs:List V):Prop:=Paired (fun (j:Nat) x=>∃q,x=V.ref q∧H0 q=none∧H q=some (.lst (unitV a0 a1 j m))) (List.range i) xs
theorem UGrid.same {a0 a1:Addr} {m:Nat} {H0 H H':Hp} {i:Nat} {xs:List V} (h:UGrid a0 a1 m H0 H i xs) (e:Same H H'):UGrid a0 a1 m H0 H' i xs:=Paired.imp' (fun _ _ ⟨q,a,b,c⟩=>⟨q,a,b,e _ _ c⟩) h
def Mil (n:Int×Int):Prop:=0 < n.2∧Int.gcd n.1 n.2=1∧n.1.natAbs<=1000000∧n.2.natAbs<=1000000
theorem sz_mil {b:Int} (h:b.natAbs<=1000000):Sz 20 b:=Nat.lt_of_le_of_lt h (by decide)
inductive sp_number21 (vs:List V) (H:Hp) (Q:VK) (E9:XK):Prop
 | mk (b:Addr) (w:Int):vs=[.ref b,.int w]->Bag H b->1<=w->w<=1000000->(∀r (n:Int×Int) H',Mil n->H' r=some (.tup [.int n.1,.int n.2])->Bag H' b->Upto b H H'->Q (.ref r) H')->sp_number21  vs H Q E9
theorem Upto.none {H H':Hp} {b l:Addr} (u:Upto b H H') (B:Bag H' b) (h:H' l=Option.none):H l=Option.none:=by
 cases e:H l with
 | none=>rfl
 | some o =>
  by_cases z:l=b
  ·obtain ⟨_,_,_,_,_,e2,_⟩:=B
   rw[← z,h] at e2
   cases e2
  ·have:=u.1 l o e z
   rw[h] at this
   cases this
inductive sp_row21 (vs:List V) (H:Hp) (Q:VK) (E9:XK):Prop
 | mk (b:Addr) (m:Nat) (w:Int):vs=[.ref b,.int m,.int w]->Bag H b->m<=1000->1<=w->w<=1000000->(∀r (ns:List (Int×Int)) H',H r=none->RowH H' r ns->ns.length=m->(∀n∈ns,Mil n)->Bag H' b->Upto b H H'->Q (.ref r) H')->sp_row21  vs H Q E9
inductive sp_isgridK (K:PySem.W.Frag) (vs:List V) (H:Hp) (Q:VK) (E9:XK):Prop
 | mk (p:Addr) (rows:List (List (Int×Int))) (m:Nat):vs=[.ref p,.int rows.length,.int m]->GridK K H p rows->rows.length<=1000->m<=1000->((∀ns∈rows,ns.length=m∧∀n∈ns,NumOk n))->(∀H',Same H H'->Q (.bl true) H')->sp_isgridK K vs H Q E9
def GridH (H:Hp) (p:Addr) (rows:List (List (Int×Int))):Prop:=∃xs,H p=some (.lst xs)∧Paired (fun ns x=>∃q,x=V.ref q∧RowH H q ns) rows xs
theorem GridH.same {H H':Hp} {p:Addr} {rows:List (List (Int×Int))} (h:GridH H p rows) (e:Same H H'):GridH H' p rows:=by obtain ⟨xs,g,q⟩:=h;exact ⟨xs,e _ _ g,Paired.imp' (fun _ _ ⟨q,a,b⟩=>⟨q,a,b.same e⟩) q⟩
theorem GridH.gridK {K:PySem.W.Frag} {H:Hp} {p:Addr} {rows:List (List (Int×Int))} (h:GridH H p rows):GridK K H p rows:=by obtain ⟨xs,g,q⟩:=h;exact ⟨xs,g,Paired.imp' (fun _ _ ⟨q,a,b⟩=>⟨q,a,b.rowK⟩) q⟩
inductive sp_copied (vs:List V) (H:Hp) (Q:VK) (E9:XK):Prop
 | mk (p:Addr) (rows:List (List (Int×Int))):vs=[.ref p]->GridH H p rows->rows.length<=1000->(∀ns∈rows,ns.length<=1000)->(∀r H',H r=none->Same H H'->GridH H' r rows->Q (.ref r) H')->sp_copied  vs H Q E9
end L2
namespace Nm
def nm (q:Rat):Int×Int:=(q.num,(q.den:Int))
theorem nm_pos (q:Rat):0 < (nm q).2:=by have:=q.den_pos;show 0 < (q.den:Int);lia
theorem nm_gcd (q:Rat):Int.gcd (nm q).1 (nm q).2=1:=q.reduced
theorem nm_inj {p q:Rat} (h:nm p=nm q):p=q:=by
 have h1:p.num=q.num:=congrArg Prod.fst h
 have h2:(p.den:Int)=q.den:=congrArg Prod.snd h
 exact Rat.ext h1 (by lia)
theorem num_val (q:Rat):(q.num:Rat)=q*(q.den:Rat):=by
 have h:=Rat.num_divInt_den q
 rw[Rat.divInt_eq_div] at h
 have hd:((q.den:Int):Rat)≠0:=by
  intro z
  have z:=Rat.intCast_eq_zero_iff.mp z
  have:=q.den_pos
  lia
 have e:((q.den:Int):Rat)=(q.den:Rat):=Rat.intCast_natCast _
 calc (q.num:Rat)=(q.num:Rat) / ((q.den:Int):Rat)*((q.den:Int):Rat):=(Rat.div_mul_cancel hd).symm
  _=q*(q.den:Rat):=by rw[h,e]
theorem nm_of {a b:Int} {q:Rat} (hb:0 < b) (hg:Int.gcd a b=1) (e:q*(b:Rat)=(a:Rat)):(a,b)=nm q:=by
 have h1:a*(q.den:Int)=q.num*b:=by
  apply Rat.intCast_inj.mp
  rw[Rat.intCast_mul,Rat.intCast_mul,← e,num_val,Rat.intCast_natCast]
  grind
 obtain ⟨e1,e2⟩:=uniq hb (nm_pos q) hg (nm_gcd q) h1
 exact Prod.ext e1 e2
theorem lohi_nm {t b:Int} {q:Rat} (hb:0 < b) (e:q*(b:Rat)=(t:Rat)):(lo t b,hi t b)=nm q:=by
 refine nm_of (hi_pos hb) (lohi_gcd (by lia)) ?_
 have h:=lohi_cross t b
 have hb':(b:Rat)≠0:=fun z=>by have:=Rat.intCast_eq_zero_iff.mp z;lia
 have h2:((lo t b:Int):Rat)*(b:Rat)=(t:Rat)*((hi t b:Int):Rat):=by rw[← Rat.intCast_mul,h,Rat.intCast_mul]
 rw[← e] at h2
 have h3:(q*((hi t b:Int):Rat) - ((lo t b:Int):Rat))*(b:Rat)=0:=by grind
 rcases Rat.mul_eq_zero.mp h3 with h4 | h4
 ·grind
 ·exact absurd h4 hb'
theorem nm0:nm 0=(0,1):=rfl
def Fr (M V:Nat) (q:Rat):Prop:=∃z:Int,q*(M:Rat)=(z:Rat)∧z.natAbs<=V*M
theorem Fr.mono {M V V':Nat} {q:Rat} (h:Fr M V q) (l:V<=V'):Fr M V' q:=by obtain ⟨z,e,b⟩:=h;exact ⟨z,e,Nat.le_trans b (Nat.mul_le_mul_right _ l)⟩
theorem Fr.scale {M V:Nat} {q:Rat} (h:Fr M V q) (k:Nat):Fr (M*k) V q:=by
 obtain ⟨z,e,b⟩:=h
 refine ⟨z*k,?_,?_⟩
 ·rw[Rat.natCast_mul,Rat.intCast_mul,← e,Rat.intCast_natCast,Rat.mul_assoc]
 ·rw[Int.natAbs_mul,Int.natAbs_natCast,← Nat.mul_assoc]
  exact Nat.mul_le_mul_right _ b
theorem Fr.scaleL {M V:Nat} {q:Rat} (h:Fr M V q) (k:Nat):Fr (k*M) V q:=by rw[Nat.mul_comm];exact h.scale k
theorem Fr.dvd {M N V:Nat} {q:Rat} (h:Fr M V q) (d:M∣N):Fr N V q:=by obtain ⟨k,rfl⟩:=d;exact h.scale k
theorem Fr.add {M V W:Nat} {p q:Rat} (h:Fr M V p) (h':Fr M W q):Fr M (V+W) (p+q):=by
 obtain ⟨z,e,b⟩:=h
 obtain ⟨z',e',b'⟩:=h'
 refine ⟨z+z',by rw[Rat.intCast_add,← e,← e',Rat.add_mul],?_⟩
 rw[Nat.add_mul]
 have:=Int.natAbs_add_le z z'
 lia
theorem Fr.neg {M V:Nat} {q:Rat} (h:Fr M V q):Fr M V (-q):=by
 obtain ⟨z,e,b⟩:=h
 exact ⟨-z,by rw[Rat.intCast_neg,← e,Rat.neg_mul],by rw[Int.natAbs_neg];exact b⟩
theorem Fr.sub {M V W:Nat} {p q:Rat} (h:Fr M V p) (h':Fr M W q):Fr M (V+W) (p - q):=by rw[Rat.sub_eq_add_neg];exact h.add h'.neg
theorem Fr.mul {M N V W:Nat} {p q:Rat} (h:Fr M V p) (h':Fr N W q):Fr (M*N) (V*W) (p*q):=by
 obtain ⟨z,e,b⟩:=h
 obtain ⟨z',e',b'⟩:=h'
 refine ⟨z*z',?_,?_⟩
 ·rw[Rat.natCast_mul,Rat.intCast_mul,← e,← e'];grind
 ·rw[Int.natAbs_mul]
  calc z.natAbs*z'.natAbs<=(V*M)*(W*N):=Nat.mul_le_mul b b'
   _=V*W*(M*N):=by rw[Nat.mul_assoc,Nat.mul_left_comm M,← Nat.mul_assoc]
theorem Fr.zero {M V:Nat}:Fr M V 0:=⟨0,by simp,by simp⟩
theorem Fr.int {M V:Nat} {i:Int} (h:i.natAbs<=V):Fr M V (i:Rat):=⟨i*M,by rw[Rat.intCast_mul,Rat.intCast_natCast],by rw[Int.natAbs_mul,Int.natAbs_natCast];exact Nat.mul_le_mul_right _ h⟩
theorem Fr.one {M V:Nat} (h:1<=V):Fr M V 1:=Fr.int (i:=1) h
theorem Fr.den {M V:Nat} {q:Rat} (h:Fr M V q):(q.den:Int)∣(M:Int):=by
 obtain ⟨z,e,b⟩:=h
 have h1:q.num*(M:Int)=z*(q.den:Int):=by
  apply Rat.intCast_inj.mp
  rw[Rat.intCast_mul,Rat.intCast_mul,← e,num_val,Rat.intCast_natCast,Rat.intCast_natCast]
  grind
 have h2:(q.den:Int)∣q.num*(M:Int):=⟨z,by rw[h1,Int.mul_comm]⟩
 exact dvd_of_cop (by rw[Int.gcd_comm];exact nm_gcd q) h2
theorem Fr.den_le {M V:Nat} {q:Rat} (h:Fr M V q) (hM:0 < M):q.den<=M:=Nat.le_of_dvd hM (Int.natCast_dvd_natCast.mp h.den)
theorem Fr.num_le {M V:Nat} {q:Rat} (h:Fr M V q) (hM:0 < M):q.num.natAbs<=V*M:=by
 have hd:=h.den
 obtain ⟨z,e,b⟩:=h
 obtain ⟨k,hk⟩:=Int.natCast_dvd_natCast.mp hd
 have hk0:k≠0:=fun z=>by rw[z,Nat.mul_zero] at hk;lia
 have h1:z=q.num*(k:Int):=by
  apply Rat.intCast_inj.mp
  rw[Rat.intCast_mul,← e,num_val,Rat.intCast_natCast,hk,Rat.natCast_mul]
  grind
 rw[h1] at b
 exact Nat.le_trans (natAbs_mul_le (by lia)) b
theorem Fr.own (q:Rat) {V:Nat} (h:q.num.natAbs<=V):Fr q.den V q:=⟨q.num,(num_val q).symm,Nat.le_trans h (Nat.le_mul_of_pos_right _ q.den_pos)⟩
theorem Fr.sz {M V k j:Nat} {q:Rat} (h:Fr M V q) (hM:0 < M) (h1:M<=2^k) (h2:V<=2^j):Sz (j+k+1) (nm q).1∧Sz (k+1) (nm q).2:=by
 constructor
 ·show q.num.natAbs < 2^(j+k+1)
  have h3:=h.num_le hM
  have h4:V*M<=2^j*2^k:=Nat.mul_le_mul h2 h1
  rw[Nat.pow_succ,Nat.pow_add]
  have:=Nat.two_pow_pos (j+k)
  rw[Nat.pow_add] at this
  lia
 ·show (q.den:Int).natAbs < 2^(k+1)
  have h3:=h.den_le hM
  rw[Int.natAbs_natCast,Nat.pow_succ]
  have:=Nat.two_pow_pos k
  lia
theorem Fr.sum {M V:Nat}:∀{l:List Rat},(∀x∈l,Fr M V x)->Fr M (l.length*V) l.sum
 | [],_=>by simp;exact Fr.zero
 | x :: r,h=>by
  rw[List.sum_cons,List.length_cons,Nat.succ_mul,Nat.add_comm]
  exact (h x (.head _)).add (Fr.sum fun y hy=>h y (.tail _ hy))
def dotQ (xs ys:List Rat):Rat:=(List.zipWith (·*·) xs ys).sum
theorem Fr.dot {M N V W : Nat} {xs ys : List Rat} (h : ∀ x ∈ xs, Fr M V x) (h' : ∀ y ∈ ys, Fr N W y) : Fr (M * N) (xs.length * (V * W)) (dotQ xs ys) := by
  have q := Fr.sum (M := M * N) (V := V * W) (l := List.zipWith (· * ·) xs ys) fun z hz => by
    obtain ⟨i, hi, e⟩ := List.getElem_of_mem hz
    rw [List.getElem_zipWith] at e
    rw [← e]
    exact (h _ (List.getElem_mem _)).mul (h' _ (List.getElem_mem _))
  exact q.mono (Nat.mul_le_mul_right _ (by rw [List.length_zipWith]; lia))
end Nm
namespace Nm
def Dr (W:Nat) (x:Rat):Prop:=x.num.natAbs<=W∧x.den<=W
def prodN:List Nat->Nat
 | []=>1
 | a :: r=>a*prodN r
theorem prodN_pos:∀{l:List Nat},(∀a∈l,0 < a)->0 < prodN l
 | [],_=>Nat.one_pos
 | a :: r,h=>Nat.mul_pos (h a (.head _)) (prodN_pos fun b hb=>h b (.tail _ hb))
theorem prodN_dvd:∀{l:List Nat} {a:Nat},a∈l->a∣prodN l
 | b :: r,a,h=>by
  rcases List.mem_cons.mp h with rfl | h
  ·exact Nat.dvd_mul_right ..
  ·exact Nat.dvd_trans (prodN_dvd h) (Nat.dvd_mul_left ..)
theorem prodN_le {k:Nat}:∀{l:List Nat},(∀a∈l,a<=2^k)->prodN l<=2^(k*l.length)
 | [],_=>by simp [prodN]
 | a :: r,h=>by
  rw[List.length_cons,Nat.mul_succ,Nat.pow_add,Nat.mul_comm (2^(k*r.length))]
  exact Nat.mul_le_mul (h a (.head _)) (prodN_le fun b hb=>h b (.tail _ hb))
def GF (M V:Nat) (rows:List (List Rat)):Prop:=∀xs∈rows,∀x∈xs,Fr M V x
def turnQ (rows:List (List Rat)) (w:Nat):List (List Rat):=(List.range w).map fun j=>rows.map fun xs=>xs.getD j 0
def timesQ (one other:List (List Rat)) (w:Nat):List (List Rat):=one.map fun xs=>(turnQ other w).map fun ys=>dotQ ys xs
theorem turnQ_len {rows:List (List Rat)} {w:Nat}:(turnQ rows w).length=w:=by simp [turnQ]
theorem turnQ_row {rows:List (List Rat)} {w:Nat}:∀ys∈turnQ rows w,ys.length=rows.length:=fun ys hy=>by
 obtain ⟨j,_,rfl⟩:=List.mem_map.mp hy
 exact List.length_map ..
end Nm
namespace L2
open PySem PySem.Spec PyProof.Rows Nm
theorem Upto.sqt {K:PySem.W.Frag} {H H':Hp} {b a:Addr} {xs:List V} (u:Upto b H H') (B:Bag H b) (h:SqT K H a xs):SqT K H' a xs:=by
 rcases h with (h | ⟨o,h⟩) | h
 ·exact .inl (.inl (u.tup B h))
 ·exact .inl (.inr ⟨o,u.other (fun z=>by obtain ⟨_,_,_,_,_,e,_⟩:=B;rw[z,e] at h;cases h) h⟩)
 ·exact .inr h
theorem sqt_updL {K:PySem.W.Frag} {H:Hp} {a l:Addr} {xs ys:List V} {o:HO} (h:SqT K H a xs) (hl:H l=some (.lst ys)):SqT K (upd H l o) a xs:=by
 rcases h with (h | ⟨o,h⟩) | h
 ·exact .inl (.inl (by rw[upd_ne fun z=>by rw[z,hl] at h;cases h];exact h))
 ·exact .inl (.inr ⟨o,by rw[upd_ne fun z=>by rw[z,hl] at h;cases h];exact h⟩)
 ·exact .inr h
def NumQ (K:PySem.W.Frag) (H:Hp) (q:Rat) (x:V):Prop:=NumR K H x (nm q)
section
variable {K:PySem.W.Frag} {H H':Hp} {q:Rat} {x:V} {b l p:Addr} {qs:List Rat}
theorem NumQ.same (h:NumQ K H q x) (e:Same H H'):NumQ K H' q x:=e.num h
theorem NumQ.upto (h:NumQ K H q x) (u:Upto b H H') (B:Bag H b):NumQ K H' q x:=by obtain ⟨p,e,s⟩:=h;exact ⟨p,e,u.sqt B s⟩
theorem NumQ.updL {ys:List V} {o:HO} (h:NumQ K H q x) (hl:H l=some (.lst ys)):NumQ K (upd H l o) q x:=by obtain ⟨p,e,s⟩:=h;exact ⟨p,e,sqt_updL s hl⟩
theorem NumQ.mk {r:Addr} {a c:Int} (h:H r=some (.tup [.int a,.int c])) (e:(a,c)=nm q):NumQ K H q (.ref r):=⟨r,rfl,by rw[← e];exact SqT.of h⟩
def RowQ (K:PySem.W.Frag) (H:Hp) (p:Addr) (qs:List Rat):Prop:=∃xs,H p=some (.lst xs)∧Paired (NumQ K H) qs xs
theorem RowQ.same (h:RowQ K H p qs) (e:Same H H'):RowQ K H' p qs:=by obtain ⟨xs,g,r⟩:=h;exact ⟨xs,e _ _ g,Paired.imp' (fun _ _ z=>z.same e) r⟩
theorem RowQ.upto (h:RowQ K H p qs) (u:Upto b H H') (B:Bag H b) (n:p≠b):RowQ K H' p qs:=by obtain ⟨xs,g,r⟩:=h;exact ⟨xs,u.other n g,Paired.imp' (fun _ _ z=>z.upto u B) r⟩
theorem RowQ.updL {ys:List V} {o:HO} (h:RowQ K H p qs) (hl:H l=some (.lst ys)) (n:p≠l):RowQ K (upd H l o) p qs:=by obtain ⟨xs,g,r⟩:=h;exact ⟨xs,by rw[upd_ne n];exact g,Paired.imp' (fun _ _ z=>z.updL hl) r⟩
theorem paired_mapL {α β γ:Type} {F:α->β->Prop} {f:γ->α}:∀{l:List γ} {l2:List β},Paired (fun c x=>F (f c) x) l l2->Paired F (l.map f) l2
 | _,_,.nil=>.nil
 | _,_,.cons r t=>.cons r (paired_mapL t)
theorem RowQ.rowK (h:RowQ K H p qs):RowK K H p (qs.map nm):=by obtain ⟨xs,g,r⟩:=h;exact ⟨xs,g,paired_mapL (F:=fun n x=>NumR K H x n) r⟩
theorem RowQ.has (h:RowQ K H p qs):∃xs,H p=some (.lst xs)∧xs.length=qs.length:=by obtain ⟨xs,g,r⟩:=h;exact ⟨xs,g,r.length.symm⟩
def RowF (K:PySem.W.Frag) (H0 H:Hp) (qs:List Rat) (x:V):Prop:=∃q,x=V.ref q∧H0 q=none∧RowQ K H q qs
def GridQ (K:PySem.W.Frag) (H0 H:Hp) (p:Addr) (rows:List (List Rat)):Prop:=∃xs,H p=some (.lst xs)∧Paired (RowF K H0 H) rows xs∧V.ref p∉xs
theorem notin {H0:Hp} {K:PySem.W.Frag} {p:Addr} {rows:List (List Rat)} {ys:List V} (h:∃H2,H2 p=none∧Paired (RowF K H0 H2) rows ys):V.ref p∉ys:=fun hm=>by
 obtain ⟨H2,e,pr⟩:=h
 obtain ⟨qs,_,q,z,_,xs,g,_⟩:=paired_mem pr hm
 cases z
 rw[e] at g;cases g
variable {H0:Hp} {rows:List (List Rat)}
theorem RowF.same (h:RowF K H0 H qs x) (e:Same H H'):RowF K H0 H' qs x:=by obtain ⟨q,a,b,c⟩:=h;exact ⟨q,a,b,c.same e⟩
theorem RowF.upto (h:RowF K H0 H qs x) (u:Upto b H H') (B:Bag H b) (nb:H0 b≠none):RowF K H0 H' qs x:=by obtain ⟨q,a,c,d⟩:=h;exact ⟨q,a,c,d.upto u B fun z=>nb (by rw[← z];exact c)⟩
theorem RowF.weak (h:RowF K H0 H qs x) {H1:Hp} (e:Same H1 H0):RowF K H1 H qs x:=by obtain ⟨q,a,b,c⟩:=h;exact ⟨q,a,e.none b,c⟩
theorem GridQ.same (h:GridQ K H0 H p rows) (e:Same H H'):GridQ K H0 H' p rows:=by obtain ⟨xs,g,r,n⟩:=h;exact ⟨xs,e _ _ g,Paired.imp' (fun _ _ z=>z.same e) r,n⟩
theorem GridQ.upto (h:GridQ K H0 H p rows) (u:Upto b H H') (B:Bag H b) (n:p≠b) (nb:H0 b≠none):GridQ K H0 H' p rows:=by obtain ⟨xs,g,r,nn⟩:=h;exact ⟨xs,u.other n g,Paired.imp' (fun _ _ z=>z.upto u B nb) r,nn⟩
theorem GridQ.weak (h:GridQ K H0 H p rows) {H1:Hp} (e:Same H1 H0):GridQ K H1 H p rows:=by obtain ⟨xs,g,r,n⟩:=h;exact ⟨xs,g,Paired.imp' (fun _ _ z=>z.weak e) r,n⟩
theorem GridQ.gridK (h:GridQ K H0 H p rows):GridK K H p (rows.map (List.map nm)):=by obtain ⟨xs,g,r,_⟩:=h;exact ⟨xs,g,paired_mapL (F:=fun ns x=>∃q,x=V.ref q∧RowK K H q ns) (Paired.imp' (fun _ _ ⟨q,a,_,c⟩=>⟨q,a,c.rowK⟩) r)⟩
end
def kNumQ:Kind Rat:=kNum.via nm (fun _ _ e=>nm_inj e) (fun K H x q=>NumQ K H q x) id
def kRowQ:Kind (List Rat):=kLst kNumQ
def kGridQ:Kind (List (List Rat)):=kLst kRowQ
theorem RowQ.kind {K:PySem.W.Frag} {H:Hp} {p:Addr} {qs:List Rat} (h:RowQ K H p qs):kRowQ.R K H (.ref p) qs:=by obtain ⟨xs,g,q⟩:=h;exact ⟨p,xs,rfl,SqL.of g,q⟩
theorem GridQ.kind {K:PySem.W.Frag} {H0 H:Hp} {p:Addr} {rows:List (List Rat)} (h:GridQ K H0 H p rows):kGridQ.R K H (.ref p) rows:=by obtain ⟨xs,g,q,_⟩:=h;exact ⟨p,xs,rfl,SqL.of g,Paired.imp' (fun _ _ ⟨q,a,_,c⟩=>by rw[a];exact c.kind) q⟩
def SzN (x:Rat):Prop:=Sz 4000 (nm x).1∧Sz 4000 (nm x).2
def Fits (l:List Rat):Prop:=∃M V:Nat,0 < M∧M<=2^900∧V<=2^900∧∀x∈l,Fr M V x
theorem Fits.szn {l:List Rat} (h:Fits l) {x:Rat} (hx:x∈l):SzN x:=by
 obtain ⟨M,V,h0,h1,h2,h3⟩:=h
 obtain ⟨a,b⟩:=(h3 x hx).sz h0 h1 h2
 exact ⟨a.mono (by decide),b.mono (by decide)⟩
theorem Fits.ok {l:List Rat} (h:Fits l) {x:Rat} (hx:x∈l):NumOk (nm x):=⟨nm_pos x,nm_gcd x,(h.szn hx).1.mono (by decide),(h.szn hx).2.mono (by decide)⟩
theorem fr_szn {M V:Nat} {x:Rat} (h0:0 < M) (h1:M<=2^1800) (h2:V<=2^1810) (h:Fr M V x):SzN x:=by
 obtain ⟨a,b⟩:=h.sz h0 h1 h2
 exact ⟨a.mono (by decide),b.mono (by decide)⟩
inductive sp_opQ (K:PySem.W.Frag) (f:Rat->Rat->Rat) (vs:List V) (H:Hp) (Q:VK) (E9:XK):Prop
 | mk (u v:V) (x y:Rat):vs=[u,v]->NumQ K H x u->NumQ K H y v->SzN x->SzN y->(∀r H',Same H H'->NumQ K H' (f x y) (.ref r)->Q (.ref r) H')->sp_opQ K f vs H Q E9
section
variable {K:PySem.W.Frag} {vs:List V} {H:Hp} {Q:VK} {E:XK}
theorem opQ_of {f:Rat->Rat->Rat} {F:Int->Int->Int->Int->Int} (hf:∀x y:Rat,(f x y)*(((nm x).2*(nm y).2:Int):Rat)=((F (nm x).1 (nm x).2 (nm y).1 (nm y).2:Int):Rat)) (h:sp_opQ K f vs H Q E):sp_ar K F vs H Q E:=by
 obtain ⟨u,v,x,y,rfl,⟨p,rfl,hp⟩,⟨q,rfl,hq⟩,⟨s1,s2⟩,⟨s3,s4⟩,k⟩:=h
 refine ⟨p,q,_,_,_,_,rfl,hp,hq,nm_pos x,nm_pos y,s1,s2,s3,s4,fun r H' s g=>k r H' s (NumQ.mk g ?_)⟩
 exact lohi_nm (Int.mul_pos (nm_pos x) (nm_pos y)) (hf x y)
theorem num_nm (x:Rat):(((nm x).1:Int):Rat)=x*(((nm x).2:Int):Rat):=by
 show (x.num:Rat)=x*(((x.den:Nat):Int):Rat)
 rw[num_val,Rat.intCast_natCast]
theorem addQ_of (h:sp_opQ K (fun x y=>x+y) vs H Q E):sp_ar K fPlus vs H Q E:=opQ_of (fun x y=>by
 unfold fPlus
 rw[Rat.intCast_add,Rat.intCast_mul,Rat.intCast_mul,Rat.intCast_mul,num_nm,num_nm]
 grind) h
theorem mulQ_of (h:sp_opQ K (fun x y=>x*y) vs H Q E):sp_ar K fTimes vs H Q E:=opQ_of (fun x y=>by
 unfold fTimes
 rw[Rat.intCast_mul,Rat.intCast_mul,num_nm,num_nm]
 grind) h
end
def RowM (M:Int) (ns:List (Int×Int)):Prop:=0 < M∧Sz 4400 M∧∀n∈ns,0 < n.2∧n.2∣M∧Sz 4400 n.1
inductive sp_cmQ (K:PySem.W.Frag) (vs:List V) (H:Hp) (Q:VK) (E9:XK):Prop
 | mk (p:Addr) (bs:List Int) (M:Int):vs=[.ref p]->SqL K H p (bs.map V.int)->0 < M->Sz 4400 M->((∀b∈bs,0 < b∧b∣M))->Q (.int (lcmL bs 1)) H->sp_cmQ K vs H Q E9
inductive sp_cbQ (K:PySem.W.Frag) (vs:List V) (H:Hp) (Q:VK) (E9:XK):Prop
 | mk (p:Addr) (ns:List (Int×Int)) (M:Int):vs=[.ref p]->RowK K H p ns->ns.length<=1000->RowM M ns->(∀H',Same H H'->Q (.int (botL ns)) H')->sp_cbQ K vs H Q E9
inductive sp_topsQ (K:PySem.W.Frag) (vs:List V) (H:Hp) (Q:VK) (E9:XK):Prop
 | mk (p:Addr) (ns:List (Int×Int)) (M:Int) (B:Int):vs=[.ref p,.int B]->RowK K H p ns->ns.length<=1000->RowM M ns->0 < B->Sz 4400 B->(∀r H',H r=none->Same H H'->H' r=some (.lst ((topsL ns B).map V.int))->Q (.ref r) H')->sp_topsQ K vs H Q E9
inductive sp_dotQ (K:PySem.W.Frag) (vs:List V) (H:Hp) (Q:VK) (E9:XK):Prop
 | mk (p q:Addr) (xs ys:List Rat):vs=[.ref p,.ref q]->RowQ K H p xs->RowQ K H q ys->ys.length=xs.length->xs.length<=1000->Fits xs->Fits ys->(∀r H',Same H H'->NumQ K H' (dotQ xs ys) (.ref r)->Q (.ref r) H')->sp_dotQ K vs H Q E9
inductive sp_gonQ (K:PySem.W.Frag) (vs:List V) (H:Hp) (Q:VK) (E9:XK):Prop
 | mk (p q:Addr) (H0:Hp) (rows:List (List Rat)) (ys:List Rat):vs=[.ref p,.ref q]->GridQ K H0 H p rows->RowQ K H q ys->rows.length<=1000->ys.length<=1000->((∀xs∈rows,xs.length=ys.length∧Fits xs))->Fits ys->(∀r H',H r=none->Same H H'->RowQ K H' r (rows.map fun xs=>dotQ xs ys)->Q (.ref r) H')->sp_gonQ K vs H Q E9
inductive sp_turnQ (K:PySem.W.Frag) (vs:List V) (H:Hp) (Q:VK) (E9:XK):Prop
 | mk (p:Addr) (w:Nat) (H0:Hp) (rows:List (List Rat)):vs=[.ref p,.int w]->GridQ K H0 H p rows->rows.length<=1000->w<=1000->(∀xs∈rows,xs.length=w)->(∀r H',H r=none->Same H H'->GridQ K H H' r (turnQ rows w)->Q (.ref r) H')->sp_turnQ K vs H Q E9
inductive sp_gtimesQ (K:PySem.W.Frag) (vs:List V) (H:Hp) (Q:VK) (E9:XK):Prop
 | mk (p q:Addr) (w:Nat) (H0 H1:Hp) (one other:List (List Rat)):vs=[.ref p,.ref q,.int w]->GridQ K H0 H p one->GridQ K H1 H q other->one.length<=1000->other.length<=1000->w<=1000->((∀xs∈one,xs.length=other.length∧Fits xs))->(∀xs∈other,xs.length=w)->(∀ys∈turnQ other w,Fits ys)->(∀r H',H r=none->Same H H'->GridQ K H H' r (timesQ one other w)->Q (.ref r) H')->sp_gtimesQ K vs H Q E9
def uniQ (m:Nat) (a:Int):List Rat:=(List.range m).map fun (i:Nat)=>if ((i:Nat):Int)=a then 1 else 0
inductive sp_unitQ (K:PySem.W.Frag) (vs:List V) (H:Hp) (Q:VK) (E9:XK):Prop
 | mk (m:Nat) (a:Int):vs=[.int m,.int a]->m<=1000->(∀r H',H r=none->Same H H'->RowQ K H' r (uniQ m a)->Q (.ref r) H')->sp_unitQ K vs H Q E9
inductive sp_numberQ (K:PySem.W.Frag) (vs:List V) (H:Hp) (Q:VK) (E9:XK):Prop
 | mk (b:Addr) (w:Nat):vs=[.ref b,.int w]->Bag H b->1<=w->w<=1000000->(∀r x H',Dr (max w 6) x->NumQ K H' x (.ref r)->Bag H' b->Upto b H H'->Q (.ref r) H')->sp_numberQ K vs H Q E9
inductive sp_drawQ (K:PySem.W.Frag) (vs:List V) (H:Hp) (Q:VK) (E9:XK):Prop
 | mk (b:Addr) (m w:Nat):vs=[.ref b,.int m,.int w]->Bag H b->m<=1000->1<=w->w<=1000000->(∀r xs H',H r=none->RowQ K H' r xs->xs.length=m->(∀x∈xs,Dr (max w 6) x)->Bag H' b->Upto b H H'->Q (.ref r) H')->sp_drawQ K vs H Q E9
inductive sp_plusQ (K:PySem.W.Frag) (vs:List V) (H:Hp) (Q:VK) (E9:XK):Prop
 | mk (p q:Addr) (xs ys:List Rat):vs=[.ref p,.ref q]->RowQ K H p xs->RowQ K H q ys->ys.length=xs.length->xs.length<=1000->(∀x∈xs,SzN x)->(∀y∈ys,SzN y)->(∀r H',H r=none->Same H H'->RowQ K H' r (List.zipWith (fun x y=>x+y) xs ys)->Q (.ref r) H')->sp_plusQ K vs H Q E9
inductive sp_byQ (K:PySem.W.Frag) (vs:List V) (H:Hp) (Q:VK) (E9:XK):Prop
 | mk (u:V) (q:Addr) (c:Rat) (ys:List Rat):vs=[u,.ref q]->NumQ K H c u->SzN c->RowQ K H q ys->ys.length<=1000->(∀y∈ys,SzN y)->(∀r H',H r=none->Same H H'->RowQ K H' r (ys.map fun y=>c*y)->Q (.ref r) H')->sp_byQ K vs H Q E9
inductive sp_copiedQ (K:PySem.W.Frag) (vs:List V) (H:Hp) (Q:VK) (E9:XK):Prop
 | mk (p:Addr) (H0:Hp) (rows:List (List Rat)):vs=[.ref p]->GridQ K H0 H p rows->rows.length<=1000->(∀xs∈rows,xs.length<=1000)->(∀r H',H r=none->Same H H'->GridQ K H H' r rows->Q (.ref r) H')->sp_copiedQ K vs H Q E9
def GFits (rows:List (List Rat)):Prop:=∃M V:Nat,0 < M∧M<=2^300∧V<=2^100∧∀xs∈rows,∀x∈xs,Fr M V x
inductive sp_gridQ (K:PySem.W.Frag) (vs:List V) (H:Hp) (Q:VK) (E9:XK):Prop
 | mk (b:Addr) (m n:Nat):vs=[.ref b,.int m,.int n]->Bag H b->m<=12->n<=12->m*n<=60->(∀r rows H',H r=none->GridQ K H H' r rows->rows.length=m->(∀xs∈rows,xs.length=n)->GFits rows->Bag H' b->Upto b H H'->Q (.ref r) H')->sp_gridQ K vs H Q E9
theorem GFits.fits {rows:List (List Rat)} (h:GFits rows) {xs:List Rat} (hx:xs∈rows):Fits xs:=by
 obtain ⟨M,V,h0,h1,h2,h3⟩:=h
 exact ⟨M,V,h0,Nat.le_trans h1 (Nat.pow_le_pow_right (by decide) (by decide)),Nat.le_trans h2 (Nat.pow_le_pow_right (by decide) (by decide)),h3 xs hx⟩
theorem GFits.turn {rows:List (List Rat)} (h:GFits rows) {w:Nat}:∀ys∈turnQ rows w,Fits ys:=fun ys hy=>by
 obtain ⟨M,V,h0,h1,h2,h3⟩:=h
 refine ⟨M,V,h0,Nat.le_trans h1 (Nat.pow_le_pow_right (by decide) (by decide)),Nat.le_trans h2 (Nat.pow_le_pow_right (by decide) (by decide)),fun y hy'=>?_⟩
 obtain ⟨j,_,rfl⟩:=List.mem_map.mp hy
 obtain ⟨xs,hx,rfl⟩:=List.mem_map.mp hy'
 by_cases hj:j < xs.length
 ·rw[List.getD_eq_getElem?_getD,List.getElem?_eq_getElem hj]
  exact h3 xs hx _ (List.getElem_mem hj)
 ·rw[List.getD_eq_getElem?_getD,List.getElem?_eq_none (by lia)]
  exact Fr.zero
section
variable {K:PySem.W.Frag} {a:Addr} {xs:List V} {g:TG} {tf:TT} {te:TE} {Q:VK} {σ₀:St} {H:Hp} {α β:Type}
theorem comp_mapL {as:List α} {F:Hp->α->V->Prop} (G:Hp->β->V->Prop) (f:α->β) (hx:H a=some (.lst xs)) (pf:Paired (F H) as xs) (hl:as.length<=1000)
  (hF:∀{H H' c x},F H c x->Same H H'->F H' c x) (hG:∀{H H' c x},G H c x->Same H H'->G H' c x)
  (hs:∀(i:Nat) c x H' NY NN,as[i]?=some c->Same H H'->F H' c x->(∀y H2,Same H' H2->G H2 (f c) y->NY y H2)->tTurn σ₀ g tf te x H' NY NN)
  (hd:∀ys H' p,H p=none->Same H H'->H' p=some (.lst ys)->Paired (G H') (as.map f) ys->(∃H2,H2 p=none∧Paired (G H2) (as.map f) ys)->Q (.ref p) H'):CompW (Itl K a) σ₀ g tf te Q H:=by
 have lx:=pf.length
 refine comp_list (K:=K) (xs:=xs) (fun i ys H'=>Same H H'∧Paired (G H') ((as.take i).map f) ys) (Nat.le_of_lt (small1000 (by lia))) ⟨Same.refl _,.nil⟩ (fun i ys H' _ ⟨s,_⟩=>SqL.of (s _ _ hx)) ?_ ?_
 ·rintro i x ys H' hx' hlen ⟨s,pr⟩
  obtain ⟨c,ec,hc⟩:=paired_at pf hx'
  refine hs i c x H' _ _ ec s (hF hc s) fun y H2 s2 gy=>⟨s.trans s2,?_⟩
  rw[take_snoc ec,List.map_append]
  exact paired_app (Paired.imp' (fun _ _ z=>hG z s2) pr) (.cons gy .nil)
 ·rintro ys H' hy ⟨s,pr⟩ p hp
  rw[List.take_of_length_le (by lia)] at pr
  exact hd ys _ p (s.none hp) (s.trans (Same.new hp)) upd_same (Paired.imp' (fun _ _ z=>hG z (Same.new hp)) pr) ⟨H',hp,pr⟩
theorem comp_mapR {n:Nat} (G:Hp->β->V->Prop) (f:Nat->β) (hl:n<=1000) (hG:∀{H H' c x},G H c x->Same H H'->G H' c x)
  (hs:∀(i:Nat) H' NY NN,i < n->Same H H'->(∀y H2,Same H' H2->G H2 (f i) y->NY y H2)->tTurn σ₀ g tf te (.int i) H' NY NN)
  (hd:∀ys H' p,H p=none->Same H H'->H' p=some (.lst ys)->Paired (G H') ((List.range n).map f) ys->(∃H2,H2 p=none∧Paired (G H2) ((List.range n).map f) ys)->Q (.ref p) H'):CompW (Itr 0 n) σ₀ g tf te Q H:=by
 refine comp_range (fun i ys H'=>Same H H'∧Paired (G H') ((List.range i).map f) ys) (Nat.le_of_lt (small1000 (by lia))) ⟨Same.refl _,.nil⟩ ?_ ?_
 ·rintro i ys H' hi hlen ⟨s,pr⟩
  rw[Int.zero_add]
  refine hs i H' _ _ hi s fun y H2 s2 gy=>⟨s.trans s2,?_⟩
  rw[List.range_succ,List.map_append]
  exact paired_app (Paired.imp' (fun _ _ z=>hG z s2) pr) (.cons gy .nil)
 ·rintro ys H' hy ⟨s,pr⟩ p hp
  exact hd ys _ p (s.none hp) (s.trans (Same.new hp)) upd_same (Paired.imp' (fun _ _ z=>hG z (Same.new hp)) pr) ⟨H',hp,pr⟩
theorem comp_bagR {n:Nat} {b:Addr} (G:Hp->β->V->Prop) (C:β->Prop) (hB:Bag H b) (hl:n<=1000) (hG:∀{H' H'' c x},G H' c x->Upto b H' H''->Bag H' b->G H'' c x)
  (hs:∀(i:Nat) H' NY NN,i < n->Upto b H H'->Bag H' b->(∀y c H2,Upto b H' H2->Bag H2 b->C c->G H2 c y->NY y H2)->tTurn σ₀ g tf te (.int i) H' NY NN)
  (hd:∀ys cs H' p,H p=none->Upto b H H'->Bag H' b->H' p=some (.lst ys)->cs.length=n->(∀c∈cs,C c)->Paired (G H') cs ys->(∃H2,H2 p=none∧Paired (G H2) cs ys)->Q (.ref p) H'):CompW (Itr 0 n) σ₀ g tf te Q H:=by
 refine comp_range (fun i ys H'=>Upto b H H'∧Bag H' b∧∃cs,cs.length=i∧(∀c∈cs,C c)∧Paired (G H') cs ys) (Nat.le_of_lt (small1000 (by lia))) ⟨(Same.refl _).upto,hB,[],rfl,(fun _ z=>nomatch z),.nil⟩ ?_ ?_
 ·rintro i ys H' hi hlen ⟨u,B,cs,lc,hc,pr⟩
  rw[Int.zero_add]
  refine hs i H' _ _ hi u B fun y c H2 u2 B2 cc gy=>⟨u.trans u2,B2,cs++[c],by simp [lc],app_all hc cc,paired_app (Paired.imp' (fun _ _ z=>hG z u2 B) pr) (.cons gy .nil)⟩
 ·rintro ys H' hy ⟨u,B,cs,lc,hc,pr⟩ p hp
  have s:Same H' (upd H' p (.lst ys)):=Same.new hp
  exact hd ys cs _ p (u.none B hp) (u.same s) (B.same s) upd_same lc hc (Paired.imp' (fun _ _ z=>hG z s.upto B) pr) ⟨H',hp,pr⟩
end
section
variable {X:Cx}
theorem for_rangeN {n:Nat} {g:TG} {tb:TS} {D:Ends} {σ:St} {H:Hp} (Pv:Nat->St->Hp->Prop) (h0:Pv 0 σ H)
  (hs:∀(i:Nat) σ H,i < n->Pv i σ H->g (.int i) σ H fun σ2 H2=>tb { D with nx:=Pv (i+1),ct:=Pv (i+1),bk:=D.nx } σ2 H2) (hd:∀σ H,Pv n σ H->D.nx σ H) :
  ∃W:Nat->Nat->St->Hp->Prop,(∃m,W 0 m σ H)∧∀i m σ H,W i m σ H →
   ((Itr 0 n).stop i H∧D.nx σ H)∨((Itr 0 n).go i H∧∃N:St->Hp->Prop,(∀σ' H',N σ' H'->∃m',m' < m∧W (i+1) m' σ' H')∧∀x H',(Itr 0 n).yld i H x H'->g x σ H' fun σ2 H2=>tb { D with nx:=N,ct:=N,bk:=D.nx } σ2 H2) :=
 for_range (lo:=0) Pv h0 (fun i σ H hi p=>by rw[Int.zero_add];exact hs i σ H hi p) hd
theorem call_intB:CallR X (.type "int") (fun xs H Q=>∃b:Bool,xs=[.bl b]∧Q (.int (if b=true then 1 else 0)) H):=by
 intro pins s σ H xs us Q I r h
 obtain ⟨b,rfl,q⟩:=h
 obtain ⟨u,rfl,ru⟩:=vals1 r
 cases ru
 exact call_int_bool ⟨.int _,H,I.tok _,⟨_,rfl⟩,q⟩
theorem ps_no {st:Stmt}:PS X st (fun _ _ _=>False):=fun _ _ _ _ _ _ h=>h.elim
end
theorem low_dr {t b:Int} {W:Nat} (hb:0 < b) (h1:t.natAbs<=W) (h2:b.natAbs<=W):∃q:Rat,(lo t b,hi t b)=nm q∧Dr W q∧q*(b:Rat)=(t:Rat):=by
 have hb':(b:Rat)≠0:=fun z=>by have:=Rat.intCast_eq_zero_iff.mp z;lia
 have e:(t:Rat) / (b:Rat)*(b:Rat)=t:=Rat.div_mul_cancel hb'
 have h:=lohi_nm hb e
 refine ⟨_,h,⟨?_,?_⟩,e⟩
 ·have:=congrArg Prod.fst h
  have z:=lo_le (t:=t) (b:=b) (by lia)
  show ((nm ((t:Rat) / (b:Rat))).1).natAbs<=W
  rw[← this]
  exact Nat.le_trans z h1
 ·have:=congrArg Prod.snd h
  have z:=hi_le (t:=t) (b:=b) (by lia)
  have hd:(((t:Rat) / (b:Rat)).den:Int)=hi t b:=this.symm
  have hp:=hi_pos (t:=t) hb
  lia
theorem ixQ {K:PySem.W.Frag} {H:Hp} {qs:List Rat} {xs:List V} (h:Paired (NumQ K H) qs xs) {j:Nat} (hj:j < qs.length):∃v,atI xs (j:Int)=some v∧NumQ K H (qs.getD j 0) v:=by
 have hl:=h.length
 refine ⟨xs[j]'(by lia),atI_nat (by simp),?_⟩
 have:=paired_get h (i:=j) hj (by lia)
 rwa [List.getD_eq_getElem?_getD,List.getElem?_eq_getElem hj]
theorem getD_mem {xs:List Rat} {i:Nat} (h:i < xs.length):xs.getD i 0∈xs:=by
 rw[List.getD_eq_getElem?_getD,List.getElem?_eq_getElem h];exact List.getElem_mem h
theorem Fits.one {l:List Rat} (h:Fits l) {x:Rat} (hx:x∈l):Fits [x]:=by
 obtain ⟨M,V,h0,h1,h2,h3⟩:=h
 exact ⟨M,V,h0,h1,h2,fun y hy=>by rw[List.mem_singleton.mp hy];exact h3 x hx⟩
theorem zip_range {xs ys:List Rat} (h:ys.length=xs.length):List.zipWith (fun x y=>x+y) xs ys=(List.range xs.length).map fun i=>xs.getD i 0+ys.getD i 0:=by
 apply List.ext_getElem?
 intro i
 rw[List.getElem?_zipWith,List.getElem?_map]
 by_cases hi:i < xs.length
 ·rw[List.getElem?_range hi,List.getElem?_eq_getElem hi,List.getElem?_eq_getElem (show i < ys.length by lia)]
  simp [List.getD_eq_getElem?_getD,List.getElem?_eq_getElem hi,List.getElem?_eq_getElem (show i < ys.length by lia)]
 ·rw[List.getElem?_eq_none (show (List.range xs.length).length<=i by simp;lia),List.getElem?_eq_none (show xs.length<=i by lia)]
  rfl
theorem RowF.updL {K:PySem.W.Frag} {H0 H:Hp} {qs:List Rat} {x:V} {l:Addr} {ys:List V} {o:HO} (h:RowF K H0 H qs x) (hl:H l=some (.lst ys)) (nl:H0 l≠none):RowF K H0 (upd H l o) qs x:=by obtain ⟨q,a,b,c⟩:=h;exact ⟨q,a,b,c.updL hl fun z=>nl (by rw[← z];exact b)⟩
theorem Bag.at {H:Hp} {b:Addr} (B:Bag H b):H b≠none:=by obtain ⟨_,_,_,_,_,e,_⟩:=B;rw[e];simp
theorem Inner.at {H:Hp} {b q:Addr} (B:Bag H b) (i:Inner H b q):H q≠none:=by
 obtain ⟨q',i',xs,e⟩:=B.inner
 rw[← Inner.inj i' i,e];simp
theorem paired_at2 {α β:Type} {F:α->β->Prop} {l1:List α} {l2:List β} {i:Nat} (h:Paired F l1 l2) (hi:i < l1.length):∃x y,l1[i]?=some x∧l2[i]?=some y∧x∈l1∧F x y:=by
 have hl:=h.length
 exact ⟨l1[i],l2[i]'(by lia),by simp,by simp,List.getElem_mem _,paired_get h hi (by lia)⟩
section
variable {α β:Type} [DecidableEq α] [DecidableEq β] (k1:Kind α) (k2:Kind β)
theorem two_items {X:Cx} {pins:List (Addr×Obj)} {σ:St} {H:Hp} {s:Shared} {A:Around} (I:Inv X pins σ H s) (h1:A.units+k1.d < cLine) (h2:A.units+k2.d < cLine) {x y z w:V} {us ws:List Value} {a b:α×β}
  (rx:Vals [x,y] us) (ry:Vals [z,w] ws) (a1:k1.R X.K H x a.1) (a2:k2.R X.K H y a.2) (b1:k1.R X.K H z b.1) (b2:k2.R X.K H w b.2) :
  ∀j (h1:j < us.toArray.size) (h2:j < ws.toArray.size),SeqAt.EqAt A s us.toArray[j] ws.toArray[j] (if j=0 then decide (a.1=b.1) else decide (a.2=b.2)):=fun j l1 l2=>by
 obtain ⟨u1,u2,rfl,r1,r2⟩:=vals2 rx
 obtain ⟨w1,w2,rfl,q1,q2⟩:=vals2 ry
 have hj:j < 2:=by simpa using l1
 rcases Nat.lt_or_ge j 1 with h | h
 ·have e:j=0:=by lia
  subst e
  exact k1.eq (A:=A) I r1 q1 a1 b1 h1
 ·have e:j=1:=by lia
  subst e
  exact k2.eq (A:=A) I r2 q2 a2 b2 h2
theorem two_all {a b:α×β}:(List.range 2).all (fun j=>if j=0 then decide (a.1=b.1) else decide (a.2=b.2))=decide (a=b):=by
 have e:List.range 2=[0,1]:=rfl
 rw[e]
 simp only[List.all_cons,List.all_nil,Bool.and_true,if_true,Nat.one_ne_zero,if_false]
 rw[← Bool.decide_and]
 exact decide_eq_decide.mpr ⟨fun ⟨h1,h2⟩=>Prod.ext h1 h2,fun h=>by rw[h];exact ⟨rfl,rfl⟩⟩
def kPair:Kind (α×β) where
 R:=fun K H x a=>∃p u v,x=.ref p∧SqT K H p [u,v]∧k1.R K H u a.1∧k2.R K H v a.2
 d:=max k1.d k2.d+1
 inj:=fun {X pins σ H s x a b} I h1 h2=>by
  obtain ⟨p,u,v,rfl,hp,a1,a2⟩:=h1
  obtain ⟨q,u',v',e,hq,b1,b2⟩:=h2
  cases e
  have e:=I.tuple_inj hp hq
  cases e
  exact Prod.ext (k1.inj I a1 b1) (k2.inj I a2 b2)
 rc:=fun {X pins σ H s x y v u a b A} I rx ry h1 h2 hA=>by
  obtain ⟨p,x1,x2,rfl,hp,a1,a2⟩:=h1
  obtain ⟨q,y1,y2,rfl,hq,b1,b2⟩:=h2
  cases rx
  cases ry
  obtain ⟨us,r1,t1,_⟩:=I.tuple hp
  obtain ⟨ws,r2,t2,_⟩:=I.tuple hq
  have l1:=r1.length
  have l2:=r2.length
  have z:=SeqAt.RcAt.tuples (A:=A) (e:=fun j=>if j=0 then decide (a.1=b.1) else decide (a.2=b.2)) (show s.heap.IsTuple p us.toArray from t1) (show s.heap.IsTuple q ws.toArray from t2) (by lia) (two_items k1 k2 (A:=A.in1) I (by show A.units+1+k1.d < cLine;lia) (by show A.units+1+k2.d < cLine;lia) r1 r2 a1 a2 b1 b2)
  have e1:us.toArray.size=2:=by rw[List.size_toArray,← l1];rfl
  have e2:ws.toArray.size=2:=by rw[List.size_toArray,← l2];rfl
  rw[e1,e2,Nat.min_self,two_all] at z
  simpa using z
 ne:=fun {X pins σ H s x y v u a b A} I rx ry h1 h2 hA=>by
  obtain ⟨p,x1,x2,rfl,hp,a1,a2⟩:=h1
  obtain ⟨q,y1,y2,rfl,hq,b1,b2⟩:=h2
  cases rx
  cases ry
  obtain ⟨us,r1,t1,_⟩:=I.tuple hp
  obtain ⟨ws,r2,t2,_⟩:=I.tuple hq
  have l1:=r1.length
  have l2:=r2.length
  have z:=SeqAt.RcNeAt.tuples (A:=A) (e:=fun j=>if j=0 then decide (a.1=b.1) else decide (a.2=b.2)) (show s.heap.IsTuple p us.toArray from t1) (show s.heap.IsTuple q ws.toArray from t2) (by lia) (two_items k1 k2 (A:=A.in1) I (by show A.units+1+k1.d < cLine;lia) (by show A.units+1+k2.d < cLine;lia) r1 r2 a1 a2 b1 b2)
  have e1:us.toArray.size=2:=by rw[List.size_toArray,← l1];rfl
  have e2:ws.toArray.size=2:=by rw[List.size_toArray,← l2];rfl
  rw[e1,e2,Nat.min_self,two_all] at z
  simpa using z
 eq:=fun {X pins σ H s x y v u a b A} I rx ry h1 h2 hA=>by
  obtain ⟨p,x1,x2,rfl,hp,a1,a2⟩:=h1
  obtain ⟨q,y1,y2,rfl,hq,b1,b2⟩:=h2
  cases rx
  cases ry
  by_cases e:p=q
  ·subst e
   have e:=I.tuple_inj hp hq
   cases e
   have e2:a=b:=Prod.ext (k1.inj I a1 b1) (k2.inj I a2 b2)
   rw[decide_eq_true e2]
   exact SeqAt.EqAt.same _
  ·obtain ⟨us,r1,t1,_⟩:=I.tuple hp
   obtain ⟨ws,r2,t2,_⟩:=I.tuple hq
   have l1:=r1.length
   have l2:=r2.length
   have z:=SeqAt.RcAt.tuples (A:=A) (e:=fun j=>if j=0 then decide (a.1=b.1) else decide (a.2=b.2)) (show s.heap.IsTuple p us.toArray from t1) (show s.heap.IsTuple q ws.toArray from t2) (by lia) (two_items k1 k2 (A:=A.in1) I (by show A.units+1+k1.d < cLine;lia) (by show A.units+1+k2.d < cLine;lia) r1 r2 a1 a2 b1 b2)
   have e1:us.toArray.size=2:=by rw[List.size_toArray,← l1];rfl
   have e2:ws.toArray.size=2:=by rw[List.size_toArray,← l2];rfl
   rw[e1,e2,Nat.min_self,two_all] at z
   exact .of_refs e (by simpa using z)
end
inductive sp_likeG (K:PySem.W.Frag) (vs:List V) (H:Hp) (Q:VK) (E9:XK):Prop
 | mk (p q:Addr) (rows:List (List Rat)) (Hs H1:Hp) (m n:Nat):vs=[.ref p,.ref q,.int m,.int n]->GridQ K Hs H p rows->Hs p=none->Same Hs H->GridQ K H1 H q rows->rows.length=m->((∀xs∈rows,xs.length=n∧∀x∈xs,NumOk (nm x)))->m<=100->n<=100->(∀H',Same Hs H'->Q (.bl true) H')->sp_likeG K vs H Q E9
theorem cmulS_l {i j:Int} (h1:-(2^64) < i) (h2:i < 2^64):CMulS i j:=.inl (.inl ⟨h1,h2⟩)
theorem cmulS_r {i j:Int} (h1:-(2^64) < j) (h2:j < 2^64):CMulS i j:=.inl (.inr ⟨h1,h2⟩)
theorem cpow_of {i j:Int} (h1:0<=j) (h2:j<=1000000) (h3:i.natAbs < 2^64):CPow i j:=⟨h1,h2,h3⟩
end L2
namespace L2
open PySem PySem.Spec PyProof.Rows Nm
def Ite (K : PySem.W.Frag) (l : Addr) : It :=
  ⟨fun i H => ∃ xs x, SqL K H l xs ∧ xs[i]? = some x,
   fun i H v H' => ∃ p x, v = .ref p ∧ H p = none ∧ H' = upd H p (.tup [.int i, x]) ∧ ∀ xs, SqL K H l xs → xs[i]? = some x,
   fun i H => ∃ xs, SqL K H l xs ∧ xs.length ≤ i⟩
def tnE (e it l:Addr) (i:Nat) (h:Heap):Prop:=(∃old,IsEnum h e it i old)∧h.IsListIter it l i
theorem turn_enum {P:Program} {w:World} {K:PySem.W.Frag} {elts:List Expr} {kk:Nat} {tpos:Pos} (e it l:Addr) (hei:e≠it):Turn P w K (.Tuple elts kk tpos) (Ite K l) [e,it] e (tnE e it l) where
 mem:=by simp
 obj:=fun i h st b hb=>by
  obtain ⟨⟨old,he⟩,⟨o1,g1,c1,d1⟩⟩:=st
  simp only[List.mem_cons,List.not_mem_nil,or_false] at hb
  rcases hb with rfl | rfl
  ·exact ⟨_,he,fun v q=>nomatch q⟩
  ·exact ⟨o1,g1,fun v q=>by rw[d1] at q;cases q⟩
 keep:=fun i h h' st k=>by
  obtain ⟨⟨old,he⟩,h1⟩:=st
  exact ⟨⟨old,k e (by simp) _ he⟩,h1.at fun o q=>k it (by simp) o q⟩
 item:=by
  intro X hP hw hK hc i pins s σ H E I hf st hg
  subst hP hw hK
  obtain ⟨⟨old,he⟩,h1⟩:=st
  obtain ⟨xs,x,qx,ex⟩:=hg
  obtain ⟨us,rx,px,_⟩:=I.list qx
  obtain ⟨u,eu,ru⟩:=rx.get ex
  refine wpAny_pyNext_enum_item he h1 px.isList (x:=u) (by simpa using eu) hei fun h' a1 a2 a3 a4 hk=>?_
  refine ⟨_,rfl,wpAny_letOwnedTupleGo_enum a1 fun h'' he'' hs=>?_⟩
  have hT0:H s.heap.objs.size=none:=I.hok.fresh (Nat.le_refl _)
  have ene:s.heap.objs.size≠e:=Nat.ne_of_gt (Heap.lt_size he)
  have up:∀b o,b∉[e,it]->s.heap.get? b=some o->h''.get? b=some o:=fun b o hb q=>by
   simp only[List.mem_cons,List.not_mem_nil,or_false,not_or] at hb
   exact (hs.2 b hb.1).trans (hk b o hb.1 hb.2 q)
  have tup:h''.get? s.heap.objs.size=some { cls:=.type "tuple",data:=.seq #[.int i s.toks,u] }:=(hs.2 _ ene).trans a3
  have I1:Inv X pins σ H { s with heap:=h'',toks:=s.toks+1 }:=I.moved (g':=s.gens) (d':=s.drawn) (t':=s.toks+1) (ch:=[e,it]) hf up I.bare
  have fT:FpOk X pins H s.heap.objs.size:=I.fpOk (Nat.le_refl _) hT0
  have I2:=I1.track (o:=.tup [.int i,x]) fT ⟨short_ok rfl,[.int i s.toks,u],.cons ⟨_,rfl⟩ (.cons ru .nil),⟨_,tup,rfl,_,rfl⟩⟩
  refine ⟨.ref s.heap.objs.size,_,I2,rfl,⟨_,x,rfl,hT0,rfl,fun xs' q=>by rw[I.list_inj q qx];exact ex⟩,?_,fun b hb=>?_⟩
  ·exact ⟨⟨_,by simpa using he''⟩,a2.at fun o q=>(hs.2 _ hei.symm).trans q⟩
  ·rw[upd_ne]
   ·exact (hf b hb).1
   ·obtain ⟨o1,g1,_⟩:=h1
    simp only[List.mem_cons,List.not_mem_nil,or_false] at hb
    rcases hb with rfl | rfl
    ·exact ene.symm
    ·exact Nat.ne_of_lt (Heap.lt_size g1)
 done:=by
  intro X hP hw hK hc i pins s σ H E I hf st hg
  subst hP hw hK
  obtain ⟨⟨old,he⟩,h1⟩:=st
  obtain ⟨xs,qx,hend⟩:=hg
  obtain ⟨us,rx,px,_⟩:=I.list qx
  have lx:=rx.length
  refine wpAny_pyNext_enum_end (I.ok.hd hc) he h1 px.isList (by simp;lia) fun h' hk=>⟨rfl,?_⟩
  exact I.moved (g':=s.gens) (d':=s.drawn) (t':=s.toks) (ch:=[e,it]) hf (fun b o hb q=>hk b o (fun z=>hb (by simp [z])) q) I.bare
 self:=fun _ _ _ _ _ st h=>let ⟨⟨_,he⟩,_⟩:=st;wpAny_pyIter_enum he h
section
variable {X:Cx}
def iEnum (K:PySem.W.Frag) (ta:TA):TI:=fun σ H R=>ta σ H fun vs H1=>∃l,vs=[.ref l]∧(∃xs,SqL K H1 l xs)∧R (Ite K l) H1
theorem pi_enum {a:Expr} {ta:TA} {p pos tpos:Pos} {elts:List Expr} {kk:Nat} (hg:Gl X "enumerate") (hm:X.mg "enumerate"=none) (ha:PA X [a] ta) (hs:starEach [a] X.env=[(false,eval a X.env)]:=by rfl) :
  PI X (.Tuple elts kk tpos) (.Call (.Name "enumerate" p) [a] [] pos) (iEnum X.K ta):=by
 intro pins s σ H R I h
 refine Call_ (ld_blt I hg hm boot_enumerate (PyProof.Rows.callWith_type1 (thn (ha pos pins s σ H _ I h) fun us s1 ⟨vs,H1,I1,r1,q1⟩=>?_) (by rw[hs];rfl) rfl))
 obtain ⟨l,e,⟨xs,qx⟩,q⟩:=q1
 subst e
 obtain ⟨u,rfl,ru⟩:=vals1 r1
 cases ru
 obtain ⟨us,rx,px,_⟩:=I1.list qx
 refine call_enumerate_list px.isList fun h' a1 a2 a3 hk=>wpAny_pyIter_enum a1 ?_
 have I2:Inv X pins σ H1 { s1 with heap:=h' }:=I1.kept (t':=s1.toks) hk
 refine ⟨_,[s1.heap.objs.size+1,s1.heap.objs.size],_,_,H1,rfl,I2,turn_enum (s1.heap.objs.size+1) s1.heap.objs.size l (Nat.succ_ne_self _),⟨⟨_,a1⟩,a2⟩,fun b hb=>?_,q⟩
 have hb':s1.heap.objs.size<=b:=by
  simp only[List.mem_cons,List.not_mem_nil,or_false] at hb
  rcases hb with rfl | rfl <;> first | exact Nat.le_succ _ | exact Nat.le_refl _
 exact I1.fpOk hb' (I1.hok.fresh hb')
end
theorem rd_iEnum {K:PySem.W.Frag} {ta:TA} {R:It->Hp->Prop} {σ:St} {H:Hp} (h:ta σ H fun vs H1=>∃l,vs=[.ref l]∧(∃xs,SqL K H1 l xs)∧R (Ite K l) H1):iEnum K ta σ H R:=h
theorem for_enum {K:PySem.W.Frag} {l:Addr} {xs:List V} {g:TG} {tb:TS} {D:Ends} {σ:St} {H:Hp} (Pv:Nat->St->Hp->Prop) (h0:Pv 0 σ H) (hl:∀i σ H,i<=xs.length->Pv i σ H->SqL K H l xs)
  (hs:∀i x σ H p,xs[i]?=some x->Pv i σ H->H p=none->g (.ref p) σ (upd H p (.tup [.int i,x])) fun σ2 H2=>tb { D with nx:=Pv (i+1),ct:=Pv (i+1),bk:=D.nx } σ2 H2) (hd:∀σ H,Pv xs.length σ H->D.nx σ H) :
  ∃W:Nat->Nat->St->Hp->Prop,(∃m,W 0 m σ H)∧∀i m σ H,W i m σ H →
   ((Ite K l).stop i H∧D.nx σ H)∨((Ite K l).go i H∧∃N:St->Hp->Prop,(∀σ' H',N σ' H'->∃m',m' < m∧W (i+1) m' σ' H')∧∀x H',(Ite K l).yld i H x H'->g x σ H' fun σ2 H2=>tb { D with nx:=N,ct:=N,bk:=D.nx } σ2 H2):=by
 refine ⟨fun i m σ H=>m=xs.length - i∧i<=xs.length∧Pv i σ H,⟨xs.length,by simp,Nat.zero_le _,h0⟩,?_⟩
 rintro i m σ H ⟨rfl,hi,p⟩
 have q1:=hl i σ H hi p
 by_cases hlt:i < xs.length
 ·refine .inr ⟨⟨xs,xs[i],q1,by simp [hlt]⟩,Pv (i+1),fun σ' H' p'=>⟨xs.length - (i+1),by lia,rfl,hlt,p'⟩,fun x H' y=>?_⟩
  obtain ⟨r,x',rfl,hr,rfl,e1⟩:=y
  exact hs i x' σ _ r (e1 xs q1) p hr
 ·have e:i=xs.length:=by lia
  subst e
  exact .inl ⟨⟨xs,q1,Nat.le_refl _⟩,hd σ H p⟩
section
variable {X:Cx}
theorem call_any (hc:X.calm=true):CallR X (.builtin "any") (fun xs H Q=>∃(p:Addr) (bs:List Bool),xs=[.ref p]∧SqL X.K H p (bs.map V.bl)∧Q (.bl (bs.any id)) H):=by
 intro pins s σ H xs us Q I r h
 obtain ⟨p,bs,rfl,hp,q⟩:=h
 obtain ⟨u,rfl,ru⟩:=vals1 r
 cases ru
 obtain ⟨vs,rv,pl,hz⟩:=I.list hp
 have hb:PyProof.Rows.LSm.BoolsAre vs bs:=by
  clear q hp pl hz
  induction bs generalizing vs with
  | nil=>cases rv;exact .nil
  | cons b bs ih =>
   rw[List.map_cons] at rv
   cases rv with
   | cons r1 r2=>cases r1;exact .cons b (ih _ r2)
 have hlt:p < s.heap.objs.size:=by obtain ⟨_,e,_⟩:=pl.isList;exact Heap.lt_size e
 refine call_any_walk (wpAny_pyIter_list pl.isList ?_)
 refine ⟨s.heap.objs.size,[s.heap.objs.size,p],[s.heap.objs.size],vs.toArray.size,_,_,fun i=>(bs[i]?).getD true,rfl,Walks.list (A:=X.A.in1) (I.ok.hd hc) _ p (Nat.ne_of_lt hlt) vs.toArray,
  ⟨⟨_,Heap.get?_push_size _ rfl,rfl,rfl⟩,pl.isList.push _⟩,fun i v s' Q' E' hP hQ=>?_,fun h' tk hk=>?_⟩
 ·obtain ⟨b,e,rfl⟩:=hb.get i v (by simpa using hP)
  simp only[e,Option.getD_some] at hQ
  exact wpAny_truthy_bool hQ
 ·have e:((List.range vs.toArray.size).any fun i=>(bs[i]?).getD true)=bs.any id:=by
   rw[List.size_toArray,hb.length,Bool.eq_iff_iff,List.any_eq_true,List.any_eq_true]
   constructor
   ·rintro ⟨i,hi,z⟩
    have hi:=List.mem_range.mp hi
    rw[List.getElem?_eq_getElem hi] at z
    exact ⟨_,List.getElem_mem hi,z⟩
   ·rintro ⟨b,hb',z⟩
    obtain ⟨i,hi,rfl⟩:=List.getElem_of_mem hb'
    exact ⟨i,List.mem_range.mpr hi,by rw[List.getElem?_eq_getElem hi];exact z⟩
  rw[e]
  exact ⟨.bl _,H,I.kept (t':=tk) (PyProof.Rows.LSm.kept_iter hk),rfl,q⟩
end
theorem rd_fld {K:PySem.W.Frag} {ta:TE} {f:Str} {σ:St} {H:Hp} {Q:VK} (h:ta σ H fun x H1=>∃a C dx fs v,x=.ref a∧H1 a=some (.ins C dx fs)∧Cls K C∧NoAttr K C f∧fs.lookup f=some v∧Q v H1):tFld K ta f σ H Q:=h
theorem rd_sfld {K:PySem.W.Frag} {ta tv:TE} {f:Str} {D:Ends} {σ:St} {H:Hp} (h:tv σ H fun y H1=>ta σ H1 fun x H2=>∃a C dx fs,x=.ref a∧H2 a=some (.ins C dx fs)∧Cls K C∧NoAttr K C f∧fs.length < 1000 ∧
 D.nx σ (upd H2 a (.ins C dx (putF f y fs)))):sFld K ta tv f D σ H:=h
theorem rd_meth {C:Addr} {m:Str} {sp:Sp} {E:XK} {ta:TE} {t:TA} {σ:St} {H:Hp} {Q:VK} (h:ta σ H fun x H1=>∃a dx fs,x=.ref a∧H1 a=some (.ins C dx fs)∧fs.lookup m=none ∧
 t σ H1 fun vs H2=>sp (x :: vs) H2 Q E):tMeth C m sp [] E ta t σ H Q:=by
 have e:(fun (x:V) H1=>∃a dx fs,x=.ref a∧H1 a=some (.ins C dx fs)∧fs.lookup m=none∧t σ H1 fun vs H2=>sp (x :: (vs++[])) H2 Q E)=fun x H1=>∃a dx fs,x=.ref a∧H1 a=some (.ins C dx fs)∧fs.lookup m=none∧t σ H1 fun vs H2=>sp (x :: vs) H2 Q E:=by
  funext x H1
  simp only[List.append_nil]
 show ta σ H (fun (x:V) H1=>∃a dx fs,x=.ref a∧H1 a=some (.ins C dx fs)∧fs.lookup m=none∧t σ H1 fun vs H2=>sp (x :: (vs++[])) H2 Q E)
 rw[e];exact h
theorem rd_make {C:Addr} {sp:Sp} {E:XK} {t:TA} {σ:St} {H:Hp} {Q:VK} (h:t σ H fun vs H1=>∀x dx,H1 x=none->H1 dx=none->dx≠x →
 sp (.ref x :: vs) (upd (upd H1 dx (.own x)) x (.ins C dx [])) (fun v H2=>v=.non∧Q (.ref x) H2) E):tMake C sp [] E t σ H Q:=by
 have e:(fun vs (H1:Hp)=>∀x dx,H1 x=none->H1 dx=none->dx≠x->sp (.ref x :: (vs++[])) (upd (upd H1 dx (.own x)) x (.ins C dx [])) (fun v H2=>v=.non∧Q (.ref x) H2) E)=fun vs H1=>∀x dx,H1 x=none->H1 dx=none->dx≠x->sp (.ref x :: vs) (upd (upd H1 dx (.own x)) x (.ins C dx [])) (fun v H2=>v=.non∧Q (.ref x) H2) E:=by
  funext vs H1
  simp only[List.append_nil]
 show t σ H (fun vs (H1:Hp)=>∀x dx,H1 x=none->H1 dx=none->dx≠x->sp (.ref x :: (vs++[])) (upd (upd H1 dx (.own x)) x (.ins C dx [])) (fun v H2=>v=.non∧Q (.ref x) H2) E)
 rw[e];exact h
end L2
namespace L2
open PySem PySem.Spec PyProof.Rows Nm
def Exc (x:Addr) (H H':Hp):Prop:=∀b o,H b=some o->b≠x->H' b=some o
theorem Exc.refl {x:Addr} {H:Hp}:Exc x H H:=fun _ _ h _=>h
theorem Exc.trans {x:Addr} {H H1 H2:Hp} (a:Exc x H H1) (b:Exc x H1 H2):Exc x H H2:=fun c o h n=>b c o (a c o h n) n
theorem Same.exc {x:Addr} {H H':Hp} (h:Same H H'):Exc x H H':=fun b o e _=>h b o e
theorem Exc.upd {x:Addr} {H:Hp} {o:HO}:Exc x H (L2.upd H x o):=fun b u h n=>by rw[upd_ne n];exact h
def IsIns (H:Hp) (x:Addr):Prop:=∃C dx fs,H x=some (.ins C dx fs)
section
variable {K:PySem.W.Frag} {H H' H0:Hp} {q:Rat} {v:V} {x p:Addr} {qs:List Rat} {rows:List (List Rat)}
theorem NumQ.exc (h:NumQ K H q v) (e:Exc x H H') (hx:IsIns H x):NumQ K H' q v:=by
 obtain ⟨C,dx,fs,hx⟩:=hx
 obtain ⟨r,er,s⟩:=h
 refine ⟨r,er,?_⟩
 rcases s with (h | ⟨o,h⟩) | h
 ·exact .inl (.inl (e _ _ h fun z=>by rw[z,hx] at h;cases h))
 ·exact .inl (.inr ⟨o,e _ _ h fun z=>by rw[z,hx] at h;cases h⟩)
 ·exact .inr h
theorem RowQ.exc (h:RowQ K H p qs) (e:Exc x H H') (hx:IsIns H x):RowQ K H' p qs:=by
 obtain ⟨xs,g,r⟩:=h
 have hx':=hx
 obtain ⟨C,dx,fs,hx⟩:=hx
 exact ⟨xs,e _ _ g (fun z=>by rw[z,hx] at g;cases g),Paired.imp' (fun _ _ z=>z.exc e hx') r⟩
theorem RowF.exc (h:RowF K H0 H qs v) (e:Exc x H H') (hx:IsIns H x):RowF K H0 H' qs v:=by obtain ⟨q,a,b,c⟩:=h;exact ⟨q,a,b,c.exc e hx⟩
theorem GridQ.exc (h:GridQ K H0 H p rows) (e:Exc x H H') (hx:IsIns H x):GridQ K H0 H' p rows:=by
 obtain ⟨xs,g,r,n⟩:=h
 have hx':=hx
 obtain ⟨C,dx,fs,hx⟩:=hx
 exact ⟨xs,e _ _ g (fun z=>by rw[z,hx] at g;cases g),Paired.imp' (fun _ _ z=>z.exc e hx') r,n⟩
end
def sysFs (a b c:Addr) (n i o:Nat):List (Str×V):=putF "outs" (.int o) (putF "look" (.ref c) (putF "ins" (.int i) (putF "put" (.ref b) (putF "states" (.int n) (putF "move" (.ref a) [])))))
section
variable {a b c:Addr} {n i o:Nat}
theorem sys_outs:(sysFs a b c n i o).lookup ("outs":Str)=some (.int o):=by
 unfold sysFs
 rw[lookup_putF,if_pos rfl]
theorem sys_look:(sysFs a b c n i o).lookup ("look":Str)=some (.ref c):=by
 unfold sysFs
 rw[lookup_putF,if_neg (by decide +kernel),lookup_putF,if_pos rfl]
theorem sys_ins:(sysFs a b c n i o).lookup ("ins":Str)=some (.int i):=by
 unfold sysFs
 rw[lookup_putF,if_neg (by decide +kernel),lookup_putF,if_neg (by decide +kernel),lookup_putF,if_pos rfl]
theorem sys_put:(sysFs a b c n i o).lookup ("put":Str)=some (.ref b):=by
 unfold sysFs
 rw[lookup_putF,if_neg (by decide +kernel),lookup_putF,if_neg (by decide +kernel),lookup_putF,if_neg (by decide +kernel),lookup_putF,if_pos rfl]
theorem sys_states:(sysFs a b c n i o).lookup ("states":Str)=some (.int n):=by
 unfold sysFs
 rw[lookup_putF,if_neg (by decide +kernel),lookup_putF,if_neg (by decide +kernel),lookup_putF,if_neg (by decide +kernel),lookup_putF,if_neg (by decide +kernel),lookup_putF,if_pos rfl]
theorem sys_move:(sysFs a b c n i o).lookup ("move":Str)=some (.ref a):=by
 unfold sysFs
 rw[lookup_putF,if_neg (by decide +kernel),lookup_putF,if_neg (by decide +kernel),lookup_putF,if_neg (by decide +kernel),lookup_putF,if_neg (by decide +kernel),lookup_putF,if_neg (by decide +kernel),lookup_putF,if_pos rfl]
theorem sys_no {m:Str} (h1:¬m="outs") (h2:¬m="look") (h3:¬m="ins") (h4:¬m="put") (h5:¬m="states") (h6:¬m="move"):(sysFs a b c n i o).lookup m=none:=by
 unfold sysFs
 rw[lookup_putF,if_neg h1,lookup_putF,if_neg h2,lookup_putF,if_neg h3,lookup_putF,if_neg h4,lookup_putF,if_neg h5,lookup_putF,if_neg h6]
 rfl
theorem sys_turned:(sysFs a b c n i o).lookup ("turned":Str)=none:=sys_no (by decide +kernel) (by decide +kernel) (by decide +kernel) (by decide +kernel) (by decide +kernel) (by decide +kernel)
end
theorem putF_len {k:Str} {v:V}:∀{l:List (Str×V)},(putF k v l).length<=l.length+1
 | []=>Nat.le_refl _
 | (x,y) :: r=>by
  unfold putF
  split
  ·simp
  ·have:=putF_len (k:=k) (v:=v) (l:=r)
   simp only[List.length_cons]
   lia
structure SysD (mv pt lk:List (List Rat)):Prop where
 n8:mv.length<=8
 i4:pt.length<=4
 o4:lk.length<=4
 mw:∀xs∈mv,xs.length=mv.length
 pw:∀xs∈pt,xs.length=mv.length
 lw:∀xs∈lk,xs.length=mv.length
def SFits (mv pt lk:List (List Rat)):Prop:=∃M V:Nat,0 < M∧M<=2^800∧V<=2^400∧GF M V mv∧GF M V pt∧GF M V lk
def SysQ (K:PySem.W.Frag) (H0 H:Hp) (C p:Addr) (mv pt lk:List (List Rat)):Prop:=∃dx a b c,H p=some (.ins C dx (sysFs a b c mv.length pt.length lk.length))∧H0 a=none∧H0 b=none∧H0 c=none∧GridQ K H0 H a mv∧GridQ K H0 H b pt∧GridQ K H0 H c lk
section
variable {K:PySem.W.Frag} {H H' H0 H1:Hp} {C p b:Addr} {mv pt lk:List (List Rat)}
theorem SysQ.same (h:SysQ K H0 H C p mv pt lk) (e:Same H H'):SysQ K H0 H' C p mv pt lk:=by obtain ⟨dx,a,b,c,g,n1,n2,n3,g1,g2,g3⟩:=h;exact ⟨dx,a,b,c,e _ _ g,n1,n2,n3,g1.same e,g2.same e,g3.same e⟩
theorem SysQ.upto (h:SysQ K H0 H C p mv pt lk) (u:Upto b H H') (B:Bag H b) (nb:H0 b≠none):SysQ K H0 H' C p mv pt lk:=by
 obtain ⟨dx,a,b',c,g,n1,n2,n3,g1,g2,g3⟩:=h
 refine ⟨dx,a,b',c,u.other (fun z=>by obtain ⟨_,_,_,_,_,e,_⟩:=B;rw[z,e] at g;cases g) g,n1,n2,n3,g1.upto u B (fun z=>nb (by rw[← z];exact n1)) nb,g2.upto u B (fun z=>nb (by rw[← z];exact n2)) nb,g3.upto u B (fun z=>nb (by rw[← z];exact n3)) nb⟩
theorem SysQ.weak (h:SysQ K H0 H C p mv pt lk) (e:Same H1 H0):SysQ K H1 H C p mv pt lk:=by obtain ⟨dx,a,b,c,g,n1,n2,n3,g1,g2,g3⟩:=h;exact ⟨dx,a,b,c,g,e.none n1,e.none n2,e.none n3,g1.weak e,g2.weak e,g3.weak e⟩
theorem SFits.fits (h:SFits mv pt lk) {l:List Rat} (hl:∀x∈l,(∃xs∈mv,x∈xs)∨(∃xs∈pt,x∈xs)∨(∃xs∈lk,x∈xs)∨x=0):Fits l:=by
 obtain ⟨M,V,h0,h1,h2,h3,h4,h5⟩:=h
 refine ⟨M,V,h0,Nat.le_trans h1 (Nat.pow_le_pow_right (by decide) (by decide)),Nat.le_trans h2 (Nat.pow_le_pow_right (by decide) (by decide)),fun x hx=>?_⟩
 rcases hl x hx with ⟨xs,a,b⟩ | ⟨xs,a,b⟩ | ⟨xs,a,b⟩ | rfl
 ·exact h3 xs a x b
 ·exact h4 xs a x b
 ·exact h5 xs a x b
 ·exact Fr.zero
theorem SFits.turn (h:SFits mv pt lk):SFits (turnQ mv mv.length) lk pt:=by
 obtain ⟨M,V,h0,h1,h2,h3,h4,h5⟩:=h
 refine ⟨M,V,h0,h1,h2,fun ys hy y hy'=>?_,h5,h4⟩
 obtain ⟨j,_,rfl⟩:=List.mem_map.mp hy
 obtain ⟨xs,hx,rfl⟩:=List.mem_map.mp hy'
 by_cases hj:j < xs.length
 ·rw[List.getD_eq_getElem?_getD,List.getElem?_eq_getElem hj]
  exact h3 xs hx _ (List.getElem_mem hj)
 ·rw[List.getD_eq_getElem?_getD,List.getElem?_eq_none (by lia)]
  exact Fr.zero
theorem SysD.turn (h:SysD mv pt lk):SysD (turnQ mv mv.length) lk pt:=⟨by rw[turnQ_len];exact h.n8,h.o4,h.i4,fun xs hx=>by rw[turnQ_row xs hx,turnQ_len],fun xs hx=>by rw[turnQ_len];exact h.lw xs hx,fun xs hx=>by rw[turnQ_len];exact h.pw xs hx⟩
end
def sp_wholeI:Sp:=fun vs H Q _=>∃i:Int,vs=[.int i]∧Q (.bl true) H
def sp_isnumP (K:PySem.W.Frag):Sp:=fun vs H Q _=>∃x n,vs=[x]∧NumR K H x n∧NumOk n∧∀H',Same H H'->Q (.bl true) H'
inductive sp_want (vs:List V) (H:Hp) (Q:VK) (E9:XK):Prop
 | mk (p:Addr) (xs:List V) (a m:Int):vs=[.ref p,.int a,.int m]->H p=some (.lst xs)->(xs.length:Int)<=m->Q .non H->sp_want  vs H Q E9
inductive sp_copR (K:PySem.W.Frag) (vs:List V) (H:Hp) (Q:VK) (E9:XK):Prop
 | mk (p:Addr) (H0:Hp) (rows:List (List Rat)) (w:Nat):vs=[.ref p,.int w]->GridQ K H0 H p rows->rows.length<=1000->w<=1000->((∀xs∈rows,xs.length=w∧∀x∈xs,NumOk (nm x)))->(∀r H',H r=none->Same H H'->GridQ K H H' r rows->Q (.ref r) H')->sp_copR K vs H Q E9
def GOk (rows:List (List Rat)):Prop:=∀xs∈rows,∀x∈xs,NumOk (nm x)
inductive sp_init (K:PySem.W.Frag) (C:Addr) (vs:List V) (H:Hp) (Q:VK) (E9:XK):Prop
 | mk (x dx p q r:Addr) (Hb H0 H1 H2:Hp) (mv pt lk:List (List Rat)):vs=[.ref x,.ref p,.ref q,.ref r]->Hb x=none->Hb dx=none->dx≠x->H=upd (upd Hb dx (.own x)) x (.ins C dx [])->GridQ K H0 Hb p mv->GridQ K H1 Hb q pt->GridQ K H2 Hb r lk->SysD mv pt lk->GOk mv->GOk pt->GOk lk->(∀H',Same Hb H'->SysQ K Hb H' C x mv pt lk->Q .non H')->sp_init K C vs H Q E9
def movedQ (mv pt:List (List Rat)) (st pu:List Rat):List Rat:=List.zipWith (fun line col=>dotQ (line++col) (st++pu)) mv (turnQ pt mv.length)
inductive sp_movedQ (K:PySem.W.Frag) (C:Addr) (vs:List V) (H:Hp) (Q:VK) (E9:XK):Prop
 | mk (x p q:Addr) (H0:Hp) (mv pt lk:List (List Rat)) (st pu:List Rat):vs=[.ref x,.ref p,.ref q]->SysQ K H0 H C x mv pt lk->SysD mv pt lk->SFits mv pt lk->RowQ K H p st->RowQ K H q pu->st.length=mv.length->pu.length=pt.length->Fits (st++pu)->(∀r H',H r=none->Same H H'->RowQ K H' r (movedQ mv pt st pu)->Q (.ref r) H')->sp_movedQ K C vs H Q E9
def seenQ (lk:List (List Rat)) (st:List Rat):List Rat:=lk.map fun xs=>dotQ xs st
inductive sp_seenQ (K:PySem.W.Frag) (C:Addr) (vs:List V) (H:Hp) (Q:VK) (E9:XK):Prop
 | mk (x p:Addr) (H0:Hp) (mv pt lk:List (List Rat)) (st:List Rat):vs=[.ref x,.ref p]->SysQ K H0 H C x mv pt lk->SysD mv pt lk->SFits mv pt lk->RowQ K H p st->st.length=mv.length->Fits st->(∀r H',H r=none->Same H H'->RowQ K H' r (seenQ lk st)->Q (.ref r) H')->sp_seenQ K C vs H Q E9
inductive sp_turnedQ (K:PySem.W.Frag) (C:Addr) (vs:List V) (H:Hp) (Q:VK) (E9:XK):Prop
 | mk (x:Addr) (H0:Hp) (mv pt lk:List (List Rat)):vs=[.ref x]->SysQ K H0 H C x mv pt lk->SysD mv pt lk->SFits mv pt lk->(∀r H',H r=none->Same H H'->SysQ K H H' C r (turnQ mv mv.length) lk pt->Q (.ref r) H')->sp_turnedQ K C vs H Q E9
theorem SFits.ok {mv pt lk:List (List Rat)} (h:SFits mv pt lk):GOk mv∧GOk pt∧GOk lk :=
 ⟨fun xs hx x hx'=>(h.fits (l:=xs) fun y hy=>.inl ⟨xs,hx,hy⟩).ok hx',fun xs hx x hx'=>(h.fits (l:=xs) fun y hy=>.inr (.inl ⟨xs,hx,hy⟩)).ok hx',fun xs hx x hx'=>(h.fits (l:=xs) fun y hy=>.inr (.inr (.inl ⟨xs,hx,hy⟩))).ok hx'⟩
end L2
namespace L2
open PySem PySem.Spec PyProof.Rows Nm
def RowP (K:PySem.W.Frag) (A:Addr->Prop) (H:Hp) (n:Nat) (C:Rat->Prop) (x:V):Prop:=∃q qs,x=V.ref q∧A q∧RowQ K H q qs∧qs.length=n∧∀y∈qs,C y
section
variable {K:PySem.W.Frag} {A A':Addr->Prop} {H H' H0:Hp} {n:Nat} {C C':Rat->Prop} {x v:V} {q b l p:Addr} {xs zs:List V} {y:Rat} {o:HO}
theorem RowP.same (h:RowP K A H n C x) (e:Same H H'):RowP K A H' n C x:=by obtain ⟨q,qs,a,c,r,z⟩:=h;exact ⟨q,qs,a,c,r.same e,z⟩
theorem RowP.upto (h:RowP K A H n C x) (u:Upto b H H') (B:Bag H b) (nb:¬A b):RowP K A H' n C x:=by obtain ⟨q,qs,a,c,r,z⟩:=h;exact ⟨q,qs,a,c,r.upto u B (fun e=>nb (by rw[← e];exact c)),z⟩
theorem RowP.other (h:RowP K A H n C x) (hl:H l=some (.lst zs)) (nl:¬A l):RowP K A (upd H l o) n C x:=by obtain ⟨q,qs,a,c,r,z⟩:=h;exact ⟨q,qs,a,c,r.updL hl (fun e=>nl (by rw[← e];exact c)),z⟩
theorem RowP.weak (h:RowP K A H n C x) (w:∀q,A q->A' q) (wc:∀y,C y->C' y):RowP K A' H n C' x:=by obtain ⟨q,qs,a,c,r,l,z⟩:=h;exact ⟨q,qs,a,w q c,r,l,fun y hy=>wc y (z y hy)⟩
theorem paired_set {α β:Type} {F:α->β->Prop} {a:α} {b:β} (h:F a b):∀{l1:List α} {l2:List β} (j:Nat),Paired F l1 l2->Paired F (l1.set j a) (l2.set j b)
 | _,_,_,.nil=>.nil
 | _,_,0,.cons _ t=>.cons h t
 | _,_,j+1,.cons r t=>.cons r (paired_set h j t)
theorem RowP.put (h:RowP K A H n C x) (hq:H q=some (.lst zs)) (hv:NumQ K H y v) (hc:C y) (j:Nat):RowP K A (upd H q (.lst (zs.set j v))) n C x:=by
 obtain ⟨q1,qs,rfl,a,⟨zs1,g1,pr⟩,l1,c1⟩:=h
 by_cases e:q1=q
 ·subst e
  rw[hq] at g1
  cases g1
  refine ⟨q1,qs.set j y,rfl,a,⟨_,upd_same,paired_set (hv.updL hq) j (Paired.imp' (fun _ _ z=>z.updL hq) pr)⟩,by rw[List.length_set];exact l1,fun z hz=>?_⟩
  rcases List.mem_or_eq_of_mem_set hz with hz | rfl
  ·exact c1 z hz
  ·exact hc
 ·exact ⟨q1,qs,rfl,a,⟨zs1,by rw[upd_ne e];exact g1,Paired.imp' (fun _ _ z=>z.updL hq) pr⟩,l1,c1⟩
theorem RowP.at (h:RowP K A H n C x):∃q zs qs,x=V.ref q∧A q∧H q=some (.lst zs)∧zs.length=n∧Paired (NumQ K H) qs zs∧qs.length=n∧∀y∈qs,C y:=by obtain ⟨q,qs,a,c,⟨zs,g,pr⟩,l,z⟩:=h;exact ⟨q,zs,qs,a,c,g,by rw[← pr.length];exact l,pr,l,z⟩
end
theorem dr_int {W:Nat} {i:Int} (h:i.natAbs<=W) (hW:1<=W):Dr W (i:Rat):=⟨h,hW⟩
def GridP (K:PySem.W.Frag) (A:Addr->Prop) (H:Hp) (n:Nat) (C:Rat->Prop) (p:Addr) (m:Nat):Prop:=∃us,H p=some (.lst us)∧us.length=m∧¬A p∧∀x∈us,RowP K A H n C x
inductive sp_moveQ (K:PySem.W.Frag) (vs:List V) (H:Hp) (Q:VK) (E9:XK):Prop
 | mk (b:Addr) (n w:Nat) (way first:Int):vs=[.ref b,.int n,.int way,.int first,.int w]->Bag H b->n<=8->1<=w->w<=1000000->(∀r us H',H r=none->H' r=some (.lst us)->us.length=n->(∀x∈us,RowP K (fun q=>H q=none∧q≠r) H' n (Dr (max w 6)) x)->Bag H' b->Upto b H H'->Q (.ref r) H')->sp_moveQ K vs H Q E9
structure Mix (K:PySem.W.Frag) (A:Addr->Prop) (H:Hp) (n:Nat) (C:Rat->Prop) (m p l b q0:Addr) (i o:Nat):Prop where
 bag:Bag H b
 inn:Inner H b q0
 gm:GridP K A H n C m n
 gp:GridP K A H n C p i
 gl:GridP K A H n C l o
structure MixA (A:Addr->Prop) (m p l b q0:Addr):Prop where
 am:¬A m
 ap:¬A p
 al:¬A l
 ab:¬A b
 aq:¬A q0
 mb:m≠b
 pb:p≠b
 lb:l≠b
 mp:m≠p
 ml:m≠l
 mq:m≠q0
section
variable {K:PySem.W.Frag} {A:Addr->Prop} {H H':Hp} {n:Nat} {C C':Rat->Prop} {m p l b q0 q:Addr} {i o:Nat} {zs:List V} {y:Rat} {v:V}
theorem Mix.same (h:Mix K A H n C m p l b q0 i o) (e:Same H H'):Mix K A H' n C m p l b q0 i o:=by
 obtain ⟨B,I,⟨us,g1,l1,a1,r1⟩,⟨ws,g2,l2,a2,r2⟩,⟨vs,g3,l3,a3,r3⟩⟩:=h
 exact ⟨B.same e,(e.upto (p:=b)).2 _ I,⟨us,e _ _ g1,l1,a1,fun x hx=>(r1 x hx).same e⟩,⟨ws,e _ _ g2,l2,a2,fun x hx=>(r2 x hx).same e⟩,⟨vs,e _ _ g3,l3,a3,fun x hx=>(r3 x hx).same e⟩⟩
theorem Mix.upto (h:Mix K A H n C m p l b q0 i o) (M:MixA A m p l b q0) (u:Upto b H H') (B':Bag H' b):Mix K A H' n C m p l b q0 i o:=by
 obtain ⟨B,I,⟨us,g1,l1,a1,r1⟩,⟨ws,g2,l2,a2,r2⟩,⟨vs,g3,l3,a3,r3⟩⟩:=h
 exact ⟨B',u.2 _ I,⟨us,u.other M.mb g1,l1,a1,fun x hx=>(r1 x hx).upto u B M.ab⟩,⟨ws,u.other M.pb g2,l2,a2,fun x hx=>(r2 x hx).upto u B M.ab⟩,⟨vs,u.other M.lb g3,l3,a3,fun x hx=>(r3 x hx).upto u B M.ab⟩⟩
theorem Mix.weak (h:Mix K A H n C m p l b q0 i o) (w:∀y,C y->C' y):Mix K A H n C' m p l b q0 i o:=by
 obtain ⟨B,I,⟨us,g1,l1,a1,r1⟩,⟨ws,g2,l2,a2,r2⟩,⟨vs,g3,l3,a3,r3⟩⟩:=h
 exact ⟨B,I,⟨us,g1,l1,a1,fun x hx=>(r1 x hx).weak (fun _ z=>z) w⟩,⟨ws,g2,l2,a2,fun x hx=>(r2 x hx).weak (fun _ z=>z) w⟩,⟨vs,g3,l3,a3,fun x hx=>(r3 x hx).weak (fun _ z=>z) w⟩⟩
theorem Mix.put (h:Mix K A H n C m p l b q0 i o) (M:MixA A m p l b q0) (aq:A q) (hq:H q=some (.lst zs)) (hv:NumQ K H y v) (hc:C y) (j:Nat):Mix K A (upd H q (.lst (zs.set j v))) n C m p l b q0 i o:=by
 obtain ⟨B,I,⟨us,g1,l1,a1,r1⟩,⟨ws,g2,l2,a2,r2⟩,⟨vs,g3,l3,a3,r3⟩⟩:=h
 have ne:∀{z},¬A z->z≠q:=fun h e=>h (by rw[e];exact aq)
 exact ⟨B.upd I (ne M.ab).symm (ne M.aq).symm,I.upd (ne M.ab).symm,⟨us,by rw[upd_ne (ne M.am)];exact g1,l1,a1,fun x hx=>(r1 x hx).put hq hv hc j⟩,⟨ws,by rw[upd_ne (ne M.ap)];exact g2,l2,a2,fun x hx=>(r2 x hx).put hq hv hc j⟩,⟨vs,by rw[upd_ne (ne M.al)];exact g3,l3,a3,fun x hx=>(r3 x hx).put hq hv hc j⟩⟩
theorem Mix.row (h:Mix K A H n C m p l b q0 i o) (M:MixA A m p l b q0) {us:List V} (gm:H m=some (.lst us)) (hx:RowP K A H n C v) (j:Nat):Mix K A (upd H m (.lst (us.set j v))) n C m p l b q0 i o:=by
 obtain ⟨B,I,⟨us',g1,l1,a1,r1⟩,⟨ws,g2,l2,a2,r2⟩,⟨vs,g3,l3,a3,r3⟩⟩:=h
 rw[gm] at g1
 cases g1
 refine ⟨B.upd I M.mb M.mq,I.upd M.mb,⟨_,upd_same,by rw[List.length_set];exact l1,a1,fun x hx'=>?_⟩,⟨ws,by rw[upd_ne M.mp.symm];exact g2,l2,a2,fun x hx=>(r2 x hx).other gm M.am⟩,⟨vs,by rw[upd_ne M.ml.symm];exact g3,l3,a3,fun x hx=>(r3 x hx).other gm M.am⟩⟩
 rcases List.mem_or_eq_of_mem_set hx' with hx' | rfl
 ·exact (r1 x hx').other gm M.am
 ·exact hx.other gm M.am
end
inductive sp_mixedQ (K:PySem.W.Frag) (vs:List V) (H:Hp) (Q:VK) (E9:XK):Prop
 | mk (b m p l q0:Addr) (n i o M V:Nat) (A:Addr->Prop):vs=[.ref b,.ref m,.ref p,.ref l]->MixA A m p l b q0->Mix K A H n (Fr M V) m p l b q0 i o->n<=8->i<=4->o<=4->0 < M->M<=2^800->V<=2^20->(∀q,H q=none->A q)->(∀r H',H' r=some (.tup [.ref m,.ref p,.ref l])->Mix K A H' n (Fr M (3^60*V)) m p l b q0 i o->(∀c u,H c=some u->c≠b->¬A c->c≠m->H' c=some u)->Q (.ref r) H')->sp_mixedQ K vs H Q E9
theorem pow3_le {t V:Nat} (h:t<=60) (hV:V<=2^20):3^t*V<=2^140:=by
 have h1:3^t<=3^60:=Nat.pow_le_pow_right (by decide) h
 have h2:3^60<=2^120:=by
  have:(2:Nat)^120=4^60:=by rw[show (120:Nat)=2*60 from rfl,Nat.pow_mul]
  rw[this];exact Nat.pow_le_pow_left (by decide) 60
 calc 3^t*V<=2^120*2^20:=Nat.mul_le_mul (Nat.le_trans h1 h2) hV
  _=2^140:=by rw[← Nat.pow_add]
theorem frP_szn {M V t:Nat} {x:Rat} (h0:0 < M) (h1:M<=2^800) (hV:V<=2^20) (ht:t<=60) (h:Fr M (3^t*V) x):SzN x :=
 fr_szn h0 (Nat.le_trans h1 (Nat.pow_le_pow_right (by decide) (by decide))) (Nat.le_trans (pow3_le ht hV) (Nat.pow_le_pow_right (by decide) (by decide))) h
theorem fr_int2 {M:Nat} {z:Int} (h:z.natAbs<=2):Fr 1 2 (z:Rat):=Fr.int h
theorem fr_step {M W:Nat} {a c:Rat} {z:Int} (hz:z.natAbs<=2) (ha:Fr M W a) (hc:Fr M W c):Fr M (3*W) (a+(z:Rat)*c):=by
 have h:=(fr_int2 (M:=M) hz).mul hc
 rw[Nat.one_mul] at h
 exact (ha.add h).mono (by lia)
theorem szn_int {z:Int} (h:z.natAbs<=1000):SzN (z:Rat):=fr_szn (M:=1) (V:=1000) (by decide) (Nat.one_le_two_pow) (Nat.le_trans (show 1000<=2^10 by decide) (Nat.pow_le_pow_right (by decide) (by decide))) (Fr.int h)
theorem szn_mulP {M W:Nat} {c:Rat} {z:Int} (hz:z.natAbs<=2) (hc:Fr M W c) (h0:0 < M) (h1:M<=2^800) (hW:W<=2^140):SzN ((z:Rat)*c):=by
 have h:=(fr_int2 (M:=M) hz).mul hc
 rw[Nat.one_mul] at h
 refine fr_szn h0 (Nat.le_trans h1 (Nat.pow_le_pow_right (by decide) (by decide))) (Nat.le_trans (Nat.mul_le_mul_left 2 hW) ?_) h
 rw[show 2*2^140=2^141 by rw[Nat.pow_succ,Nat.mul_comm]]
 exact Nat.pow_le_pow_right (by decide) (by decide)
theorem pow3_s {t V:Nat}:3*(3^t*V)=3^(t+1)*V:=by rw[Nat.pow_succ,Nat.mul_comm (3^t) 3,Nat.mul_assoc]
theorem pow3_m {s t V:Nat} (h:s<=t):3^s*V<=3^t*V:=Nat.mul_le_mul_right _ (Nat.pow_le_pow_right (by decide) h)
def KeepC (A:Addr->Prop) (b m:Addr) (H H':Hp):Prop:=∀c u,H c=some u->c≠b->¬A c->c≠m->H' c=some u
theorem KeepC.same {A:Addr->Prop} {b m:Addr} {H H1 H2:Hp} (h:KeepC A b m H H1) (s:Same H1 H2):KeepC A b m H H2:=fun c u e n1 n2 n3=>s _ _ (h c u e n1 n2 n3)
theorem KeepC.upto {A:Addr->Prop} {b m:Addr} {H H1 H2:Hp} (h:KeepC A b m H H1) (s:Upto b H1 H2):KeepC A b m H H2:=fun c u e n1 n2 n3=>s.1 _ _ (h c u e n1 n2 n3) n1
theorem KeepC.upd {A:Addr->Prop} {b m q:Addr} {H H1:Hp} {o:HO} (h:KeepC A b m H H1) (hq:A q∨q=m):KeepC A b m H (L2.upd H1 q o):=fun c u e n1 n2 n3=>by
 rw[upd_ne]
 ·exact h c u e n1 n2 n3
 ·rintro rfl
  rcases hq with hq | hq
  ·exact n2 hq
  ·exact n3 hq
theorem KeepC.new {A:Addr->Prop} {b m r:Addr} {H H1:Hp} (h:KeepC A b m H H1) (hA:∀q,H q=none->A q) (B:Bag H1 b) (hm:H1 m≠none) (hr:H1 r=none):A r:=by
 by_cases z:A r
 ·exact z
 ·cases e:H r with
  | none=>exact hA r e
  | some u =>
   have:=h r u e (fun y=>B.at (by rw[← y];exact hr)) z (fun y=>hm (by rw[← y];exact hr))
   rw[hr] at this;cases this
structure MvJ (K:PySem.W.Frag) (A:Addr->Prop) (n:Nat) (C:Rat->Prop) (r p b q0:Addr) (us:List V) (H0 H:Hp):Prop where
 gr:H r=some (.lst us)
 ru:∀x∈us,RowP K A H n C x
 rp:RowP K A H n C (.ref p)
 bag:Bag H b
 inn:Inner H b q0
 up:Upto b H0 H
section
variable {K:PySem.W.Frag} {A:Addr->Prop} {n:Nat} {C:Rat->Prop} {r p b q0:Addr} {us:List V} {H0 H H':Hp} {y:Rat} {v:V}
theorem MvJ.same (h:MvJ K A n C r p b q0 us H0 H) (e:Same H H'):MvJ K A n C r p b q0 us H0 H':=⟨e _ _ h.gr,fun x hx=>(h.ru x hx).same e,h.rp.same e,h.bag.same e,(e.upto (p:=b)).2 _ h.inn,h.up.same e⟩
theorem MvJ.upto (h:MvJ K A n C r p b q0 us H0 H) (u:Upto b H H') (B:Bag H' b) (nb:¬A b) (rb:r≠b):MvJ K A n C r p b q0 us H0 H':=⟨u.other rb h.gr,fun x hx=>(h.ru x hx).upto u h.bag nb,h.rp.upto u h.bag nb,B,u.2 _ h.inn,h.up.trans u⟩
theorem MvJ.put (h:MvJ K A n C r p b q0 us H0 H) (ap:A p) (nr:¬A r) (nb:¬A b) (nq:¬A q0) (hp:H0 p=none) (hv:NumQ K H y v) (hc:C y) (j:Nat):∃zs,H p=some (.lst zs)∧zs.length=n∧MvJ K A n C r p b q0 us H0 (upd H p (.lst (zs.set j v))):=by
 obtain ⟨q,zs,qs,e,a,g,l,_⟩:=h.rp.at
 cases e
 have ne:∀{z},¬A z->z≠p:=fun h e=>h (by rw[e];exact ap)
 exact ⟨zs,g,l,by rw[upd_ne (ne nr)];exact h.gr,fun x hx=>(h.ru x hx).put g hv hc j,h.rp.put g hv hc j,h.bag.upd h.inn (ne nb).symm (ne nq).symm,h.inn.upd (ne nb).symm,h.up.after hp⟩
end
theorem rowsP_pick {K:PySem.W.Frag} {A:Addr->Prop} {H:Hp} {n:Nat} {C:Rat->Prop} {us:List V} (h:∀x∈us,RowP K A H n C x):∃rows:List (List Rat),Paired (fun qs x=>∃q,x=V.ref q∧A q∧RowQ K H q qs) rows us∧rows.length=us.length∧∀qs∈rows,qs.length=n∧∀y∈qs,C y:=by
 induction us with
 | nil=>exact ⟨[],.nil,rfl,fun _ z=>nomatch z⟩
 | cons u us ih =>
  obtain ⟨rows,pr,l,hr⟩:=ih fun x hx=>h x (.tail _ hx)
  obtain ⟨q,qs,e,a,r,l1,c⟩:=h u (.head _)
  refine ⟨qs :: rows,.cons ⟨q,e,a,r⟩ pr,by simp [l],fun zs hz=>?_⟩
  rcases List.mem_cons.mp hz with rfl | hz
  ·exact ⟨l1,c⟩
  ·exact hr zs hz
theorem rowsP_back {K:PySem.W.Frag} {A:Addr->Prop} {H:Hp} {n:Nat} {C:Rat->Prop} {us:List V} {rows:List (List Rat)} (pr:Paired (fun qs x=>∃q,x=V.ref q∧A q∧RowQ K H q qs) rows us) (h:∀qs∈rows,qs.length=n∧∀y∈qs,C y):∀x∈us,RowP K A H n C x:=fun x hx=>by
 obtain ⟨qs,hq,q,e,a,r⟩:=paired_mem pr hx
 exact ⟨q,qs,e,a,r,(h qs hq).1,(h qs hq).2⟩
theorem flat_lenS {n:Nat}:∀{rows:List (List Rat)},(∀xs∈rows,xs.length=n)->rows.flatten.length=rows.length*n
 | [],_=>by simp
 | xs :: rows,h=>by
  rw[List.flatten_cons,List.length_append,h xs (.head _),flat_lenS fun ys hy=>h ys (.tail _ hy),List.length_cons,Nat.succ_mul,Nat.add_comm]
theorem rows_fr {c n:Nat} {rows:List (List Rat)} (h:∀qs∈rows,qs.length=n∧∀y∈qs,Dr (2^c) y):∃M:Nat,0 < M∧M<=2^(c*(rows.length*n))∧∀qs∈rows,∀y∈qs,Fr M (2^c) y:=by
 have fl:rows.flatten.length=rows.length*n:=flat_lenS fun ys hy=>(h ys hy).1
 have hm:∀a∈rows.flatten.map (·.den),0 < a∧a<=2^c:=fun a ha=>by
  obtain ⟨y,hy,rfl⟩:=List.mem_map.mp ha
  obtain ⟨qs,hq,hy⟩:=List.mem_flatten.mp hy
  exact ⟨y.den_pos,((h qs hq).2 y hy).2⟩
 refine ⟨prodN (rows.flatten.map (·.den)),prodN_pos fun a ha=>(hm a ha).1,?_,fun qs hq y hy=>?_⟩
 ·have:=prodN_le (k:=c) (l:=rows.flatten.map (·.den)) fun a ha=>(hm a ha).2
  rwa [List.length_map,fl] at this
 ·exact (Fr.own y ((h qs hq).2 y hy).1).dvd (prodN_dvd (List.mem_map.mpr ⟨y,List.mem_flatten.mpr ⟨qs,hq,hy⟩,rfl⟩))
theorem Mix.fr {K:PySem.W.Frag} {A:Addr->Prop} {H:Hp} {n c:Nat} {m p l b q0:Addr} {i o:Nat} (h:Mix K A H n (Dr (2^c)) m p l b q0 i o):∃M,0 < M∧M<=2^(c*((n+i+o)*n))∧Mix K A H n (Fr M (2^c)) m p l b q0 i o:=by
 obtain ⟨B,I,⟨us,g1,l1,a1,r1⟩,⟨ws,g2,l2,a2,r2⟩,⟨vs,g3,l3,a3,r3⟩⟩:=h
 obtain ⟨ra,pa,la,ha⟩:=rowsP_pick r1
 obtain ⟨rb,pb,lb,hb⟩:=rowsP_pick r2
 obtain ⟨rc,pc,lc,hc⟩:=rowsP_pick r3
 obtain ⟨M,m0,m1,m2⟩:=rows_fr (c:=c) (n:=n) (rows:=ra++rb++rc) fun qs hq=>by
  rcases List.mem_append.mp hq with hq | hq
  ·rcases List.mem_append.mp hq with hq | hq
   ·exact ha qs hq
   ·exact hb qs hq
  ·exact hc qs hq
 refine ⟨M,m0,?_,⟨B,I,⟨us,g1,l1,a1,rowsP_back pa fun qs hq=>⟨(ha qs hq).1,m2 qs (by simp [hq])⟩⟩,⟨ws,g2,l2,a2,rowsP_back pb fun qs hq=>⟨(hb qs hq).1,m2 qs (by simp [hq])⟩⟩,⟨vs,g3,l3,a3,rowsP_back pc fun qs hq=>⟨(hc qs hq).1,m2 qs (by simp [hq])⟩⟩⟩⟩
 rw[List.length_append,List.length_append,la,lb,lc,l1,l2,l3] at m1
 exact m1
theorem gridP_grid {K:PySem.W.Frag} {A:Addr->Prop} {H H0:Hp} {n m:Nat} {C:Rat->Prop} {p:Addr} (h:GridP K A H n C p m) (w:∀q,A q->H0 q=none):∃rows,GridQ K H0 H p rows∧rows.length=m∧∀qs∈rows,qs.length=n∧∀y∈qs,C y:=by
 obtain ⟨us,g,l,a,r⟩:=h
 obtain ⟨rows,pr,lr,hr⟩:=rowsP_pick r
 refine ⟨rows,⟨us,g,Paired.imp' (fun _ _ ⟨q,e,aq,rq⟩=>⟨q,e,w q aq,rq⟩) pr,fun hm=>?_⟩,by rw[lr,l],hr⟩
 obtain ⟨q,_,e,aq,_⟩:=r _ hm
 cases e
 exact a aq
inductive sp_partsQ (K:PySem.W.Frag) (vs:List V) (H:Hp) (Q:VK) (E9:XK):Prop
 | mk (b:Addr) (n i o w c:Nat):vs=[.ref b,.int n,.int i,.int o,.int w]->Bag H b->n<=8->i<=4->o<=4->1<=w->w<=1000000->max w 6<=2^c->c<=20->c*((n+i+o)*n)<=800->(∀r m p l mv pt lk H',H' r=some (.tup [.ref m,.ref p,.ref l])->H m=none->H p=none->H l=none->GridQ K H H' m mv->GridQ K H H' p pt->GridQ K H H' l lk->mv.length=n->pt.length=i->lk.length=o->SysD mv pt lk->SFits mv pt lk->Bag H' b->Upto b H H'->Q (.ref r) H')->sp_partsQ K vs H Q E9
theorem KeepC.trans {A:Addr->Prop} {b m:Addr} {H H1 H2:Hp} (h:KeepC A b m H H1) (h':KeepC A b m H1 H2):KeepC A b m H H2:=fun c u e n1 n2 n3=>h' c u (h c u e n1 n2 n3) n1 n2 n3
structure PtI (K:PySem.W.Frag) (A:Addr->Prop) (n:Nat) (C:Rat->Prop) (m p l b q0:Addr) (i o:Nat) (ws vs:List V) (H0 H:Hp):Prop where
 mix:Mix K A H n C m p l b q0 i o
 gp:H p=some (.lst ws)
 gl:H l=some (.lst vs)
 kp:KeepC A b m H0 H
section
variable {K:PySem.W.Frag} {A:Addr->Prop} {n:Nat} {C:Rat->Prop} {m p l b q0 q:Addr} {i o:Nat} {ws vs:List V} {H0 H H':Hp} {y:Rat} {v:V}
theorem PtI.same (h:PtI K A n C m p l b q0 i o ws vs H0 H) (e:Same H H'):PtI K A n C m p l b q0 i o ws vs H0 H':=⟨h.mix.same e,e _ _ h.gp,e _ _ h.gl,h.kp.same e⟩
theorem PtI.upto (h:PtI K A n C m p l b q0 i o ws vs H0 H) (M:MixA A m p l b q0) (u:Upto b H H') (B:Bag H' b):PtI K A n C m p l b q0 i o ws vs H0 H':=⟨h.mix.upto M u B,u.other M.pb h.gp,u.other M.lb h.gl,h.kp.upto u⟩
theorem PtI.row (h:PtI K A n C m p l b q0 i o ws vs H0 H) {x:V} (hx:x∈ws∨x∈vs):RowP K A H n C x:=by
 obtain ⟨ws',g,_,_,r⟩:=h.mix.gp
 obtain ⟨vs',g',_,_,r'⟩:=h.mix.gl
 rw[h.gp] at g
 rw[h.gl] at g'
 cases g
 cases g'
 rcases hx with hx | hx
 ·exact r x hx
 ·exact r' x hx
theorem PtI.put (h:PtI K A n C m p l b q0 i o ws vs H0 H) (M:MixA A m p l b q0) (hx:V.ref q∈ws∨V.ref q∈vs) (hv:NumQ K H y v) (hc:C y) (j:Nat):∃zs,H q=some (.lst zs)∧zs.length=n∧PtI K A n C m p l b q0 i o ws vs H0 (upd H q (.lst (zs.set j v))):=by
 obtain ⟨q',zs,qs,e,a,g,lz,_⟩:=(h.row hx).at
 cases e
 have ne:∀{z},¬A z->z≠q:=fun h e=>h (by rw[e];exact a)
 exact ⟨zs,g,lz,h.mix.put M a g hv hc j,by rw[upd_ne (ne M.ap)];exact h.gp,by rw[upd_ne (ne M.al)];exact h.gl,h.kp.upd (.inl a)⟩
end
theorem rowF_P {K:PySem.W.Frag} {A:Addr->Prop} {H0 H:Hp} {n:Nat} {C:Rat->Prop} {us:List V} {rows:List (List Rat)} (pr:Paired (RowF K H0 H) rows us) (h:∀qs∈rows,qs.length=n∧∀y∈qs,C y) (w:∀q,V.ref q∈us->H0 q=none->H q≠none->A q):∀x∈us,RowP K A H n C x:=fun x hx=>by
 obtain ⟨qs,hq,q,e,a,r⟩:=paired_mem pr hx
 subst e
 exact ⟨q,qs,rfl,w q hx a (by obtain ⟨_,g,_⟩:=r;rw[g];simp),r,(h qs hq).1,(h qs hq).2⟩
def sp_sizesS:Sp:=fun vs H Q _=>∃b,vs=[.ref b]∧Bag H b∧∀r (n i o w:Nat) H',H' r=some (.tup [.int n,.int i,.int o,.int w])->n<=5->i<=4->o<=4->(w=4∨w=9∨(w=1000000∧n<=2))->(n=5->i<=2∧o<=2)->Bag H' b->Upto b H H'->Q (.ref r) H'
end L2
namespace L2
open PySem PySem.Spec PyProof.Rows Nm
def PartsQ (K:PySem.W.Frag) (H0 H:Hp) (r:Addr) (mv pt lk:List (List Rat)):Prop:=∃m p l,H r=some (.tup [.ref m,.ref p,.ref l])∧H0 m=none∧H0 p=none∧H0 l=none∧GridQ K H0 H m mv∧GridQ K H0 H p pt∧GridQ K H0 H l lk
section
variable {K:PySem.W.Frag} {H H' H0 H1:Hp} {r b:Addr} {mv pt lk:List (List Rat)}
theorem PartsQ.same (h:PartsQ K H0 H r mv pt lk) (e:Same H H'):PartsQ K H0 H' r mv pt lk:=by obtain ⟨m,p,l,g,n1,n2,n3,g1,g2,g3⟩:=h;exact ⟨m,p,l,e _ _ g,n1,n2,n3,g1.same e,g2.same e,g3.same e⟩
theorem PartsQ.upto (h:PartsQ K H0 H r mv pt lk) (u:Upto b H H') (B:Bag H b) (nb:H0 b≠none):PartsQ K H0 H' r mv pt lk:=by
 obtain ⟨m,p,l,g,n1,n2,n3,g1,g2,g3⟩:=h
 exact ⟨m,p,l,u.tup B g,n1,n2,n3,g1.upto u B (fun z=>nb (by rw[← z];exact n1)) nb,g2.upto u B (fun z=>nb (by rw[← z];exact n2)) nb,g3.upto u B (fun z=>nb (by rw[← z];exact n3)) nb⟩
theorem PartsQ.weak (h:PartsQ K H0 H r mv pt lk) (e:∀q,H0 q=none->H1 q=none):PartsQ K H1 H r mv pt lk:=by
 obtain ⟨m,p,l,g,n1,n2,n3,⟨x1,y1,z1,w1⟩,⟨x2,y2,z2,w2⟩,⟨x3,y3,z3,w3⟩⟩:=h
 exact ⟨m,p,l,g,e _ n1,e _ n2,e _ n3,⟨x1,y1,Paired.imp' (fun _ _ ⟨q,a,b,c⟩=>⟨q,a,e _ b,c⟩) z1,w1⟩,⟨x2,y2,Paired.imp' (fun _ _ ⟨q,a,b,c⟩=>⟨q,a,e _ b,c⟩) z2,w2⟩,⟨x3,y3,Paired.imp' (fun _ _ ⟨q,a,b,c⟩=>⟨q,a,e _ b,c⟩) z3,w3⟩⟩
end
inductive sp_systemQ (K:PySem.W.Frag) (C:Addr) (vs:List V) (H:Hp) (Q:VK) (E9:XK):Prop
 | mk (r:Addr) (H0:Hp) (mv pt lk:List (List Rat)):vs=[.ref r]->PartsQ K H0 H r mv pt lk->SysD mv pt lk->SFits mv pt lk->(∀x H',H x=none->Same H H'->SysQ K H H' C x mv pt lk->Q (.ref x) H')->sp_systemQ K C vs H Q E9
def sp_drawnQ (K:PySem.W.Frag):Sp:=fun vs H Q _=>∃b,vs=[.ref b]∧Bag H b∧∀t r (w:Nat) mv pt lk H',H' t=some (.tup [.ref r,.int w])->PartsQ K H H' r mv pt lk->SysD mv pt lk->SFits mv pt lk->mv.length<=5->1<=w->w<=1000->Bag H' b->Upto b H H'->Q (.ref t) H'
inductive sp_nextQ (K:PySem.W.Frag) (vs:List V) (H:Hp) (Q:VK) (E9:XK):Prop
 | mk (r s u:Addr) (H0:Hp) (mv pt lk:List (List Rat)) (st pu:List Rat):vs=[.ref r,.ref s,.ref u]->PartsQ K H0 H r mv pt lk->SysD mv pt lk->SFits mv pt lk->RowQ K H s st->RowQ K H u pu->st.length=mv.length->pu.length=pt.length->Fits (st++pu)->(∀t H',H t=none->Same H H'->RowQ K H' t (movedQ mv pt st pu)->Q (.ref t) H')->sp_nextQ K vs H Q E9
inductive sp_fieldsQ (K:PySem.W.Frag) (C:Addr) (vs:List V) (H:Hp) (Q:VK) (E9:XK):Prop
 | mk (x r:Addr) (H0 H1:Hp) (mv pt lk:List (List Rat)):vs=[.ref x,.ref r]->SysQ K H0 H C x mv pt lk->PartsQ K H1 H r mv pt lk->SysD mv pt lk->SFits mv pt lk->(∀H',Same H H'->Q (.bl true) H')->sp_fieldsQ K C vs H Q E9
inductive sp_turnedL (K:PySem.W.Frag) (vs:List V) (H:Hp) (Q:VK) (E9:XK):Prop
 | mk (r:Addr) (H0:Hp) (mv pt lk:List (List Rat)):vs=[.ref r]->PartsQ K H0 H r mv pt lk->SysD mv pt lk->(∀q,H q=none->H0 q=none)->(∀t H',Same H H'->PartsQ K H0 H' t (turnQ mv mv.length) lk pt->Q (.ref t) H')->sp_turnedL K vs H Q E9
theorem pe_isTb {X:Cx} (K:PySem.W.Frag) {a:Expr} {ta:TE} {pos:Pos} {c:Str} {T:String} {p p2:Pos} (hg:Gl X "isinstance") (hm:X.mg "isinstance"=none) (hb:bootBuiltins c=some (.type T)) (hmc:X.mg c=none) (ha:PE X a ta) (hK:X.K=K:=by rfl) (hgc:Gl X c:=by rfl) (hn:c≠"__name__":=by decide)
  (hd:(c == ("__debug__":Str))=false:=by decide) (he:starEach [a,.Name c p2] X.env=[(false,eval a X.env),(false,eval (.Name c p2) X.env)]:=by rfl)
  (hpl:(backTo pos (starEach [.Name c p2] X.env)).any (·.1)=false:=by rfl) (he2:starEach [.Name c p2] X.env=[(false,eval (.Name c p2) X.env)]:=by rfl):PE X (.Call (.Name "isinstance" p) [a,.Name c p2] [] pos) (tUn (rIsT K T) ta):=by
 subst hK
 exact pe_isT hg hm hb hmc ha hgc hn hd he hpl he2
inductive sp_right33 (K:PySem.W.Frag) (C:Addr) (vs:List V) (H:Hp) (Q:VK) (E9:XK):Prop
 | mk (b x r:Addr) (w:Nat) (H0:Hp) (mv pt lk:List (List Rat)):vs=[.ref b,.ref x,.ref r,.int w]->Bag H b->H0 b≠none->SysQ K H0 H C x mv pt lk->PartsQ K H0 H r mv pt lk->SysD mv pt lk->SFits mv pt lk->(∀q,H q=none->H0 q=none)->1<=w->w<=1000->(∀H',Bag H' b->Upto b H H'->Q (.bl true) H')->sp_right33 K C vs H Q E9
end L2
namespace L2
open PySem PySem.Spec PyProof.Rows Nm
structure Both (K:PySem.W.Frag) (C:Addr) (H0 H:Hp) (x r:Addr) (mv pt lk:List (List Rat)):Prop where
 sys:SysQ K H0 H C x mv pt lk
 par:PartsQ K H0 H r mv pt lk
 dim:SysD mv pt lk
 fit:SFits mv pt lk
section
variable {K:PySem.W.Frag} {C x r b:Addr} {H0 H H':Hp} {mv pt lk:List (List Rat)}
theorem Both.same (h:Both K C H0 H x r mv pt lk) (e:Same H H'):Both K C H0 H' x r mv pt lk:=⟨h.sys.same e,h.par.same e,h.dim,h.fit⟩
theorem Both.upto (h:Both K C H0 H x r mv pt lk) (u:Upto b H H') (B:Bag H b) (nb:H0 b≠none):Both K C H0 H' x r mv pt lk:=⟨h.sys.upto u B nb,h.par.upto u B nb,h.dim,h.fit⟩
end
inductive sp_movR (K:PySem.W.Frag) (C:Addr) (vs:List V) (H:Hp) (Q:VK) (E9:XK):Prop
 | mk (x r s u:Addr) (H0:Hp) (mv pt lk:List (List Rat)) (st pu:List Rat):vs=[.ref x,.ref r,.ref s,.ref u]->Both K C H0 H x r mv pt lk->RowQ K H s st->RowQ K H u pu->st.length=mv.length->pu.length=pt.length->Fits (st++pu)->(∀H',Same H H'->Q (.bl true) H')->sp_movR K C vs H Q E9
inductive sp_seeR (K:PySem.W.Frag) (C:Addr) (vs:List V) (H:Hp) (Q:VK) (E9:XK):Prop
 | mk (x r s:Addr) (H0:Hp) (mv pt lk:List (List Rat)) (st:List Rat):vs=[.ref x,.ref r,.ref s]->Both K C H0 H x r mv pt lk->RowQ K H s st->st.length=mv.length->Fits st->(∀H',Same H H'->Q (.bl true) H')->sp_seeR K C vs H Q E9
inductive sp_asked (K:PySem.W.Frag) (C:Addr) (vs:List V) (H:Hp) (Q:VK) (E9:XK):Prop
 | mk (b x r:Addr) (w:Nat) (f:Int) (H0:Hp) (mv pt lk:List (List Rat)):vs=[.ref b,.ref x,.ref r,.int w,.int f]->Bag H b->H0 b≠none->Both K C H0 H x r mv pt lk->1<=w->w<=1000->(∀H',Bag H' b->Upto b H H'->Q (.bl true) H')->sp_asked K C vs H Q E9
inductive sp_held (K:PySem.W.Frag) (C:Addr) (vs:List V) (H:Hp) (Q:VK) (E9:XK):Prop
 | mk (b x r:Addr) (w:Nat) (H0:Hp) (mv pt lk:List (List Rat)):vs=[.ref b,.ref x,.ref r,.int w]->Bag H b->H0 b≠none->Both K C H0 H x r mv pt lk->1<=w->w<=1000->(∀H',Bag H' b->Upto b H H'->Q (.bl true) H')->sp_held K C vs H Q E9
def KeepL (J:Addr->Prop) (H H':Hp):Prop:=∀c u,H c=some u->(J c->∀xs,u≠.lst xs)->H' c=some u
section
variable {K:PySem.W.Frag} {J J':Addr->Prop} {H H' H1 H0:Hp} {C p b x:Addr} {mv pt lk rows:List (List Rat)} {qs:List Rat}
theorem KeepL.of (e:Same H H'):KeepL J H H':=fun c u h _=>e c u h
theorem KeepL.trans (a:KeepL J H H1) (b:KeepL J H1 H'):KeepL J H H':=fun c u h n=>b c u (a c u h n) n
theorem KeepL.mono (a:KeepL J H H') (m:∀c u,H c=some u->J c->J' c):KeepL J' H H':=fun c u h n=>a c u h fun z=>n (m c u h z)
theorem KeepL.set {xs ys:List V} (h:H p=some (.lst xs)) (hJ:J p):KeepL J H (upd H p (.lst ys)):=fun c u e n=>by
 by_cases z:c=p
 ·subst z
  rw[h] at e
  cases e
  exact absurd rfl (n hJ xs)
 ·rw[upd_ne z];exact e
theorem KeepL.sqt {a:Addr} {xs:List V} (k:KeepL J H H') (h:SqT K H a xs):SqT K H' a xs:=by
 rcases h with (h | ⟨o,h⟩) | h
 ·exact .inl (.inl (k _ _ h fun _ _ z=>nomatch z))
 ·exact .inl (.inr ⟨o,k _ _ h fun _ _ z=>nomatch z⟩)
 ·exact .inr h
def SpR (J:Addr->Prop) (H:Hp) (x:V):Prop:=∃q zs,x=V.ref q∧J q∧H q=some (.lst zs)∧zs.length<=100
def Spo (J:Addr->Prop) (H:Hp) (p:Addr):Prop:=J p∧∃xs,H p=some (.lst xs)∧V.ref p∉xs∧xs.length<=100∧∀x∈xs,SpR J H x
theorem Spo.of (h:GridQ K H0 H p rows) (n:H0 p=none) (l:rows.length<=100) (lr:∀xs∈rows,xs.length<=100):Spo (fun c=>H0 c=none∧H c≠none) H p:=by
 obtain ⟨xs,g,r,nn⟩:=h
 refine ⟨⟨n,by rw[g];exact fun z=>nomatch z⟩,xs,g,nn,by rw[← r.length];exact l,fun x hx=>?_⟩
 obtain ⟨qs,hq,q,e,nq,zs,gq,rq⟩:=paired_mem r hx
 exact ⟨q,zs,e,⟨nq,by rw[gq];exact fun z=>nomatch z⟩,gq,by rw[← rq.length];exact lr qs hq⟩
end
inductive sp_spoil (vs:List V) (H:Hp) (Q:VK) (E9:XK):Prop
 | mk (p:Addr) (J:Addr->Prop):vs=[.ref p]->Spo J H p->(∀H',KeepL J H H'->Q .non H')->sp_spoil  vs H Q E9
end L2
namespace L2
open PySem PySem.Spec PyProof.Rows Nm
def nl (n:Nat):List Rat:=List.replicate n 0
def zl (one other:List (List Rat)):List (List Rat):=List.zipWith (·++·) one other
def wb (rows:List (List Rat)) (n:Nat):List (List Rat):=rows.map (·++nl n)
def wa (n:Nat) (rows:List (List Rat)):List (List Rat):=rows.map (nl n++·)
def jbk (a b:List (List Rat)):List (List Rat):=wb a b.length++wa a.length b
theorem nl_len {n:Nat}:(nl n).length=n:=List.length_replicate
section
variable {mv1 pt1 lk1 mv2 pt2 lk2:List (List Rat)} {s1 s2 p1 p2 p:List Rat}
def SFe (e:Nat) (mv pt lk:List (List Rat)):Prop:=∃M V:Nat,0 < M∧M<=2^e∧V<=2^400∧GF M V mv∧GF M V pt∧GF M V lk
def Ent (mv pt lk:List (List Rat)) (x:Rat):Prop:=(∃xs∈mv,x∈xs)∨(∃xs∈pt,x∈xs)∨(∃xs∈lk,x∈xs)∨x=0
theorem SFe.fits {e:Nat} (h:SFe e mv1 pt1 lk1) (he:e<=800):SFits mv1 pt1 lk1:=by obtain ⟨M,V,a,b,c,d⟩:=h;exact ⟨M,V,a,Nat.le_trans b (Nat.pow_le_pow_right (by decide) he),c,d⟩
theorem SFe.ent {e:Nat} (h:SFe e mv1 pt1 lk1):∃M V:Nat,0 < M∧M<=2^e∧V<=2^400∧∀x,Ent mv1 pt1 lk1 x->Fr M V x:=by
 obtain ⟨M,V,a,b,c,d1,d2,d3⟩:=h
 refine ⟨M,V,a,b,c,fun x hx=>?_⟩
 rcases hx with ⟨xs,h,h'⟩ | ⟨xs,h,h'⟩ | ⟨xs,h,h'⟩ | rfl
 ·exact d1 xs h x h'
 ·exact d2 xs h x h'
 ·exact d3 xs h x h'
 ·exact Fr.zero
theorem SFe.join {e1 e2:Nat} {mv pt lk:List (List Rat)} (h1:SFe e1 mv1 pt1 lk1) (h2:SFe e2 mv2 pt2 lk2) (he:e1+e2<=800) (hm:∀xs∈mv,∀x∈xs,Ent mv1 pt1 lk1 x∨Ent mv2 pt2 lk2 x) (hp:∀xs∈pt,∀x∈xs,Ent mv1 pt1 lk1 x∨Ent mv2 pt2 lk2 x) (hl:∀xs∈lk,∀x∈xs,Ent mv1 pt1 lk1 x∨Ent mv2 pt2 lk2 x):SFits mv pt lk:=by
 obtain ⟨M,V1,a,b,c,d⟩:=h1.ent
 obtain ⟨N,V2,a',b',c',d'⟩:=h2.ent
 have all:∀x,Ent mv1 pt1 lk1 x∨Ent mv2 pt2 lk2 x->Fr (M*N) (2^400) x:=fun x hx=>by
  rcases hx with hx | hx
  ·exact ((d x hx).scale N).mono c
  ·exact ((d' x hx).scaleL M).mono c'
 refine ⟨M*N,2^400,Nat.mul_pos a a',Nat.le_trans (Nat.mul_le_mul b b') ?_,Nat.le_refl _,fun xs h x h'=>all x (hm xs h x h'),fun xs h x h'=>all x (hp xs h x h'),fun xs h x h'=>all x (hl xs h x h')⟩
 rw[← Nat.pow_add]
 exact Nat.pow_le_pow_right (by decide) he
theorem nl_mem {n:Nat} {x:Rat} (h:x∈nl n):x=0:=List.eq_of_mem_replicate h
end
structure Sys (K:PySem.W.Frag) (H:Hp) (C x:Addr) (mv pt lk:List (List Rat)):Prop where
 is:∃H0,SysQ K H0 H C x mv pt lk
 dim:SysD mv pt lk
theorem Sys.same {K:PySem.W.Frag} {H H':Hp} {C x:Addr} {mv pt lk:List (List Rat)} (h:Sys K H C x mv pt lk) (e:Same H H'):Sys K H' C x mv pt lk:=⟨let ⟨H0,z⟩:=h.is;⟨H0,z.same e⟩,h.dim⟩
inductive sp_unfed (K:PySem.W.Frag) (C:Addr) (vs:List V) (H:Hp) (Q:VK) (E9:XK):Prop
 | mk (g t:Addr) (mv1 pt1 lk1 mv2 pt2 lk2:List (List Rat)):vs=[.ref g,.ref t]->Sys K H C g mv1 pt1 lk1->Sys K H C t mv2 pt2 lk2->(∀r H',H r=none->Same H H'->GridQ K H H' r (List.replicate mv2.length (nl mv1.length))->Q (.ref r) H')->sp_unfed K C vs H Q E9
inductive sp_sbs (K:PySem.W.Frag) (vs:List V) (H:Hp) (Q:VK) (E9:XK):Prop
 | mk (p q:Addr) (H0 H1:Hp) (one other:List (List Rat)):vs=[.ref p,.ref q]->GridQ K H0 H p one->GridQ K H1 H q other->one.length=other.length->one.length<=100->(∀xs∈one,xs.length<=100)->(∀xs∈other,xs.length<=100)->(∀r H',H r=none->Same H H'->GridQ K H H' r (zl one other)->Q (.ref r) H')->sp_sbs K vs H Q E9
inductive sp_mob (K:PySem.W.Frag) (C:Addr) (vs:List V) (H:Hp) (Q:VK) (E9:XK):Prop
 | mk (x y p q:Addr) (H0 H1:Hp) (mv1 pt1 lk1 mv2 pt2 lk2 io it:List (List Rat)):vs=[.ref x,.ref y,.ref p,.ref q]->Sys K H C x mv1 pt1 lk1->Sys K H C y mv2 pt2 lk2->GridQ K H0 H p io->GridQ K H1 H q it->io.length=mv1.length->it.length=mv2.length->(∀xs∈io,xs.length<=100)->(∀xs∈it,xs.length<=100)->(∀r H',H r=none->Same H H'->GridQ K H H' r (zl mv1 io++zl it mv2)->Q (.ref r) H')->sp_mob K C vs H Q E9
inductive sp_wbQ (K:PySem.W.Frag) (C:Addr) (vs:List V) (H:Hp) (Q:VK) (E9:XK):Prop
 | mk (p y:Addr) (H0:Hp) (rows mv pt lk:List (List Rat)):vs=[.ref p,.ref y]->GridQ K H0 H p rows->Sys K H C y mv pt lk->rows.length<=100->(∀xs∈rows,xs.length<=100)->(∀r H',H r=none->Same H H'->GridQ K H H' r (wb rows mv.length)->Q (.ref r) H')->sp_wbQ K C vs H Q E9
inductive sp_waQ (K:PySem.W.Frag) (C:Addr) (vs:List V) (H:Hp) (Q:VK) (E9:XK):Prop
 | mk (p y:Addr) (H0:Hp) (rows mv pt lk:List (List Rat)):vs=[.ref y,.ref p]->GridQ K H0 H p rows->Sys K H C y mv pt lk->rows.length<=100->(∀xs∈rows,xs.length<=100)->(∀r H',H r=none->Same H H'->GridQ K H H' r (wa mv.length rows)->Q (.ref r) H')->sp_waQ K C vs H Q E9
inductive sp_rtm (K:PySem.W.Frag) (C:Addr) (vs:List V) (H:Hp) (Q:VK) (E9:XK):Prop
 | mk (x y:Addr) (i o:Int) (mv1 pt1 lk1 mv2 pt2 lk2:List (List Rat)):vs=[.ref x,.ref y,.int i,.int o]->Sys K H C x mv1 pt1 lk1->Sys K H C y mv2 pt2 lk2->i<=4->o<=4->mv1.length+mv2.length<=8->Q .non H->sp_rtm K C vs H Q E9
inductive sp_beside (K:PySem.W.Frag) (C:Addr) (vs:List V) (H:Hp) (Q:VK) (E9:XK):Prop
 | mk (x y:Addr) (e1 e2:Nat) (mv1 pt1 lk1 mv2 pt2 lk2:List (List Rat)):vs=[.ref x,.ref y]->Sys K H C x mv1 pt1 lk1->Sys K H C y mv2 pt2 lk2->SFe e1 mv1 pt1 lk1->SFe e2 mv2 pt2 lk2->e1+e2<=800->mv1.length+mv2.length<=8->pt1.length+pt2.length<=4->lk1.length+lk2.length<=4->(∀r H',H r=none->Same H H'->SysQ K H H' C r (jbk mv1 mv2) (wb pt1 mv2.length++wa mv1.length pt2) (wb lk1 mv2.length++wa mv1.length lk2)->Q (.ref r) H')->sp_beside K C vs H Q E9
inductive sp_added (K:PySem.W.Frag) (C:Addr) (vs:List V) (H:Hp) (Q:VK) (E9:XK):Prop
 | mk (x y:Addr) (e1 e2:Nat) (mv1 pt1 lk1 mv2 pt2 lk2:List (List Rat)):vs=[.ref x,.ref y]->Sys K H C x mv1 pt1 lk1->Sys K H C y mv2 pt2 lk2->SFe e1 mv1 pt1 lk1->SFe e2 mv2 pt2 lk2->e1+e2<=800->mv1.length+mv2.length<=8->pt1.length=pt2.length->lk1.length=lk2.length->(∀r H',H r=none->Same H H'->SysQ K H H' C r (jbk mv1 mv2) (zl pt1 pt2) (zl lk1 lk2)->Q (.ref r) H')->sp_added K C vs H Q E9
end L2
namespace L2
open PySem PySem.Spec PyProof.Rows Nm
theorem SFe.mono {e e':Nat} {mv pt lk:List (List Rat)} (h:SFe e mv pt lk) (he:e<=e'):SFe e' mv pt lk:=by obtain ⟨M,V,a,b,c,d⟩:=h;exact ⟨M,V,a,Nat.le_trans b (Nat.pow_le_pow_right (by decide) he),c,d⟩
inductive sp_partsE (K:PySem.W.Frag) (vs:List V) (H:Hp) (Q:VK) (E9:XK):Prop
 | mk (b:Addr) (n i o w c:Nat):vs=[.ref b,.int n,.int i,.int o,.int w]->Bag H b->n<=8->i<=4->o<=4->1<=w->w<=1000000->max w 6<=2^c->c<=20->c*((n+i+o)*n)<=800->(∀r m p l mv pt lk H',H' r=some (.tup [.ref m,.ref p,.ref l])->H m=none->H p=none->H l=none->GridQ K H H' m mv->GridQ K H H' p pt->GridQ K H H' l lk->mv.length=n->pt.length=i->lk.length=o->SysD mv pt lk->SFe (c*((n+i+o)*n)) mv pt lk->Bag H' b->Upto b H H'->Q (.ref r) H')->sp_partsE K vs H Q E9
inductive sp_sizedQ (K:PySem.W.Frag) (vs:List V) (H:Hp) (Q:VK) (E9:XK):Prop
 | mk (b:Addr) (i o:Nat):vs=[.ref b,.int i,.int o]->Bag H b->i<=4->o<=4->(∀r mv pt lk H',PartsQ K H H' r mv pt lk->SysD mv pt lk->SFe 400 mv pt lk->mv.length<=4->pt.length=i->lk.length=o->Bag H' b->Upto b H H'->Q (.ref r) H')->sp_sizedQ K vs H Q E9
inductive sp_due38 (K : PySem.W.Frag) (vs : List V) (H : Hp) (Q : VK) (E9 : XK) : Prop
  | mk (way : Bool) (r1 r2 s u : Addr) (H0 H1 : Hp) (mv1 pt1 lk1 mv2 pt2 lk2 : List (List Rat)) (st pu : List Rat) : vs = [.int (if way then 1 else 0), .ref r1, .ref r2, .ref s, .ref u] → PartsQ K H0 H r1 mv1 pt1 lk1 → PartsQ K H1 H r2 mv2 pt2 lk2 → SysD mv1 pt1 lk1 → SysD mv2 pt2 lk2 → SFits mv1 pt1 lk1 → SFits mv2 pt2 lk2 → RowQ K H s st → RowQ K H u pu → st.length = mv1.length + mv2.length → ((if way then pu.length = pt1.length ∧ pu.length = pt2.length ∧ lk1.length = lk2.length else pu.length = pt1.length + pt2.length)) → (∀ x ∈ st, Dr 9 x) → (∀ x ∈ pu, Dr 9 x) → (∀ t a b H', H' t = some (.tup [.ref a, .ref b]) → Same H H' → RowQ K H' a (movedQ mv1 pt1 (st.take mv1.length) (if way then pu else pu.take pt1.length) ++ movedQ mv2 pt2 (st.drop mv1.length) (if way then pu else pu.drop pt1.length)) → RowQ K H' b (if way then List.zipWith (· + ·) (L2.seenQ lk1 (st.take mv1.length)) (L2.seenQ lk2 (st.drop mv1.length)) else L2.seenQ lk1 (st.take mv1.length) ++ L2.seenQ lk2 (st.drop mv1.length)) → Q (.ref t) H') → sp_due38 K vs H Q E9
def jp (way:Bool) (a b:List (List Rat)) (n m:Nat):List (List Rat):=if way then zl a b else wb a m++wa n b
inductive sp_right38 (K:PySem.W.Frag) (C:Addr) (vs:List V) (H:Hp) (Q:VK) (E9:XK):Prop
 | mk (way:Bool) (x r1 r2:Addr) (Hs H0 H1:Hp) (mv1 pt1 lk1 mv2 pt2 lk2:List (List Rat)):vs=[.int (if way then 1 else 0),.ref x,.ref r1,.ref r2]->SysQ K Hs H C x (jbk mv1 mv2) (jp way pt1 pt2 mv1.length mv2.length) (jp way lk1 lk2 mv1.length mv2.length)->PartsQ K H0 H r1 mv1 pt1 lk1->PartsQ K H1 H r2 mv2 pt2 lk2->SysD mv1 pt1 lk1->SysD mv2 pt2 lk2->SFits mv1 pt1 lk1->SFits mv2 pt2 lk2->SysD (jbk mv1 mv2) (jp way pt1 pt2 mv1.length mv2.length) (jp way lk1 lk2 mv1.length mv2.length)->SFits (jbk mv1 mv2) (jp way pt1 pt2 mv1.length mv2.length) (jp way lk1 lk2 mv1.length mv2.length)->((way=true->pt1.length=pt2.length∧lk1.length=lk2.length))->(∀H',Same H H'->Q (.bl true) H')->sp_right38 K C vs H Q E9
end L2
namespace L2
open PySem PySem.Spec PyProof.Rows Nm
def fdQ (pt lk:List (List Rat)) (n m:Nat):List (List Rat):=timesQ (turnQ pt n) lk m
def jA (way:Bool) (pt1 lk2:List (List Rat)) (n1 n2:Nat):List (List Rat):=if way then fdQ pt1 lk2 n1 n2 else List.replicate n1 (nl n2)
def jM (way:Bool) (mv1 pt1 lk1 mv2 pt2 lk2:List (List Rat)):List (List Rat):=zl mv1 (jA way pt1 lk2 mv1.length mv2.length)++zl (fdQ pt2 lk1 mv2.length mv1.length) mv2
def jL (way:Bool) (lk1 lk2:List (List Rat)) (n1 n2:Nat):List (List Rat):=if way then wb lk1 n2 else wa n1 lk2
section
variable {mv1 pt1 lk1 mv2 pt2 lk2:List (List Rat)} {s1 s2 p:List Rat} {way:Bool}
def fdP (way:Bool) (p:List Rat) (lk2:List (List Rat)) (s2:List Rat):List Rat:=if way then List.zipWith (·+·) p (L2.seenQ lk2 s2) else p
end
end L2
namespace L2
open PySem PySem.Spec PyProof.Rows Nm
def SFg (e:Nat) (mv pt lk:List (List Rat)):Prop:=∃M V:Nat,0 < M∧M<=2^e∧V<=2^140∧GF M V mv∧GF M V pt∧GF M V lk
section
variable {mv1 pt1 lk1 mv2 pt2 lk2:List (List Rat)} {way:Bool}
theorem SFg.mono {e e':Nat} (h:SFg e mv1 pt1 lk1) (he:e<=e'):SFg e' mv1 pt1 lk1:=by obtain ⟨M,V,a,b,c,d⟩:=h;exact ⟨M,V,a,Nat.le_trans b (Nat.pow_le_pow_right (by decide) he),c,d⟩
theorem SFg.fits {e:Nat} (h:SFg e mv1 pt1 lk1) (he:e<=800):SFits mv1 pt1 lk1:=by obtain ⟨M,V,a,b,c,d⟩:=h;exact ⟨M,V,a,Nat.le_trans b (Nat.pow_le_pow_right (by decide) he),Nat.le_trans c (Nat.pow_le_pow_right (by decide) (by decide)),d⟩
end
end L2
namespace L2
open PySem PySem.Spec PyProof.Rows Nm
inductive sp_partsG (K:PySem.W.Frag) (vs:List V) (H:Hp) (Q:VK) (E9:XK):Prop
 | mk (b:Addr) (n i o w c:Nat):vs=[.ref b,.int n,.int i,.int o,.int w]->Bag H b->n<=8->i<=4->o<=4->1<=w->w<=1000000->max w 6<=2^c->c<=20->c*((n+i+o)*n)<=800->(∀r m p l mv pt lk H',H' r=some (.tup [.ref m,.ref p,.ref l])->H m=none->H p=none->H l=none->GridQ K H H' m mv->GridQ K H H' p pt->GridQ K H H' l lk->mv.length=n->pt.length=i->lk.length=o->SysD mv pt lk->SFg (c*((n+i+o)*n)) mv pt lk->Bag H' b->Upto b H H'->Q (.ref r) H')->sp_partsG K vs H Q E9
inductive sp_sizedG (K:PySem.W.Frag) (vs:List V) (H:Hp) (Q:VK) (E9:XK):Prop
 | mk (b:Addr) (i o:Nat):vs=[.ref b,.int i,.int o]->Bag H b->i<=4->o<=4->(∀r mv pt lk H',PartsQ K H H' r mv pt lk->SysD mv pt lk->SFg 400 mv pt lk->mv.length<=4->pt.length=i->lk.length=o->Bag H' b->Upto b H H'->Q (.ref r) H')->sp_sizedG K vs H Q E9
inductive sp_fed (K:PySem.W.Frag) (C:Addr) (vs:List V) (H:Hp) (Q:VK) (E9:XK):Prop
 | mk (g t:Addr) (mv1 pt1 lk1 mv2 pt2 lk2:List (List Rat)):vs=[.ref g,.ref t]->Sys K H C g mv1 pt1 lk1->Sys K H C t mv2 pt2 lk2->SFits mv1 pt1 lk1->SFits mv2 pt2 lk2->lk1.length=pt2.length->(∀r H',H r=none->Same H H'->GridQ K H H' r (fdQ pt2 lk1 mv2.length mv1.length)->Q (.ref r) H')->sp_fed K C vs H Q E9
inductive sp_joinG (K:PySem.W.Frag) (C:Addr) (way:Bool) (vs:List V) (H:Hp) (Q:VK) (E9:XK):Prop
 | mk (x y:Addr) (e1 e2:Nat) (mv1 pt1 lk1 mv2 pt2 lk2:List (List Rat)):vs=[.ref x,.ref y]->Sys K H C x mv1 pt1 lk1->Sys K H C y mv2 pt2 lk2->SFg e1 mv1 pt1 lk1->SFg e2 mv2 pt2 lk2->e1+e2<=800->mv1.length+mv2.length<=8->lk1.length=pt2.length->(way=true->pt1.length=lk2.length)->(∀r H',H r=none->Same H H'->SysQ K H H' C r (jM way mv1 pt1 lk1 mv2 pt2 lk2) (wb pt1 mv2.length) (jL way lk1 lk2 mv1.length mv2.length)->Q (.ref r) H')->sp_joinG K C way vs H Q E9
inductive sp_dueG (K:PySem.W.Frag) (way:Bool) (vs:List V) (H:Hp) (Q:VK) (E9:XK):Prop
 | mk (r1 r2 s u:Addr) (H0 H1:Hp) (mv1 pt1 lk1 mv2 pt2 lk2:List (List Rat)) (st pu:List Rat):vs=[.ref r1,.ref r2,.ref s,.ref u]->PartsQ K H0 H r1 mv1 pt1 lk1->PartsQ K H1 H r2 mv2 pt2 lk2->SysD mv1 pt1 lk1->SysD mv2 pt2 lk2->SFg 400 mv1 pt1 lk1->SFg 400 mv2 pt2 lk2->RowQ K H s st->RowQ K H u pu->st.length=mv1.length+mv2.length->pu.length=pt1.length->lk1.length=pt2.length->(way=true->pt1.length=lk2.length)->(∀x∈st,Fr 1 9 x)->(∀x∈pu,Fr 1 9 x)->(∀t a b H',H' t=some (.tup [.ref a,.ref b])->Same H H'->RowQ K H' a (movedQ mv1 pt1 (st.take mv1.length) (fdP way pu lk2 (st.drop mv1.length))++movedQ mv2 pt2 (st.drop mv1.length) (L2.seenQ lk1 (st.take mv1.length)))->RowQ K H' b (if way then L2.seenQ lk1 (st.take mv1.length) else L2.seenQ lk2 (st.drop mv1.length))->Q (.ref t) H')->sp_dueG K way vs H Q E9
inductive sp_right37 (K:PySem.W.Frag) (C:Addr) (vs:List V) (H:Hp) (Q:VK) (E9:XK):Prop
 | mk (way:Bool) (x r1 r2:Addr) (Hs H0 H1:Hp) (mv1 pt1 lk1 mv2 pt2 lk2:List (List Rat)):vs=[.int (if way then 1 else 0),.ref x,.ref r1,.ref r2]->SysQ K Hs H C x (jM way mv1 pt1 lk1 mv2 pt2 lk2) (wb pt1 mv2.length) (jL way lk1 lk2 mv1.length mv2.length)->PartsQ K H0 H r1 mv1 pt1 lk1->PartsQ K H1 H r2 mv2 pt2 lk2->SysD mv1 pt1 lk1->SysD mv2 pt2 lk2->SFg 400 mv1 pt1 lk1->SFg 400 mv2 pt2 lk2->SysD (jM way mv1 pt1 lk1 mv2 pt2 lk2) (wb pt1 mv2.length) (jL way lk1 lk2 mv1.length mv2.length)->SFits (jM way mv1 pt1 lk1 mv2 pt2 lk2) (wb pt1 mv2.length) (jL way lk1 lk2 mv1.length mv2.length)->lk1.length=pt2.length->(way=true->pt1.length=lk2.length)->(∀H',Same H H'->Q (.bl true) H')->sp_right37 K C vs H Q E9
end L2
namespace L2
open PySem PySem.Spec PyProof.Rows
inductive DKp {α:Type}:Sem α->Prop
 | pure (a:α):DKp (.pure a)
 | raise (e:Value):DKp (.raise e)
 | uns (w:String):DKp (.unsupported w)
 | rule {t:String} {k:Unit->Sem α} (h:∀u,DKp (k u)):DKp (.rule t k)
 | load {a:Addr} {p:Option Value} {k:Obj->Sem α} (h:∀o,DKp (k o)):DKp (.load a p k)
 | update {a:Addr} {p:Option Value} {f:Obj->Obj} {k:Unit->Sem α} (hf:∀o,(f o).dict=o.dict) (h:∀u,DKp (k u)):DKp (.update a p f k)
 | alloc {o:Obj} {k:Addr->Sem α} (h:∀a,DKp (k a)):DKp (.alloc o k)
 | alive {a:Addr} {k:Option Obj->Sem α} (h:∀o,DKp (k o)):DKp (.loadIfAlive a k)
 | stack {k:List (Code×Pos)->Sem α} (h:∀l,DKp (k l)):DKp (.stack k)
 | reg {a:Addr} {k:Unit->Sem α}:DKp (.register a k)
 | ask {k:Setting->Sem α} (h:∀x,DKp (k x)):DKp (.ask k)
theorem DKp.bind {α β:Type} {m:Sem α} {f:α->Sem β} (hm:DKp m) (hf:∀a,DKp (f a)):DKp (m >>= f):=by
 show DKp (Sem.bind m f)
 induction hm with
 | pure a=>exact hf a
 | raise e=>exact .raise e
 | uns w=>exact .uns w
 | rule _ ih=>exact .rule fun u=>ih u
 | load _ ih=>exact .load fun u=>ih u
 | update hg _ ih=>exact .update hg fun u=>ih u
 | alloc _ ih=>exact .alloc fun u=>ih u
 | alive _ ih=>exact .alive fun u=>ih u
 | stack _ ih=>exact .stack fun u=>ih u
 | reg=>exact .reg
 | ask _ ih=>exact .ask fun u=>ih u
def DicAt (e:Addr) (d:Option Addr) (h:Heap):Prop:=e < h.objs.size∧∀o,h.objs[e]?=some o->o.dict=d
theorem DicAt.get {e:Addr} {d:Option Addr} {h:Heap} (x:DicAt e d h) {o:Obj} (q:h.get? e=some o):o.dict=d:=by
 unfold Heap.get? at q
 split at q
 ·cases q
 ·exact x.2 o q
theorem DicAt.of {e:Addr} {h:Heap} {o:Obj} (q:h.get? e=some o):DicAt e o.dict h:=by
 refine ⟨Heap.lt_size q,fun o' q'=>?_⟩
 unfold Heap.get? at q
 split at q
 ·cases q
 ·rw[q'] at q;cases q;rfl
theorem DicAt.update {e a:Addr} {d:Option Addr} {h:Heap} {f:Obj->Obj} (x:DicAt e d h) (hf:∀o,(f o).dict=o.dict):DicAt e d (h.update a f):=by
 obtain ⟨objs,l⟩:=h
 refine ⟨by show e < (objs.modify a f).size;rw[Array.size_modify];exact x.1,fun o q=>?_⟩
 have q:(objs.modify a f)[e]?=some o:=q
 rw[Array.getElem?_modify] at q
 split at q
 ·obtain ⟨o',q',rfl⟩:=Option.map_eq_some_iff.mp q
  rw[hf];exact x.2 o' q'
 ·exact x.2 o q
theorem DicAt.push {e:Addr} {d:Option Addr} {h:Heap} {o:Obj} (x:DicAt e d h):DicAt e d (h.push o):=by
 obtain ⟨objs,l⟩:=h
 refine ⟨by show e < (objs.push o).size;rw[Array.size_push];exact Nat.lt_succ_of_lt x.1,fun o' q=>?_⟩
 have q:(objs.push o)[e]?=some o':=q
 rw[Array.getElem?_push,if_neg (Nat.ne_of_lt x.1)] at q
 exact x.2 o' q
section
variable {M:Model} {e:Addr} {d:Option Addr}
theorem wp_dict {α:Type} {Γ:PySem.Ctx} {t:Sem α} (ht:DKp t) {Q:α->Pos->Shared->Prop} {E:Value->Pos->Shared->Prop}:∀{p:Pos} {s:Shared},Sem.wp M Γ t Q E p s->DicAt e d s.heap →
  Sem.wp M Γ t (fun a p s'=>Q a p s'∧DicAt e d s'.heap) (fun v p s'=>E v p s'∧DicAt e d s'.heap) p s:=by
 induction ht with
 | pure a=>exact fun h x=>⟨h,x⟩
 | raise v=>exact fun h x=>⟨h,x⟩
 | uns w=>exact fun h _=>h
 | reg=>exact fun h _=>h
 | rule _ ih=>exact fun h x=>ih () h x
 | load _ ih=>exact fun ⟨o,ho,h⟩ x=>⟨o,ho,ih o h x⟩
 | update hf _ ih=>exact fun ⟨ha,h⟩ x=>⟨ha,ih () h (x.update hf)⟩
 | alloc _ ih=>exact fun h x=>ih _ h x.push
 | alive _ ih=>exact fun h x=>ih _ h x
 | stack _ ih=>exact fun h x=>ih _ h x
 | ask _ ih=>exact fun h x=>ih _ h x
theorem wpAny_dict {α:Type} {A:Around} {t:Sem α} (ht:DKp t) {Q:α->Shared->Prop} {E:Value->Shared->Prop} {s:Shared} (h:wpAny M A t Q E s) (x:DicAt e d s.heap) :
  wpAny M A t (fun a s'=>Q a s'∧DicAt e d s'.heap) (fun v s'=>E v s'∧DicAt e d s'.heap) s:=fun Γ p hΓ=>wp_dict ht (h Γ p hΓ) x
end
theorem dk_ld (a:Addr) (p:Option Value):DKp (Sem.load a p Sem.pure):=.load fun o=>.pure o
theorem dk_fieldsOf (v:Value):DKp (fieldsOf v):=by
 unfold fieldsOf
 cases v <;> try exact .uns _
 refine DKp.bind (dk_ld _ _) fun o=>?_
 cases o.data <;> first | exact .pure _ | exact .uns _
theorem dk_field (v:Value) (i:Nat):DKp (field v i):=by
 unfold field
 refine DKp.bind (dk_fieldsOf v) fun vs=>?_
 split
 ·exact .pure _
 ·exact .uns _
theorem mapFields_dict (f:Array Value->Array Value) (o:Obj):(o.mapFields f).dict=o.dict:=by
 obtain ⟨c,d,dt,sl⟩:=o
 cases dt <;> rfl
theorem dk_setField (v:Value) (i:Nat) (x:Value):DKp (setField v i x):=by
 unfold setField
 cases v <;> try exact .uns _
 show DKp (updateField _ i x)
 unfold updateField
 refine DKp.bind (dk_ld _ _) fun o=>?_
 cases o.data <;> try exact .uns _
 dsimp only
 split
 ·exact .update (fun o=>mapFields_dict _ o) fun u=>.pure u
 ·exact .uns _
theorem dk_setFlight (e:Value) (f:Option Addr):DKp (setFlight e f):=by
 unfold setFlight
 refine DKp.bind (dk_field e 1) fun tb=>?_
 split
 ·exact dk_setField _ _ _
 ·exact .pure _
theorem dk_behind (env:Env) (l:List Env):DKp (behindIsImport env l):=by
 unfold behindIsImport
 split
 ·exact .pure _
 ·split
  ·exact .pure _
  ·exact DKp.bind (dk_field _ _) fun _=>.pure _
theorem dk_kept (env:Env) (b:Bool):∀l:List Env,DKp (keptBack env b l)
 | []=>by
  simp only[keptBack]
  split
  ·exact .pure _
  ·refine DKp.bind ?_ fun _=>.pure _
   unfold underTheClaimsCaller
   exact DKp.bind (.stack fun l=>.pure l) fun _=>.pure _
 | _ :: _=>.pure _
theorem dk_ready:∀l:List Env,DKp (readyFrames l)
 | []=>.pure _
 | env :: outer=>by
  unfold readyFrames
  split
  ·refine DKp.bind (dk_ld _ _) fun o=>?_
   split
   ·exact .pure _
   ·refine DKp.bind (dk_behind _ _) fun b=>DKp.bind (dk_kept _ _ _) fun v=>DKp.bind (.update (fun _=>rfl) fun u=>.pure u) fun _=>dk_ready outer
  ·exact .uns _
theorem dk_frameOf (env:Env):DKp (PySem.frameOf env):=by
 unfold PySem.frameOf
 refine DKp.bind (DKp.bind (.stack fun l=>.pure l) fun _=>.pure _) fun l=>DKp.bind ?_ fun o=>?_
 ·unfold frameObject
  split
  ·exact .pure _
  ·exact DKp.bind (dk_ready _) fun _=>.pure _
 ·cases o
  ·exact .uns _
  ·exact .pure _
theorem dk_place (f:Addr) (b:Bool):DKp (entryPlaceOf f b):=by
 unfold entryPlaceOf
 refine DKp.bind (.stack fun l=>.pure l) fun l=>?_
 split <;> exact .pure _
theorem dk_entry (a b c d e:Value) (l:List Value):DKp (EntryCells.newEntry a b c d e l):=by
 unfold EntryCells.newEntry newFields
 generalize ([a,b,c,d,e]++if l.isEmpty then List.replicate 6 Value.none else l).toArray=vs
 have fin:DKp (newObjAsIs (.type "traceback") (.fields vs)):=DKp.bind (.alloc fun a=>.pure a) fun _=>.pure _
 unfold newObj
 dsimp only
 split
 ·exact DKp.bind (.uns _) fun _=>fin
 ·exact fin
theorem dk_note (e:Value) (env:Env):DKp (noteFrame e env):=by
 unfold noteFrame
 split
 ·refine DKp.bind (dk_field e 1) fun h=>?_
  have last:∀f:Addr,DKp (do setField e 1 (← EntryCells.newEntry h (← PySem.frameOf env) .none (rawInt f) .none (← entryPlaceOf f (h != .none)))):=fun f =>
   DKp.bind (dk_frameOf env) fun _=>DKp.bind (dk_place _ _) fun _=>DKp.bind (dk_entry _ _ _ _ _ _) fun _=>dk_setField _ _ _
  split
  ·refine DKp.bind (dk_field _ _) fun v=>?_
   split
   ·exact .pure _
   ·exact DKp.bind (dk_setField _ _ _) fun _=>last _
  ·exact last _
 ·exact .uns _
theorem dk_leaving (env:Env) (e:Value):DKp (leaving env e):=DKp.bind (dk_note e env) fun _=>dk_setFlight e none
end L2
namespace L2
open PySem PySem.Spec PyProof.Rows
theorem ObjOk.there {P:Program} {w:World} {H:Hp} {h:Heap} {a:Addr} {o:HO} (x:ObjOk P w H h a o):∃u,h.get? a=some u:=by
 cases o with
 | lst xs=>obtain ⟨_,_,_,_,e⟩:=x;exact ⟨_,e⟩
 | tup xs=>obtain ⟨_,_,_,o,e,_⟩:=x;exact ⟨_,e⟩
 | dK kvs=>obtain ⟨_,_,_,_,o,_,_,e,_⟩:=x;exact ⟨_,e⟩
 | dT kvs=>obtain ⟨_,_,_,_,o,_,_,e,_⟩:=x;exact ⟨_,e⟩
 | set S n=>obtain ⟨o,_,_,_,e,_⟩:=x;exact ⟨_,e⟩
 | ins C dx fs=>obtain ⟨_,_,_,e,_⟩:=x;exact ⟨_,e⟩
 | own y=>exact x
 | xd fs=>obtain ⟨_,⟨_,_,_,e,_⟩,_⟩:=x;exact ⟨_,e⟩
 | rng lo hi=>obtain ⟨_,_,_,e⟩:=x;exact ⟨_,e⟩
 | frz ob u=>obtain ⟨e,_⟩:=x;exact ⟨_,e⟩
 | tbl ps=>exact ⟨_,(show h.get? a=some _ from x)⟩
 | met f y=>exact ⟨_,(show h.get? a=some _ from x)⟩
 | ext φ=>exact x.2.1
section
variable {P:Program} {w:World} {fs:List Addr} {H H1 H2:Hp} {h0 h1 h2 B:Heap}
theorem fly_un (U:Un fs [] H H1 h0 h1) (ok:HOk P w H1 h1) (hB1:B.StaysIn h1) (hB2:B.StaysIn h2) (up:h1.UpToSlots h2)
  (c1:∀b u,H1 b=some u->∃o,B.get? b=some o) (c2:∀b o,h0.get? b=some o->b∉fs->∃o',B.get? b=some o')
  (hf:∀b∈fs,H b=none) (hd:∀b∈fs,∀o,h0.get? b=some o->∀vs,o.data≠.fields vs):Un fs [] H H1 h0 h2∧HOk P w H1 h2:=by
 have same:∀b o,h1.get? b=some o->(∃o',B.get? b=some o')->h2.get? b=some o:=fun b o e ⟨o',eb⟩=>by
  have z:=hB1 _ _ eb
  rw[e] at z;cases z
  exact hB2 _ _ eb
 have slot:∀b o,h0.get? b=some o->b∈fs->∃sl,h2.get? b=some { o with slots:=sl }:=fun b o e hb=>by
  obtain ⟨sl,e1⟩:=U.slot b o e (hf b hb) hb (by simp)
  obtain ⟨sl2,e2⟩:=up b _ e1 (hd b hb o e)
  exact ⟨sl2,e2⟩
 refine ⟨⟨fun b o e n hb hx=>same b o (U.keep b o e n hb hx) (c2 b o e hb),fun b o e n hb _=>slot b o e hb,U.free,fun b o e hx=>?_,U.tups,U.frzs,U.tbls⟩,fun a o e=>?_⟩
 ·by_cases hb:b∈fs
  ·obtain ⟨sl,q⟩:=slot b o e hb;exact ⟨_,q⟩
  ·obtain ⟨o',q⟩:=c2 b o e hb;exact ⟨o',hB2 _ _ q⟩
 ·refine (ok a o e).stay (fun b u hb q=>same b u q ?_) (fun _ q=>q) fun _ _ q=>q
  rcases hb with z | z
  ·rw[z];exact c1 a o e
  ·exact c1 b _ z
theorem Un.inner {L:Addr} (a:Un fs [] H H1 h0 h1) (b:Un (L :: fs) [] H1 H2 h1 h2) (hL:h0.get? L=none):Un fs [] H H2 h0 h2 where
 keep:=fun c o q n hc hx=>b.keep c o (a.keep c o q n hc hx) (a.free c o q n hx) (fun z=>(List.mem_cons.mp z).elim (fun e=>by rw[e,hL] at q;cases q) hc) hx
 slot:=fun c o q n hc hx=>by
  obtain ⟨sl,e1⟩:=a.slot c o q n hc hx
  obtain ⟨sl',e2⟩:=b.slot c _ e1 (a.free c o q n hx) (List.mem_cons_of_mem _ hc) hx
  exact ⟨sl',e2⟩
 free:=fun c o q n hx=>by
  obtain ⟨o',e1⟩:=a.there c o q hx
  exact b.free c o' e1 (a.free c o q n hx) hx
 there:=fun c o q hx=>by
  obtain ⟨o',e1⟩:=a.there c o q hx
  exact b.there c o' e1 hx
 tups:=fun c xs q=>b.tups c xs (a.tups c xs q)
 frzs:=fun c o xs q=>b.frzs c o xs (a.frzs c o xs q)
 tbls:=fun c ps q=>by
  obtain ⟨m1,e1⟩:=a.tbls c ps q
  obtain ⟨m2,e2⟩:=b.tbls c _ e1
  exact ⟨m1++m2,by rw[e2,Array.append_assoc]⟩
end
structure Fly0 (P:Program) (w:World) (outer:List Env) (H:Hp) (s:Shared) (H':Hp) (ea t:Addr) (cls:Value) (B:Heap) (s':Shared):Prop where
 os:s'.os=s.os
 bare:AllBare s'.gens
 un:Un (frs outer) [] H H' s.heap s'.heap
 hok:HOk P w H' s'.heap
 fly:Heap.FlyingW B outer ea cls (.ref t) s'.heap
 c1:∀b u,H' b=some u->∃o,B.get? b=some o
 c2:∀b o,s.heap.get? b=some o->b∉frs outer->∃o',B.get? b=some o'
structure Fly (P:Program) (w:World) (outer:List Env) (H:Hp) (s:Shared) (H':Hp) (ea t:Addr) (cls:Value) (dx:Option Addr) (B:Heap) (s':Shared):Prop extends Fly0 P w outer H s H' ea t cls B s' where
 dct:DicAt ea dx s'.heap
def CXE (P:Program) (w:World):CXT:=fun outer H s E e s'=>∃ea t cls dx H' B,e=.ref ea∧Fly P w outer H s H' ea t cls dx B s'∧E cls dx H'
section
variable {P:Program} {w:World} {K:PySem.W.Frag} {mg:Str->Option Value} {base:Heap} {N:List Str} {qual:Str} {scope:Scope} {f:Addr} {cd:Value} {A:Around} {outer:List Env} {s:Shared} {H:Hp} {E:XK}
theorem frs_cons {env:Env} {L:Addr} (hf:env.frame=some L):frs (env :: outer)=L :: frs outer:=by unfold frs;rw[List.filterMap_cons,hf]
theorem pass_def:Passes (CXE P w) (cxOf (CXE P w) P w K mg base N qual scope f cd A outer s H E) E:=by
 rintro pins σ H1 s1 e s' I ⟨ea,t,cls,dx,H',B,rfl,F,hE⟩
 have hfr:(A.deeper (envOfC qual scope s.heap.objs.size f cd)).frames=some (envOfC qual scope s.heap.objs.size f cd :: outer):=I.ok.frames
 have nL:∀b o,s.heap.get? b=some o->b≠s.heap.objs.size:=fun b o q=>Nat.ne_of_lt (Heap.lt_size q)
 have hf:frs (envOfC qual scope s.heap.objs.size f cd :: outer)=s.heap.objs.size :: frs outer:=frs_cons rfl
 have un:Un (s.heap.objs.size :: frs outer) [] H1 H' s1.heap s'.heap:=hf ▸ F.un
 have hU:Un (frs outer) [] H H1 s.heap s1.heap:=I.base
 have U1:Un (frs outer) [] H H' s.heap s'.heap:=hU.inner un (Heap.get?_none_of_le (Nat.le_refl _))
 refine wpAny_mono (wpAny_dict (e:=ea) (d:=dx) (dk_leaving _ _) (wpAny_leaves_onW (E:=fun _ _=>False) (Q:=fun _ s2=>Fly0 P w outer H s H' ea t cls B s2) hfr rfl F.fly fun h2 x1 x2=>?_) F.dct) (fun _ s2 ⟨F0,dc⟩=>⟨ea,t,cls,dx,H',B,rfl,⟨F0,dc⟩,hE⟩) (fun _ _ z=>z.1.elim)
 have c2:∀b o,s.heap.get? b=some o->b∉frs outer->∃o',B.get? b=some o':=fun b o q hb=>by
  obtain ⟨o',e⟩:=I.base.there b o q (List.not_mem_nil)
  refine F.c2 b o' e fun z=>?_
  have z:b∈frs (envOfC qual scope s.heap.objs.size f cd :: outer):=z
  rw[hf] at z
  rcases List.mem_cons.mp z with z | z
  ·exact nL b o q z
  ·exact hb z
 obtain ⟨U2,ok2⟩:=fly_un U1 F.hok F.fly.1 x1.1 x2 F.c1 c2 I.ok.frf (fun b hb o q=>by
  obtain ⟨_,o',e',d⟩:=I.ok.funs.mem hb
  have e':s.heap.get? b=some o':=e'
  rw[q] at e';cases e';exact d)
 exact ⟨F.os.trans I.os,F.bare,U2,ok2,x1,F.c1,c2⟩
end
abbrev vErr:List Value:=[.type "ValueError",.type "Exception",.type "BaseException",.type "object"]
theorem exc_obj {K:PySem.W.Frag} {C:Addr} {h:Heap} (X':K.In h) (hk:PySem.W.excIn K C vErr "ValueError.__new__"=true) :
  ∃bm N nm q bs hdct sn sub ab col dd k0 k1 k2 k3 k5 mN,h.get? C=some (excClassObj nm q C N bs bm hdct sn sub ab col dd k0 k1 k2 k3 k5 "ValueError.__new__")∧h.Ns N mN∧mN "__init__"=none∧OwnTail h vErr bm:=by
 unfold PySem.W.excIn at hk
 split at hk
 ·rename_i dd cd sl ho
  split at hk
  ·rename_i C' bm k0 k1 k2 k3 n k5 hm hs
   simp only[Bool.and_eq_true,beq_iff_eq,Bool.not_eq_true'] at hk
   obtain ⟨⟨⟨⟨⟨rfl,rfl⟩,hdel⟩,ht⟩,hok⟩,hni⟩:=hk
   obtain ⟨nm,bs,mro,ns,qn,hd',sn,sub,ab,col,del⟩:=cd
   dsimp only at hm hdel hok hni
   subst hm hdel
   have hsl:sl=#[k0,k1,k2,k3,some (.builtin "ValueError.__new__"),k5]:=by
    obtain ⟨l⟩:=sl
    simp only at hs
    rw[hs]
   subst hsl
   exact ⟨bm,ns,nm,qn,bs,hd',sn,sub,ab,col,dd,k0,k1,k2,k3,k5,_,X' _ _ ho,.of_isNs (PySem.W.isNs_of_in X' hok),PySem.W.nsMap_none_of_in X' hok hni,PySem.W.tail_of_in X' ht⟩
  ·cases hk
 ·cases hk
end L2
namespace L2
open PySem PySem.Spec PyProof.Rows
abbrev Cx.tr (X:Cx) (pn:List (Addr×Obj)) (xe:Value->Shared->Prop):Cx:={ X with pn:=pn,xe:=xe }
abbrev Cx.sm (X:Cx) (ea:Addr):Cx:={ X with A:=X.A.mark (some (.ref ea)),calm:=false,xe:=fun _ _=>False }
section
variable {X:Cx} {pins:List (Addr×Obj)} {σ:St} {H H':Hp} {s:Shared}
theorem Inv.tr (I:Inv X pins σ H s) (xe:Value->Shared->Prop):Inv (X.tr (X.pn++pins) xe) [] σ H s :=
 ⟨⟨I.ok.mod,I.ok.kind,I.ok.glob,I.ok.blt,I.ok.above,I.ok.inj,I.ok.has,I.ok.cab,I.ok.hd,I.ok.frames,I.ok.stk,I.ok.exf,I.ok.bs,I.ok.bsz,I.ok.noex,I.ok.exfs,I.ok.funs,I.ok.frf⟩,
  I.os,I.bare,I.base,I.loc,I.cell,I.free,I.freeC,fun p hp=>I.pin p (by simpa using hp),I.hok,I.len⟩
theorem Inv.untr {ps:List (Addr×Obj)} {xe:Value->Shared->Prop} (I:Inv (X.tr (X.pn++pins) xe) ps σ H s):Inv X pins σ H s :=
 ⟨⟨I.ok.mod,I.ok.kind,I.ok.glob,I.ok.blt,I.ok.above,I.ok.inj,I.ok.has,I.ok.cab,I.ok.hd,I.ok.frames,I.ok.stk,I.ok.exf,I.ok.bs,I.ok.bsz,I.ok.noex,I.ok.exfs,I.ok.funs,I.ok.frf⟩,
  I.os,I.bare,I.base,I.loc,I.cell,I.free,I.freeC,fun p hp=>I.pin p (List.mem_append_left _ hp),I.hok,I.len⟩
theorem Inv.sm (I:Inv X pins σ H s) (ea:Addr):Inv (X.sm ea) pins σ H s :=
 ⟨⟨I.ok.mod,I.ok.kind,I.ok.glob,I.ok.blt,I.ok.above,I.ok.inj,I.ok.has,I.ok.cab,fun z=>Bool.noConfusion z,I.ok.frames,I.ok.stk,I.ok.exf,I.ok.bs,I.ok.bsz,I.ok.noex,I.ok.exfs,I.ok.funs,I.ok.frf⟩,
  I.os,I.bare,I.base,I.loc,I.cell,I.free,I.freeC,I.pin,I.hok,I.len⟩
theorem Inv.forget {ea:Addr} {h':Heap} {m':Str->Option Value} {t':Nat} (ok:X.Ok) (I:Inv (X.sm ea) pins σ H s) (hn:h'.Ns X.env.locals m') (hs:Heap.SameBut X.env.locals s.heap h') :
  Inv X pins (List.replicate X.N.length none) H { s with heap:=h',toks:=t' }:=by
 have neL:∀b o,X.s₀.heap.get? b=some o->b≠X.env.locals:=fun b o e=>Nat.ne_of_lt (Nat.lt_of_lt_of_le (Heap.lt_size e) ok.above)
 refine ⟨ok,I.os,I.bare,⟨fun b o e n hb hx=>(hs.2 b (neL b o e)).trans (I.base.keep b o e n hb hx),fun b o e n hb hx=>?_,I.base.free,fun b o e hx=>?_,I.base.tups,I.base.frzs,I.base.tbls⟩,⟨m',hn,fun i x v e1 e2 e3=>?_⟩,fun x c e=>?_,I.free,I.freeC,fun p hp=>?_,fun b u e=>?_,List.length_replicate⟩
 ·obtain ⟨sl,e1⟩:=I.base.slot b o e n hb hx
  exact ⟨sl,(hs.2 b (neL b o e)).trans e1⟩
 ·obtain ⟨o',e1⟩:=I.base.there b o e hx
  exact ⟨o',(hs.2 b (neL b o e)).trans e1⟩
 ·rw[List.getElem?_replicate] at e2
  split at e2 <;> cases e2
 ·obtain ⟨v,z⟩:=I.cell x c e
  exact ⟨v,z.sameBut hs (I.cne x c e)⟩
 ·obtain ⟨e,n,ne,nf,d⟩:=I.pin p hp
  exact ⟨(hs.2 p.1 ne).trans e,n,ne,nf,d⟩
 ·have fr:H X.env.locals=none:=I.free
  refine (I.hok b u e).stay (fun c v hc q=>(hs.2 c ?_).trans q) (fun _ q=>q) fun _ _ q=>q
  rintro rfl
  rcases hc with z | z
  ·rw[← z,fr] at e;cases e
  ·rw[fr] at z;cases z
theorem Inv.trackO {a:Addr} {o:HO} (I:Inv X pins σ H s) (hn:H a=none) (new:ObjOk X.prog X.w (upd H a o) s.heap a o) (n0:X.s₀.heap.get? a=none) (nL:a≠X.env.locals) (nC:∀x c,X.env.cells.lookup x=some c->c≠a)
  (nP:∀p∈X.pn++pins,p.1≠a):Inv X pins σ (upd H a o) s:=by
 have ne:∀b u,H b=some u->b≠a:=fun b u q=>ne_of_none q hn
 refine ⟨I.ok,I.os,I.bare,⟨I.base.keep,I.base.slot,fun b ob e n hx=>?_,I.base.there,fun b xs q=>?_,fun b ob u q=>?_,fun b ps q=>?_⟩,I.loc,I.cell,?_,fun x c e=>?_,fun p hp=>?_,fun b u e=>?_,I.len⟩
 ·rw[upd_ne (fun z=>by rw[z,n0] at e;cases e)];exact I.base.free b ob e n hx
 ·have q':=I.base.tups b xs q
  rw[upd_ne (ne _ _ q')];exact q'
 ·have q':=I.base.frzs b ob u q
  rw[upd_ne (ne _ _ q')];exact q'
 ·obtain ⟨m,q'⟩:=I.base.tbls b ps q
  exact ⟨m,by rw[upd_ne (ne _ _ q')];exact q'⟩
 ·rw[upd_ne (Ne.symm nL)];exact I.free
 ·rw[upd_ne (nC x c e)];exact I.freeC x c e
 ·obtain ⟨e,n,r⟩:=I.pin p hp
  exact ⟨e,by rw[upd_ne (nP p hp)];exact n,r⟩
 ·by_cases hb:b=a
  ·subst hb;rw[upd_same] at e;cases e;exact new
  ·rw[upd_ne hb] at e
   exact (I.hok b u e).stay (fun c v _ q=>q) (fun c q=>by rw[upd_ne (ne _ _ q)];exact q) fun c xs q=>by rw[upd_ne (ne _ _ q)];exact q
end
def exO (a:Addr) (cls:Value) (dx:Option Addr):HO:=.ext fun h=>∃o vs,h.get? a=some o∧o.cls=cls∧o.data=.fields vs∧o.dict=dx
def PassesS (CX:CXT) (X:Cx) (E:St->XK):Prop:=∀(pins:List (Addr×Obj)) (σ:St) (H:Hp) (s:Shared) (e:Value) (s':Shared),Inv X pins σ H s->CX X.stack H s (E σ) e s'->X.xe e s'
section
variable {X:Cx} {CX:CXT} {k:Nat} {f C:Addr} {fd:FuncData} {ps:List Str} {sp:Sp} {dvs:List V} {ds:List Value} {E:St->XK} {x n:Str} {p pos hpos np:Pos} {e:Expr} {es:List Expr} {t:TA}
structure Land (X:Cx) (pins:List (Addr×Obj)) (σ:St) (H0:Hp) (s0:Shared) (H':Hp) (ea t:Addr) (cls:Value) (dx:Option Addr) (B:Heap) (s1:Shared):Prop where
 I:Inv X pins σ H0 s0
 F:Fly X.prog X.w X.stack H0 s0 H' ea t cls dx B s1
section
variable {pins:List (Addr×Obj)} {σ:St} {H0 H':Hp} {s0 s1:Shared} {ea tt:Addr} {cls:Value} {dx:Option Addr} {B h:Heap}
theorem Land.inv (L:Land X pins σ H0 s0 H' ea tt cls dx B s1) (fl:Heap.FlyingW B X.stack ea cls (.ref tt) h) (up:s1.heap.UpToSlots h):Inv X pins σ H' { s1 with heap:=h }:=by
 obtain ⟨U,ok⟩:=fly_un L.F.un L.F.hok L.F.fly.1 fl.1 up L.F.c1 L.F.c2 L.I.stkFree (fun b hb o q=>by
  obtain ⟨_,o',e',d⟩:=L.I.stack.mem hb
  rw[q] at e';cases e';exact d)
 have os:s1.os=s0.os:=L.F.os
 have bare:AllBare s1.gens:=L.F.bare
 obtain ⟨hh,g,d,t,os'⟩:=s1
 dsimp only at os bare
 subst os
 exact Inv.call (s:=s0) (h':=h) (g':=g) (d':=d) (t':=t) (ch:=[]) L.I U ok bare (fun b z=>absurd z (by simp))
theorem Land.new (L:Land X pins σ H0 s0 H' ea tt cls dx B s1):s0.heap.get? ea=none:=by
 obtain ⟨_,n,fr,oe,vs,T,oT,ts,he,hc,hd,_⟩:=L.F.fly
 cases q:s0.heap.get? ea with
 | none=>rfl
 | some o =>
  by_cases hb:ea∈frs X.stack
  ·obtain ⟨_,o',e',d⟩:=fr.mem hb
   rw[he] at e';cases e'
   exact absurd hd (d vs)
  ·obtain ⟨o',e'⟩:=L.F.c2 ea o q hb
   rw[n] at e';cases e'
theorem Land.none_ (L:Land X pins σ H0 s0 H' ea tt cls dx B s1):H' ea=none:=by
 cases q:H' ea with
 | none=>rfl
 | some u =>
  obtain ⟨o,e⟩:=L.F.c1 ea u q
  rw[L.F.fly.2.1] at e;cases e
theorem Land.track (L:Land X pins σ H0 s0 H' ea tt cls dx B s1) (hex:X.ex=[]) (fl:Heap.FlyingW B X.stack ea cls (.ref tt) h) (up:s1.heap.UpToSlots h) (dc:DicAt ea dx h):Inv X pins σ (upd H' ea (exO ea cls dx)) { s1 with heap:=h }:=by
 have nw:=L.new
 have some_ne:∀b o,s0.heap.get? b=some o->b≠ea:=fun b o q z=>by rw[z,nw] at q;cases q
 refine (L.inv fl up).trackO L.none_ ?_ ?_ ?_ (fun x c e=>?_) (fun p hp=>?_)
 ·obtain ⟨_,_,_,oe,vs,T,oT,ts,he,hc,hd,_⟩:=fl
  exact ⟨⟨oe,vs,he,hc.1,hd,dc.get he⟩,⟨oe,he⟩,fun h1 h2 ⟨o,vs,a,b⟩ k=>⟨o,vs,k o a,b⟩⟩
 ·cases q:X.s₀.heap.get? ea with
  | none=>rfl
  | some o =>
   obtain ⟨o',e'⟩:=L.I.base.there ea o q (by rw[hex];exact List.not_mem_nil)
   rw[nw] at e';cases e'
 ·obtain ⟨m,⟨o,_,_,ho,_⟩,_⟩:=L.I.loc
  exact Ne.symm (some_ne _ o ho)
 ·obtain ⟨v,o,ho,_⟩:=L.I.cell x c e
  exact some_ne _ o ho
 ·exact some_ne _ _ (L.I.pin p hp).1
end
def HB (X:Cx) (hs:List ExceptHandler) (hr:Ends->St->Value->Option Addr->Hp->Prop):Prop :=
 ∀(pins:List (Addr×Obj)) (σ:St) (H0:Hp) (s0:Shared) (H':Hp) (ea tt:Addr) (cls:Value) (dx:Option Addr) (B:Heap) (s1:Shared) (h:Heap) (D:Ends),Land X pins σ H0 s0 H' ea tt cls dx B s1->Heap.FlyingW B X.stack ea cls (.ref tt) h->s1.heap.UpToSlots h->DicAt ea dx h →
  hr D σ cls dx H'->wpAny (model X.prog X.w) X.A (handleBy (.ref ea) X.env hs) (SP X pins D) X.xe { s1 with heap:=h }
def rtOnly (D:Ends):Ends:={ nx:=fun _ _=>False,rt:=D.rt }
def hNone:Ends->St->Value->Option Addr->Hp->Prop:=fun _ _ _ _ _=>False
theorem hb_nil:HB X [] hNone:=fun _ _ _ _ _ _ _ _ _ _ _ _ _ _ _ _ _ z=>False.elim z
def hAs (K:PySem.W.Frag) (C:Addr) (i:Nat) (ts:Addr->TS) (hr:Ends->St->Value->Option Addr->Hp->Prop):Ends->St->Value->Option Addr->Hp->Prop:=fun D σ cls dx H =>
 (PySem.W.exmOne K cls (.ref C)=some true∧∀ea,H ea=none->ts ea (rtOnly D) (σ.set i (some (.ref ea))) (upd H ea (exO ea cls dx)))∨(PySem.W.exmOne K cls (.ref C)=some false∧hr D σ cls dx H)
theorem hb_as {i:Nat} {b₀:Stmt} {suite:List Stmt} {rest:List ExceptHandler} {ts:Addr->TS} {hr:Ends->St->Value->Option Addr->Hp->Prop} (hex:X.ex=[]) (hg:Gl X x) (hm:X.mg x=some (.ref C)) (nd:X.N.Nodup) (hi:X.N[i]?=some n)
  (hl:X.env.scope.names.lookup n=some .local) (hs:∀ea,PSs (X.sm ea) (b₀ :: suite) (ts ea)) (hrest:HB X rest hr) (hdb:(x == ("__debug__":Str))=false:=by decide) :
  HB X (.ExceptHandler (some (.Name x np)) (some n) (b₀ :: suite) hpos :: rest) (hAs X.K C i ts hr):=by
 intro pins σ H0 s0 H' ea tt cls dx B s1 h D L fl up dc hq
 have J:=L.inv fl up
 refine wpAny_handleBy_cons (codeAny_handlers_test (ld_glob (X:=X.sm ea) (J.sm ea) hg hm ?_ hdb)) (by intro q;cases q)
 have LT:PySem.W.Looks (model X.prog X.w) h (typeOf (.ref ea)) cls:=by
  obtain ⟨o,e,c⟩:=fl.there
  exact c ▸ (PySem.W.Looks.ld e).andThen .now
 rcases hq with ⟨hb,hts⟩ | ⟨hb,hq⟩
 ·refine (PySem.W.exm_one (show X.K.In h from J.kIn) LT hb) _ _ _ _ (fun _ _ q=>q) ?_
  refine codeAny_handlers_suite_as ?_
  refine wpAny_mono (wpAny_dict (e:=ea) (d:=dx) (dk_setFlight _ _) (lands_againW (E:=fun _ _=>False) (Q:=fun _ s2=>∃h6,s2={ s1 with heap:=h6 }∧Heap.FlyingW B X.stack ea cls (.ref tt) h6∧h.UpToSlots h6) fl fun h6 fl6 up6=>⟨h6,rfl,fl6,up6⟩) dc) ?_ (fun _ _ z=>z.1.elim)
  rintro _ _ ⟨⟨h6,rfl,fl6,up6⟩,dc6⟩
  have J6:=(L.track hex fl6 (up.trans up6) dc6).sm ea
  refine store_ok (X:=X.sm ea) J6 nd hi (.inl hl) (show RelV (.ref ea) (.ref ea) from rfl) (fun s' I'=>?_) (.inr hl)
  refine wpAny_mono (hs ea pins s' _ _ _ I' (hts ea L.none_)) (fun f s2 hsp=>?_) fun _ _ z=>False.elim z
  cases f with
  | next=>obtain ⟨_,_,_,z⟩:=hsp;exact False.elim z
  | brk=>obtain ⟨_,_,_,z⟩:=hsp;exact False.elim z
  | cont=>obtain ⟨_,_,_,z⟩:=hsp;exact False.elim z
  | ret u =>
   obtain ⟨v,σ',H2,J2,rv,q⟩:=hsp
   obtain ⟨m,hn,_⟩:=id J2.loc
   refine wpAny_nameGoes hl hn (by rw[L.I.ok.kind];rfl) fun h' m' hn' hs'=>?_
   exact ⟨v,_,H2,J2.forget L.I.ok hn' hs',rv,q⟩
 ·refine (PySem.W.exm_one (show X.K.In h from J.kIn) LT hb) _ _ _ _ (fun _ _ q=>q) ?_
  exact hrest pins σ H0 s0 H' ea tt cls dx B s1 h D L fl up dc hq
def tTry (hr:Ends->St->Value->Option Addr->Hp->Prop) (tb:(St->XK)->TS):TS:=fun D σ H=>tb (hr D) D σ H
theorem ps_try {body:List Stmt} {h₀:ExceptHandler} {hs:List ExceptHandler} {hr:Ends->St->Value->Option Addr->Hp->Prop} {tb:(St->XK)->TS} (hst:X.stack=X.env :: X.outer) (hfr:X.env.frame=some X.env.locals)
  (hb:∀pn xe E,PassesS (CXE X.prog X.w) (X.tr pn xe) E->PSs (X.tr pn xe) body (tb E)) (hh:HB X (h₀ :: hs) hr):PS X (.Try body (h₀ :: hs) [] [] pos) (tTry hr tb):=by
 intro pins s σ H D I h
 refine wpAny_Try_except ?_
 refine wpAny_mono (hb (X.pn++pins) (fun e s1=>∃σ' H0 s0 H' ea t cls dx B,e=.ref ea∧Land X pins σ' H0 s0 H' ea t cls dx B s1∧hr D σ' cls dx H') (hr D) ?_ [] s σ H D (I.tr _) h) (fun f s1 hsp=>?_) (fun e s1 hx=>?_)
 ·rintro ps σ' H1 s1 e s' J ⟨ea,t,cls,dx,H',B,rfl,F,hE⟩
  exact ⟨σ',H1,s1,H',ea,t,cls,dx,B,rfl,⟨J.untr,F⟩,hE⟩
 ·cases f with
  | next=>obtain ⟨σ',H',J,q⟩:=hsp;exact wpAny_execs_nil ⟨σ',H',J.untr,q⟩
  | brk=>obtain ⟨σ',H',J,q⟩:=hsp;exact ⟨σ',H',J.untr,q⟩
  | cont=>obtain ⟨σ',H',J,q⟩:=hsp;exact ⟨σ',H',J.untr,q⟩
  | ret u=>obtain ⟨v,σ',H',J,r,q⟩:=hsp;exact ⟨v,σ',H',J.untr,r,q⟩
 ·obtain ⟨σ',H0,s0,H',ea,t,cls,dx,B,rfl,L,hq⟩:=hx
  have hfrm:X.A.frames=some (X.env :: X.outer):=by rw[← hst];exact L.I.ok.frames
  have fl:Heap.FlyingW B (X.env :: X.outer) ea cls (.ref t) s1.heap:=by rw[← hst];exact L.F.fly
  refine wpAny_mono (wpAny_dict (e:=ea) (d:=dx) (dk_note _ _) (wpAny_looks_onW (E:=fun _ _=>False) (Q:=fun _ s2=>∃h4,s2={ s1 with heap:=h4 }∧Heap.HeldW B (X.env :: X.outer) ea cls (.ref t) X.env.locals h4∧s1.heap.UpToSlots h4) hfrm hfr fl fun h4 held up4=>⟨h4,rfl,held,up4⟩) L.F.dct) ?_ (fun _ _ z=>z.1.elim)
  rintro _ _ ⟨⟨h4,rfl,held,up4⟩,dc4⟩
  refine wpAny_mono (wpAny_dict (e:=ea) (d:=dx) (dk_setFlight _ _) (wpAny_landsW (E:=fun _ _=>False) (Q:=fun _ s2=>∃h5,s2={ s1 with heap:=h5 }∧Heap.FlyingW B (X.env :: X.outer) ea cls (.ref t) h5∧h4.UpToSlots h5) held fun h5 fl5 up5=>⟨h5,rfl,fl5,up5⟩) dc4) ?_ (fun _ _ z=>z.1.elim)
  rintro _ _ ⟨⟨h5,rfl,fl5,up5⟩,dc5⟩
  exact hh pins σ' H0 s0 H' ea t cls dx B s1 h5 D L (by rw[hst];exact fl5) (up4.trans up5) dc5 hq
end
section
variable {K:PySem.W.Frag} {x t:Value} {Hh:Heap->Prop}
end
end L2
namespace L2
open PySem PySem.Spec PyProof.Rows PySem.W
section
variable {prog:Program} {w:World} {A:Around} {E:Value->Shared->Prop} {h:Heap} {g:Array GenState} {d:Drawn} {t:Nat} {os:OsState} {a C:Addr} {o:Obj} {od:Option Obj} {K:Frag}
theorem chk_ga {M:Model} {nv:Value} {Q:Unit->Shared->Prop} (X:K.In h) (I:InstAt h a o C od) (hm:mroIn K C (.type "BaseException")=some true) (hq:Q () ⟨h,g,d,t,os⟩) :
  wpAny M A (checkBuiltinCall "BaseException.__getattribute__" ⟨[.ref a,nv],[]⟩) Q E ⟨h,g,d,t,os⟩:=by
 have b1:builtinKind "BaseException.__getattribute__"=some .slot:=by decide +kernel
 have b2:splitId "BaseException.__getattribute__"=some ("BaseException","__getattribute__"):=by decide +kernel
 have b3:=F.args_bexc_ga (.ref a) nv
 have LI:Looks M h (isInstance (.ref a) (.type "BaseException")) true:=I.type.andThen (looks_mroIn X hm)
 simp only[checkBuiltinCall,b1,b2]
 refine wpAny_bind (Looks.at LI ?_)
 (repeat (first | assumption | wp_step))
theorem ga_call {R:Result->Shared->Prop} {tk:Tok} (X:K.In h) (I:InstAt h a o C od) (hm:mroIn K C (.type "BaseException")=some true) (hm2:mroIn K C (.type "object")=some true) (hc:(clsIn K C).isSome=true)
  (ha:findIn K (.ref C) "__class__"=some (some (.builtin "object.__class__"))) (hn:specialIn K (.builtin "object.__class__") "__get__"=some (some (.builtin "getset_descriptor.__get__"))) (htk:takesIn K (.builtin "object.__class__")=some true)
  (hq:R (.ok (.ret (.ref C))) ⟨h,g,d,t,os⟩):codeAny (model prog w) A (.call (.builtin "BaseException.__getattribute__") ⟨[.ref a,.str "__class__" tk],[]⟩) R ⟨h,g,d,t,os⟩:=by
 have hf:findObj K C od "__class__"=some (.bind (.builtin "getset_descriptor.__get__") (.builtin "object.__class__")):=by
  obtain ⟨cd,hc⟩:=Option.isSome_iff_exists.mp hc
  unfold findObj
  rw[hc,Option.bind_some,ha,Option.bind_some]
  simp [hn,htk]
 have L0:=I.type (M:=model prog w)
 have L1:=looks_find (M:=model prog w) X I hf
 refine codeAny_call_builtin (by decide +kernel) F.entry_bexc_ga (chk_ga X I hm ?_)
 unfold Builtin.«object.__getattribute__»
 refine wpAny_bind (wpAny_pure ?_)
 dsimp only
 refine wpAny_bind (m:=Builtin.ObjectAttr.attrName (.str "__class__" tk)) (wpAny_pure ?_)
 refine wpAny_bind (Looks.at L0 ?_)
 refine wpAny_bind (Looks.at L1 ?_)
 dsimp only
 unfold Builtin.ObjectAttr.bindTo
 refine wpAny_bind (wpAny_holding (wpAny_call (class_get (s:=⟨h,g,d,t,os⟩) (ox:=o) (od:=od) X I hm2 ?_)))
 exact wpAny_pure hq
theorem exc_class {Q:Option Value->Shared->Prop} (X:K.In h) (I:InstAt h a o C od) (hga:findIn K (.ref C) "__getattribute__"=some (some (.builtin "BaseException.__getattribute__"))) (hgt:findIn K (.ref C) "__getattr__"=some none)
  (hm:mroIn K C (.type "BaseException")=some true) (hm2:mroIn K C (.type "object")=some true) (hc:(clsIn K C).isSome=true)
  (ha:findIn K (.ref C) "__class__"=some (some (.builtin "object.__class__"))) (hn:specialIn K (.builtin "object.__class__") "__get__"=some (some (.builtin "getset_descriptor.__get__"))) (htk:takesIn K (.builtin "object.__class__")=some true)
  (hq:Q (some (.ref C)) ⟨h,g,d,t+1,os⟩):wpAny (model prog w) A (getAttr? (.ref a) "__class__") Q E ⟨h,g,d,t,os⟩:=by
 have L0:=I.type (M:=model prog w)
 have L1:=looks_findIn (M:=model prog w) X hga
 have L2:=looks_findIn (M:=model prog w) X hgt
 unfold getAttr? getAttrBy? getAttrBy
 refine wpAny_bind (wpAny_mkText (wpAny_bind (wpAny_attempt (wpAny_holding (wpAny_bind (Looks.at L0 (wpAny_bind (Looks.at L1 ?_))))))))
 have ne:(onTheHeap (Value.ref C) && Value.builtin "BaseException.__getattribute__" == Value.builtin "object.__getattribute__")=false:=by
  rw[show (Value.builtin "BaseException.__getattribute__" == Value.builtin "object.__getattribute__")=false by decide +kernel,Bool.and_false]
 dsimp only
 rw[ne,if_neg Bool.false_ne_true]
 unfold getAttrByItsOwn
 refine wpAny_bind (show wpAny _ _ (typeLookup (.ref C) "__getattr__") _ _ _ from Looks.at L2 (wpAny_bind (wpAny_attempt (wpAny_holding ?_))))
 unfold callGetattribute boundAndCalled
 rw[Bool.false_and,if_neg Bool.false_ne_true]
 have fb:bindSpecial (.builtin "BaseException.__getattribute__") (.ref a)=pure (.builtin "BaseException.__getattribute__",[.ref a]):=F.excAttr_ValueError.ga.bind (.ref a)
 rw[fb]
 refine wpAny_bind (wpAny_pure (wpAny_call (ga_call X I hm hm2 hc ha hn htk ?_)))
 exact wpAny_pure (wpAny_pure hq)
end
structure ExC (K:Frag) (C:Addr):Prop where
 ga:findIn K (.ref C) "__getattribute__"=some (some (.builtin "BaseException.__getattribute__"))
 gt:findIn K (.ref C) "__getattr__"=some none
 mb:mroIn K C (.type "BaseException")=some true
 mo:mroIn K C (.type "object")=some true
 hd:hasDictIn K C=true
 ca:findIn K (.ref C) "__class__"=some (some (.builtin "object.__class__"))
 sg:specialIn K (.builtin "object.__class__") "__get__"=some (some (.builtin "getset_descriptor.__get__"))
 tk:takesIn K (.builtin "object.__class__")=some true
theorem ExC.obj {K:Frag} {C:Addr} (e:ExC K C):∃c d cd sl,K.lookup C=some ⟨c,d,.cls cd,sl⟩:=by
 obtain ⟨cd,hc,_⟩:=any_some e.hd
 unfold clsIn at hc
 split at hc
 ·exact ⟨_,_,_,_,by assumption⟩
 ·cases hc
theorem exO_inst {X:Cx} {pins:List (Addr×Obj)} {σ:St} {H:Hp} {s:Shared} {a C:Addr} (I:Inv X pins σ H s) (e:H a=some (exO a (.ref C) none)):∃o,InstAt s.heap a o C none:=by
 obtain ⟨⟨o,vs,g,c,d,dd⟩,_⟩:=(show ObjOk X.prog X.w H s.heap a (exO a (.ref C) none) from I.hok a _ e)
 obtain ⟨oc,od,dt,sl⟩:=o
 dsimp only at c d dd
 subst c d dd
 exact ⟨_,g,rfl,rfl,trivial⟩
theorem vals_refs:∀{cs:List Addr} {us:List Value},Vals (cs.map V.ref) us->us=cs.map Value.ref
 | [],_,h=>by cases h;rfl
 | c :: cs,_,h=>by
  cases h with
  | cons a r=>cases a;rw[vals_refs r];rfl
end L2
namespace L2
open PySem PySem.Spec PyProof.Rows Nm
section
variable {X:Cx} {pins:List (Addr×Obj)} {σ:St} {H:Hp} {s:Shared}
end
theorem rd_try {hr:Ends->St->Value->Option Addr->Hp->Prop} {tb:(St->XK)->TS} {D:Ends} {σ:St} {H:Hp} (h:tb (hr D) D σ H):tTry hr tb D σ H:=h
section
variable {P:Program} {w:World} {K:PySem.W.Frag} {mg:Str->Option Value} {base:Heap}
theorem Fun.okX {x qual:Str} {st:Stmt} {f:Addr} {fd:FuncData} {N ps:List Str} {k:Nat} {sp:Sp} (F:Fun K x qual st f fd) (S:FnScope N ps (defScope st)) (len:∀vs H Q E,sp vs H Q E->vs.length=ps.length)
  (hbody:∀(cdv:Value) (A:Around) (outer:List Env) (s:Shared) (H:Hp) (vs:List V) (Q:VK) (E:XK),Room k (A.deeper (envOfC qual (defScope st) s.heap.objs.size f cdv))->sp vs H Q E →
   ∃t,PSs (cxOf (CXE P w) P w K mg base N qual (defScope st) f cdv A outer s H E) (defBody st) t∧t { nx:=fun _ H'=>Q .non H',rt:=Q } (start N vs) H):FnOk P w K mg base (CXE P w) (k+1) f fd ps sp:=by
 obtain ⟨oc,od,kV,doc,pm,an,cdv,ct,osl,rfl,lk,hcd⟩:=F.ex
 exact fn_of lk hcd S len fun A outer s H vs Q E hr hsp=>hbody cdv A outer s H vs Q E hr hsp
end
def NumM (H:Hp) (x:V):Prop:=∃r a b,x=.ref r∧H r=some (.tup [.int a,.int b])∧0 < b∧Int.gcd a b=1∧Sz 1000 a∧Sz 1000 b
theorem NumM.same {H H':Hp} {x:V} (h:NumM H x) (s:Same H H'):NumM H' x:=by
 obtain ⟨r,a,b,e,g,z⟩:=h
 exact ⟨r,a,b,e,s _ _ g,z⟩
theorem NumM.upto {H H':Hp} {x:V} {p:Addr} (h:NumM H x) (u:Upto p H H') (B:Bag H p):NumM H' x:=by
 obtain ⟨r,a,b,e,g,z⟩:=h
 exact ⟨r,a,b,e,u.tup B g,z⟩
theorem NumM.of {H:Hp} {r:Addr} {a b:Int} (h:N60 a b) (g:H r=some (.tup [.int a,.int b])):NumM H (.ref r):=⟨r,a,b,rfl,g,h.1,h.2.1,h.sa.mono (by decide),h.sb.mono (by decide)⟩
def PairM (H:Hp) (_:Unit) (x:V):Prop:=∃r y z,x=.ref r∧H r=some (.tup [y,z])∧NumM H y∧NumM H z
theorem PairM.same {H H':Hp} {u:Unit} {x:V} (h:PairM H u x) (s:Same H H'):PairM H' u x:=by
 obtain ⟨r,y,z,e,g,a,b⟩:=h
 exact ⟨r,y,z,e,s _ _ g,a.same s,b.same s⟩
theorem PairM.upto {H H':Hp} {w:Unit} {x:V} {p:Addr} (h:PairM H w x) (u:Upto p H H') (B:Bag H p):PairM H' w x:=by
 obtain ⟨r,y,z,e,g,a,b⟩:=h
 exact ⟨r,y,z,e,u.tup B g,a.upto u B,b.upto u B⟩
def K12 (p:Addr) (H:Hp) (x:V):Prop:=Kn H x∧x≠.ref p∧∀i,x=.int i->i.natAbs < 10^60
theorem K12.same {p:Addr} {H H':Hp} {x:V} (h:K12 p H x) (s:Same H H'):K12 p H' x:=⟨h.1.same s,h.2⟩
theorem K12.upto {p:Addr} {H H':Hp} {x:V} (h:K12 p H x) (u:Upto p H H'):K12 p H' x:=by
 obtain ⟨k,n,z⟩:=h
 refine ⟨?_,n,z⟩
 cases k with
 | non=>exact .non
 | bl b=>exact .bl b
 | int i=>exact .int i
 | str y=>exact .str y
 | lst e=>exact .lst (u.1 _ _ e fun q=>n (by rw[q]))
 | tup e=>exact .tup (u.1 _ _ e fun q=>n (by rw[q]))
 | dic e=>exact .dic (u.1 _ _ e fun q=>n (by rw[q]))
theorem K12.int {p:Addr} {H:Hp} {i:Int} (h:i.natAbs < 10^60):K12 p H (.int i):=⟨.int i,(fun z=>nomatch z),fun j e=>by cases e;exact h⟩
theorem K12.of {p:Addr} {H:Hp} {x:V} (h:Kn H x) (n:x≠.ref p) (ni:wholeB x=false):K12 p H x:=⟨h,n,fun i e=>by subst e;cases ni⟩
def Pair12 (p:Addr) (H:Hp) (_:Unit) (x:V):Prop:=∃r y z,x=.ref r∧H r=some (.tup [y,z])∧K12 p H y∧K12 p H z
theorem Pair12.same {p:Addr} {H H':Hp} {u:Unit} {x:V} (h:Pair12 p H u x) (s:Same H H'):Pair12 p H' u x:=by
 obtain ⟨r,y,z,e,g,a,b⟩:=h
 exact ⟨r,y,z,e,s _ _ g,a.same s,b.same s⟩
theorem Pair12.upto {p:Addr} {H H':Hp} {w:Unit} {x:V} (h:Pair12 p H w x) (u:Upto p H H') (B:Bag H p):Pair12 p H' w x:=by
 obtain ⟨r,y,z,e,g,a,b⟩:=h
 exact ⟨r,y,z,e,u.tup B g,a.upto u,b.upto u⟩
end L2
namespace L2
open PySem PySem.Spec PyProof.Rows Nm
section
variable {X:Cx}
end
def ExV (K:PySem.W.Frag) (H:Hp) (x:V):Prop:=∃a C,x=.ref a∧H a=some (exO a (.ref C) none)∧ExC K C∧∀T,OkT T->PySem.W.kitOne K (.ref C) (.type T)=some false
def KX (K:PySem.W.Frag) (H:Hp) (x:V):Prop:=Kn H x∨ExV K H x
theorem KX.same {K:PySem.W.Frag} {H H':Hp} {x:V} (h:KX K H x) (s:Same H H'):KX K H' x:=by
 rcases h with h | ⟨a,C,e0,e,r⟩
 ·exact .inl (h.same s)
 ·exact .inr ⟨a,C,e0,s _ _ e,r⟩
theorem KX.upto {K:PySem.W.Frag} {H H':Hp} {x:V} {p:Addr} (h:KX K H x) (n:x≠.ref p) (u:Upto p H H'):KX K H' x:=by
 rcases h with h | ⟨a,C,e0,e,r⟩
 ·left
  cases h with
  | non=>exact .non
  | bl b=>exact .bl b
  | int i=>exact .int i
  | str y=>exact .str y
  | lst e=>exact .lst (u.1 _ _ e fun q=>n (by rw[q]))
  | tup e=>exact .tup (u.1 _ _ e fun q=>n (by rw[q]))
  | dic e=>exact .dic (u.1 _ _ e fun q=>n (by rw[q]))
 ·exact .inr ⟨a,C,e0,u.1 _ _ e fun q=>n (by rw[e0,q]),r⟩
theorem KX.at {K:PySem.W.Frag} {H H':Hp} {q:Addr} {o:HO} (h:KX K H (.ref q)) (s:∀o,H q=some o->H' q=some o) (z:H' q=some o):H q=some o:=by
 rcases h with h | ⟨a,C,e0,e,r⟩
 ·cases h with
  | lst e=>rw[s _ e] at z;rw[e,z]
  | tup e=>rw[s _ e] at z;rw[e,z]
  | dic e=>rw[s _ e] at z;rw[e,z]
 ·cases e0
  rw[s _ e] at z;rw[e,z]
def Td (K:PySem.W.Frag) (p:Addr):Nat->Hp->V->Prop
 | 0,H,x=>KX K H x∧x≠.ref p∧∀i,x=.int i->Sz 8999 i
 | n+1,H,x=>(KX K H x∧x≠.ref p∧∀i,x=.int i->Sz 8999 i)∧∀q xs,x=.ref q->H q=some (.tup xs)->xs.length<=1000∧∀y∈xs,Td K p n H y
theorem Td.same {K:PySem.W.Frag} {p:Addr} {H H':Hp} (s:Same H H'):∀{n:Nat} {x:V},Td K p n H x->Td K p n H' x
 | 0,_,h=>⟨h.1.same s,h.2⟩
 | n+1,_,h=>⟨⟨h.1.1.same s,h.1.2⟩,fun q xs e z=>by
  subst e
  obtain ⟨a,b⟩:=h.2 q xs rfl (h.1.1.at (fun o w=>s _ _ w) z)
  exact ⟨a,fun y hy=>Td.same s (b y hy)⟩⟩
theorem Td.upto {K:PySem.W.Frag} {p:Addr} {H H':Hp} (u:Upto p H H'):∀{n:Nat} {x:V},Td K p n H x->Td K p n H' x
 | 0,_,h=>⟨h.1.upto h.2.1 u,h.2⟩
 | n+1,_,h=>⟨⟨h.1.1.upto h.1.2.1 u,h.1.2⟩,fun q xs e z=>by
  subst e
  obtain ⟨a,b⟩:=h.2 q xs rfl (h.1.1.at (fun o w=>u.1 _ _ w fun qq=>h.1.2.1 (by rw[qq])) z)
  exact ⟨a,fun y hy=>Td.upto u (b y hy)⟩⟩
theorem Td.flat {K:PySem.W.Frag} {p:Addr} {H:Hp} {x:V} {n:Nat} (k:KX K H x) (ne:x≠.ref p) (i:∀i,x=.int i->Sz 8999 i) (t:∀q xs,x=.ref q->H q≠some (.tup xs)):Td K p n H x:=by
 cases n with
 | zero=>exact ⟨k,ne,i⟩
 | succ n=>exact ⟨⟨k,ne,i⟩,fun q xs e z=>absurd z (t q xs e)⟩
theorem Td.int {K:PySem.W.Frag} {p:Addr} {H:Hp} {i:Int} {n:Nat} (h:Sz 8999 i):Td K p n H (.int i):=Td.flat (.inl (.int i)) (fun z=>nomatch z) (fun j e=>by cases e;exact h) (fun _ _ z=>nomatch z)
theorem Td.tup {K:PySem.W.Frag} {p:Addr} {H:Hp} {r:Addr} {xs:List V} {n:Nat} (g:H r=some (.tup xs)) (ne:r≠p) (l:xs.length<=1000) (h:∀y∈xs,Td K p n H y):Td K p (n+1) H (.ref r) :=
 ⟨⟨.inl (.tup g),fun z=>ne (V.ref.inj z),fun _ z=>nomatch z⟩,fun q ys e z=>by cases e;rw[g] at z;cases z;exact ⟨l,h⟩⟩
end L2
namespace L2
open PySem PySem.Spec PyProof.Rows Nm
end L2
namespace L2
open PySem PySem.Spec PyProof.Rows PySem.W
section
variable {prog:Program} {w:World} {A:Around} {E:Value->Shared->Prop} {s:Shared} {a C:Addr} {o:Obj} {K:Frag} {name:Str} {v:Value}
theorem refuse_vErr (self:Value):refuseLoop self "__setattr__" vErr=pure ():=by kernel_rfl
theorem osa_exc {R:Result->Shared->Prop} {tk:Tok} {od:Option Obj} {cd:ClassData} {l:List Value} (X:K.In s.heap) (I:InstAt s.heap a o C od) (hc:clsIn K C=some cd) (hl:cd.mro=l) (hr:refuseLoop (.ref a) "__setattr__" l=pure ()) (hm:mroIn K C (.type "object")=some true)
  (ha:findIn K (.ref C) name=some none)
  (h:wpAny (model prog w) A.in1 (Builtin.ObjectAttr.storeInOwnDict (.ref a) (.ref C) (.str name tk) name v false) (fun (fin:Fin) s'=>match fin with | .done f=>R (.ok f) s' | .again c'=>c'.quiet=true∧codeAny (model prog w) A c' R s') (fun e s'=>R (.error e) s') s) :
  codeAny (model prog w) A (.call (.builtin "object.__setattr__") ⟨[.ref a,.str name tk,v],[]⟩) R s:=by
 have SF:=PySem.F.store_object
 have sub:Looks (model prog w) s.heap (isInstance (.ref a) (.type "object")) true:=I.type.andThen (looks_mroIn X hm)
 refine codeAny_call_builtin SF.slot.plain SF.entry (@check_slot (model prog w) _ _ s "object.__setattr__" "object" "__setattr__" (.ref a) [.str name tk,v] [] _ SF.kind SF.split sub (SF.args (.ref a) (.str name tk) v) ?_)
 have hmr:Looks (model prog w) s.heap (mroOf (.ref C)) cd.mro:=(looks_clsIn X hc).andThen .now
 rw[osa_eq,refuse_eq]
 refine wpAny_bind (wpAny_bind (I.type.here (wpAny_bind (hmr.here ?_))))
 rw[hl,hr]
 refine wpAny_pure (wpAny_bind (I.type.here (wpAny_bind ((looks_findIn X ha).here ?_))))
 exact wpAny_bind (wpAny_pure h)
theorem set_exc {Q:Unit->Shared->Prop} {cd:ClassData} {l:List Value} {vs:Array Value} (X:K.In s.heap) (I:InstAt s.heap a o C none) (hc:clsIn K C=some cd) (hl:cd.mro=l) (hr:refuseLoop (.ref a) "__setattr__" l=pure ()) (hm:mroIn K C (.type "object")=some true)
  (hs:findIn K (.ref C) "__setattr__"=some (some (.builtin "object.__setattr__"))) (hd:hasDictIn K C=true) (ha:findIn K (.ref C) name=some none) (ho:o.data=.fields vs)
  (h:∀h',(∀b ob,b≠a->s.heap.get? b=some ob->h'.get? b=some ob)->h'.get? a=some { o with dict:=some s.heap.objs.size }->h'.Ns1 s.heap.objs.size (fun y=>if y=name then some v else none)->Q () { s with heap:=h',toks:=s.toks+2 }) :
  wpAny (model prog w) A (setAttr (.ref a) name v) Q E s:=by
 refine set_plain X I hs (osa_exc (s:={ s with toks:=s.toks+1 }) X I hc hl hr hm ha ?_)
 obtain ⟨cd',hc',hd'⟩:=any_some hd
 rw[hc] at hc'
 cases hc'
 obtain ⟨hx,hcl,hn,hdd⟩:=I
 obtain ⟨oc,odi,oda,osl⟩:=o
 dsimp only at hcl hdd ho
 subst hcl ho
 obtain rfl:odi=none:=by cases odi with | none=>rfl | some _=>exact hdd.elim
 have hlt:a < s.heap.objs.size:=Heap.lt_size hx
 have kp:∀b ob,s.heap.get? b=some ob->(s.heap.push emptyDict).get? b=some ob:=fun b ob q=>Heap.get?_push_of_some _ q
 refine wpAny_bind (wpAny_pure ?_)
 have ne:(Value.ref C == Value.type "module")=false:=by rfl
 dsimp only
 rw[ne,if_neg Bool.false_ne_true]
 refine wpAny_bind ?_
 show wpAny _ _ (instanceDict a true) _ _ _
 unfold instanceDict
 refine wpAny_bind (wpAny_loadPart hx (wpAny_bind (Looks.here (s:={ s with toks:=s.toks+1 }) (looks_clsIn X hc) ?_)))
 dsimp only
 rw[hd']
 have hx1:(s.heap.push emptyDict).get? a=some { cls:=Value.ref C,data:=Data.fields vs,slots:=osl }:=kp _ _ hx
 refine wpAny_bind (wpAny_alloc (wpAny_bind (wpAny_update hx1 ?_)))
 have hx2:((s.heap.push emptyDict).update a fun o=>{ o with dict:=some s.heap.objs.size }).get? a=some { cls:=Value.ref C,dict:=some s.heap.objs.size,data:=Data.fields vs,slots:=osl }:=Heap.get?_update_self _ hx1 rfl
 have hD:((s.heap.push emptyDict).update a fun o=>{ o with dict:=some s.heap.objs.size }).get? s.heap.objs.size=some emptyDict:=by
  rw[Heap.get?_update_other _ _ (Nat.ne_of_lt hlt)]
  exact Heap.get?_push_size _ rfl
 have hN:((s.heap.push emptyDict).update a fun o=>{ o with dict:=some s.heap.objs.size }).Ns1 s.heap.objs.size (fun _=>none):=⟨_,_,_,hD,rfl,(fun y hy=>by simp at hy),(by unfold UniqKeys;simp),fun _=>rfl⟩
 refine wpAny_pure (wpAny_bind (wpAny_pure (wpAny_bind ?_)))
 refine wpAny_nsSet1 (s:={ s with heap:=(s.heap.push emptyDict).update a fun o=>{ o with dict:=some s.heap.objs.size },toks:=s.toks+1 }) hN fun h' hn2 hs2=>?_
 obtain ⟨oD,esD,epD,hoD,hdD,hcD⟩:=hn2.count (PySem.Within.cons name v (ns:=[]) (fun _ z=>absurd rfl z))
 refine wpAny_bind (wpAny_lookBehind hoD (by rw[hdD];exact pastItsLine_dict (Nat.le_trans hcD (by show 1<=sizeLine+1;lia))) (wpAny_pure (h h' (fun b ob n q=>?_) ((hs2.2 a (Nat.ne_of_lt hlt)).trans hx2) hn2)))
 rw[hs2.2 b (Nat.ne_of_lt (Heap.lt_size q)),Heap.get?_update_other _ _ (Ne.symm n)]
 exact kp b ob q
end
end L2
namespace L2
open PySem PySem.Spec PyProof.Rows PySem.W
section
variable {prog:Program} {w:World} {A:Around} {E:Value->Shared->Prop} {h:Heap} {g:Array GenState} {d:Drawn} {t:Nat} {os:OsState} {a C:Addr} {o od:Obj} {K:Frag} {name:Str} {v:Value}
theorem ga_val {R:Result->Shared->Prop} {tk:Tok} (X:K.In h) (I:InstAt h a o C (some od)) (hm:mroIn K C (.type "BaseException")=some true) (hh:hasDictIn K C=true) (ha:findIn K (.ref C) name=some none) (hl:lookIn name od=some (some v))
  (hq:R (.ok (.ret v)) ⟨h,g,d,t,os⟩):codeAny (model prog w) A (.call (.builtin "BaseException.__getattribute__") ⟨[.ref a,.str name tk],[]⟩) R ⟨h,g,d,t,os⟩:=by
 have L0:=I.type (M:=model prog w)
 have L1:=looks_find (M:=model prog w) X I (findObj_own hh ha rfl hl)
 refine codeAny_call_builtin (by decide +kernel) F.entry_bexc_ga (chk_ga X I hm ?_)
 unfold Builtin.«object.__getattribute__»
 refine wpAny_bind (wpAny_pure ?_)
 dsimp only
 refine wpAny_bind (m:=Builtin.ObjectAttr.attrName (.str name tk)) (wpAny_pure ?_)
 refine wpAny_bind (Looks.at L0 (wpAny_bind (Looks.at L1 (wpAny_pure hq))))
theorem exc_get {expr:Bool} {Q:Value->Shared->Prop} (X:K.In h) (I:InstAt h a o C (some od)) (ex:ExC K C) (ha:findIn K (.ref C) name=some none) (hl:lookIn name od=some (some v)) (hv:handedIn v=true)
  (hq:Q v ⟨h,g,d,t+1,os⟩):wpAny (model prog w) A (getAttr (.ref a) name expr) Q E ⟨h,g,d,t,os⟩:=by
 have L0:=I.type (M:=model prog w)
 have L1:=looks_findIn (M:=model prog w) X ex.ga
 have L2:=looks_findIn (M:=model prog w) X ex.gt
 unfold getAttr getAttrBy
 refine wpAny_bind (wpAny_mkText (wpAny_holding (wpAny_bind (Looks.at L0 (wpAny_bind (Looks.at L1 ?_))))))
 have ne:(onTheHeap (Value.ref C) && Value.builtin "BaseException.__getattribute__" == Value.builtin "object.__getattribute__")=false:=by
  rw[show (Value.builtin "BaseException.__getattribute__" == Value.builtin "object.__getattribute__")=false by decide +kernel,Bool.and_false]
 dsimp only
 rw[ne,if_neg Bool.false_ne_true]
 unfold getAttrByItsOwn
 refine wpAny_bind (show wpAny _ _ (typeLookup (.ref C) "__getattr__") _ _ _ from Looks.at L2 (wpAny_bind (wpAny_attempt (wpAny_holding ?_))))
 unfold callGetattribute boundAndCalled
 have ne2:(expr && onTheHeap (Value.builtin "BaseException.__getattribute__"))=false:=by cases expr <;> rfl
 rw[ne2,if_neg Bool.false_ne_true]
 have fb:bindSpecial (.builtin "BaseException.__getattribute__") (.ref a)=pure (.builtin "BaseException.__getattribute__",[.ref a]):=F.excAttr_ValueError.ga.bind (.ref a)
 rw[fb]
 refine wpAny_bind (wpAny_pure (wpAny_call (ga_val X I ex.mb ex.hd ha hl ?_)))
 show wpAny _ _ (handedOut v) _ _ _
 rw[handedOut_of hv]
 exact wpAny_pure hq
end
section
variable {prog:Program} {w:World} {A:Around} {h:Heap} {g:Array GenState} {d:Drawn} {t:Nat} {os:OsState} {R:Result->Shared->Prop}
variable {nm q:Str} {C N f:Addr} {bs bm:List Value} {hdct:Bool} {sn:List Str} {sub:List Value} {ab:Bool} {col:Option Bool} {dd:Option Addr} {k0 k1 k2 k3 k5:Option Value}
abbrev newExcObj (C t:Addr):Obj:={ cls:=.ref C,data:=.fields #[.ref t,.none,.none,.none,.bool false,.none] }
theorem call_excI {rest:List Value} (T:OwnTail h vErr bm) (hC:h.get? C=some (excClassObj nm q C N bs bm hdct sn sub ab col dd k0 k1 k2 k3 k5 "ValueError.__new__"))
  (hi:Looks (model prog w) h (typeLookup (.ref C) "__init__") (some (.ref f))) (hb:∀self,Looks (model prog w) h (bindSpecial (.ref f) self) (.ref f,[self])) (hrest:rest.length<=sizeLine)
  (hq:codeAny (model prog w) (A.under (.builtin "type.__call__" ⟨.ref C :: rest,[]⟩)) (.call (.ref f) ⟨.ref (h.objs.size+1) :: rest,[]⟩) (InitBack (h.objs.size+1) R) ⟨(h.push { cls:=.type "tuple",data:=.seq rest.toArray }).push (newExcObj C h.objs.size),g,d,t,os⟩) :
  codeAny (model prog w) A (.call (.ref C) ⟨rest,[]⟩) R ⟨h,g,d,t,os⟩:=by
 have FV:=PySem.F.excBase_ValueError
 have f1:=tc_lookup
 have f2:=tc_bind (.ref C)
 have hT:(⟨h,g,d,t,os⟩:Shared).TypeIs (.ref C) "type":=⟨_,hC,rfl⟩
 refine codeAny_of_tree ?_
 show wpAny _ _ (callAny (.ref C) _) _ _ _
 (repeat (any_goals (first | assumption | with_reducible refine wpAny_loadPart_at hC ?_ | wp_step)))
 refine ⟨rfl,codeAny_call_builtin_at (Code.quiet_builtin _ (by decide +kernel)) entry_typeCall (wpAny_check_type_call_sub hC ?_)⟩
 (repeat (first | with_reducible refine wpAny_loadPart_at hC ?_ | with_reducible refine wpAny_madeBy_exc hC ?_ | wp_step))
 refine codeAny_call_builtin_code (Code.quiet_builtin _ FV.quiet) (wpAny_check_new_subT FV T hC (codeAny_exc_new_subT FV T hC ?_ hrest))
 have kp:∀b ob,h.get? b=some ob->((h.push { cls:=.type "tuple",data:=.seq rest.toArray }).push (newExcObj C h.objs.size)).get? b=some ob:=fun b ob z=>Heap.get?_push_of_some _ (Heap.get?_push_of_some _ z)
 have hC1:=kp _ _ hC
 have hg1:((h.push { cls:=.type "tuple",data:=.seq rest.toArray }).push (newExcObj C h.objs.size)).get? (h.objs.size+1)=some (newExcObj C h.objs.size):=by heap_get
 have hcC:(Value.ref C :: bm).contains (.ref C)=true:=by simp
 show wpAny _ _ _ _ _ _
 have t1:Looks (model prog w) ((h.push { cls:=.type "tuple",data:=.seq rest.toArray }).push (newExcObj C h.objs.size)) (typeOf (.ref (h.objs.size+1))) (.ref C):=(Looks.ld hg1).andThen .now
 have sb:Looks (model prog w) ((h.push { cls:=.type "tuple",data:=.seq rest.toArray }).push (newExcObj C h.objs.size)) (isSubtype (.ref C) (.ref C)) true:=fun A' Q' E' s' k z=>by
  obtain ⟨h',g',d',t',os'⟩:=s'
  exact wpAny_isSubtype_exc (k _ _ hC1) (by rw[hcC];exact z)
 have LI:Looks (model prog w) ((h.push { cls:=.type "tuple",data:=.seq rest.toArray }).push (newExcObj C h.objs.size)) (isInstance (.ref (h.objs.size+1)) (.ref C)) true:=t1.andThen sb
 refine wpAny_bind (Looks.at LI ?_)
 rw[if_neg (by simp)]
 unfold callSpecial? specialOf
 refine wpAny_bind (wpAny_holding (wpAny_bind (wpAny_bind (Looks.at t1 (Looks.at (hi.keeps kp) ?_)))))
 dsimp only
 refine wpAny_holding (wpAny_bind (Looks.at ((hb _).keeps kp) ?_))
 dsimp only
 refine wpAny_bind (wpAny_call (codeAny_mono hq fun r s' z=>?_))
 rcases r with e | (v | _ | _ | _) <;> first | exact z | exact z.elim | skip
 obtain ⟨rfl,z⟩:=z
 exact wpAny_pure (wpAny_pure z)
end
end L2
namespace L2
open PySem PySem.Spec PyProof.Rows PySem.W
def exN (a:Addr) (cls:Value) (dx:Option Addr):HO:=.ext fun h=>∃o vs t,h.get? a=some o∧o.cls=cls∧o.data=.fields vs∧o.dict=dx∧vs[0]?=some (.ref t)∧vs[1]?=some .none
theorem exN_ok {P:Program} {w:World} {H:Hp} {h:Heap} {a:Addr} {cls:Value} {dx:Option Addr} {o:Obj} {vs:Array Value} {t:Addr} (e:h.get? a=some o) (c:o.cls=cls) (d:o.data=.fields vs) (x:o.dict=dx) (v0:vs[0]?=some (.ref t)) (v1:vs[1]?=some .none) :
  ObjOk P w H h a (exN a cls dx):=⟨⟨o,vs,t,e,c,d,x,v0,v1⟩,⟨o,e⟩,fun h1 h2 ⟨o,vs,t,q,r⟩ k=>⟨o,vs,t,k o q,r⟩⟩
structure ExI (K:Frag) (C S:Addr):Prop where
 lk:∃dd cd k0 k1 k2 k3 k5,K.lookup C=some ⟨.type "type",dd,.cls cd,#[k0,k1,k2,k3,some (.builtin "ValueError.__new__"),k5]⟩∧cd.mro=.ref C :: .ref S :: vErr∧cd.hasDel=false
 exS:excIn K S vErr "ValueError.__new__"=true
 sa:findIn K (.ref C) "__setattr__"=some (some (.builtin "object.__setattr__"))
 xc:ExC K C
theorem ExI.at {K:Frag} {C S:Addr} (e:ExI K C S) {h:Heap} (X:K.In h):∃N nm q bs hdct sn sub ab col dd k0 k1 k2 k3 k5 cd,h.get? C=some (excClassObj nm q C N bs (.ref S :: vErr) hdct sn sub ab col dd k0 k1 k2 k3 k5 "ValueError.__new__")∧OwnTail h vErr (.ref S :: vErr)∧clsIn K C=some cd∧cd.mro=.ref C :: .ref S :: vErr:=by
 obtain ⟨dd,cd,k0,k1,k2,k3,k5,lk,hm,hdl⟩:=e.lk
 obtain ⟨nm,bs,mro,ns,qn,hd,sn,sub,ab,col,del⟩:=cd
 dsimp only at hm hdl
 subst hm hdl
 obtain ⟨tl,N,nm',q',bs',hdct',sn',sub',ab',col',dd',j0,j1,j2,j3,j5,mN,hS,hN,hni,T⟩:=exc_obj X e.exS
 exact ⟨ns,nm,qn,bs,hd,sn,sub,ab,col,dd,k0,k1,k2,k3,k5,_,X _ _ lk,.own hS hN hni .base,by unfold clsIn;rw[lk],rfl⟩
section
variable {X:Cx} {pins:List (Addr×Obj)} {σ:St} {H:Hp} {s:Shared}
def sFldE (K:Frag) (ta tv:TE) (f:Str):TS:=fun D σ H=>tv σ H fun y H1=>ta σ H1 fun x H2=>∃a C S,x=.ref a∧H2 a=some (exN a (.ref C) none)∧ExI K C S∧findIn K (.ref C) f=some none ∧
 ∀dx,H2 dx=none->dx≠a->D.nx σ (upd (upd H2 dx (.xd [(f,y)])) a (exN a (.ref C) (some dx)))
theorem ps_fldE {o value:Expr} {f:Str} {ta tv:TE} {pos pos':Pos} (ha:PE X o ta) (hv:PE X value tv) (hs:swapsWith value (some (.Attribute o f pos')) pos.line X.env=pure false):PS X (.Assign [.Attribute o f pos'] value pos) (sFldE X.K ta tv f):=by
 intro pins s σ H D I h
 refine plainObj_wpAny_Assign_Attribute (thn (hv pins s σ H _ I h) fun u s1 ⟨y,H1,I1,ry,q⟩=>thn (ha pins s1 σ H1 _ I1 q) fun ov s2 ⟨x,H2,I2,rx,a,C,S,ex,ea,xi,na,q2⟩=>?_) hs
 subst ex
 cases rx
 obtain ⟨⟨ob,vs,t,g0,oc,od,odd,v0,v1⟩,_⟩:=(show ObjOk X.prog X.w H2 s2.heap a (exN a (.ref C) none) from I2.hok a _ ea)
 obtain ⟨N,nm,qn,bs,hdct,sn,sub,ab,col,dd,k0,k1,k2,k3,k5,cd,hC,T,hc,hm⟩:=xi.at I2.kIn
 have J:InstAt s2.heap a ob C none:=by
  obtain ⟨c1,d1,e1,l1⟩:=ob
  dsimp only at oc od odd
  subst oc od odd
  exact ⟨g0,rfl,rfl,trivial⟩
 have alt:a < s2.heap.objs.size:=Heap.lt_size g0
 have hn:H2 s2.heap.objs.size=none:=I2.hok.fresh (Nat.le_refl _)
 have nea:s2.heap.objs.size≠a:=Ne.symm (Nat.ne_of_lt alt)
 refine set_exc I2.kIn J hc hm (by rw[refuseLoop_ref,refuseLoop_ref];exact refuse_vErr _) xi.xc.mo xi.sa xi.xc.hd na od fun h' kp g1 ns=>?_
 have kept:∀b ub,H2 b=none->s2.heap.get? b=some ub->h'.get? b=some ub:=fun b ub n z=>kp b ub (fun e=>by rw[e,ea] at n;cases n) z
 have nu:∀b ub,s2.heap.get? b=some ub->H2 b=none->upd (upd H2 s2.heap.objs.size (.xd [(f,y)])) a (exN a (.ref C) (some s2.heap.objs.size)) b=none:=fun b ub z n=>by
  rw[upd_ne (fun e=>by rw[e,ea] at n;cases n),upd_ne (Nat.ne_of_lt (Heap.lt_size z))];exact n
 have old:∀b u',H2 b=some u'->b≠a->upd (upd H2 s2.heap.objs.size (.xd [(f,y)])) a (exN a (.ref C) (some s2.heap.objs.size)) b=some u':=fun b u' z n=>by
  rw[upd_ne n,upd_ne (fun e=>by rw[e,hn] at z;cases z)];exact z
 have nat:∀b xs,H2 b=some (.tup xs)->b≠a:=fun b xs z e=>by rw[e,ea] at z;cases z
 refine ⟨σ,_,I2.un (t':=s2.toks+2) ⟨fun b ub z n _ _=>kept b ub n z,fun b ub z n _ _=>⟨ub.slots,kept b ub n z⟩,fun b ub z n _=>nu b ub z n,fun b ub z _=>?_,fun b xs z=>old b _ z (nat b xs z),fun b ub u' z=>old b _ z (fun e=>by rw[e,ea] at z;cases z),fun b ps z=>⟨#[],by rw[old b _ z (fun e=>by rw[e,ea] at z;cases z)];simp⟩⟩ (fun b u' z=>?_),q2 _ hn nea⟩
 ·by_cases e:b=a
  ·subst e;exact ⟨_,g1⟩
  ·exact ⟨ub,kp b ub e z⟩
 ·by_cases e:b=a
  ·subst e
   rw[upd_same] at z
   cases z
   exact exN_ok g1 oc od rfl v0 v1
  ·rw[upd_ne e] at z
   by_cases e2:b=s2.heap.objs.size
   ·subst e2
    rw[upd_same] at z
    cases z
    refine ⟨_,ns,fun gn=>?_⟩
    show RelO (List.lookup gn [(f,y)]) (if gn=f then some u else none)
    by_cases q:gn=f
    ·subst q
     rw[if_pos rfl]
     simp only[List.lookup,beq_self_eq_true]
     exact ry
    ·rw[if_neg q]
     have hb:(gn == f)=false:=beq_eq_false_iff_ne.mpr q
     simp only[List.lookup,hb]
     exact True.intro
   ·rw[upd_ne e2] at z
    have ne2:∀c,(c=b∨H2 c=some (.own b))->c≠a:=fun c hcc=>by
     rcases hcc with rfl | hcc
     ·exact e
     ·intro z2;rw[z2,ea] at hcc;cases hcc
    exact (I2.hok b u' z).stay (fun c ub hcc q=>kp c ub (ne2 c hcc) q) (fun c q=>old c _ q (ne2 c (.inr q))) fun c xs q=>old c _ q (nat c xs q)
def tMakeE (C:Addr) (sp:Sp) (t:TA):TE:=fun σ H Q=>t σ H fun vs H1=>∀e,H1 e=none->sp (.ref e :: vs) (upd H1 e (exN e (.ref C) none)) (fun v H2=>v=.non∧Q (.ref e) H2) E0
theorem Inv.newExc (hex:X.ex=[]) (I:Inv X pins σ H s) {C:Addr} {rest:List Value}:H (s.heap.objs.size+1)=none ∧
  Inv X pins σ (upd H (s.heap.objs.size+1) (exN (s.heap.objs.size+1) (.ref C) none)) { s with heap:=(s.heap.push { cls:=.type "tuple",data:=.seq rest.toArray }).push (newExcObj C s.heap.objs.size) }:=by
 have hn:H (s.heap.objs.size+1)=none:=I.hok.fresh (Nat.le_succ _)
 have I1:=I.kept (t':=s.toks) (h':=s.heap.push { cls:=.type "tuple",data:=.seq rest.toArray }) fun b u q=>Heap.get?_push_of_some _ q
 have e2:((s.heap.push { cls:=.type "tuple",data:=.seq rest.toArray }).push (newExcObj C s.heap.objs.size)).get? (s.heap.objs.size+1)=some (newExcObj C s.heap.objs.size):=by heap_get
 exact ⟨hn,I1.laid (a:=s.heap.objs.size+1) (o:=exN (s.heap.objs.size+1) (.ref C) none) (t':=s.toks) (fun b u q=>Heap.get?_push_of_some _ q) (Nat.le_of_eq (Heap.size_push _ _)) (exN_ok e2 rfl rfl rfl rfl rfl)⟩
theorem pe_makeE {k:Nat} {C S f:Addr} {fd:FuncData} {ps:List Str} {sp:Sp} {x:Str} {e:Expr} {es:List Expr} {t:TA} {p pos:Pos} (hex:X.ex=[]) (xi:ExI X.K C S) (hi:findIn X.K (.ref C) "__init__"=some (some (.ref f))) (hf:typeIn X.K (.ref f)=some (.type "function")) (kp:keepIn X.K (.ref C)=true)
  (F:FnOk X.prog X.w X.K X.mg X.base CX0 k f fd ps sp) (hr:Room (k+1) X.A) (hg:Gl X x) (hm:X.mg x=some (.ref C)) (hb:Binds X.K fd ps []) (ha:PA X (e :: es) t) (hps:Nat.ble ps.length 1000=true:=by rfl)
  (hdb:(x == ("__debug__":Str))=false:=by decide) (he:starEach (e :: es) X.env=(false,eval e X.env) :: starEach es X.env:=by rfl) (hpl:(backTo pos (starEach es X.env)).any (·.1)=false:=by rfl) :
  PE X (.Call (.Name x p) (e :: es) [] pos) (tMakeE C sp t):=by
 intro pins s σ H Q I h
 refine wpAny_Call_Name_kw (ld_glob I hg hm ?_ hdb)
 refine PySem.W.callWith_K (h₀:=X.base) I.ok.mod.kin kp (thn (ha pos pins s σ H _ I h) fun us s1 ⟨vs,H1,I1,r,q⟩=>⟨I1.kIn,?_⟩) he hpl
 obtain ⟨N,nm,qn,bs,hdct,sn,sub,ab,col,dd,k0,k1,k2,k3,k5,cd,hC,T,hc,hmro⟩:=xi.at I1.kIn
 obtain ⟨hn,I2⟩:=I1.newExc hex (C:=C) (rest:=us)
 have hq:=q _ hn
 have r2:Vals (V.ref (s1.heap.objs.size+1) :: vs) (Value.ref (s1.heap.objs.size+1) :: us):=.cons rfl r
 have hlen:(Value.ref (s1.heap.objs.size+1) :: us++[]).length=ps.length:=by
  rw[List.append_nil]
  have e':=r2.length
  rw[F.len _ _ _ _ hq] at e'
  exact e'.symm
 have small:us.length<=sizeLine:=by
  have e':=r2.length
  rw[F.len _ _ _ _ hq,List.length_cons] at e'
  have:=Nat.le_of_ble_eq_true hps
  have z:(1000:Nat)<=sizeLine:=by rw[sizeLine_eq];decide
  lia
 have bd:=hb _ (Value.ref (s1.heap.objs.size+1) :: us) I2.kIn hlen
 rw[List.append_nil] at bd
 refine wpAny_call (call_excI (h:=s1.heap) (g:=s1.gens) (d:=s1.drawn) (t:=s1.toks) (os:=s1.os) T hC (looks_findIn I1.kIn hi) (fun self=>bind_fn I1.kIn self hf) small (codeAny_mono (F.run _ X.stack _ _ ⟨Value.ref (s1.heap.objs.size+1) :: us,[]⟩ (Value.ref (s1.heap.objs.size+1) :: us) _ _ E0 (hr.make C us [])
  (I2.env0.make C us []) bd r2 hq) fun r' s' hq'=>?_))
 cases r' with
 | error z=>exact hq'.elim
 | ok fl =>
  cases fl with
  | ret u =>
   obtain ⟨v,H',I3,rv,ev,q3⟩:=I2.after hq'
   subst ev
   exact ⟨rv,⟨V.ref (s1.heap.objs.size+1),H',I3,rfl,q3⟩⟩
  | next=>exact False.elim hq'
  | brk=>exact False.elim hq'
  | cont=>exact False.elim hq'
def hidE (H:Hp) (a:Addr):Hp:=fun b=>if b=a then none else H b
theorem hid_ne {H:Hp} {a b:Addr} (h:b≠a):hidE H a b=H b:=by unfold hidE;rw[if_neg h]
theorem hid_of {H:Hp} {a b:Addr} {u:HO} (h:hidE H a b=some u):b≠a∧H b=some u:=by
 unfold hidE at h
 split at h
 ·cases h
 ·exact ⟨by assumption,h⟩
def ThrowsT (X:Cx) (E:XK):Prop:=∀(pins:List (Addr×Obj)) (σ:St) (H:Hp) (s:Shared) (a:Addr) (cls:Value) (dx:Option Addr),Inv X pins σ H s->H a=some (exN a cls dx)->X.H₀ a=none->E cls dx (hidE H a)->X.xe (.ref a) s
theorem throwsT_def {P : Program} {w : World} {K : Frag} {mg : Str → Option Value} {base : Heap} {N : List Str} {qual : Str} {scope : Scope} {f : Addr} {cd : Value} {A : Around} {outer : List Env} {s : Shared} {H : Hp} {E : XK} :
    ThrowsT (cxOf (CXE P w) P w K mg base N qual scope f cd A outer s H E) E := by
  intro pins σ H1 s1 e cls dx I he h0 hE
  have h0 : H e = none := h0
  obtain ⟨⟨oe, vs, t, g0, oc, od, odd, v0, v1⟩, _⟩ := (show ObjOk P w H1 s1.heap e (exN e cls dx) from I.hok e _ he)
  subst oc
  have hfr : (A.deeper (envOfC qual scope s.heap.objs.size f cd)).frames = some (envOfC qual scope s.heap.objs.size f cd :: outer) := I.ok.frames
  have hstk : s1.heap.FunFrames base (envOfC qual scope s.heap.objs.size f cd :: outer) := I.stack
  have nL : ∀ b o, s.heap.get? b = some o → b ≠ s.heap.objs.size := fun b o q => Nat.ne_of_lt (Heap.lt_size q)
  -- e is none of the entry's untracked things
  have ns0 : s.heap.get? e = none := by
    cases q : s.heap.get? e with
    | none => rfl
    | some o =>
      have := I.base.free e o q h0 (List.not_mem_nil)
      rw [he] at this; cases this
  have enf : e ∉ frs (envOfC qual scope s.heap.objs.size f cd :: outer) := fun z => by
    have := I.stkFree e z
    rw [he] at this; cases this
  obtain ⟨hid, eh⟩ : ∃ l, l = e :: frs (envOfC qual scope s.heap.objs.size f cd :: outer) := ⟨_, rfl⟩
  have hfun : s1.heap.FunFrames (hideAll s1.heap hid) (envOfC qual scope s.heap.objs.size f cd :: outer) := funFrames_hide hstk fun env hm b hb => by rw [eh]; exact List.mem_cons_of_mem _ (List.mem_filterMap.mpr ⟨env, hm, hb⟩)
  have hD : DicAt e dx s1.heap := odd ▸ DicAt.of g0
  have c1 : ∀ b u, hidE H1 e b = some u → ∃ o, (hideAll s1.heap hid).get? b = some o := fun b u q => by
    obtain ⟨ne, q⟩ := hid_of q
    obtain ⟨o, z⟩ := (I.hok b u q).there
    refine ⟨o, hideAll_get _ z fun m => ?_⟩
    rw [eh] at m
    rcases List.mem_cons.mp m with m | m
    · exact ne m
    · have := I.stkFree b m
      rw [q] at this; cases this
  have c2 : ∀ b o, s.heap.get? b = some o → b ∉ frs outer → ∃ o', (hideAll s1.heap hid).get? b = some o' := fun b o q hb => by
    obtain ⟨o', z⟩ := I.base.there b o q (List.not_mem_nil)
    refine ⟨o', hideAll_get _ z fun m => ?_⟩
    rw [eh, frs_cons (L := s.heap.objs.size) rfl] at m
    rcases List.mem_cons.mp m with m | m
    · rw [m, ns0] at q; cases q
    rcases List.mem_cons.mp m with m | m
    · exact nL b o q m
    · exact hb m
  have hU0 : Un (frs outer) [] H H1 s.heap s1.heap := I.base
  have hU : Un (frs outer) [] H (hidE H1 e) s.heap s1.heap := ⟨hU0.keep, hU0.slot, fun b o q n hx => by
      rw [hid_ne (fun z => by rw [z, ns0] at q; cases q)]; exact hU0.free b o q n hx, hU0.there, fun b xs q => by
      have q' := hU0.tups b xs q
      rw [hid_ne (fun z => by rw [z, he] at q'; cases q')]; exact q', fun b o u q => by
      have q' := hU0.frzs b o u q
      rw [hid_ne (fun z => by rw [z, he] at q'; cases q')]; exact q', fun b ps q => by
      obtain ⟨m, q'⟩ := hU0.tbls b ps q
      exact ⟨m, by rw [hid_ne (fun z => by rw [z, he] at q'; cases q')]; exact q'⟩⟩
  have hok1 : HOk P w (hidE H1 e) s1.heap := fun b u q => by
    obtain ⟨ne, q⟩ := hid_of q
    exact (I.hok b u q).stay (fun c v _ z => z) (fun c z => by rw [hid_ne (fun y => by rw [y, he] at z; cases z)]; exact z) fun c xs z => by rw [hid_ne (fun y => by rw [y, he] at z; cases z)]; exact z
  refine wpAny_mono (wpAny_dict (e := e) (d := dx) (dk_leaving _ _) (wpAny_leaving_firstW (E := fun _ _ => False) (Q := fun _ s2 => Fly0 P w outer H s (hidE H1 e) e t oe.cls (hideAll s1.heap hid) s2)
    (base := hideAll s1.heap hid) (L := s.heap.objs.size) hfr hfun rfl g0 (fun b o q => of_hideAll _ q) (hideAll_none _ (by rw [eh]; exact List.mem_cons_self)) od v1 v0 fun h2 hL => ?_) hD) (fun _ s2 ⟨F, dc⟩ => ⟨e, t, oe.cls, dx, hidE H1 e, _, rfl, ⟨F, dc⟩, hE⟩) (fun _ _ z => z.1.elim)
  obtain ⟨x1, ⟨_, _, x2⟩, x3, x4⟩ := hL
  have fl : Heap.FlyingW (hideAll s1.heap hid) outer e oe.cls (.ref t) h2 := ⟨x1, hideAll_none _ (by rw [eh]; exact List.mem_cons_self), x2, x3⟩
  obtain ⟨U2, ok2⟩ := fly_un hU hok1 (fun b o q => of_hideAll _ q) x1 x4 c1 c2 I.ok.frf (fun b hb o q => by
    obtain ⟨_, o', e', d⟩ := I.ok.funs.mem hb
    have e' : s.heap.get? b = some o' := e'
    rw [q] at e'; cases e'; exact d)
  exact ⟨I.os, I.bare, U2, ok2, fl, c1, c2⟩
end
end L2
namespace L2
open PySem PySem.Spec PyProof.Rows PySem.W
section
variable {X:Cx}
def tRaiseE (K:Frag) (H0:Hp) (te:TE) (E:XK):TS:=fun _ σ H=>te σ H fun v H1=>∃a C S dx,v=.ref a∧H1 a=some (exN a (.ref C) dx)∧H0 a=none∧ExI K C S∧E (.ref C) dx (hidE H1 a)
theorem ps_raiseE {E:XK} {e:Expr} {te:TE} {pos:Pos} (hx:ThrowsT X E) (hc:X.calm=true) (he:PE X e te):PS X (.Raise (some e) none pos) (tRaiseE X.K X.H₀ te E):=by
 intro pins s σ H D I h
 rw[arm_exec_Raise]
 refine wpAny_bind (wpAny_standAt ?_)
 unfold raiseStmt
 dsimp only
 refine wpAny_bind (wpAny_bind (thn (he pins s σ H _ I h) fun u s1 ⟨v,H1,I1,rv,a,C,S,dx,ev,ea,h0,xi,q⟩=>wpAny_bind (wpAny_standAt (wpAny_pure ?_))))
 subst ev
 cases rv
 obtain ⟨⟨ob,vs,t,g0,oc,od,odd,v0,v1⟩,_⟩:=(show ObjOk X.prog X.w H1 s1.heap a (exN a (.ref C) dx) from I1.hok a _ ea)
 obtain ⟨N,nm,qn,bs,hdct,sn,sub,ab,col,dd,k0,k1,k2,k3,k5,cd,hC,T,hcl,hm⟩:=xi.at I1.kIn
 have hxe:=hx pins σ H1 s1 a _ _ I1 ea h0 q
 have hhd:=I1.ok.hd hc
 obtain ⟨c1,d1,e1,l1⟩:=ob
 dsimp only at oc od odd
 subst oc od odd
 have hcB:(Value.ref C :: .ref S :: vErr).contains (.type "BaseException")=true:=by rfl
 obtain ⟨hp,gs,dr,tk,os⟩:=s1
 have LT:Looks (model X.prog X.w) hp (typeOf (.ref a)) (.ref C):=(Looks.ld g0).andThen .now
 have LTT:Looks (model X.prog X.w) hp (typeOf (.ref C)) (.type "type"):=(Looks.ld hC).andThen .now
 have LIT:Looks (model X.prog X.w) hp (isType (.ref a)) false:=fun A' Q' E' s' k z=>by
  unfold isType loadHead
  exact wpAny_bind (wpAny_loadPart (k _ _ g0) (wpAny_pure z))
 have LIE:Looks (model X.prog X.w) hp (isExcClass (.ref a)) false:=fun A' Q' E' s' k z=>by
  unfold isExcClass
  refine wpAny_bind ((LIT.keeps k).here ?_)
  rw[if_neg Bool.false_ne_true]
  exact wpAny_pure z
 have LIB:Looks (model X.prog X.w) hp (isInstance (.ref a) (.type "BaseException")) true:=LT.andThen (looks_mroIn (show X.K.In hp from I1.kIn) xi.xc.mb)
 simp only[evalOpt,Option.map]
 refine wpAny_bind (wpAny_pure (wpAny_bind (wpAny_holding ?_)))
 unfold excFromValue
 refine wpAny_bind (Looks.at LIE ?_)
 rw[if_neg Bool.false_ne_true]
 refine wpAny_bind (Looks.at LIB ?_)
 rw[if_pos rfl]
 refine wpAny_pure ?_
 refine wpAny_bind (Looks.at LIT ?_)
 rw[if_neg Bool.false_ne_true]
 unfold raisedInstance
 refine wpAny_bind (wpAny_bind (Looks.at LT (wpAny_bind (Looks.at LTT ?_))))
 rw[if_pos (by rfl)]
 refine wpAny_pure (wpAny_bind ?_)
 unfold setFlight
 refine wpAny_bind (wpAny_field g0 rfl v1 ?_)
 rw[if_neg (by decide)]
 exact wpAny_pure (wpAny_raiseNew_none hhd hxe)
def tFldE (K:Frag) (ta:TE) (f:Str):TE:=fun σ H Q=>ta σ H fun x H1=>∃a C dx fs v,x=.ref a∧H1 a=some (exO a (.ref C) (some dx))∧H1 dx=some (.xd fs)∧ExC K C∧findIn K (.ref C) f=some none∧fs.lookup f=some v∧Q v H1
theorem exD_inst {pins:List (Addr×Obj)} {σ:St} {H:Hp} {s:Shared} {a C dx:Addr} {fs:List (Str×V)} (I:Inv X pins σ H s) (e:H a=some (exO a (.ref C) (some dx))) (ed:H dx=some (.xd fs)):∃o od,InstAt s.heap a o C (some od)∧∃mA:Str->Option Value,(∀f,RelO (fs.lookup f) (mA f))∧∀n,lookIn n od=some (mA n):=by
 obtain ⟨⟨o,vs,g,c,d,dd⟩,_⟩:=(show ObjOk X.prog X.w H s.heap a (exO a (.ref C) (some dx)) from I.hok a _ e)
 obtain ⟨mA,ns,r⟩:=(show ObjOk X.prog X.w H s.heap dx (.xd fs) from I.hok dx _ ed)
 obtain ⟨od,god,hl⟩:=lookIn_ns ns
 obtain ⟨oc,odi,dt,sl⟩:=o
 dsimp only at c d dd
 subst c d dd
 exact ⟨_,od,⟨g,rfl,rfl,god⟩,mA,r,hl⟩
theorem handed_rel {v:V} {u:Value} (r:RelV v u):handedIn u=true:=by
 cases v with
 | non=>cases (show u=Value.none from r);rfl
 | bl b=>cases (show u=Value.bool b from r);rfl
 | int i=>obtain ⟨t,rfl⟩:=(show ∃t,u=Value.int i t from r);rfl
 | str y=>obtain ⟨t,rfl⟩:=(show ∃t,u=Value.str y t from r);rfl
 | byt y=>obtain ⟨t,rfl⟩:=(show ∃t,u=Value.bytes y t from r);rfl
 | flt y=>obtain ⟨t,rfl⟩:=(show ∃t,u=Value.float y t from r);rfl
 | ref y=>cases (show u=Value.ref y from r);rfl
 | ty n=>cases (show u=Value.type n from r);rfl
theorem pe_fldE {e:Expr} {f:Str} {pos:Pos} {ta:TE} (he:PE X e ta) (hb:attributeBase e f X.env (eval e X.env)=eval e X.env):PE X (.Attribute e f pos) (tFldE X.K ta f):=by
 intro pins s σ H Q I h
 refine attr_of hb (thn (he pins s σ H _ I h) fun u s1 ⟨x,H1,I1,rx,a,C,dx,fs,v,ex,ea,ed,xc,na,lf,q⟩=>?_)
 subst ex
 cases rx
 obtain ⟨o,od,J,mA,r,hl⟩:=exD_inst I1 ea ed
 have rf:=r f
 rw[lf] at rf
 cases hm:mA f with
 | none=>rw[hm] at rf;exact rf.elim
 | some u =>
  rw[hm] at rf
  have rf:RelV v u:=rf
  have tokd:=I1.tok (s1.toks+1)
  obtain ⟨hp,gs,dr,tk,os⟩:=s1
  exact exc_get (show X.K.In hp from I1.kIn) J xc na (by rw[hl,hm]) (handed_rel rf) ⟨v,H1,tokd,rf,q⟩
def rIsX (K:Frag) (c:Value):V->Hp->VK->Prop:=fun x H Q=>∃a C dx b,x=.ref a∧H a=some (exO a (.ref C) dx)∧(∀d,dx=some d->∃fs,H d=some (.xd fs))∧ExC K C∧kitOne K (.ref C) c=some b∧Q (.bl b) H
theorem exA_inst {pins:List (Addr×Obj)} {σ:St} {H:Hp} {s:Shared} {a C:Addr} {dx:Option Addr} (I:Inv X pins σ H s) (e:H a=some (exO a (.ref C) dx)) (ed:∀d,dx=some d->∃fs,H d=some (.xd fs)):∃o od,InstAt s.heap a o C od:=by
 cases dx with
 | none=>obtain ⟨o,J⟩:=exO_inst I e;exact ⟨o,none,J⟩
 | some d =>
  obtain ⟨fs,ed⟩:=ed d rfl
  obtain ⟨o,od,J,_⟩:=exD_inst I e ed
  exact ⟨o,some od,J⟩
theorem kitx_excA {K:Frag} {a C:Addr} (e:ExC K C):KitX K (.ref a) (.ref C) (fun h=>∃o od,InstAt h a o C od) where
 ty:=fun _ _ _ ⟨_,_,I⟩=>I.type
 it:=fun _ _ X _=>by
  obtain ⟨c,d,cd,sl,lk⟩:=e.obj
  intro A' Q' E' s' k q
  unfold isType loadHead
  exact wpAny_bind (wpAny_loadPart (k _ _ (X _ _ lk)) (wpAny_pure q))
 ne:=fun h tp dd its n sl X htp=>by
  obtain ⟨c,d,cd,sl',lk⟩:=e.obj
  rcases Bool.eq_false_or_eq_true (Value.ref C == Value.ref tp) with q | q
  ·have z:C=tp:=Value.ref.inj (beq_iff_eq.mp q)
   subst z
   rw[X _ _ lk] at htp
   cases htp
  ·exact q
 ca:=fun {prog w A E Q s} X ⟨_,_,I⟩ k=>by
  obtain ⟨cd,hc,_⟩:=any_some e.hd
  obtain ⟨h,g,d,t,os⟩:=s
  exact exc_class X I e.ga e.gt e.mb e.mo (by rw[hc];rfl) e.ca e.sg e.tk k
theorem isX_ok {pins:List (Addr×Obj)} {σ:St} {H:Hp} {s:Shared} {A:Around} {E:Value->Shared->Prop} {Q:Value->Shared->Prop} {a C:Addr} {dx:Option Addr} {c:Value} {b:Bool} (I:Inv X pins σ H s) (e:H a=some (exO a (.ref C) dx)) (ed:∀d,dx=some d->∃fs,H d=some (.xd fs)) (xc:ExC X.K C)
  (k:kitOne X.K (.ref C) c=some b) (h:∀tk,Q (.bool b) { s with toks:=tk }):wpAny (model X.prog X.w) A (call (.builtin "isinstance") [.ref a,c]) Q E s:=kia_one (kitx_excA xc) I.kIn (exA_inst I e ed) k (fun z=>nomatch z) h
theorem call_isX {cv:V} {c:Value} (rc:∀u,RelV cv u->u=c):CallR X (.builtin "isinstance") (fun vs H Q=>∃x,vs=[x,cv]∧rIsX X.K c x H Q):=by
 intro pins s σ H vs us Q I r h
 obtain ⟨x,rfl,a,C,dx,b,rfl,ea,ed,xc,ek,q⟩:=h
 obtain ⟨u,v,rfl,ru,rv⟩:=vals2 r
 cases ru
 rw[rc v rv]
 exact isX_ok I ea ed xc ek fun tk=>⟨.bl b,H,I.tok tk,rfl,q⟩
end
end L2
namespace L2
open PySem PySem.Spec PyProof.Rows Nm
def sp_initE (K:PySem.W.Frag) (C S:Addr) (f:Str):Sp:=fun vs H Q _=>∃e y,vs=[.ref e,y]∧H e=some (exN e (.ref C) none)∧∀dx,H dx=none->dx≠e->Q .non (upd (upd H dx (.xd [(f,y)])) e (exN e (.ref C) (some dx)))
theorem same_hid {H H1:Hp} {e dx:Addr} {u u' o:HO} (hn:H e=none) (s:Same H H1) (hd:H1 dx=none):Same H (hidE (upd (upd (upd H1 e u) dx o) e u') e):=fun b w q=>by
 have be:b≠e:=fun z=>by rw[z,hn] at q;cases q
 have bd:b≠dx:=fun z=>by have:=s _ _ q;rw[z,hd] at this;cases this
 rw[hid_ne be,upd_ne be,upd_ne bd,upd_ne be]
 exact s _ _ q
inductive sp_raised17 (cs:List Addr) (fs:List Str) (vs:List V) (H:Hp) (Q:VK) (E:XK):Prop
 | mk (i:Nat) (y:V):vs=[.int i,y]->i < 10->(i < 7->∀dx H',Same H H'->H' dx=some (.xd [(fs.getD i "",y)])->E (.ref (cs.getD i 0)) (some dx) H')->(7<=i->E (.ref (cs.getD i 0)) none H)->sp_raised17 cs fs vs H Q E
inductive sp_caught17 (cs:List Addr) (vs:List V) (H:Hp) (Q:VK) (E9:XK):Prop
 | mk (i:Nat) (y:V):vs=[.int i,y]->i < 10->(∀r a dx H',Same H H'->H' r=some (.tup [.int i,y,.ref a])->H' a=some (exO a (.ref (cs.getD i 0)) dx)->(∀d,dx=some d->∃fs,H' d=some (.xd fs))->Q (.ref r) H')->sp_caught17 cs vs H Q E9
inductive sp_kinds17 (cs:List Addr) (vs:List V) (H:Hp) (Q:VK) (E9:XK):Prop
 | mk (i:Nat) (a:Addr) (dx:Option Addr):vs=[.ref a]->i < 10->H a=some (exO a (.ref (cs.getD i 0)) dx)->(∀d,dx=some d->∃fs,H d=some (.xd fs))->(∀r H',Same H H'->H' r=some (.lst ((List.range 10).map fun j=>V.bl (decide (j=i))))->Q (.ref r) H')->sp_kinds17 cs vs H Q E9
end L2
namespace L2
open PySem PySem.Spec PyProof.Rows Nm
def kStr:Kind Str where
 R:=fun _ _ x i=>x=.str i
 d:=0
 inj:=fun _ h1 h2=>by rw[h1] at h2;cases h2;rfl
 rc:=fun {X pins σ H s x y v u a b A} I rx ry h1 h2 _=>by
  subst h1 h2
  obtain ⟨t,rfl⟩:=rx
  obtain ⟨t',rfl⟩:=ry
  have q:=SeqAt.RcAt.str_str (A:=A) (s:=s) a t b t'
  rwa [Bool.beq_eq_decide_eq] at q
 ne:=fun {X pins σ H s x y v u a b A} I rx ry h1 h2 _=>by
  subst h1 h2
  obtain ⟨t,rfl⟩:=rx
  obtain ⟨t',rfl⟩:=ry
  have q:=SeqAt.RcNeAt.str_str (A:=A) (s:=s) a t b t'
  rwa [Bool.beq_eq_decide_eq] at q
 eq:=fun {X pins σ H s x y v u a b A} I rx ry h1 h2 _=>by
  subst h1 h2
  obtain ⟨t,rfl⟩:=rx
  obtain ⟨t',rfl⟩:=ry
  have q:=SeqAt.EqAt.str_str (A:=A) (s:=s) a t b t'
  rwa [Bool.beq_eq_decide_eq] at q
end L2
namespace L2
open PySem PySem.Spec PyProof.Rows PySem.W
section
variable {X:Cx}
def rIsXt (K:Frag):List V->Hp->VK->Prop:=fun vs H Q=>∃(a C tp:Addr) (cs:List Addr) (dx:Option Addr) (b:Bool),vs=[.ref a,.ref tp]∧H a=some (exO a (.ref C) dx)∧(∀d,dx=some d->∃fs,H d=some (.xd fs))∧ExC K C∧H tp=some (.tup (cs.map V.ref))∧kitAny K (.ref C) (cs.map Value.ref)=some b∧Q (.bl b) H
theorem call_isXt:CallR X (.builtin "isinstance") (rIsXt X.K):=by
 intro pins s σ H vs us Q I r h
 obtain ⟨a,C,tp,cs,dx,b,rfl,ea,ed,ex,et,ek,q⟩:=h
 obtain ⟨u,v,rfl,ru,rv⟩:=vals2 r
 cases ru
 cases rv
 obtain ⟨_,its,rits,o,ho,hoc,n,hod⟩:=(show ObjOk X.prog X.w H s.heap tp (.tup (cs.map V.ref)) from I.hok tp _ et)
 obtain ⟨oc,od,dt,sl⟩:=o
 dsimp only at hoc hod
 subst hoc hod
 obtain rfl:=vals_refs rits
 exact kia_tup (kitx_excA ex) I.kIn (exA_inst I ea ed) ho ek (fun z=>nomatch z) fun tk=>⟨.bl b,H,I.tok tk,rfl,q⟩
end
end L2
namespace L2
open PySem PySem.Spec PyProof.Rows Nm
def jFit (way i1 o1 i2 o2:Nat):Bool:=if way=0 then decide (o1=i2) else if way=1 then true else if way=2 then decide (i1=i2∧o1=o2) else decide (i1=o2∧o1=i2)
def jIn (way i1 i2:Nat):Nat:=if way=1 then i1+i2 else i1
def jOut (way o1 o2:Nat):Nat:=if way=0 then o2 else if way=1 then o1+o2 else o1
def jRes (way n1 i1 o1 n2 i2 o2:Nat):Option (Str×Int) :=
 if jFit way i1 o1 i2 o2=false then some (("fit":Str),0) else if 4 < jIn way i1 i2∨4 < jOut way o1 o2 then some (("many":Str),4) else if 8 < n1+n2 then some (("many":Str),8) else none
section
variable {way n1 i1 o1 n2 i2 o2:Nat}
end
def JO (K:PySem.W.Frag) (C cF cM:Addr) (way:Nat) (H:Hp) (Q:VK) (E:XK) (n1 i1 o1 n2 i2 o2:Nat):Prop :=
 (jRes way n1 i1 o1 n2 i2 o2=some (("fit":Str),0)->E (.ref cF) none H)∧(∀m,jRes way n1 i1 o1 n2 i2 o2=some (("many":Str),m)->∀dx H',Same H H'->H' dx=some (.xd [("most",.int m)])->E (.ref cM) (some dx) H') ∧
 (jRes way n1 i1 o1 n2 i2 o2=none->∀z H' mv pt lk,Same H H'->Sys K H' C z mv pt lk->mv.length=n1+n2->pt.length=jIn way i1 i2->lk.length=jOut way o1 o2->Q (.ref z) H')
inductive sp_rtmX (K:PySem.W.Frag) (C cM:Addr) (vs:List V) (H:Hp) (Q:VK) (E:XK):Prop
 | mk (x y:Addr) (i o:Nat) (mv1 pt1 lk1 mv2 pt2 lk2:List (List Rat)):vs=[.ref x,.ref y,.int i,.int o]->Sys K H C x mv1 pt1 lk1->Sys K H C y mv2 pt2 lk2->(((4 < i∨4 < o)->∀dx H',Same H H'->H' dx=some (.xd [("most",.int 4)])->E (.ref cM) (some dx) H'))->((¬(4 < i∨4 < o)->8 < mv1.length+mv2.length->∀dx H',Same H H'->H' dx=some (.xd [("most",.int 8)])->E (.ref cM) (some dx) H'))->((¬(4 < i∨4 < o)->¬8 < mv1.length+mv2.length->Q .non H))->sp_rtmX K C cM vs H Q E
inductive sp_jX (K:PySem.W.Frag) (C cF cM:Addr) (way:Nat) (vs:List V) (H:Hp) (Q:VK) (E:XK):Prop
 | mk (x y:Addr) (mv1 pt1 lk1 mv2 pt2 lk2:List (List Rat)):vs=[.ref x,.ref y]->Sys K H C x mv1 pt1 lk1->Sys K H C y mv2 pt2 lk2->SFg 0 mv1 pt1 lk1->SFg 0 mv2 pt2 lk2->JO K C cF cM way H Q E mv1.length pt1.length lk1.length mv2.length pt2.length lk2.length->sp_jX K C cF cM way vs H Q E
inductive sp_jA (K:PySem.W.Frag) (C cF cM:Addr) (vs:List V) (H:Hp) (Q:VK) (E:XK):Prop
 | mk (way:Nat) (x y:Addr) (mv1 pt1 lk1 mv2 pt2 lk2:List (List Rat)):vs=[.int way,.ref x,.ref y]->way < 4->Sys K H C x mv1 pt1 lk1->Sys K H C y mv2 pt2 lk2->SFg 0 mv1 pt1 lk1->SFg 0 mv2 pt2 lk2->JO K C cF cM way H Q E mv1.length pt1.length lk1.length mv2.length pt2.length lk2.length->sp_jA K C cF cM vs H Q E
def Out39 (H:Hp) (r:Addr) (res:Option (Str×Int)) (n i o:Nat):Prop:=match res with
 | some (t,m)=>H r=some (.tup [.str t,.int m])
 | none=>∃l,H r=some (.tup [.str "told",.ref l])∧H l=some (.lst [.int n,.int i,.int o])
theorem Out39.same {H H':Hp} {r:Addr} {res:Option (Str×Int)} {n i o:Nat} (h:Out39 H r res n i o) (s:Same H H'):Out39 H' r res n i o:=by
 cases res with
 | some tm=>exact s _ _ h
 | none=>obtain ⟨l,a,b⟩:=h;exact ⟨l,s _ _ a,s _ _ b⟩
theorem Out39.kind {K:PySem.W.Frag} {H:Hp} {r r':Addr} {res:Option (Str×Int)} {n i o:Nat} (h:Out39 H r res n i o) (h':Out39 H r' res n i o):∃(α:Type) (_:DecidableEq α) (k:Kind α) (z:α),k.d<=50∧k.R K H (.ref r) z∧k.R K H (.ref r') z:=by
 cases res with
 | some tm=>exact ⟨_,_,kPair kStr kInt,tm,by decide,⟨r,_,_,rfl,SqT.of h,rfl,rfl⟩,⟨r',_,_,rfl,SqT.of h',rfl,rfl⟩⟩
 | none =>
  obtain ⟨l,a,b⟩:=h
  obtain ⟨l',a',b'⟩:=h'
  exact ⟨_,_,kPair kStr (kLst kInt),(("told":Str),[(n:Int),i,o]),by decide,⟨r,_,_,rfl,SqT.of a,rfl,l,_,rfl,SqL.of b,.cons rfl (.cons rfl (.cons rfl .nil))⟩,⟨r',_,_,rfl,SqT.of a',rfl,l',_,rfl,SqL.of b',.cons rfl (.cons rfl (.cons rfl .nil))⟩⟩
inductive sp_told39 (K:PySem.W.Frag) (C:Addr) (vs:List V) (H:Hp) (Q:VK) (E9:XK):Prop
 | mk (way:Nat) (x y:Addr) (mv1 pt1 lk1 mv2 pt2 lk2:List (List Rat)):vs=[.int way,.ref x,.ref y]->way < 4->Sys K H C x mv1 pt1 lk1->Sys K H C y mv2 pt2 lk2->SFg 0 mv1 pt1 lk1->SFg 0 mv2 pt2 lk2->(∀r H',Same H H'->Out39 H' r (jRes way mv1.length pt1.length lk1.length mv2.length pt2.length lk2.length) (mv1.length+mv2.length) (jIn way pt1.length pt2.length) (jOut way lk1.length lk2.length)->Q (.ref r) H')->sp_told39 K C vs H Q E9
inductive sp_szd39 (vs:List V) (H:Hp) (Q:VK) (E9:XK):Prop
 | mk (way:Nat) (a b:Addr) (n1 i1 o1 n2 i2 o2:Nat):vs=[.int way,.ref a,.ref b]->way < 4->n1<=8->i1<=8->o1<=8->n2<=8->i2<=8->o2<=8->H a=some (.lst [.int n1,.int i1,.int o1])->H b=some (.lst [.int n2,.int i2,.int o2])->(∀l H',H l=none->Same H H'->H' l=some (.lst [.int (n1+n2:Nat),.int (jIn way i1 i2:Nat),.int (jOut way o1 o2:Nat)])->Q (.ref l) H')->sp_szd39  vs H Q E9
inductive sp_due39 (vs:List V) (H:Hp) (Q:VK) (E9:XK):Prop
 | mk (way:Nat) (a b:Addr) (n1 i1 o1 n2 i2 o2:Nat):vs=[.int way,.ref a,.ref b]->way < 4->n1<=8->i1<=8->o1<=8->n2<=8->i2<=8->o2<=8->H a=some (.lst [.int n1,.int i1,.int o1])->H b=some (.lst [.int n2,.int i2,.int o2])->(∀r H',Same H H'->Out39 H' r (jRes way n1 i1 o1 n2 i2 o2) (n1+n2) (jIn way i1 i2) (jOut way o1 o2)->Q (.ref r) H')->sp_due39  vs H Q E9
theorem SFg.rep {n i o m:Nat}:SFg 0 (List.replicate n (nl m)) (List.replicate i (nl m)) (List.replicate o (nl m)) :=
 have g:∀j,GF 1 1 (List.replicate j (nl m)):=fun j xs h x h'=>by rw[List.eq_of_mem_replicate h] at h';rw[nl_mem h'];exact Fr.zero
 ⟨1,1,by decide,by decide,Nat.one_le_two_pow,g _,g _,g _⟩
theorem SysD.rep {n i o:Nat} (hn:n<=8) (hi:i<=4) (ho:o<=4):SysD (List.replicate n (nl n)) (List.replicate i (nl n)) (List.replicate o (nl n)) :=
 have g:∀j,∀xs∈List.replicate j (nl n),xs.length=(List.replicate n (nl n)).length:=fun j xs h=>by rw[List.eq_of_mem_replicate h,nl_len,List.length_replicate]
 ⟨by rw[List.length_replicate];exact hn,by rw[List.length_replicate];exact hi,by rw[List.length_replicate];exact ho,g _,g _,g _⟩
structure C39 (p q0 l1 l2:Addr) (n1 i1 o1 n2 i2 o2:Nat) (H:Hp):Prop where
 B:Bag H p
 I:Inner H p q0
 g1:H l1=some (.lst [.int n1,.int i1,.int o1])
 g2:H l2=some (.lst [.int n2,.int i2,.int o2])
 a1:l1≠p
 a2:l2≠p
 a3:l2≠q0
 a4:l2≠l1
 b1:n2<=8
 b2:i2<=4
 b3:o2<=4
theorem C39.upto {p q0 l1 l2:Addr} {n1 i1 o1 n2 i2 o2:Nat} {H H':Hp} (c:C39 p q0 l1 l2 n1 i1 o1 n2 i2 o2 H) (u:Upto p H H') (B:Bag H' p):C39 p q0 l1 l2 n1 i1 o1 n2 i2 o2 H' :=
 ⟨B,u.2 _ c.I,u.other c.a1 c.g1,u.other c.a2 c.g2,c.a1,c.a2,c.a3,c.a4,c.b1,c.b2,c.b3⟩
theorem C39.same {p q0 l1 l2:Addr} {n1 i1 o1 n2 i2 o2:Nat} {H H':Hp} (c:C39 p q0 l1 l2 n1 i1 o1 n2 i2 o2 H) (s:Same H H'):C39 p q0 l1 l2 n1 i1 o1 n2 i2 o2 H':=c.upto (s.upto (p:=p)) (c.B.same s)
theorem C39.set {p q0 l1 l2:Addr} {n1 i1 o1 n2 i2 o2 n3:Nat} {H:Hp} (c:C39 p q0 l1 l2 n1 i1 o1 n2 i2 o2 H) (b:n3<=8):C39 p q0 l1 l2 n1 i1 o1 n3 i2 o2 (upd H l2 (.lst [.int n3,.int i2,.int o2])) :=
 ⟨c.B.upd c.I c.a2 c.a3,c.I.upd c.a2,by rw[upd_ne c.a4.symm];exact c.g1,upd_same,c.a1,c.a2,c.a3,c.a4,b,c.b2,c.b3⟩
end L2
namespace L2
open PySem PySem.Spec PyProof.Rows Nm
def Rp (K:PySem.W.Frag) (P:Addr->Prop) (H:Hp):Nat->V->PyData->Prop
 | _,.non,d=>d=.none
 | _,.bl b,d=>d=.bool b
 | _,.int i,d=>d=.int i∧Sz 1900 i
 | _,.str x,d=>d=.str x∧(reprText x).length<=600
 | n+1,.ref a,d=>(∃xs ds,H a=some (.lst xs)∧P a∧xs.length<=9∧Paired (Rp K P H n) xs ds∧d=.list ds)∨(∃xs ds,SqT K H a xs∧xs.length<=9∧Paired (Rp K P H n) xs ds∧d=.tuple ds)∨(H a=some (.dK [])∧P a∧d=.dict [])
 | _,_,_=>False
structure KpU (K:PySem.W.Frag) (P:Addr->Prop) (H H':Hp):Prop where
 lst:∀a o,P a->H a=some o->H' a=some o
 tup:∀a xs,H a=some (.tup xs)->H' a=some (.tup xs)
 sqt:∀a xs,SqT K H a xs->SqT K H' a xs
section
variable {K:PySem.W.Frag} {P P':Addr->Prop} {H H':Hp} {p l:Addr}
theorem KpU.same (s:Same H H'):KpU K P H H':=⟨fun a o _ e=>s _ _ e,fun a xs e=>s _ _ e,fun a xs e=>s.sqt e⟩
theorem KpU.upto (u:Upto p H H') (B:Bag H p) (h:∀a,P a->a≠p):KpU K P H H':=⟨fun a o hp e=>u.1 _ _ e (h a hp),fun a xs e=>u.tup B e,fun a xs e=>u.sqt B e⟩
theorem KpU.upd {ys:List V} {o:HO} (hl:H l=some (.lst ys)) (h:∀a,P a->a≠l):KpU K P H (L2.upd H l o):=⟨fun a o hp e=>by rw[upd_ne (h a hp)];exact e,fun a xs e=>by rw[upd_ne (fun z=>by rw[z,hl] at e;cases e)];exact e,fun a xs e=>sqt_updL e hl⟩
theorem Rp.keep (k:KpU K P H H'):∀{n:Nat} {x:V} {d:PyData},Rp K P H n x d->Rp K P H' n x d
 | _,.non,_,h=>by unfold Rp at h ⊢;exact h
 | _,.bl b,_,h=>by unfold Rp at h ⊢;exact h
 | _,.int i,_,h=>by unfold Rp at h ⊢;exact h
 | _,.str x,_,h=>by unfold Rp at h ⊢;exact h
 | 0,.ref a,_,h=>by unfold Rp at h;exact h.elim
 | n+1,.ref a,_,h=>by
  unfold Rp at h ⊢
  rcases h with ⟨xs,ds,e,hp,hl,q,z⟩ | ⟨xs,ds,e,hl,q,z⟩ | ⟨e,hp,z⟩
  ·exact .inl ⟨xs,ds,k.lst _ _ hp e,hp,hl,Paired.imp' (fun _ _ r=>Rp.keep k r) q,z⟩
  ·exact .inr (.inl ⟨xs,ds,k.sqt _ _ e,hl,Paired.imp' (fun _ _ r=>Rp.keep k r) q,z⟩)
  ·exact .inr (.inr ⟨k.lst _ _ hp e,hp,z⟩)
 | n,.byt b,_,h=>by cases n <;> (unfold Rp at h;exact h.elim)
 | n,.flt b,_,h=>by cases n <;> (unfold Rp at h;exact h.elim)
 | n,.ty b,_,h=>by cases n <;> (unfold Rp at h;exact h.elim)
theorem Rp.mono (m:∀a,P a->P' a):∀{n:Nat} {x:V} {d:PyData},Rp K P H n x d->Rp K P' H n x d
 | _,.non,_,h=>by unfold Rp at h ⊢;exact h
 | _,.bl b,_,h=>by unfold Rp at h ⊢;exact h
 | _,.int i,_,h=>by unfold Rp at h ⊢;exact h
 | _,.str x,_,h=>by unfold Rp at h ⊢;exact h
 | 0,.ref a,_,h=>by unfold Rp at h;exact h.elim
 | n+1,.ref a,_,h=>by
  unfold Rp at h ⊢
  rcases h with ⟨xs,ds,e,hp,hl,q,z⟩ | ⟨xs,ds,e,hl,q,z⟩ | ⟨e,hp,z⟩
  ·exact .inl ⟨xs,ds,e,m _ hp,hl,Paired.imp' (fun _ _ r=>Rp.mono m r) q,z⟩
  ·exact .inr (.inl ⟨xs,ds,e,hl,Paired.imp' (fun _ _ r=>Rp.mono m r) q,z⟩)
  ·exact .inr (.inr ⟨e,m _ hp,z⟩)
 | n,.byt b,_,h=>by cases n <;> (unfold Rp at h;exact h.elim)
 | n,.flt b,_,h=>by cases n <;> (unfold Rp at h;exact h.elim)
 | n,.ty b,_,h=>by cases n <;> (unfold Rp at h;exact h.elim)
end
def rpB:Nat->Nat
 | 0=>1921
 | n+1=>9*(rpB n+2)+3
theorem rpB_ge:∀n,1921<=rpB n
 | 0=>Nat.le_refl _
 | n+1=>by have:=rpB_ge n;show 1921<=9*(rpB n+2)+3;lia
theorem piled_le {B:Nat}:∀{ts:List Str},(∀t∈ts,t.length<=B)->piled ts<=ts.length*(B+2)
 | [],_=>by rw[piled_nil];exact Nat.zero_le _
 | t :: r,h=>by
  rw[piled_cons,List.length_cons,Nat.succ_mul]
  have:=h t List.mem_cons_self
  have:=piled_le (B:=B) fun x hx=>h x (List.mem_cons_of_mem _ hx)
  lia
theorem listText_le (ts:List Str):(listText ts).length<=piled ts+3:=by
 cases ts with
 | nil=>show (listText []).length<=_;exact Nat.le_trans (show (listText []).length<=2 by decide) (by lia)
 | cons t r =>
  have h:=textFrom_length_pos r 1 (("[":Str)++(if (0:Nat) > 0 then ", " else "":String)++t) (Nat.succ_pos 0)
  have e:((("[":Str)++(if (0:Nat) > 0 then ", " else "":String)++t)).length=1+t.length:=by
   rw[strLen_append,strLen_append];rfl
  have hX:(listText (t :: r)).length=(textFrom 0 "[" (t :: r)).length+1:=by
   show (textFrom 0 "[" (t :: r)++"]").length=_
   rw[strLen_append];rfl
  have hY:(textFrom 0 "[" (t :: r)).length=(textFrom 1 (("[":Str)++(if (0:Nat) > 0 then ", " else "":String)++t) r).length:=rfl
  rw[hX,hY,h,e,piled_cons];lia
theorem tupleText_le (ts:List Str):(tupleText ts).length<=piled ts+3:=by
 unfold tupleText
 rw[strLen_append,strLen_append]
 have e1:((("(":String):Str)).length=1:=rfl
 have e3:(((if ts.length == 1 then ",)" else ")":String):Str)).length<=2:=by split <;> decide
 rw[e1]
 by_cases h:ts=[]
 ·subst h;rw[show (Str.join ", " []).length=0 from rfl];lia
 ·have:=join_length_add ts h
  lia
theorem shownAll_map:∀ds:List PyData,PyData.shownAll ds=ds.map PyData.shown
 | []=>by unfold PyData.shownAll;rfl
 | d :: r=>by unfold PyData.shownAll;rw[shownAll_map r];rfl
theorem showableAll_of:∀{ds:List PyData},(∀d∈ds,d.showable=true)->PyData.showableAll ds=true
 | [],_=>by unfold PyData.showableAll;rfl
 | d :: r,h=>by unfold PyData.showableAll;rw[h d List.mem_cons_self,showableAll_of fun x hx=>h x (List.mem_cons_of_mem _ hx)];rfl
theorem depthAll_of {n:Nat}:∀{ds:List PyData},(∀d∈ds,d.depth<=n)->PyData.depthAll ds<=n
 | [],_=>by unfold PyData.depthAll;exact Nat.zero_le _
 | d :: r,h=>by
  unfold PyData.depthAll
  exact Nat.max_le.mpr ⟨h d List.mem_cons_self,depthAll_of fun x hx=>h x (List.mem_cons_of_mem _ hx)⟩
theorem Rp.size {K:PySem.W.Frag} {P:Addr->Prop} {H:Hp}:∀{n:Nat} {x:V} {d:PyData},Rp K P H n x d->d.showable=true∧d.depth<=n∧d.shown.length<=rpB n
 | n,.non,_,h=>by unfold Rp at h;subst h;exact ⟨by unfold PyData.showable;rfl,by unfold PyData.depth;lia,Nat.le_trans (by unfold PyData.shown;decide) (rpB_ge n)⟩
 | n,.bl b,_,h=>by unfold Rp at h;subst h;exact ⟨by unfold PyData.showable;rfl,by unfold PyData.depth;lia,Nat.le_trans (by unfold PyData.shown;cases b <;> decide) (rpB_ge n)⟩
 | n,.int i,_,h=>by
  unfold Rp at h
  obtain ⟨rfl,hz⟩:=h
  have e:i.natAbs.log2 < 1920:=by
   by_cases h0:i.natAbs=0
   ·rw[h0];decide
   ·exact Nat.lt_of_lt_of_le ((Nat.log2_lt h0).mpr hz) (by decide)
  exact ⟨by unfold PyData.showable;exact decide_eq_true e,by unfold PyData.depth;lia,Nat.le_trans (by unfold PyData.shown;exact int_text_len_1921 e) (rpB_ge n)⟩
 | n,.str x,_,h=>by
  unfold Rp at h
  obtain ⟨rfl,hz⟩:=h
  exact ⟨by unfold PyData.showable;rfl,by unfold PyData.depth;lia,Nat.le_trans (by unfold PyData.shown;lia) (rpB_ge n)⟩
 | 0,.ref a,_,h=>by unfold Rp at h;exact h.elim
 | n+1,.ref a,_,h=>by
  unfold Rp at h
  have key:∀{xs:List V} {ds:List PyData},xs.length<=9->Paired (Rp K P H n) xs ds->PyData.showableAll ds=true∧PyData.depthAll ds<=n∧piled (PyData.shownAll ds)+3<=rpB (n+1):=fun {xs ds} hl q=>by
   have al:∀d∈ds,d.showable=true∧d.depth<=n∧d.shown.length<=rpB n:=fun d hd=>by
    obtain ⟨y,_,z⟩:=paired_mem q hd
    exact Rp.size z
   refine ⟨showableAll_of fun d hd=>(al d hd).1,depthAll_of fun d hd=>(al d hd).2.1,?_⟩
   have p1:piled (PyData.shownAll ds)<=(PyData.shownAll ds).length*(rpB n+2):=piled_le fun t ht=>by
    rw[shownAll_map] at ht
    obtain ⟨d,hd,rfl⟩:=List.mem_map.mp ht
    exact (al d hd).2.2
   have l1:(PyData.shownAll ds).length<=9:=by rw[shownAll_map,List.length_map,← q.length];exact hl
   have p2:(PyData.shownAll ds).length*(rpB n+2)<=9*(rpB n+2):=Nat.mul_le_mul_right _ l1
   show _<=9*(rpB n+2)+3
   lia
  rcases h with ⟨xs,ds,e,hp,hl,q,rfl⟩ | ⟨xs,ds,e,hl,q,rfl⟩ | ⟨e,hp,rfl⟩
  ·obtain ⟨k1,k2,k3⟩:=key hl q
   exact ⟨by unfold PyData.showable;exact k1,by unfold PyData.depth;lia,by unfold PyData.shown;exact Nat.le_trans (listText_le _) k3⟩
  ·obtain ⟨k1,k2,k3⟩:=key hl q
   exact ⟨by unfold PyData.showable;exact k1,by unfold PyData.depth;lia,by unfold PyData.shown;exact Nat.le_trans (tupleText_le _) k3⟩
  ·exact ⟨by unfold PyData.showable PyData.showableKv;rfl,by unfold PyData.depth PyData.depthKv;lia,Nat.le_trans (by unfold PyData.shown PyData.shownKv;decide) (rpB_ge _)⟩
 | n,.byt b,_,h=>by cases n <;> (unfold Rp at h;exact h.elim)
 | n,.flt b,_,h=>by cases n <;> (unfold Rp at h;exact h.elim)
 | n,.ty b,_,h=>by cases n <;> (unfold Rp at h;exact h.elim)
theorem readsAll_of {K:PySem.W.Frag} {P:Addr->Prop} {H:Hp} {n:Nat} {h:Heap} (ih:∀{x:V} {u:Value} {d:PyData},RelV x u->Rp K P H n x d->∃as,Reads h u d as∧sysModules∉as):∀{xs:List V} {us:List Value} {ds:List PyData},Vals xs us->Paired (Rp K P H n) xs ds->∃as,ReadsAll h us ds as∧sysModules∉as
 | _,_,_,.nil,.nil=>⟨[],.nil,List.not_mem_nil⟩
 | _,_,_,.cons r rs,.cons q qs=>by
  obtain ⟨a1,r1,n1⟩:=ih r q
  obtain ⟨a2,r2,n2⟩:=readsAll_of ih rs qs
  exact ⟨a1++a2,.cons r1 r2,fun z=>(List.mem_append.mp z).elim n1 n2⟩
theorem Rp.reads {K:PySem.W.Frag} {P:Addr->Prop} {H:Hp} {Pr:Program} {w:World} {h:Heap} (ok:HOk Pr w H h) (kin:K.In h) (n1:H sysModules=none):∀{n:Nat} {x:V} {u:Value} {d:PyData},RelV x u->Rp K P H n x d->∃as,Reads h u d as∧sysModules∉as
 | _,.non,_,_,r,q=>by unfold Rp at q;cases q;cases (show _=Value.none from r);exact ⟨_,.none,List.not_mem_nil⟩
 | _,.bl b,_,_,r,q=>by unfold Rp at q;cases q;cases (show _=Value.bool b from r);exact ⟨_,.bool b,List.not_mem_nil⟩
 | _,.int i,_,_,r,q=>by unfold Rp at q;obtain ⟨rfl,_⟩:=q;obtain ⟨t,rfl⟩:=(show ∃t,_=Value.int i t from r);exact ⟨_,.int i t,List.not_mem_nil⟩
 | _,.str x,_,_,r,q=>by unfold Rp at q;obtain ⟨rfl,_⟩:=q;obtain ⟨t,rfl⟩:=(show ∃t,_=Value.str x t from r);exact ⟨_,.str x t,List.not_mem_nil⟩
 | 0,.ref a,_,_,_,q=>by unfold Rp at q;exact q.elim
 | n+1,.ref a,_,_,r,q=>by
  cases (show _=Value.ref a from r)
  unfold Rp at q
  rcases q with ⟨xs,ds,e,hp,hl,q,rfl⟩ | ⟨xs,ds,e,hl,q,rfl⟩ | ⟨e,hp,rfl⟩
  ·obtain ⟨_,its,m,vs,g⟩:=(show ObjOk Pr w H h a (.lst xs) from ok a _ e)
   obtain ⟨as,ra,na⟩:=readsAll_of (fun r z=>Rp.reads ok kin n1 r z) vs q
   refine ⟨a :: as,.list g rfl rfl ra,fun z=>?_⟩
   rcases List.mem_cons.mp z with z | z
   ·rw[← z,n1] at e;cases e
   ·exact na z
  ·rcases e with e | ⟨o,its,m,lk,oc,od,_,vs⟩
   ·obtain ⟨_,its,vs,o,g,oc,m,od⟩:=(show ObjOk Pr w H h a (.tup xs) from e.ok ok)
    obtain ⟨as,ra,na⟩:=readsAll_of (fun r z=>Rp.reads ok kin n1 r z) vs q
    exact ⟨as,.tuple g oc od ra,na⟩
   ·obtain ⟨as,ra,na⟩:=readsAll_of (fun r z=>Rp.reads ok kin n1 r z) vs q
    exact ⟨as,.tuple (kin _ _ lk) oc od ra,na⟩
  ·obtain ⟨_,ns,vs,kv,o,es,ep,g,hx,hd,ke,pr,nd⟩:=(show ObjOk Pr w H h a (.dK []) from ok a _ e)
   have ev:vs=[]:=by cases kv;rfl
   subst ev
   have ee:es.toList=[]:=by cases he:es.toList with
    | nil=>rfl
    | cons x r=>rw[he] at pr;cases pr
   refine ⟨a :: []++[],.dict (kvs:=[]) g hx.1 hd (by rw[ee];exact .nil) (by rw[ee];exact .nil),fun z=>?_⟩
   simp only[List.append_nil,List.mem_singleton] at z
   rw[← z,n1] at e;cases e
 | n,.byt b,_,_,_,h=>by cases n <;> (unfold Rp at h;exact h.elim)
 | n,.flt b,_,_,_,h=>by cases n <;> (unfold Rp at h;exact h.elim)
 | n,.ty b,_,_,_,h=>by cases n <;> (unfold Rp at h;exact h.elim)
def rRepr (K:PySem.W.Frag):List V->Hp->VK->Prop:=fun vs H Q=>∃P a d,vs=[.ref a]∧Rp K P H 4 (.ref a) d∧Q (.str d.shown) H
theorem call_repr {X:Cx} {k:Nat} (hr:Room k X.A):CallR X (.builtin "repr") (rRepr X.K):=by
 intro pins s σ H xs us Q I r h
 obtain ⟨P,a,d,rfl,hp,q⟩:=h
 cases r with
 | cons r1 r2 =>
  cases r2
  cases (show _=Value.ref a from r1)
  obtain ⟨mm,o,es,ep,ho,_⟩:=I.ok.mod.sysm
  have n1:H sysModules=none:=(I.bs _ _ ho).2
  obtain ⟨as,rd,na⟩:=Rp.reads I.hok I.kIn n1 (show RelV (.ref a) (.ref a) from rfl) hp
  obtain ⟨s1,s2,s3⟩:=hp.size
  refine repr_of_reads' rd s1 (fun _=>na) hr.gd (by have:=hr.units;lia) (fun _ _ e=>e) (fun h' u tk hk=>?_) (Nat.le_trans s3 (by rw[sizeLine_eq];decide))
  exact ⟨.str d.shown,H,I.kept (t':=tk) hk,⟨_,rfl⟩,q⟩
end L2
namespace L2
open PySem PySem.Spec PyProof.Rows Nm
def Flat:V->Prop
 | .non=>True
 | .bl _=>True
 | .int i=>i.natAbs<=1000
 | .str s=>(reprText s).length<=600
 | _=>False
def badT:List V->Bool
 | [.int a,.int b]=>!decide (0 < b∧Int.gcd a b=1)
 | _=>true
def Ng (K:PySem.W.Frag) (H:Hp) (x:V):Prop:=∃n,NumR K H x n∧NumOk n∧Sz 1900 n.1∧Sz 1900 n.2
inductive Nb (P:Addr->Prop) (H:Hp):V->Prop
 | flat {x:V}:Flat x->Nb P H x
 | lst {a:Addr} {xs:List V}:H a=some (.lst xs)->P a->xs.length<=9->(∀y∈xs,Flat y)->Nb P H (.ref a)
 | tup {a:Addr} {xs:List V}:H a=some (.tup xs)->xs.length<=9->(∀y∈xs,Flat y)->badT xs=true->Nb P H (.ref a)
inductive NI (K:PySem.W.Frag) (P:Addr->Prop) (H:Hp):Bool->V->Prop
 | ok {x:V}:Ng K H x->NI K P H true x
 | no {x:V}:Nb P H x->NI K P H false x
inductive RI (K:PySem.W.Frag) (P:Addr->Prop) (H:Hp) (m:Nat):Bool->V->Prop
 | flat {x:V}:Flat x->RI K P H m false x
 | dic {a:Addr}:H a=some (.dK [])->P a->RI K P H m false (.ref a)
 | tup {a:Addr} {xs:List V}:H a=some (.tup xs)->xs.length<=9->(∀y∈xs,∃d,Rp K P H 1 y d)->RI K P H m false (.ref a)
 | lst {a:Addr} {xs:List V} {bs:List Bool} {b:Bool}:H a=some (.lst xs)->P a->xs.length<=9->Paired (NI K P H) bs xs->b=(decide (xs.length=m) && bs.all id)->RI K P H m b (.ref a)
inductive AR (K:PySem.W.Frag) (P:Addr->Prop) (H:Hp) (at_ most w:Nat):V->Option (Nat×Nat)->Prop
 | flat {x:V}:Flat x->AR K P H at_ most w x (some (0,at_))
 | dic {a:Addr}:H a=some (.dK [])->P a->AR K P H at_ most w (.ref a) (some (0,at_))
 | tup {a:Addr} {xs:List V}:H a=some (.tup xs)->xs.length<=9->(∀y∈xs,∃d,Rp K P H 2 y d)->AR K P H at_ most w (.ref a) (some (0,at_))
 | many {a:Addr} {xs:List V}:H a=some (.lst xs)->P a->xs.length<=9->most < xs.length->(∀y∈xs,∃d,Rp K P H 2 y d)->AR K P H at_ most w (.ref a) (some (1,most))
 | lst {a:Addr} {xs:List V} {bs:List Bool} {k:Nat}:H a=some (.lst xs)->P a->xs.length<=9->xs.length<=most->Paired (RI K P H w) bs xs->(at_=0->xs.length=w)->(∀i,i < k->bs[i]?=some true)->bs[k]?=some false->AR K P H at_ most w (.ref a) (some (2,k))
 | good {a:Addr} {xs:List V} {bs:List Bool}:H a=some (.lst xs)->P a->xs.length<=9->xs.length<=most->Paired (RI K P H w) bs xs->(at_=0->xs.length=w)->(∀b∈bs,b=true)->AR K P H at_ most w (.ref a) none
section
variable {K:PySem.W.Frag} {P P':Addr->Prop} {H H':Hp} {x:V} {b:Bool} {m at_ most w:Nat} {r:Option (Nat×Nat)}
theorem Flat.kn (h:Flat x):Kn H x:=by
 cases x with
 | non=>exact .non
 | bl b=>exact .bl b
 | int i=>exact .int i
 | str s=>exact .str s
 | _=>exact h.elim
theorem Flat.ty (h:Flat x):tyB "list" x H=false∧tyB "tuple" x H=false:=by
 cases x with
 | ref a=>exact h.elim
 | _=>exact ⟨rfl,rfl⟩
theorem Flat.sz (h:Flat x):∀i,x=.int i->Sz 8999 i:=fun i e=>by subst e;exact sz_sm h
theorem Flat.rp (h:Flat x) {n:Nat}:∃d,Rp K P H n x d:=by
 cases x with
 | non=>exact ⟨.none,by unfold Rp;rfl⟩
 | bl b=>exact ⟨.bool b,by unfold Rp;rfl⟩
 | int i=>exact ⟨.int i,by unfold Rp;exact ⟨rfl,Nat.lt_of_le_of_lt h (Nat.lt_of_lt_of_le (show 1000 < 2^10 by decide) (Nat.pow_le_pow_right (by decide) (by decide)))⟩⟩
 | str s=>exact ⟨.str s,by unfold Rp;exact ⟨rfl,h⟩⟩
 | _=>exact h.elim
theorem rp_all {n:Nat}:∀{xs:List V},(∀y∈xs,∃d,Rp K P H n y d)->∃ds,Paired (Rp K P H n) xs ds
 | [],_=>⟨[],.nil⟩
 | x :: r,h=>by
  obtain ⟨d,hd⟩:=h x List.mem_cons_self
  obtain ⟨ds,hs⟩:=rp_all (xs:=r) fun y hy=>h y (List.mem_cons_of_mem _ hy)
  exact ⟨d :: ds,.cons hd hs⟩
theorem rp_lst {a:Addr} {xs:List V} {n:Nat} (e:H a=some (.lst xs)) (hp:P a) (hl:xs.length<=9) (h:∀y∈xs,∃d,Rp K P H n y d):∃d,Rp K P H (n+1) (.ref a) d:=by
 obtain ⟨ds,q⟩:=rp_all h
 exact ⟨.list ds,by unfold Rp;exact .inl ⟨xs,ds,e,hp,hl,q,rfl⟩⟩
theorem rp_tup {a:Addr} {xs:List V} {n:Nat} (e:SqT K H a xs) (hl:xs.length<=9) (h:∀y∈xs,∃d,Rp K P H n y d):∃d,Rp K P H (n+1) (.ref a) d:=by
 obtain ⟨ds,q⟩:=rp_all h
 exact ⟨.tuple ds,by unfold Rp;exact .inr (.inl ⟨xs,ds,e,hl,q,rfl⟩)⟩
theorem rp_dic {a:Addr} {n:Nat} (e:H a=some (.dK [])) (hp:P a):∃d,Rp K P H (n+1) (.ref a) d:=⟨.dict [],by unfold Rp;exact .inr (.inr ⟨e,hp,rfl⟩)⟩
theorem rp_int {n:Nat} {i:Int} (h:Sz 1900 i):∃d,Rp K P H n (.int i) d:=⟨.int i,by unfold Rp;exact ⟨rfl,h⟩⟩
theorem Ng.rp (h:Ng K H x):∃d,Rp K P H 1 x d:=by
 obtain ⟨n,⟨p,rfl,e⟩,_,s1,s2⟩:=h
 refine rp_tup e (by simp) fun y hy=>?_
 simp only[List.mem_cons,List.not_mem_nil,or_false] at hy
 rcases hy with rfl | rfl
 ·exact rp_int s1
 ·exact rp_int s2
theorem Ng.keep (h:Ng K H x) (k:KpU K P H H'):Ng K H' x:=by
 obtain ⟨n,⟨p,rfl,e⟩,r⟩:=h
 exact ⟨n,⟨p,rfl,k.sqt _ _ e⟩,r⟩
theorem Ng.same (h:Ng K H x) (s:Same H H'):Ng K H' x:=h.keep (P:=fun _=>True) (KpU.same s)
theorem Nb.keep (h:Nb P H x) (k:KpU K P H H'):Nb P H' x:=by
 cases h with
 | flat h=>exact .flat h
 | lst e p l f=>exact .lst (k.lst _ _ p e) p l f
 | tup e l f b=>exact .tup (k.tup _ _ e) l f b
theorem Nb.rp (h:Nb P H x):∃d,Rp K P H 1 x d:=by
 cases h with
 | flat h=>exact h.rp
 | lst e p l f=>exact rp_lst e p l fun y hy=>(f y hy).rp
 | tup e l f b=>exact rp_tup (SqT.of e) l fun y hy=>(f y hy).rp
theorem Nb.kn (h:Nb P H x):Kn2 H x∧numB x H=false:=by
 cases h with
 | flat h=>exact ⟨⟨h.kn,fun p xs e=>by subst e;exact h.elim⟩,by cases x with | ref a=>exact h.elim | _=>rfl⟩
 | lst e p l f=>exact ⟨⟨.lst e,fun p xs z g=>by cases z;rw[e] at g;cases g⟩,by simp only[numB,e]⟩
 | @tup a xs e l f b =>
  refine ⟨⟨.tup e,fun p ys z g y hy=>by cases z;rw[e] at g;cases g;exact ⟨(f y hy).kn,(f y hy).sz⟩⟩,?_⟩
  simp only[numB,e]
  unfold badT at b
  split at b
  ·rename_i c d
   rw[Bool.not_eq_true',decide_eq_false_iff_not] at b
   exact decide_eq_false b
  ·rename_i hn
   split
   ·rename_i c d z
    cases z
    exact (hn c d rfl).elim
   ·rfl
theorem NI.keep (h:NI K P H b x) (k:KpU K P H H'):NI K P H' b x:=by
 cases h with
 | ok h=>exact .ok (h.keep k)
 | no h=>exact .no (h.keep k)
theorem Nb.mono (h:Nb P H x) (hm:∀a,P a->P' a):Nb P' H x:=by
 cases h with
 | flat h=>exact .flat h
 | lst e p l f=>exact .lst e (hm _ p) l f
 | tup e l f b=>exact .tup e l f b
theorem NI.mono (h:NI K P H b x) (hm:∀a,P a->P' a):NI K P' H b x:=by
 cases h with
 | ok h=>exact .ok h
 | no h=>exact .no (h.mono hm)
theorem NI.rp (h:NI K P H b x):∃d,Rp K P H 1 x d:=by
 cases h with
 | ok h=>exact h.rp
 | no h=>exact h.rp
theorem RI.keep (h:RI K P H m b x) (k:KpU K P H H'):RI K P H' m b x:=by
 cases h with
 | flat h=>exact .flat h
 | dic e p=>exact .dic (k.lst _ _ p e) p
 | tup e l f=>exact .tup (k.tup _ _ e) l fun y hy=>let ⟨d,hd⟩:=f y hy;⟨d,hd.keep k⟩
 | lst e p l q z=>exact .lst (k.lst _ _ p e) p l (Paired.imp' (fun _ _ r=>r.keep k) q) z
theorem RI.mono (h:RI K P H m b x) (hm:∀a,P a->P' a):RI K P' H m b x:=by
 cases h with
 | flat h=>exact .flat h
 | dic e p=>exact .dic e (hm _ p)
 | tup e l f=>exact .tup e l fun y hy=>let ⟨d,hd⟩:=f y hy;⟨d,hd.mono hm⟩
 | lst e p l q z=>exact .lst e (hm _ p) l (Paired.imp' (fun _ _ r=>r.mono hm) q) z
theorem paired_rp {n:Nat} {F:Bool->V->Prop} (f:∀b y,F b y->∃d,Rp K P H n y d) {bs:List Bool} {xs:List V} (q:Paired F bs xs):∀y∈xs,∃d,Rp K P H n y d:=fun y hy=>let ⟨b,_,z⟩:=paired_mem q hy;f b y z
theorem RI.rp (h:RI K P H m b x):∃d,Rp K P H 2 x d:=by
 cases h with
 | flat h=>exact h.rp
 | dic e p=>exact rp_dic e p
 | tup e l f=>exact rp_tup (SqT.of e) l f
 | lst e p l q z=>exact rp_lst e p l (paired_rp (fun _ _ r=>r.rp) q)
theorem AR.keep (h:AR K P H at_ most w x r) (k:KpU K P H H'):AR K P H' at_ most w x r:=by
 cases h with
 | flat h=>exact .flat h
 | dic e p=>exact .dic (k.lst _ _ p e) p
 | tup e l f=>exact .tup (k.tup _ _ e) l fun y hy=>let ⟨d,hd⟩:=f y hy;⟨d,hd.keep k⟩
 | many e p l l2 f=>exact .many (k.lst _ _ p e) p l l2 fun y hy=>let ⟨d,hd⟩:=f y hy;⟨d,hd.keep k⟩
 | lst e p l l2 q z i j=>exact .lst (k.lst _ _ p e) p l l2 (Paired.imp' (fun _ _ r=>r.keep k) q) z i j
 | good e p l l2 q z i=>exact .good (k.lst _ _ p e) p l l2 (Paired.imp' (fun _ _ r=>r.keep k) q) z i
theorem AR.mono (h:AR K P H at_ most w x r) (hm:∀a,P a->P' a):AR K P' H at_ most w x r:=by
 cases h with
 | flat h=>exact .flat h
 | dic e p=>exact .dic e (hm _ p)
 | tup e l f=>exact .tup e l fun y hy=>let ⟨d,hd⟩:=f y hy;⟨d,hd.mono hm⟩
 | many e p l l2 f=>exact .many e (hm _ p) l l2 fun y hy=>let ⟨d,hd⟩:=f y hy;⟨d,hd.mono hm⟩
 | lst e p l l2 q z i j=>exact .lst e (hm _ p) l l2 (Paired.imp' (fun _ _ r=>r.mono hm) q) z i j
 | good e p l l2 q z i=>exact .good e (hm _ p) l l2 (Paired.imp' (fun _ _ r=>r.mono hm) q) z i
theorem AR.rp (h:AR K P H at_ most w x r):∃d,Rp K P H 3 x d:=by
 cases h with
 | flat h=>exact h.rp
 | dic e p=>exact rp_dic e p
 | tup e l f=>exact rp_tup (SqT.of e) l f
 | many e p l l2 f=>exact rp_lst e p l f
 | lst e p l l2 q z i j=>exact rp_lst e p l (paired_rp (fun _ _ r=>r.rp) q)
 | good e p l l2 q z i=>exact rp_lst e p l (paired_rp (fun _ _ r=>r.rp) q)
end
theorem ty_dic {H:Hp} {a:Addr} {kvs:List (Key×V)} (e:H a=some (.dK kvs)):tyB "list" (.ref a) H=false:=by simp only[tyB,e]
theorem ty_tup {H:Hp} {a:Addr} {xs:List V} (e:H a=some (.tup xs)):tyB "list" (.ref a) H=false:=by simp only[tyB,e];rfl
theorem RI.split {K:PySem.W.Frag} {P:Addr->Prop} {H:Hp} {x:V} {b:Bool} {m:Nat} (h:RI K P H m b x):(Kn H x∧tyB "list" x H=false∧b=false)∨∃a xs bs,x=.ref a∧H a=some (.lst xs)∧xs.length<=9∧Paired (NI K P H) bs xs∧b=(decide (xs.length=m) && bs.all id):=by
 cases h with
 | flat h=>exact .inl ⟨h.kn,h.ty.1,rfl⟩
 | dic e p=>exact .inl ⟨.dic e,ty_dic e,rfl⟩
 | tup e l f=>exact .inl ⟨.tup e,ty_tup e,rfl⟩
 | lst e p l q z=>exact .inr ⟨_,_,_,rfl,e,l,q,z⟩
theorem RI.list {K:PySem.W.Frag} {P:Addr->Prop} {H:Hp} {x:V} {m:Nat} (h:RI K P H m true x):∃a xs,x=.ref a∧H a=some (.lst xs):=by
 rcases h.split with ⟨_,_,z⟩ | ⟨a,xs,bs,e,g,_⟩
 ·cases z
 ·exact ⟨a,xs,e,g⟩
theorem tyB_same {H H':Hp} {x:V} {T:String} (h:Kn H x) (e:Same H H'):tyB T x H'=tyB T x H:=by
 cases h with
 | lst g=>simp only[tyB,g,e _ _ g]
 | tup g=>simp only[tyB,g,e _ _ g]
 | dic g=>simp only[tyB,g,e _ _ g]
 | _=>rfl
theorem first_uniq {bs:List Bool} {k k':Nat} (h:∀i,i < k->bs[i]?=some true) (e:bs[k]?=some false) (h':∀i,i < k'->bs[i]?=some true) (e':bs[k']?=some false):k'=k:=by
 rcases Nat.lt_trichotomy k' k with z | z | z
 ·rw[h _ z] at e';cases e'
 ·exact z
 ·rw[h' _ z] at e;cases e
theorem AR.want {K:PySem.W.Frag} {P:Addr->Prop} {H:Hp} {x:V} {a m w:Nat} {r:Option (Nat×Nat)} (h:AR K P H a m w x r):(Kn H x∧tyB "list" x H=false∧r=some (0,a))∨∃p xs,x=.ref p∧H p=some (.lst xs)∧xs.length<=9 ∧
  ((m < xs.length∧r=some (1,m))∨(xs.length<=m∧(a=0->xs.length=w)∧∃bs,Paired (RI K P H w) bs xs∧((∃k:Nat,(∀i,i < k->bs[i]?=some true)∧bs[k]?=some false∧r=some (2,k))∨((∀b∈bs,b=true)∧r=none)))):=by
 cases h with
 | flat h=>exact .inl ⟨h.kn,h.ty.1,rfl⟩
 | dic e p=>exact .inl ⟨.dic e,ty_dic e,rfl⟩
 | tup e l f=>exact .inl ⟨.tup e,ty_tup e,rfl⟩
 | many e p l l2 f=>exact .inr ⟨_,_,rfl,e,l,.inl ⟨l2,rfl⟩⟩
 | lst e p l l2 q z i j=>exact .inr ⟨_,_,rfl,e,l,.inr ⟨l2,z,_,q,.inl ⟨_,i,j,rfl⟩⟩⟩
 | good e p l l2 q z i=>exact .inr ⟨_,_,rfl,e,l,.inr ⟨l2,z,_,q,.inr ⟨i,rfl⟩⟩⟩
theorem AR.c3 {K:PySem.W.Frag} {P:Addr->Prop} {H:Hp} {x:V} {a m w:Nat} {r:Option (Nat×Nat)} (h:AR K P H a m w x r):r=none∨∃c v,r=some (c,v)∧(c=0∨c=1∨c=2):=by
 cases h with
 | flat h=>exact .inr ⟨_,_,rfl,.inl rfl⟩
 | dic e p=>exact .inr ⟨_,_,rfl,.inl rfl⟩
 | tup e l f=>exact .inr ⟨_,_,rfl,.inl rfl⟩
 | many e p l l2 f=>exact .inr ⟨_,_,rfl,.inr (.inl rfl)⟩
 | lst e p l l2 q z i j=>exact .inr ⟨_,_,rfl,.inr (.inr rfl)⟩
 | good e p l l2 q z i=>exact .inl rfl
theorem or_c3 {r0 r1 r2:Option (Nat×Nat)} {c v:Nat} (h0:r0=none∨∃c v,r0=some (c,v)∧(c=0∨c=1∨c=2)) (h1:r1=none∨∃c v,r1=some (c,v)∧(c=0∨c=1∨c=2)) (h2:r2=none∨∃c v,r2=some (c,v)∧(c=0∨c=1∨c=2)) (h:r0.or (r1.or r2)=some (c,v)):c=0∨c=1∨c=2:=by
 rcases h0 with rfl | ⟨_,_,rfl,z⟩
 ·rcases h1 with rfl | ⟨_,_,rfl,z⟩
  ·rcases h2 with rfl | ⟨_,_,rfl,z⟩
   ·cases h
   ·cases h;exact z
  ·cases h;exact z
 ·cases h;exact z
inductive sp_whole31 (vs:List V) (H:Hp) (Q:VK) (E9:XK):Prop
 | mk (x:V):vs=[x]->Kn H x->Q (.bl (wholeB x)) H->sp_whole31 vs H Q E9
inductive sp_num31 (K:PySem.W.Frag) (vs:List V) (H:Hp) (Q:VK) (E9:XK):Prop
 | mk (P:Addr->Prop) (x:V) (b:Bool):vs=[x]->NI K P H b x->(∀H',Same H H'->Q (.bl b) H')->sp_num31 K vs H Q E9
inductive sp_row31 (K:PySem.W.Frag) (vs:List V) (H:Hp) (Q:VK) (E9:XK):Prop
 | mk (P:Addr->Prop) (x:V) (m:Nat) (b:Bool):vs=[x,.int m]->RI K P H m b x->(∀H',Same H H'->Q (.bl b) H')->sp_row31 K vs H Q E9
def Thr (H:Hp) (E:XK) (C:Addr) (f:Str) (v:Int):Prop:=∀dx H',Same H H'->H' dx=some (.xd [(f,.int v)])->E (.ref C) (some dx) H'
inductive sp_wantX (cW cM:Addr) (vs:List V) (H:Hp) (Q:VK) (E:XK):Prop
 | mk (x:V) (a m:Nat):vs=[x,.int a,.int m]->((Kn H x∧tyB "list" x H=false∧Thr H E cW "at" a)∨∃p xs,x=.ref p∧H p=some (.lst xs)∧(m < xs.length->Thr H E cM "most" m)∧(xs.length<=m->Q .non H))->sp_wantX cW cM vs H Q E
inductive sp_copX (K:PySem.W.Frag) (cN:Addr) (vs:List V) (H:Hp) (Q:VK) (E:XK):Prop
 | mk (P:Addr->Prop) (p:Addr) (xs:List V) (bs:List Bool) (w:Nat):vs=[.ref p,.int w]->H p=some (.lst xs)->xs.length<=9->Paired (RI K P H w) bs xs->(∀k:Nat,(∀i,i < k->bs[i]?=some true)->bs[k]?=some false->Thr H E cN "at" k) →
   ((∀b∈bs,b=true)->∀r H' ys,Same H H'->H' r=some (.lst ys)->ys.length=xs.length->Q (.ref r) H')->sp_copX K cN vs H Q E
def fnX (c:Nat):Str:=if c=1 then "most" else "at"
def clX (cW cM cN:Addr) (c:Nat):Addr:=if c=0 then cW else if c=1 then cM else cN
def nmX (c:Nat):Str:=if c=0 then "wrong" else if c=1 then "many" else "thing"
inductive sp_initX (K:PySem.W.Frag) (C cW cM cN:Addr) (vs:List V) (H:Hp) (Q:VK) (E:XK):Prop
 | mk (P:Addr->Prop) (x dx:Addr) (a0 a1 a2:V) (Hb:Hp) (w c v:Nat) (r0 r1 r2:Option (Nat×Nat)):vs=[.ref x,a0,a1,a2]->Hb x=none->Hb dx=none->dx≠x->H=upd (upd Hb dx (.own x)) x (.ins C dx []) →
   AR K P Hb 0 8 w a0 r0->AR K P Hb 1 4 w a1 r1->AR K P Hb 2 4 w a2 r2->(r0.or (r1.or r2))=some (c,v)->Thr Hb E (clX cW cM cN c) (fnX c) v->sp_initX K C cW cM cN vs H Q E
inductive sp_ref31 (K:PySem.W.Frag) (vs:List V) (H:Hp) (Q:VK) (E9:XK):Prop
 | mk (P:Addr->Prop) (a0 a1 a2:V) (w c v:Nat) (r0 r1 r2:Option (Nat×Nat)):vs=[a0,a1,a2]->AR K P H 0 8 w a0 r0->AR K P H 1 4 w a1 r1->AR K P H 2 4 w a2 r2->(r0.or (r1.or r2))=some (c,v) →
   (∀l t H',Same H H'->H' l=some (.lst [.ref t])->H' t=some (.tup [.str (nmX c),.int v])->Q (.ref l) H')->sp_ref31 K vs H Q E9
theorem own_def {CX:CXT} {P:Program} {w:World} {K:PySem.W.Frag} {mg:Str->Option Value} {base:Heap} {N:List Str} {qual:Str} {scope:Scope} {f:Addr} {cd:Value} {A:Around} {outer:List Env} {s:Shared} {H:Hp} {E:XK} :
  PassesOwn (model (cxOf CX P w K mg base N qual scope f cd A outer s H E).prog (cxOf CX P w K mg base N qual scope f cd A outer s H E).w) (cxOf CX P w K mg base N qual scope f cd A outer s H E).A (cxOf CX P w K mg base N qual scope f cd A outer s H E).env (cxOf CX P w K mg base N qual scope f cd A outer s H E).xe :=
 PassesOwn.leaving (Q₁:=fun e s''=>CX outer H s E e s'')
def tMakeX (C:Addr) (sp:Sp) (dvs:List V) (E:St->XK) (t:TA):TE:=fun σ H Q=>t σ H fun vs H1=>∀x dx,H1 x=none->H1 dx=none->dx≠x →
 sp (.ref x :: (vs++dvs)) (upd (upd H1 dx (.own x)) x (.ins C dx [])) (fun v H2=>v=.non∧Q (.ref x) H2) (E σ)
theorem rd_makeX {C:Addr} {sp:Sp} {E:St->XK} {t:TA} {σ:St} {H:Hp} {Q:VK} (h:t σ H fun vs H1=>∀x dx,H1 x=none->H1 dx=none->dx≠x->sp (.ref x :: vs) (upd (upd H1 dx (.own x)) x (.ins C dx [])) (fun v H2=>v=.non∧Q (.ref x) H2) (E σ)):tMakeX C sp [] E t σ H Q:=by
 unfold tMakeX
 simp only[List.append_nil]
 exact h
section
variable {X:Cx} {CX:CXT} {k:Nat} {f C:Addr} {fd:FuncData} {ps:List Str} {sp:Sp} {dvs:List V} {ds:List Value} {E:St->XK} {x:Str} {p pos:Pos} {e:Expr} {es:List Expr} {t:TA}
theorem pe_makeX (M:Mk X.K C f) (F:FnOk X.prog X.w X.K X.mg X.base CX k f fd ps sp) (hr:Room (k+1) X.A) (hg:Gl X x) (hm:X.mg x=some (.ref C)) (hb:Binds X.K fd ps ds) (hd:Vals dvs ds) (hx:PassesS CX X E)
  (ha:PA X (e :: es) t) (hdb:(x == ("__debug__":Str))=false:=by decide) (he:starEach (e :: es) X.env=(false,eval e X.env) :: starEach es X.env:=by rfl) (hpl:(backTo pos (starEach es X.env)).any (·.1)=false:=by rfl) :
  PE X (.Call (.Name x p) (e :: es) [] pos) (tMakeX C sp dvs E t):=by
 intro pins s0 σ H0 Q I0 h0
 refine wpAny_Call_Name_kw (ld_glob I0 hg hm ?_ hdb)
 refine PySem.W.callWith_K (h₀:=X.base) I0.ok.mod.kin M.kp (thn (ha pos pins s0 σ H0 _ I0 h0) fun us s ⟨vs,H,I,r,h⟩=>⟨I.kIn,?_⟩) he hpl
 have hq:=h (s.heap.objs.size+1) s.heap.objs.size (I.hok.fresh (Nat.le_succ _)) (I.hok.fresh (Nat.le_refl _)) (Nat.ne_of_lt (Nat.lt_succ_self _))
 have I2:=Inv.made (C:=C) I
 have r2:Vals (V.ref (s.heap.objs.size+1) :: (vs++dvs)) (Value.ref (s.heap.objs.size+1) :: (us++ds)):=.cons rfl (r.append hd)
 have hl:(Value.ref (s.heap.objs.size+1) :: us++ds).length=ps.length:=by
  have e:=r2.length
  rw[F.len _ _ _ _ hq] at e
  exact e.symm
 refine wpAny_call (make_map (f:=f) I.kIn M.makes M.init (beq_iff_eq.mp M.fn) (codeAny_mono (F.run _ X.stack _ _ ⟨Value.ref (s.heap.objs.size+1) :: us,[]⟩ (Value.ref (s.heap.objs.size+1) :: (us++ds)) _ _ (E σ) (hr.make C us [])
  (I2.env0.make C us []) (hb _ (Value.ref (s.heap.objs.size+1) :: us) I2.kIn hl) r2 hq) fun r s' hq'=>?_))
 cases r with
 | error e=>exact hx pins σ _ _ e s' I2 hq'
 | ok fl =>
  cases fl with
  | ret u =>
   obtain ⟨v,H',I3,rv,ev,q3⟩:=I2.after hq'
   subst ev
   exact ⟨rv,⟨V.ref (s.heap.objs.size+1),H',I3,rfl,q3⟩⟩
  | next=>exact False.elim hq'
  | brk=>exact False.elim hq'
  | cont=>exact False.elim hq'
end
end L2
namespace L2
open PySem PySem.Spec PyProof.Rows Nm
inductive sp_badn31 (vs:List V) (H:Hp) (Q:VK) (E9:XK):Prop
 | mk (p:Addr):vs=[.ref p]->Bag H p->(∀x H',Nb (fun a=>H a=none) H' x->Bag H' p->Upto p H H'->Q x H')->sp_badn31 vs H Q E9
inductive sp_badr31 (K:PySem.W.Frag) (vs:List V) (H:Hp) (Q:VK) (E9:XK):Prop
 | mk (p:Addr) (n:Nat):vs=[.ref p,.int n]->Bag H p->n<=5->(∀x H',RI K (fun a=>H a=none) H' n false x->Bag H' p->Upto p H H'->Q x H')->sp_badr31 K vs H Q E9
theorem nb_tup {P:Addr->Prop} {H:Hp} {a:Addr} {xs:List V} (e:H a=some (.tup xs)) (hl:xs.length<=9:=by decide) (b:badT xs=true:=by decide) (f:∀y∈xs,Flat y:=by simp [Flat]):Nb P H (.ref a):=.tup e hl f b
theorem flat_str {s:Str} (h:(reprText s).length<=600:=by decide +kernel):Flat (.str s):=h
end L2
namespace L2
open PySem PySem.Spec PyProof.Rows Nm
theorem rd_dnewN {σ:St} {H:Hp} {Q:VK} (h:∀p H',Same H H'->H p=none->H' p=some (.dK [])->Q (.ref p) H'):tDNew σ H Q:=fun p hp=>h p _ (Same.new hp) hp upd_same
def Gi (H:Hp) (y:V):Prop:=∃(a:Addr) (m:Int),y=.ref a∧H a=some (.tup [.int m,.int 1])∧m.natAbs<=1000
section
variable {H H':Hp} {y:V} {p l:Addr} {K:PySem.W.Frag}
theorem Gi.same (h:Gi H y) (s:Same H H'):Gi H' y:=by obtain ⟨a,m,e,g,z⟩:=h;exact ⟨a,m,e,s _ _ g,z⟩
theorem Gi.upto (h:Gi H y) (u:Upto p H H') (B:Bag H p):Gi H' y:=by obtain ⟨a,m,e,g,z⟩:=h;exact ⟨a,m,e,u.tup B g,z⟩
theorem sz_1000 {m:Int} (h:m.natAbs<=1000):Sz 1900 m:=Nat.lt_of_le_of_lt h (Nat.lt_of_lt_of_le (show 1000 < 2^10 by decide) (Nat.pow_le_pow_right (by decide) (by decide)))
theorem Gi.ng (h:Gi H y):Ng K H y:=by
 obtain ⟨a,m,e,g,z⟩:=h
 have s1:Sz 1900 (1:Int):=sz_1000 (by decide)
 exact ⟨(m,1),⟨a,e,SqT.of g⟩,⟨show (0:Int) < 1 by decide,by simp,(sz_1000 z).mono (by decide),s1.mono (by decide)⟩,sz_1000 z,s1⟩
end
theorem paired_good {K:PySem.W.Frag} {P:Addr->Prop} {H:Hp}:∀{xs:List V},(∀y∈xs,Ng K H y)->Paired (NI K P H) (List.replicate xs.length true) xs
 | [],_=>.nil
 | x :: r,h=>.cons (.ok (h x List.mem_cons_self)) (paired_good fun y hy=>h y (List.mem_cons_of_mem _ hy))
theorem ri_len {K:PySem.W.Frag} {P:Addr->Prop} {H:Hp} {a:Addr} {xs:List V} {m:Nat} (e:H a=some (.lst xs)) (p:P a) (l:xs.length<=9) (h:∀y∈xs,Ng K H y) (n:xs.length≠m):RI K P H m false (.ref a):=.lst e p l (paired_good h) (by rw[decide_eq_false n];rfl)
theorem ri_bad {K:PySem.W.Frag} {P:Addr->Prop} {H:Hp} {a:Addr} {xs:List V} {m j:Nat} {y:V} (e:H a=some (.lst (xs.set j y))) (p:P a) (l:xs.length<=9) (hj:j < xs.length) (h:∀y∈xs,Ng K H y) (b:Nb P H y):RI K P H m false (.ref a) :=
 .lst e p (by rw[List.length_set];exact l) (paired_set (NI.no b) j (paired_good h)) (by
  have:((List.replicate xs.length true).set j false).all id=false:=by
   rw[List.all_eq_false]
   exact ⟨false,List.mem_iff_getElem.mpr ⟨j,by simpa using hj,by simp⟩,by simp⟩
  rw[this,Bool.and_false])
end L2
namespace L2
open PySem PySem.Spec PyProof.Rows Nm
theorem cut_two {ys:List V} {j:Nat} (h:j < ys.length):(cutV ys none (some (j:Int))).length+(cutV ys (some ((j:Int)+1)) none).length+1=ys.length:=by
 unfold cutV
 rw[show ((j:Int)+1)=((j+1:Nat):Int) by lia,HT.sIx_nat,HT.sIx_nat,HT.sIx_none,HT.sIx_none]
 simp only[List.length_take,List.length_drop]
 lia
end L2
namespace L2
open PySem PySem.Spec PyProof.Rows Nm
section
variable {K:PySem.W.Frag} {P:Addr->Prop} {H H':Hp} {x:V} {b:Bool} {m:Nat}
theorem Rp.live:∀{n:Nat} {x:V} {d:PyData},Rp K P H n x d->Rp K (fun a=>P a∧H a≠none) H n x d
 | _,.non,_,h=>by unfold Rp at h ⊢;exact h
 | _,.bl b,_,h=>by unfold Rp at h ⊢;exact h
 | _,.int i,_,h=>by unfold Rp at h ⊢;exact h
 | _,.str x,_,h=>by unfold Rp at h ⊢;exact h
 | 0,.ref a,_,h=>by unfold Rp at h;exact h.elim
 | n+1,.ref a,_,h=>by
  unfold Rp at h ⊢
  rcases h with ⟨xs,ds,e,hp,hl,q,z⟩ | ⟨xs,ds,e,hl,q,z⟩ | ⟨e,hp,z⟩
  ·exact .inl ⟨xs,ds,e,⟨hp,by rw[e];simp⟩,hl,Paired.imp' (fun _ _ r=>Rp.live r) q,z⟩
  ·exact .inr (.inl ⟨xs,ds,e,hl,Paired.imp' (fun _ _ r=>Rp.live r) q,z⟩)
  ·exact .inr (.inr ⟨e,⟨hp,by rw[e];simp⟩,z⟩)
 | n,.byt b,_,h=>by cases n <;> (unfold Rp at h;exact h.elim)
 | n,.flt b,_,h=>by cases n <;> (unfold Rp at h;exact h.elim)
 | n,.ty b,_,h=>by cases n <;> (unfold Rp at h;exact h.elim)
theorem Nb.live (h:Nb P H x):Nb (fun a=>P a∧H a≠none) H x:=by
 cases h with
 | flat h=>exact .flat h
 | lst e p l f=>exact .lst e ⟨p,by rw[e];simp⟩ l f
 | tup e l f b=>exact .tup e l f b
theorem NI.live (h:NI K P H b x):NI K (fun a=>P a∧H a≠none) H b x:=by
 cases h with
 | ok h=>exact .ok h
 | no h=>exact .no h.live
theorem RI.live (h:RI K P H m b x):RI K (fun a=>P a∧H a≠none) H m b x:=by
 cases h with
 | flat h=>exact .flat h
 | dic e p=>exact .dic e ⟨p,by rw[e];simp⟩
 | tup e l f=>exact .tup e l fun y hy=>let ⟨d,hd⟩:=f y hy;⟨d,hd.live⟩
 | lst e p l q z=>exact .lst e ⟨p,by rw[e];simp⟩ l (Paired.imp' (fun _ _ r=>r.live) q) z
end
def Szx (x:Rat):Prop:=NumOk (nm x)∧Sz 1900 (nm x).1∧Sz 1900 (nm x).2
theorem ri_row {K:PySem.W.Frag} {P:Addr->Prop} {H:Hp} {q:Addr} {n:Nat} {xs:List Rat} (h:RowQ K H q xs) (hp:P q) (hn:n<=9) (hl:xs.length=n) (hs:∀x∈xs,Szx x):RI K P H n true (.ref q):=by
 obtain ⟨ys,g,r⟩:=h
 have ly:=r.length
 refine .lst g hp (by lia) (paired_good fun y hy=>?_) ?_
 ·obtain ⟨x,hx,z⟩:=paired_mem r hy
  exact ⟨_,z,hs x hx⟩
 ·rw[decide_eq_true (show ys.length=n by lia),Bool.true_and,List.all_replicate]
  simp
theorem grid_ri {K:PySem.W.Frag} {P:Addr->Prop} {H0 H:Hp} {g:Addr} {n:Nat} {rows:List (List Rat)} (G:GridQ K H0 H g rows) (hP:∀q,H0 q=none->q≠g->P q) (hn:n<=9) (hw:∀xs∈rows,xs.length=n) (hs:∀xs∈rows,∀x∈xs,Szx x) :
  ∃zs,H g=some (.lst zs)∧zs.length=rows.length∧Paired (RI K P H n) (List.replicate zs.length true) zs:=by
 obtain ⟨zs,e,r,ni⟩:=G
 refine ⟨zs,e,r.length.symm,?_⟩
 have al:∀y∈zs,RI K P H n true y:=fun y hy=>by
  obtain ⟨xs,hx,q,rfl,nq,R⟩:=paired_mem r hy
  exact ri_row R (hP q nq fun z=>ni (z ▸ hy)) hn (hw xs hx) (hs xs hx)
 clear e r ni
 induction zs with
 | nil=>exact .nil
 | cons y r ih=>exact .cons (al y List.mem_cons_self) (ih fun z hz=>al z (List.mem_cons_of_mem _ hz))
theorem paired_repB {F:Bool->V->Prop}:∀{zs:List V},(∀y∈zs,F true y)->Paired F (List.replicate zs.length true) zs
 | [],_=>.nil
 | y :: r,h=>.cons (h y List.mem_cons_self) (paired_repB fun z hz=>h z (List.mem_cons_of_mem _ hz))
def mst (pl:Nat):Nat:=if pl=0 then 8 else 4
inductive sp_spoilt31 (K:PySem.W.Frag) (vs:List V) (H:Hp) (Q:VK) (E9:XK):Prop
 | mk (P0:Addr->Prop) (p g:Addr) (n pl:Nat) (H0:Hp) (rows:List (List Rat)):vs=[.ref p,.ref g,.int n,.int pl]->Bag H p->n<=5->pl < 3->GridQ K H0 H g rows->H0 p≠none->H0 g=none->(∀q,H0 q=none->P0 q)->(∀a,P0 a->a≠p) →
   (∀xs∈rows,xs.length=n)->(∀xs∈rows,∀x∈xs,Szx x)->rows.length<=5->rows.length<=mst pl->(pl=0->rows.length=n) →
   (∀r t x c v H',AR K (fun a=>P0 a∨H a=none) H' pl (mst pl) n x (some (c,v))->H' r=some (.tup [x,.ref t])->H' t=some (.tup [.str (nmX c),.int v])->Bag H' p->Upto p H H'->Q (.ref r) H')->sp_spoilt31 K vs H Q E9
theorem mst_at {pl:Nat} (h:pl < 3):atI [V.int 8,.int 4,.int 4] (pl:Int)=some (.int (mst pl)):=by
 have:pl=0∨pl=1∨pl=2:=by lia
 rcases this with rfl | rfl | rfl <;> rfl
theorem mst_le (pl:Nat):mst pl<=8∧4<=mst pl:=by unfold mst;split <;> lia
structure Sl31 (K:PySem.W.Frag) (p l:Addr) (n pl:Nat) (H H':Hp) (bs:List Bool) (xs:List V):Prop where
 B:Bag H' p
 u:Upto p H H'
 nl:H l=none
 g:H' l=some (.lst xs)
 q:Paired (RI K (fun a=>H a=none∧a≠l) H' n) bs xs
 l9:xs.length<=mst pl
 w:pl=0->xs.length=n
section
variable {K:PySem.W.Frag} {p l:Addr} {n pl j:Nat} {H H' H2:Hp} {bs:List Bool} {xs:List V} {y:V} {b:Bool}
theorem Sl31.ne (h:Sl31 K p l n pl H H' bs xs) (hB:Bag H p):∀{a},H a=none->a≠p:=fun h z=>hB.at (by rw[← z];exact h)
theorem Sl31.upto (h:Sl31 K p l n pl H H' bs xs) (hB:Bag H p) (u:Upto p H' H2) (B:Bag H2 p):Sl31 K p l n pl H H2 bs xs :=
 ⟨B,h.u.trans u,h.nl,u.other (h.ne hB h.nl) h.g,Paired.imp' (fun _ _ z=>z.keep (KpU.upto u h.B fun a ha=>h.ne hB ha.1)) h.q,h.l9,h.w⟩
theorem Sl31.set (h:Sl31 K p l n pl H H' bs xs) (hB:Bag H p) (r:RI K (fun a=>H' a=none) H2 n b y) (u:Upto p H' H2) (B:Bag H2 p):Sl31 K p l n pl H (upd H2 l (.lst (xs.set j y))) (bs.set j b) (xs.set j y):=by
 have h2:=h.upto hB u B
 obtain ⟨q5,I5,xs5,gq5⟩:=B.inner
 have lq:l≠q5:=fun z=>by
  obtain ⟨q0,I0,xs0,gq0⟩:=hB.inner
  have:=Inner.inj (h2.u.2 _ I0) I5
  subst this
  rw[← z,h.nl] at gq0;cases gq0
 refine ⟨B.upd I5 (h.ne hB h.nl) lq,h2.u.after h.nl,h.nl,upd_same,?_,by rw[List.length_set];exact h.l9,fun z=>by rw[List.length_set];exact h.w z⟩
 refine paired_set ?_ j (Paired.imp' (fun _ _ z=>z.keep (KpU.upd h2.g fun a ha=>ha.2)) h2.q)
 have r2:RI K (fun a=>H a=none∧a≠l) H2 n b y:=r.mono fun a ha=>⟨h.u.none h.B ha,fun z=>by rw[z,h.g] at ha;cases ha⟩
 exact r2.keep (KpU.upd h2.g fun a ha=>ha.2)
theorem Sl31.ar {P0:Addr->Prop} {k:Nat} (h:Sl31 K p l n pl H H' bs xs) (hi:∀i,i < k->bs[i]?=some true) (hk:bs[k]?=some false):AR K (fun a=>P0 a∨H a=none) H' pl (mst pl) n (.ref l) (some (2,k)) :=
 .lst h.g (.inr h.nl) (by have:=h.l9;have:=(mst_le pl).1;lia) h.l9 (Paired.imp' (fun _ _ z=>z.mono fun a ha=>.inr ha.1) h.q) h.w hi hk
end
end L2
namespace L2
open PySem PySem.Spec PyProof.Rows Nm
def gF (n m:Nat) (f:Nat->Nat->Int):List (List Rat):=(List.range n).map fun i=>(List.range m).map fun j=>((f i j:Int):Rat)
def mF (i j:Nat):Int:=(if decide ((j:Int)=(i:Int)+1)=true then 1 else 0)+(if decide ((j:Int)=0)=true then 1 else 0)*(i:Int)
def pF (k j:Nat):Int:=(k:Int)+(j:Int)
def lF (k j:Nat):Int:=(k:Int)*(j:Int)
theorem gF_len {n m:Nat} {f:Nat->Nat->Int}:(gF n m f).length=n:=by simp [gF]
theorem gF_row {n m:Nat} {f:Nat->Nat->Int}:∀xs∈gF n m f,xs.length=m:=fun xs h=>by
 obtain ⟨i,_,rfl⟩:=List.mem_map.mp h
 simp
theorem gF_fr {n m V:Nat} {f:Nat->Nat->Int} (h:∀i,i < n->∀j,j < m->(f i j).natAbs<=V):GF 1 V (gF n m f):=fun xs hx x hx'=>by
 obtain ⟨i,hi,rfl⟩:=List.mem_map.mp hx
 obtain ⟨j,hj,rfl⟩:=List.mem_map.mp hx'
 exact Fr.int (h i (List.mem_range.mp hi) j (List.mem_range.mp hj))
theorem full_d:SysD (gF 8 8 mF) (gF 4 8 pF) (gF 4 8 lF):=⟨by rw[gF_len];exact Nat.le_refl _,by rw[gF_len];exact Nat.le_refl _,by rw[gF_len];exact Nat.le_refl _,fun xs h=>by rw[gF_len];exact gF_row xs h,fun xs h=>by rw[gF_len];exact gF_row xs h,fun xs h=>by rw[gF_len];exact gF_row xs h⟩
theorem full_f:SFits (gF 8 8 mF) (gF 4 8 pF) (gF 4 8 lF) :=
 ⟨1,100,by decide,Nat.one_le_two_pow,Nat.le_trans (show 100<=2^7 by decide) (Nat.pow_le_pow_right (by decide) (by decide)),gF_fr (by decide),gF_fr (by decide),gF_fr (by decide)⟩
inductive sp_full31 (vs:List V) (H:Hp) (Q:VK) (E9:XK):Prop
 | mk:vs=[]->(∀H',Same H H'->Q (.bl true) H')->sp_full31 vs H Q E9
end L2
namespace L2
open PySem PySem.Spec PyProof.Rows Nm
theorem GridQ.newT {K:PySem.W.Frag} {H0 H:Hp} {g T:Addr} {rows:List (List Rat)} {o:HO} (G:GridQ K H0 H g rows) (hT:H T=none):GridQ K (upd H0 T o) H g rows:=by
 obtain ⟨xs,e,r,ni⟩:=G
 refine ⟨xs,e,Paired.imp' (fun _ _ ⟨q,z,nq,R⟩=>⟨q,z,?_,R⟩) r,ni⟩
 obtain ⟨ys,gq,_⟩:=R
 rw[upd_ne (fun w=>by rw[w,hT] at gq;cases gq)]
 exact nq
theorem GridQ.updT {K:PySem.W.Frag} {H0 H:Hp} {g T:Addr} {rows:List (List Rat)} {o:HO} {ys:List V} (G:GridQ K H0 H g rows) (hT:H T=some (.lst ys)) (h0:H0 T≠none) (hg:g≠T):GridQ K H0 (upd H T o) g rows:=by
 obtain ⟨xs,e,r,ni⟩:=G
 refine ⟨xs,by rw[upd_ne hg];exact e,Paired.imp' (fun _ _ ⟨q,z,nq,R⟩=>⟨q,z,nq,R.updL hT fun w=>h0 (by rw[← w];exact nq)⟩) r,ni⟩
def hT31 (H5:Hp) (T:Addr):Hp:=upd H5 T (.lst [])
theorem hT31_none {H5:Hp} {T a:Addr} (h:hT31 H5 T a=none):H5 a=none∧a≠T:=by
 have ne:a≠T:=fun z=>by rw[z] at h;unfold hT31 at h;rw[upd_same] at h;cases h
 unfold hT31 at h
 rw[upd_ne ne] at h
 exact ⟨h,ne⟩
structure W31 (K:PySem.W.Frag) (p T:Addr) (n:Nat) (H5 H':Hp) (xs:Nat->V) (rs:Nat->Option (Nat×Nat)):Prop where
 B:Bag H' p
 u:Upto p H5 H'
 nT:H5 T=none
 gT:H' T=some (.lst [xs 0,xs 1,xs 2])
 ar:∀j,j < 3->AR K (fun a=>H5 a=none∧a≠T) H' j (mst j) n (xs j) (rs j)
structure G31 (K:PySem.W.Frag) (T:Addr) (n:Nat) (H5 H':Hp) (j:Nat) (rows:List (List Rat)) (x:V) (r:Option (Nat×Nat)) (g:Addr):Prop where
 x:x=.ref g
 r:r=none
 n5:H5 g=none
 nT:g≠T
 G:GridQ K (hT31 H5 T) H' g rows
structure R31 (n j:Nat) (rows:List (List Rat)):Prop where
 w:∀xs∈rows,xs.length=n
 s:∀xs∈rows,∀x∈xs,Szx x
 l5:rows.length<=5
 lm:rows.length<=mst j
 l0:j=0->rows.length=n
section
variable {K:PySem.W.Frag} {p T:Addr} {n:Nat} {H5 H' H2:Hp} {xs:Nat->V} {rs:Nat->Option (Nat×Nat)} {x:V} {r:Option (Nat×Nat)} {j k:Nat} {rows:List (List Rat)} {g:Addr}
theorem G31.ar (h:G31 K T n H5 H' j rows x r g) (hr:R31 n j rows) (hn:n<=5):AR K (fun a=>H5 a=none∧a≠T) H' j (mst j) n x r:=by
 obtain ⟨rfl,rfl,n5,nT,G⟩:=h
 obtain ⟨zs,e,lz,q⟩:=grid_ri (P:=fun a=>H5 a=none∧a≠T) (n:=n) G (fun q z _=>hT31_none z) (by lia) hr.w hr.s
 have l5:=hr.l5
 have lm:=hr.lm
 exact .good e ⟨n5,nT⟩ (by lia) (by lia) q (fun z=>by rw[lz];exact hr.l0 z) fun b hb=>(List.mem_replicate.mp hb).2
theorem W31.ne (h:W31 K p T n H5 H' xs rs) (B5:Bag H5 p):∀{a},H5 a=none->a≠p:=fun h z=>B5.at (by rw[← z];exact h)
theorem W31.upto (h:W31 K p T n H5 H' xs rs) (B5:Bag H5 p) (u:Upto p H' H2) (B:Bag H2 p):W31 K p T n H5 H2 xs rs :=
 ⟨B,h.u.trans u,h.nT,u.other (h.ne B5 h.nT) h.gT,fun j hj=>(h.ar j hj).keep (KpU.upto u h.B fun a ha=>h.ne B5 ha.1)⟩
theorem W31.same (h:W31 K p T n H5 H' xs rs) (s:Same H' H2):W31 K p T n H5 H2 xs rs :=
 ⟨h.B.same s,h.u.same s,h.nT,s _ _ h.gT,fun j hj=>(h.ar j hj).keep (KpU.same s)⟩
theorem G31.upto (h:G31 K T n H5 H' j rows x r g) (B5:Bag H5 p) (u:Upto p H' H2) (B:Bag H' p):G31 K T n H5 H2 j rows x r g :=
 have ne:∀{a},H5 a=none->a≠p:=fun h z=>B5.at (by rw[← z];exact h)
 ⟨h.x,h.r,h.n5,h.nT,h.G.upto u B (ne h.n5) fun z=>ne (hT31_none z).1 rfl⟩
theorem G31.upd {ys:List V} {o:HO} (h:G31 K T n H5 H' j rows x r g) (hT:H' T=some (.lst ys)):G31 K T n H5 (upd H' T o) j rows x r g :=
 ⟨h.x,h.r,h.n5,h.nT,h.G.updT hT (fun z=>(hT31_none z).2 rfl) h.nT⟩
theorem W31.set (h:W31 K p T n H5 H' xs rs) (B5:Bag H5 p) (hk:k < 3) (A:AR K (fun a=>hT31 H5 T a=none∨H' a=none) H2 k (mst k) n x r) (u:Upto p H' H2) (B:Bag H2 p) :
  W31 K p T n H5 (upd H2 T (.lst ([xs 0,xs 1,xs 2].set k x))) (fun j=>if j=k then x else xs j) (fun j=>if j=k then r else rs j):=by
 have h2:=h.upto B5 u B
 obtain ⟨q5,I5,xs5,gq5⟩:=B.inner
 have lq:T≠q5:=fun z=>by
  obtain ⟨q0,I0,xs0,gq0⟩:=B5.inner
  have:=Inner.inj (h2.u.2 _ I0) I5
  subst this
  rw[← z,h.nT] at gq0;cases gq0
 have kp:KpU K (fun a=>H5 a=none∧a≠T) H2 (L2.upd H2 T (.lst ([xs 0,xs 1,xs 2].set k x))):=KpU.upd h2.gT fun a ha=>ha.2
 refine ⟨B.upd I5 (h.ne B5 h.nT) lq,h2.u.after h.nT,h.nT,?_,fun j hj=>?_⟩
 ·rw[upd_same]
  have:k=0∨k=1∨k=2:=by lia
  rcases this with rfl | rfl | rfl <;> rfl
 ·by_cases e:j=k
  ·subst e
   show AR _ _ _ _ _ _ (if j=j then x else xs j) (if j=j then r else rs j)
   rw[if_pos rfl,if_pos rfl]
   exact (A.mono fun a ha=>ha.elim hT31_none fun z=>⟨h.u.none h.B z,fun w=>by rw[w,h.gT] at z;cases z⟩).keep kp
  ·show AR _ _ _ _ _ _ (if j=k then x else xs j) (if j=k then r else rs j)
   rw[if_neg e,if_neg e]
   exact (h2.ar j hj).keep kp
theorem W31.rp (h:W31 K p T n H5 H' xs rs):∃d,Rp K (fun a=>H5 a=none) H' 4 (.ref T) d:=by
 refine rp_lst h.gT h.nT (by simp) fun y hy=>?_
 simp only[List.mem_cons,List.not_mem_nil,or_false] at hy
 have key:∀j,j < 3->∃d,Rp K (fun a=>H5 a=none) H' 3 (xs j) d:=fun j hj=>let ⟨d,hd⟩:=(h.ar j hj).rp;⟨d,hd.mono fun a ha=>ha.1⟩
 rcases hy with rfl | rfl | rfl
 ·exact key 0 (by decide)
 ·exact key 1 (by decide)
 ·exact key 2 (by decide)
theorem or31 {c v pl:Nat} (hp:pl < 3) (h1:∀j,j < pl->rs j=none) (h2:rs pl=some (c,v)):(rs 0).or ((rs 1).or (rs 2))=some (c,v):=by
 have:pl=0∨pl=1∨pl=2:=by lia
 rcases this with rfl | rfl | rfl
 ·rw[h2];rfl
 ·rw[h1 0 (by decide),h2];rfl
 ·rw[h1 0 (by decide),h1 1 (by decide),h2];rfl
end
def f3 {α:Type} (a b c:α) (j:Nat):α:=if j=0 then a else if j=1 then b else c
theorem x3_at {xs:Nat->V} {j:Nat} (h:j < 3):atI [xs 0,xs 1,xs 2] (j:Int)=some (xs j):=by
 have:j=0∨j=1∨j=2:=by lia
 rcases this with rfl | rfl | rfl <;> rfl
theorem szx_fits {mv pt lk:List (List Rat)} (h:SFits mv pt lk):(∀xs∈mv,∀x∈xs,Szx x)∧(∀xs∈pt,∀x∈xs,Szx x)∧(∀xs∈lk,∀x∈xs,Szx x):=by
 obtain ⟨M,W,h0,h1,h2,a,b,c⟩:=id h
 have key:∀{x:Rat},Fr M W x->NumOk (nm x)->Szx x:=fun {x} f ok=>by
  obtain ⟨s1,s2⟩:=f.sz h0 h1 h2
  exact ⟨ok,s1.mono (by decide),s2.mono (by decide)⟩
 exact ⟨fun xs hx x hx'=>key (a xs hx x hx') (h.ok.1 xs hx x hx'),fun xs hx x hx'=>key (b xs hx x hx') (h.ok.2.1 xs hx x hx'),fun xs hx x hx'=>key (c xs hx x hx') (h.ok.2.2 xs hx x hx')⟩
theorem W31.start {K:PySem.W.Frag} {p T g0 g1 g2:Addr} {n:Nat} {H5 H6 H7 H8 H9:Hp} {mv pt lk:List (List Rat)} (B5:Bag H5 p) (hn:n<=5) (s6:Same H5 H6) (s7:Same H6 H7) (s8:Same H7 H8) (s9:Same H8 H9) (n6:H5 g0=none) (n7:H6 g1=none) (n8:H7 g2=none) (n9:H8 T=none)
  (g9:H9 T=some (.lst [.ref g0,.ref g1,.ref g2])) (G6:GridQ K H5 H6 g0 mv) (G7:GridQ K H6 H7 g1 pt) (G8:GridQ K H7 H8 g2 lk) (R0:R31 n 0 mv) (R1:R31 n 1 pt) (R2:R31 n 2 lk) :
  W31 K p T n H5 H9 (f3 (.ref g0) (.ref g1) (.ref g2)) (fun _=>none)∧∀j,j < 3->G31 K T n H5 H9 j (f3 mv pt lk j) (f3 (.ref g0) (.ref g1) (.ref g2) j) none (f3 g0 g1 g2 j):=by
 have s57:=s6.trans s7
 have s58:=s57.trans s8
 have live:∀{g:Addr} {rows:List (List Rat)} {Hx:Hp},GridQ K Hx H8 g rows->g≠T:=fun G z=>by
  obtain ⟨xs,e,_⟩:=G
  rw[z,n9] at e;cases e
 have A6:GridQ K H5 H8 g0 mv:=(G6.same s7).same s8
 have A7:GridQ K H5 H8 g1 pt:=(G7.same s8).weak s6
 have A8:GridQ K H5 H8 g2 lk:=G8.weak s57
 have all:∀j,j < 3->G31 K T n H5 H9 j (f3 mv pt lk j) (f3 (.ref g0) (.ref g1) (.ref g2) j) none (f3 g0 g1 g2 j):=fun j hj=>by
  have:j=0∨j=1∨j=2:=by lia
  rcases this with rfl | rfl | rfl
  ·exact ⟨rfl,rfl,n6,live A6,(A6.newT n9).same s9⟩
  ·exact ⟨rfl,rfl,s6.none n7,live A7,(A7.newT n9).same s9⟩
  ·exact ⟨rfl,rfl,s57.none n8,live A8,(A8.newT n9).same s9⟩
 refine ⟨⟨(B5.same s58).same s9,(s58.trans s9).upto,s58.none n9,g9,fun j hj=>?_⟩,all⟩
 refine (all j hj).ar ?_ hn
 have:j=0∨j=1∨j=2:=by lia
 rcases this with rfl | rfl | rfl
 ·exact R0
 ·exact R1
 ·exact R2
theorem f3_R31 {n:Nat} {mv pt lk:List (List Rat)} (R0:R31 n 0 mv) (R1:R31 n 1 pt) (R2:R31 n 2 lk) (j:Nat) (hj:j < 3):R31 n j (f3 mv pt lk j):=by
 have:j=0∨j=1∨j=2:=by lia
 rcases this with rfl | rfl | rfl
 ·exact R0
 ·exact R1
 ·exact R2
end L2
open L2
local macro_rules | `(tactic| walk_at "hl") => `(tactic| first | (show _ ≤ sizeLine; with_unfolding_all decide) | (with_unfolding_all exact (by decide)))
local macro_rules | `(tactic| walk_at "sq") => `(tactic| first | with_reducible assumption | with_reducible exact SqT.of (by assumption) | with_reducible exact SqL.of (by assumption) | with_reducible exact SqT.of upd_same | with_reducible exact SqL.of upd_same | assumption)
local macro_rules | `(tactic| walk_at "sc") => `(tactic| first | (with_reducible show (0 : Int) < _; decide) | with_reducible exact cmulS_r (by decide) (by decide) | with_reducible exact cmulS_l (by decide) (by decide) | with_reducible exact cpow_of (by decide) (by decide) (by decide))
local macro_rules | `(tactic| walk_at "rd") => `(tactic| first
  | with_reducible refine rd_seq ?_
  | with_reducible refine rd_next ?_
  | with_reducible refine rd_asg ?_
  | with_reducible refine rd_gname ?_
  | ((with_reducible refine' rd_var ?hx1 ?_); (case hx1 => with_unfolding_all rfl))
  | with_reducible refine rd_c ?_
  | with_reducible refine rd_op ?_
  | with_reducible refine rd_I0 ?_
  | with_reducible refine rd_un ?_
  | with_reducible refine rd_U ?_
  | with_reducible refine rd_eqI ?_
  | with_reducible refine rd_neI ?_
  | with_reducible refine rd_eqS ?_
  | with_reducible refine rd_neS ?_
  | with_reducible refine rd_eqB ?_
  | with_reducible refine rd_neB ?_
  | with_reducible refine rd_iZip ?_
  | with_reducible refine rd_listZip ?_
  | with_reducible refine rd_fld ?_
  | with_reducible refine rd_sfld ?_
  | with_reducible refine rd_meth ?_
  | with_reducible refine rd_make ?_
  | with_reducible refine rd_iEnum ?_
  | with_reducible refine rd_test ?_
  | with_reducible refine rd_tB ?_
  | with_reducible refine rd_ret ?_
  | with_reducible refine rd_retN ?_
  | with_reducible refine rd_ifS ?_
  | with_reducible refine rd_and ?_
  | with_reducible refine rd_or ?_
  | with_reducible refine rd_not ?_
  | with_reducible refine rd_andV ?_
  | with_reducible refine rd_orV ?_
  | with_reducible refine rd_notV ?_
  | with_reducible refine rd_ifE ?_
  | with_reducible refine rd_yes ?_
  | with_reducible refine iteF ?_
  | with_reducible refine iteT ?_
  | with_reducible refine iteNT ?_
  | with_reducible refine iteNF ?_
  | with_reducible refine rd_wb ?_
  | with_reducible refine rd_nil ?_
  | with_reducible refine rd_cons ?_
  | with_reducible refine rd_tup ?_
  | with_reducible refine rd_lst ?_
  | with_reducible refine rd_call ?_
  | with_reducible refine rd_cb ?_
  | with_reducible refine rd_drop ?_
  | with_reducible refine rd_par ?_
  | with_reducible refine rd_augS ?_
  | ((with_reducible refine' rd_aug ?hx1 ?_); (case hx1 => with_unfolding_all rfl))
  | with_reducible refine rd_ipI ?_
  | with_reducible refine rd_gsub ?_
  | with_reducible refine rd_gcons ?_
  | with_reducible refine rd_gnil ?_
  | with_reducible refine rd_sl ?_
  | with_reducible refine rd_noPart ?_
  | with_reducible refine rd_part ?_
  | with_reducible refine rd_for ?_
  | with_reducible refine rd_iList ?_
  | with_reducible refine rd_iTup ?_
  | with_reducible refine rd_iRng1 ?_
  | with_reducible refine rd_iRng2 ?_
  | ((with_reducible refine' rd_comp ?hx1 ?_); (case hx1 => with_unfolding_all rfl))
  | with_reducible refine rd_turn ?_
  | with_reducible refine rd_bm ?_
  | with_reducible refine rd_bm0 ?_
  | with_reducible refine rd_brk ?_
  | ((with_reducible refine' rd_gtup ?hx1 ?hx2 ?_); (case hx1 => walk_at "sq"); (case hx2 => with_unfolding_all rfl))
  | with_reducible refine rd_cont ?_
  | ((with_reducible refine' rd_I ?hx1 ?_); (case hx1 => walk_at "sc"))
  | ((with_reducible refine' rd_ixT ?hx1 ?hx2 ?_); (case hx1 => walk_at "sq"); (case hx2 => with_unfolding_all rfl))
  | ((with_reducible refine' rd_ixL ?hx1 ?hx2 ?_); (case hx1 => walk_at "sq"); (case hx2 => with_unfolding_all rfl))
  | ((with_reducible refine' rd_getL ?hx1 ?hx2 ?_); (case hx1 => walk_at "sq"); (case hx2 => with_unfolding_all rfl))
  | ((with_reducible refine' rd_setL ?hx1 ?hx2 ?hx3 ?_); (case hx1 => with_reducible first | assumption | exact upd_same); (case hx2 => with_unfolding_all rfl); (case hx3 => with_unfolding_all rfl))
  | with_reducible refine ⟨_, rfl, ?_⟩
  | with_reducible refine ⟨_, _, rfl, ?_⟩)
local macro_rules | `(tactic| walk_at "w") => `(tactic| repeat walk_at "rd")
namespace Lw
open PySem PySem.Spec PyProof.Rows L2 Nm
set_option maxHeartbeats 4000000
def top (i:Nat):Stmt:=PySem.Challenge.pw_helmsum_k31_systems_refused.main.body.getD i (.Pass ⟨0,0,0,0⟩)
abbrev s__law_bag:Stmt:=top 29
abbrev s__law_take:Stmt:=top 30
abbrev s__law_sizes:Stmt:=top 42
abbrev s__law_low:Stmt:=top 31
abbrev s__law_number:Stmt:=top 34
abbrev s__law_row:Stmt:=top 35
abbrev s__law_move:Stmt:=top 38
abbrev s__law_sum:Stmt:=top 32
abbrev s__law_plus:Stmt:=top 36
abbrev s__law_prod:Stmt:=top 33
abbrev s__law_by:Stmt:=top 37
abbrev s__law_mixed:Stmt:=top 39
abbrev s__law_parts:Stmt:=top 40
abbrev s__law_drawn:Stmt:=top 48
abbrev s__law_is_number:Stmt:=top 43
abbrev s__law_is_row:Stmt:=top 44
abbrev s__law_is_grid:Stmt:=top 45
abbrev s__law_fields:Stmt:=top 47
abbrev s_want_list:Stmt:=top 25
abbrev s_is_whole:Stmt:=top 14
abbrev s_common_divisor:Stmt:=top 15
abbrev s_is_number:Stmt:=top 16
abbrev s_is_row:Stmt:=top 18
abbrev s_copied_rows:Stmt:=top 26
abbrev s_System___init__:Stmt:=inClass (top 27) 0
abbrev s__law_copied:Stmt:=top 41
abbrev s__law_system:Stmt:=top 46
abbrev s_grid_turned:Stmt:=top 20
abbrev s_System_turned:Stmt:=inClass (top 27) 3
abbrev s__law_full:Stmt:=top 53
abbrev s__law_bad_number:Stmt:=top 50
abbrev s__law_bad_row:Stmt:=top 51
abbrev s__law_spoilt:Stmt:=top 52
abbrev s_Wrong___init__:Stmt:=inClass (top 3) 0
abbrev s_TooMany___init__:Stmt:=inClass (top 5) 0
abbrev s_NoThing___init__:Stmt:=inClass (top 4) 0
abbrev s__law_refusal:Stmt:=top 49
abbrev s_law:Stmt:=top 54
set_option genInjectivity false in
set_option genSizeOf false in
structure Ads where
 a__law_bag:Addr
 d__law_bag:FuncData
 a__law_take:Addr
 d__law_take:FuncData
 a__law_sizes:Addr
 d__law_sizes:FuncData
 a__law_low:Addr
 d__law_low:FuncData
 a__law_number:Addr
 d__law_number:FuncData
 a__law_row:Addr
 d__law_row:FuncData
 a__law_move:Addr
 d__law_move:FuncData
 a__law_sum:Addr
 d__law_sum:FuncData
 a__law_plus:Addr
 d__law_plus:FuncData
 a__law_prod:Addr
 d__law_prod:FuncData
 a__law_by:Addr
 d__law_by:FuncData
 a__law_mixed:Addr
 d__law_mixed:FuncData
 a__law_parts:Addr
 d__law_parts:FuncData
 a__law_drawn:Addr
 d__law_drawn:FuncData
 a__law_is_number:Addr
 d__law_is_number:FuncData
 a__law_is_row:Addr
 d__law_is_row:FuncData
 a__law_is_grid:Addr
 d__law_is_grid:FuncData
 a__law_fields:Addr
 d__law_fields:FuncData
 a_want_list:Addr
 d_want_list:FuncData
 a_is_whole:Addr
 d_is_whole:FuncData
 a_common_divisor:Addr
 d_common_divisor:FuncData
 a_is_number:Addr
 d_is_number:FuncData
 a_is_row:Addr
 d_is_row:FuncData
 a_copied_rows:Addr
 d_copied_rows:FuncData
 a_System___init__:Addr
 d_System___init__:FuncData
 a__law_copied:Addr
 d__law_copied:FuncData
 a__law_system:Addr
 d__law_system:FuncData
 a_grid_turned:Addr
 d_grid_turned:FuncData
 a_System_turned:Addr
 d_System_turned:FuncData
 a__law_full:Addr
 d__law_full:FuncData
 a__law_bad_number:Addr
 d__law_bad_number:FuncData
 a__law_bad_row:Addr
 d__law_bad_row:FuncData
 a__law_spoilt:Addr
 d__law_spoilt:FuncData
 a_Wrong___init__:Addr
 d_Wrong___init__:FuncData
 a_TooMany___init__:Addr
 d_TooMany___init__:FuncData
 a_NoThing___init__:Addr
 d_NoThing___init__:FuncData
 a__law_refusal:Addr
 d__law_refusal:FuncData
 a_law:Addr
 d_law:FuncData
 t_MOST_STATES:Tok
 t_MOST_PUTS:Tok
 t_MOST_LOOKS:Tok
 a_System:Addr
 a_SumError:Addr
 a_Wrong:Addr
 a_NoThing:Addr
 a_TooMany:Addr
 a_NoNumber:Addr
 a_NoFit:Addr
 a_NotSteered:Addr
 a_NotSeen:Addr
 a_NoText:Addr
 a_NoName:Addr
 a_Taken:Addr
structure Txt (K:PySem.W.Frag) (mg:Str->Option Value) (Z:Ads):Prop where
 mg__law_bag:mg "_law_bag"=some (.ref Z.a__law_bag)
 b__law_bag:Binds K Z.d__law_bag ["_law_script"] []
 F__law_bag:Fun K "_law_bag" "_law_bag" s__law_bag Z.a__law_bag Z.d__law_bag
 mg__law_take:mg "_law_take"=some (.ref Z.a__law_take)
 b__law_take:Binds K Z.d__law_take ["_law_bag_here","_law_many"] []
 F__law_take:Fun K "_law_take" "_law_take" s__law_take Z.a__law_take Z.d__law_take
 mg__law_sizes:mg "_law_sizes"=some (.ref Z.a__law_sizes)
 b__law_sizes:Binds K Z.d__law_sizes ["_law_bag_here"] []
 F__law_sizes:Fun K "_law_sizes" "_law_sizes" s__law_sizes Z.a__law_sizes Z.d__law_sizes
 mg__law_low:mg "_law_low"=some (.ref Z.a__law_low)
 b__law_low:Binds K Z.d__law_low ["_law_top","_law_bottom"] []
 F__law_low:Fun K "_law_low" "_law_low" s__law_low Z.a__law_low Z.d__law_low
 mg__law_number:mg "_law_number"=some (.ref Z.a__law_number)
 b__law_number:Binds K Z.d__law_number ["_law_bag_here","_law_wide"] []
 F__law_number:Fun K "_law_number" "_law_number" s__law_number Z.a__law_number Z.d__law_number
 mg__law_row:mg "_law_row"=some (.ref Z.a__law_row)
 b__law_row:Binds K Z.d__law_row ["_law_bag_here","_law_many","_law_wide"] []
 F__law_row:Fun K "_law_row" "_law_row" s__law_row Z.a__law_row Z.d__law_row
 mg__law_move:mg "_law_move"=some (.ref Z.a__law_move)
 b__law_move:Binds K Z.d__law_move ["_law_bag_here","_law_n","_law_way","_law_first","_law_wide"] []
 F__law_move:Fun K "_law_move" "_law_move" s__law_move Z.a__law_move Z.d__law_move
 mg__law_sum:mg "_law_sum"=some (.ref Z.a__law_sum)
 b__law_sum:Binds K Z.d__law_sum ["_law_one","_law_other"] []
 F__law_sum:Fun K "_law_sum" "_law_sum" s__law_sum Z.a__law_sum Z.d__law_sum
 mg__law_plus:mg "_law_plus"=some (.ref Z.a__law_plus)
 b__law_plus:Binds K Z.d__law_plus ["_law_one","_law_other"] []
 F__law_plus:Fun K "_law_plus" "_law_plus" s__law_plus Z.a__law_plus Z.d__law_plus
 mg__law_prod:mg "_law_prod"=some (.ref Z.a__law_prod)
 b__law_prod:Binds K Z.d__law_prod ["_law_one","_law_other"] []
 F__law_prod:Fun K "_law_prod" "_law_prod" s__law_prod Z.a__law_prod Z.d__law_prod
 mg__law_by:mg "_law_by"=some (.ref Z.a__law_by)
 b__law_by:Binds K Z.d__law_by ["_law_factor","_law_row_here"] []
 F__law_by:Fun K "_law_by" "_law_by" s__law_by Z.a__law_by Z.d__law_by
 mg__law_mixed:mg "_law_mixed"=some (.ref Z.a__law_mixed)
 b__law_mixed:Binds K Z.d__law_mixed ["_law_bag_here","_law_move_here","_law_put","_law_look"] []
 F__law_mixed:Fun K "_law_mixed" "_law_mixed" s__law_mixed Z.a__law_mixed Z.d__law_mixed
 mg__law_parts:mg "_law_parts"=some (.ref Z.a__law_parts)
 b__law_parts:Binds K Z.d__law_parts ["_law_bag_here","_law_n","_law_ins","_law_outs","_law_wide"] []
 F__law_parts:Fun K "_law_parts" "_law_parts" s__law_parts Z.a__law_parts Z.d__law_parts
 mg__law_drawn:mg "_law_drawn"=some (.ref Z.a__law_drawn)
 b__law_drawn:Binds K Z.d__law_drawn ["_law_bag_here"] []
 F__law_drawn:Fun K "_law_drawn" "_law_drawn" s__law_drawn Z.a__law_drawn Z.d__law_drawn
 mg__law_is_number:mg "_law_is_number"=some (.ref Z.a__law_is_number)
 b__law_is_number:Binds K Z.d__law_is_number ["_law_thing"] []
 F__law_is_number:Fun K "_law_is_number" "_law_is_number" s__law_is_number Z.a__law_is_number Z.d__law_is_number
 mg__law_is_row:mg "_law_is_row"=some (.ref Z.a__law_is_row)
 b__law_is_row:Binds K Z.d__law_is_row ["_law_thing","_law_many"] []
 F__law_is_row:Fun K "_law_is_row" "_law_is_row" s__law_is_row Z.a__law_is_row Z.d__law_is_row
 mg__law_is_grid:mg "_law_is_grid"=some (.ref Z.a__law_is_grid)
 b__law_is_grid:Binds K Z.d__law_is_grid ["_law_thing","_law_many","_law_wide"] []
 F__law_is_grid:Fun K "_law_is_grid" "_law_is_grid" s__law_is_grid Z.a__law_is_grid Z.d__law_is_grid
 mg__law_fields:mg "_law_fields"=some (.ref Z.a__law_fields)
 b__law_fields:Binds K Z.d__law_fields ["_law_system_here","_law_parts_here"] []
 F__law_fields:Fun K "_law_fields" "_law_fields" s__law_fields Z.a__law_fields Z.d__law_fields
 mg_want_list:mg "want_list"=some (.ref Z.a_want_list)
 b_want_list:Binds K Z.d_want_list ["thing","at","most"] []
 F_want_list:Fun K "want_list" "want_list" s_want_list Z.a_want_list Z.d_want_list
 mg_is_whole:mg "is_whole"=some (.ref Z.a_is_whole)
 b_is_whole:Binds K Z.d_is_whole ["thing"] []
 F_is_whole:Fun K "is_whole" "is_whole" s_is_whole Z.a_is_whole Z.d_is_whole
 mg_common_divisor:mg "common_divisor"=some (.ref Z.a_common_divisor)
 b_common_divisor:Binds K Z.d_common_divisor ["one","other"] []
 F_common_divisor:Fun K "common_divisor" "common_divisor" s_common_divisor Z.a_common_divisor Z.d_common_divisor
 mg_is_number:mg "is_number"=some (.ref Z.a_is_number)
 b_is_number:Binds K Z.d_is_number ["thing"] []
 F_is_number:Fun K "is_number" "is_number" s_is_number Z.a_is_number Z.d_is_number
 mg_is_row:mg "is_row"=some (.ref Z.a_is_row)
 b_is_row:Binds K Z.d_is_row ["thing","many"] []
 F_is_row:Fun K "is_row" "is_row" s_is_row Z.a_is_row Z.d_is_row
 mg_copied_rows:mg "copied_rows"=some (.ref Z.a_copied_rows)
 b_copied_rows:Binds K Z.d_copied_rows ["things","wide"] []
 F_copied_rows:Fun K "copied_rows" "copied_rows" s_copied_rows Z.a_copied_rows Z.d_copied_rows
 b_System___init__:Binds K Z.d_System___init__ ["self","move","put","look"] []
 F_System___init__:Fun K "__init__" "System.__init__" s_System___init__ Z.a_System___init__ Z.d_System___init__
 mg__law_copied:mg "_law_copied"=some (.ref Z.a__law_copied)
 b__law_copied:Binds K Z.d__law_copied ["_law_grid"] []
 F__law_copied:Fun K "_law_copied" "_law_copied" s__law_copied Z.a__law_copied Z.d__law_copied
 mg__law_system:mg "_law_system"=some (.ref Z.a__law_system)
 b__law_system:Binds K Z.d__law_system ["_law_parts_here"] []
 F__law_system:Fun K "_law_system" "_law_system" s__law_system Z.a__law_system Z.d__law_system
 mg_grid_turned:mg "grid_turned"=some (.ref Z.a_grid_turned)
 b_grid_turned:Binds K Z.d_grid_turned ["grid","wide"] []
 F_grid_turned:Fun K "grid_turned" "grid_turned" s_grid_turned Z.a_grid_turned Z.d_grid_turned
 me_System_turned:Meth K Z.a_System "turned" Z.a_System_turned
 b_System_turned:Binds K Z.d_System_turned ["self"] []
 F_System_turned:Fun K "turned" "System.turned" s_System_turned Z.a_System_turned Z.d_System_turned
 mg__law_full:mg "_law_full"=some (.ref Z.a__law_full)
 b__law_full:Binds K Z.d__law_full [] []
 F__law_full:Fun K "_law_full" "_law_full" s__law_full Z.a__law_full Z.d__law_full
 mg__law_bad_number:mg "_law_bad_number"=some (.ref Z.a__law_bad_number)
 b__law_bad_number:Binds K Z.d__law_bad_number ["_law_bag_here"] []
 F__law_bad_number:Fun K "_law_bad_number" "_law_bad_number" s__law_bad_number Z.a__law_bad_number Z.d__law_bad_number
 mg__law_bad_row:mg "_law_bad_row"=some (.ref Z.a__law_bad_row)
 b__law_bad_row:Binds K Z.d__law_bad_row ["_law_bag_here","_law_n"] []
 F__law_bad_row:Fun K "_law_bad_row" "_law_bad_row" s__law_bad_row Z.a__law_bad_row Z.d__law_bad_row
 mg__law_spoilt:mg "_law_spoilt"=some (.ref Z.a__law_spoilt)
 b__law_spoilt:Binds K Z.d__law_spoilt ["_law_bag_here","_law_rows","_law_n","_law_place"] []
 F__law_spoilt:Fun K "_law_spoilt" "_law_spoilt" s__law_spoilt Z.a__law_spoilt Z.d__law_spoilt
 b_Wrong___init__:Binds K Z.d_Wrong___init__ ["self","at"] []
 F_Wrong___init__:Fun K "__init__" "Wrong.__init__" s_Wrong___init__ Z.a_Wrong___init__ Z.d_Wrong___init__
 b_TooMany___init__:Binds K Z.d_TooMany___init__ ["self","most"] []
 F_TooMany___init__:Fun K "__init__" "TooMany.__init__" s_TooMany___init__ Z.a_TooMany___init__ Z.d_TooMany___init__
 b_NoThing___init__:Binds K Z.d_NoThing___init__ ["self","at"] []
 F_NoThing___init__:Fun K "__init__" "NoThing.__init__" s_NoThing___init__ Z.a_NoThing___init__ Z.d_NoThing___init__
 mg__law_refusal:mg "_law_refusal"=some (.ref Z.a__law_refusal)
 b__law_refusal:Binds K Z.d__law_refusal ["_law_move_here","_law_put","_law_look"] []
 F__law_refusal:Fun K "_law_refusal" "_law_refusal" s__law_refusal Z.a__law_refusal Z.d__law_refusal
 F_law:Fun K "law" "law" s_law Z.a_law Z.d_law
 abs:mg "abs"=none
 len:mg "len"=none
 min:mg "min"=none
 range:mg "range"=none
 int:mg "int"=none
 isinstance:mg "isinstance"=none
 tuple:mg "tuple"=none
 bool:mg "bool"=none
 list:mg "list"=none
 all:mg "all"=none
 any:mg "any"=none
 enumerate:mg "enumerate"=none
 ValueError:mg "ValueError"=none
 repr:mg "repr"=none
 mg_MOST_STATES:mg "MOST_STATES"=some (.int 8 Z.t_MOST_STATES)
 mg_MOST_PUTS:mg "MOST_PUTS"=some (.int 4 Z.t_MOST_PUTS)
 mg_MOST_LOOKS:mg "MOST_LOOKS"=some (.int 4 Z.t_MOST_LOOKS)
 mg_System:mg "System"=some (.ref Z.a_System)
 cl_System:Cls K Z.a_System
 na_move:NoAttr K Z.a_System "move"
 na_states:NoAttr K Z.a_System "states"
 na_put:NoAttr K Z.a_System "put"
 na_ins:NoAttr K Z.a_System "ins"
 na_look:NoAttr K Z.a_System "look"
 na_outs:NoAttr K Z.a_System "outs"
 mk_System:Mk K Z.a_System Z.a_System___init__
 mg_SumError:mg "SumError"=some (.ref Z.a_SumError)
 mg_Wrong:mg "Wrong"=some (.ref Z.a_Wrong)
 mg_NoThing:mg "NoThing"=some (.ref Z.a_NoThing)
 mg_TooMany:mg "TooMany"=some (.ref Z.a_TooMany)
 mg_NoNumber:mg "NoNumber"=some (.ref Z.a_NoNumber)
 mg_NoFit:mg "NoFit"=some (.ref Z.a_NoFit)
 mg_NotSteered:mg "NotSteered"=some (.ref Z.a_NotSteered)
 mg_NotSeen:mg "NotSeen"=some (.ref Z.a_NotSeen)
 mg_NoText:mg "NoText"=some (.ref Z.a_NoText)
 mg_NoName:mg "NoName"=some (.ref Z.a_NoName)
 mg_Taken:mg "Taken"=some (.ref Z.a_Taken)
 xi_Wrong:ExI K Z.a_Wrong Z.a_SumError
 in_Wrong:PySem.W.findIn K (.ref Z.a_Wrong) "__init__"=some (some (.ref Z.a_Wrong___init__))
 fn_Wrong:PySem.W.typeIn K (.ref Z.a_Wrong___init__)=some (.type "function")
 kp_Wrong:PySem.W.keepIn K (.ref Z.a_Wrong)=true
 nt_Wrong:PySem.W.findIn K (.ref Z.a_Wrong) "at"=some none
 xi_TooMany:ExI K Z.a_TooMany Z.a_SumError
 in_TooMany:PySem.W.findIn K (.ref Z.a_TooMany) "__init__"=some (some (.ref Z.a_TooMany___init__))
 fn_TooMany:PySem.W.typeIn K (.ref Z.a_TooMany___init__)=some (.type "function")
 kp_TooMany:PySem.W.keepIn K (.ref Z.a_TooMany)=true
 nt_TooMany:PySem.W.findIn K (.ref Z.a_TooMany) "most"=some none
 xi_NoThing:ExI K Z.a_NoThing Z.a_SumError
 in_NoThing:PySem.W.findIn K (.ref Z.a_NoThing) "__init__"=some (some (.ref Z.a_NoThing___init__))
 fn_NoThing:PySem.W.typeIn K (.ref Z.a_NoThing___init__)=some (.type "function")
 kp_NoThing:PySem.W.keepIn K (.ref Z.a_NoThing)=true
 nt_NoThing:PySem.W.findIn K (.ref Z.a_NoThing) "at"=some none
 ex_SumError:PySem.W.excIn K Z.a_SumError vErr "ValueError.__new__"=true
 xm_Wrong_SumError:PySem.W.exmOne K (.ref Z.a_Wrong) (.ref Z.a_SumError)=some true
 xm_NoThing_SumError:PySem.W.exmOne K (.ref Z.a_NoThing) (.ref Z.a_SumError)=some true
 xm_TooMany_SumError:PySem.W.exmOne K (.ref Z.a_TooMany) (.ref Z.a_SumError)=some true
 ki_Wrong_Wrong:PySem.W.kitOne K (.ref Z.a_Wrong) (.ref Z.a_Wrong)=some true
 ki_Wrong_NoThing:PySem.W.kitOne K (.ref Z.a_Wrong) (.ref Z.a_NoThing)=some false
 ki_Wrong_TooMany:PySem.W.kitOne K (.ref Z.a_Wrong) (.ref Z.a_TooMany)=some false
 ki_Wrong_ValueError:PySem.W.kitOne K (.ref Z.a_Wrong) (.type "ValueError")=some true
 ki_NoThing_Wrong:PySem.W.kitOne K (.ref Z.a_NoThing) (.ref Z.a_Wrong)=some false
 ki_NoThing_NoThing:PySem.W.kitOne K (.ref Z.a_NoThing) (.ref Z.a_NoThing)=some true
 ki_NoThing_TooMany:PySem.W.kitOne K (.ref Z.a_NoThing) (.ref Z.a_TooMany)=some false
 ki_NoThing_ValueError:PySem.W.kitOne K (.ref Z.a_NoThing) (.type "ValueError")=some true
 ki_TooMany_Wrong:PySem.W.kitOne K (.ref Z.a_TooMany) (.ref Z.a_Wrong)=some false
 ki_TooMany_NoThing:PySem.W.kitOne K (.ref Z.a_TooMany) (.ref Z.a_NoThing)=some false
 ki_TooMany_TooMany:PySem.W.kitOne K (.ref Z.a_TooMany) (.ref Z.a_TooMany)=some true
 ki_TooMany_ValueError:PySem.W.kitOne K (.ref Z.a_TooMany) (.type "ValueError")=some true
 ka_Wrong_0:PySem.W.kitAny K (.ref Z.a_Wrong) [.ref Z.a_NoFit,.ref Z.a_NoName,.ref Z.a_NoNumber,.ref Z.a_NotSeen,.ref Z.a_NotSteered,.ref Z.a_NoText,.ref Z.a_Taken]=some false
 ka_NoThing_0:PySem.W.kitAny K (.ref Z.a_NoThing) [.ref Z.a_NoFit,.ref Z.a_NoName,.ref Z.a_NoNumber,.ref Z.a_NotSeen,.ref Z.a_NotSteered,.ref Z.a_NoText,.ref Z.a_Taken]=some false
 ka_TooMany_0:PySem.W.kitAny K (.ref Z.a_TooMany) [.ref Z.a_NoFit,.ref Z.a_NoName,.ref Z.a_NoNumber,.ref Z.a_NotSeen,.ref Z.a_NotSteered,.ref Z.a_NoText,.ref Z.a_Taken]=some false
 xc_Wrong:ExC K Z.a_Wrong
 xc_NoThing:ExC K Z.a_NoThing
 xc_TooMany:ExC K Z.a_TooMany
section
variable {P:Program} {w:World} {K:PySem.W.Frag} {mg:Str->Option Value} {base:Heap} {Z:Ads}
theorem sc__law_bag:FnScope ["_law_script"] ["_law_script"] (defScope s__law_bag):=⟨rfl,rfl,rfl,by decide +kernel,rfl,by decide +kernel,by decide +kernel⟩
theorem ok__law_bag (T:Txt K mg Z):FnOk P w K mg base CX0 1 Z.a__law_bag Z.d__law_bag ["_law_script"] (sp_bag K):=by
 refine T.F__law_bag.ok sc__law_bag (fun vs H Q E h=>?_) (fun cdv A outer s H vs Q E hr h=>?_)
 ·obtain ⟨a,ns,rfl,_⟩:=h
  rfl
 ·obtain ⟨a,ns,rfl,hS,hlen,k⟩:=h
  refine ⟨_,(pss_one (ps_ret (pe_lst (pa_cons pe_int (pa_cons pe_int (pa_cons pe_int (pa_cons (pe_comp ["_law_cell"] [] [] (pi_list (pe_slice sl_list (pv 0) po_none (po_some pe_int))) (fun _=>(pg_name (i:=0) (show List.Nodup (α:=PySem.Str) ["_law_cell"] by decide +kernel) rfl (Or.inl rfl) (Or.inl rfl))) (fun _=>pf_nil) (fun _=>(pe_callB call_abs (by rfl) T.abs PyProof.Rows.boot_abs (pa_cons (pv 0) pa_nil)))) pa_nil))))))),?_⟩
  refine rd_start (σ:=[some (.ref a)]) rfl ?_
  walk_at "w"
  refine ⟨a,_,rfl,hS,fun l hl=>?_⟩
  have hcl:(cutV (ns.map V.int) none (some 63)).length<=63:=Nat.le_trans (cutV_length _ _ _) (by simpa using hlen)
  refine ⟨l,rfl,⟨_,SqL.of upd_same⟩,?_⟩
  refine comp_list (K:=K) (a:=l) (xs:=cutV (ns.map V.int) none (some 63)) (fun i ys H'=>H'=upd H l (.lst (cutV (ns.map V.int) none (some 63)))∧∃cs:List Int,ys=cs.map V.int∧∀x∈cs,0<=x) (Nat.le_trans hcl (by decide)) ⟨rfl,[],rfl,fun _ z=>nomatch z⟩ (fun i ys H' _ ⟨e,_⟩=>by subst e;exact SqL.of upd_same) ?_ ?_
  ·rintro i x ys H' hx hi ⟨rfl,cs,rfl,hcs⟩
   obtain ⟨z,rfl⟩:∃z,x=V.int z:=by
    have hm:x∈ns.map V.int:=List.mem_of_mem_drop (List.mem_of_mem_take (List.mem_of_getElem? hx))
    obtain ⟨z,_,e⟩:=List.mem_map.mp hm
    exact ⟨z,e.symm⟩
   walk_at "w"
   refine ⟨rfl,cs++[if z < 0 then -z else z],by simp,fun x hx=>?_⟩
   rcases List.mem_append.mp hx with hx | hx
   ·exact hcs x hx
   ·have e:x=if z < 0 then -z else z:=by simpa using hx
    subst e
    split <;> lia
  ·rintro ys H' hy ⟨rfl,cs,rfl,hcs⟩ p hp
   walk_at "w"
   refine ⟨by show 4<=sizeLine;decide,fun b hb=>?_⟩
   have n1:b≠p:=fun z=>by rw[z,upd_same] at hb;cases hb
   have hb1:(upd H l (.lst (cutV (ns.map V.int) none (some 63)))) b=none:=by rw[upd_ne n1] at hb;exact hb
   have s1:Same H (upd H l (.lst (cutV (ns.map V.int) none (some 63)))):=Same.new hl
   refine k b _ (s1.free hb1) ⟨p,0,1234567891,0,cs,upd_same,by rw[upd_ne n1.symm];exact upd_same,by decide,by decide,by lia,hcs⟩ ((s1.trans (Same.new hp)).trans (Same.new hb))
theorem sc__law_take:FnScope ["_law_bag_here","_law_many","_law_more","_law_cell","_law_value","_law_first","_law_second"] ["_law_bag_here","_law_many"] (defScope s__law_take):=⟨rfl,rfl,rfl,by decide +kernel,rfl,by decide +kernel,by decide +kernel⟩
theorem ok__law_take (T:Txt K mg Z):FnOk P w K mg base CX0 1 Z.a__law_take Z.d__law_take ["_law_bag_here","_law_many"] sp_take:=by
 refine T.F__law_take.ok sc__law_take (fun vs H Q E h=>?_) (fun cdv A outer s H vs Q E hr h=>?_)
 ·obtain ⟨p,n,rfl,_⟩:=h
  rfl
 ·obtain ⟨p,n,rfl,⟨q,a,b,c,cs,hp,hq,ha,hc,hcl,hcs⟩,hn,hn2,k⟩:=h
  have nqp:q≠p:=bag_apart hp hq
  refine ⟨_,(pss_consM (ps_if (pt_cmpR op_eq (pe_ix ix_list (pv 0) pe_int (by intro _ _;rfl)) pe_int (nomark _)) (pss_cons (ps_set (i:=2) sc__law_take.nd rfl (Or.inl rfl) pe_int)
   (pss_consM (ps_if (pt_cmpR op_lt (pe_ix ix_list (pv 0) pe_int (by intro _ _;rfl)) (pe_callB call_len_seq (by rfl) T.len PySem.boot_len (pa_cons (pe_ix ix_list (pv 0) pe_int (by intro _ _;rfl)) pa_nil)) (nomark _)) (pss_cons (ps_set (i:=3) sc__law_take.nd rfl (Or.inl rfl) (pe_ix ix_list (pe_ix ix_list (pv 0) pe_int (by intro _ _;rfl)) (pe_ix ix_list (pv 0) pe_int (by intro _ _;rfl)) (by intro _ _;rfl)))
   (pss_cons (ps_augS (pv 0) pe_int get_list pe_int ip_add set_list)
   (pss_cons (ps_if (pt_cmpR op_ge (pv 3) pe_int (nomark _)) (pss_one (ps_asg (pv 3) (pg_sub (pv 0) pe_int set_list))) pss_nil)
   (pss_one (ps_set (i:=2) sc__law_take.nd rfl (Or.inl rfl) (pe_op op_add (pe_op op_mod (pv 3) pe_int) pe_int)))))) pss_nil)
   (pss_one (ps_asg (pe_op op_mod (pe_op op_add (pe_op op_mulS (pe_ix ix_list (pv 0) pe_int (by intro _ _;rfl)) pe_int) (pv 2)) pe_int) (pg_sub (pv 0) pe_int set_list))))) pss_nil)
   (pss_cons (ps_if (pt_cmpR op_gt (pe_ix ix_list (pv 0) pe_int (by intro _ _;rfl)) pe_int (nomark _)) (pss_cons (ps_set (i:=4) sc__law_take.nd rfl (Or.inl rfl) (pe_op op_mod (pe_ix ix_list (pv 0) pe_int (by intro _ _;rfl)) (pv 1)))
   (pss_cons (ps_asg (pe_op op_fdivS (pe_ix ix_list (pv 0) pe_int (by intro _ _;rfl)) (pv 1)) (pg_sub (pv 0) pe_int set_list))
   (pss_one (ps_ret (pv 4))))) pss_nil)
   (pss_cons (ps_set (i:=5) sc__law_take.nd rfl (Or.inl rfl) (pe_op op_mod (pe_op op_mulS (pe_ix ix_list (pv 0) pe_int (by intro _ _;rfl)) pe_int) pe_int))
   (pss_cons (ps_set (i:=6) sc__law_take.nd rfl (Or.inl rfl) (pe_op op_mod (pe_op op_mulS (pv 5) pe_int) pe_int))
   (pss_cons (ps_if (pt_cmpR op_gt (pv 1) pe_int (nomark _)) (pss_one (ps_ret (pe_op op_mod (pe_op op_add (pe_op op_mulS (pv 6) pe_int) (pv 5)) (pv 1)))) pss_nil)
   (pss_one (ps_ret (pe_op op_mod (pe_op op_fdivS (pv 6) pe_int) (pv 1))))))))),?_⟩
  refine rd_start (σ:=[some (.ref p),some (.int n),none,none,none,none,none]) rfl ?_
  refine ⟨fun σ' H'=>∃(x y:Option V) (a' b' c':Int),σ'=[some (.ref p),some (.int n),x,y,none,none,none]∧H' p=some (.lst [.int a',.int b',.int c',.ref q])∧0<=a'∧0<=c'∧c'<=cs.length∧Upto p H H',?_,?_⟩
  ·walk_at "w"
   refine ite2 (fun h0=>?_) (fun h0=>?_)
   ·walk_at "w"
    refine ⟨fun σ' H'=>∃(m:Int) (y:Option V) (a' c':Int),σ'=[some (.ref p),some (.int n),some (.int m),y,none,none,none]∧H' p=some (.lst [.int a',.int b,.int c',.ref q])∧0<=a'∧0<=c'∧c'<=cs.length∧Upto p H H',?_,?_⟩
    ·walk_at "w"
     refine ⟨_,_,rfl,.inl (SqL.of hq),?_⟩
     walk_at "w"
     refine ite2 (fun h1=>?_) (fun h1=>?_)
     ·have h1':c < cs.length:=by simpa using of_decide_eq_true h1
      obtain ⟨z,hz⟩:∃z,cs[c.toNat]?=some z:=⟨_,List.getElem?_eq_getElem (by lia)⟩
      have hz0:0<=z:=hcs z (List.mem_of_getElem? hz)
      walk_at "w"
      refine rd_ixL (SqL.of hq) (v:=.int z) ?_ ?_
      ·have:=atI_nat (xs:=cs.map V.int) (j:=c.toNat) (v:=.int z) (by rw[List.getElem?_map,hz];rfl)
       rwa [Int.toNat_of_nonneg hc] at this
      walk_at "w"
      refine ite2 (fun h2=>?_) (fun h2=>?_)
      ·walk_at "w"
       exact ⟨_,_,z,c+1,rfl,upd_same,hz0,by lia,by lia,(Upto.set hp).trans (Upto.set upd_same)⟩
      ·walk_at "w"
       exact ⟨_,_,a,c+1,rfl,upd_same,ha,by lia,by lia,Upto.set hp⟩
     ·walk_at "w"
      exact ⟨_,_,a,c,rfl,hp,ha,hc,hcl,Upto.refl _⟩
    ·rintro σ' H' ⟨m,y,a',c',rfl,hp',ha',hc',hcl',u'⟩
     walk_at "w"
     exact ⟨_,_,a',_,c',rfl,upd_same,ha',hc',hcl',u'.trans (Upto.set hp')⟩
   ·walk_at "w"
    exact ⟨_,_,a,b,c,rfl,hp,ha,hc,hcl,Upto.refl _⟩
  ·rintro σ' H' ⟨x,y,a',b',c',rfl,hp',ha',hc',hcl',u'⟩
   have hq':H' q=some (.lst (cs.map V.int)):=u'.1 q _ hq nqp
   have sn:Sz 8999 n:=by
    show n.natAbs < 2^8999
    exact Nat.lt_of_lt_of_le (show n.natAbs < 2^64 by lia) (Nat.pow_le_pow_right (by decide) (by decide))
   walk_at "w"
   refine ite2 (fun h0=>?_) (fun h0=>?_)
   ·walk_at "w"
    refine rd_I (show (0:Int) < n from hn) ?_
    walk_at "w"
    refine rd_I (show CDivS _ _ from ⟨by lia,sn⟩) ?_
    walk_at "w"
    refine k _ _ (Int.emod_nonneg _ (by lia)) (Int.emod_lt_of_pos _ hn) ⟨q,_,b',c',cs,upd_same,by rw[upd_ne nqp];exact hq',?_,hc',hcl',hcs⟩ (u'.trans (Upto.set hp'))
    rw[Int.fdiv_eq_ediv_of_nonneg _ (by lia)]
    exact Int.ediv_nonneg ha' (by lia)
   ·walk_at "w"
    refine ite2 (fun h1=>?_) (fun h1=>?_)
    ·walk_at "w"
     refine rd_I (show (0:Int) < n from hn) ?_
     exact k _ _ (Int.emod_nonneg _ (by lia)) (Int.emod_lt_of_pos _ hn) ⟨q,a',b',c',cs,hp',hq',ha',hc',hcl',hcs⟩ u'
    ·walk_at "w"
     refine rd_I (show CDivS _ _ from ⟨by decide,by show (3:Nat) < 2^8999;exact Nat.lt_of_lt_of_le (show 3 < 2^2 by decide) (Nat.pow_le_pow_right (by decide) (by decide))⟩) ?_
     walk_at "w"
     refine rd_I (show (0:Int) < n from hn) ?_
     exact k _ _ (Int.emod_nonneg _ (by lia)) (Int.emod_lt_of_pos _ hn) ⟨q,a',b',c',cs,hp',hq',ha',hc',hcl',hcs⟩ u'
theorem bd__law_sizes:∃x1 x2 x3 x4 x5 x6 x7 x8 x9 x10 x11 x12 x13 x14 x15 x16:Expr,x1=(PySem.Expr.Constant (PySem.Const.int 0) 0 ⟨196,16,196,17⟩)∧x2=(PySem.Expr.Constant (PySem.Const.int 1) 0 ⟨196,19,196,20⟩)∧x3=(PySem.Expr.Constant (PySem.Const.int 1) 0 ⟨196,22,196,23⟩)∧x4=(PySem.Expr.Constant (PySem.Const.int 1) 0 ⟨196,25,196,26⟩)∧x5=(PySem.Expr.Constant (PySem.Const.int 2) 0 ⟨196,28,196,29⟩)∧x6=(PySem.Expr.Constant (PySem.Const.int 2) 0 ⟨196,31,196,32⟩)∧x7=(PySem.Expr.Constant (PySem.Const.int 3) 0 ⟨196,34,196,35⟩)∧x8=(PySem.Expr.Constant (PySem.Const.int 4) 0 ⟨196,37,196,38⟩)∧x9=(PySem.Expr.Constant (PySem.Const.int 0) 0 ⟨197,17,197,18⟩)∧x10=(PySem.Expr.Constant (PySem.Const.int 1) 0 ⟨197,20,197,21⟩)∧x11=(PySem.Expr.Constant (PySem.Const.int 1) 0 ⟨197,23,197,24⟩)∧x12=(PySem.Expr.Constant (PySem.Const.int 1) 0 ⟨197,26,197,27⟩)∧x13=(PySem.Expr.Constant (PySem.Const.int 2) 0 ⟨197,29,197,30⟩)∧x14=(PySem.Expr.Constant (PySem.Const.int 2) 0 ⟨197,32,197,33⟩)∧x15=(PySem.Expr.Constant (PySem.Const.int 3) 0 ⟨197,35,197,36⟩)∧x16=(PySem.Expr.Constant (PySem.Const.int 4) 0 ⟨197,38,197,39⟩)∧defBody s__law_sizes=[ (PySem.Stmt.Assign (targets:=[(PySem.Expr.Name "_law_n" ⟨193,4,193,10⟩)]) (value:=(PySem.Expr.Call (func:=(PySem.Expr.Name "_law_take" ⟨193,13,193,22⟩)) (args:=[ (PySem.Expr.Name "_law_bag_here" ⟨193,23,193,36⟩),(PySem.Expr.Constant (PySem.Const.int 5) 0 ⟨193,38,193,39⟩)]) (keywords:=[]) (pos:=⟨193,13,193,40⟩))) (pos:=⟨193,4,193,40⟩)),(PySem.Stmt.If (test:=(PySem.Expr.Compare (left:=(PySem.Expr.Call (func:=(PySem.Expr.Name "_law_take" ⟨194,7,194,16⟩)) (args:=[ (PySem.Expr.Name "_law_bag_here" ⟨194,17,194,30⟩),(PySem.Expr.Constant (PySem.Const.int 8) 0 ⟨194,32,194,33⟩)]) (keywords:=[]) (pos:=⟨194,7,194,34⟩))) (ops:=[PySem.CmpOp.Eq]) (comparators:=[(PySem.Expr.Constant (PySem.Const.int 7) 0 ⟨194,38,194,39⟩)]) (pos:=⟨194,7,194,39⟩))) (body:=[ (PySem.Stmt.Assign (targets:=[(PySem.Expr.Name "_law_n" ⟨195,8,195,14⟩)]) (value:=(PySem.Expr.Constant (PySem.Const.int 5) 0 ⟨195,17,195,18⟩)) (pos:=⟨195,8,195,18⟩))]) (orelse:=[]) (pos:=⟨194,4,195,18⟩)),(PySem.Stmt.Assign (targets:=[(PySem.Expr.Name "_law_ins" ⟨196,4,196,12⟩)]) (value:=(PySem.Expr.Subscript (value:=(PySem.Expr.List (elts:=[x1,x2,x3,x4,x5,x6,x7,x8]) (pos:=⟨196,15,196,39⟩))) (slice:=(PySem.Expr.Call (func:=(PySem.Expr.Name "_law_take" ⟨196,40,196,49⟩)) (args:=[ (PySem.Expr.Name "_law_bag_here" ⟨196,50,196,63⟩),(PySem.Expr.Constant (PySem.Const.int 8) 0 ⟨196,65,196,66⟩)]) (keywords:=[]) (pos:=⟨196,40,196,67⟩))) (pos:=⟨196,15,196,68⟩))) (pos:=⟨196,4,196,68⟩)),(PySem.Stmt.Assign (targets:=[(PySem.Expr.Name "_law_outs" ⟨197,4,197,13⟩)]) (value:=(PySem.Expr.Subscript (value:=(PySem.Expr.List (elts:=[x9,x10,x11,x12,x13,x14,x15,x16]) (pos:=⟨197,16,197,40⟩))) (slice:=(PySem.Expr.Call (func:=(PySem.Expr.Name "_law_take" ⟨197,41,197,50⟩)) (args:=[ (PySem.Expr.Name "_law_bag_here" ⟨197,51,197,64⟩),(PySem.Expr.Constant (PySem.Const.int 8) 0 ⟨197,66,197,67⟩)]) (keywords:=[]) (pos:=⟨197,41,197,68⟩))) (pos:=⟨197,16,197,69⟩))) (pos:=⟨197,4,197,69⟩)),(PySem.Stmt.If (test:=(PySem.Expr.Compare (left:=(PySem.Expr.Name "_law_n" ⟨198,7,198,13⟩)) (ops:=[PySem.CmpOp.Eq]) (comparators:=[(PySem.Expr.Constant (PySem.Const.int 5) 0 ⟨198,17,198,18⟩)]) (pos:=⟨198,7,198,18⟩))) (body:=[ (PySem.Stmt.Assign (targets:=[ (PySem.Expr.Tuple (elts:=[(PySem.Expr.Name "_law_ins" ⟨199,8,199,16⟩),(PySem.Expr.Name "_law_outs" ⟨199,18,199,27⟩)]) (k:=0) (pos:=⟨199,8,199,27⟩))]) (value:=(PySem.Expr.Tuple (elts:=[ (PySem.Expr.Call (func:=(PySem.Expr.Name "min" ⟨199,31,199,34⟩)) (args:=[ (PySem.Expr.Name "_law_ins" ⟨199,35,199,43⟩),(PySem.Expr.Constant (PySem.Const.int 2) 0 ⟨199,45,199,46⟩)]) (keywords:=[]) (pos:=⟨199,31,199,47⟩)),(PySem.Expr.Call (func:=(PySem.Expr.Name "min" ⟨199,49,199,52⟩)) (args:=[ (PySem.Expr.Name "_law_outs" ⟨199,53,199,62⟩),(PySem.Expr.Constant (PySem.Const.int 2) 0 ⟨199,64,199,65⟩)]) (keywords:=[]) (pos:=⟨199,49,199,66⟩))]) (k:=0) (pos:=⟨199,30,199,67⟩))) (pos:=⟨199,8,199,67⟩))]) (orelse:=[]) (pos:=⟨198,4,199,67⟩)),(PySem.Stmt.Assign (targets:=[(PySem.Expr.Name "_law_wide" ⟨200,4,200,13⟩)]) (value:=(PySem.Expr.Subscript (value:=(PySem.Expr.List (elts:=[ (PySem.Expr.Constant (PySem.Const.int 4) 0 ⟨200,17,200,18⟩),(PySem.Expr.Constant (PySem.Const.int 4) 0 ⟨200,20,200,21⟩),(PySem.Expr.Constant (PySem.Const.int 9) 0 ⟨200,23,200,24⟩),(PySem.Expr.Constant (PySem.Const.int 1000000) 0 ⟨200,26,200,33⟩)]) (pos:=⟨200,16,200,34⟩))) (slice:=(PySem.Expr.Call (func:=(PySem.Expr.Name "_law_take" ⟨200,35,200,44⟩)) (args:=[ (PySem.Expr.Name "_law_bag_here" ⟨200,45,200,58⟩),(PySem.Expr.Constant (PySem.Const.int 4) 0 ⟨200,60,200,61⟩)]) (keywords:=[]) (pos:=⟨200,35,200,62⟩))) (pos:=⟨200,16,200,63⟩))) (pos:=⟨200,4,200,63⟩)),(PySem.Stmt.If (test:=(PySem.Expr.Compare (left:=(PySem.Expr.Name "_law_wide" ⟨201,7,201,16⟩)) (ops:=[PySem.CmpOp.Gt]) (comparators:=[(PySem.Expr.Constant (PySem.Const.int 9) 0 ⟨201,19,201,20⟩)]) (pos:=⟨201,7,201,20⟩))) (body:=[ (PySem.Stmt.Assign (targets:=[(PySem.Expr.Name "_law_n" ⟨202,8,202,14⟩)]) (value:=(PySem.Expr.Call (func:=(PySem.Expr.Name "min" ⟨202,17,202,20⟩)) (args:=[ (PySem.Expr.Name "_law_n" ⟨202,21,202,27⟩),(PySem.Expr.Constant (PySem.Const.int 2) 0 ⟨202,29,202,30⟩)]) (keywords:=[]) (pos:=⟨202,17,202,31⟩))) (pos:=⟨202,8,202,31⟩))]) (orelse:=[]) (pos:=⟨201,4,202,31⟩)),(PySem.Stmt.Return (value:=(some (PySem.Expr.Tuple (elts:=[ (PySem.Expr.Name "_law_n" ⟨203,12,203,18⟩),(PySem.Expr.Name "_law_ins" ⟨203,20,203,28⟩),(PySem.Expr.Name "_law_outs" ⟨203,30,203,39⟩),(PySem.Expr.Name "_law_wide" ⟨203,41,203,50⟩)]) (k:=0) (pos:=⟨203,11,203,51⟩)))) (pos:=⟨203,4,203,51⟩))]:=⟨_,_,_,_,_,_,_,_,_,_,_,_,_,_,_,_,rfl,rfl,rfl,rfl,rfl,rfl,rfl,rfl,rfl,rfl,rfl,rfl,rfl,rfl,rfl,rfl,by with_unfolding_all rfl⟩
theorem sc__law_sizes:FnScope ["_law_bag_here","_law_n","_law_ins","_law_outs","_law_wide"] ["_law_bag_here"] (defScope s__law_sizes):=⟨rfl,rfl,rfl,by decide +kernel,rfl,by decide +kernel,by decide +kernel⟩
theorem ok__law_sizes (T:Txt K mg Z):FnOk P w K mg base CX0 2 Z.a__law_sizes Z.d__law_sizes ["_law_bag_here"] sp_sizesS:=by
 have G__law_take:=ok__law_take (P:=P) (w:=w) (base:=base) T
 refine T.F__law_sizes.ok sc__law_sizes (fun vs H Q E h=>?_) (fun cdv A outer s H vs Q E hr h=>?_)
 ·obtain ⟨b,rfl,_⟩:=h
  rfl
 ·obtain ⟨b,rfl,hB,k⟩:=h
  obtain ⟨x1,x2,x3,x4,x5,x6,x7,x8,x9,x10,x11,x12,x13,x14,x15,x16,hx1,hx2,hx3,hx4,hx5,hx6,hx7,hx8,hx9,hx10,hx11,hx12,hx13,hx14,hx15,hx16,hbd⟩:=bd__law_sizes
  rw[hbd]
  refine ⟨_,(pss_cons (ps_set (i:=1) sc__law_sizes.nd rfl (Or.inl rfl) (pe_call G__law_take (hr.mono (by decide)) rfl T.mg__law_take T.F__law_take.kp T.b__law_take .nil pass0 (pa_cons (pv 0) (pa_cons pe_int pa_nil))))
   (pss_consM (ps_if (pt_cmpR op_eq (pe_call G__law_take (hr.mono (by decide)) rfl T.mg__law_take T.F__law_take.kp T.b__law_take .nil pass0 (pa_cons (pv 0) (pa_cons pe_int pa_nil))) pe_int (nomark _)) (pss_one (ps_set (i:=1) sc__law_sizes.nd rfl (Or.inl rfl) pe_int)) pss_nil)
   (pss_cons (ps_set (i:=2) sc__law_sizes.nd rfl (Or.inl rfl) (pe_ix ix_list (pe_lst (pa_consE hx1 pe_int (pa_consE hx2 pe_int (pa_consE hx3 pe_int (pa_consE hx4 pe_int (pa_consE hx5 pe_int (pa_consE hx6 pe_int (pa_consE hx7 pe_int (pa_consE hx8 pe_int pa_nil))))))))) (pe_call G__law_take (hr.mono (by decide)) rfl T.mg__law_take T.F__law_take.kp T.b__law_take .nil pass0 (pa_cons (pv 0) (pa_cons pe_int pa_nil))) (by intro _ _;rfl)))
   (pss_cons (ps_set (i:=3) sc__law_sizes.nd rfl (Or.inl rfl) (pe_ix ix_list (pe_lst (pa_consE hx9 pe_int (pa_consE hx10 pe_int (pa_consE hx11 pe_int (pa_consE hx12 pe_int (pa_consE hx13 pe_int (pa_consE hx14 pe_int (pa_consE hx15 pe_int (pa_consE hx16 pe_int pa_nil))))))))) (pe_call G__law_take (hr.mono (by decide)) rfl T.mg__law_take T.F__law_take.kp T.b__law_take .nil pass0 (pa_cons (pv 0) (pa_cons pe_int pa_nil))) (by intro _ _;rfl)))
   (pss_consM (ps_if (pt_cmpR op_eq (pv 1) pe_int (nomark _)) (pss_one (ps_par (i:=2) (j:=3) rfl sc__law_sizes.nd rfl rfl (by decide) rfl rfl (pa_cons (pe_callB (call_min2 rfl) (by rfl) T.min PyProof.Rows.boot_min (pa_cons (pv 2) (pa_cons pe_int pa_nil))) (pa_cons (pe_callB (call_min2 rfl) (by rfl) T.min PyProof.Rows.boot_min (pa_cons (pv 3) (pa_cons pe_int pa_nil))) pa_nil)) rfl)) pss_nil)
   (pss_cons (ps_set (i:=4) sc__law_sizes.nd rfl (Or.inl rfl) (pe_ix ix_list (pe_lst (pa_cons pe_int (pa_cons pe_int (pa_cons pe_int (pa_cons pe_int pa_nil))))) (pe_call G__law_take (hr.mono (by decide)) rfl T.mg__law_take T.F__law_take.kp T.b__law_take .nil pass0 (pa_cons (pv 0) (pa_cons pe_int pa_nil))) (by intro _ _;rfl)))
   (pss_consM (ps_if (pt_cmpR op_gt (pv 4) pe_int (nomark _)) (pss_one (ps_set (i:=1) sc__law_sizes.nd rfl (Or.inl rfl) (pe_callB (call_min2 rfl) (by rfl) T.min PyProof.Rows.boot_min (pa_cons (pv 1) (pa_cons pe_int pa_nil))))) pss_nil)
   (pss_one (ps_ret (pe_tup (pa_cons (pv 1) (pa_cons (pv 2) (pa_cons (pv 3) (pa_cons (pv 4) pa_nil)))))))))))))),?_⟩
  refine rd_start (σ:=[some (.ref b),none,none,none,none]) rfl ?_
  walk_at "w"
  refine ⟨b,5,rfl,hB,by decide,by decide,fun n H1 n0 n1 B1 u1=>?_⟩
  obtain ⟨n,rfl⟩:=Int.eq_ofNat_of_zero_le n0
  walk_at "w"
  refine ⟨fun σ' H'=>(∃n:Nat,σ'=[some (.ref b),some (.int n),none,none,none]∧n<=5)∧Bag H' b∧Upto b H H',?_,?_⟩
  ·walk_at "w"
   refine ⟨b,8,rfl,B1,by decide,by decide,fun v H2 v0 v1 B2 u2=>?_⟩
   walk_at "w"
   refine ite2 (fun _=>?_) (fun _=>?_)
   ·walk_at "w"
    exact ⟨⟨5,rfl,by decide⟩,B2,u1.trans u2⟩
   ·walk_at "w"
    exact ⟨⟨n,rfl,by lia⟩,B2,u1.trans u2⟩
  clear n0 n1 u1 B1
  rintro σ' H1 ⟨⟨n,rfl,n5⟩,B1,u1⟩
  walk_at "w"
  refine rd_newL fun l0 H2 s2 n2 g2=>?_
  walk_at "w"
  refine ⟨b,8,rfl,B1.same s2,by decide,by decide,fun v H3 v0 v1 B3 u3=>?_⟩
  have g3:=u3.other (fun z=>B1.at (by rw[← z];exact n2)) g2
  obtain ⟨x,ex,mx,_⟩:=atI_some (xs:=[V.int 0,V.int 1,V.int 1,V.int 1,V.int 2,V.int 2,V.int 3,V.int 4]) v0 (by simpa using v1)
  obtain ⟨i,rfl,hi⟩:∃z:Nat,x=.int z∧z<=4:=by
   simp only[List.mem_cons,List.not_mem_nil,or_false] at mx
   rcases mx with rfl | rfl | rfl | rfl | rfl | rfl | rfl | rfl
   ·exact ⟨0,rfl,by decide⟩
   ·exact ⟨1,rfl,by decide⟩
   ·exact ⟨1,rfl,by decide⟩
   ·exact ⟨1,rfl,by decide⟩
   ·exact ⟨2,rfl,by decide⟩
   ·exact ⟨2,rfl,by decide⟩
   ·exact ⟨3,rfl,by decide⟩
   ·exact ⟨4,rfl,by decide⟩
  walk_at "w"
  refine rd_ixL (SqL.of g3) ex ?_
  clear ex mx g3 g2
  walk_at "w"
  refine rd_newL fun l1 H4 s4 n4 g4=>?_
  walk_at "w"
  refine ⟨b,8,rfl,B3.same s4,by decide,by decide,fun t H5 t0 t1 B5 u5=>?_⟩
  have g5:=u5.other (fun z=>B3.at (by rw[← z];exact n4)) g4
  obtain ⟨x,ex,mx,_⟩:=atI_some (xs:=[V.int 0,V.int 1,V.int 1,V.int 1,V.int 2,V.int 2,V.int 3,V.int 4]) t0 (by simpa using t1)
  obtain ⟨o,rfl,ho⟩:∃z:Nat,x=.int z∧z<=4:=by
   simp only[List.mem_cons,List.not_mem_nil,or_false] at mx
   rcases mx with rfl | rfl | rfl | rfl | rfl | rfl | rfl | rfl
   ·exact ⟨0,rfl,by decide⟩
   ·exact ⟨1,rfl,by decide⟩
   ·exact ⟨1,rfl,by decide⟩
   ·exact ⟨1,rfl,by decide⟩
   ·exact ⟨2,rfl,by decide⟩
   ·exact ⟨2,rfl,by decide⟩
   ·exact ⟨3,rfl,by decide⟩
   ·exact ⟨4,rfl,by decide⟩
  walk_at "w"
  refine rd_ixL (SqL.of g5) ex ?_
  clear ex mx g5 g4
  have u15:=(((u1.same s2).trans u3).same s4).trans u5
  walk_at "w"
  refine ⟨fun σ' H'=>(∃i o:Nat,σ'=[some (.ref b),some (.int n),some (.int i),some (.int o),none]∧i<=4∧o<=4∧(n=5->i<=2∧o<=2))∧Bag H' b∧Upto b H H',?_,?_⟩
  ·walk_at "w"
   refine ite2 (fun h0=>?_) (fun h0=>?_)
   ·walk_at "w"
    refine ⟨⟨min i 2,min o 2,?_,by lia,by lia,fun _=>⟨by lia,by lia⟩⟩,B5,u15⟩
    have e1:(if (2:Int) < (i:Int) then (2:Int) else (i:Int))=((min i 2:Nat):Int):=by split <;> lia
    have e2:(if (2:Int) < (o:Int) then (2:Int) else (o:Int))=((min o 2:Nat):Int):=by split <;> lia
    rw[← e1,← e2]
    rfl
   ·walk_at "w"
    exact ⟨⟨i,o,rfl,hi,ho,fun z=>absurd (decide_eq_true (show (n:Int)=5 by lia)) h0⟩,B5,u15⟩
  clear hi ho u15 B5 u5 u3 u1
  rintro σ' H5 ⟨⟨i,o,rfl,hi,ho,h5⟩,B5,u5⟩
  walk_at "w"
  refine rd_newL fun l2 H6 s6 n6 g6=>?_
  walk_at "w"
  refine ⟨b,4,rfl,B5.same s6,by decide,by decide,fun v H7 v0 v1 B7 u7=>?_⟩
  have g7:=u7.other (fun z=>B5.at (by rw[← z];exact n6)) g6
  obtain ⟨x,ex,mx,_⟩:=atI_some (xs:=[V.int 4,V.int 4,V.int 9,V.int 1000000]) v0 (by simpa using v1)
  obtain ⟨w,rfl,hw⟩:∃w:Nat,x=.int w∧(w=4∨w=9∨w=1000000):=by
   simp only[List.mem_cons,List.not_mem_nil,or_false] at mx
   rcases mx with rfl | rfl | rfl | rfl
   ·exact ⟨4,rfl,.inl rfl⟩
   ·exact ⟨4,rfl,.inl rfl⟩
   ·exact ⟨9,rfl,.inr (.inl rfl)⟩
   ·exact ⟨1000000,rfl,.inr (.inr rfl)⟩
  walk_at "w"
  refine rd_ixL (SqL.of g7) ex ?_
  have u07:=(u5.same s6).trans u7
  walk_at "w"
  refine ⟨fun σ' H'=>(∃n:Nat,σ'=[some (.ref b),some (.int n),some (.int i),some (.int o),some (.int w)]∧n<=5∧(w=4∨w=9∨(w=1000000∧n<=2))∧(n=5->i<=2∧o<=2))∧Bag H' b∧Upto b H H',?_,?_⟩
  ·walk_at "w"
   refine ite2 (fun h0=>?_) (fun h0=>?_)
   ·walk_at "w"
    refine ⟨⟨min n 2,?_,by lia,by lia,fun z=>by lia⟩,B7,u07⟩
    have e1:(if (2:Int) < (n:Int) then (2:Int) else (n:Int))=((min n 2:Nat):Int):=by split <;> lia
    rw[← e1]
    rfl
   ·walk_at "w"
    refine ⟨⟨n,rfl,n5,?_,h5⟩,B7,u07⟩
    rcases hw with z | z | z
    ·exact .inl z
    ·exact .inr (.inl z)
    ·exact absurd (decide_eq_true (show (9:Int) < (w:Int) by lia)) h0
  ·clear h5 n5
   rintro σ' H8 ⟨⟨n',rfl,n5,hwn,h5⟩,B8,u8⟩
   walk_at "w"
   refine rd_newT fun r H9 s9 g9=>?_
   exact k r n' i o w H9 g9 n5 hi ho hwn h5 (B8.same s9) (u8.same s9)
theorem sc__law_low:FnScope ["_law_top","_law_bottom","_law_one","_law_other"] ["_law_top","_law_bottom"] (defScope s__law_low):=⟨rfl,rfl,rfl,by decide +kernel,rfl,by decide +kernel,by decide +kernel⟩
theorem ok__law_low (T:Txt K mg Z):FnOk P w K mg base CX0 1 Z.a__law_low Z.d__law_low ["_law_top","_law_bottom"] sp_low:=by
 refine T.F__law_low.ok sc__law_low (fun vs H Q E h=>?_) (fun cdv A outer s H vs Q E hr h=>?_)
 ·obtain ⟨t,b,rfl,_⟩:=h
  rfl
 ·obtain ⟨t,b,rfl,hb,hs,k⟩:=h
  refine ⟨_,(pss_cons (ps_set (i:=2) sc__law_low.nd rfl (Or.inl rfl) (pe_callB call_abs (by rfl) T.abs PyProof.Rows.boot_abs (pa_cons (pv 0) pa_nil)))
   (pss_cons (ps_set (i:=3) sc__law_low.nd rfl (Or.inl rfl) (pv 1))
   (pss_cons (ps_while PassesOwn.never (pt_cmpR op_ne (pv 2) pe_int (nomark _))
    (pss_one (ps_par (i:=2) (j:=3) rfl sc__law_low.nd rfl rfl (by decide) rfl rfl (pa_cons (pe_op op_mod (pv 3) (pv 2)) (pa_cons (pv 2) pa_nil)) rfl)))
   (pss_one (ps_ret (pe_tup (pa_cons (pe_op op_fdivS (pv 0) (pv 3)) (pa_cons (pe_op op_fdivS (pv 1) (pv 3)) pa_nil)))))))),?_⟩
  refine rd_start (σ:=[some (.int t),some (.int b),none,none]) rfl ?_
  walk_at "w"
  refine while_i (fun σ' H'=>∃(u v:Int),σ'=[some (.int t),some (.int b),some (.int u),some (.int v)]∧H'=H∧0<=u∧0 < v∧Int.gcd u v=Int.gcd t b) (fun σ' _=>match σ' with | [_,_,some (.int u),_]=>u.natAbs | _=>0) ⟨_,b,rfl,rfl,by split <;> lia,hb,by
   split
   ·rw[Int.neg_gcd]
   ·rfl⟩ ?_
  rintro σ' H' ⟨u,v,rfl,rfl,hu,hv,hg⟩
  walk_at "w"
  refine ite2 (fun h=>?_) (fun h=>?_)
  ·have hu0:u≠0:=fun z=>by subst z;simp at h
   walk_at "w"
   refine rd_I (show (0:Int) < u by lia) ?_
   walk_at "w"
   have h1:=Int.emod_nonneg v hu0
   have h2:=Int.emod_lt_of_pos v (show 0 < u by lia)
   exact ⟨⟨v % u,u,rfl,rfl,h1,by lia,by rw[Int.gcd_comm,gcd_emod,Int.gcd_comm];exact hg⟩,by show (v % u).natAbs < u.natAbs;lia⟩
  ·have hu0:u=0:=by
    by_cases z:u=0
    ·exact z
    ·exfalso;apply h;simp [z]
   subst hu0
   have e:v=g t b:=by
    unfold g
    rw[← hg,Int.gcd_zero_left]
    lia
   have hgs:Sz 8999 v:=hs.le (by
    rw[e]
    have h1:(g t b).natAbs=Int.gcd t b:=by unfold g;simp
    rw[h1]
    exact Nat.le_of_dvd (by lia) (by have:=Int.gcd_dvd_right (a:=t) (b:=b);exact Int.natAbs_dvd_natAbs.mpr this |> fun z=>by simpa using z))
   walk_at "w"
   refine rd_I (show CDivS _ _ from ⟨by lia,hgs⟩) ?_
   walk_at "w"
   refine rd_I (show CDivS _ _ from ⟨by lia,hgs⟩) ?_
   walk_at "w"
   refine rd_newT fun r H' s' h'=>?_
   rw[Int.fdiv_eq_ediv_of_nonneg _ (by lia),Int.fdiv_eq_ediv_of_nonneg _ (by lia),e] at h'
   exact k r H' s' h'
theorem sc__law_number:FnScope ["_law_bag_here","_law_wide","_law_way"] ["_law_bag_here","_law_wide"] (defScope s__law_number):=⟨rfl,rfl,rfl,by decide +kernel,rfl,by decide +kernel,by decide +kernel⟩
theorem ok__law_number (T:Txt K mg Z):FnOk P w K mg base CX0 2 Z.a__law_number Z.d__law_number ["_law_bag_here","_law_wide"] (sp_numberQ K):=by
 have G__law_take:=ok__law_take (P:=P) (w:=w) (base:=base) T
 have G__law_low:=ok__law_low (P:=P) (w:=w) (base:=base) T
 refine T.F__law_number.ok sc__law_number (fun vs H Q E h=>?_) (fun cdv A outer s H vs Q E hr h=>?_)
 ·obtain ⟨b,w,rfl,_⟩:=h
  rfl
 ·obtain ⟨b,w,rfl,hB,w0,w1,k⟩:=h
  refine ⟨_,(pss_cons (ps_set (i:=2) sc__law_number.nd rfl (Or.inl rfl) (pe_call G__law_take (hr.mono (by decide)) rfl T.mg__law_take T.F__law_take.kp T.b__law_take .nil pass0 (pa_cons (pv 0) (pa_cons pe_int pa_nil))))
   (pss_cons (ps_if (pt_cmpR op_lt (pv 2) pe_int (nomark _)) (pss_one (ps_ret (pe_tup (pa_cons pe_int (pa_cons pe_int pa_nil))))) pss_nil)
   (pss_cons (ps_if (pt_cmpR op_lt (pv 2) pe_int (nomark _)) (pss_one (ps_ret (pe_tup (pa_cons (pe_op op_sub (pe_call G__law_take (hr.mono (by decide)) rfl T.mg__law_take T.F__law_take.kp T.b__law_take .nil pass0 (pa_cons (pv 0) (pa_cons pe_int pa_nil))) pe_int) (pa_cons pe_int pa_nil))))) pss_nil)
   (pss_cons (ps_if (pt_cmpR op_eq (pv 2) pe_int (nomark _)) (pss_one (ps_ret (pe_call G__law_low (hr.mono (by decide)) rfl T.mg__law_low T.F__law_low.kp T.b__law_low .nil pass0 (pa_cons (pe_op op_sub (pe_call G__law_take (hr.mono (by decide)) rfl T.mg__law_take T.F__law_take.kp T.b__law_take .nil pass0 (pa_cons (pv 0) (pa_cons pe_int pa_nil))) pe_int) (pa_cons (pe_op op_add pe_int (pe_call G__law_take (hr.mono (by decide)) rfl T.mg__law_take T.F__law_take.kp T.b__law_take .nil pass0 (pa_cons (pv 0) (pa_cons pe_int pa_nil)))) pa_nil))))) pss_nil)
   (pss_one (ps_ret (pe_call G__law_low (hr.mono (by decide)) rfl T.mg__law_low T.F__law_low.kp T.b__law_low .nil pass0 (pa_cons (pe_op op_sub (pe_call G__law_take (hr.mono (by decide)) rfl T.mg__law_take T.F__law_take.kp T.b__law_take .nil pass0 (pa_cons (pv 0) (pa_cons (pe_op op_add (pe_op op_mulS pe_int (pv 1)) pe_int) pa_nil))) (pv 1)) (pa_cons (pe_op op_add pe_int (pe_call G__law_take (hr.mono (by decide)) rfl T.mg__law_take T.F__law_take.kp T.b__law_take .nil pass0 (pa_cons (pv 0) (pa_cons (pv 1) pa_nil)))) pa_nil))))))))),?_⟩
  refine rd_start (σ:=[some (.ref b),some (.int w),none]) rfl ?_
  walk_at "w"
  refine ⟨b,8,rfl,hB,by decide,by decide,fun v H1 v0 v1 B1 u1=>?_⟩
  walk_at "w"
  refine ite2 (fun h0=>?_) (fun h0=>?_)
  ·walk_at "w"
   refine rd_newT fun r H2 s2 g2=>?_
   exact k r 0 _ ⟨Nat.zero_le _,by show 1<=_;lia⟩ (NumQ.mk g2 rfl) (B1.same s2) (u1.same s2)
  walk_at "w"
  refine ite2 (fun h1=>?_) (fun h1=>?_)
  ·walk_at "w"
   refine ⟨b,7,rfl,B1,by decide,by decide,fun a H2 a0 a1 B2 u2=>?_⟩
   walk_at "w"
   refine rd_newT fun r H3 s3 g3=>?_
   exact k r ((a - 3:Int):Rat) _ ⟨by show (a - 3).natAbs<=_;lia,by show 1<=_;lia⟩ (NumQ.mk g3 rfl) (B2.same s3) ((u1.trans u2).same s3)
  walk_at "w"
  refine ite2 (fun h2=>?_) (fun h2=>?_)
  ·walk_at "w"
   refine ⟨b,13,rfl,B1,by decide,by decide,fun a H2 a0 a1 B2 u2=>?_⟩
   walk_at "w"
   refine ⟨b,6,rfl,B2,by decide,by decide,fun c H3 c0 c1 B3 u3=>?_⟩
   walk_at "w"
   refine ⟨_,_,rfl,by lia,(sz_mil (by lia)).mono (by decide),fun r H4 s4 g4=>?_⟩
   obtain ⟨q,e,d,_⟩:=low_dr (t:=a - 6) (b:=1+c) (W:=max w 6) (by lia) (by lia) (by lia)
   exact k r q _ d (NumQ.mk g4 e) (B3.same s4) (((u1.trans u2).trans u3).same s4)
  walk_at "w"
  refine ⟨b,_,rfl,B1,by lia,by lia,fun a H2 a0 a1 B2 u2=>?_⟩
  walk_at "w"
  refine ⟨b,_,rfl,B2,by lia,by lia,fun c H3 c0 c1 B3 u3=>?_⟩
  walk_at "w"
  refine ⟨_,_,rfl,by lia,(sz_mil (by lia)).mono (by decide),fun r H4 s4 g4=>?_⟩
  obtain ⟨q,e,d,_⟩:=low_dr (t:=a - w) (b:=1+c) (W:=max w 6) (by lia) (by lia) (by lia)
  exact k r q _ d (NumQ.mk g4 e) (B3.same s4) (((u1.trans u2).trans u3).same s4)
theorem sc__law_row:FnScope ["_law_bag_here","_law_many","_law_wide"] ["_law_bag_here","_law_many","_law_wide"] (defScope s__law_row):=⟨rfl,rfl,rfl,by decide +kernel,rfl,by decide +kernel,by decide +kernel⟩
theorem ok__law_row (T:Txt K mg Z):FnOk P w K mg base CX0 3 Z.a__law_row Z.d__law_row ["_law_bag_here","_law_many","_law_wide"] (sp_drawQ K):=by
 have G__law_number:=ok__law_number (P:=P) (w:=w) (base:=base) T
 refine T.F__law_row.ok sc__law_row (fun vs H Q E h=>?_) (fun cdv A outer s H vs Q E hr h=>?_)
 ·obtain ⟨b,m,w,rfl,_⟩:=h
  rfl
 ·obtain ⟨b,m,w,rfl,hB,hm,w0,w1,k⟩:=h
  refine ⟨_,(pss_one (ps_ret (pe_comp ["_law_k"] ["_law_bag_here","_law_wide"] [0,2] (pi_range1 rfl T.range (pa_cons (pv 1) pa_nil)) (fun _=>(pg_name (i:=0) (show List.Nodup (α:=PySem.Str) ["_law_k","_law_bag_here","_law_wide"] by decide +kernel) rfl (Or.inl rfl) (Or.inl rfl))) (fun _=>pf_nil) (fun _=>(pe_call G__law_number (hr.mono (by decide)) rfl T.mg__law_number T.F__law_number.kp T.b__law_number .nil pass0 (pa_cons (pv 1) (pa_cons (pv 2) pa_nil))))))),?_⟩
  refine rd_start (σ:=[some (.ref b),some (.int m),some (.int w)]) rfl ?_
  walk_at "w"
  refine ⟨by lia,by lia,?_⟩
  refine comp_bagR (n:=m) (NumQ K) (Dr (max w 6)) hB hm (fun a u B=>a.upto u B) ?_ ?_
  ·rintro i H' NY NN hi u B k1
   walk_at "w"
   exact ⟨b,w,rfl,B,w0,w1,fun r x H2 hx h2 B2 u2=>k1 _ x _ u2 B2 hx h2⟩
  ·rintro ys cs H' p hp u B g lc hc pr nx
   exact k p cs H' hp ⟨ys,g,pr⟩ lc hc B u
theorem sc__law_move:FnScope ["_law_bag_here","_law_n","_law_way","_law_first","_law_wide","_law_move_here","_law_i","_law_row_here","_law_j"] ["_law_bag_here","_law_n","_law_way","_law_first","_law_wide"] (defScope s__law_move):=⟨rfl,rfl,rfl,by decide +kernel,rfl,by decide +kernel,by decide +kernel⟩
theorem ok__law_move (T : Txt K mg Z) : FnOk P w K mg base CX0 4 Z.a__law_move Z.d__law_move ["_law_bag_here", "_law_n", "_law_way", "_law_first", "_law_wide"] (sp_moveQ K) := by
  have G__law_row := ok__law_row (P := P) (w := w) (base := base) T
  have G__law_take := ok__law_take (P := P) (w := w) (base := base) T
  refine T.F__law_move.ok sc__law_move (fun vs H Q E h => ?_) (fun cdv A outer s H vs Q E hr h => ?_)
  · obtain ⟨b, n, w, way, first, rfl, _⟩ := h
    rfl
  · obtain ⟨b, n, w, way, first, rfl, hB, n8, w0, w1, k⟩ := h
    refine ⟨_, (pss_cons (ps_set (i := 5) sc__law_move.nd rfl (Or.inl rfl) (pe_lst pa_nil))
      (pss_cons (ps_for PassesOwn.never rfl (pi_range1 rfl T.range (pa_cons (pv 1) pa_nil)) (pg_name (i := 6) sc__law_move.nd rfl (Or.inl rfl) (Or.inl rfl))
        (pss_cons (ps_set (i := 7) sc__law_move.nd rfl (Or.inl rfl) (pe_call G__law_row (hr.mono (by decide)) rfl T.mg__law_row T.F__law_row.kp T.b__law_row .nil pass0 (pa_cons (pv 0) (pa_cons (pv 1) (pa_cons (pv 4) pa_nil)))))
      (pss_cons (ps_for PassesOwn.never rfl (pi_range1 rfl T.range (pa_cons (pv 1) pa_nil)) (pg_name (i := 8) sc__law_move.nd rfl (Or.inl rfl) (Or.inl rfl))
        (pss_consM (ps_if (PW.pt (pw_and (pt_cmpR op_eq (pv 2) pe_int (nomark _)) (pw_and1 (pt_cmpR op_gt (pe_call G__law_take (hr.mono (by decide)) rfl T.mg__law_take T.F__law_take.kp T.b__law_take .nil pass0 (pa_cons (pv 0) (pa_cons pe_int pa_nil))) pe_int (nomark _))))) (pss_one (ps_asg (pe_tup (pa_cons pe_int (pa_cons pe_int pa_nil))) (pg_sub (pv 7) (pv 8) set_list))) pss_nil)
      (pss_consM (ps_if (PW.pt (pw_and (pt_cmpR op_eq (pv 2) pe_int (nomark _)) (pw_and1 (pt_cmpR op_lt (pe_op op_add (pv 6) pe_int) (pv 1) (nomark _))))) (pss_one (ps_asg (pe_tup (pa_cons (pe_callTy call_intB (by rfl) T.int PyProof.Rows.boot_int (pa_cons (pe_cmpR op_eq (pv 8) (pe_op op_add (pv 6) pe_int) (nomark _)) pa_nil)) (pa_cons pe_int pa_nil))) (pg_sub (pv 7) (pv 8) set_list))) pss_nil)
      (pss_consM (ps_if (PW.pt (pw_or (PW.pt (pw_and (pt_cmpR op_eq (pv 2) pe_int (nomark _)) (pw_and (pt_cmpR op_ge (pv 6) (pv 3) (nomark _)) (pw_and1 (pt_cmpR op_lt (pv 8) (pv 3) (nomark _)))))) (pw_or1 (PW.pt (pw_and (pt_cmpR op_eq (pv 2) pe_int (nomark _)) (pw_and (pt_cmpR op_lt (pv 6) (pv 3) (nomark _)) (pw_and1 (pt_cmpR op_ge (pv 8) (pv 3) (nomark _))))))))) (pss_one (ps_asg (pe_tup (pa_cons pe_int (pa_cons pe_int pa_nil))) (pg_sub (pv 7) (pv 8) set_list))) pss_nil)
      (pss_one (ps_if (pt_cmpR op_eq (pv 2) pe_int (nomark _)) (pss_one (ps_asg (pe_tup (pa_cons (pe_op op_mulS (pe_ix ix_list (pe_lst (pa_cons pe_int (pa_cons pe_int (pa_cons (pe_un un_neg pe_int) (pa_cons pe_int pa_nil))))) (pe_op op_mod (pv 3) pe_int) (by intro _ _; rfl)) (pe_callTy call_intB (by rfl) T.int PyProof.Rows.boot_int (pa_cons (pe_cmpR op_eq (pv 6) (pv 8) (nomark _)) pa_nil))) (pa_cons pe_int pa_nil))) (pg_sub (pv 7) (pv 8) set_list))) pss_nil))))))
      (pss_one (ps_expr (pe_bm PySem.F.plainAttrs_list PySem.F.slot_list_append PySem.F.type_list_append mt_append (pv 5) (pa_cons (pv 7) pa_nil)))))))
      (pss_one (ps_ret (pv 5))))), ?_⟩
    refine rd_start (σ := [some (.ref b), some (.int n), some (.int way), some (.int first), some (.int w), none, none, none, none]) rfl ?_
    have W1 : 1 ≤ max w 6 := by lia
    walk_at "w"
    refine rd_newL fun r H1 s1 n1 g1 => ?_
    have rb : r ≠ b := fun z => hB.at (by rw [← z]; exact n1)
    obtain ⟨q0, I0, xs0, gq0⟩ := hB.inner
    have I1 : Inner H1 b q0 := (s1.upto (p := b)).2 _ I0
    obtain ⟨A, eA⟩ : ∃ A : Addr → Prop, A = fun q => H q = none ∧ q ≠ r := ⟨_, rfl⟩
    have nb : ¬ A b := by rw [eA]; exact fun z => hB.at z.1
    have nr : ¬ A r := by rw [eA]; exact fun z => z.2 rfl
    have nq : ¬ A q0 := by rw [eA]; exact fun z => by have z1 := z.1; rw [gq0] at z1; cases z1
    have rq : r ≠ q0 := fun z => by rw [← z, n1] at gq0; cases gq0
    walk_at "w"
    refine ⟨by lia, by lia, ?_⟩
    refine for_rangeN (n := n) (fun i σ' H' => ∃ (x1 x2 x3 : Option V) (us : List V), σ' = [some (.ref b), some (.int n), some (.int way), some (.int first), some (.int w), some (.ref r), x1, x2, x3] ∧ H' r = some (.lst us) ∧ us.length = i ∧ (∀ x ∈ us, RowP K A H' n (Dr (max w 6)) x) ∧ Bag H' b ∧ Inner H' b q0 ∧ Upto b H H') ⟨none, none, none, [], rfl, g1, rfl, (fun _ z => nomatch z), hB.same s1, I1, s1.upto⟩ ?_ ?_
    · rintro i σ' H' hi ⟨x1, x2, x3, us, rfl, gu, lu, ru, B', I', u'⟩
      walk_at "w"
      refine ⟨b, n, w, rfl, B', by lia, w0, w1, fun p xs Ha np Ra la da Ba ua => ?_⟩
      have hp0 : H p = none := u'.none B' np
      have ap' : H p = none ∧ p ≠ r := ⟨hp0, fun z => by rw [z, gu] at np; cases np⟩
      have ap : A p := by rw [eA]; exact ap'
      have X0 : MvJ K A n (Dr (max w 6)) r p b q0 us H Ha := ⟨ua.other rb gu, fun x hx => (ru x hx).upto ua B' nb, ⟨p, xs, rfl, ap, Ra, la, da⟩, Ba, ua.2 _ I', u'.trans ua⟩
      clear ru Ra gu
      walk_at "w"
      refine ⟨by lia, by lia, ?_⟩
      refine for_rangeN (n := n) (fun j σ' H' => (∃ x3, σ' = [some (.ref b), some (.int n), some (.int way), some (.int first), some (.int w), some (.ref r), some (.int i), some (.ref p), x3]) ∧ MvJ K A n (Dr (max w 6)) r p b q0 us H H') ⟨⟨_, rfl⟩, X0⟩ ?_ ?_
      · rintro j σ' Hj hj ⟨⟨x3, rfl⟩, X⟩
        walk_at "w"
        refine ⟨fun σ' H' => σ' = [some (.ref b), some (.int n), some (.int way), some (.int first), some (.int w), some (.ref r), some (.int i), some (.ref p), some (.int j)] ∧ MvJ K A n (Dr (max w 6)) r p b q0 us H H', ?_, ?_⟩
        · walk_at "w"
          refine ite2 (fun _ => ?_) (fun _ => ?_)
          · walk_at "w"
            refine ⟨b, 3, rfl, X.bag, by decide, by decide, fun d Hd d0 d1 Bd ud => ?_⟩
            replace X := X.upto ud Bd nb rb
            repeat' (first | walk_at "rd" | refine ite2 (fun _ => ?_) (fun _ => ?_))
            all_goals first
              | exact ⟨rfl, X⟩
              | (refine rd_newT fun t Hb sb gb => ?_
                 walk_at "w"
                 obtain ⟨zs, gz, lz, Xz⟩ := (X.same sb).put ap nr nb nq hp0 (NumQ.mk (q := 0) gb rfl) (dr_int (i := 0) (Nat.zero_le _) W1) j
                 refine rd_setL gz (ixN_nat (by lia)) rfl ?_
                 exact ⟨rfl, Xz⟩)
          · walk_at "w"
            exact ⟨rfl, X⟩
        clear X
        rintro σ' Hj ⟨rfl, X⟩
        refine ⟨fun σ' H' => σ' = [some (.ref b), some (.int n), some (.int way), some (.int first), some (.int w), some (.ref r), some (.int i), some (.ref p), some (.int j)] ∧ MvJ K A n (Dr (max w 6)) r p b q0 us H H', ?_, ?_⟩
        · repeat' (first | walk_at "rd" | refine ite2 (fun _ => ?_) (fun _ => ?_))
          all_goals first
            | exact ⟨rfl, X⟩
            | (refine rd_newT fun t Hb sb gb => ?_
               walk_at "w"
               obtain ⟨zs, gz, lz, Xz⟩ := (X.same sb).put ap nr nb nq hp0 (NumQ.mk (q := ((if decide ((j : Int) = (i : Int) + 1) = true then (1 : Int) else 0 : Int) : Rat)) gb rfl) (dr_int (by split <;> lia) W1) j
               refine rd_setL gz (ixN_nat (by lia)) rfl ?_
               exact ⟨rfl, Xz⟩)
        clear X
        rintro σ' Hj ⟨rfl, X⟩
        refine ⟨fun σ' H' => σ' = [some (.ref b), some (.int n), some (.int way), some (.int first), some (.int w), some (.ref r), some (.int i), some (.ref p), some (.int j)] ∧ MvJ K A n (Dr (max w 6)) r p b q0 us H H', ?_, ?_⟩
        · repeat' (first | walk_at "rd" | refine ite2 (fun _ => ?_) (fun _ => ?_))
          all_goals first
            | exact ⟨rfl, X⟩
            | (refine rd_newT fun t Hb sb gb => ?_
               walk_at "w"
               obtain ⟨zs, gz, lz, Xz⟩ := (X.same sb).put ap nr nb nq hp0 (NumQ.mk (q := 0) gb rfl) (dr_int (i := 0) (Nat.zero_le _) W1) j
               refine rd_setL gz (ixN_nat (by lia)) rfl ?_
               exact ⟨rfl, Xz⟩)
        clear X
        rintro σ' Hj ⟨rfl, X⟩
        walk_at "w"
        refine ite2 (fun _ => ?_) (fun _ => ?_)
        · walk_at "w"
          refine rd_newL fun l0 Hc sc nc gc => ?_
          walk_at "w"
          obtain ⟨x, ex, mx, _⟩ := atI_some (xs := [V.int 2, V.int 1, V.int (-1), V.int 0]) (i := first % 4) (Int.emod_nonneg _ (by decide)) (by have := Int.emod_lt_of_pos first (show (0 : Int) < 4 by decide); simpa using this)
          obtain ⟨z, rfl, hz⟩ : ∃ z : Int, x = .int z ∧ z.natAbs ≤ 2 := by
            simp only [List.mem_cons, List.not_mem_nil, or_false] at mx
            rcases mx with rfl | rfl | rfl | rfl
            · exact ⟨2, rfl, by decide⟩
            · exact ⟨1, rfl, by decide⟩
            · exact ⟨-1, rfl, by decide⟩
            · exact ⟨0, rfl, by decide⟩
          refine rd_ixL (SqL.of gc) ex ?_
          walk_at "w"
          refine rd_I (cmulS_l (by lia) (by lia)) ?_
          walk_at "w"
          refine rd_newT fun t Hb sb gb => ?_
          walk_at "w"
          obtain ⟨zs, gz, lz, Xz⟩ := ((X.same sc).same sb).put ap nr nb nq hp0 (NumQ.mk (q := ((z * (if decide ((i : Int) = (j : Int)) = true then (1 : Int) else 0) : Int) : Rat)) gb rfl) (dr_int (by split <;> lia) W1) j
          refine rd_setL gz (ixN_nat (by lia)) rfl ?_
          exact ⟨⟨_, rfl⟩, Xz⟩
        · walk_at "w"
          exact ⟨⟨_, rfl⟩, X⟩
      · rintro σ' Hj ⟨⟨x3, rfl⟩, X⟩
        walk_at "w"
        refine ⟨.inl ⟨rfl, _, SqL.of X.gr⟩, ?_⟩
        walk_at "w"
        refine rd_append X.gr (small1000 (by lia)) ?_
        refine ⟨_, _, _, us ++ [.ref p], rfl, upd_same, by simp [lu], fun x hx => ?_, X.bag.upd X.inn rb rq, X.inn.upd rb, X.up.after n1⟩
        rcases List.mem_append.mp hx with hx | hx
        · exact (X.ru x hx).other X.gr nr
        · have e : x = V.ref p := by simpa using hx
          rw [e]; exact X.rp.other X.gr nr
    · rintro σ' H' ⟨x1, x2, x3, us, rfl, gu, lu, ru, B', I', u'⟩
      walk_at "w"
      exact k r us H' n1 gu lu (by rw [eA] at ru; exact ru) B' u'
theorem sc__law_sum:FnScope ["_law_one","_law_other"] ["_law_one","_law_other"] (defScope s__law_sum):=⟨rfl,rfl,rfl,by decide +kernel,rfl,by decide +kernel,by decide +kernel⟩
theorem ok__law_sum (T:Txt K mg Z):FnOk P w K mg base CX0 2 Z.a__law_sum Z.d__law_sum ["_law_one","_law_other"] (sp_opQ K (fun x y=>x+y)):=by
 have G__law_low:=ok__law_low (P:=P) (w:=w) (base:=base) T
 refine T.F__law_sum.ok sc__law_sum (fun vs H Q E h=>?_) (fun cdv A outer s H vs Q E hr h=>?_)
 ·obtain ⟨p,q,a,b,c,d,rfl,hp,hq,hb,hd,sa,sb,sc,sd,k⟩:=addQ_of h
  rfl
 ·obtain ⟨p,q,a,b,c,d,rfl,hp,hq,hb,hd,sa,sb,sc,sd,k⟩:=addQ_of h
  refine ⟨_,(pss_one (ps_ret (pe_call G__law_low (hr.mono (by decide)) rfl T.mg__law_low T.F__law_low.kp T.b__law_low .nil pass0 (pa_cons (pe_op op_add (pe_op op_mulS (pe_ix ix_tup (pv 0) pe_int (by intro _ _;rfl)) (pe_ix ix_tup (pv 1) pe_int (by intro _ _;rfl))) (pe_op op_mulS (pe_ix ix_tup (pv 1) pe_int (by intro _ _;rfl)) (pe_ix ix_tup (pv 0) pe_int (by intro _ _;rfl)))) (pa_cons (pe_op op_mulS (pe_ix ix_tup (pv 0) pe_int (by intro _ _;rfl)) (pe_ix ix_tup (pv 1) pe_int (by intro _ _;rfl))) pa_nil))))),?_⟩
  refine rd_start (σ:=[some (.ref p),some (.ref q)]) rfl ?_
  have hbd:0 < b*d:=Int.mul_pos hb hd
  have sbd:Sz 8999 (b*d):=(sb.mul sd).mono (by decide)
  walk_at "w"
  refine rd_I (show CMulS _ _ from .inr ⟨_,_,sa,sd,by decide⟩) ?_
  walk_at "w"
  refine rd_I (show CMulS _ _ from .inr ⟨_,_,sc,sb,by decide⟩) ?_
  walk_at "w"
  refine rd_I (show CMulS _ _ from .inr ⟨_,_,sb,sd,by decide⟩) ?_
  walk_at "w"
  walk_at "w"
  refine ⟨_,_,rfl,hbd,sbd,k⟩
theorem sc__law_plus:FnScope ["_law_one","_law_other"] ["_law_one","_law_other"] (defScope s__law_plus):=⟨rfl,rfl,rfl,by decide +kernel,rfl,by decide +kernel,by decide +kernel⟩
theorem ok__law_plus (T:Txt K mg Z):FnOk P w K mg base CX0 3 Z.a__law_plus Z.d__law_plus ["_law_one","_law_other"] (sp_plusQ K):=by
 have G__law_sum:=ok__law_sum (P:=P) (w:=w) (base:=base) T
 refine T.F__law_plus.ok sc__law_plus (fun vs H Q E h=>?_) (fun cdv A outer s H vs Q E hr h=>?_)
 ·obtain ⟨p,q,xs,ys,rfl,_⟩:=h
  rfl
 ·obtain ⟨p,q,xs,ys,rfl,hp,hq,hl,hz,h1,h2,kk⟩:=h
  refine ⟨_,(pss_one (ps_ret (pe_comp ["_law_k"] ["_law_one","_law_other"] [0,1] (pi_range1 rfl T.range (pa_cons (pe_callB call_len_seq (by rfl) T.len PySem.boot_len (pa_cons (pv 0) pa_nil)) pa_nil)) (fun _=>(pg_name (i:=0) (show List.Nodup (α:=PySem.Str) ["_law_k","_law_one","_law_other"] by decide +kernel) rfl (Or.inl rfl) (Or.inl rfl))) (fun _=>pf_nil) (fun _=>(pe_call G__law_sum (hr.mono (by decide)) rfl T.mg__law_sum T.F__law_sum.kp T.b__law_sum .nil pass0 (pa_cons (pe_ix (ix_listK K (by rfl)) (pv 1) (pv 0) (by intro _ _;rfl)) (pa_cons (pe_ix (ix_listK K (by rfl)) (pv 2) (pv 0) (by intro _ _;rfl)) pa_nil))))))),?_⟩
  refine rd_start (σ:=[some (.ref p),some (.ref q)]) rfl ?_
  obtain ⟨us,gu,qu⟩:=id hp
  obtain ⟨ws,gw,qw⟩:=id hq
  have lu:=qu.length
  walk_at "w"
  refine ⟨_,_,rfl,.inl (SqL.of gu),?_⟩
  walk_at "w"
  refine ⟨by lia,by lia,?_⟩
  refine comp_mapR (n:=us.length) (NumQ K) (fun i=>xs.getD i 0+ys.getD i 0) (by lia) (fun a b=>a.same b) ?_ ?_
  ·rintro i H' NY NN hi s k1
   have ix:i < xs.length:=by lia
   have iy:i < ys.length:=by lia
   obtain ⟨vx,ex,nx⟩:=ixQ (Paired.imp' (fun _ _ z=>z.same s) qu) ix
   obtain ⟨vy,ey,ny⟩:=ixQ (Paired.imp' (fun _ _ z=>z.same s) qw) iy
   walk_at "w"
   refine rd_ixL (SqL.of (s _ _ gu)) ex ?_
   walk_at "w"
   refine rd_ixL (SqL.of (s _ _ gw)) ey ?_
   walk_at "w"
   exact ⟨_,_,_,_,rfl,nx,ny,h1 _ (getD_mem ix),h2 _ (getD_mem iy),fun r3 H3 s3 n3=>k1 _ _ s3 n3⟩
  ·rintro ys' H' l hl' s g pr nx
   exact kk l H' hl' s ⟨ys',g,by rw[zip_range (by lia)];rw[← lu] at pr;exact pr⟩
theorem sc__law_prod:FnScope ["_law_one","_law_other"] ["_law_one","_law_other"] (defScope s__law_prod):=⟨rfl,rfl,rfl,by decide +kernel,rfl,by decide +kernel,by decide +kernel⟩
theorem ok__law_prod (T:Txt K mg Z):FnOk P w K mg base CX0 2 Z.a__law_prod Z.d__law_prod ["_law_one","_law_other"] (sp_opQ K (fun x y=>x*y)):=by
 have G__law_low:=ok__law_low (P:=P) (w:=w) (base:=base) T
 refine T.F__law_prod.ok sc__law_prod (fun vs H Q E h=>?_) (fun cdv A outer s H vs Q E hr h=>?_)
 ·obtain ⟨p,q,a,b,c,d,rfl,hp,hq,hb,hd,sa,sb,sc,sd,k⟩:=mulQ_of h
  rfl
 ·obtain ⟨p,q,a,b,c,d,rfl,hp,hq,hb,hd,sa,sb,sc,sd,k⟩:=mulQ_of h
  refine ⟨_,(pss_one (ps_ret (pe_call G__law_low (hr.mono (by decide)) rfl T.mg__law_low T.F__law_low.kp T.b__law_low .nil pass0 (pa_cons (pe_op op_mulS (pe_ix ix_tup (pv 0) pe_int (by intro _ _;rfl)) (pe_ix ix_tup (pv 1) pe_int (by intro _ _;rfl))) (pa_cons (pe_op op_mulS (pe_ix ix_tup (pv 0) pe_int (by intro _ _;rfl)) (pe_ix ix_tup (pv 1) pe_int (by intro _ _;rfl))) pa_nil))))),?_⟩
  refine rd_start (σ:=[some (.ref p),some (.ref q)]) rfl ?_
  have hbd:0 < b*d:=Int.mul_pos hb hd
  have sbd:Sz 8999 (b*d):=(sb.mul sd).mono (by decide)
  walk_at "w"
  refine rd_I (show CMulS _ _ from .inr ⟨_,_,sa,sc,by decide⟩) ?_
  walk_at "w"
  refine rd_I (show CMulS _ _ from .inr ⟨_,_,sb,sd,by decide⟩) ?_
  walk_at "w"
  walk_at "w"
  refine ⟨_,_,rfl,hbd,sbd,k⟩
theorem sc__law_by:FnScope ["_law_factor","_law_row_here"] ["_law_factor","_law_row_here"] (defScope s__law_by):=⟨rfl,rfl,rfl,by decide +kernel,rfl,by decide +kernel,by decide +kernel⟩
theorem ok__law_by (T:Txt K mg Z):FnOk P w K mg base CX0 3 Z.a__law_by Z.d__law_by ["_law_factor","_law_row_here"] (sp_byQ K):=by
 have G__law_prod:=ok__law_prod (P:=P) (w:=w) (base:=base) T
 refine T.F__law_by.ok sc__law_by (fun vs H Q E h=>?_) (fun cdv A outer s H vs Q E hr h=>?_)
 ·obtain ⟨u,q,c,ys,rfl,_⟩:=h
  rfl
 ·obtain ⟨u,q,c,ys,rfl,hc,sc,hq,hz,h2,kk⟩:=h
  refine ⟨_,(pss_one (ps_ret (pe_comp ["_law_one"] ["_law_factor"] [0] (pi_list (pv 1)) (fun _=>(pg_name (i:=0) (show List.Nodup (α:=PySem.Str) ["_law_one","_law_factor"] by decide +kernel) rfl (Or.inl rfl) (Or.inl rfl))) (fun _=>pf_nil) (fun _=>(pe_call G__law_prod (hr.mono (by decide)) rfl T.mg__law_prod T.F__law_prod.kp T.b__law_prod .nil pass0 (pa_cons (pv 1) (pa_cons (pv 0) pa_nil))))))),?_⟩
  refine rd_start (σ:=[some u,some (.ref q)]) rfl ?_
  obtain ⟨us,gu,qu⟩:=id hq
  walk_at "w"
  refine ⟨⟨_,SqL.of gu⟩,?_⟩
  refine comp_mapL (K:=K) (F:=NumQ K) (NumQ K) (fun y=>c*y) gu qu hz (fun a b=>a.same b) (fun a b=>a.same b) ?_ ?_
  ·rintro i y x H' NY NN en s hx k
   walk_at "w"
   exact ⟨_,_,_,_,rfl,hc.same s,hx,sc,h2 y (List.mem_of_getElem? en),fun r H2 s2 h2'=>k _ _ s2 h2'⟩
  ·rintro ys' H' r hr s g pr nx
   exact kk r H' hr s ⟨ys',g,pr⟩
theorem sc__law_mixed:FnScope ["_law_bag_here","_law_move_here","_law_put","_law_look","_law_n","_law_turn","_law_i","_law_j","_law_by_here","_law_less","_law_row_here"] ["_law_bag_here","_law_move_here","_law_put","_law_look"] (defScope s__law_mixed):=⟨rfl,rfl,rfl,by decide +kernel,rfl,by decide +kernel,by decide +kernel⟩
theorem ok__law_mixed (T:Txt K mg Z):FnOk P w K mg base CX0 4 Z.a__law_mixed Z.d__law_mixed ["_law_bag_here","_law_move_here","_law_put","_law_look"] (sp_mixedQ K):=by
 have G__law_take:=ok__law_take (P:=P) (w:=w) (base:=base) T
 have G__law_plus:=ok__law_plus (P:=P) (w:=w) (base:=base) T
 have G__law_by:=ok__law_by (P:=P) (w:=w) (base:=base) T
 have G__law_sum:=ok__law_sum (P:=P) (w:=w) (base:=base) T
 have G__law_prod:=ok__law_prod (P:=P) (w:=w) (base:=base) T
 refine T.F__law_mixed.ok sc__law_mixed (fun vs H Q E h=>?_) (fun cdv A outer s H vs Q E hr h=>?_)
 ·obtain ⟨b,m,p,l,q0,n,i,o,M,WV,A,rfl,_⟩:=h
  rfl
 ·obtain ⟨b,m,p,l,q0,n,i,o,M,WV,A,rfl,MA,X,n8,i4,o4,M0,M1,V1,hA,k⟩:=h
  refine ⟨_,(pss_cons (ps_set (i:=4) sc__law_mixed.nd rfl (Or.inl rfl) (pe_callB call_len_seq (by rfl) T.len PySem.boot_len (pa_cons (pv 1) pa_nil)))
   (pss_cons (ps_if (PW.pt (pw_or (pt_cmpR op_lt (pv 4) pe_int (nomark _)) (pw_or1 (pt_cmpR op_eq (pe_call G__law_take (hr.mono (by decide)) rfl T.mg__law_take T.F__law_take.kp T.b__law_take .nil pass0 (pa_cons (pv 0) (pa_cons pe_int pa_nil))) pe_int (nomark _))))) (pss_one (ps_ret (pe_tup (pa_cons (pv 1) (pa_cons (pv 2) (pa_cons (pv 3) pa_nil)))))) pss_nil)
   (pss_cons (ps_for PassesOwn.never rfl (pi_range1 rfl T.range (pa_cons (pe_op op_add pe_int (pe_call G__law_take (hr.mono (by decide)) rfl T.mg__law_take T.F__law_take.kp T.b__law_take .nil pass0 (pa_cons (pv 0) (pa_cons pe_int pa_nil)))) pa_nil)) (pg_name (i:=5) sc__law_mixed.nd rfl (Or.inl rfl) (Or.inl rfl))
    (pss_cons (ps_set (i:=6) sc__law_mixed.nd rfl (Or.inl rfl) (pe_call G__law_take (hr.mono (by decide)) rfl T.mg__law_take T.F__law_take.kp T.b__law_take .nil pass0 (pa_cons (pv 0) (pa_cons (pv 4) pa_nil))))
   (pss_cons (ps_set (i:=7) sc__law_mixed.nd rfl (Or.inl rfl) (pe_op op_mod (pe_op op_add (pe_op op_add (pv 6) pe_int) (pe_call G__law_take (hr.mono (by decide)) rfl T.mg__law_take T.F__law_take.kp T.b__law_take .nil pass0 (pa_cons (pv 0) (pa_cons (pe_op op_sub (pv 4) pe_int) pa_nil)))) (pv 4)))
   (pss_cons (ps_set (i:=8) sc__law_mixed.nd rfl (Or.inl rfl) (pe_tup (pa_cons (pe_ix ix_list (pe_lst (pa_cons pe_int (pa_cons (pe_un un_neg pe_int) (pa_cons pe_int (pa_cons (pe_un un_neg pe_int) pa_nil))))) (pe_call G__law_take (hr.mono (by decide)) rfl T.mg__law_take T.F__law_take.kp T.b__law_take .nil pass0 (pa_cons (pv 0) (pa_cons pe_int pa_nil))) (by intro _ _;rfl)) (pa_cons pe_int pa_nil))))
   (pss_cons (ps_set (i:=9) sc__law_mixed.nd rfl (Or.inl rfl) (pe_tup (pa_cons (pe_op op_sub pe_int (pe_ix ix_tup (pv 8) pe_int (by intro _ _;rfl))) (pa_cons pe_int pa_nil))))
   (pss_cons (ps_asg (pe_call G__law_plus (hr.mono (by decide)) rfl T.mg__law_plus T.F__law_plus.kp T.b__law_plus .nil pass0 (pa_cons (pe_ix ix_list (pv 1) (pv 6) (by intro _ _;rfl)) (pa_cons (pe_call G__law_by (hr.mono (by decide)) rfl T.mg__law_by T.F__law_by.kp T.b__law_by .nil pass0 (pa_cons (pv 8) (pa_cons (pe_ix ix_list (pv 1) (pv 7) (by intro _ _;rfl)) pa_nil))) pa_nil))) (pg_sub (pv 1) (pv 6) set_list))
   (pss_cons (ps_for PassesOwn.never rfl (pi_list (pe_op op_cat (pv 1) (pv 3))) (pg_name (i:=10) sc__law_mixed.nd rfl (Or.inl rfl) (Or.inl rfl))
    (pss_one (ps_asg (pe_call G__law_sum (hr.mono (by decide)) rfl T.mg__law_sum T.F__law_sum.kp T.b__law_sum .nil pass0 (pa_cons (pe_ix ix_list (pv 10) (pv 7) (by intro _ _;rfl)) (pa_cons (pe_call G__law_prod (hr.mono (by decide)) rfl T.mg__law_prod T.F__law_prod.kp T.b__law_prod .nil pass0 (pa_cons (pv 9) (pa_cons (pe_ix ix_list (pv 10) (pv 6) (by intro _ _;rfl)) pa_nil))) pa_nil))) (pg_sub (pv 10) (pv 7) set_list))))
   (pss_one (ps_for PassesOwn.never rfl (pi_list (pv 2)) (pg_name (i:=10) sc__law_mixed.nd rfl (Or.inl rfl) (Or.inl rfl))
    (pss_one (ps_asg (pe_call G__law_sum (hr.mono (by decide)) rfl T.mg__law_sum T.F__law_sum.kp T.b__law_sum .nil pass0 (pa_cons (pe_ix ix_list (pv 10) (pv 6) (by intro _ _;rfl)) (pa_cons (pe_call G__law_prod (hr.mono (by decide)) rfl T.mg__law_prod T.F__law_prod.kp T.b__law_prod .nil pass0 (pa_cons (pv 8) (pa_cons (pe_ix ix_list (pv 10) (pv 7) (by intro _ _;rfl)) pa_nil))) pa_nil))) (pg_sub (pv 10) (pv 6) set_list))))))))))))
   (pss_one (ps_ret (pe_tup (pa_cons (pv 1) (pa_cons (pv 2) (pa_cons (pv 3) pa_nil))))))))),?_⟩
  refine rd_start (σ:=[some (.ref b),some (.ref m),some (.ref p),some (.ref l),none,none,none,none,none,none,none]) rfl ?_
  have done:∀r H' t,t<=60->H' r=some (.tup [.ref m,.ref p,.ref l])->Mix K A H' n (Fr M (3^t*WV)) m p l b q0 i o->KeepC A b m H H'->Q (.ref r) H':=fun r H' t ht g x kp=>k r H' g (x.weak fun y h=>h.mono (pow3_m ht)) kp
  have X0:Mix K A H n (Fr M (3^0*WV)) m p l b q0 i o:=X.weak fun y h=>h.mono (by simp)
  clear X k
  obtain ⟨us,gu,lu,_,_⟩:=id X0.gm
  walk_at "w"
  refine ⟨_,_,rfl,.inl (SqL.of gu),?_⟩
  rw[lu]
  clear gu lu
  have kp0:KeepC A b m H H:=fun _ _ h _ _ _=>h
  walk_at "w"
  refine ite2 (fun h0=>?_) (fun h0=>?_)
  ·walk_at "w"
   refine rd_newT fun r H' s' g'=>?_
   exact done r H' 0 (by decide) g' (X0.same s') (kp0.same s')
  have n2:2<=n:=by
   rcases Nat.lt_or_ge n 2 with z | z
   ·exact absurd (decide_eq_true (show (n:Int) < 2 by lia)) h0
   ·exact z
  walk_at "w"
  refine ⟨b,2,rfl,X0.bag,by decide,by decide,fun v H1 v0 v1 B1 u1=>?_⟩
  have X1:=X0.upto MA u1 B1
  have kp1:=kp0.upto u1
  walk_at "w"
  refine ite2 (fun h1=>?_) (fun h1=>?_)
  ·walk_at "w"
   refine rd_newT fun r H' s' g'=>?_
   exact done r H' 0 (by decide) g' (X1.same s') (kp1.same s')
  walk_at "w"
  refine ⟨b,3,rfl,B1,by decide,by decide,fun c H2 c0 c1 B2 u2=>?_⟩
  have X2:=X1.upto MA u2 B2
  have kp2:=kp1.upto u2
  clear X0 X1 kp0 kp1 u1 u2 B1
  walk_at "w"
  refine ⟨by lia,by lia,?_⟩
  refine for_rangeN (n:=(1+c).toNat) (fun t σ' H'=>∃(x1 x2 x3 x4 x5 x6:Option V),σ'=[some (.ref b),some (.ref m),some (.ref p),some (.ref l),some (.int n),x1,x2,x3,x4,x5,x6]∧Mix K A H' n (Fr M (3^(17*t)*WV)) m p l b q0 i o∧KeepC A b m H H') ⟨none,none,none,none,none,none,rfl,X2,kp2⟩ ?_ ?_
  ·rintro t σ' H' ht ⟨x1,x2,x3,x4,x5,x6,rfl,X,kp⟩
   have tb:17*t+17<=60:=by lia
   walk_at "w"
   refine ⟨b,n,rfl,X.bag,by lia,by lia,fun ii Ha i0 i1 Ba ua=>?_⟩
   obtain ⟨ii,rfl⟩:=Int.eq_ofNat_of_zero_le i0
   have Xa:=X.upto MA ua Ba
   have kpa:=kp.upto ua
   walk_at "w"
   refine ⟨b,_,rfl,Ba,by lia,by lia,fun d Hb d0 d1 Bb ub=>?_⟩
   have Xb:=Xa.upto MA ub Bb
   have kpb:=kpa.upto ub
   walk_at "w"
   refine rd_I (show (0:Int) < n by lia) ?_
   have j0:=Int.emod_nonneg ((ii:Int)+1+d) (show (n:Int)≠0 by lia)
   have j1:=Int.emod_lt_of_pos ((ii:Int)+1+d) (show (0:Int) < n by lia)
   generalize ((ii:Int)+1+d) % (n:Int)=jj at j0 j1 ⊢
   obtain ⟨jj,rfl⟩:=Int.eq_ofNat_of_zero_le j0
   walk_at "w"
   refine rd_newL fun l0 Hc sc nc gc=>?_
   walk_at "w"
   refine ⟨b,4,rfl,Bb.same sc,by decide,by decide,fun v' Hd v0' v1' Bd ud=>?_⟩
   have gd:=ud.other (fun z=>Bb.at (by rw[← z];exact nc)) gc
   obtain ⟨x,ex,mx,_⟩:=atI_some (xs:=[V.int 1,V.int (-1),V.int 2,V.int (-2)]) v0' (by simpa using v1')
   obtain ⟨z,rfl,hz⟩:∃z:Int,x=.int z∧z.natAbs<=2:=by
    simp only[List.mem_cons,List.not_mem_nil,or_false] at mx
    rcases mx with rfl | rfl | rfl | rfl
    ·exact ⟨1,rfl,by decide⟩
    ·exact ⟨-1,rfl,by decide⟩
    ·exact ⟨2,rfl,by decide⟩
    ·exact ⟨-2,rfl,by decide⟩
   have Xd:=(Xb.same sc).upto MA ud Bd
   have kpd:=(kpb.same sc).upto ud
   walk_at "w"
   refine rd_ixL (SqL.of gd) ex ?_
   walk_at "w"
   refine rd_newT fun bt He se ge=>?_
   walk_at "w"
   refine rd_newT fun lt Hf sf gf=>?_
   have Xf:=(Xd.same se).same sf
   have kpf:=(kpd.same se).same sf
   have nb:NumQ K Hf ((z:Int):Rat) (.ref bt):=NumQ.mk (sf _ _ ge) rfl
   have nl:NumQ K Hf ((0 - z:Int):Rat) (.ref lt):=NumQ.mk gf rfl
   clear X Xa Xb Xd kp kpa kpb kpd ua ub ud sc gc gd ex mx ge gf se sf Ba Bb Bd nc
   obtain ⟨us,gu,lu,_,ru⟩:=id Xf.gm
   have e1:us[ii]?=some (us[ii]'(by lia)):=by simp
   have e2:us[jj]?=some (us[jj]'(by lia)):=by simp
   obtain ⟨q1,z1,qs1,w1,a1,g1,k1,p1,l1,c1⟩:=(ru _ (List.mem_of_getElem? e1)).at
   obtain ⟨q2,z2,qs2,w2,a2,g2,k2,p2,l2,c2⟩:=(ru _ (List.mem_of_getElem? e2)).at
   rw[w1] at e1
   rw[w2] at e2
   have W3:3^(17*t)*WV<=2^140:=pow3_le (by lia) V1
   walk_at "w"
   refine rd_ixL (SqL.of gu) (atI_nat e1) ?_
   walk_at "w"
   refine rd_ixL (SqL.of gu) (atI_nat e2) ?_
   walk_at "w"
   refine ⟨_,q2,_,qs2,rfl,nb,szn_int (by lia),⟨z2,g2,p2⟩,by lia,fun y hy=>frP_szn M0 M1 V1 (by lia) (c2 y hy),fun r1 Hg n1 sg R1=>?_⟩
   walk_at "w"
   refine ⟨q1,r1,qs1,_,rfl,⟨z1,sg _ _ g1,Paired.imp' (fun _ _ y=>y.same sg) p1⟩,R1,by rw[List.length_map,l1,l2],by lia,fun y hy=>frP_szn M0 M1 V1 (by lia) (c1 y hy),fun y hy=>?_,fun r2 Hh n2' sh R2=>?_⟩
   ·obtain ⟨y',hy',rfl⟩:=List.mem_map.mp hy
    exact szn_mulP hz (c2 y' hy') M0 M1 W3
   have sfh:=sg.trans sh
   have Xh:=(Xf.same sfh).weak (C':=Fr M (3^(17*t+1)*WV)) fun y h=>h.mono (pow3_m (by lia))
   have kph:=kpf.same sfh
   have guh:=sfh _ _ gu
   have ar2:A r2:=(kpf.same sg).new hA (Xf.same sg).bag (by rw[sg _ _ gu];simp) n2'
   have rp2:RowP K A Hh n (Fr M (3^(17*t+1)*WV)) (.ref r2):=by
    refine ⟨r2,_,rfl,ar2,R2,by rw[List.length_zipWith,List.length_map];lia,fun y hy=>?_⟩
    obtain ⟨j',hj',e⟩:=List.getElem_of_mem hy
    rw[List.getElem_zipWith,List.getElem_map] at e
    rw[← e,← pow3_s]
    exact fr_step hz (c1 _ (List.getElem_mem _)) (c2 _ (List.getElem_mem _))
   walk_at "w"
   refine rd_setL guh (ixN_nat (by lia)) rfl ?_
   have Xi:=Xh.row MA guh rp2 ii
   have kpi:=kph.upd (o:=.lst (us.set ii (.ref r2))) (q:=m) (.inr rfl)
   have nli:NumQ K (upd Hh m (.lst (us.set ii (.ref r2)))) ((0 - z:Int):Rat) (.ref lt):=(nl.same sfh).updL guh
   have nbi:NumQ K (upd Hh m (.lst (us.set ii (.ref r2)))) ((z:Int):Rat) (.ref bt):=(nb.same sfh).updL guh
   generalize upd Hh m (.lst (us.set ii (.ref r2)))=Hi at Xi kpi nli nbi ⊢
   clear nb nl Xf kpf gu ru e1 e2 g1 p1 g2 p2 R1 R2 Xh kph guh rp2 sg sh sfh
   obtain ⟨um,gm,lm,_,rm⟩:=id Xi.gm
   obtain ⟨vl,gl,ll,_,rl⟩:=id Xi.gl
   walk_at "w"
   refine rd_cat gm gl (Nat.le_of_lt (small1000 (by lia))) fun cl Hj sj nj gj=>?_
   have Xj:=Xi.same sj
   have kpj:=kpi.same sj
   have rows:∀x∈um++vl,∀q,x=V.ref q->q≠cl:=fun x hx q e y=>by
    have:RowP K A Hi n (Fr M (3^(17*t+1)*WV)) x:=by
     rcases List.mem_append.mp hx with hx | hx
     ·exact rm x hx
     ·exact rl x hx
    obtain ⟨q',zs,_,e',_,g',_⟩:=this.at
    rw[e] at e'
    cases e'
    rw[y,nj] at g'
    cases g'
   have lj:NumQ K Hj ((0 - z:Int):Rat) (.ref lt):=nli.same sj
   have bj:NumQ K Hj ((z:Int):Rat) (.ref bt):=nbi.same sj
   clear Xi kpi nli nbi
   refine ⟨_,rfl,⟨_,SqL.of gj⟩,?_⟩
   have gmj:=sj _ _ gm
   have glj:=sj _ _ gl
   refine for_list (K:=K) (a:=cl) (xs:=um++vl) (fun s σ' H'=>∃x6:Option V,σ'=[some (.ref b),some (.ref m),some (.ref p),some (.ref l),some (.int n),some (.int t),some (.int ii),some (.int jj),some (.ref bt),some (.ref lt),x6]∧Mix K A H' n (Fr M (3^(17*t+1+s)*WV)) m p l b q0 i o∧KeepC A b m H H'∧H' cl=some (.lst (um++vl))∧H' m=some (.lst um)∧H' l=some (.lst vl)∧NumQ K H' ((0 - z:Int):Rat) (.ref lt)∧NumQ K H' ((z:Int):Rat) (.ref bt)) ⟨_,rfl,Xj,kpj,gj,gmj,glj,lj,bj⟩ (fun s σ' H' _ ⟨_,_,_,_,e,_⟩=>SqL.of e) ?_ ?_
   ·rintro s x σ' Hk hx ⟨y6,rfl,Xk,kpk,gk,gmk,glk,lk,bk⟩
    have hs:s < (um++vl).length:=(List.getElem?_eq_some_iff.mp hx).1
    rw[List.length_append] at hs
    have mx:=List.mem_of_getElem? hx
    have rx:RowP K A Hk n (Fr M (3^(17*t+1+s)*WV)) x:=by
     obtain ⟨um',gm',_,_,rm'⟩:=Xk.gm
     obtain ⟨vl',gl',_,_,rl'⟩:=Xk.gl
     rw[gmk] at gm'
     rw[glk] at gl'
     cases gm'
     cases gl'
     rcases List.mem_append.mp mx with hx | hx
     ·exact rm' x hx
     ·exact rl' x hx
    obtain ⟨q,zs,qs,rfl,aq,gq,lq,pq,lq2,cq⟩:=rx.at
    have qcl:=rows _ mx q rfl
    obtain ⟨vj,ej,nj'⟩:=ixQ pq (j:=jj) (by lia)
    obtain ⟨vi,ei,ni'⟩:=ixQ pq (j:=ii) (by lia)
    have cj:=cq _ (getD_mem (xs:=qs) (i:=jj) (by lia))
    have ci:=cq _ (getD_mem (xs:=qs) (i:=ii) (by lia))
    have W4:3^(17*t+1+s)*WV<=2^140:=pow3_le (by lia) V1
    walk_at "w"
    refine rd_ixL (SqL.of gq) ej ?_
    walk_at "w"
    refine rd_ixL (SqL.of gq) ei ?_
    walk_at "w"
    refine ⟨_,_,_,_,rfl,lk,ni',szn_int (by lia),frP_szn M0 M1 V1 (by lia) ci,fun r3 Hl sl n3=>?_⟩
    walk_at "w"
    refine ⟨_,_,_,_,rfl,nj'.same sl,n3,frP_szn M0 M1 V1 (by lia) cj,szn_mulP (by lia) ci M0 M1 W4,fun r4 Hm sm n4=>?_⟩
    have slm:=sl.trans sm
    walk_at "w"
    refine rd_setL (slm _ _ gq) (ixN_nat (by lia)) rfl ?_
    refine ⟨_,rfl,?_,(kpk.same slm).upd (.inl aq),by rw[upd_ne qcl.symm];exact slm _ _ gk,by rw[upd_ne (fun y=>MA.am (by rw[y];exact aq))];exact slm _ _ gmk,by rw[upd_ne (fun y=>MA.al (by rw[y];exact aq))];exact slm _ _ glk,(lk.same slm).updL (slm _ _ gq),(bk.same slm).updL (slm _ _ gq)⟩
    refine ((Xk.same slm).weak fun y h=>h.mono (pow3_m (by lia))).put MA aq (slm _ _ gq) n4 ?_ jj
    rw[← Nat.add_assoc,← pow3_s]
    exact fr_step (by lia) cj ci
   ·rintro σ' Hk ⟨y6,rfl,Xk,kpk,gk,gmk,glk,lk,bk⟩
    rw[List.length_append,lm,ll] at Xk
    obtain ⟨wp,gp,lp,_,rp⟩:=id Xk.gp
    walk_at "w"
    refine ⟨⟨_,SqL.of gp⟩,?_⟩
    refine for_list (K:=K) (a:=p) (xs:=wp) (fun s σ' H'=>∃x6:Option V,σ'=[some (.ref b),some (.ref m),some (.ref p),some (.ref l),some (.int n),some (.int t),some (.int ii),some (.int jj),some (.ref bt),some (.ref lt),x6]∧Mix K A H' n (Fr M (3^(17*t+1+(n+o)+s)*WV)) m p l b q0 i o∧KeepC A b m H H'∧H' p=some (.lst wp)∧NumQ K H' ((z:Int):Rat) (.ref bt)) ⟨_,rfl,Xk,kpk,gp,bk⟩ (fun s σ' H' _ ⟨_,_,_,_,e,_⟩=>SqL.of e) ?_ ?_
    ·rintro s x σ' Hl hx ⟨w6,rfl,Xl,kpl,gl',bl⟩
     have hs:s < wp.length:=(List.getElem?_eq_some_iff.mp hx).1
     have mx:=List.mem_of_getElem? hx
     have rx:RowP K A Hl n (Fr M (3^(17*t+1+(n+o)+s)*WV)) x:=by
      obtain ⟨wp',gp',_,_,rp'⟩:=Xl.gp
      rw[gl'] at gp'
      cases gp'
      exact rp' x mx
     obtain ⟨q,zs,qs,rfl,aq,gq,lq,pq,lq2,cq⟩:=rx.at
     obtain ⟨vj,ej,nj'⟩:=ixQ pq (j:=jj) (by lia)
     obtain ⟨vi,ei,ni'⟩:=ixQ pq (j:=ii) (by lia)
     have cj:=cq _ (getD_mem (xs:=qs) (i:=jj) (by lia))
     have ci:=cq _ (getD_mem (xs:=qs) (i:=ii) (by lia))
     have W4:3^(17*t+1+(n+o)+s)*WV<=2^140:=pow3_le (by lia) V1
     walk_at "w"
     refine rd_ixL (SqL.of gq) ei ?_
     walk_at "w"
     refine rd_ixL (SqL.of gq) ej ?_
     walk_at "w"
     refine ⟨_,_,_,_,rfl,bl,nj',szn_int (by lia),frP_szn M0 M1 V1 (by lia) cj,fun r3 Hm sm n3=>?_⟩
     walk_at "w"
     refine ⟨_,_,_,_,rfl,ni'.same sm,n3,frP_szn M0 M1 V1 (by lia) ci,szn_mulP (by lia) cj M0 M1 W4,fun r4 Hn sn n4=>?_⟩
     have smn:=sm.trans sn
     walk_at "w"
     refine rd_setL (smn _ _ gq) (ixN_nat (by lia)) rfl ?_
     refine ⟨_,rfl,?_,(kpl.same smn).upd (.inl aq),by rw[upd_ne (fun y=>MA.ap (by rw[y];exact aq))];exact smn _ _ gl',(bl.same smn).updL (smn _ _ gq)⟩
     refine ((Xl.same smn).weak fun y h=>h.mono (pow3_m (by lia))).put MA aq (smn _ _ gq) n4 ?_ ii
     rw[← Nat.add_assoc,← pow3_s]
     exact fr_step (by lia) ci cj
    ·rintro σ' Hl ⟨w6,rfl,Xl,kpl,gl',bl⟩
     exact ⟨_,_,_,_,_,_,rfl,Xl.weak fun y h=>h.mono (pow3_m (by lia)),kpl⟩
  ·rintro σ' H' ⟨x1,x2,x3,x4,x5,x6,rfl,X,kp⟩
   walk_at "w"
   refine rd_newT fun r H2' s' g'=>?_
   exact done r H2' _ (by lia) g' (X.same s') (kp.same s')
theorem sc__law_parts:FnScope ["_law_bag_here","_law_n","_law_ins","_law_outs","_law_wide","_law_way","_law_first","_law_move_here","_law_put","_law_look","_law_k","_law_row_here"] ["_law_bag_here","_law_n","_law_ins","_law_outs","_law_wide"] (defScope s__law_parts):=⟨rfl,rfl,rfl,by decide +kernel,rfl,by decide +kernel,by decide +kernel⟩
theorem ok__law_parts (T : Txt K mg Z) : FnOk P w K mg base CX0 5 Z.a__law_parts Z.d__law_parts ["_law_bag_here", "_law_n", "_law_ins", "_law_outs", "_law_wide"] (sp_partsQ K) := by
  have G__law_take := ok__law_take (P := P) (w := w) (base := base) T
  have G__law_move := ok__law_move (P := P) (w := w) (base := base) T
  have G__law_row := ok__law_row (P := P) (w := w) (base := base) T
  have G__law_mixed := ok__law_mixed (P := P) (w := w) (base := base) T
  refine T.F__law_parts.ok sc__law_parts (fun vs H Q E h => ?_) (fun cdv A outer s H vs Q E hr h => ?_)
  · obtain ⟨b, n, i, o, w, c, rfl, _⟩ := h
    rfl
  · obtain ⟨b, n, i, o, w, c, rfl, hB, n8, i4, o4, w0, w1, hc, hc20, hcM, k⟩ := h
    refine ⟨_, (pss_cons (ps_set (i := 5) sc__law_parts.nd rfl (Or.inl rfl) (pe_call G__law_take (hr.mono (by decide)) rfl T.mg__law_take T.F__law_take.kp T.b__law_take .nil pass0 (pa_cons (pv 0) (pa_cons pe_int pa_nil))))
      (pss_cons (ps_set (i := 6) sc__law_parts.nd rfl (Or.inl rfl) (pe_call G__law_take (hr.mono (by decide)) rfl T.mg__law_take T.F__law_take.kp T.b__law_take .nil pass0 (pa_cons (pv 0) (pa_cons (pe_op op_add (pv 1) pe_int) pa_nil))))
      (pss_cons (ps_set (i := 7) sc__law_parts.nd rfl (Or.inl rfl) (pe_call G__law_move (hr.mono (by decide)) rfl T.mg__law_move T.F__law_move.kp T.b__law_move .nil pass0 (pa_cons (pv 0) (pa_cons (pv 1) (pa_cons (pv 5) (pa_cons (pv 6) (pa_cons (pv 4) pa_nil)))))))
      (pss_cons (ps_setC 8 ["_law_k"] ["_law_bag_here", "_law_n", "_law_wide"] [0, 1, 4] sc__law_parts.nd rfl rfl (pi_range1 rfl T.range (pa_cons (pv 2) pa_nil)) (fun _ => (pg_name (i := 0) (show List.Nodup (α := PySem.Str) ["_law_k", "_law_bag_here", "_law_n", "_law_wide"] by decide +kernel) rfl (Or.inl rfl) (Or.inl rfl))) (fun _ => pf_nil) (fun _ => (pe_call G__law_row (hr.mono (by decide)) rfl T.mg__law_row T.F__law_row.kp T.b__law_row .nil pass0 (pa_cons (pv 1) (pa_cons (pv 2) (pa_cons (pv 3) pa_nil))))))
      (pss_cons (ps_setC 9 ["_law_k"] ["_law_bag_here", "_law_n", "_law_wide"] [0, 1, 4] sc__law_parts.nd rfl rfl (pi_range1 rfl T.range (pa_cons (pv 3) pa_nil)) (fun _ => (pg_name (i := 0) (show List.Nodup (α := PySem.Str) ["_law_k", "_law_bag_here", "_law_n", "_law_wide"] by decide +kernel) rfl (Or.inl rfl) (Or.inl rfl))) (fun _ => pf_nil) (fun _ => (pe_call G__law_row (hr.mono (by decide)) rfl T.mg__law_row T.F__law_row.kp T.b__law_row .nil pass0 (pa_cons (pv 1) (pa_cons (pv 2) (pa_cons (pv 3) pa_nil))))))
      (pss_cons (ps_for PassesOwn.never rfl (pi_range1 rfl T.range (pa_cons (pv 1) pa_nil)) (pg_name (i := 10) sc__law_parts.nd rfl (Or.inl rfl) (Or.inl rfl))
        (pss_cons (ps_for PassesOwn.never rfl (pi_list (pv 8)) (pg_name (i := 11) sc__law_parts.nd rfl (Or.inl rfl) (Or.inl rfl))
        (pss_one (ps_if (PW.pt (pw_or (PW.pt (pw_and (pt_cmpR op_eq (pv 5) pe_int (nomark _)) (pw_and1 (pt_cmpR op_ge (pv 10) (pv 6) (nomark _))))) (pw_or1 (PW.pt (pw_and (pt_cmpR op_eq (pv 5) pe_int (nomark _)) (pw_and (pt_cmpR op_lt (pe_op op_add (pv 10) pe_int) (pv 1) (nomark _)) (pw_and1 (pt_cmpR op_eq (pe_call G__law_take (hr.mono (by decide)) rfl T.mg__law_take T.F__law_take.kp T.b__law_take .nil pass0 (pa_cons (pv 0) (pa_cons pe_int pa_nil))) pe_int (nomark _))))))))) (pss_one (ps_asg (pe_tup (pa_cons pe_int (pa_cons pe_int pa_nil))) (pg_sub (pv 11) (pv 10) set_list))) pss_nil)))
      (pss_one (ps_for PassesOwn.never rfl (pi_list (pv 9)) (pg_name (i := 11) sc__law_parts.nd rfl (Or.inl rfl) (Or.inl rfl))
        (pss_one (ps_if (PW.pt (pw_or (PW.pt (pw_and (pt_cmpR op_eq (pv 5) pe_int (nomark _)) (pw_and1 (pt_cmpR op_ge (pv 10) (pv 6) (nomark _))))) (pw_or1 (PW.pt (pw_and (pt_cmpR op_eq (pv 5) pe_int (nomark _)) (pw_and (pt_cmpR op_gt (pv 10) pe_int (nomark _)) (pw_and1 (pt_cmpR op_eq (pe_call G__law_take (hr.mono (by decide)) rfl T.mg__law_take T.F__law_take.kp T.b__law_take .nil pass0 (pa_cons (pv 0) (pa_cons pe_int pa_nil))) pe_int (nomark _))))))))) (pss_one (ps_asg (pe_tup (pa_cons pe_int (pa_cons pe_int pa_nil))) (pg_sub (pv 11) (pv 10) set_list))) pss_nil))))))
      (pss_one (ps_ret (pe_call G__law_mixed (hr.mono (by decide)) rfl T.mg__law_mixed T.F__law_mixed.kp T.b__law_mixed .nil pass0 (pa_cons (pv 0) (pa_cons (pv 7) (pa_cons (pv 8) (pa_cons (pv 9) pa_nil))))))))))))), ?_⟩
    refine rd_start (σ := [some (.ref b), some (.int n), some (.int i), some (.int o), some (.int w), none, none, none, none, none, none, none]) rfl ?_
    have W1 : 1 ≤ max w 6 := by lia
    obtain ⟨q0, I0, xs0, gq0⟩ := hB.inner
    walk_at "w"
    refine ⟨b, 6, rfl, hB, by decide, by decide, fun way H1 a0 a1 B1 u1 => ?_⟩
    walk_at "w"
    refine ⟨b, _, rfl, B1, by lia, by lia, fun first H2 f0 f1 B2 u2 => ?_⟩
    have u02 := u1.trans u2
    walk_at "w"
    refine ⟨b, n, w, way, first, rfl, B2, n8, w0, w1, fun m us H3 nm0 gm lm rm B3 u3 => ?_⟩
    have u03 := u02.trans u3
    walk_at "w"
    refine ⟨by lia, by lia, ?_⟩
    refine comp_bagR (n := i) (b := b) (RowF K H3) (fun xs => xs.length = n ∧ ∀ x ∈ xs, Dr (max w 6) x) B3 (by lia) (fun a u B => a.upto u B B3.at) ?_ ?_
    · rintro s H' NY NN hi u B k1
      walk_at "w"
      exact ⟨b, n, w, rfl, B, by lia, w0, w1, fun r xs H2 nr R lx dx B2 u2 => k1 _ xs _ u2 B2 ⟨lx, dx⟩ ⟨r, rfl, u.none B nr, R⟩⟩
    rintro ws puts H4 p np u4 B4 gp lp hp pr4 nx4
    have u04 := u03.trans u4
    walk_at "w"
    refine ⟨by lia, by lia, ?_⟩
    refine comp_bagR (n := o) (b := b) (RowF K H4) (fun xs => xs.length = n ∧ ∀ x ∈ xs, Dr (max w 6) x) B4 (by lia) (fun a u B => a.upto u B B4.at) ?_ ?_
    · rintro s H' NY NN hi u B k1
      walk_at "w"
      exact ⟨b, n, w, rfl, B, by lia, w0, w1, fun r xs H2 nr R lx dx B2 u2 => k1 _ xs _ u2 B2 ⟨lx, dx⟩ ⟨r, rfl, u.none B nr, R⟩⟩
    rintro vs looks H5 l nl u5 B5 gl ll hl pr5 nx5
    have u05 := u04.trans u5
    have hm0 : H m = none := u02.none B2 nm0
    have hp0 : H p = none := u03.none B3 np
    have hl0 : H l = none := u04.none B4 nl
    have mb : m ≠ b := fun z => B2.at (by rw [← z]; exact nm0)
    have pb : p ≠ b := fun z => B3.at (by rw [← z]; exact np)
    have lb : l ≠ b := fun z => B4.at (by rw [← z]; exact nl)
    have gm4 := u4.other mb gm
    have gm5 := u5.other mb gm4
    have gp5 := u5.other pb gp
    have mp : m ≠ p := fun z => by rw [z, np] at gm; cases gm
    have ml : m ≠ l := fun z => by rw [z, nl] at gm4; cases gm4
    have pl : p ≠ l := fun z => by rw [z, nl] at gp; cases gp
    have mq : m ≠ q0 := fun z => Inner.at B2 (u02.2 _ I0) (by rw [← z]; exact nm0)
    obtain ⟨A, eA⟩ : ∃ A : Addr → Prop, A = fun q => H q = none ∧ q ≠ m ∧ q ≠ p ∧ q ≠ l := ⟨_, rfl⟩
    have mkA : ∀ {q}, H q = none → q ≠ m → q ≠ p → q ≠ l → A q := fun h1 h2 h3 h4 => by rw [eA]; exact ⟨h1, h2, h3, h4⟩
    have unA : ∀ {q}, A q → H q = none ∧ q ≠ m ∧ q ≠ p ∧ q ≠ l := fun h => by rw [eA] at h; exact h
    have MA : MixA A m p l b q0 := ⟨fun z => (unA z).2.1 rfl, fun z => (unA z).2.2.1 rfl, fun z => (unA z).2.2.2 rfl, fun z => hB.at (unA z).1, (fun z => by have z1 := (unA z).1; rw [gq0] at z1; cases z1), mb, pb, lb, mp, ml, mq⟩
    clear eA
    have X5 : PtI K A n (Dr (max w 6)) m p l b q0 i o ws vs H H5 := by
      refine ⟨⟨B5, u05.2 _ I0, ⟨us, gm5, lm, MA.am, fun x hx => ?_⟩, ⟨ws, gp5, by rw [← pr4.length]; exact lp, MA.ap, fun x hx => ?_⟩, ⟨vs, gl, by rw [← pr5.length]; exact ll, MA.al, ?_⟩⟩, gp5, gl, fun c u e n1 _ _ => u05.1 c u e n1⟩
      · obtain ⟨q, qs, e, ⟨a1, a2⟩, r, z⟩ := rm x hx
        obtain ⟨xq, gq, _⟩ := id r
        have qb : q ≠ b := fun y => B2.at (by rw [← y]; exact a1)
        have r4 := r.upto u4 B3 qb
        obtain ⟨xq4, gq4, _⟩ := id r4
        exact ⟨q, qs, e, mkA (u02.none B2 a1) a2 (fun y => by rw [y, np] at gq; cases gq) (fun y => by rw [y, nl] at gq4; cases gq4), r4.upto u5 B4 qb, z⟩
      · refine RowP.upto (rowF_P (A := A) pr4 hp (fun q hq a b' => ?_) x hx) u5 B4 MA.ab
        exact mkA (u03.none B3 a) (fun y => by rw [y, gm] at a; cases a) (fun y => notin nx4 (by rw [← y]; exact hq)) (fun y => b' (by rw [y]; exact nl))
      · refine rowF_P (A := A) pr5 hl (fun q hq a b' => ?_)
        exact mkA (u04.none B4 a) (fun y => by rw [y, gm4] at a; cases a) (fun y => by rw [y, gp] at a; cases a) (fun y => notin nx5 (by rw [← y]; exact hq))
    clear rm pr4 pr5 nx4 nx5 gm gm4 gm5 gp gp5 gl hp hl
    walk_at "w"
    refine ⟨by lia, by lia, ?_⟩
    refine for_rangeN (n := n) (fun kk σ' H' => (∃ x1 x2, σ' = [some (.ref b), some (.int n), some (.int i), some (.int o), some (.int w), some (.int way), some (.int first), some (.ref m), some (.ref p), some (.ref l), x1, x2]) ∧ PtI K A n (Dr (max w 6)) m p l b q0 i o ws vs H H') ⟨⟨_, _, rfl⟩, X5⟩ ?_ ?_
    · rintro kk σ' Hj hk ⟨⟨x1, x2, rfl⟩, X⟩
      walk_at "w"
      refine ⟨⟨_, SqL.of X.gp⟩, ?_⟩
      refine for_list (K := K) (a := p) (xs := ws) (fun s σ' H' => (∃ x2, σ' = [some (.ref b), some (.int n), some (.int i), some (.int o), some (.int w), some (.int way), some (.int first), some (.ref m), some (.ref p), some (.ref l), some (.int kk), x2]) ∧ PtI K A n (Dr (max w 6)) m p l b q0 i o ws vs H H') ⟨⟨_, rfl⟩, X⟩ (fun s σ' H' _ ⟨_, e⟩ => SqL.of e.gp) ?_ ?_
      · rintro s x σ' Hk hx ⟨⟨y2, rfl⟩, X⟩
        have mx := List.mem_of_getElem? hx
        obtain ⟨q, _, rfl, _⟩ := X.row (.inl mx)
        repeat' (first | walk_at "rd" | refine ite2 (fun _ => ?_) (fun _ => ?_))
        all_goals first
          | exact ⟨⟨_, rfl⟩, X⟩
          | (refine rd_newT fun t Hb sb gb => ?_
             walk_at "w"
             obtain ⟨zs, gz, lz, Xz⟩ := (X.same sb).put MA (.inl mx) (NumQ.mk (q := 0) gb rfl) (dr_int (i := 0) (Nat.zero_le _) W1) kk
             refine rd_setL gz (ixN_nat (by lia)) rfl ?_
             exact ⟨⟨_, rfl⟩, Xz⟩)
          | (refine ⟨b, 2, rfl, X.mix.bag, by decide, by decide, fun d Hd d0 d1 Bd ud => ?_⟩
             replace X := X.upto MA ud Bd
             repeat' (first | walk_at "rd" | refine ite2 (fun _ => ?_) (fun _ => ?_))
             all_goals first
               | exact ⟨⟨_, rfl⟩, X⟩
               | (refine rd_newT fun t Hb sb gb => ?_
                  walk_at "w"
                  obtain ⟨zs, gz, lz, Xz⟩ := (X.same sb).put MA (.inl mx) (NumQ.mk (q := 0) gb rfl) (dr_int (i := 0) (Nat.zero_le _) W1) kk
                  refine rd_setL gz (ixN_nat (by lia)) rfl ?_
                  exact ⟨⟨_, rfl⟩, Xz⟩))
      · rintro σ' Hk ⟨⟨y2, rfl⟩, X⟩
        walk_at "w"
        refine ⟨⟨_, SqL.of X.gl⟩, ?_⟩
        refine for_list (K := K) (a := l) (xs := vs) (fun s σ' H' => (∃ x2, σ' = [some (.ref b), some (.int n), some (.int i), some (.int o), some (.int w), some (.int way), some (.int first), some (.ref m), some (.ref p), some (.ref l), some (.int kk), x2]) ∧ PtI K A n (Dr (max w 6)) m p l b q0 i o ws vs H H') ⟨⟨_, rfl⟩, X⟩ (fun s σ' H' _ ⟨_, e⟩ => SqL.of e.gl) ?_ ?_
        · rintro s x σ' Hk hx ⟨⟨y2, rfl⟩, X⟩
          have mx := List.mem_of_getElem? hx
          obtain ⟨q, _, rfl, _⟩ := X.row (.inr mx)
          repeat' (first | walk_at "rd" | refine ite2 (fun _ => ?_) (fun _ => ?_))
          all_goals first
            | exact ⟨⟨_, rfl⟩, X⟩
            | (refine rd_newT fun t Hb sb gb => ?_
               walk_at "w"
               obtain ⟨zs, gz, lz, Xz⟩ := (X.same sb).put MA (.inr mx) (NumQ.mk (q := 0) gb rfl) (dr_int (i := 0) (Nat.zero_le _) W1) kk
               refine rd_setL gz (ixN_nat (by lia)) rfl ?_
               exact ⟨⟨_, rfl⟩, Xz⟩)
            | (refine ⟨b, 2, rfl, X.mix.bag, by decide, by decide, fun d Hd d0 d1 Bd ud => ?_⟩
               replace X := X.upto MA ud Bd
               repeat' (first | walk_at "rd" | refine ite2 (fun _ => ?_) (fun _ => ?_))
               all_goals first
                 | exact ⟨⟨_, rfl⟩, X⟩
                 | (refine rd_newT fun t Hb sb gb => ?_
                    walk_at "w"
                    obtain ⟨zs, gz, lz, Xz⟩ := (X.same sb).put MA (.inr mx) (NumQ.mk (q := 0) gb rfl) (dr_int (i := 0) (Nat.zero_le _) W1) kk
                    refine rd_setL gz (ixN_nat (by lia)) rfl ?_
                    exact ⟨⟨_, rfl⟩, Xz⟩))
        · rintro σ' Hk ⟨⟨y2, rfl⟩, X⟩
          exact ⟨⟨_, _, rfl⟩, X⟩
    · rintro σ' Hj ⟨⟨x1, x2, rfl⟩, X⟩
      obtain ⟨M, M0, M1, XM⟩ := (X.mix.weak (C' := Dr (2 ^ c)) fun y h => ⟨Nat.le_trans h.1 hc, Nat.le_trans h.2 hc⟩).fr
      have V1 : 2 ^ c ≤ 2 ^ 20 := Nat.pow_le_pow_right (by decide) hc20
      obtain ⟨um, gmj, _, _, _⟩ := X.mix.gm
      walk_at "w"
      refine ⟨b, m, p, l, q0, n, i, o, M, 2 ^ c, A, rfl, MA, XM, n8, i4, o4, M0, Nat.le_trans M1 (Nat.pow_le_pow_right (by decide) hcM), V1, fun q hq => ?_, fun r H' g Y kp => ?_⟩
      · refine mkA ?_ (fun z => by rw [z, gmj] at hq; cases hq) (fun z => by rw [z, X.gp] at hq; cases hq) (fun z => by rw [z, X.gl] at hq; cases hq)
        cases e : H q with
        | none => rfl
        | some u =>
          have := X.kp q u e (fun z => X.mix.bag.at (by rw [← z]; exact hq)) (fun z => by have := (unA z).1; rw [e] at this; cases this) (fun z => by rw [z, hm0] at e; cases e)
          rw [hq] at this; cases this
      · obtain ⟨mv, Gm, lmv, hmv⟩ := gridP_grid (H0 := H) Y.gm fun q h => (unA h).1
        obtain ⟨pt, Gp, lpt, hpt⟩ := gridP_grid (H0 := H) Y.gp fun q h => (unA h).1
        obtain ⟨lk, Gl, llk, hlk⟩ := gridP_grid (H0 := H) Y.gl fun q h => (unA h).1
        refine k r m p l mv pt lk H' g hm0 hp0 hl0 Gm Gp Gl lmv lpt llk ⟨by lia, by lia, by lia, fun xs hx => by rw [(hmv xs hx).1, lmv], fun xs hx => by rw [(hpt xs hx).1, lmv], fun xs hx => by rw [(hlk xs hx).1, lmv]⟩ ⟨M, _, M0, Nat.le_trans M1 (Nat.pow_le_pow_right (by decide) hcM), Nat.le_trans (pow3_le (t := 60) (by decide) V1) (Nat.pow_le_pow_right (by decide) (by decide)), fun xs hx => (hmv xs hx).2, fun xs hx => (hpt xs hx).2, fun xs hx => (hlk xs hx).2⟩ Y.bag ⟨fun c' u e n1 => (X.kp.trans kp) c' u e n1 (fun z => by have := (unA z).1; rw [e] at this; cases this) (fun z => by rw [z, hm0] at e; cases e), fun q h => by rw [← Inner.inj I0 h]; exact Y.inn⟩
theorem sc__law_drawn:FnScope ["_law_bag_here","_law_n","_law_ins","_law_outs","_law_wide"] ["_law_bag_here"] (defScope s__law_drawn):=⟨rfl,rfl,rfl,by decide +kernel,rfl,by decide +kernel,by decide +kernel⟩
theorem ok__law_drawn (T:Txt K mg Z):FnOk P w K mg base CX0 6 Z.a__law_drawn Z.d__law_drawn ["_law_bag_here"] (sp_drawnQ K):=by
 have G__law_sizes:=ok__law_sizes (P:=P) (w:=w) (base:=base) T
 have G__law_parts:=ok__law_parts (P:=P) (w:=w) (base:=base) T
 refine T.F__law_drawn.ok sc__law_drawn (fun vs H Q E h=>?_) (fun cdv A outer s H vs Q E hr h=>?_)
 ·obtain ⟨b,rfl,_⟩:=h
  rfl
 ·obtain ⟨b,rfl,hB,k⟩:=h
  refine ⟨_,(pss_cons (ps_asg (pe_call G__law_sizes (hr.mono (by decide)) rfl T.mg__law_sizes T.F__law_sizes.kp T.b__law_sizes .nil pass0 (pa_cons (pv 0) pa_nil)) (pg_tup rfl (pgs_cons (pg_name (i:=1) sc__law_drawn.nd rfl (Or.inl rfl) (Or.inl rfl)) (pgs_cons (pg_name (i:=2) sc__law_drawn.nd rfl (Or.inl rfl) (Or.inl rfl)) (pgs_cons (pg_name (i:=3) sc__law_drawn.nd rfl (Or.inl rfl) (Or.inl rfl)) (pgs_cons (pg_name (i:=4) sc__law_drawn.nd rfl (Or.inl rfl) (Or.inl rfl)) pgs_nil))))))
   (pss_one (ps_ret (pe_tup (pa_cons (pe_call G__law_parts (hr.mono (by decide)) rfl T.mg__law_parts T.F__law_parts.kp T.b__law_parts .nil pass0 (pa_cons (pv 0) (pa_cons (pv 1) (pa_cons (pv 2) (pa_cons (pv 3) (pa_cons (pv 4) pa_nil)))))) (pa_cons (pe_callB (call_min2 rfl) (by rfl) T.min PyProof.Rows.boot_min (pa_cons (pv 4) (pa_cons pe_int pa_nil))) pa_nil)))))),?_⟩
  refine rd_start (σ:=[some (.ref b),none,none,none,none]) rfl ?_
  walk_at "w"
  refine ⟨b,rfl,hB,fun r n i o w H1 g1 n5 i4 o4 hw h5 B1 u1=>?_⟩
  obtain ⟨c,hc,hc20,hcM⟩:∃c:Nat,max w 6<=2^c∧c<=20∧c*((n+i+o)*n)<=800:=by
   have m1:(n+i+o)*n<=13*5:=Nat.mul_le_mul (by lia) n5
   rcases hw with z | z | ⟨z,n2⟩
   ·exact ⟨4,by have:(2:Nat)^4=16:=rfl;lia,by decide,by lia⟩
   ·exact ⟨4,by have:(2:Nat)^4=16:=rfl;lia,by decide,by lia⟩
   ·have m2:(n+i+o)*n<=10*2:=Nat.mul_le_mul (by lia) n2
    exact ⟨20,by have:(2:Nat)^20=1048576:=rfl;lia,by decide,by lia⟩
  have w1:1<=w∧w<=1000000:=by lia
  walk_at "w"
  refine ⟨b,n,i,o,w,c,rfl,B1,by lia,i4,o4,w1.1,w1.2,hc,hc20,hcM,fun r2 m p l mv pt lk H2 g2 nm0 np nl Gm Gp Gl lm lp ll D F B2 u2=>?_⟩
  have wk:∀q,H1 q=none->H q=none:=fun q h=>u1.none B1 h
  have PQ:PartsQ K H H2 r2 mv pt lk:=PartsQ.weak (H0:=H1) ⟨m,p,l,g2,nm0,np,nl,Gm,Gp,Gl⟩ wk
  walk_at "w"
  refine rd_newT fun t H3 s3 g3=>?_
  have e1:(if (1000:Int) < (w:Int) then (1000:Int) else (w:Int))=((min w 1000:Nat):Int):=by split <;> lia
  refine k t r2 (min w 1000) mv pt lk H3 ?_ (PQ.same s3) D F (by lia) (by lia) (by lia) (B2.same s3) ((u1.trans u2).same s3)
  rw[← e1]
  exact g3
theorem sc__law_is_number:FnScope ["_law_thing","_law_part"] ["_law_thing"] (defScope s__law_is_number):=⟨rfl,rfl,rfl,by decide +kernel,rfl,by decide +kernel,by decide +kernel⟩
theorem ok__law_is_number (T:Txt K mg Z):FnOk P w K mg base CX0 2 Z.a__law_is_number Z.d__law_is_number ["_law_thing"] (sp_isnumK K):=by
 have G__law_low:=ok__law_low (P:=P) (w:=w) (base:=base) T
 refine T.F__law_is_number.ok sc__law_is_number (fun vs H Q E h=>?_) (fun cdv A outer s H vs Q E hr h=>?_)
 ·obtain ⟨x,n,rfl,_⟩:=h
  rfl
 ·obtain ⟨x,n,rfl,⟨p,rfl,hp⟩,hn,k⟩:=h
  refine ⟨_,(pss_cons (ps_if (PW.pt (pw_or (pt_not (pt_val (pe_isTK rfl T.isinstance PyProof.Rows.boot_tuple T.tuple (pv 0)))) (pw_or1 (pt_cmpR op_ne (pe_callB call_len_seq (by rfl) T.len PySem.boot_len (pa_cons (pv 0) pa_nil)) pe_int (nomark _))))) (pss_one (ps_ret pe_bl)) pss_nil)
   (pss_cons (ps_for PassesOwn.never rfl (pi_tup (pv 0)) (pg_name (i:=1) sc__law_is_number.nd rfl (Or.inl rfl) (Or.inl rfl))
    (pss_one (ps_if (PW.pt (pw_or (pt_not (pt_val (pe_isTK rfl T.isinstance PyProof.Rows.boot_int T.int (pv 1)))) (pw_or1 (pt_val (pe_isTK rfl T.isinstance PyProof.Rows.boot_bool T.bool (pv 1)))))) (pss_one (ps_ret pe_bl)) pss_nil)))
   (pss_one (ps_ret (pe_and (pe_cmpR op_gt (pe_ix ix_tup (pv 0) pe_int (by intro _ _;rfl)) pe_int (nomark _)) (pe_one (pe_cmpR (op_eqD (hu50 hr)) (pe_call G__law_low (hr.mono (by decide)) rfl T.mg__law_low T.F__law_low.kp T.b__law_low .nil pass0 (pa_cons (pe_ix ix_tup (pv 0) pe_int (by intro _ _;rfl)) (pa_cons (pe_ix ix_tup (pv 0) pe_int (by intro _ _;rfl)) pa_nil))) (pv 0) (nomark _)))))))),?_⟩
  refine rd_start (σ:=[some (.ref p),none]) rfl ?_
  obtain ⟨hb,hg,_,hs⟩:=hn
  walk_at "w"
  refine .inr ⟨p,_,_,rfl,hp,rfl,?_⟩
  walk_at "w"
  refine ⟨_,_,rfl,.inr hp,?_⟩
  walk_at "w"
  try refine iteF ?_
  walk_at "w"
  refine ⟨⟨_,hp⟩,?_⟩
  refine for_tup (K:=K) (a:=p) (xs:=[.int n.1,.int n.2]) (fun i σ' H'=>H'=H∧∃x,σ'=[some (.ref p),x]) ⟨rfl,none,rfl⟩ (fun i σ' H' _ ⟨e,_⟩=>by subst e;exact hp) ?_ ?_
  ·rintro i x σ' H' hx ⟨rfl,y,rfl⟩
   obtain ⟨z,rfl⟩:∃z,x=V.int z:=by
    have hm:x∈[V.int n.1,V.int n.2]:=List.mem_of_getElem? hx
    simp only[List.mem_cons,List.not_mem_nil,or_false] at hm
    rcases hm with e | e
    ·exact ⟨_,e⟩
    ·exact ⟨_,e⟩
   walk_at "w"
   refine .inl ⟨_,_,.int z,rfl,?_⟩
   walk_at "w"
   refine .inl ⟨_,_,.int z,rfl,?_⟩
   walk_at "w"
   exact ⟨rfl,_,rfl⟩
  ·rintro σ' H' ⟨rfl,x,rfl⟩
   walk_at "w"
   rw[decide_eq_true hb]
   walk_at "w"
   refine ⟨n.1,n.2,rfl,hb,hs.mono (by decide),fun r H' s1 h'=>?_⟩
   obtain ⟨e1,e2⟩:=low_id hb hg
   walk_at "w"
   refine ⟨_,_,kNum,(lo n.1 n.2,hi n.1 n.2),n,by decide,⟨r,rfl,SqT.of h'⟩,⟨p,rfl,s1.sqt hp⟩,?_⟩
   rw[e1,e2,decide_eq_true rfl]
   exact k _ s1
theorem sc__law_is_row:FnScope ["_law_thing","_law_many"] ["_law_thing","_law_many"] (defScope s__law_is_row):=⟨rfl,rfl,rfl,by decide +kernel,rfl,by decide +kernel,by decide +kernel⟩
theorem ok__law_is_row (T:Txt K mg Z):FnOk P w K mg base CX0 3 Z.a__law_is_row Z.d__law_is_row ["_law_thing","_law_many"] (sp_isrowK K):=by
 have G__law_is_number:=ok__law_is_number (P:=P) (w:=w) (base:=base) T
 refine T.F__law_is_row.ok sc__law_is_row (fun vs H Q E h=>?_) (fun cdv A outer s H vs Q E hr h=>?_)
 ·obtain ⟨p,ns,rfl,_⟩:=h
  rfl
 ·obtain ⟨p,ns,rfl,hp,hl,hn,k⟩:=h
  refine ⟨_,(pss_cons (ps_if (PW.pt (pw_or (pt_not (pt_val (pe_isT rfl T.isinstance PyProof.Rows.boot_list T.list (pv 0)))) (pw_or1 (pt_cmpR op_ne (pe_callB call_len_seq (by rfl) T.len PySem.boot_len (pa_cons (pv 0) pa_nil)) (pv 1) (nomark _))))) (pss_one (ps_ret pe_bl)) pss_nil)
   (pss_one (ps_ret (pe_callB (call_all rfl) (by rfl) T.all PyProof.Rows.boot_all (pa_cons (pe_comp ["_law_one"] [] [] (pi_list (pv 0)) (fun _=>(pg_name (i:=0) (show List.Nodup (α:=PySem.Str) ["_law_one"] by decide +kernel) rfl (Or.inl rfl) (Or.inl rfl))) (fun _=>pf_nil) (fun _=>(pe_call G__law_is_number (hr.mono (by decide)) rfl T.mg__law_is_number T.F__law_is_number.kp T.b__law_is_number .nil pass0 (pa_cons (pv 0) pa_nil)))) pa_nil))))),?_⟩
  refine rd_start (σ:=[some (.ref p),some (.int ns.length)]) rfl ?_
  obtain ⟨xs,gx,qx⟩:=id hp
  have lx:=qx.length
  walk_at "w"
  refine ⟨_,_,.lst gx,rfl,?_⟩
  walk_at "w"
  refine ⟨_,_,rfl,.inl (SqL.of gx),?_⟩
  walk_at "w"
  rw[show ((xs.length:Nat):Int)=(ns.length:Nat) by rw[lx],decide_eq_true rfl]
  walk_at "w"
  refine ⟨⟨_,SqL.of gx⟩,?_⟩
  refine comp_list (K:=K) (xs:=xs) (fun i ys H'=>Same H H'∧ys=List.replicate i (.bl true)) (Nat.le_of_lt (small1000 (by lia))) ⟨Same.refl _,rfl⟩ (fun i ys H' _ ⟨s,_⟩=>SqL.of (s _ _ gx)) ?_ ?_
  ·rintro i x ys H' hx hlen ⟨s,rfl⟩
   obtain ⟨n,en,z⟩:=paired_at qx hx
   walk_at "w"
   exact ⟨x,n,rfl,s.num z,hn n (List.mem_of_getElem? en),fun H2 s2=>⟨s.trans s2,by rw[List.replicate_succ']⟩⟩
  ·rintro ys H' hy ⟨s,rfl⟩ l hl'
   walk_at "w"
   refine ⟨l,List.replicate xs.length true,rfl,SqL.of (by rw[upd_same];simp),?_⟩
   have e4:(List.replicate xs.length true).all id=true:=by simp
   rw[e4]
   exact k _ (s.trans (Same.new hl'))
theorem sc__law_is_grid:FnScope ["_law_thing","_law_many","_law_wide"] ["_law_thing","_law_many","_law_wide"] (defScope s__law_is_grid):=⟨rfl,rfl,rfl,by decide +kernel,rfl,by decide +kernel,by decide +kernel⟩
theorem ok__law_is_grid (T:Txt K mg Z):FnOk P w K mg base CX0 4 Z.a__law_is_grid Z.d__law_is_grid ["_law_thing","_law_many","_law_wide"] (sp_isgridK K):=by
 have G__law_is_row:=ok__law_is_row (P:=P) (w:=w) (base:=base) T
 refine T.F__law_is_grid.ok sc__law_is_grid (fun vs H Q E h=>?_) (fun cdv A outer s H vs Q E hr h=>?_)
 ·obtain ⟨p,rows,m,rfl,_⟩:=h
  rfl
 ·obtain ⟨p,rows,m,rfl,hp,hl,hm,hn,k⟩:=h
  refine ⟨_,(pss_cons (ps_if (PW.pt (pw_or (pt_not (pt_val (pe_isT rfl T.isinstance PyProof.Rows.boot_list T.list (pv 0)))) (pw_or1 (pt_cmpR op_ne (pe_callB call_len_seq (by rfl) T.len PySem.boot_len (pa_cons (pv 0) pa_nil)) (pv 1) (nomark _))))) (pss_one (ps_ret pe_bl)) pss_nil)
   (pss_one (ps_ret (pe_callB (call_all rfl) (by rfl) T.all PyProof.Rows.boot_all (pa_cons (pe_comp ["_law_row_here"] ["_law_wide"] [2] (pi_list (pv 0)) (fun _=>(pg_name (i:=0) (show List.Nodup (α:=PySem.Str) ["_law_row_here","_law_wide"] by decide +kernel) rfl (Or.inl rfl) (Or.inl rfl))) (fun _=>pf_nil) (fun _=>(pe_call G__law_is_row (hr.mono (by decide)) rfl T.mg__law_is_row T.F__law_is_row.kp T.b__law_is_row .nil pass0 (pa_cons (pv 0) (pa_cons (pv 1) pa_nil))))) pa_nil))))),?_⟩
  refine rd_start (σ:=[some (.ref p),some (.int rows.length),some (.int m)]) rfl ?_
  obtain ⟨xs,gx,qx⟩:=id hp
  have lx:=qx.length
  walk_at "w"
  refine ⟨_,_,.lst gx,rfl,?_⟩
  walk_at "w"
  refine ⟨_,_,rfl,.inl (SqL.of gx),?_⟩
  walk_at "w"
  rw[show ((xs.length:Nat):Int)=(rows.length:Nat) by rw[lx],decide_eq_true rfl]
  walk_at "w"
  refine ⟨⟨_,SqL.of gx⟩,?_⟩
  refine comp_list (K:=K) (xs:=xs) (fun i ys H'=>Same H H'∧ys=List.replicate i (.bl true)) (Nat.le_of_lt (small1000 (by lia))) ⟨Same.refl _,rfl⟩ (fun i ys H' _ ⟨s,_⟩=>SqL.of (s _ _ gx)) ?_ ?_
  ·rintro i x ys H' hx hlen ⟨s,rfl⟩
   obtain ⟨ns,en,q,rfl,z⟩:=paired_at qx hx
   obtain ⟨e1,e2⟩:=hn ns (List.mem_of_getElem? en)
   walk_at "w"
   exact ⟨q,ns,by rw[e1],z.same s,by lia,e2,fun H2 s2=>⟨s.trans s2,by rw[List.replicate_succ']⟩⟩
  ·rintro ys H' hy ⟨s,rfl⟩ l hl'
   walk_at "w"
   refine ⟨l,List.replicate xs.length true,rfl,SqL.of (by rw[upd_same];simp),?_⟩
   have e4:(List.replicate xs.length true).all id=true:=by simp
   rw[e4]
   exact k _ (s.trans (Same.new hl'))
theorem sc__law_fields:FnScope ["_law_system_here","_law_parts_here","_law_move_here","_law_put","_law_look","_law_n","_law_sizes_here"] ["_law_system_here","_law_parts_here"] (defScope s__law_fields):=⟨rfl,rfl,rfl,by decide +kernel,rfl,by decide +kernel,by decide +kernel⟩
theorem ok__law_fields (T:Txt K mg Z):FnOk P w K mg base CX0 5 Z.a__law_fields Z.d__law_fields ["_law_system_here","_law_parts_here"] (sp_fieldsQ K Z.a_System):=by
 have G__law_is_grid:=ok__law_is_grid (P:=P) (w:=w) (base:=base) T
 refine T.F__law_fields.ok sc__law_fields (fun vs H Q E h=>?_) (fun cdv A outer s H vs Q E hr h=>?_)
 ·obtain ⟨x,r,H0,H1,mv,pt,lk,rfl,_⟩:=h
  rfl
 ·obtain ⟨x,r,H0,H1,mv,pt,lk,rfl,S,PQ,D,F,k⟩:=h
  refine ⟨_,(pss_cons (ps_asg (pv 1) (pg_tup rfl (pgs_cons (pg_name (i:=2) sc__law_fields.nd rfl (Or.inl rfl) (Or.inl rfl)) (pgs_cons (pg_name (i:=3) sc__law_fields.nd rfl (Or.inl rfl) (Or.inl rfl)) (pgs_cons (pg_name (i:=4) sc__law_fields.nd rfl (Or.inl rfl) (Or.inl rfl)) pgs_nil)))))
   (pss_cons (ps_set (i:=5) sc__law_fields.nd rfl (Or.inl rfl) (pe_callB call_len_seq (by rfl) T.len PySem.boot_len (pa_cons (pv 2) pa_nil)))
   (pss_cons (ps_if (PW.pt (pw_or (pt_not (pt_val (pe_call G__law_is_grid (hr.mono (by decide)) rfl T.mg__law_is_grid T.F__law_is_grid.kp T.b__law_is_grid .nil pass0 (pa_cons (pe_fld (pv 0) rfl) (pa_cons (pv 5) (pa_cons (pv 5) pa_nil)))))) (pw_or1 (pt_not (pt_val (pe_call G__law_is_grid (hr.mono (by decide)) rfl T.mg__law_is_grid T.F__law_is_grid.kp T.b__law_is_grid .nil pass0 (pa_cons (pe_fld (pv 0) rfl) (pa_cons (pe_callB call_len_seq (by rfl) T.len PySem.boot_len (pa_cons (pv 3) pa_nil)) (pa_cons (pv 5) pa_nil))))))))) (pss_one (ps_ret pe_bl)) pss_nil)
   (pss_cons (ps_if (PW.pt (pw_or (pt_not (pt_val (pe_call G__law_is_grid (hr.mono (by decide)) rfl T.mg__law_is_grid T.F__law_is_grid.kp T.b__law_is_grid .nil pass0 (pa_cons (pe_fld (pv 0) rfl) (pa_cons (pe_callB call_len_seq (by rfl) T.len PySem.boot_len (pa_cons (pv 4) pa_nil)) (pa_cons (pv 5) pa_nil)))))) (pw_or (pt_cmpR (op_neD (hu50 hr)) (pe_fld (pv 0) rfl) (pv 2) (nomark _)) (pw_or (pt_cmpR (op_neD (hu50 hr)) (pe_fld (pv 0) rfl) (pv 3) (nomark _)) (pw_or1 (pt_cmpR (op_neD (hu50 hr)) (pe_fld (pv 0) rfl) (pv 4) (nomark _))))))) (pss_one (ps_ret pe_bl)) pss_nil)
   (pss_cons (ps_set (i:=6) sc__law_fields.nd rfl (Or.inl rfl) (pe_lst (pa_cons (pe_fld (pv 0) rfl) (pa_cons (pe_fld (pv 0) rfl) (pa_cons (pe_fld (pv 0) rfl) pa_nil)))))
   (pss_cons (ps_if (pt_val (pe_callB (call_any rfl) (by rfl) T.any PyProof.Rows.boot_any (pa_cons (pe_comp ["_law_one"] [] [] (pi_list (pv 6)) (fun _=>(pg_name (i:=0) (show List.Nodup (α:=PySem.Str) ["_law_one"] by decide +kernel) rfl (Or.inl rfl) (Or.inl rfl))) (fun _=>pf_nil) (fun _=>(pe_or (pe_isTb K rfl T.isinstance PyProof.Rows.boot_bool T.bool (pv 0)) (pe_one (pe_not (pe_isTb K rfl T.isinstance PyProof.Rows.boot_int T.int (pv 0))))))) pa_nil))) (pss_one (ps_ret pe_bl)) pss_nil)
   (pss_one (ps_ret (pe_cmpR (op_eqD (hu50 hr)) (pv 6) (pe_lst (pa_cons (pv 5) (pa_cons (pe_callB call_len_seq (by rfl) T.len PySem.boot_len (pa_cons (pv 3) pa_nil)) (pa_cons (pe_callB call_len_seq (by rfl) T.len PySem.boot_len (pa_cons (pv 4) pa_nil)) pa_nil)))) (nomark _)))))))))),?_⟩
  refine rd_start (σ:=[some (.ref x),some (.ref r),none,none,none,none,none]) rfl ?_
  obtain ⟨m,p,l,g,n1,n2,n3,Gm,Gp,Gl⟩:=id PQ
  obtain ⟨dx,a,b,c,gx,m1,m2,m3,Ga,Gb,Gc⟩:=id S
  have d1:=D.n8
  have d2:=D.i4
  have d3:=D.o4
  have lm:(mv.map (List.map nm)).length=mv.length:=List.length_map ..
  have lp:(pt.map (List.map nm)).length=pt.length:=List.length_map ..
  have ll:(lk.map (List.map nm)).length=lk.length:=List.length_map ..
  have ok:∀(rows:List (List Rat)),(∀xs∈rows,xs.length=mv.length)->GOk rows->∀ns∈rows.map (List.map nm),ns.length=mv.length∧∀n∈ns,NumOk n:=fun rows hr ho ns hn=>by
   obtain ⟨qs,hq,rfl⟩:=List.mem_map.mp hn
   refine ⟨by rw[List.length_map];exact hr qs hq,fun n hn=>?_⟩
   obtain ⟨y,hy,rfl⟩:=List.mem_map.mp hn
   exact ho qs hq y hy
  obtain ⟨ms,gm,qm,_⟩:=id Gm
  obtain ⟨ps,gp,qp,_⟩:=id Gp
  obtain ⟨ls,gl,ql,_⟩:=id Gl
  have lms:=qm.length
  have lps:=qp.length
  have lls:=ql.length
  walk_at "w"
  refine ⟨_,_,rfl,.inl (SqL.of gm),?_⟩
  rw[← lms]
  walk_at "w"
  refine ⟨x,Z.a_System,dx,_,_,rfl,gx,T.cl_System,T.na_move,sys_move,?_⟩
  walk_at "w"
  refine ⟨a,_,mv.length,by rw[lm],Ga.gridK,by rw[lm];lia,by lia,fun ns' hx=>ok mv D.mw F.ok.1 ns' hx,fun H2 s2=>?_⟩
  walk_at "w"
  refine ⟨x,Z.a_System,dx,_,_,rfl,(s2 _ _ gx),T.cl_System,T.na_put,sys_put,?_⟩
  walk_at "w"
  refine ⟨_,_,rfl,.inl (SqL.of (s2 _ _ gp)),?_⟩
  rw[← lps]
  walk_at "w"
  refine ⟨b,_,mv.length,by rw[lp],(Gb.same s2).gridK,by rw[lp];lia,by lia,fun ns' hx=>ok pt D.pw F.ok.2.1 ns' hx,fun H3 s3=>?_⟩
  walk_at "w"
  have s23:=s2.trans s3
  refine ⟨x,Z.a_System,dx,_,_,rfl,(s23 _ _ gx),T.cl_System,T.na_look,sys_look,?_⟩
  walk_at "w"
  refine ⟨_,_,rfl,.inl (SqL.of (s23 _ _ gl)),?_⟩
  rw[← lls]
  walk_at "w"
  refine ⟨c,_,mv.length,by rw[ll],(Gc.same s23).gridK,by rw[ll];lia,by lia,fun ns' hx=>ok lk D.lw F.ok.2.2 ns' hx,fun H4 s4=>?_⟩
  walk_at "w"
  have s24:=s23.trans s4
  have gx4:=s24 _ _ gx
  refine ⟨x,Z.a_System,dx,_,_,rfl,gx4,T.cl_System,T.na_move,sys_move,?_⟩
  walk_at "w"
  refine ⟨_,_,kGridQ,_,_,by decide,(Ga.same s24).kind,(Gm.same s24).kind,?_⟩
  rw[decide_eq_true rfl]
  walk_at "w"
  refine ⟨x,Z.a_System,dx,_,_,rfl,gx4,T.cl_System,T.na_put,sys_put,?_⟩
  walk_at "w"
  refine ⟨_,_,kGridQ,_,_,by decide,(Gb.same s24).kind,(Gp.same s24).kind,?_⟩
  rw[decide_eq_true rfl]
  walk_at "w"
  refine ⟨x,Z.a_System,dx,_,_,rfl,gx4,T.cl_System,T.na_look,sys_look,?_⟩
  walk_at "w"
  refine ⟨_,_,kGridQ,_,_,by decide,(Gc.same s24).kind,(Gl.same s24).kind,?_⟩
  rw[decide_eq_true rfl]
  walk_at "w"
  refine ⟨x,Z.a_System,dx,_,_,rfl,gx4,T.cl_System,T.na_states,sys_states,?_⟩
  walk_at "w"
  refine ⟨x,Z.a_System,dx,_,_,rfl,gx4,T.cl_System,T.na_ins,sys_ins,?_⟩
  walk_at "w"
  refine ⟨x,Z.a_System,dx,_,_,rfl,gx4,T.cl_System,T.na_outs,sys_outs,?_⟩
  walk_at "w"
  refine rd_newL fun sz H5 s5 n5 g5=>?_
  have s25:=s24.trans s5
  walk_at "w"
  refine ⟨⟨_,SqL.of g5⟩,?_⟩
  refine comp_list (K:=K) (xs:=[V.int mv.length,V.int pt.length,V.int lk.length]) (fun i ys H'=>H'=H5∧ys=List.replicate i (V.bl false)) (Nat.le_of_lt (small1000 (by show 3<=1000;decide))) ⟨rfl,rfl⟩ (fun i ys H' _ ⟨e,_⟩=>by subst e;exact SqL.of g5) ?_ ?_
  ·rintro i v ys H' hv hlen ⟨rfl,rfl⟩
   obtain ⟨z,rfl⟩:∃z:Nat,v=V.int z:=by
    have hm:=List.mem_of_getElem? hv
    simp only[List.mem_cons,List.not_mem_nil,or_false] at hm
    rcases hm with e | e | e
    ·exact ⟨_,e⟩
    ·exact ⟨_,e⟩
    ·exact ⟨_,e⟩
   walk_at "w"
   refine ⟨_,false,.int z,rfl,?_⟩
   walk_at "w"
   refine ⟨_,true,.int z,rfl,?_⟩
   walk_at "w"
   exact ⟨rfl,by rw[List.replicate_succ'];rfl⟩
  rintro ys H' hy ⟨rfl,rfl⟩ t ht
  walk_at "w"
  refine ⟨t,[false,false,false],rfl,SqL.of upd_same,?_⟩
  have s6:Same H' (upd H' t (.lst (List.replicate 3 (V.bl false)))):=Same.new ht
  have e3:[V.int mv.length,V.int pt.length,V.int lk.length].length=3:=rfl
  rw[e3]
  generalize upd H' t (.lst (List.replicate 3 (V.bl false)))=H6 at s6 ⊢
  have e4:[false,false,false].any id=false:=rfl
  rw[e4]
  walk_at "w"
  have s26:=s25.trans s6
  refine ⟨_,_,rfl,.inl (SqL.of (s26 _ _ gp)),?_⟩
  rw[← lps]
  walk_at "w"
  refine ⟨_,_,rfl,.inl (SqL.of (s26 _ _ gl)),?_⟩
  rw[← lls]
  walk_at "w"
  refine rd_newL fun t2 H7 s7 n7 g7=>?_
  walk_at "w"
  refine ⟨_,_,kLst kInt,[(mv.length:Int),pt.length,lk.length],[(mv.length:Int),pt.length,lk.length],by decide,⟨sz,_,rfl,SqL.of ((s6.trans s7) _ _ g5),.cons rfl (.cons rfl (.cons rfl .nil))⟩,⟨t2,_,rfl,SqL.of g7,.cons rfl (.cons rfl (.cons rfl .nil))⟩,?_⟩
  rw[decide_eq_true rfl]
  exact k _ (s26.trans s7)
theorem sc_want_list:FnScope ["thing","at","most"] ["thing","at","most"] (defScope s_want_list):=⟨rfl,rfl,rfl,by decide +kernel,rfl,by decide +kernel,by decide +kernel⟩
theorem ok_want_list (T:Txt K mg Z):FnOk P w K mg base CX0 1 Z.a_want_list Z.d_want_list ["thing","at","most"] sp_want:=by
 refine T.F_want_list.ok sc_want_list (fun vs H Q E h=>?_) (fun cdv A outer s H vs Q E hr h=>?_)
 ·obtain ⟨p,xs,a,m,rfl,_⟩:=h
  rfl
 ·obtain ⟨p,xs,a,m,rfl,gx,hm,k⟩:=h
  refine ⟨_,(pss_cons (ps_if (pt_not (pt_val (pe_isT rfl T.isinstance PyProof.Rows.boot_list T.list (pv 0)))) (pss_one ps_no) pss_nil)
   (pss_one (ps_if (pt_cmpR op_gt (pe_callB call_len_seq (by rfl) T.len PySem.boot_len (pa_cons (pv 0) pa_nil)) (pv 2) (nomark _)) (pss_one ps_no) pss_nil))),?_⟩
  refine rd_start (σ:=[some (.ref p),some (.int a),some (.int m)]) rfl ?_
  walk_at "w"
  refine ⟨_,_,.lst gx,rfl,?_⟩
  walk_at "w"
  refine ⟨_,_,rfl,.inl (SqL.of gx),?_⟩
  walk_at "w"
  rw[decide_eq_false (show ¬m < (xs.length:Int) by lia)]
  walk_at "w"
  exact k
theorem sc_is_whole:FnScope ["thing"] ["thing"] (defScope s_is_whole):=⟨rfl,rfl,rfl,by decide +kernel,rfl,by decide +kernel,by decide +kernel⟩
theorem ok_is_whole (T:Txt K mg Z):FnOk P w K mg base CX0 1 Z.a_is_whole Z.d_is_whole ["thing"] sp_wholeI:=by
 refine T.F_is_whole.ok sc_is_whole (fun vs H Q E h=>?_) (fun cdv A outer s H vs Q E hr h=>?_)
 ·obtain ⟨i,rfl,_⟩:=h
  rfl
 ·obtain ⟨i,rfl,k⟩:=h
  refine ⟨_,(pss_one (ps_ret (pe_and (pe_isT rfl T.isinstance PyProof.Rows.boot_int T.int (pv 0)) (pe_one (pe_not (pe_isT rfl T.isinstance PyProof.Rows.boot_bool T.bool (pv 0))))))),?_⟩
  refine rd_start (σ:=[some (.int i)]) rfl ?_
  walk_at "w"
  refine ⟨_,_,.int i,rfl,?_⟩
  walk_at "w"
  refine ⟨_,_,.int i,rfl,?_⟩
  walk_at "w"
  exact k
theorem sc_common_divisor:FnScope ["one","other","rest"] ["one","other"] (defScope s_common_divisor):=⟨rfl,rfl,rfl,by decide +kernel,rfl,by decide +kernel,by decide +kernel⟩
theorem ok_common_divisor (T:Txt K mg Z):FnOk P w K mg base CX0 1 Z.a_common_divisor Z.d_common_divisor ["one","other"] sp_cd:=by
 refine T.F_common_divisor.ok sc_common_divisor (fun vs H Q E h=>?_) (fun cdv A outer s H vs Q E hr h=>?_)
 ·obtain ⟨a,b,rfl,_⟩:=h
  rfl
 ·obtain ⟨a,b,rfl,k⟩:=h
  refine ⟨_,(pss_cons (ps_while PassesOwn.never (pt_cmpR op_ne (pv 1) pe_int (nomark _))
    (pss_cons (ps_set (i:=2) sc_common_divisor.nd rfl (Or.inl rfl) (pe_op op_modN (pv 0) (pv 1)))
   (pss_cons (ps_set (i:=0) sc_common_divisor.nd rfl (Or.inl rfl) (pv 1))
   (pss_one (ps_set (i:=1) sc_common_divisor.nd rfl (Or.inl rfl) (pv 2))))))
   (pss_one (ps_ret (pe_callB call_abs (by rfl) T.abs PyProof.Rows.boot_abs (pa_cons (pv 0) pa_nil))))),?_⟩
  refine rd_start (σ:=[some (.int a),some (.int b),none]) rfl ?_
  walk_at "w"
  refine while_i (fun σ' H'=>∃(u v:Int) (r:Option V),σ'=[some (.int u),some (.int v),r]∧H'=H∧Int.gcd u v=Int.gcd a b) (fun σ' _=>match σ' with | [_,some (.int v),_]=>v.natAbs | _=>0) ⟨a,b,none,rfl,rfl,rfl⟩ ?_
  rintro σ' H' ⟨u,v,r,rfl,rfl,hg⟩
  walk_at "w"
  refine ite2 (fun h=>?_) (fun h=>?_)
  ·have hv:v≠0:=fun z=>by subst z;simp at h
   walk_at "w"
   refine rd_I (show v≠0 from hv) ?_
   walk_at "w"
   exact ⟨⟨v,u.fmod v,_,rfl,rfl,(gcd_fmod u v).trans hg⟩,fmod_lt u v hv⟩
  ·have hv:v=0:=by
    by_cases z:v=0
    ·exact z
    ·exfalso;apply h;simp [z]
   subst hv
   walk_at "w"
   have e:(if u < 0 then -u else u)=g a b:=by
    unfold g
    rw[← hg,Int.gcd_zero_right]
    split <;> lia
   rw[e]
   exact k
theorem sc_is_number:FnScope ["thing"] ["thing"] (defScope s_is_number):=⟨rfl,rfl,rfl,by decide +kernel,rfl,by decide +kernel,by decide +kernel⟩
theorem ok_is_number (T:Txt K mg Z):FnOk P w K mg base CX0 2 Z.a_is_number Z.d_is_number ["thing"] (sp_isnumP K):=by
 have G_is_whole:=ok_is_whole (P:=P) (w:=w) (base:=base) T
 have G_common_divisor:=ok_common_divisor (P:=P) (w:=w) (base:=base) T
 refine T.F_is_number.ok sc_is_number (fun vs H Q E h=>?_) (fun cdv A outer s H vs Q E hr h=>?_)
 ·obtain ⟨x,n,rfl,_⟩:=h
  rfl
 ·obtain ⟨x,n,rfl,⟨p,rfl,hp⟩,hn,k⟩:=h
  refine ⟨_,(pss_cons (ps_if (PW.pt (pw_or (pt_not (pt_val (pe_isTK rfl T.isinstance PyProof.Rows.boot_tuple T.tuple (pv 0)))) (pw_or1 (pt_cmpR op_ne (pe_callB call_len_seq (by rfl) T.len PySem.boot_len (pa_cons (pv 0) pa_nil)) pe_int (nomark _))))) (pss_one (ps_ret pe_bl)) pss_nil)
   (pss_cons (ps_if (PW.pt (pw_or (pt_not (pt_val (pe_call G_is_whole (hr.mono (by decide)) rfl T.mg_is_whole T.F_is_whole.kp T.b_is_whole .nil pass0 (pa_cons (pe_ix ix_tup (pv 0) pe_int (by intro _ _;rfl)) pa_nil)))) (pw_or1 (pt_not (pt_val (pe_call G_is_whole (hr.mono (by decide)) rfl T.mg_is_whole T.F_is_whole.kp T.b_is_whole .nil pass0 (pa_cons (pe_ix ix_tup (pv 0) pe_int (by intro _ _;rfl)) pa_nil))))))) (pss_one (ps_ret pe_bl)) pss_nil)
   (pss_one (ps_ret (pe_and (pe_cmpR op_ge (pe_ix ix_tup (pv 0) pe_int (by intro _ _;rfl)) pe_int (nomark _)) (pe_one (pe_cmpR op_eq (pe_call G_common_divisor (hr.mono (by decide)) rfl T.mg_common_divisor T.F_common_divisor.kp T.b_common_divisor .nil pass0 (pa_cons (pe_ix ix_tup (pv 0) pe_int (by intro _ _;rfl)) (pa_cons (pe_ix ix_tup (pv 0) pe_int (by intro _ _;rfl)) pa_nil))) pe_int (nomark _)))))))),?_⟩
  refine rd_start (σ:=[some (.ref p)]) rfl ?_
  obtain ⟨hb,hg,s1,s2⟩:=hn
  walk_at "w"
  refine .inr ⟨p,_,_,rfl,hp,rfl,?_⟩
  walk_at "w"
  refine ⟨_,_,rfl,.inr hp,?_⟩
  walk_at "w"
  try refine iteF ?_
  walk_at "w"
  refine ⟨n.1,rfl,?_⟩
  walk_at "w"
  refine ⟨n.2,rfl,?_⟩
  walk_at "w"
  rw[decide_eq_true (show (1:Int)<=n.2 by lia)]
  walk_at "w"
  refine ⟨n.1,n.2,rfl,?_⟩
  walk_at "w"
  have e:g n.1 n.2=1:=by unfold g;rw[hg];rfl
  rw[e,decide_eq_true rfl]
  exact k _ (Same.refl _)
theorem sc_is_row:FnScope ["thing","many"] ["thing","many"] (defScope s_is_row):=⟨rfl,rfl,rfl,by decide +kernel,rfl,by decide +kernel,by decide +kernel⟩
theorem ok_is_row (T:Txt K mg Z):FnOk P w K mg base CX0 3 Z.a_is_row Z.d_is_row ["thing","many"] (sp_isrowK K):=by
 have G_is_number:=ok_is_number (P:=P) (w:=w) (base:=base) T
 refine T.F_is_row.ok sc_is_row (fun vs H Q E h=>?_) (fun cdv A outer s H vs Q E hr h=>?_)
 ·obtain ⟨p,ns,rfl,_⟩:=h
  rfl
 ·obtain ⟨p,ns,rfl,hp,hl,hn,k⟩:=h
  refine ⟨_,(pss_cons (ps_if (PW.pt (pw_or (pt_not (pt_val (pe_isT rfl T.isinstance PyProof.Rows.boot_list T.list (pv 0)))) (pw_or1 (pt_cmpR op_ne (pe_callB call_len_seq (by rfl) T.len PySem.boot_len (pa_cons (pv 0) pa_nil)) (pv 1) (nomark _))))) (pss_one (ps_ret pe_bl)) pss_nil)
   (pss_one (ps_ret (pe_callB (call_all rfl) (by rfl) T.all PyProof.Rows.boot_all (pa_cons (pe_comp ["value"] [] [] (pi_list (pv 0)) (fun _=>(pg_name (i:=0) (show List.Nodup (α:=PySem.Str) ["value"] by decide +kernel) rfl (Or.inl rfl) (Or.inl rfl))) (fun _=>pf_nil) (fun _=>(pe_call G_is_number (hr.mono (by decide)) rfl T.mg_is_number T.F_is_number.kp T.b_is_number .nil pass0 (pa_cons (pv 0) pa_nil)))) pa_nil))))),?_⟩
  refine rd_start (σ:=[some (.ref p),some (.int ns.length)]) rfl ?_
  obtain ⟨xs,gx,qx⟩:=id hp
  have lx:=qx.length
  walk_at "w"
  refine ⟨_,_,.lst gx,rfl,?_⟩
  walk_at "w"
  refine ⟨_,_,rfl,.inl (SqL.of gx),?_⟩
  walk_at "w"
  rw[show ((xs.length:Nat):Int)=(ns.length:Nat) by rw[lx],decide_eq_true rfl]
  walk_at "w"
  refine ⟨⟨_,SqL.of gx⟩,?_⟩
  refine comp_list (K:=K) (xs:=xs) (fun i ys H'=>Same H H'∧ys=List.replicate i (.bl true)) (Nat.le_of_lt (small1000 (by lia))) ⟨Same.refl _,rfl⟩ (fun i ys H' _ ⟨s,_⟩=>SqL.of (s _ _ gx)) ?_ ?_
  ·rintro i x ys H' hx hlen ⟨s,rfl⟩
   obtain ⟨n,en,z⟩:=paired_at qx hx
   walk_at "w"
   exact ⟨x,n,rfl,s.num z,hn n (List.mem_of_getElem? en),fun H2 s2=>⟨s.trans s2,by rw[List.replicate_succ']⟩⟩
  ·rintro ys H' hy ⟨s,rfl⟩ l hl'
   walk_at "w"
   refine ⟨l,List.replicate xs.length true,rfl,SqL.of (by rw[upd_same];simp),?_⟩
   have e4:(List.replicate xs.length true).all id=true:=by simp
   rw[e4]
   exact k _ (s.trans (Same.new hl'))
theorem sc_copied_rows:FnScope ["things","wide","place","thing"] ["things","wide"] (defScope s_copied_rows):=⟨rfl,rfl,rfl,by decide +kernel,rfl,by decide +kernel,by decide +kernel⟩
theorem ok_copied_rows (T:Txt K mg Z):FnOk P w K mg base CX0 4 Z.a_copied_rows Z.d_copied_rows ["things","wide"] (sp_copR K):=by
 have G_is_row:=ok_is_row (P:=P) (w:=w) (base:=base) T
 refine T.F_copied_rows.ok sc_copied_rows (fun vs H Q E h=>?_) (fun cdv A outer s H vs Q E hr h=>?_)
 ·obtain ⟨p,H0,rows,w,rfl,_⟩:=h
  rfl
 ·obtain ⟨p,H0,rows,w,rfl,hp,hl,hw,hn,k⟩:=h
  refine ⟨_,(pss_cons (ps_for PassesOwn.never rfl (pi_enum rfl T.enumerate (pa_cons (pv 0) pa_nil)) (pg_tup rfl (pgs_cons (pg_name (i:=2) sc_copied_rows.nd rfl (Or.inl rfl) (Or.inl rfl)) (pgs_cons (pg_name (i:=3) sc_copied_rows.nd rfl (Or.inl rfl) (Or.inl rfl)) pgs_nil)))
    (pss_one (ps_if (pt_not (pt_val (pe_call G_is_row (hr.mono (by decide)) rfl T.mg_is_row T.F_is_row.kp T.b_is_row .nil pass0 (pa_cons (pv 3) (pa_cons (pv 1) pa_nil))))) (pss_one ps_no) pss_nil)))
   (pss_one (ps_ret (pe_comp ["row"] [] [] (pi_list (pv 0)) (fun _=>(pg_name (i:=0) (show List.Nodup (α:=PySem.Str) ["row"] by decide +kernel) rfl (Or.inl rfl) (Or.inl rfl))) (fun _=>pf_nil) (fun _=>(pe_callTy (call_list_ofK K (by rfl)) (by rfl) T.list PyProof.Rows.boot_list (pa_cons (pv 0) pa_nil))))))),?_⟩
  refine rd_start (σ:=[some (.ref p),some (.int w),none,none]) rfl ?_
  obtain ⟨xs,gx,qx,_⟩:=id hp
  walk_at "w"
  refine ⟨⟨_,SqL.of gx⟩,?_⟩
  refine for_enum (K:=K) (l:=p) (xs:=xs) (fun i σ' H'=>Same H H'∧∃x y,σ'=[some (.ref p),some (.int w),x,y]) ⟨Same.refl _,none,none,rfl⟩ (fun i σ' H' _ ⟨s,_⟩=>SqL.of (s _ _ gx)) ?_ ?_
  ·rintro i x σ' H' t hx ⟨s,x1,y1,rfl⟩ ht
   obtain ⟨qs,eq,q,rfl,_,Rq⟩:=paired_at qx hx
   have hm:=List.mem_of_getElem? eq
   have st:Same H' (upd H' t (.tup [.int i,.ref q])):=Same.new ht
   have gt:(upd H' t (.tup [.int i,.ref q])) t=some (.tup [.int i,.ref q]):=upd_same
   have s2:=s.trans st
   generalize upd H' t (.tup [.int i,.ref q])=H2 at st gt s2 ⊢
   have lq:(qs.map nm).length=w:=by rw[List.length_map];exact (hn qs hm).1
   walk_at "w"
   refine ⟨q,_,by rw[lq],(Rq.same s2).rowK,by rw[lq];exact hw,fun n hn'=>?_,fun H3 s3=>?_⟩
   ·obtain ⟨y,hy,rfl⟩:=List.mem_map.mp hn'
    exact (hn qs hm).2 y hy
   walk_at "w"
   exact ⟨s2.trans s3,_,_,rfl⟩
  ·rintro σ' H' ⟨s,x1,y1,rfl⟩
   walk_at "w"
   refine ⟨⟨_,SqL.of (s _ _ gx)⟩,?_⟩
   refine comp_mapL (K:=K) (F:=RowF K H0) (RowF K H) id (s _ _ gx) (Paired.imp' (fun _ _ z=>z.same s) qx) hl (fun a b=>a.same b) (fun a b=>a.same b) ?_ ?_
   ·rintro i ns x H2 NY NN en s2 ⟨u,rfl,_,zs,gz,qz⟩ k1
    walk_at "w"
    refine ⟨u,zs,rfl,.inl (SqL.of gz),fun l1 hl1=>?_⟩
    exact k1 _ _ (Same.new hl1) ⟨l1,rfl,s.none (s2.none hl1),zs,upd_same,Paired.imp' (fun _ _ z=>z.same (Same.new hl1)) qz⟩
   ·rintro ys' H2 r hr s2 g pr nx
    rw[List.map_id] at pr nx
    exact k r H2 (s.none hr) (s.trans s2) ⟨ys',g,pr,notin nx⟩
theorem sc_System___init__:FnScope ["self","move","put","look"] ["self","move","put","look"] (defScope s_System___init__):=⟨rfl,rfl,rfl,by decide +kernel,rfl,by decide +kernel,by decide +kernel⟩
theorem ok_System___init__ (T:Txt K mg Z):FnOk P w K mg base CX0 5 Z.a_System___init__ Z.d_System___init__ ["self","move","put","look"] (sp_init K Z.a_System):=by
 have G_want_list:=ok_want_list (P:=P) (w:=w) (base:=base) T
 have G_copied_rows:=ok_copied_rows (P:=P) (w:=w) (base:=base) T
 refine T.F_System___init__.ok sc_System___init__ (fun vs H Q E h=>?_) (fun cdv A outer s H vs Q E hr h=>?_)
 ·obtain ⟨x,dx,p,q,r,Hb,H0,H1,H2,mv,pt,lk,rfl,_⟩:=h
  rfl
 ·obtain ⟨x,dx,p,q,r,Hb,H0,H1,H2,mv,pt,lk,rfl,nx,ndx,nex,rfl,gp,gq,gr,D,om,op,ol,k⟩:=h
  refine ⟨_,(pss_cons (ps_expr (pe_call G_want_list (hr.mono (by decide)) rfl T.mg_want_list T.F_want_list.kp T.b_want_list .nil pass0 (pa_cons (pv 1) (pa_cons pe_int (pa_cons (pe_glob (v:=.int 8) rfl T.mg_MOST_STATES ⟨_,rfl⟩) pa_nil)))))
   (pss_cons (ps_fld (pv 0) (pe_call G_copied_rows (hr.mono (by decide)) rfl T.mg_copied_rows T.F_copied_rows.kp T.b_copied_rows .nil pass0 (pa_cons (pv 1) (pa_cons (pe_callB call_len_seq (by rfl) T.len PySem.boot_len (pa_cons (pv 1) pa_nil)) pa_nil))) rfl)
   (pss_cons (ps_fld (pv 0) (pe_callB call_len_seq (by rfl) T.len PySem.boot_len (pa_cons (pe_fld (pv 0) rfl) pa_nil)) rfl)
   (pss_cons (ps_expr (pe_call G_want_list (hr.mono (by decide)) rfl T.mg_want_list T.F_want_list.kp T.b_want_list .nil pass0 (pa_cons (pv 2) (pa_cons pe_int (pa_cons (pe_glob (v:=.int 4) rfl T.mg_MOST_PUTS ⟨_,rfl⟩) pa_nil)))))
   (pss_cons (ps_fld (pv 0) (pe_call G_copied_rows (hr.mono (by decide)) rfl T.mg_copied_rows T.F_copied_rows.kp T.b_copied_rows .nil pass0 (pa_cons (pv 2) (pa_cons (pe_fld (pv 0) rfl) pa_nil))) rfl)
   (pss_cons (ps_fld (pv 0) (pe_callB call_len_seq (by rfl) T.len PySem.boot_len (pa_cons (pe_fld (pv 0) rfl) pa_nil)) rfl)
   (pss_cons (ps_expr (pe_call G_want_list (hr.mono (by decide)) rfl T.mg_want_list T.F_want_list.kp T.b_want_list .nil pass0 (pa_cons (pv 3) (pa_cons pe_int (pa_cons (pe_glob (v:=.int 4) rfl T.mg_MOST_LOOKS ⟨_,rfl⟩) pa_nil)))))
   (pss_cons (ps_fld (pv 0) (pe_call G_copied_rows (hr.mono (by decide)) rfl T.mg_copied_rows T.F_copied_rows.kp T.b_copied_rows .nil pass0 (pa_cons (pv 3) (pa_cons (pe_fld (pv 0) rfl) pa_nil))) rfl)
   (pss_one (ps_fld (pv 0) (pe_callB call_len_seq (by rfl) T.len PySem.boot_len (pa_cons (pe_fld (pv 0) rfl) pa_nil)) rfl)))))))))),?_⟩
  refine rd_start (σ:=[some (.ref x),some (.ref p),some (.ref q),some (.ref r)]) rfl ?_
  have s0:Same Hb (upd (upd Hb dx (.own x)) x (.ins Z.a_System dx [])):=fun b o e=>by
   rw[upd_ne (ne_of_none e nx),upd_ne (ne_of_none e ndx)]
   exact e
  have hx:(upd (upd Hb dx (.own x)) x (.ins Z.a_System dx [])) x=some (.ins Z.a_System dx []):=upd_same
  have back:∀{b},(upd (upd Hb dx (.own x)) x (.ins Z.a_System dx [])) b=none->Hb b=none:=fun h=>s0.none h
  generalize upd (upd Hb dx (.own x)) x (.ins Z.a_System dx [])=Ha at s0 hx back ⊢
  obtain ⟨xs,gx,qx,_⟩:=id gp
  obtain ⟨ys,gy,qy,_⟩:=id gq
  obtain ⟨zs,gz,qz,_⟩:=id gr
  have lx:=qx.length
  have ly:=qy.length
  have lz:=qz.length
  have d1:=D.n8
  have d2:=D.i4
  have d3:=D.o4
  walk_at "w"
  refine ⟨p,xs,0,8,rfl,s0 _ _ gx,by lia,?_⟩
  walk_at "w"
  refine ⟨_,_,rfl,.inl (SqL.of (s0 _ _ gx)),?_⟩
  walk_at "w"
  refine ⟨p,H0,mv,mv.length,by rw[lx],gp.same s0,by lia,by lia,fun ws hw=>⟨D.mw ws hw,om ws hw⟩,fun a H3 na s3 Ga=>?_⟩
  have hx3:=s3 _ _ hx
  walk_at "w"
  refine ⟨x,Z.a_System,dx,_,rfl,hx3,T.cl_System,T.na_move,(by show 0 < 1000;decide),?_⟩
  have e3:Exc x H3 (upd H3 x (.ins Z.a_System dx (putF "move" (.ref a) []))):=Exc.upd
  have i3:IsIns H3 x:=⟨_,_,_,hx3⟩
  have hx4:(upd H3 x (.ins Z.a_System dx (putF "move" (.ref a) []))) x=some (.ins Z.a_System dx (putF "move" (.ref a) [])):=upd_same
  have Ga4:=Ga.exc e3 i3
  have k4:Same Hb (upd H3 x (.ins Z.a_System dx (putF "move" (.ref a) []))):=(s0.trans s3).after nx
  generalize upd H3 x (.ins Z.a_System dx (putF "move" (.ref a) []))=H4 at e3 hx4 Ga4 k4 ⊢
  walk_at "w"
  refine ⟨x,Z.a_System,dx,_,_,rfl,hx4,T.cl_System,T.na_move,(by rw[lookup_putF,if_pos rfl]),?_⟩
  obtain ⟨as,ga,qa,_⟩:=id Ga4
  have la:=qa.length
  walk_at "w"
  refine ⟨_,_,rfl,.inl (SqL.of ga),?_⟩
  walk_at "w"
  refine ⟨x,Z.a_System,dx,_,rfl,hx4,T.cl_System,T.na_states,Nat.lt_of_le_of_lt putF_len (by show 1 < 1000;decide),?_⟩
  rw[show ((as.length:Nat):Int)=((mv.length:Nat):Int) by rw[la]]
  have e4:Exc x H4 (upd H4 x (.ins Z.a_System dx (putF "states" (.int mv.length) (putF "move" (.ref a) [])))):=Exc.upd
  have i4:IsIns H4 x:=⟨_,_,_,hx4⟩
  have hx5:(upd H4 x (.ins Z.a_System dx (putF "states" (.int mv.length) (putF "move" (.ref a) [])))) x=some (.ins Z.a_System dx (putF "states" (.int mv.length) (putF "move" (.ref a) []))):=upd_same
  have Ga5:=Ga4.exc e4 i4
  have k5:Same Hb (upd H4 x (.ins Z.a_System dx (putF "states" (.int mv.length) (putF "move" (.ref a) [])))):=k4.after nx
  generalize upd H4 x (.ins Z.a_System dx (putF "states" (.int mv.length) (putF "move" (.ref a) [])))=H5 at e4 hx5 Ga5 k5 ⊢
  clear e3 e4 i3 i4 hx4 Ga4 ga qa
  walk_at "w"
  refine ⟨q,ys,1,4,rfl,k5 _ _ gy,by lia,?_⟩
  walk_at "w"
  refine ⟨x,Z.a_System,dx,_,_,rfl,hx5,T.cl_System,T.na_states,(by rw[lookup_putF,if_pos rfl]),?_⟩
  walk_at "w"
  refine ⟨q,H1,pt,mv.length,rfl,gq.same k5,by lia,by lia,fun ws hw=>⟨D.pw ws hw,op ws hw⟩,fun b H6 nb s6 Gb=>?_⟩
  have hx6:=s6 _ _ hx5
  have i6:IsIns H6 x:=⟨_,_,_,hx6⟩
  walk_at "w"
  refine ⟨x,Z.a_System,dx,_,rfl,hx6,T.cl_System,T.na_put,Nat.lt_of_le_of_lt putF_len (Nat.lt_of_le_of_lt (Nat.succ_le_succ putF_len) (by show 2 < 1000;decide)),?_⟩
  have e6:Exc x H6 (upd H6 x (.ins Z.a_System dx (putF "put" (.ref b) (putF "states" (.int mv.length) (putF "move" (.ref a) []))))):=Exc.upd
  have hx7:(upd H6 x (.ins Z.a_System dx (putF "put" (.ref b) (putF "states" (.int mv.length) (putF "move" (.ref a) []))))) x=some (.ins Z.a_System dx (putF "put" (.ref b) (putF "states" (.int mv.length) (putF "move" (.ref a) [])))):=upd_same
  have Ga7:=(Ga5.same s6).exc e6 i6
  have Gb7:=(Gb.weak k5).exc e6 i6
  have k7:Same Hb (upd H6 x (.ins Z.a_System dx (putF "put" (.ref b) (putF "states" (.int mv.length) (putF "move" (.ref a) []))))):=(k5.trans s6).after nx
  generalize upd H6 x (.ins Z.a_System dx (putF "put" (.ref b) (putF "states" (.int mv.length) (putF "move" (.ref a) []))))=H7 at e6 hx7 Ga7 Gb7 k7 ⊢
  obtain ⟨bs,gb,qb,_⟩:=id Gb7
  have lb:=qb.length
  walk_at "w"
  refine ⟨x,Z.a_System,dx,_,_,rfl,hx7,T.cl_System,T.na_put,(by rw[lookup_putF,if_pos rfl]),?_⟩
  walk_at "w"
  refine ⟨_,_,rfl,.inl (SqL.of gb),?_⟩
  walk_at "w"
  refine ⟨x,Z.a_System,dx,_,rfl,hx7,T.cl_System,T.na_ins,Nat.lt_of_le_of_lt putF_len (Nat.lt_of_le_of_lt (Nat.succ_le_succ (Nat.le_trans putF_len (Nat.succ_le_succ putF_len))) (by show 3 < 1000;decide)),?_⟩
  rw[show ((bs.length:Nat):Int)=((pt.length:Nat):Int) by rw[lb]]
  have i7:IsIns H7 x:=⟨_,_,_,hx7⟩
  have e7:Exc x H7 (upd H7 x (.ins Z.a_System dx (putF "ins" (.int pt.length) (putF "put" (.ref b) (putF "states" (.int mv.length) (putF "move" (.ref a) [])))))):=Exc.upd
  have hx8:(upd H7 x (.ins Z.a_System dx (putF "ins" (.int pt.length) (putF "put" (.ref b) (putF "states" (.int mv.length) (putF "move" (.ref a) [])))))) x=some (.ins Z.a_System dx (putF "ins" (.int pt.length) (putF "put" (.ref b) (putF "states" (.int mv.length) (putF "move" (.ref a) []))))):=upd_same
  have Ga8:=Ga7.exc e7 i7
  have Gb8:=Gb7.exc e7 i7
  have k8:Same Hb (upd H7 x (.ins Z.a_System dx (putF "ins" (.int pt.length) (putF "put" (.ref b) (putF "states" (.int mv.length) (putF "move" (.ref a) [])))))):=k7.after nx
  generalize upd H7 x (.ins Z.a_System dx (putF "ins" (.int pt.length) (putF "put" (.ref b) (putF "states" (.int mv.length) (putF "move" (.ref a) [])))))=H8 at e7 hx8 Ga8 Gb8 k8 ⊢
  clear e6 e7 i6 i7 hx7 Ga7 Gb7 gb qb
  walk_at "w"
  refine ⟨r,zs,2,4,rfl,k8 _ _ gz,by lia,?_⟩
  walk_at "w"
  refine ⟨x,Z.a_System,dx,_,_,rfl,hx8,T.cl_System,T.na_states,(by rw[lookup_putF,if_neg (by decide +kernel),lookup_putF,if_neg (by decide +kernel),lookup_putF,if_pos rfl]),?_⟩
  walk_at "w"
  refine ⟨r,H2,lk,mv.length,rfl,gr.same k8,by lia,by lia,fun ws hw=>⟨D.lw ws hw,ol ws hw⟩,fun c H9 nc s9 Gc=>?_⟩
  have hx9:=s9 _ _ hx8
  have i9:IsIns H9 x:=⟨_,_,_,hx9⟩
  walk_at "w"
  refine ⟨x,Z.a_System,dx,_,rfl,hx9,T.cl_System,T.na_look,Nat.lt_of_le_of_lt putF_len (Nat.lt_of_le_of_lt (Nat.succ_le_succ (Nat.le_trans putF_len (Nat.succ_le_succ (Nat.le_trans putF_len (Nat.succ_le_succ putF_len))))) (by show 4 < 1000;decide)),?_⟩
  have e9:Exc x H9 (upd H9 x (.ins Z.a_System dx (putF "look" (.ref c) (putF "ins" (.int pt.length) (putF "put" (.ref b) (putF "states" (.int mv.length) (putF "move" (.ref a) []))))))):=Exc.upd
  have hxA:(upd H9 x (.ins Z.a_System dx (putF "look" (.ref c) (putF "ins" (.int pt.length) (putF "put" (.ref b) (putF "states" (.int mv.length) (putF "move" (.ref a) []))))))) x=some (.ins Z.a_System dx (putF "look" (.ref c) (putF "ins" (.int pt.length) (putF "put" (.ref b) (putF "states" (.int mv.length) (putF "move" (.ref a) [])))))):=upd_same
  have GaA:=(Ga8.same s9).exc e9 i9
  have GbA:=(Gb8.same s9).exc e9 i9
  have GcA:=(Gc.weak k8).exc e9 i9
  have kA:Same Hb (upd H9 x (.ins Z.a_System dx (putF "look" (.ref c) (putF "ins" (.int pt.length) (putF "put" (.ref b) (putF "states" (.int mv.length) (putF "move" (.ref a) []))))))):=(k8.trans s9).after nx
  generalize upd H9 x (.ins Z.a_System dx (putF "look" (.ref c) (putF "ins" (.int pt.length) (putF "put" (.ref b) (putF "states" (.int mv.length) (putF "move" (.ref a) []))))))=HA at e9 hxA GaA GbA GcA kA ⊢
  obtain ⟨cs,gc,qc,_⟩:=id GcA
  have lc:=qc.length
  walk_at "w"
  refine ⟨x,Z.a_System,dx,_,_,rfl,hxA,T.cl_System,T.na_look,(by rw[lookup_putF,if_pos rfl]),?_⟩
  walk_at "w"
  refine ⟨_,_,rfl,.inl (SqL.of gc),?_⟩
  walk_at "w"
  refine ⟨x,Z.a_System,dx,_,rfl,hxA,T.cl_System,T.na_outs,Nat.lt_of_le_of_lt putF_len (Nat.lt_of_le_of_lt (Nat.succ_le_succ (Nat.le_trans putF_len (Nat.succ_le_succ (Nat.le_trans putF_len (Nat.succ_le_succ (Nat.le_trans putF_len (Nat.succ_le_succ putF_len))))))) (by show 5 < 1000;decide)),?_⟩
  rw[show ((cs.length:Nat):Int)=((lk.length:Nat):Int) by rw[lc]]
  have iA:IsIns HA x:=⟨_,_,_,hxA⟩
  exact k _ (kA.after nx) ⟨dx,a,b,c,upd_same,back na,k5.none nb,k8.none nc,(GaA.exc Exc.upd iA).weak s0,GbA.exc Exc.upd iA,GcA.exc Exc.upd iA⟩
theorem sc__law_copied:FnScope ["_law_grid"] ["_law_grid"] (defScope s__law_copied):=⟨rfl,rfl,rfl,by decide +kernel,rfl,by decide +kernel,by decide +kernel⟩
theorem ok__law_copied (T:Txt K mg Z):FnOk P w K mg base CX0 1 Z.a__law_copied Z.d__law_copied ["_law_grid"] (sp_copiedQ K):=by
 refine T.F__law_copied.ok sc__law_copied (fun vs H Q E h=>?_) (fun cdv A outer s H vs Q E hr h=>?_)
 ·obtain ⟨p,H0,rows,rfl,_⟩:=h
  rfl
 ·obtain ⟨p,H0,rows,rfl,hp,hl,hm,k⟩:=h
  refine ⟨_,(pss_one (ps_ret (pe_comp ["_law_row_here"] [] [] (pi_list (pv 0)) (fun _=>(pg_name (i:=0) (show List.Nodup (α:=PySem.Str) ["_law_row_here"] by decide +kernel) rfl (Or.inl rfl) (Or.inl rfl))) (fun _=>pf_nil) (fun _=>(pe_callTy (call_list_ofK K (by rfl)) (by rfl) T.list PyProof.Rows.boot_list (pa_cons (pv 0) pa_nil)))))),?_⟩
  refine rd_start (σ:=[some (.ref p)]) rfl ?_
  obtain ⟨xs,gx,qx,_⟩:=id hp
  walk_at "w"
  refine ⟨⟨_,SqL.of gx⟩,?_⟩
  refine comp_mapL (K:=K) (F:=RowF K H0) (RowF K H) id gx qx hl (fun a b=>a.same b) (fun a b=>a.same b) ?_ ?_
  ·rintro i ns x H' NY NN en s ⟨u,rfl,_,zs,gz,qz⟩ k1
   walk_at "w"
   refine ⟨u,zs,rfl,.inl (SqL.of gz),fun l1 hl1=>?_⟩
   exact k1 _ _ (Same.new hl1) ⟨l1,rfl,s.none hl1,zs,upd_same,Paired.imp' (fun _ _ z=>z.same (Same.new hl1)) qz⟩
  ·rintro ys' H' r hr s g pr nx
   rw[List.map_id] at pr nx
   exact k r H' hr s ⟨ys',g,pr,notin nx⟩
theorem sc__law_system:FnScope ["_law_parts_here","_law_move_here","_law_put","_law_look"] ["_law_parts_here"] (defScope s__law_system):=⟨rfl,rfl,rfl,by decide +kernel,rfl,by decide +kernel,by decide +kernel⟩
theorem ok__law_system (T:Txt K mg Z):FnOk P w K mg base CX0 7 Z.a__law_system Z.d__law_system ["_law_parts_here"] (sp_systemQ K Z.a_System):=by
 have G_System___init__:=ok_System___init__ (P:=P) (w:=w) (base:=base) T
 have G__law_copied:=ok__law_copied (P:=P) (w:=w) (base:=base) T
 refine T.F__law_system.ok sc__law_system (fun vs H Q E h=>?_) (fun cdv A outer s H vs Q E hr h=>?_)
 ·obtain ⟨r,H0,mv,pt,lk,rfl,_⟩:=h
  rfl
 ·obtain ⟨r,H0,mv,pt,lk,rfl,PQ,D,F,k⟩:=h
  refine ⟨_,(pss_cons (ps_asg (pv 0) (pg_tup rfl (pgs_cons (pg_name (i:=1) sc__law_system.nd rfl (Or.inl rfl) (Or.inl rfl)) (pgs_cons (pg_name (i:=2) sc__law_system.nd rfl (Or.inl rfl) (Or.inl rfl)) (pgs_cons (pg_name (i:=3) sc__law_system.nd rfl (Or.inl rfl) (Or.inl rfl)) pgs_nil)))))
   (pss_one (ps_ret (pe_make T.mk_System G_System___init__ (hr.mono (by decide)) rfl T.mg_System T.b_System___init__ .nil pass0 (pa_cons (pe_call G__law_copied (hr.mono (by decide)) rfl T.mg__law_copied T.F__law_copied.kp T.b__law_copied .nil pass0 (pa_cons (pv 1) pa_nil)) (pa_cons (pe_call G__law_copied (hr.mono (by decide)) rfl T.mg__law_copied T.F__law_copied.kp T.b__law_copied .nil pass0 (pa_cons (pv 2) pa_nil)) (pa_cons (pe_call G__law_copied (hr.mono (by decide)) rfl T.mg__law_copied T.F__law_copied.kp T.b__law_copied .nil pass0 (pa_cons (pv 3) pa_nil)) pa_nil))))))),?_⟩
  refine rd_start (σ:=[some (.ref r),none,none,none]) rfl ?_
  obtain ⟨m,p,l,g,n1,n2,n3,Gm,Gp,Gl⟩:=id PQ
  have d1:=D.n8
  have d2:=D.i4
  have d3:=D.o4
  walk_at "w"
  refine ⟨m,H0,mv,rfl,Gm,by lia,fun xs hx=>by rw[D.mw xs hx];lia,fun a H1 na s1 Ga=>?_⟩
  walk_at "w"
  refine ⟨p,H0,pt,rfl,Gp.same s1,by lia,fun xs hx=>by rw[D.pw xs hx];lia,fun b H2 nb s2 Gb=>?_⟩
  have s12:=s1.trans s2
  walk_at "w"
  refine ⟨l,H0,lk,rfl,Gl.same s12,by lia,fun xs hx=>by rw[D.lw xs hx];lia,fun c H3 nc s3 Gc=>?_⟩
  have s13:=s12.trans s3
  walk_at "w"
  intro x dx nx ndx nex
  exact ⟨x,dx,a,b,c,H3,H,H1,H2,mv,pt,lk,rfl,nx,ndx,nex,rfl,(Ga.same s2).same s3,Gb.same s3,Gc,D,F.ok.1,F.ok.2.1,F.ok.2.2,fun H' s' S'=>⟨rfl,k x H' (s13.none nx) (s13.trans s') (S'.weak s13)⟩⟩
theorem sc_grid_turned:FnScope ["grid","wide"] ["grid","wide"] (defScope s_grid_turned):=⟨rfl,rfl,rfl,by decide +kernel,rfl,by decide +kernel,by decide +kernel⟩
theorem ok_grid_turned (T:Txt K mg Z):FnOk P w K mg base CX0 1 Z.a_grid_turned Z.d_grid_turned ["grid","wide"] (sp_turnQ K):=by
 refine T.F_grid_turned.ok sc_grid_turned (fun vs H Q E h=>?_) (fun cdv A outer s H vs Q E hr h=>?_)
 ·obtain ⟨p,w,H0,rows,rfl,_⟩:=h
  rfl
 ·obtain ⟨p,w,H0,rows,rfl,hp,hz,hw,hl,kk⟩:=h
  refine ⟨_,(pss_one (ps_ret (pe_comp ["place"] ["grid"] [0] (pi_range1 rfl T.range (pa_cons (pv 1) pa_nil)) (fun _=>(pg_name (i:=0) (show List.Nodup (α:=PySem.Str) ["place","grid"] by decide +kernel) rfl (Or.inr rfl) (Or.inl rfl))) (fun _=>pf_nil) (fun _=>(pe_comp ["line"] ["place"] [0] (pi_listK K (pv 1)) (fun _=>(pg_name (i:=0) (show List.Nodup (α:=PySem.Str) ["line","place"] by decide +kernel) rfl (Or.inl rfl) (Or.inl rfl))) (fun _=>pf_nil) (fun _=>(pe_ix (ix_listK K (by rfl)) (pv 0) (pv 1) (by intro _ _;rfl)))))))),?_⟩
  refine rd_start (σ:=[some (.ref p),some (.int w)]) rfl ?_
  walk_at "w"
  refine ⟨by lia,by lia,?_⟩
  refine comp_mapR (n:=w) (RowF K H) (fun j=>rows.map fun xs=>xs.getD j 0) hw (fun a b=>a.same b) ?_ ?_
  ·rintro j H1 NY NN hj s1 k1
   obtain ⟨xs,gx,qx,_⟩:=hp.same s1
   walk_at "w"
   refine ⟨⟨_,SqL.of gx⟩,?_⟩
   refine comp_mapL (K:=K) (F:=RowF K H0) (NumQ K) (fun xs=>xs.getD j 0) gx qx hz (fun a b=>a.same b) (fun a b=>a.same b) ?_ ?_
   ·rintro i ns x H2 NY2 NN2 en s2 ⟨u,rfl,_,zs,gz,qz⟩ k2
    obtain ⟨v,ev,hv⟩:=ixQ qz (j:=j) (by rw[hl ns (List.mem_of_getElem? en)];exact hj)
    walk_at "w"
    refine rd_ixL (SqL.of gz) ev ?_
    exact k2 _ _ (Same.refl _) hv
   ·rintro ys' H2 r hr s2 g pr nx
    exact k1 _ _ s2 ⟨r,rfl,s1.none hr,ys',g,pr⟩
  ·rintro ys' H1 r hr s1 g pr nx
   exact kk r H1 hr s1 ⟨ys',g,pr,notin nx⟩
theorem sc_System_turned:FnScope ["self"] ["self"] (defScope s_System_turned):=⟨rfl,rfl,rfl,by decide +kernel,rfl,by decide +kernel,by decide +kernel⟩
theorem ok_System_turned (T:Txt K mg Z):FnOk P w K mg base CX0 7 Z.a_System_turned Z.d_System_turned ["self"] (sp_turnedQ K Z.a_System):=by
 have G_System___init__:=ok_System___init__ (P:=P) (w:=w) (base:=base) T
 have G_grid_turned:=ok_grid_turned (P:=P) (w:=w) (base:=base) T
 refine T.F_System_turned.ok sc_System_turned (fun vs H Q E h=>?_) (fun cdv A outer s H vs Q E hr h=>?_)
 ·obtain ⟨x,H0,mv,pt,lk,rfl,_⟩:=h
  rfl
 ·obtain ⟨x,H0,mv,pt,lk,rfl,S,D,F,k⟩:=h
  refine ⟨_,(pss_one (ps_ret (pe_make T.mk_System G_System___init__ (hr.mono (by decide)) rfl T.mg_System T.b_System___init__ .nil pass0 (pa_cons (pe_call G_grid_turned (hr.mono (by decide)) rfl T.mg_grid_turned T.F_grid_turned.kp T.b_grid_turned .nil pass0 (pa_cons (pe_fld (pv 0) rfl) (pa_cons (pe_fld (pv 0) rfl) pa_nil))) (pa_cons (pe_fld (pv 0) rfl) (pa_cons (pe_fld (pv 0) rfl) pa_nil)))))),?_⟩
  refine rd_start (σ:=[some (.ref x)]) rfl ?_
  obtain ⟨dx,a,b,c,gx,n1,n2,n3,Ga,Gb,Gc⟩:=id S
  have d1:=D.n8
  walk_at "w"
  refine ⟨x,Z.a_System,dx,_,_,rfl,gx,T.cl_System,T.na_move,sys_move,?_⟩
  walk_at "w"
  refine ⟨x,Z.a_System,dx,_,_,rfl,gx,T.cl_System,T.na_states,sys_states,?_⟩
  walk_at "w"
  refine ⟨a,mv.length,H0,mv,rfl,Ga,by lia,by lia,D.mw,fun t H1 nt s1 Gt=>?_⟩
  have gx1:=s1 _ _ gx
  walk_at "w"
  refine ⟨x,Z.a_System,dx,_,_,rfl,gx1,T.cl_System,T.na_look,sys_look,?_⟩
  walk_at "w"
  refine ⟨x,Z.a_System,dx,_,_,rfl,gx1,T.cl_System,T.na_put,sys_put,?_⟩
  walk_at "w"
  intro x' dx' nx ndx nex
  have F':=F.turn
  exact ⟨x',dx',t,c,b,H1,H,H0,H0,_,_,_,rfl,nx,ndx,nex,rfl,Gt,Gc.same s1,Gb.same s1,D.turn,F'.ok.1,F'.ok.2.1,F'.ok.2.2,fun H' s' S'=>⟨rfl,k x' H' (s1.none nx) (s1.trans s') (S'.weak s1)⟩⟩
theorem sc__law_full:FnScope ["_law_n","_law_move_here","_law_rows","_law_more","_law_system_here","_law_turned"] [] (defScope s__law_full):=⟨rfl,rfl,rfl,by decide +kernel,rfl,by decide +kernel,by decide +kernel⟩
theorem ok__law_full (T:Txt K mg Z):FnOk P w K mg base CX0 8 Z.a__law_full Z.d__law_full [] sp_full31:=by
 have G_System___init__:=ok_System___init__ (P:=P) (w:=w) (base:=base) T
 have G__law_fields:=ok__law_fields (P:=P) (w:=w) (base:=base) T
 have G_System_turned:=ok_System_turned (P:=P) (w:=w) (base:=base) T
 refine T.F__law_full.ok sc__law_full (fun vs H Q E h=>?_) (fun cdv A outer s H vs Q E hr h=>?_)
 ·obtain ⟨rfl,_⟩:=h
  rfl
 ·obtain ⟨rfl,k⟩:=h
  refine ⟨_,(pss_cons (ps_set (i:=0) sc__law_full.nd rfl (Or.inr rfl) pe_int)
   (pss_cons (ps_set (i:=1) sc__law_full.nd rfl (Or.inr rfl) (pe_comp ["_law_i"] ["_law_n"] [0] (pi_range1 rfl T.range (pa_cons (pv 0) pa_nil)) (fun _=>(pg_name (i:=0) (show List.Nodup (α:=PySem.Str) ["_law_i","_law_n"] by decide +kernel) rfl (Or.inr rfl) (Or.inl rfl))) (fun _=>pf_nil) (fun _=>(pe_comp ["_law_j"] ["_law_i"] [0] (pi_range1 rfl T.range (pa_cons (pv 1) pa_nil)) (fun _=>(pg_name (i:=0) (show List.Nodup (α:=PySem.Str) ["_law_j","_law_i"] by decide +kernel) rfl (Or.inl rfl) (Or.inl rfl))) (fun _=>pf_nil) (fun _=>(pe_tup (pa_cons (pe_op op_add (pe_callTy call_intB (by rfl) T.int PyProof.Rows.boot_int (pa_cons (pe_cmpR op_eq (pv 0) (pe_op op_add (pv 1) pe_int) (nomark _)) pa_nil)) (pe_op op_mulS (pe_callTy call_intB (by rfl) T.int PyProof.Rows.boot_int (pa_cons (pe_cmpR op_eq (pv 0) pe_int (nomark _)) pa_nil)) (pv 1))) (pa_cons pe_int pa_nil))))))))
   (pss_cons (ps_setC 2 ["_law_k"] ["_law_n"] [0] sc__law_full.nd rfl rfl (pi_range1 rfl T.range (pa_cons pe_int pa_nil)) (fun _=>(pg_name (i:=0) (show List.Nodup (α:=PySem.Str) ["_law_k","_law_n"] by decide +kernel) rfl (Or.inr rfl) (Or.inl rfl))) (fun _=>pf_nil) (fun _=>(pe_comp ["_law_j"] ["_law_k"] [0] (pi_range1 rfl T.range (pa_cons (pv 1) pa_nil)) (fun _=>(pg_name (i:=0) (show List.Nodup (α:=PySem.Str) ["_law_j","_law_k"] by decide +kernel) rfl (Or.inl rfl) (Or.inl rfl))) (fun _=>pf_nil) (fun _=>(pe_tup (pa_cons (pe_op op_add (pv 1) (pv 0)) (pa_cons pe_int pa_nil)))))))
   (pss_cons (ps_setC 3 ["_law_k"] ["_law_n"] [0] sc__law_full.nd rfl rfl (pi_range1 rfl T.range (pa_cons pe_int pa_nil)) (fun _=>(pg_name (i:=0) (show List.Nodup (α:=PySem.Str) ["_law_k","_law_n"] by decide +kernel) rfl (Or.inr rfl) (Or.inl rfl))) (fun _=>pf_nil) (fun _=>(pe_comp ["_law_j"] ["_law_k"] [0] (pi_range1 rfl T.range (pa_cons (pv 1) pa_nil)) (fun _=>(pg_name (i:=0) (show List.Nodup (α:=PySem.Str) ["_law_j","_law_k"] by decide +kernel) rfl (Or.inl rfl) (Or.inl rfl))) (fun _=>pf_nil) (fun _=>(pe_tup (pa_cons (pe_op op_mulS (pv 1) (pv 0)) (pa_cons pe_int pa_nil)))))))
   (pss_cons (ps_set (i:=4) sc__law_full.nd rfl (Or.inl rfl) (pe_make T.mk_System G_System___init__ (hr.mono (by decide)) rfl T.mg_System T.b_System___init__ .nil pass0 (pa_cons (pv 1) (pa_cons (pv 2) (pa_cons (pv 3) pa_nil)))))
   (pss_cons (ps_if (pt_not (pt_val (pe_call G__law_fields (hr.mono (by decide)) rfl T.mg__law_fields T.F__law_fields.kp T.b__law_fields .nil pass0 (pa_cons (pv 4) (pa_cons (pe_tup (pa_cons (pv 1) (pa_cons (pv 2) (pa_cons (pv 3) pa_nil)))) pa_nil))))) (pss_one (ps_ret pe_bl)) pss_nil)
   (pss_cons (ps_setC 5 ["_law_j"] ["_law_n","_law_move_here"] [0,1] sc__law_full.nd rfl rfl (pi_range1 rfl T.range (pa_cons (pv 0) pa_nil)) (fun _=>(pg_name (i:=0) (show List.Nodup (α:=PySem.Str) ["_law_j","_law_n","_law_move_here"] by decide +kernel) rfl (Or.inr rfl) (Or.inl rfl))) (fun _=>pf_nil) (fun _=>(pe_comp ["_law_i"] ["_law_move_here","_law_j"] [2,0] (pi_range1 rfl T.range (pa_cons (pv 1) pa_nil)) (fun _=>(pg_name (i:=0) (show List.Nodup (α:=PySem.Str) ["_law_i","_law_move_here","_law_j"] by decide +kernel) rfl (Or.inl rfl) (Or.inl rfl))) (fun _=>pf_nil) (fun _=>(pe_ix (ix_listK K (by rfl)) (pe_ix (ix_listK K (by rfl)) (pv 1) (pv 0) (by intro _ _;rfl)) (pv 2) (by intro _ _;rfl))))))
   (pss_one (ps_ret (pe_call G__law_fields (hr.mono (by decide)) rfl T.mg__law_fields T.F__law_fields.kp T.b__law_fields .nil pass0 (pa_cons (pe_meth0 (pv 4) T.cl_System T.me_System_turned G_System_turned (hr.mono (by decide)) T.b_System_turned .nil pass0) (pa_cons (pe_tup (pa_cons (pv 5) (pa_cons (pv 3) (pa_cons (pv 2) pa_nil)))) pa_nil)))))))))))),?_⟩
  refine rd_start (σ:=[none,none,none,none,none,none]) rfl ?_
  walk_at "w"
  refine ⟨by decide,by decide,?_⟩
  refine comp_mapR (n:=8) (RowF K H) (fun (i:Nat)=>(List.range 8).map fun (j:Nat)=>((mF i j:Int):Rat)) (by decide) (fun a b=>a.same b) ?_ ?_
  ·rintro i Ha NY NN hi sa k1
   walk_at "w"
   refine ⟨by decide,by decide,?_⟩
   refine comp_mapR (n:=8) (NumQ K) (fun (j:Nat)=>((mF i j:Int):Rat)) (by decide) (fun a b=>a.same b) ?_ ?_
   ·rintro j Hz NY2 NN2 hj sz k2
    walk_at "w"
    refine rd_I (cmulS_r (by lia) (by lia)) ?_
    walk_at "w"
    refine rd_newT fun t Hy sy gy=>?_
    exact k2 _ _ sy (NumQ.mk gy rfl)
   ·rintro ys Hz t ht sz g pr nx
    exact k1 _ _ sz ⟨t,rfl,sa.none ht,ys,g,pr⟩
  rintro ys1 H1 mm hm s1 g1 pr1 nx1
  have Gm:GridQ K H H1 mm (gF 8 8 mF):=⟨ys1,g1,pr1,notin nx1⟩
  clear g1 pr1 nx1
  walk_at "w"
  refine ⟨by decide,by decide,?_⟩
  refine comp_mapR (n:=4) (RowF K H1) (fun (i:Nat)=>(List.range 8).map fun (j:Nat)=>((pF i j:Int):Rat)) (by decide) (fun a b=>a.same b) ?_ ?_
  ·rintro i Ha NY NN hi sa k1
   walk_at "w"
   refine ⟨by decide,by decide,?_⟩
   refine comp_mapR (n:=8) (NumQ K) (fun (j:Nat)=>((pF i j:Int):Rat)) (by decide) (fun a b=>a.same b) ?_ ?_
   ·rintro j Hz NY2 NN2 hj sz k2
    walk_at "w"
    refine rd_newT fun t Hy sy gy=>?_
    exact k2 _ _ sy (NumQ.mk gy rfl)
   ·rintro ys Hz t ht sz g pr nx
    exact k1 _ _ sz ⟨t,rfl,sa.none ht,ys,g,pr⟩
  rintro ys2 H2 pp hp s2 g2 pr2 nx2
  have Gp:GridQ K H1 H2 pp (gF 4 8 pF):=⟨ys2,g2,pr2,notin nx2⟩
  clear g2 pr2 nx2
  walk_at "w"
  refine ⟨by decide,by decide,?_⟩
  refine comp_mapR (n:=4) (RowF K H2) (fun (i:Nat)=>(List.range 8).map fun (j:Nat)=>((lF i j:Int):Rat)) (by decide) (fun a b=>a.same b) ?_ ?_
  ·rintro i Ha NY NN hi sa k1
   walk_at "w"
   refine ⟨by decide,by decide,?_⟩
   refine comp_mapR (n:=8) (NumQ K) (fun (j:Nat)=>((lF i j:Int):Rat)) (by decide) (fun a b=>a.same b) ?_ ?_
   ·rintro j Hz NY2 NN2 hj sz k2
    walk_at "w"
    refine rd_I (cmulS_r (by lia) (by lia)) ?_
    walk_at "w"
    refine rd_newT fun t Hy sy gy=>?_
    exact k2 _ _ sy (NumQ.mk gy rfl)
   ·rintro ys Hz t ht sz g pr nx
    exact k1 _ _ sz ⟨t,rfl,sa.none ht,ys,g,pr⟩
  rintro ys3 H3 ll hl s3 g3 pr3 nx3
  have Gl:GridQ K H2 H3 ll (gF 4 8 lF):=⟨ys3,g3,pr3,notin nx3⟩
  clear g3 pr3 nx3
  have D:=full_d
  have F:=full_f
  have lm:=gF_len (n:=8) (m:=8) (f:=mF)
  generalize gF 8 8 mF=mv at *
  generalize gF 4 8 pF=pt at *
  generalize gF 4 8 lF=lk at *
  have s12:=s1.trans s2
  have s23:=s2.trans s3
  have s13:=s12.trans s3
  have Gm:=Gm.same s23
  have Gp:=(Gp.same s3).weak s1
  have Gl:=Gl.weak s12
  have hp:=s1.none hp
  have hl:=s12.none hl
  walk_at "w"
  intro z dz nz ndz nez
  refine ⟨z,dz,mm,pp,ll,H3,H,H,H,mv,pt,lk,rfl,nz,ndz,nez,rfl,Gm,Gp,Gl,D,F.ok.1,F.ok.2.1,F.ok.2.2,fun H4 s4 S4=>⟨rfl,?_⟩⟩
  walk_at "w"
  refine rd_newT fun tp H5 s5 g5=>?_
  have s35:=s4.trans s5
  have S5:=S4.same s5
  have Gm:=Gm.same s35
  have Gp:=Gp.same s35
  have Gl:=Gl.same s35
  walk_at "w"
  refine ⟨z,tp,H3,H,mv,pt,lk,rfl,S5,⟨mm,pp,ll,g5,hm,hp,hl,Gm,Gp,Gl⟩,D,F,fun H6 s6=>?_⟩
  have s36:=s35.trans s6
  have Gm:=Gm.same s6
  have Gp:=Gp.same s6
  have Gl:=Gl.same s6
  have S6:=S5.same s6
  obtain ⟨ms,gm,qm,_⟩:=id Gm
  walk_at "w"
  refine ⟨by decide,by decide,?_⟩
  refine comp_mapR (n:=8) (RowF K H6) (fun j=>mv.map fun xs=>xs.getD j 0) (by lia) (fun a b=>a.same b) ?_ ?_
  ·rintro i Ha NY NN hi sa k1
   walk_at "w"
   refine ⟨by decide,by decide,?_⟩
   refine comp_mapR (n:=8) (NumQ K) (fun j=>(mv.getD j []).getD i 0) (by lia) (fun a b=>a.same b) ?_ ?_
   ·rintro j Hb NY2 NN2 hj sb k2
    have sab:=sa.trans sb
    obtain ⟨row,vr,er,ev,mr,q,rfl,_,Rq⟩:=paired_at2 qm (i:=j) (by lia)
    obtain ⟨zs,gz,qz⟩:=Rq.same sab
    obtain ⟨vx,ex,nx⟩:=ixQ qz (j:=i) (by rw[D.mw row mr];lia)
    walk_at "w"
    refine rd_ixL (SqL.of (sab _ _ gm)) (atI_nat ev) ?_
    walk_at "w"
    refine rd_ixL (SqL.of gz) ex ?_
    refine k2 _ _ (Same.refl _) ?_
    rw[List.getD_eq_getElem?_getD (l:=mv),er]
    exact nx
   ·rintro ys Hb t ht sb g' pr nx
    refine k1 _ _ sb ⟨t,rfl,sa.none ht,ys,g',?_⟩
    have e:(List.range 8).map (fun j=>(mv.getD j []).getD i 0)=mv.map fun xs=>xs.getD i 0:=by
     apply List.ext_getElem?
     intro j
     rw[List.getElem?_map,List.getElem?_map]
     by_cases hj:j < 8
     ·rw[List.getElem?_range hj,List.getElem?_eq_getElem (by lia)]
      show some ((mv.getD j []).getD i 0)=some _
      rw[List.getD_eq_getElem?_getD (l:=mv),List.getElem?_eq_getElem (by lia)]
      rfl
     ·rw[List.getElem?_eq_none (by simpa using hj),List.getElem?_eq_none (by lia)]
      rfl
    rw[← e]
    exact pr
  rintro ys7 H7 t7 ht7 s7 g7 pr7 nx7
  have Gt:GridQ K H6 H7 t7 (turnQ mv mv.length):=by rw[lm];exact ⟨ys7,g7,pr7,notin nx7⟩
  clear g7 pr7 nx7
  have S7:=S6.same s7
  obtain ⟨dx,_,_,_,gx,_⟩:=id S7
  walk_at "w"
  refine ⟨z,dx,_,rfl,gx,sys_turned,?_⟩
  walk_at "w"
  refine ⟨z,H3,mv,pt,lk,rfl,S7,D,F,fun y H8 ny s8 S8=>?_⟩
  walk_at "w"
  refine rd_newT fun t9 H9 s9 g9=>?_
  have s79:=s8.trans s9
  have s69:=s7.trans s79
  have h06:=s13.trans s36
  walk_at "w"
  refine ⟨y,t9,H7,H,_,_,_,rfl,S8.same s9,⟨t7,ll,pp,g9,h06.none ht7,hl,hp,(Gt.same s79).weak h06,Gl.same s69,Gp.same s69⟩,D.turn,F.turn,fun HA sA=>?_⟩
  exact k HA ((h06.trans s69).trans sA)
theorem bd__law_bad_number:∃x1 x2 x3 x4 x5 x6 x7 x8 x9 x10 x11 x12 x13 x14:Expr,x1=(PySem.Expr.Tuple (elts:=[ (PySem.Expr.Constant (PySem.Const.int 2) 0 ⟨254,17,254,18⟩),(PySem.Expr.Constant (PySem.Const.int 4) 0 ⟨254,20,254,21⟩)]) (k:=0) (pos:=⟨254,16,254,22⟩))∧x2=(PySem.Expr.Tuple (elts:=[ (PySem.Expr.Constant (PySem.Const.int 0) 0 ⟨254,25,254,26⟩),(PySem.Expr.Constant (PySem.Const.int 2) 0 ⟨254,28,254,29⟩)]) (k:=0) (pos:=⟨254,24,254,30⟩))∧x3=(PySem.Expr.Tuple (elts:=[ (PySem.Expr.Constant (PySem.Const.int 1) 0 ⟨254,33,254,34⟩),(PySem.Expr.Constant (PySem.Const.int 0) 0 ⟨254,36,254,37⟩)]) (k:=0) (pos:=⟨254,32,254,38⟩))∧x4=(PySem.Expr.Tuple (elts:=[ (PySem.Expr.Constant (PySem.Const.int 1) 0 ⟨254,41,254,42⟩),(PySem.Expr.UnaryOp (op:=PySem.UnaryOp.USub) (operand:=(PySem.Expr.Constant (PySem.Const.int 1) 0 ⟨254,45,254,46⟩)) (pos:=⟨254,44,254,46⟩))]) (k:=0) (pos:=⟨254,40,254,47⟩))∧x5=(PySem.Expr.Tuple (elts:=[ (PySem.Expr.Constant (PySem.Const.bool true) 0 ⟨254,50,254,54⟩),(PySem.Expr.Constant (PySem.Const.int 1) 0 ⟨254,56,254,57⟩)]) (k:=0) (pos:=⟨254,49,254,58⟩))∧x6=(PySem.Expr.Tuple (elts:=[ (PySem.Expr.Constant (PySem.Const.int 1) 0 ⟨254,61,254,62⟩),(PySem.Expr.Constant (PySem.Const.bool true) 0 ⟨254,64,254,68⟩)]) (k:=0) (pos:=⟨254,60,254,69⟩))∧x7=(PySem.Expr.Constant (PySem.Const.int 1) 0 ⟨254,71,254,72⟩)∧x8=(PySem.Expr.Constant PySem.Const.none 0 ⟨254,74,254,78⟩)∧x9=(PySem.Expr.Constant (PySem.Const.str "1") 0 ⟨254,80,254,83⟩)∧x10=(PySem.Expr.Tuple [(PySem.Expr.Constant (PySem.Const.int 1) 0 ⟨254,86,254,87⟩)] 0 ⟨254,85,254,89⟩)∧x11=(PySem.Expr.Tuple (elts:=[ (PySem.Expr.Constant (PySem.Const.int 1) 0 ⟨254,92,254,93⟩),(PySem.Expr.Constant (PySem.Const.int 1) 0 ⟨254,95,254,96⟩),(PySem.Expr.Constant (PySem.Const.int 1) 0 ⟨254,98,254,99⟩)]) (k:=0) (pos:=⟨254,91,254,100⟩))∧x12=(PySem.Expr.List (elts:=[ (PySem.Expr.Constant (PySem.Const.int 1) 0 ⟨254,103,254,104⟩),(PySem.Expr.Constant (PySem.Const.int 1) 0 ⟨254,106,254,107⟩)]) (pos:=⟨254,102,254,108⟩))∧x13=(PySem.Expr.Tuple (elts:=[ (PySem.Expr.Constant (PySem.Const.str "1") 0 ⟨254,111,254,114⟩),(PySem.Expr.Constant (PySem.Const.int 1) 0 ⟨254,116,254,117⟩)]) (k:=0) (pos:=⟨254,110,254,118⟩))∧x14=(PySem.Expr.Constant (PySem.Const.bool true) 0 ⟨254,120,254,124⟩)∧defBody s__law_bad_number=[ (PySem.Stmt.Assign (targets:=[(PySem.Expr.Name "_law_odd" ⟨254,4,254,12⟩)]) (value:=(PySem.Expr.List (elts:=[x1,x2,x3,x4,x5,x6,x7,x8,x9,x10,x11,x12,x13,x14]) (pos:=⟨254,15,254,125⟩))) (pos:=⟨254,4,254,125⟩)),(PySem.Stmt.Return (value:=(some (PySem.Expr.Subscript (value:=(PySem.Expr.Name "_law_odd" ⟨255,11,255,19⟩)) (slice:=(PySem.Expr.Call (func:=(PySem.Expr.Name "_law_take" ⟨255,20,255,29⟩)) (args:=[ (PySem.Expr.Name "_law_bag_here" ⟨255,30,255,43⟩),(PySem.Expr.Call (func:=(PySem.Expr.Name "len" ⟨255,45,255,48⟩)) (args:=[(PySem.Expr.Name "_law_odd" ⟨255,49,255,57⟩)]) (keywords:=[]) (pos:=⟨255,45,255,58⟩))]) (keywords:=[]) (pos:=⟨255,20,255,59⟩))) (pos:=⟨255,11,255,60⟩)))) (pos:=⟨255,4,255,60⟩))]:=⟨_,_,_,_,_,_,_,_,_,_,_,_,_,_,rfl,rfl,rfl,rfl,rfl,rfl,rfl,rfl,rfl,rfl,rfl,rfl,rfl,rfl,by with_unfolding_all rfl⟩
theorem sc__law_bad_number:FnScope ["_law_bag_here","_law_odd"] ["_law_bag_here"] (defScope s__law_bad_number):=⟨rfl,rfl,rfl,by decide +kernel,rfl,by decide +kernel,by decide +kernel⟩
theorem ok__law_bad_number (T:Txt K mg Z):FnOk P w K mg base CX0 2 Z.a__law_bad_number Z.d__law_bad_number ["_law_bag_here"] sp_badn31:=by
 have G__law_take:=ok__law_take (P:=P) (w:=w) (base:=base) T
 refine T.F__law_bad_number.ok sc__law_bad_number (fun vs H Q E h=>?_) (fun cdv A outer s H vs Q E hr h=>?_)
 ·obtain ⟨p,rfl,_⟩:=h
  rfl
 ·obtain ⟨p,rfl,hB,k⟩:=h
  obtain ⟨x1,x2,x3,x4,x5,x6,x7,x8,x9,x10,x11,x12,x13,x14,hx1,hx2,hx3,hx4,hx5,hx6,hx7,hx8,hx9,hx10,hx11,hx12,hx13,hx14,hbd⟩:=bd__law_bad_number
  rw[hbd]
  refine ⟨_,(pss_cons (ps_set (i:=1) sc__law_bad_number.nd rfl (Or.inl rfl) (pe_lst (pa_consE hx1 (pe_tup (pa_cons pe_int (pa_cons pe_int pa_nil))) (pa_consE hx2 (pe_tup (pa_cons pe_int (pa_cons pe_int pa_nil))) (pa_consE hx3 (pe_tup (pa_cons pe_int (pa_cons pe_int pa_nil))) (pa_consE hx4 (pe_tup (pa_cons pe_int (pa_cons (pe_un un_neg pe_int) pa_nil))) (pa_consE hx5 (pe_tup (pa_cons pe_bl (pa_cons pe_int pa_nil))) (pa_consE hx6 (pe_tup (pa_cons pe_int (pa_cons pe_bl pa_nil))) (pa_consE hx7 pe_int (pa_consE hx8 pe_non (pa_consE hx9 pe_str (pa_consE hx10 (pe_tup (pa_cons pe_int pa_nil)) (pa_consE hx11 (pe_tup (pa_cons pe_int (pa_cons pe_int (pa_cons pe_int pa_nil)))) (pa_consE hx12 (pe_lst (pa_cons pe_int (pa_cons pe_int pa_nil))) (pa_consE hx13 (pe_tup (pa_cons pe_str (pa_cons pe_int pa_nil))) (pa_consE hx14 pe_bl pa_nil))))))))))))))))
   (pss_one (ps_ret (pe_ix ix_list (pv 1) (pe_call G__law_take (hr.mono (by decide)) rfl T.mg__law_take T.F__law_take.kp T.b__law_take .nil pass0 (pa_cons (pv 0) (pa_cons (pe_callB call_len_seq (by rfl) T.len PySem.boot_len (pa_cons (pv 1) pa_nil)) pa_nil))) (by intro _ _;rfl))))),?_⟩
  refine rd_start (σ:=[some (.ref p),none]) rfl ?_
  walk_at "w"
  refine rd_newT fun t1 H1 s1 g1=>?_
  walk_at "w"
  refine rd_newT fun t2 H2 s2 g2=>?_
  walk_at "w"
  refine rd_newT fun t3 H3 s3 g3=>?_
  walk_at "w"
  refine rd_newT fun t4 H4 s4 g4=>?_
  walk_at "w"
  refine rd_newT fun t5 H5 s5 g5=>?_
  walk_at "w"
  refine rd_newT fun t6 H6 s6 g6=>?_
  walk_at "w"
  refine rd_newT fun t7 H7 s7 g7=>?_
  walk_at "w"
  refine rd_newT fun t8 H8 s8 g8=>?_
  walk_at "w"
  refine rd_newL fun l9 H9 s9 n9 g9=>?_
  walk_at "w"
  refine rd_newT fun t10 H10 s10 g10=>?_
  walk_at "w"
  refine rd_newL fun L HL sL nL gL=>?_
  have c10:Same H10 HL:=sL
  have c9:Same H9 HL:=s10.trans c10
  have c8:Same H8 HL:=s9.trans c9
  have c7:Same H7 HL:=s8.trans c8
  have c6:Same H6 HL:=s7.trans c7
  have c5:Same H5 HL:=s6.trans c6
  have c4:Same H4 HL:=s5.trans c5
  have c3:Same H3 HL:=s4.trans c4
  have c2:Same H2 HL:=s3.trans c3
  have c1:Same H1 HL:=s2.trans c2
  have c0:Same H HL:=s1.trans c1
  have BL:=hB.same c0
  have nL0:H L=none:=(s1.trans (s2.trans (s3.trans (s4.trans (s5.trans (s6.trans (s7.trans (s8.trans (s9.trans s10))))))))).none nL
  have n90:H l9=none:=(s1.trans (s2.trans (s3.trans (s4.trans (s5.trans (s6.trans (s7.trans s8))))))).none n9
  have hne:∀{a},H a=none->a≠p:=fun h z=>hB.at (by rw[← z];exact h)
  walk_at "w"
  refine ⟨_,_,rfl,.inl (SqL.of gL),?_⟩
  walk_at "w"
  refine ⟨p,14,rfl,BL,by decide,by decide,fun i Hh i0 i1 Bh uh=>?_⟩
  obtain ⟨v,ev,mv,_⟩:=atI_some (xs:=[V.ref t1,.ref t2,.ref t3,.ref t4,.ref t5,.ref t6,.int 1,.non,.str "1",.ref t7,.ref t8,.ref l9,.ref t10,.bl true]) i0 (by simpa using i1)
  walk_at "w"
  refine rd_ixL (SqL.of (uh.other (hne nL0) gL)) ev ?_
  walk_at "w"
  refine k v Hh ?_ Bh (c0.upto.trans uh)
  simp only[List.mem_cons,List.not_mem_nil,or_false] at mv
  rcases mv with rfl | rfl | rfl | rfl | rfl | rfl | rfl | rfl | rfl | rfl | rfl | rfl | rfl | rfl
  ·exact nb_tup (uh.tup BL (c1 _ _ g1))
  ·exact nb_tup (uh.tup BL (c2 _ _ g2))
  ·exact nb_tup (uh.tup BL (c3 _ _ g3))
  ·exact nb_tup (uh.tup BL (c4 _ _ g4))
  ·exact nb_tup (uh.tup BL (c5 _ _ g5))
  ·exact nb_tup (uh.tup BL (c6 _ _ g6))
  ·exact .flat (show (1:Int).natAbs<=1000 by decide)
  ·exact .flat trivial
  ·exact .flat flat_str
  ·exact nb_tup (uh.tup BL (c7 _ _ g7))
  ·exact nb_tup (uh.tup BL (c8 _ _ g8))
  ·exact .lst (uh.other (hne n90) (c9 _ _ g9)) n90 (by decide) (by simp [Flat])
  ·exact nb_tup (uh.tup BL (c10 _ _ g10)) (by decide) (by decide +kernel) (fun y hy=>by simp only[List.mem_cons,List.not_mem_nil,or_false] at hy;rcases hy with rfl | rfl;exact flat_str;exact (show (1:Int).natAbs<=1000 by decide))
  ·exact .flat trivial
theorem bd__law_bad_row:∃x1 x2 x3 x4 x5 x6:Expr,x1=(PySem.Expr.Constant PySem.Const.none 0 ⟨260,16,260,20⟩)∧x2=(PySem.Expr.Constant (PySem.Const.str "row") 0 ⟨260,22,260,27⟩)∧x3=(PySem.Expr.Call (func:=(PySem.Expr.Name "tuple" ⟨260,29,260,34⟩)) (args:=[(PySem.Expr.Name "_law_row_here" ⟨260,35,260,48⟩)]) (keywords:=[]) (pos:=⟨260,29,260,49⟩))∧x4=(PySem.Expr.Dict [] [] ⟨260,51,260,53⟩)∧x5=(PySem.Expr.Constant (PySem.Const.int 3) 0 ⟨260,55,260,56⟩)∧x6=(PySem.Expr.Tuple (elts:=[ (PySem.Expr.Constant (PySem.Const.int 0) 0 ⟨260,59,260,60⟩),(PySem.Expr.Constant (PySem.Const.int 1) 0 ⟨260,62,260,63⟩)]) (k:=0) (pos:=⟨260,58,260,64⟩))∧defBody s__law_bad_row=[ (PySem.Stmt.Assign (targets:=[(PySem.Expr.Name "_law_way" ⟨257,4,257,12⟩)]) (value:=(PySem.Expr.Call (func:=(PySem.Expr.Name "_law_take" ⟨257,15,257,24⟩)) (args:=[ (PySem.Expr.Name "_law_bag_here" ⟨257,25,257,38⟩),(PySem.Expr.Constant (PySem.Const.int 5) 0 ⟨257,40,257,41⟩)]) (keywords:=[]) (pos:=⟨257,15,257,42⟩))) (pos:=⟨257,4,257,42⟩)),(PySem.Stmt.Assign (targets:=[(PySem.Expr.Name "_law_row_here" ⟨258,4,258,17⟩)]) (value:=(PySem.Expr.ListComp (elt:=(PySem.Expr.Tuple (elts:=[ (PySem.Expr.BinOp (left:=(PySem.Expr.Call (func:=(PySem.Expr.Name "_law_take" ⟨258,22,258,31⟩)) (args:=[ (PySem.Expr.Name "_law_bag_here" ⟨258,32,258,45⟩),(PySem.Expr.Constant (PySem.Const.int 9) 0 ⟨258,47,258,48⟩)]) (keywords:=[]) (pos:=⟨258,22,258,49⟩))) (op:=PySem.Operator.Sub) (right:=(PySem.Expr.Constant (PySem.Const.int 4) 0 ⟨258,52,258,53⟩)) (pos:=⟨258,22,258,53⟩)),(PySem.Expr.Constant (PySem.Const.int 1) 0 ⟨258,55,258,56⟩)]) (k:=0) (pos:=⟨258,21,258,57⟩))) (generators:=[ { target:=(PySem.Expr.Name "_law_k" ⟨258,62,258,68⟩),iter:=(PySem.Expr.Call (func:=(PySem.Expr.Name "range" ⟨258,72,258,77⟩)) (args:=[(PySem.Expr.Name "_law_n" ⟨258,78,258,84⟩)]) (keywords:=[]) (pos:=⟨258,72,258,85⟩)),ifs:=[],is_async:=0:PySem.Comprehension }]) (scope:={ kind:=PySem.ScopeKind.function,names:=[ (PySem.Str.ofString ".0",PySem.NameKind.local),(PySem.Str.ofString "_law_k",PySem.NameKind.local),(PySem.Str.ofString "_law_take",PySem.NameKind.globalImplicit),(PySem.Str.ofString "_law_bag_here",PySem.NameKind.free)],isGenerator:=false,isCoroutine:=false,more:=[]:PySem.Scope }) (pos:=⟨258,20,258,86⟩))) (pos:=⟨258,4,258,86⟩)),(PySem.Stmt.If (test:=(PySem.Expr.Compare (left:=(PySem.Expr.Name "_law_way" ⟨259,7,259,15⟩)) (ops:=[PySem.CmpOp.Eq]) (comparators:=[(PySem.Expr.Constant (PySem.Const.int 0) 0 ⟨259,19,259,20⟩)]) (pos:=⟨259,7,259,20⟩))) (body:=[ (PySem.Stmt.Return (value:=(some (PySem.Expr.Subscript (value:=(PySem.Expr.List (elts:=[x1,x2,x3,x4,x5,x6]) (pos:=⟨260,15,260,65⟩))) (slice:=(PySem.Expr.Call (func:=(PySem.Expr.Name "_law_take" ⟨260,66,260,75⟩)) (args:=[ (PySem.Expr.Name "_law_bag_here" ⟨260,76,260,89⟩),(PySem.Expr.Constant (PySem.Const.int 6) 0 ⟨260,91,260,92⟩)]) (keywords:=[]) (pos:=⟨260,66,260,93⟩))) (pos:=⟨260,15,260,94⟩)))) (pos:=⟨260,8,260,94⟩))]) (orelse:=[]) (pos:=⟨259,4,260,94⟩)),(PySem.Stmt.If (test:=(PySem.Expr.BoolOp (op:=PySem.BoolOp.Or) (values:=[ (PySem.Expr.Compare (left:=(PySem.Expr.Name "_law_way" ⟨261,7,261,15⟩)) (ops:=[PySem.CmpOp.Eq]) (comparators:=[(PySem.Expr.Constant (PySem.Const.int 1) 0 ⟨261,19,261,20⟩)]) (pos:=⟨261,7,261,20⟩)),(PySem.Expr.Compare (left:=(PySem.Expr.Name "_law_n" ⟨261,24,261,30⟩)) (ops:=[PySem.CmpOp.Eq]) (comparators:=[(PySem.Expr.Constant (PySem.Const.int 0) 0 ⟨261,34,261,35⟩)]) (pos:=⟨261,24,261,35⟩))]) (pos:=⟨261,7,261,35⟩))) (body:=[ (PySem.Stmt.Return (value:=(some (PySem.Expr.BinOp (left:=(PySem.Expr.Name "_law_row_here" ⟨262,15,262,28⟩)) (op:=PySem.Operator.Add) (right:=(PySem.Expr.List (elts:=[ (PySem.Expr.Tuple (elts:=[ (PySem.Expr.Constant (PySem.Const.int 1) 0 ⟨262,33,262,34⟩),(PySem.Expr.Constant (PySem.Const.int 1) 0 ⟨262,36,262,37⟩)]) (k:=0) (pos:=⟨262,32,262,38⟩))]) (pos:=⟨262,31,262,39⟩))) (pos:=⟨262,15,262,39⟩)))) (pos:=⟨262,8,262,39⟩))]) (orelse:=[]) (pos:=⟨261,4,262,39⟩)),(PySem.Stmt.Assign (targets:=[(PySem.Expr.Name "_law_at" ⟨263,4,263,11⟩)]) (value:=(PySem.Expr.Call (func:=(PySem.Expr.Name "_law_take" ⟨263,14,263,23⟩)) (args:=[(PySem.Expr.Name "_law_bag_here" ⟨263,24,263,37⟩),(PySem.Expr.Name "_law_n" ⟨263,39,263,45⟩)]) (keywords:=[]) (pos:=⟨263,14,263,46⟩))) (pos:=⟨263,4,263,46⟩)),(PySem.Stmt.If (test:=(PySem.Expr.Compare (left:=(PySem.Expr.Name "_law_way" ⟨264,7,264,15⟩)) (ops:=[PySem.CmpOp.Eq]) (comparators:=[(PySem.Expr.Constant (PySem.Const.int 2) 0 ⟨264,19,264,20⟩)]) (pos:=⟨264,7,264,20⟩))) (body:=[ (PySem.Stmt.Return (value:=(some (PySem.Expr.BinOp (left:=(PySem.Expr.Subscript (value:=(PySem.Expr.Name "_law_row_here" ⟨265,15,265,28⟩)) (slice:=(PySem.Expr.Slice none (some (PySem.Expr.Name "_law_at" ⟨265,30,265,37⟩)) none ⟨265,29,265,37⟩)) (pos:=⟨265,15,265,38⟩))) (op:=PySem.Operator.Add) (right:=(PySem.Expr.Subscript (value:=(PySem.Expr.Name "_law_row_here" ⟨265,41,265,54⟩)) (slice:=(PySem.Expr.Slice (lower:=(some (PySem.Expr.BinOp (left:=(PySem.Expr.Name "_law_at" ⟨265,55,265,62⟩)) (op:=PySem.Operator.Add) (right:=(PySem.Expr.Constant (PySem.Const.int 1) 0 ⟨265,65,265,66⟩)) (pos:=⟨265,55,265,66⟩)))) (upper:=none) (step:=none) (pos:=⟨265,55,265,67⟩))) (pos:=⟨265,41,265,68⟩))) (pos:=⟨265,15,265,68⟩)))) (pos:=⟨265,8,265,68⟩))]) (orelse:=[]) (pos:=⟨264,4,265,68⟩)),(PySem.Stmt.Assign (targets:=[ (PySem.Expr.Subscript (value:=(PySem.Expr.Name "_law_row_here" ⟨266,4,266,17⟩)) (slice:=(PySem.Expr.Name "_law_at" ⟨266,18,266,25⟩)) (pos:=⟨266,4,266,26⟩))]) (value:=(PySem.Expr.Call (func:=(PySem.Expr.Name "_law_bad_number" ⟨266,29,266,44⟩)) (args:=[(PySem.Expr.Name "_law_bag_here" ⟨266,45,266,58⟩)]) (keywords:=[]) (pos:=⟨266,29,266,59⟩))) (pos:=⟨266,4,266,59⟩)),(PySem.Stmt.Return (some (PySem.Expr.Name "_law_row_here" ⟨267,11,267,24⟩)) ⟨267,4,267,24⟩)]:=⟨_,_,_,_,_,_,rfl,rfl,rfl,rfl,rfl,rfl,by with_unfolding_all rfl⟩
theorem sc__law_bad_row:FnScope ["_law_bag_here","_law_n","_law_way","_law_row_here","_law_at"] ["_law_bag_here","_law_n"] (defScope s__law_bad_row):=⟨rfl,rfl,rfl,by decide +kernel,rfl,by decide +kernel,by decide +kernel⟩
theorem ok__law_bad_row (T:Txt K mg Z):FnOk P w K mg base CX0 3 Z.a__law_bad_row Z.d__law_bad_row ["_law_bag_here","_law_n"] (sp_badr31 K):=by
 have G__law_take:=ok__law_take (P:=P) (w:=w) (base:=base) T
 have G__law_bad_number:=ok__law_bad_number (P:=P) (w:=w) (base:=base) T
 refine T.F__law_bad_row.ok sc__law_bad_row (fun vs H Q E h=>?_) (fun cdv A outer s H vs Q E hr h=>?_)
 ·obtain ⟨p,n,rfl,_⟩:=h
  rfl
 ·obtain ⟨p,n,rfl,hB,hn,k⟩:=h
  obtain ⟨x1,x2,x3,x4,x5,x6,hx1,hx2,hx3,hx4,hx5,hx6,hbd⟩:=bd__law_bad_row
  rw[hbd]
  refine ⟨_,(pss_cons (ps_set (i:=2) sc__law_bad_row.nd rfl (Or.inl rfl) (pe_call G__law_take (hr.mono (by decide)) rfl T.mg__law_take T.F__law_take.kp T.b__law_take .nil pass0 (pa_cons (pv 0) (pa_cons pe_int pa_nil))))
   (pss_cons (ps_setC 3 ["_law_k"] ["_law_bag_here"] [0] sc__law_bad_row.nd rfl rfl (pi_range1 rfl T.range (pa_cons (pv 1) pa_nil)) (fun _=>(pg_name (i:=0) (show List.Nodup (α:=PySem.Str) ["_law_k","_law_bag_here"] by decide +kernel) rfl (Or.inl rfl) (Or.inl rfl))) (fun _=>pf_nil) (fun _=>(pe_tup (pa_cons (pe_op op_sub (pe_call G__law_take (hr.mono (by decide)) rfl T.mg__law_take T.F__law_take.kp T.b__law_take .nil pass0 (pa_cons (pv 1) (pa_cons pe_int pa_nil))) pe_int) (pa_cons pe_int pa_nil)))))
   (pss_cons (ps_if (pt_cmpR op_eq (pv 2) pe_int (nomark _)) (pss_one (ps_ret (pe_ix ix_list (pe_lst (pa_consE hx1 pe_non (pa_consE hx2 pe_str (pa_consE hx3 (pe_callTy call_tuple_of (by rfl) T.tuple PyProof.Rows.boot_tuple (pa_cons (pv 3) pa_nil)) (pa_consE hx4 pe_dnew (pa_consE hx5 pe_int (pa_consE hx6 (pe_tup (pa_cons pe_int (pa_cons pe_int pa_nil))) pa_nil))))))) (pe_call G__law_take (hr.mono (by decide)) rfl T.mg__law_take T.F__law_take.kp T.b__law_take .nil pass0 (pa_cons (pv 0) (pa_cons pe_int pa_nil))) (by intro _ _;rfl)))) pss_nil)
   (pss_cons (ps_if (PW.pt (pw_or (pt_cmpR op_eq (pv 2) pe_int (nomark _)) (pw_or1 (pt_cmpR op_eq (pv 1) pe_int (nomark _))))) (pss_one (ps_ret (pe_op op_cat (pv 3) (pe_lst (pa_cons (pe_tup (pa_cons pe_int (pa_cons pe_int pa_nil))) pa_nil))))) pss_nil)
   (pss_cons (ps_set (i:=4) sc__law_bad_row.nd rfl (Or.inl rfl) (pe_call G__law_take (hr.mono (by decide)) rfl T.mg__law_take T.F__law_take.kp T.b__law_take .nil pass0 (pa_cons (pv 0) (pa_cons (pv 1) pa_nil))))
   (pss_cons (ps_if (pt_cmpR op_eq (pv 2) pe_int (nomark _)) (pss_one (ps_ret (pe_op op_cat (pe_slice sl_list (pv 3) po_none (po_some (pv 4))) (pe_slice sl_list (pv 3) (po_some (pe_op op_add (pv 4) pe_int)) po_none)))) pss_nil)
   (pss_cons (ps_asg (pe_call G__law_bad_number (hr.mono (by decide)) rfl T.mg__law_bad_number T.F__law_bad_number.kp T.b__law_bad_number .nil pass0 (pa_cons (pv 0) pa_nil)) (pg_sub (pv 3) (pv 4) set_list))
   (pss_one (ps_ret (pv 3)))))))))),?_⟩
  refine rd_start (σ:=[some (.ref p),some (.int n),none,none,none]) rfl ?_
  walk_at "w"
  refine ⟨p,5,rfl,hB,by decide,by decide,fun wy H1 w0 w1 B1 u1=>?_⟩
  walk_at "w"
  refine ⟨by lia,by lia,?_⟩
  refine comp_range (lo:=0) (n:=n) (fun i ys H'=>Bag H' p∧Upto p H1 H'∧ys.length=i∧∀y∈ys,Gi H' y) (Nat.le_of_lt (small1000 (by lia))) ⟨B1,Upto.refl _,rfl,fun _ z=>nomatch z⟩ ?_ ?_
  ·rintro i ys H' hi hy ⟨B',u',ly,gy⟩
   walk_at "w"
   refine ⟨p,9,rfl,B',by decide,by decide,fun m H2 m0 m1 B2 u2=>?_⟩
   walk_at "w"
   refine rd_newT fun t H3 s3 g3=>?_
   refine ⟨B2.same s3,(u'.trans u2).same s3,by simp [ly],fun y hy=>?_⟩
   rcases List.mem_append.mp hy with hy | hy
   ·exact ((gy y hy).upto u2 B').same s3
   ·obtain rfl:y=.ref t:=by simpa using hy
    exact ⟨t,_,rfl,g3,by lia⟩
  rintro ys H2 _ ⟨B2,u2,ly,gy⟩ l nl
  have u02:=u1.trans u2
  have nl0:H l=none:=u02.none B2 nl
  have s3:Same H2 (upd H2 l (.lst ys)):=Same.new nl
  have gl:(upd H2 l (.lst ys)) l=some (.lst ys):=upd_same
  generalize upd H2 l (.lst ys)=H3 at s3 gl ⊢
  have B3:=B2.same s3
  have u03:=u02.same s3
  have gy:∀y∈ys,Gi H3 y:=fun y hy=>(gy y hy).same s3
  have hne:∀{a},H a=none->a≠p:=fun h z=>hB.at (by rw[← z];exact h)
  have back:∀{a Hx},Same H3 Hx->Hx a=none->H a=none:=fun s e=>u03.none B3 (s.none e)
  clear s3 B2 u2 u02 nl
  walk_at "w"
  refine ite2 (fun h0=>?_) (fun h0=>?_)
  ·walk_at "w"
   refine ⟨l,ys,rfl,.inl ⟨SqL.of gl,fun t nt=>?_⟩⟩
   have s4:Same H3 (upd H3 t (.tup ys)):=Same.new nt
   have g4:(upd H3 t (.tup ys)) t=some (.tup ys):=upd_same
   generalize upd H3 t (.tup ys)=H4 at s4 g4 ⊢
   walk_at "w"
   refine rd_dnewN fun d H5 s5 n5 g5=>?_
   have n5:=back s4 n5
   walk_at "w"
   refine rd_newT fun t6 H6 s6 g6=>?_
   walk_at "w"
   refine rd_newL fun L H7 s7 n7 g7=>?_
   have n7:=back ((s4.trans s5).trans s6) n7
   have s37:=((s4.trans s5).trans s6).trans s7
   have B7:=B3.same s37
   walk_at "w"
   refine ⟨p,6,rfl,B7,by decide,by decide,fun i H8 i0 i1 B8 u8=>?_⟩
   obtain ⟨v,ev,mv,_⟩:=atI_some (xs:=[V.non,.str "row",.ref t,.ref d,.int 3,.ref t6]) i0 (by simpa using i1)
   walk_at "w"
   refine rd_ixL (SqL.of (u8.other (hne n7) g7)) ev ?_
   walk_at "w"
   refine k v H8 ?_ B8 ((u03.same s37).trans u8)
   simp only[List.mem_cons,List.not_mem_nil,or_false] at mv
   rcases mv with rfl | rfl | rfl | rfl | rfl | rfl
   ·exact .flat trivial
   ·exact .flat flat_str
   ·exact .tup (u8.tup B7 (((s5.trans s6).trans s7) _ _ g4)) (by lia) fun y hy=>(((gy y hy).same s37).upto u8 B7).ng.rp
   ·exact .dic (u8.other (hne n5) ((s6.trans s7) _ _ g5)) n5
   ·exact .flat (show (3:Int).natAbs<=1000 by decide)
   ·exact .tup (u8.tup B7 (s7 _ _ g6)) (by decide) fun y hy=>Flat.rp (by
     simp only[List.mem_cons,List.not_mem_nil,or_false] at hy
     rcases hy with rfl | rfl
     ·exact (show (0:Int).natAbs<=1000 by decide)
     ·exact (show (1:Int).natAbs<=1000 by decide))
  walk_at "w"
  by_cases h1:wy=1
  ·rw[decide_eq_true h1]
   walk_at "w"
   refine rd_newT fun t4 H4 s4 g4=>?_
   walk_at "w"
   refine rd_newL fun l5 H5 s5 n5 g5=>?_
   walk_at "w"
   refine rd_cat ((s4.trans s5) _ _ gl) g5 (Nat.le_of_lt (small1000 (by simp;lia))) fun l6 H6 s6 n6 g6=>?_
   have s36:=(s4.trans s5).trans s6
   refine k (.ref l6) H6 (ri_len g6 (back (s4.trans s5) n6) (by simp;lia) (fun y hy=>?_) (by simp;lia)) (B3.same s36) (u03.same s36)
   rcases List.mem_append.mp hy with hy | hy
   ·exact ((gy y hy).same s36).ng
   ·obtain rfl:y=.ref t4:=by simpa using hy
    exact Gi.ng ⟨t4,1,rfl,(s5.trans s6) _ _ g4,by decide⟩
  rw[decide_eq_false h1]
  walk_at "w"
  by_cases h2:n=0
  ·rw[decide_eq_true (show ((n:Nat):Int)=0 by lia)]
   walk_at "w"
   refine rd_newT fun t4 H4 s4 g4=>?_
   walk_at "w"
   refine rd_newL fun l5 H5 s5 n5 g5=>?_
   walk_at "w"
   refine rd_cat ((s4.trans s5) _ _ gl) g5 (Nat.le_of_lt (small1000 (by simp;lia))) fun l6 H6 s6 n6 g6=>?_
   have s36:=(s4.trans s5).trans s6
   refine k (.ref l6) H6 (ri_len g6 (back (s4.trans s5) n6) (by simp;lia) (fun y hy=>?_) (by simp;lia)) (B3.same s36) (u03.same s36)
   rcases List.mem_append.mp hy with hy | hy
   ·exact ((gy y hy).same s36).ng
   ·obtain rfl:y=.ref t4:=by simpa using hy
    exact Gi.ng ⟨t4,1,rfl,(s5.trans s6) _ _ g4,by decide⟩
  rw[decide_eq_false (show ¬((n:Nat):Int)=0 by lia)]
  walk_at "w"
  refine ⟨p,n,rfl,B3,by lia,by lia,fun at' H4 a0 a1 B4 u4=>?_⟩
  obtain ⟨j,rfl⟩:=Int.eq_ofNat_of_zero_le a0
  have gl4:=u4.other (hne nl0) gl
  have u04:=u03.trans u4
  have gy4:∀y∈ys,Gi H4 y:=fun y hy=>(gy y hy).upto u4 B3
  clear gy
  walk_at "w"
  refine ite2 (fun h3=>?_) (fun h3=>?_)
  ·walk_at "w"
   refine rd_slL (SqL.of gl4) fun c1 H5 s5 n5 g5=>?_
   walk_at "w"
   refine rd_slL (SqL.of (s5 _ _ gl4)) fun c2 H6 s6 n6 g6=>?_
   walk_at "w"
   have lc:=cut_two (ys:=ys) (j:=j) (by lia)
   refine rd_cat (s6 _ _ g5) g6 (Nat.le_of_lt (small1000 (by lia))) fun c3 H7 s7 n7 g7=>?_
   have s47:=(s5.trans s6).trans s7
   refine k (.ref c3) H7 (ri_len g7 (u04.none B4 ((s5.trans s6).none n7)) (by rw[List.length_append];lia) (fun y hy=>?_) (by rw[List.length_append];lia)) (B4.same s47) (u04.same s47)
   rcases List.mem_append.mp hy with hy | hy
   ·exact ((gy4 y (cut_mem hy)).same s47).ng
   ·exact ((gy4 y (cut_mem hy)).same s47).ng
  walk_at "w"
  refine ⟨p,rfl,B4,fun x H5 nb B5 u5=>?_⟩
  have gl5:=u5.other (hne nl0) gl4
  have gy5:∀y∈ys,Ng K H5 y:=fun y hy=>((gy4 y hy).upto u5 B4).ng
  walk_at "w"
  refine rd_setL gl5 (ixN_nat (by lia)) rfl ?_
  walk_at "w"
  obtain ⟨q5,I5,xs5,gq5⟩:=B5.inner
  have lq:l≠q5:=fun z=>by
   obtain ⟨q0,I0,xs0,gq0⟩:=hB.inner
   have:=Inner.inj ((u04.trans u5).2 _ I0) I5
   subst this
   rw[← z,nl0] at gq0;cases gq0
  refine k (.ref l) _ (ri_bad (xs:=ys) (j:=j) upd_same nl0 (by lia) (by lia) (fun y hy=>(gy5 y hy).keep (P:=fun _=>False) (KpU.upd gl5 (fun _ z=>z.elim))) ?_) (B5.upd I5 (hne nl0) lq) ((u04.trans u5).after nl0)
  exact (nb.keep (K:=K) (KpU.upd gl5 fun a ha z=>by rw[z,gl4] at ha;cases ha)).mono fun a ha=>u04.none B4 ha
theorem bd__law_spoilt:∃x1 x2 x3 x4 x5 x6:Expr,x1=(PySem.Expr.Constant PySem.Const.none 0 ⟨272,20,272,24⟩)∧x2=(PySem.Expr.Constant (PySem.Const.str "rows") 0 ⟨272,26,272,32⟩)∧x3=(PySem.Expr.Call (func:=(PySem.Expr.Name "tuple" ⟨272,34,272,39⟩)) (args:=[(PySem.Expr.Name "_law_rows" ⟨272,40,272,49⟩)]) (keywords:=[]) (pos:=⟨272,34,272,50⟩))∧x4=(PySem.Expr.Dict [] [] ⟨272,52,272,54⟩)∧x5=(PySem.Expr.Constant (PySem.Const.int 7) 0 ⟨272,56,272,57⟩)∧x6=(PySem.Expr.Constant (PySem.Const.bool true) 0 ⟨272,59,272,63⟩)∧defBody s__law_spoilt=[ (PySem.Stmt.Assign (targets:=[(PySem.Expr.Name "_law_most" ⟨269,4,269,13⟩)]) (value:=(PySem.Expr.Subscript (value:=(PySem.Expr.List (elts:=[ (PySem.Expr.Constant (PySem.Const.int 8) 0 ⟨269,17,269,18⟩),(PySem.Expr.Constant (PySem.Const.int 4) 0 ⟨269,20,269,21⟩),(PySem.Expr.Constant (PySem.Const.int 4) 0 ⟨269,23,269,24⟩)]) (pos:=⟨269,16,269,25⟩))) (slice:=(PySem.Expr.Name "_law_place" ⟨269,26,269,36⟩)) (pos:=⟨269,16,269,37⟩))) (pos:=⟨269,4,269,37⟩)),(PySem.Stmt.Assign (targets:=[(PySem.Expr.Name "_law_way" ⟨270,4,270,12⟩)]) (value:=(PySem.Expr.Call (func:=(PySem.Expr.Name "_law_take" ⟨270,15,270,24⟩)) (args:=[ (PySem.Expr.Name "_law_bag_here" ⟨270,25,270,38⟩),(PySem.Expr.Constant (PySem.Const.int 3) 0 ⟨270,40,270,41⟩)]) (keywords:=[]) (pos:=⟨270,15,270,42⟩))) (pos:=⟨270,4,270,42⟩)),(PySem.Stmt.If (test:=(PySem.Expr.Compare (left:=(PySem.Expr.Name "_law_way" ⟨271,7,271,15⟩)) (ops:=[PySem.CmpOp.Eq]) (comparators:=[(PySem.Expr.Constant (PySem.Const.int 0) 0 ⟨271,19,271,20⟩)]) (pos:=⟨271,7,271,20⟩))) (body:=[ (PySem.Stmt.Assign (targets:=[(PySem.Expr.Name "_law_odd" ⟨272,8,272,16⟩)]) (value:=(PySem.Expr.List (elts:=[x1,x2,x3,x4,x5,x6]) (pos:=⟨272,19,272,64⟩))) (pos:=⟨272,8,272,64⟩)),(PySem.Stmt.Return (value:=(some (PySem.Expr.Tuple (elts:=[ (PySem.Expr.Subscript (value:=(PySem.Expr.Name "_law_odd" ⟨273,16,273,24⟩)) (slice:=(PySem.Expr.Call (func:=(PySem.Expr.Name "_law_take" ⟨273,25,273,34⟩)) (args:=[ (PySem.Expr.Name "_law_bag_here" ⟨273,35,273,48⟩),(PySem.Expr.Constant (PySem.Const.int 6) 0 ⟨273,50,273,51⟩)]) (keywords:=[]) (pos:=⟨273,25,273,52⟩))) (pos:=⟨273,16,273,53⟩)),(PySem.Expr.Tuple (elts:=[ (PySem.Expr.Constant (PySem.Const.str "wrong") 0 ⟨273,56,273,63⟩),(PySem.Expr.Name "_law_place" ⟨273,65,273,75⟩)]) (k:=0) (pos:=⟨273,55,273,76⟩))]) (k:=0) (pos:=⟨273,15,273,77⟩)))) (pos:=⟨273,8,273,77⟩))]) (orelse:=[]) (pos:=⟨271,4,273,77⟩)),(PySem.Stmt.If (test:=(PySem.Expr.BoolOp (op:=PySem.BoolOp.Or) (values:=[ (PySem.Expr.Compare (left:=(PySem.Expr.Name "_law_way" ⟨274,7,274,15⟩)) (ops:=[PySem.CmpOp.Eq]) (comparators:=[(PySem.Expr.Constant (PySem.Const.int 1) 0 ⟨274,19,274,20⟩)]) (pos:=⟨274,7,274,20⟩)),(PySem.Expr.BoolOp (op:=PySem.BoolOp.And) (values:=[ (PySem.Expr.Compare (left:=(PySem.Expr.Name "_law_place" ⟨274,25,274,35⟩)) (ops:=[PySem.CmpOp.Eq]) (comparators:=[(PySem.Expr.Constant (PySem.Const.int 0) 0 ⟨274,39,274,40⟩)]) (pos:=⟨274,25,274,40⟩)),(PySem.Expr.Compare (left:=(PySem.Expr.Name "_law_n" ⟨274,45,274,51⟩)) (ops:=[PySem.CmpOp.Eq]) (comparators:=[(PySem.Expr.Constant (PySem.Const.int 0) 0 ⟨274,55,274,56⟩)]) (pos:=⟨274,45,274,56⟩))]) (pos:=⟨274,25,274,56⟩))]) (pos:=⟨274,7,274,57⟩))) (body:=[ (PySem.Stmt.Assign (targets:=[(PySem.Expr.Name "_law_some" ⟨275,8,275,17⟩)]) (value:=(PySem.Expr.ListComp (elt:=(PySem.Expr.BinOp (left:=(PySem.Expr.List (elts:=[ (PySem.Expr.Tuple (elts:=[ (PySem.Expr.Constant (PySem.Const.int 1) 0 ⟨275,23,275,24⟩),(PySem.Expr.Constant (PySem.Const.int 1) 0 ⟨275,26,275,27⟩)]) (k:=0) (pos:=⟨275,22,275,28⟩))]) (pos:=⟨275,21,275,29⟩))) (op:=PySem.Operator.Mult) (right:=(PySem.Expr.BinOp (left:=(PySem.Expr.Name "_law_most" ⟨275,33,275,42⟩)) (op:=PySem.Operator.Add) (right:=(PySem.Expr.Constant (PySem.Const.int 1) 0 ⟨275,45,275,46⟩)) (pos:=⟨275,33,275,46⟩))) (pos:=⟨275,21,275,47⟩))) (generators:=[ { target:=(PySem.Expr.Name "_law_k" ⟨275,52,275,58⟩),iter:=(PySem.Expr.Call (func:=(PySem.Expr.Name "range" ⟨275,62,275,67⟩)) (args:=[ (PySem.Expr.BinOp (left:=(PySem.Expr.Name "_law_most" ⟨275,68,275,77⟩)) (op:=PySem.Operator.Add) (right:=(PySem.Expr.Constant (PySem.Const.int 1) 0 ⟨275,80,275,81⟩)) (pos:=⟨275,68,275,81⟩))]) (keywords:=[]) (pos:=⟨275,62,275,82⟩)),ifs:=[],is_async:=0:PySem.Comprehension }]) (scope:={ kind:=PySem.ScopeKind.function,names:=[ (PySem.Str.ofString ".0",PySem.NameKind.local),(PySem.Str.ofString "_law_k",PySem.NameKind.local),(PySem.Str.ofString "_law_most",PySem.NameKind.free)],isGenerator:=false,isCoroutine:=false,more:=[]:PySem.Scope }) (pos:=⟨275,20,275,83⟩))) (pos:=⟨275,8,275,83⟩)),(PySem.Stmt.If (test:=(PySem.Expr.Compare (left:=(PySem.Expr.Call (func:=(PySem.Expr.Name "_law_take" ⟨276,11,276,20⟩)) (args:=[ (PySem.Expr.Name "_law_bag_here" ⟨276,21,276,34⟩),(PySem.Expr.Constant (PySem.Const.int 2) 0 ⟨276,36,276,37⟩)]) (keywords:=[]) (pos:=⟨276,11,276,38⟩))) (ops:=[PySem.CmpOp.Eq]) (comparators:=[(PySem.Expr.Constant (PySem.Const.int 0) 0 ⟨276,42,276,43⟩)]) (pos:=⟨276,11,276,43⟩))) (body:=[ (PySem.Stmt.Assign (targets:=[ (PySem.Expr.Subscript (value:=(PySem.Expr.Name "_law_some" ⟨277,12,277,21⟩)) (slice:=(PySem.Expr.Call (func:=(PySem.Expr.Name "_law_take" ⟨277,22,277,31⟩)) (args:=[ (PySem.Expr.Name "_law_bag_here" ⟨277,32,277,45⟩),(PySem.Expr.BinOp (left:=(PySem.Expr.Name "_law_most" ⟨277,47,277,56⟩)) (op:=PySem.Operator.Add) (right:=(PySem.Expr.Constant (PySem.Const.int 1) 0 ⟨277,59,277,60⟩)) (pos:=⟨277,47,277,60⟩))]) (keywords:=[]) (pos:=⟨277,22,277,61⟩))) (pos:=⟨277,12,277,62⟩))]) (value:=(PySem.Expr.Constant PySem.Const.none 0 ⟨277,65,277,69⟩)) (pos:=⟨277,12,277,69⟩))]) (orelse:=[]) (pos:=⟨276,8,277,69⟩)),(PySem.Stmt.Return (value:=(some (PySem.Expr.Tuple (elts:=[ (PySem.Expr.Name "_law_some" ⟨278,16,278,25⟩),(PySem.Expr.Tuple (elts:=[ (PySem.Expr.Constant (PySem.Const.str "many") 0 ⟨278,28,278,34⟩),(PySem.Expr.Name "_law_most" ⟨278,36,278,45⟩)]) (k:=0) (pos:=⟨278,27,278,46⟩))]) (k:=0) (pos:=⟨278,15,278,47⟩)))) (pos:=⟨278,8,278,47⟩))]) (orelse:=[]) (pos:=⟨274,4,278,47⟩)),(PySem.Stmt.Assign (targets:=[(PySem.Expr.Name "_law_some" ⟨279,4,279,13⟩)]) (value:=(PySem.Expr.Call (func:=(PySem.Expr.Name "_law_copied" ⟨279,16,279,27⟩)) (args:=[(PySem.Expr.Name "_law_rows" ⟨279,28,279,37⟩)]) (keywords:=[]) (pos:=⟨279,16,279,38⟩))) (pos:=⟨279,4,279,38⟩)),(PySem.Stmt.If (test:=(PySem.Expr.BoolOp (op:=PySem.BoolOp.And) (values:=[ (PySem.Expr.Compare (left:=(PySem.Expr.Name "_law_place" ⟨280,7,280,17⟩)) (ops:=[PySem.CmpOp.Gt]) (comparators:=[(PySem.Expr.Constant (PySem.Const.int 0) 0 ⟨280,20,280,21⟩)]) (pos:=⟨280,7,280,21⟩)),(PySem.Expr.Compare (left:=(PySem.Expr.Call (func:=(PySem.Expr.Name "len" ⟨280,26,280,29⟩)) (args:=[(PySem.Expr.Name "_law_some" ⟨280,30,280,39⟩)]) (keywords:=[]) (pos:=⟨280,26,280,40⟩))) (ops:=[PySem.CmpOp.Eq]) (comparators:=[(PySem.Expr.Constant (PySem.Const.int 0) 0 ⟨280,44,280,45⟩)]) (pos:=⟨280,26,280,45⟩))]) (pos:=⟨280,7,280,45⟩))) (body:=[ (PySem.Stmt.Assign (targets:=[(PySem.Expr.Name "_law_some" ⟨281,8,281,17⟩)]) (value:=(PySem.Expr.ListComp (elt:=(PySem.Expr.BinOp (left:=(PySem.Expr.List (elts:=[ (PySem.Expr.Tuple (elts:=[ (PySem.Expr.Constant (PySem.Const.int 0) 0 ⟨281,23,281,24⟩),(PySem.Expr.Constant (PySem.Const.int 1) 0 ⟨281,26,281,27⟩)]) (k:=0) (pos:=⟨281,22,281,28⟩))]) (pos:=⟨281,21,281,29⟩))) (op:=PySem.Operator.Mult) (right:=(PySem.Expr.Name "_law_n" ⟨281,32,281,38⟩)) (pos:=⟨281,21,281,38⟩))) (generators:=[ { target:=(PySem.Expr.Name "_law_k" ⟨281,43,281,49⟩),iter:=(PySem.Expr.Call (func:=(PySem.Expr.Name "range" ⟨281,53,281,58⟩)) (args:=[ (PySem.Expr.BinOp (left:=(PySem.Expr.Constant (PySem.Const.int 1) 0 ⟨281,59,281,60⟩)) (op:=PySem.Operator.Add) (right:=(PySem.Expr.Call (func:=(PySem.Expr.Name "_law_take" ⟨281,63,281,72⟩)) (args:=[ (PySem.Expr.Name "_law_bag_here" ⟨281,73,281,86⟩),(PySem.Expr.Constant (PySem.Const.int 4) 0 ⟨281,88,281,89⟩)]) (keywords:=[]) (pos:=⟨281,63,281,90⟩))) (pos:=⟨281,59,281,90⟩))]) (keywords:=[]) (pos:=⟨281,53,281,91⟩)),ifs:=[],is_async:=0:PySem.Comprehension }]) (scope:={ kind:=PySem.ScopeKind.function,names:=[ (PySem.Str.ofString ".0",PySem.NameKind.local),(PySem.Str.ofString "_law_k",PySem.NameKind.local),(PySem.Str.ofString "_law_n",PySem.NameKind.free)],isGenerator:=false,isCoroutine:=false,more:=[]:PySem.Scope }) (pos:=⟨281,20,281,92⟩))) (pos:=⟨281,8,281,92⟩))]) (orelse:=[]) (pos:=⟨280,4,281,92⟩)),(PySem.Stmt.Assign (targets:=[(PySem.Expr.Name "_law_at" ⟨282,4,282,11⟩)]) (value:=(PySem.Expr.Call (func:=(PySem.Expr.Name "_law_take" ⟨282,14,282,23⟩)) (args:=[ (PySem.Expr.Name "_law_bag_here" ⟨282,24,282,37⟩),(PySem.Expr.Call (func:=(PySem.Expr.Name "len" ⟨282,39,282,42⟩)) (args:=[(PySem.Expr.Name "_law_some" ⟨282,43,282,52⟩)]) (keywords:=[]) (pos:=⟨282,39,282,53⟩))]) (keywords:=[]) (pos:=⟨282,14,282,54⟩))) (pos:=⟨282,4,282,54⟩)),(PySem.Stmt.Assign (targets:=[ (PySem.Expr.Subscript (value:=(PySem.Expr.Name "_law_some" ⟨283,4,283,13⟩)) (slice:=(PySem.Expr.Name "_law_at" ⟨283,14,283,21⟩)) (pos:=⟨283,4,283,22⟩))]) (value:=(PySem.Expr.Call (func:=(PySem.Expr.Name "_law_bad_row" ⟨283,25,283,37⟩)) (args:=[(PySem.Expr.Name "_law_bag_here" ⟨283,38,283,51⟩),(PySem.Expr.Name "_law_n" ⟨283,53,283,59⟩)]) (keywords:=[]) (pos:=⟨283,25,283,60⟩))) (pos:=⟨283,4,283,60⟩)),(PySem.Stmt.For (target:=(PySem.Expr.Name "_law_k" ⟨284,8,284,14⟩)) (iter:=(PySem.Expr.Call (func:=(PySem.Expr.Name "range" ⟨284,18,284,23⟩)) (args:=[ (PySem.Expr.BinOp (left:=(PySem.Expr.Name "_law_at" ⟨284,24,284,31⟩)) (op:=PySem.Operator.Add) (right:=(PySem.Expr.Constant (PySem.Const.int 1) 0 ⟨284,34,284,35⟩)) (pos:=⟨284,24,284,35⟩)),(PySem.Expr.Call (func:=(PySem.Expr.Name "len" ⟨284,37,284,40⟩)) (args:=[(PySem.Expr.Name "_law_some" ⟨284,41,284,50⟩)]) (keywords:=[]) (pos:=⟨284,37,284,51⟩))]) (keywords:=[]) (pos:=⟨284,18,284,52⟩))) (body:=[ (PySem.Stmt.If (test:=(PySem.Expr.Compare (left:=(PySem.Expr.Call (func:=(PySem.Expr.Name "_law_take" ⟨285,11,285,20⟩)) (args:=[ (PySem.Expr.Name "_law_bag_here" ⟨285,21,285,34⟩),(PySem.Expr.Constant (PySem.Const.int 2) 0 ⟨285,36,285,37⟩)]) (keywords:=[]) (pos:=⟨285,11,285,38⟩))) (ops:=[PySem.CmpOp.Eq]) (comparators:=[(PySem.Expr.Constant (PySem.Const.int 0) 0 ⟨285,42,285,43⟩)]) (pos:=⟨285,11,285,43⟩))) (body:=[ (PySem.Stmt.Assign (targets:=[ (PySem.Expr.Subscript (value:=(PySem.Expr.Name "_law_some" ⟨286,12,286,21⟩)) (slice:=(PySem.Expr.Name "_law_k" ⟨286,22,286,28⟩)) (pos:=⟨286,12,286,29⟩))]) (value:=(PySem.Expr.Call (func:=(PySem.Expr.Name "_law_bad_row" ⟨286,32,286,44⟩)) (args:=[(PySem.Expr.Name "_law_bag_here" ⟨286,45,286,58⟩),(PySem.Expr.Name "_law_n" ⟨286,60,286,66⟩)]) (keywords:=[]) (pos:=⟨286,32,286,67⟩))) (pos:=⟨286,12,286,67⟩))]) (orelse:=[]) (pos:=⟨285,8,286,67⟩))]) (orelse:=[]) (pos:=⟨284,4,286,67⟩)),(PySem.Stmt.Return (value:=(some (PySem.Expr.Tuple (elts:=[ (PySem.Expr.Name "_law_some" ⟨287,12,287,21⟩),(PySem.Expr.Tuple (elts:=[ (PySem.Expr.Constant (PySem.Const.str "thing") 0 ⟨287,24,287,31⟩),(PySem.Expr.Name "_law_at" ⟨287,33,287,40⟩)]) (k:=0) (pos:=⟨287,23,287,41⟩))]) (k:=0) (pos:=⟨287,11,287,42⟩)))) (pos:=⟨287,4,287,42⟩))]:=⟨_,_,_,_,_,_,rfl,rfl,rfl,rfl,rfl,rfl,by with_unfolding_all rfl⟩
theorem sc__law_spoilt:FnScope ["_law_bag_here","_law_rows","_law_n","_law_place","_law_most","_law_way","_law_odd","_law_some","_law_at","_law_k"] ["_law_bag_here","_law_rows","_law_n","_law_place"] (defScope s__law_spoilt):=⟨rfl,rfl,rfl,by decide +kernel,rfl,by decide +kernel,by decide +kernel⟩
theorem ok__law_spoilt (T:Txt K mg Z):FnOk P w K mg base CX0 4 Z.a__law_spoilt Z.d__law_spoilt ["_law_bag_here","_law_rows","_law_n","_law_place"] (sp_spoilt31 K):=by
 have G__law_take:=ok__law_take (P:=P) (w:=w) (base:=base) T
 have G__law_copied:=ok__law_copied (P:=P) (w:=w) (base:=base) T
 have G__law_bad_row:=ok__law_bad_row (P:=P) (w:=w) (base:=base) T
 refine T.F__law_spoilt.ok sc__law_spoilt (fun vs H Q E h=>?_) (fun cdv A outer s H vs Q E hr h=>?_)
 ·obtain ⟨P0,p,g,n,pl,H0,rows,rfl,_⟩:=h
  rfl
 ·obtain ⟨P0,p,g,n,pl,H0,rows,rfl,hB,hn,hpl,G,hp0,hg0,hP,hPp,hw,hs,hl5,hlm,hl0,k⟩:=h
  obtain ⟨x1,x2,x3,x4,x5,x6,hx1,hx2,hx3,hx4,hx5,hx6,hbd⟩:=bd__law_spoilt
  rw[hbd]
  refine ⟨_,(pss_cons (ps_set (i:=4) sc__law_spoilt.nd rfl (Or.inr rfl) (pe_ix ix_list (pe_lst (pa_cons pe_int (pa_cons pe_int (pa_cons pe_int pa_nil)))) (pv 3) (by intro _ _;rfl)))
   (pss_cons (ps_set (i:=5) sc__law_spoilt.nd rfl (Or.inl rfl) (pe_call G__law_take (hr.mono (by decide)) rfl T.mg__law_take T.F__law_take.kp T.b__law_take .nil pass0 (pa_cons (pv 0) (pa_cons pe_int pa_nil))))
   (pss_cons (ps_if (pt_cmpR op_eq (pv 5) pe_int (nomark _)) (pss_cons (ps_set (i:=6) sc__law_spoilt.nd rfl (Or.inl rfl) (pe_lst (pa_consE hx1 pe_non (pa_consE hx2 pe_str (pa_consE hx3 (pe_callTy call_tuple_of (by rfl) T.tuple PyProof.Rows.boot_tuple (pa_cons (pv 1) pa_nil)) (pa_consE hx4 pe_dnew (pa_consE hx5 pe_int (pa_consE hx6 pe_bl pa_nil))))))))
   (pss_one (ps_ret (pe_tup (pa_cons (pe_ix ix_list (pv 6) (pe_call G__law_take (hr.mono (by decide)) rfl T.mg__law_take T.F__law_take.kp T.b__law_take .nil pass0 (pa_cons (pv 0) (pa_cons pe_int pa_nil))) (by intro _ _;rfl)) (pa_cons (pe_tup (pa_cons pe_str (pa_cons (pv 3) pa_nil))) pa_nil)))))) pss_nil)
   (pss_consM (ps_if (PW.pt (pw_or (pt_cmpR op_eq (pv 5) pe_int (nomark _)) (pw_or1 (PW.pt (pw_and (pt_cmpR op_eq (pv 3) pe_int (nomark _)) (pw_and1 (pt_cmpR op_eq (pv 2) pe_int (nomark _)))))))) (pss_cons (ps_setC 7 ["_law_k"] ["_law_most"] [4] sc__law_spoilt.nd rfl rfl (pi_range1 rfl T.range (pa_cons (pe_op op_add (pv 4) pe_int) pa_nil)) (fun _=>(pg_name (i:=0) (show List.Nodup (α:=PySem.Str) ["_law_k","_law_most"] by decide +kernel) rfl (Or.inl rfl) (Or.inl rfl))) (fun _=>pf_nil) (fun _=>(pe_op op_rep (pe_lst (pa_cons (pe_tup (pa_cons pe_int (pa_cons pe_int pa_nil))) pa_nil)) (pe_op op_add (pv 1) pe_int))))
   (pss_cons (ps_if (pt_cmpR op_eq (pe_call G__law_take (hr.mono (by decide)) rfl T.mg__law_take T.F__law_take.kp T.b__law_take .nil pass0 (pa_cons (pv 0) (pa_cons pe_int pa_nil))) pe_int (nomark _)) (pss_one (ps_asg pe_non (pg_sub (pv 7) (pe_call G__law_take (hr.mono (by decide)) rfl T.mg__law_take T.F__law_take.kp T.b__law_take .nil pass0 (pa_cons (pv 0) (pa_cons (pe_op op_add (pv 4) pe_int) pa_nil))) set_list))) pss_nil)
   (pss_one (ps_ret (pe_tup (pa_cons (pv 7) (pa_cons (pe_tup (pa_cons pe_str (pa_cons (pv 4) pa_nil))) pa_nil))))))) pss_nil)
   (pss_cons (ps_set (i:=7) sc__law_spoilt.nd rfl (Or.inl rfl) (pe_call G__law_copied (hr.mono (by decide)) rfl T.mg__law_copied T.F__law_copied.kp T.b__law_copied .nil pass0 (pa_cons (pv 1) pa_nil)))
   (pss_consM (ps_if (PW.pt (pw_and (pt_cmpR op_gt (pv 3) pe_int (nomark _)) (pw_and1 (pt_cmpR op_eq (pe_callB call_len_seq (by rfl) T.len PySem.boot_len (pa_cons (pv 7) pa_nil)) pe_int (nomark _))))) (pss_one (ps_setC 7 ["_law_k"] ["_law_n"] [2] sc__law_spoilt.nd rfl rfl (pi_range1 rfl T.range (pa_cons (pe_op op_add pe_int (pe_call G__law_take (hr.mono (by decide)) rfl T.mg__law_take T.F__law_take.kp T.b__law_take .nil pass0 (pa_cons (pv 0) (pa_cons pe_int pa_nil)))) pa_nil)) (fun _=>(pg_name (i:=0) (show List.Nodup (α:=PySem.Str) ["_law_k","_law_n"] by decide +kernel) rfl (Or.inl rfl) (Or.inl rfl))) (fun _=>pf_nil) (fun _=>(pe_op op_rep (pe_lst (pa_cons (pe_tup (pa_cons pe_int (pa_cons pe_int pa_nil))) pa_nil)) (pv 1))))) pss_nil)
   (pss_cons (ps_set (i:=8) sc__law_spoilt.nd rfl (Or.inl rfl) (pe_call G__law_take (hr.mono (by decide)) rfl T.mg__law_take T.F__law_take.kp T.b__law_take .nil pass0 (pa_cons (pv 0) (pa_cons (pe_callB call_len_seq (by rfl) T.len PySem.boot_len (pa_cons (pv 7) pa_nil)) pa_nil))))
   (pss_cons (ps_asg (pe_call G__law_bad_row (hr.mono (by decide)) rfl T.mg__law_bad_row T.F__law_bad_row.kp T.b__law_bad_row .nil pass0 (pa_cons (pv 0) (pa_cons (pv 2) pa_nil))) (pg_sub (pv 7) (pv 8) set_list))
   (pss_cons (ps_for PassesOwn.never rfl (pi_range2 rfl T.range (pa_cons (pe_op op_add (pv 8) pe_int) (pa_cons (pe_callB call_len_seq (by rfl) T.len PySem.boot_len (pa_cons (pv 7) pa_nil)) pa_nil))) (pg_name (i:=9) sc__law_spoilt.nd rfl (Or.inl rfl) (Or.inl rfl))
    (pss_one (ps_if (pt_cmpR op_eq (pe_call G__law_take (hr.mono (by decide)) rfl T.mg__law_take T.F__law_take.kp T.b__law_take .nil pass0 (pa_cons (pv 0) (pa_cons pe_int pa_nil))) pe_int (nomark _)) (pss_one (ps_asg (pe_call G__law_bad_row (hr.mono (by decide)) rfl T.mg__law_bad_row T.F__law_bad_row.kp T.b__law_bad_row .nil pass0 (pa_cons (pv 0) (pa_cons (pv 2) pa_nil))) (pg_sub (pv 7) (pv 9) set_list))) pss_nil)))
   (pss_one (ps_ret (pe_tup (pa_cons (pv 7) (pa_cons (pe_tup (pa_cons pe_str (pa_cons (pv 8) pa_nil))) pa_nil)))))))))))))),?_⟩
  refine rd_start (σ:=[some (.ref p),some (.ref g),some (.int n),some (.int pl),none,none,none,none,none,none]) rfl ?_
  have hne:∀{a},H a=none->a≠p:=fun h z=>hB.at (by rw[← z];exact h)
  have hgp:g≠p:=fun z=>hp0 (by rw[← z];exact hg0)
  obtain ⟨m8,m4⟩:=mst_le pl
  walk_at "w"
  refine rd_newL fun lm Hm sm nm gm=>?_
  walk_at "w"
  refine rd_ixL (SqL.of gm) (mst_at hpl) ?_
  walk_at "w"
  refine ⟨p,3,rfl,hB.same sm,by decide,by decide,fun wy H1 w0 w1 B1 u1=>?_⟩
  have u01:Upto p H H1:=sm.upto.trans u1
  have G1:=G.upto u01 hB hgp hp0
  clear gm nm u1
  walk_at "w"
  refine ite2 (fun h0=>?_) (fun h0=>?_)
  ·walk_at "w"
   obtain ⟨zs,gz,lz,qz⟩:=grid_ri (P:=P0) (n:=n) G1 (fun q z _=>hP q z) (by lia) hw hs
   refine ⟨g,zs,rfl,.inl ⟨SqL.of gz,fun t nt=>?_⟩⟩
   have s4:Same H1 (upd H1 t (.tup zs)):=Same.new nt
   have g4:(upd H1 t (.tup zs)) t=some (.tup zs):=upd_same
   generalize upd H1 t (.tup zs)=H4 at s4 g4 ⊢
   walk_at "w"
   refine rd_dnewN fun d H5 s5 n5 g5=>?_
   have n5:=u01.none B1 (s4.none n5)
   walk_at "w"
   refine rd_newL fun L H6 s6 n6 g6=>?_
   have n6:=u01.none B1 ((s4.trans s5).none n6)
   have s16:=(s4.trans s5).trans s6
   have B6:=B1.same s16
   have u06:=u01.same s16
   walk_at "w"
   refine ⟨p,6,rfl,B6,by decide,by decide,fun i H7 i0 i1 B7 u7=>?_⟩
   obtain ⟨v,ev,mv,_⟩:=atI_some (xs:=[V.non,.str "rows",.ref t,.ref d,.int 7,.bl true]) i0 (by simpa using i1)
   walk_at "w"
   refine rd_ixL (SqL.of (u7.other (hne n6) g6)) ev ?_
   walk_at "w"
   refine rd_newT fun t8 H8 s8 g8=>?_
   walk_at "w"
   refine rd_newT fun t9 H9 s9 g9=>?_
   have s79:=s8.trans s9
   refine k t9 t8 v 0 pl H9 (AR.keep ?_ (KpU.same s79)) g9 (s9 _ _ g8) (B7.same s79) ((u06.trans u7).same s79)
   simp only[List.mem_cons,List.not_mem_nil,or_false] at mv
   rcases mv with rfl | rfl | rfl | rfl | rfl | rfl
   ·exact .flat trivial
   ·exact .flat flat_str
   ·refine .tup (u7.tup B6 ((s5.trans s6) _ _ g4)) (by lia) fun y hy=>?_
    obtain ⟨b,_,z⟩:=paired_mem qz hy
    obtain ⟨d,hd⟩:=((z.keep (KpU.same s16)).keep (KpU.upto u7 B6 hPp)).rp
    exact ⟨d,hd.mono fun a ha=>.inl ha⟩
   ·exact .dic (u7.other (hne n5) (s6 _ _ g5)) (.inr n5)
   ·exact .flat (show (7:Int).natAbs<=1000 by decide)
   ·exact .flat trivial
  walk_at "w"
  refine ⟨fun σ' H'=>σ'=[some (.ref p),some (.ref g),some (.int n),some (.int pl),some (.int (mst pl)),some (.int wy),none,none,none,none]∧H'=H1∧(pl=0->n≠0),?_,?_⟩
  ·walk_at "w"
   by_cases h1:wy=1
   ·rw[decide_eq_true h1]
    walk_at "w"
    refine ⟨by lia,by lia,?_⟩
    refine comp_range (lo:=0) (n:=mst pl+1) (fun i ys H'=>Same H1 H'∧ys.length=i∧∀y∈ys,∃d,Rp K (fun a=>H a=none) H' 2 y d) (Nat.le_of_lt (small1000 (by lia))) ⟨Same.refl _,rfl,fun _ z=>nomatch z⟩ ?_ ?_
    ·rintro i ys H' hi hy ⟨s',ly,gy⟩
     walk_at "w"
     refine rd_newT fun t H2 s2 g2=>?_
     walk_at "w"
     refine rd_newL fun a H3 s3 n3 g3=>?_
     walk_at "w"
     refine rd_rep (k:=mst pl+1) g3 (by lia) fun r H4 s4 n4 g4=>?_
     have s24:=(s2.trans s3).trans s4
     refine ⟨s'.trans s24,by simp [ly],fun y hy=>?_⟩
     rcases List.mem_append.mp hy with hy | hy
     ·obtain ⟨d,hd⟩:=gy y hy
      exact ⟨d,hd.keep (KpU.same s24)⟩
     ·obtain rfl:y=.ref r:=by simpa using hy
      refine rp_lst g4 (u01.none B1 ((s'.trans (s2.trans s3)).none n4)) (by simp;lia) fun z hz=>?_
      obtain ⟨_,rfl⟩:=List.mem_replicate.mp hz
      exact (Gi.ng (K:=K) ⟨t,1,rfl,(s3.trans s4) _ _ g2,by decide⟩).rp
    rintro ys H2 _ ⟨s2,ly,gy⟩ l nl
    have gy:∀y∈ys,∃d,Rp K (fun a=>H a=none∧a≠l) H2 2 y d:=fun y hy=>by
     obtain ⟨d,hd⟩:=gy y hy
     exact ⟨d,hd.live.mono fun a ha=>⟨ha.1,fun z=>ha.2 (by rw[z];exact nl)⟩⟩
    have nl0:H l=none:=u01.none B1 (s2.none nl)
    have s3:Same H2 (upd H2 l (.lst ys)):=Same.new nl
    have gl:(upd H2 l (.lst ys)) l=some (.lst ys):=upd_same
    generalize upd H2 l (.lst ys)=H3 at s3 gl ⊢
    have s13:=s2.trans s3
    have gy:∀y∈ys,∃d,Rp K (fun a=>H a=none∧a≠l) H3 2 y d:=fun y hy=>by
     obtain ⟨d,hd⟩:=gy y hy
     exact ⟨d,hd.keep (KpU.same s3)⟩
    have B3:=B1.same s13
    have u03:=u01.same s13
    walk_at "w"
    refine ⟨p,2,rfl,B3,by decide,by decide,fun c2 H4 c0 c1 B4 u4=>?_⟩
    have gl4:=u4.other (hne nl0) gl
    have u04:=u03.trans u4
    have gy4:∀y∈ys,∃d,Rp K (fun a=>H a=none∧a≠l) H4 2 y d:=fun y hy=>by
     obtain ⟨d,hd⟩:=gy y hy
     exact ⟨d,hd.keep (KpU.upto u4 B3 fun a ha=>hne ha.1)⟩
    clear gy gl
    walk_at "w"
    refine ite2 (fun h5=>?_) (fun h5=>?_)
    ·walk_at "w"
     refine ⟨p,mst pl+1,rfl,B4,by lia,by lia,fun at' H5 a0 a1 B5 u5=>?_⟩
     obtain ⟨j,rfl⟩:=Int.eq_ofNat_of_zero_le a0
     have gl5:=u5.other (hne nl0) gl4
     walk_at "w"
     refine rd_setL gl5 (ixN_nat (by lia)) rfl ?_
     obtain ⟨q5,I5,xs5,gq5⟩:=B5.inner
     have lq:l≠q5:=fun z=>by
      obtain ⟨q0,I0,xs0,gq0⟩:=hB.inner
      have:=Inner.inj ((u04.trans u5).2 _ I0) I5
      subst this
      rw[← z,nl0] at gq0;cases gq0
     have B6:=B5.upd (o:=.lst (ys.set j .non)) I5 (hne nl0) lq
     have u06:=(u04.trans u5).after (o:=.lst (ys.set j .non)) nl0
     have g6:(upd H5 l (.lst (ys.set j .non))) l=some (.lst (ys.set j .non)):=upd_same
     have gy6:∀y∈ys.set j .non,∃d,Rp K (fun a=>P0 a∨H a=none) (upd H5 l (.lst (ys.set j .non))) 2 y d:=fun y hy=>by
      rcases List.mem_or_eq_of_mem_set hy with hy | rfl
      ·obtain ⟨d,hd⟩:=gy4 y hy
       exact ⟨d,((hd.keep (KpU.upto u5 B4 fun a ha=>hne ha.1)).keep (KpU.upd gl5 fun a ha=>ha.2)).mono fun a ha=>.inr ha.1⟩
      ·exact Flat.rp (x:=.non) trivial
     generalize upd H5 l (.lst (ys.set j .non))=H6 at B6 u06 g6 gy6 ⊢
     walk_at "w"
     refine rd_newT fun t8 H8 s8 g8=>?_
     walk_at "w"
     refine rd_newT fun t9 H9 s9 g9=>?_
     have s69:=s8.trans s9
     exact k t9 t8 (.ref l) 1 (mst pl) H9 (.many (s69 _ _ g6) (.inr nl0) (by rw[List.length_set];lia) (by rw[List.length_set];lia) fun y hy=>let ⟨d,hd⟩:=gy6 y hy;⟨d,hd.keep (KpU.same s69)⟩) g9 (s9 _ _ g8) (B6.same s69) (u06.same s69)
    walk_at "w"
    refine rd_newT fun t8 H8 s8 g8=>?_
    walk_at "w"
    refine rd_newT fun t9 H9 s9 g9=>?_
    have s69:=s8.trans s9
    exact k t9 t8 (.ref l) 1 (mst pl) H9 (.many (s69 _ _ gl4) (.inr nl0) (by lia) (by lia) fun y hy=>let ⟨d,hd⟩:=gy4 y hy;⟨d,(hd.keep (KpU.same s69)).mono fun a ha=>.inr ha.1⟩) g9 (s9 _ _ g8) (B4.same s69) (u04.same s69)
   rw[decide_eq_false h1]
   walk_at "w"
   by_cases h2:pl=0
   case neg =>
    rw[decide_eq_false (show ¬((pl:Nat):Int)=0 by lia)]
    walk_at "w"
    exact ⟨rfl,rfl,fun z=>absurd z h2⟩
   rw[decide_eq_true (show ((pl:Nat):Int)=0 by lia)]
   walk_at "w"
   by_cases h3:n=0
   case neg =>
    rw[decide_eq_false (show ¬((n:Nat):Int)=0 by lia)]
    walk_at "w"
    exact ⟨rfl,rfl,fun _=>h3⟩
   rw[decide_eq_true (show ((n:Nat):Int)=0 by lia)]
   walk_at "w"
   refine ⟨by lia,by lia,?_⟩
   refine comp_range (lo:=0) (n:=mst pl+1) (fun i ys H'=>Same H1 H'∧ys.length=i∧∀y∈ys,∃d,Rp K (fun a=>H a=none) H' 2 y d) (Nat.le_of_lt (small1000 (by lia))) ⟨Same.refl _,rfl,fun _ z=>nomatch z⟩ ?_ ?_
   ·rintro i ys H' hi hy ⟨s',ly,gy⟩
    walk_at "w"
    refine rd_newT fun t H2 s2 g2=>?_
    walk_at "w"
    refine rd_newL fun a H3 s3 n3 g3=>?_
    walk_at "w"
    refine rd_rep (k:=mst pl+1) g3 (by lia) fun r H4 s4 n4 g4=>?_
    have s24:=(s2.trans s3).trans s4
    refine ⟨s'.trans s24,by simp [ly],fun y hy=>?_⟩
    rcases List.mem_append.mp hy with hy | hy
    ·obtain ⟨d,hd⟩:=gy y hy
     exact ⟨d,hd.keep (KpU.same s24)⟩
    ·obtain rfl:y=.ref r:=by simpa using hy
     refine rp_lst g4 (u01.none B1 ((s'.trans (s2.trans s3)).none n4)) (by simp;lia) fun z hz=>?_
     obtain ⟨_,rfl⟩:=List.mem_replicate.mp hz
     exact (Gi.ng (K:=K) ⟨t,1,rfl,(s3.trans s4) _ _ g2,by decide⟩).rp
   rintro ys H2 _ ⟨s2,ly,gy⟩ l nl
   have gy:∀y∈ys,∃d,Rp K (fun a=>H a=none∧a≠l) H2 2 y d:=fun y hy=>by
    obtain ⟨d,hd⟩:=gy y hy
    exact ⟨d,hd.live.mono fun a ha=>⟨ha.1,fun z=>ha.2 (by rw[z];exact nl)⟩⟩
   have nl0:H l=none:=u01.none B1 (s2.none nl)
   have s3:Same H2 (upd H2 l (.lst ys)):=Same.new nl
   have gl:(upd H2 l (.lst ys)) l=some (.lst ys):=upd_same
   generalize upd H2 l (.lst ys)=H3 at s3 gl ⊢
   have s13:=s2.trans s3
   have gy:∀y∈ys,∃d,Rp K (fun a=>H a=none∧a≠l) H3 2 y d:=fun y hy=>by
    obtain ⟨d,hd⟩:=gy y hy
    exact ⟨d,hd.keep (KpU.same s3)⟩
   have B3:=B1.same s13
   have u03:=u01.same s13
   walk_at "w"
   refine ⟨p,2,rfl,B3,by decide,by decide,fun c2 H4 c0 c1 B4 u4=>?_⟩
   have gl4:=u4.other (hne nl0) gl
   have u04:=u03.trans u4
   have gy4:∀y∈ys,∃d,Rp K (fun a=>H a=none∧a≠l) H4 2 y d:=fun y hy=>by
    obtain ⟨d,hd⟩:=gy y hy
    exact ⟨d,hd.keep (KpU.upto u4 B3 fun a ha=>hne ha.1)⟩
   clear gy gl
   walk_at "w"
   refine ite2 (fun h5=>?_) (fun h5=>?_)
   ·walk_at "w"
    refine ⟨p,mst pl+1,rfl,B4,by lia,by lia,fun at' H5 a0 a1 B5 u5=>?_⟩
    obtain ⟨j,rfl⟩:=Int.eq_ofNat_of_zero_le a0
    have gl5:=u5.other (hne nl0) gl4
    walk_at "w"
    refine rd_setL gl5 (ixN_nat (by lia)) rfl ?_
    obtain ⟨q5,I5,xs5,gq5⟩:=B5.inner
    have lq:l≠q5:=fun z=>by
     obtain ⟨q0,I0,xs0,gq0⟩:=hB.inner
     have:=Inner.inj ((u04.trans u5).2 _ I0) I5
     subst this
     rw[← z,nl0] at gq0;cases gq0
    have B6:=B5.upd (o:=.lst (ys.set j .non)) I5 (hne nl0) lq
    have u06:=(u04.trans u5).after (o:=.lst (ys.set j .non)) nl0
    have g6:(upd H5 l (.lst (ys.set j .non))) l=some (.lst (ys.set j .non)):=upd_same
    have gy6:∀y∈ys.set j .non,∃d,Rp K (fun a=>P0 a∨H a=none) (upd H5 l (.lst (ys.set j .non))) 2 y d:=fun y hy=>by
     rcases List.mem_or_eq_of_mem_set hy with hy | rfl
     ·obtain ⟨d,hd⟩:=gy4 y hy
      exact ⟨d,((hd.keep (KpU.upto u5 B4 fun a ha=>hne ha.1)).keep (KpU.upd gl5 fun a ha=>ha.2)).mono fun a ha=>.inr ha.1⟩
     ·exact Flat.rp (x:=.non) trivial
    generalize upd H5 l (.lst (ys.set j .non))=H6 at B6 u06 g6 gy6 ⊢
    walk_at "w"
    refine rd_newT fun t8 H8 s8 g8=>?_
    walk_at "w"
    refine rd_newT fun t9 H9 s9 g9=>?_
    have s69:=s8.trans s9
    exact k t9 t8 (.ref l) 1 (mst pl) H9 (.many (s69 _ _ g6) (.inr nl0) (by rw[List.length_set];lia) (by rw[List.length_set];lia) fun y hy=>let ⟨d,hd⟩:=gy6 y hy;⟨d,hd.keep (KpU.same s69)⟩) g9 (s9 _ _ g8) (B6.same s69) (u06.same s69)
   walk_at "w"
   refine rd_newT fun t8 H8 s8 g8=>?_
   walk_at "w"
   refine rd_newT fun t9 H9 s9 g9=>?_
   have s69:=s8.trans s9
   exact k t9 t8 (.ref l) 1 (mst pl) H9 (.many (s69 _ _ gl4) (.inr nl0) (by lia) (by lia) fun y hy=>let ⟨d,hd⟩:=gy4 y hy;⟨d,(hd.keep (KpU.same s69)).mono fun a ha=>.inr ha.1⟩) g9 (s9 _ _ g8) (B4.same s69) (u04.same s69)
  rintro σ' H' ⟨rfl,rfl,hpn⟩
  walk_at "w"
  refine ⟨g,H0,rows,rfl,G1,by lia,fun xs hx=>by rw[hw xs hx];lia,fun l H2 nl s2 Gl=>?_⟩
  obtain ⟨zs,gz,lz,qz⟩:=grid_ri (P:=fun a=>H a=none∧a≠l) (n:=n) Gl (fun q z zl=>⟨u01.none B1 z,zl⟩) (by lia) hw hs
  have S0:Sl31 K p l n pl H H2 (List.replicate zs.length true) zs:=⟨B1.same s2,u01.same s2,u01.none B1 nl,gz,qz,by lia,fun z=>by rw[lz];exact hl0 z⟩
  walk_at "w"
  refine ⟨fun σ' H'=>∃l xs,σ'=[some (.ref p),some (.ref g),some (.int n),some (.int pl),some (.int (mst pl)),some (.int wy),none,some (.ref l),none,none]∧0 < xs.length∧Sl31 K p l n pl H H' (List.replicate xs.length true) xs,?_,?_⟩
  ·walk_at "w"
   by_cases h2:0 < pl
   case neg =>
    rw[decide_eq_false (show ¬(0:Int) < ((pl:Nat):Int) by lia)]
    walk_at "w"
    have z0:pl=0:=by lia
    have:=hpn z0
    have:=hl0 z0
    exact ⟨l,zs,rfl,by lia,S0⟩
   rw[decide_eq_true (show (0:Int) < ((pl:Nat):Int) by lia)]
   walk_at "w"
   refine ⟨_,_,rfl,.inl (SqL.of gz),?_⟩
   walk_at "w"
   by_cases h3:zs.length=0
   case neg =>
    rw[decide_eq_false (show ¬((zs.length:Nat):Int)=0 by lia)]
    walk_at "w"
    exact ⟨l,zs,rfl,by lia,S0⟩
   rw[decide_eq_true (show ((zs.length:Nat):Int)=0 by lia)]
   walk_at "w"
   refine ⟨p,4,rfl,S0.B,by decide,by decide,fun c4 H3 c0 c1 B3 u3=>?_⟩
   have u03:=S0.u.trans u3
   walk_at "w"
   refine ⟨by lia,by lia,?_⟩
   refine comp_range (lo:=0) (n:=(1+c4).toNat) (fun i ys H'=>Same H3 H'∧ys.length=i∧∀y∈ys,RI K (fun a=>H a=none) H' n true y) (Nat.le_of_lt (small1000 (by lia))) ⟨Same.refl _,rfl,fun _ z=>nomatch z⟩ ?_ ?_
   ·rintro i ys H' hi hy ⟨s',ly,gy⟩
    walk_at "w"
    refine rd_newT fun t H4 s4 g4=>?_
    walk_at "w"
    refine rd_newL fun a H5 s5 n5 g5=>?_
    walk_at "w"
    refine rd_rep (k:=n) g5 (by lia) fun r H6 s6 n6 g6=>?_
    have s46:=(s4.trans s5).trans s6
    refine ⟨s'.trans s46,by simp [ly],fun y hy=>?_⟩
    rcases List.mem_append.mp hy with hy | hy
    ·exact (gy y hy).keep (KpU.same s46)
    ·obtain rfl:y=.ref r:=by simpa using hy
     refine .lst g6 (u03.none B3 ((s'.trans (s4.trans s5)).none n6)) (by simp;lia) (paired_good fun z hz=>?_) (by simp)
     obtain ⟨_,rfl⟩:=List.mem_replicate.mp hz
     exact Gi.ng ⟨t,0,rfl,(s5.trans s6) _ _ g4,by decide⟩
   ·rintro ys H4 _ ⟨s4,ly,gy⟩ l4 nl4
    have nl0:H l4=none:=u03.none B3 (s4.none nl4)
    have s5:Same H4 (upd H4 l4 (.lst ys)):=Same.new nl4
    refine ⟨l4,ys,rfl,by lia,(B3.same s4).same s5,(u03.same s4).same s5,nl0,upd_same,?_,by lia,fun z=>absurd z (by lia)⟩
    have al:∀y∈ys,RI K (fun a=>H a=none∧a≠l4) (upd H4 l4 (.lst ys)) n true y:=fun y hy=>((gy y hy).live.mono fun a ha=>⟨ha.1,fun z=>ha.2 (by rw[z];exact nl4)⟩).keep (KpU.same s5)
    exact paired_repB al
  rintro σ' H' ⟨l,xs,rfl,hx,S⟩
  have sl:=S.l9
  clear S0 gz qz lz Gl s2 nl
  walk_at "w"
  refine ⟨_,_,rfl,.inl (SqL.of S.g),?_⟩
  walk_at "w"
  refine ⟨p,xs.length,rfl,S.B,by lia,by lia,fun at' H3 a0 a1 B3 u3=>?_⟩
  obtain ⟨j,rfl⟩:=Int.eq_ofNat_of_zero_le a0
  have S3:=S.upto hB u3 B3
  walk_at "w"
  refine ⟨p,n,rfl,B3,hn,fun x H4 ri B4 u4=>?_⟩
  have g4:=(S3.upto hB u4 B4).g
  walk_at "w"
  refine rd_setL g4 (ixN_nat (by lia)) rfl ?_
  have S5:=S3.set (j:=j) hB ri u4 B4
  generalize upd H4 l (.lst (xs.set j x))=H5 at S5 ⊢
  walk_at "w"
  refine ⟨_,_,rfl,.inl (SqL.of S5.g),?_⟩
  walk_at "w"
  rw[List.length_set]
  refine ⟨⟨by lia,by lia,by lia,by lia⟩,?_⟩
  refine for_range (lo:=(j:Int)+1) (n:=((xs.length:Int) - ((j:Int)+1)).toNat) (fun i σ' H'=>∃bs ys y9,σ'=[some (.ref p),some (.ref g),some (.int n),some (.int pl),some (.int (mst pl)),some (.int wy),none,some (.ref l),some (.int j),y9]∧ys.length=xs.length∧Sl31 K p l n pl H H' bs ys∧(∀i,i < j->bs[i]?=some true)∧bs[j]?=some false) ⟨_,_,_,rfl,List.length_set,S5,fun i hi=>?_,?_⟩ ?_ ?_
  ·rw[List.getElem?_set_ne (by lia),List.getElem?_replicate,if_pos (by lia)]
  ·rw[List.getElem?_set_self (by simp;lia)]
  ·rintro i σ' H' hi ⟨bs,ys,y9,rfl,ly,S6,hb1,hb2⟩
   have sl6:=S6.l9
   walk_at "w"
   refine ⟨p,2,rfl,S6.B,by decide,by decide,fun c2 H7 c0 c1 B7 u7=>?_⟩
   have S7:=S6.upto hB u7 B7
   walk_at "w"
   refine ite2 (fun h5=>?_) (fun h5=>?_)
   ·walk_at "w"
    refine ⟨p,n,rfl,B7,hn,fun x8 H8 ri8 B8 u8=>?_⟩
    have g8:=(S7.upto hB u8 B8).g
    walk_at "w"
    rw[show (j:Int)+1+(i:Int)=((j+1+i:Nat):Int) by lia]
    refine rd_setL g8 (ixN_nat (by lia)) rfl ?_
    exact ⟨_,_,_,rfl,by rw[List.length_set];exact ly,S7.set (j:=j+1+i) hB ri8 u8 B8,fun k hk=>by rw[List.getElem?_set_ne (by lia)];exact hb1 k hk,by rw[List.getElem?_set_ne (by lia)];exact hb2⟩
   ·walk_at "w"
    exact ⟨_,_,_,rfl,ly,S7,hb1,hb2⟩
  ·rintro σ' H' ⟨bs,ys,y9,rfl,ly,S6,hb1,hb2⟩
   walk_at "w"
   refine rd_newT fun t8 H8 s8 g8=>?_
   walk_at "w"
   refine rd_newT fun t9 H9 s9 g9=>?_
   have s69:=s8.trans s9
   exact k t9 t8 (.ref l) 2 j H9 ((S6.ar hb1 hb2).keep (KpU.same s69)) g9 (s9 _ _ g8) (S6.B.same s69) (S6.u.same s69)
theorem sc_Wrong___init__:FnScope ["self","at"] ["self","at"] (defScope s_Wrong___init__):=⟨rfl,rfl,rfl,by decide +kernel,rfl,by decide +kernel,by decide +kernel⟩
theorem ok_Wrong___init__ (T:Txt K mg Z):FnOk P w K mg base CX0 1 Z.a_Wrong___init__ Z.d_Wrong___init__ ["self","at"] (sp_initE K Z.a_Wrong Z.a_SumError "at"):=by
 refine T.F_Wrong___init__.ok sc_Wrong___init__ (fun vs H Q E h=>?_) (fun cdv A outer s H vs Q E hr h=>?_)
 ·obtain ⟨e,y,rfl,_⟩:=h
  rfl
 ·obtain ⟨e,y,rfl,he,k⟩:=h
  refine ⟨_,(pss_one (ps_fldE (pv 0) (pv 1) rfl)),?_⟩
  refine rd_start (σ:=[some (.ref e),some y]) rfl ?_
  walk_at "w"
  unfold sFldE
  walk_at "w"
  refine ⟨e,_,_,rfl,he,T.xi_Wrong,T.nt_Wrong,fun dx hd ne=>?_⟩
  walk_at "w"
  exact k dx hd ne
theorem sc_TooMany___init__:FnScope ["self","most"] ["self","most"] (defScope s_TooMany___init__):=⟨rfl,rfl,rfl,by decide +kernel,rfl,by decide +kernel,by decide +kernel⟩
theorem ok_TooMany___init__ (T:Txt K mg Z):FnOk P w K mg base CX0 1 Z.a_TooMany___init__ Z.d_TooMany___init__ ["self","most"] (sp_initE K Z.a_TooMany Z.a_SumError "most"):=by
 refine T.F_TooMany___init__.ok sc_TooMany___init__ (fun vs H Q E h=>?_) (fun cdv A outer s H vs Q E hr h=>?_)
 ·obtain ⟨e,y,rfl,_⟩:=h
  rfl
 ·obtain ⟨e,y,rfl,he,k⟩:=h
  refine ⟨_,(pss_one (ps_fldE (pv 0) (pv 1) rfl)),?_⟩
  refine rd_start (σ:=[some (.ref e),some y]) rfl ?_
  walk_at "w"
  unfold sFldE
  walk_at "w"
  refine ⟨e,_,_,rfl,he,T.xi_TooMany,T.nt_TooMany,fun dx hd ne=>?_⟩
  walk_at "w"
  exact k dx hd ne
theorem ok_want_list_X (T:Txt K mg Z):FnOk P w K mg base (CXE P w) 3 Z.a_want_list Z.d_want_list ["thing","at","most"] (sp_wantX Z.a_Wrong Z.a_TooMany):=by
 have G_Wrong___init__:=ok_Wrong___init__ (P:=P) (w:=w) (base:=base) T
 have G_TooMany___init__:=ok_TooMany___init__ (P:=P) (w:=w) (base:=base) T
 refine T.F_want_list.okX sc_want_list (fun vs H Q E h=>?_) (fun cdv A outer s H vs Q E hr h=>?_)
 ·obtain ⟨x,a,m,rfl,_⟩:=h
  rfl
 ·obtain ⟨x,a,m,rfl,hx⟩:=h
  refine ⟨_,(pss_cons (ps_if (pt_not (pt_val (pe_isT rfl T.isinstance PyProof.Rows.boot_list T.list (pv 0)))) (pss_one (ps_raiseE throwsT_def rfl (pe_makeE rfl T.xi_Wrong T.in_Wrong T.fn_Wrong T.kp_Wrong G_Wrong___init__ (hr.mono (by decide)) rfl T.mg_Wrong T.b_Wrong___init__ (pa_cons (pv 1) pa_nil)))) pss_nil)
   (pss_one (ps_if (pt_cmpR op_gt (pe_callB call_len_seq (by rfl) T.len PySem.boot_len (pa_cons (pv 0) pa_nil)) (pv 2) (nomark _)) (pss_one (ps_raiseE throwsT_def rfl (pe_makeE rfl T.xi_TooMany T.in_TooMany T.fn_TooMany T.kp_TooMany G_TooMany___init__ (hr.mono (by decide)) rfl T.mg_TooMany T.b_TooMany___init__ (pa_cons (pv 2) pa_nil)))) pss_nil))),?_⟩
  refine rd_start (σ:=[some x,some (.int a),some (.int m)]) rfl ?_
  rcases hx with ⟨kn,ht,k⟩ | ⟨p,xs,rfl,e,k1,k2⟩
  ·walk_at "w"
   refine rd_isT kn (.inr (.inr (.inl rfl))) ?_
   rw[ht]
   walk_at "w"
   unfold tRaiseE tMakeE
   walk_at "w"
   intro e he
   refine ⟨e,.int a,rfl,upd_same,fun dq hd ne=>⟨rfl,e,Z.a_Wrong,_,some dq,rfl,upd_same,he,T.xi_Wrong,?_⟩⟩
   have hd':H dq=none:=by rw[upd_ne ne] at hd;exact hd
   exact k dq _ (same_hid he (Same.refl _) hd') (by rw[hid_ne ne,upd_ne ne,upd_same])
  walk_at "w"
  refine rd_isT (.lst e) (.inr (.inr (.inl rfl))) ?_
  rw[show tyB "list" (.ref p) H=true by simp only[tyB,e];rfl]
  walk_at "w"
  refine ⟨_,_,rfl,.inl (SqL.of e),?_⟩
  walk_at "w"
  by_cases hl:m < xs.length
  ·rw[decide_eq_true (show (m:Int) < (xs.length:Int) by lia)]
   walk_at "w"
   unfold tRaiseE tMakeE
   walk_at "w"
   intro e he
   refine ⟨e,.int m,rfl,upd_same,fun dq hd ne=>⟨rfl,e,Z.a_TooMany,_,some dq,rfl,upd_same,he,T.xi_TooMany,?_⟩⟩
   have hd':H dq=none:=by rw[upd_ne ne] at hd;exact hd
   exact (k1 hl) dq _ (same_hid he (Same.refl _) hd') (by rw[hid_ne ne,upd_ne ne,upd_same])
  rw[decide_eq_false (show ¬((m:Int) < (xs.length:Int)) by lia)]
  walk_at "w"
  exact k2 (by lia)
theorem ok_is_whole_X (T:Txt K mg Z):FnOk P w K mg base CX0 1 Z.a_is_whole Z.d_is_whole ["thing"] sp_whole:=by
 refine T.F_is_whole.ok sc_is_whole (fun vs H Q E h=>?_) (fun cdv A outer s H vs Q E hr h=>?_)
 ·obtain ⟨x,rfl,_⟩:=h
  rfl
 ·obtain ⟨x,rfl,hx,k⟩:=h
  refine ⟨_,(pss_one (ps_ret (pe_and (pe_isT rfl T.isinstance PyProof.Rows.boot_int T.int (pv 0)) (pe_one (pe_not (pe_isT rfl T.isinstance PyProof.Rows.boot_bool T.bool (pv 0))))))),?_⟩
  refine rd_start (σ:=[some x]) rfl ?_
  have e:=wholeB_ty x H
  walk_at "w"
  refine rd_isT hx (.inl rfl) ?_
  walk_at "w"
  refine ite2 (fun h1=>?_) (fun h1=>?_)
  ·rw[h1,Bool.true_and] at e
   rw[← e] at k
   walk_at "w"
   refine rd_isT hx (.inr (.inl rfl)) ?_
   walk_at "w"
   exact k
  ·rw[show tyB "int" x H=false by simpa using h1,Bool.false_and] at e
   rw[← e] at k
   walk_at "w"
   exact k
theorem ok_is_number_X (T:Txt K mg Z):FnOk P w K mg base CX0 2 Z.a_is_number Z.d_is_number ["thing"] (sp_num31 K):=by
 have G_is_whole_X:=ok_is_whole_X (P:=P) (w:=w) (base:=base) T
 have G_common_divisor:=ok_common_divisor (P:=P) (w:=w) (base:=base) T
 refine T.F_is_number.ok sc_is_number (fun vs H Q E h=>?_) (fun cdv A outer s H vs Q E hr h=>?_)
 ·obtain ⟨P,x,b,rfl,_⟩:=h
  rfl
 ·obtain ⟨P,x,b,rfl,hx,k⟩:=h
  refine ⟨_,(pss_cons (ps_if (PW.pt (pw_or (pt_not (pt_val (pe_isTK rfl T.isinstance PyProof.Rows.boot_tuple T.tuple (pv 0)))) (pw_or1 (pt_cmpR op_ne (pe_callB call_len_seq (by rfl) T.len PySem.boot_len (pa_cons (pv 0) pa_nil)) pe_int (nomark _))))) (pss_one (ps_ret pe_bl)) pss_nil)
   (pss_cons (ps_if (PW.pt (pw_or (pt_not (pt_val (pe_call G_is_whole_X (hr.mono (by decide)) rfl T.mg_is_whole T.F_is_whole.kp T.b_is_whole .nil pass0 (pa_cons (pe_ix ix_tup (pv 0) pe_int (by intro _ _;rfl)) pa_nil)))) (pw_or1 (pt_not (pt_val (pe_call G_is_whole_X (hr.mono (by decide)) rfl T.mg_is_whole T.F_is_whole.kp T.b_is_whole .nil pass0 (pa_cons (pe_ix ix_tup (pv 0) pe_int (by intro _ _;rfl)) pa_nil))))))) (pss_one (ps_ret pe_bl)) pss_nil)
   (pss_one (ps_ret (pe_and (pe_cmpR op_ge (pe_ix ix_tup (pv 0) pe_int (by intro _ _;rfl)) pe_int (nomark _)) (pe_one (pe_cmpR op_eq (pe_call G_common_divisor (hr.mono (by decide)) rfl T.mg_common_divisor T.F_common_divisor.kp T.b_common_divisor .nil pass0 (pa_cons (pe_ix ix_tup (pv 0) pe_int (by intro _ _;rfl)) (pa_cons (pe_ix ix_tup (pv 0) pe_int (by intro _ _;rfl)) pa_nil))) pe_int (nomark _)))))))),?_⟩
  refine rd_start (σ:=[some x]) rfl ?_
  cases hx with
  | ok hx =>
   obtain ⟨n,⟨p,rfl,hp⟩,⟨hb,hg,_⟩,_⟩:=hx
   walk_at "w"
   refine .inr ⟨p,_,_,rfl,hp,rfl,?_⟩
   walk_at "w"
   refine ⟨_,_,rfl,.inr hp,?_⟩
   walk_at "w"
   try refine iteF ?_
   walk_at "w"
   refine ⟨.int n.1,rfl,.int _,?_⟩
   rw[show wholeB (.int n.1)=true from rfl]
   walk_at "w"
   refine ⟨.int n.2,rfl,.int _,?_⟩
   rw[show wholeB (.int n.2)=true from rfl]
   walk_at "w"
   rw[decide_eq_true (show (1:Int)<=n.2 by lia)]
   walk_at "w"
   refine ⟨n.1,n.2,rfl,?_⟩
   walk_at "w"
   have e:g n.1 n.2=1:=by unfold g;rw[hg];rfl
   rw[e,decide_eq_true rfl]
   exact k _ (Same.refl _)
  | no hx =>
   obtain ⟨kn,nb⟩:=hx.kn
   have k:∀H',Same H H'->Q (.bl (numB x H)) H':=by rw[nb];exact k
   walk_at "w"
   refine .inl (rd_isT kn.1 (.inr (.inr (.inr rfl))) ?_)
   walk_at "w"
   by_cases ht:tyB "tuple" x H=true
   case neg =>
    rw[show tyB "tuple" x H=false by simpa using ht]
    walk_at "w"
    rw[numB_not ht] at k
    exact k H (Same.refl _)
   case pos =>
    rw[ht]
    obtain ⟨p,xs,rfl,e⟩:=tup_of ht
    walk_at "w"
    refine ⟨_,_,rfl,.inr (SqT.of e),?_⟩
    walk_at "w"
    refine ite2 (fun h2=>?_) (fun h2=>?_)
    ·have hn:xs.length≠2:=fun z=>by rw[z] at h2;simp at h2
     rw[numB_no e (.inl hn)] at k
     walk_at "w"
     exact k H (Same.refl _)
    have hn:xs.length=2:=by
     have:((xs.length:Nat):Int)=2:=by simpa using h2
     lia
    obtain ⟨u,v,rfl⟩:=two_of hn
    have ku:=kn.2 p _ rfl e u (by simp)
    have kv:=kn.2 p _ rfl e v (by simp)
    walk_at "w"
    refine ⟨u,rfl,ku.1,?_⟩
    walk_at "w"
    by_cases hu:wholeB u=true
    case neg =>
     rw[numB_no e (.inr (by simp [show wholeB u=false by simpa using hu]))] at k
     rw[show wholeB u=false by simpa using hu]
     walk_at "w"
     exact k H (Same.refl _)
    case pos =>
     rw[hu]
     walk_at "w"
     refine ⟨v,rfl,kv.1,?_⟩
     walk_at "w"
     by_cases hv:wholeB v=true
     case neg =>
      rw[numB_no e (.inr (by simp [show wholeB v=false by simpa using hv]))] at k
      rw[show wholeB v=false by simpa using hv]
      walk_at "w"
      exact k H (Same.refl _)
     case pos =>
      rw[hv]
      obtain ⟨a,rfl⟩:=wholeB_int hu
      obtain ⟨b,rfl⟩:=wholeB_int hv
      rw[numB_tup e] at k
      walk_at "w"
      refine ite2 (fun h3=>?_) (fun h3=>?_)
      ·have hb:0 < b:=by have:=of_decide_eq_true h3;lia
       walk_at "w"
       refine ⟨a,b,rfl,?_⟩
       walk_at "w"
       have e3:decide (g a b=1)=decide (0 < b∧Int.gcd a b=1):=by
        rw[decide_eq_decide]
        unfold g
        lia
       rw[e3]
       exact k H (Same.refl _)
      ·have hb:¬0 < b:=fun z=>h3 (decide_eq_true (by lia))
       rw[decide_eq_false (fun z=>hb z.1)] at k
       walk_at "w"
       exact k H (Same.refl _)
theorem ok_is_row_X (T:Txt K mg Z):FnOk P w K mg base CX0 3 Z.a_is_row Z.d_is_row ["thing","many"] (sp_row31 K):=by
 have G_is_number_X:=ok_is_number_X (P:=P) (w:=w) (base:=base) T
 refine T.F_is_row.ok sc_is_row (fun vs H Q E h=>?_) (fun cdv A outer s H vs Q E hr h=>?_)
 ·obtain ⟨P,x,m,b,rfl,_⟩:=h
  rfl
 ·obtain ⟨P,x,m,b,rfl,hx,k⟩:=h
  refine ⟨_,(pss_cons (ps_if (PW.pt (pw_or (pt_not (pt_val (pe_isT rfl T.isinstance PyProof.Rows.boot_list T.list (pv 0)))) (pw_or1 (pt_cmpR op_ne (pe_callB call_len_seq (by rfl) T.len PySem.boot_len (pa_cons (pv 0) pa_nil)) (pv 1) (nomark _))))) (pss_one (ps_ret pe_bl)) pss_nil)
   (pss_one (ps_ret (pe_callB (call_all rfl) (by rfl) T.all PyProof.Rows.boot_all (pa_cons (pe_comp ["value"] [] [] (pi_list (pv 0)) (fun _=>(pg_name (i:=0) (show List.Nodup (α:=PySem.Str) ["value"] by decide +kernel) rfl (Or.inl rfl) (Or.inl rfl))) (fun _=>pf_nil) (fun _=>(pe_call G_is_number_X (hr.mono (by decide)) rfl T.mg_is_number T.F_is_number.kp T.b_is_number .nil pass0 (pa_cons (pv 0) pa_nil)))) pa_nil))))),?_⟩
  refine rd_start (σ:=[some x,some (.int m)]) rfl ?_
  rcases hx.split with ⟨kn,ht,rfl⟩ | ⟨p,xs,bs,rfl,e,hl,q,rfl⟩
  ·walk_at "w"
   refine rd_isT kn (.inr (.inr (.inl rfl))) ?_
   rw[ht]
   walk_at "w"
   exact k H (Same.refl _)
  walk_at "w"
  refine rd_isT (.lst e) (.inr (.inr (.inl rfl))) ?_
  rw[show tyB "list" (.ref p) H=true by simp only[tyB,e];rfl]
  walk_at "w"
  refine ⟨_,_,rfl,.inl (SqL.of e),?_⟩
  walk_at "w"
  refine ite2 (fun h2=>?_) (fun h2=>?_)
  ·have hn:¬xs.length=m:=fun z=>by rw[z] at h2;simp at h2
   rw[decide_eq_false hn,Bool.false_and] at k
   walk_at "w"
   exact k H (Same.refl _)
  have hn:xs.length=m:=by
   have:((xs.length:Nat):Int)=m:=by simpa using h2
   lia
  rw[decide_eq_true hn,Bool.true_and] at k
  walk_at "w"
  refine ⟨⟨_,SqL.of e⟩,?_⟩
  refine comp_list (K:=K) (a:=p) (xs:=xs) (fun i ys H'=>Same H H'∧ys=(bs.take i).map V.bl) (Nat.le_of_lt (small1000 (by lia))) ⟨Same.refl _,rfl⟩ (fun i ys H' _ ⟨s,_⟩=>SqL.of (s _ _ e)) ?_ ?_
  ·rintro i y ys H' hy hlen ⟨s,rfl⟩
   obtain ⟨c,hc,hm⟩:=paired_at q hy
   walk_at "w"
   refine ⟨P,y,c,rfl,hm.keep (KpU.same s),fun H2 s2=>?_⟩
   refine ⟨s.trans s2,?_⟩
   rw[take_snoc hc,List.map_append]
   rfl
  ·rintro ys H' hy ⟨s,rfl⟩ l hl
   walk_at "w"
   refine ⟨l,bs,rfl,SqL.of (by rw[upd_same,List.take_of_length_le (by rw[q.length];exact Nat.le_refl _)]),?_⟩
   exact k _ (s.trans (Same.new hl))
theorem sc_NoThing___init__:FnScope ["self","at"] ["self","at"] (defScope s_NoThing___init__):=⟨rfl,rfl,rfl,by decide +kernel,rfl,by decide +kernel,by decide +kernel⟩
theorem ok_NoThing___init__ (T:Txt K mg Z):FnOk P w K mg base CX0 1 Z.a_NoThing___init__ Z.d_NoThing___init__ ["self","at"] (sp_initE K Z.a_NoThing Z.a_SumError "at"):=by
 refine T.F_NoThing___init__.ok sc_NoThing___init__ (fun vs H Q E h=>?_) (fun cdv A outer s H vs Q E hr h=>?_)
 ·obtain ⟨e,y,rfl,_⟩:=h
  rfl
 ·obtain ⟨e,y,rfl,he,k⟩:=h
  refine ⟨_,(pss_one (ps_fldE (pv 0) (pv 1) rfl)),?_⟩
  refine rd_start (σ:=[some (.ref e),some y]) rfl ?_
  walk_at "w"
  unfold sFldE
  walk_at "w"
  refine ⟨e,_,_,rfl,he,T.xi_NoThing,T.nt_NoThing,fun dx hd ne=>?_⟩
  walk_at "w"
  exact k dx hd ne
theorem ok_copied_rows_X (T:Txt K mg Z):FnOk P w K mg base (CXE P w) 4 Z.a_copied_rows Z.d_copied_rows ["things","wide"] (sp_copX K Z.a_NoThing):=by
 have G_is_row_X:=ok_is_row_X (P:=P) (w:=w) (base:=base) T
 have G_NoThing___init__:=ok_NoThing___init__ (P:=P) (w:=w) (base:=base) T
 refine T.F_copied_rows.okX sc_copied_rows (fun vs H Q E h=>?_) (fun cdv A outer s H vs Q E hr h=>?_)
 ·obtain ⟨P,p,xs,bs,w,rfl,_⟩:=h
  rfl
 ·obtain ⟨P,p,xs,bs,w,rfl,gx,hl,qx,kN,kQ⟩:=h
  refine ⟨_,(pss_cons (ps_for own_def rfl (pi_enum rfl T.enumerate (pa_cons (pv 0) pa_nil)) (pg_tup rfl (pgs_cons (pg_name (i:=2) sc_copied_rows.nd rfl (Or.inl rfl) (Or.inl rfl)) (pgs_cons (pg_name (i:=3) sc_copied_rows.nd rfl (Or.inl rfl) (Or.inl rfl)) pgs_nil)))
    (pss_one (ps_if (pt_not (pt_val (pe_call G_is_row_X (hr.mono (by decide)) rfl T.mg_is_row T.F_is_row.kp T.b_is_row .nil pass0 (pa_cons (pv 3) (pa_cons (pv 1) pa_nil))))) (pss_one (ps_raiseE throwsT_def rfl (pe_makeE rfl T.xi_NoThing T.in_NoThing T.fn_NoThing T.kp_NoThing G_NoThing___init__ (hr.mono (by decide)) rfl T.mg_NoThing T.b_NoThing___init__ (pa_cons (pv 2) pa_nil)))) pss_nil)))
   (pss_one (ps_ret (pe_comp ["row"] [] [] (pi_list (pv 0)) (fun _=>(pg_name (i:=0) (show List.Nodup (α:=PySem.Str) ["row"] by decide +kernel) rfl (Or.inl rfl) (Or.inl rfl))) (fun _=>pf_nil) (fun _=>(pe_callTy (call_list_ofK K (by rfl)) (by rfl) T.list PyProof.Rows.boot_list (pa_cons (pv 0) pa_nil))))))),?_⟩
  refine rd_start (σ:=[some (.ref p),some (.int w),none,none]) rfl ?_
  have lb:=qx.length
  walk_at "w"
  refine ⟨⟨_,SqL.of gx⟩,?_⟩
  refine for_enum (K:=K) (l:=p) (xs:=xs) (fun i σ' H'=>Same H H'∧(∀j,j < i->bs[j]?=some true)∧∃x y,σ'=[some (.ref p),some (.int w),x,y]) ⟨Same.refl _,fun j hj=>absurd hj (Nat.not_lt_zero j),none,none,rfl⟩ (fun i σ' H' _ ⟨s,_⟩=>SqL.of (s _ _ gx)) ?_ ?_
  ·rintro i x σ' H' t hx ⟨s,hb,x1,y1,rfl⟩ ht
   obtain ⟨b,eb,hR⟩:=paired_at qx hx
   have st:Same H' (upd H' t (.tup [.int i,x])):=Same.new ht
   have gt:(upd H' t (.tup [.int i,x])) t=some (.tup [.int i,x]):=upd_same
   have s2:=s.trans st
   generalize upd H' t (.tup [.int i,x])=H2 at st gt s2 ⊢
   walk_at "w"
   refine ⟨P,x,w,b,rfl,hR.keep (KpU.same s2),fun H3 s3=>?_⟩
   have s3:=s2.trans s3
   cases b with
   | true =>
    walk_at "w"
    refine ⟨s3,fun j hj=>?_,_,_,rfl⟩
    rcases Nat.lt_succ_iff_lt_or_eq.mp hj with z | rfl
    ·exact hb j z
    ·exact eb
   | false =>
    have k:Thr H3 E Z.a_NoThing "at" i:=fun dx H4 s4 g=>kN i hb eb dx H4 (s3.trans s4) g
    walk_at "w"
    unfold tRaiseE tMakeE
    walk_at "w"
    intro e he
    refine ⟨e,.int i,rfl,upd_same,fun dq hd ne=>⟨rfl,e,Z.a_NoThing,_,some dq,rfl,upd_same,(s3.none he),T.xi_NoThing,?_⟩⟩
    have hd':H3 dq=none:=by rw[upd_ne ne] at hd;exact hd
    exact k dq _ (same_hid he (Same.refl _) hd') (by rw[hid_ne ne,upd_ne ne,upd_same])
  ·rintro σ' H' ⟨s,hb,x1,y1,rfl⟩
   have al:∀b∈bs,b=true:=fun b hm=>by
    obtain ⟨j,hj,e⟩:=List.getElem_of_mem hm
    have z:=hb j (by lia)
    rw[List.getElem?_eq_getElem hj] at z
    rw[← e]
    exact Option.some.inj z
   walk_at "w"
   refine ⟨⟨_,SqL.of (s _ _ gx)⟩,?_⟩
   refine comp_list (K:=K) (a:=p) (xs:=xs) (fun i ys H2=>Same H H2∧ys.length=i) (Nat.le_of_lt (small1000 (by lia))) ⟨s,rfl⟩ (fun i ys H' _ ⟨s,_⟩=>SqL.of (s _ _ gx)) ?_ ?_
   ·rintro i y ys H2 hy hlen ⟨s2,rfl⟩
    obtain ⟨b,eb,hR⟩:=paired_at qx hy
    obtain rfl:=al b (List.mem_of_getElem? eb)
    obtain ⟨u,zs,rfl,gz⟩:=hR.list
    walk_at "w"
    refine ⟨u,zs,rfl,.inl (SqL.of (s2 _ _ gz)),fun l1 hl1=>?_⟩
    exact ⟨s2.trans (Same.new hl1),by simp⟩
   ·rintro ys H2 hy ⟨s2,hl2⟩ r hr
    exact kQ al r _ ys (s2.trans (Same.new hr)) upd_same hl2
theorem ok_System___init___X (T:Txt K mg Z):FnOk P w K mg base (CXE P w) 5 Z.a_System___init__ Z.d_System___init__ ["self","move","put","look"] (sp_initX K Z.a_System Z.a_Wrong Z.a_TooMany Z.a_NoThing):=by
 have G_want_list_X:=ok_want_list_X (P:=P) (w:=w) (base:=base) T
 have G_copied_rows_X:=ok_copied_rows_X (P:=P) (w:=w) (base:=base) T
 refine T.F_System___init__.okX sc_System___init__ (fun vs H Q E h=>?_) (fun cdv A outer s H vs Q E hr h=>?_)
 ·obtain ⟨P,x,dx,a0,a1,a2,Hb,w,c,v,r0,r1,r2,rfl,_⟩:=h
  rfl
 ·obtain ⟨P,x,dx,a0,a1,a2,Hb,w,c,v,r0,r1,r2,rfl,nx,ndx,nex,rfl,A0,A1,A2,hc,k⟩:=h
  refine ⟨_,(pss_cons (ps_expr (pe_call G_want_list_X (hr.mono (by decide)) rfl T.mg_want_list T.F_want_list.kp T.b_want_list .nil pass_def (pa_cons (pv 1) (pa_cons pe_int (pa_cons (pe_glob (v:=.int 8) rfl T.mg_MOST_STATES ⟨_,rfl⟩) pa_nil)))))
   (pss_cons (ps_fld (pv 0) (pe_call G_copied_rows_X (hr.mono (by decide)) rfl T.mg_copied_rows T.F_copied_rows.kp T.b_copied_rows .nil pass_def (pa_cons (pv 1) (pa_cons (pe_callB call_len_seq (by rfl) T.len PySem.boot_len (pa_cons (pv 1) pa_nil)) pa_nil))) rfl)
   (pss_cons (ps_fld (pv 0) (pe_callB call_len_seq (by rfl) T.len PySem.boot_len (pa_cons (pe_fld (pv 0) rfl) pa_nil)) rfl)
   (pss_cons (ps_expr (pe_call G_want_list_X (hr.mono (by decide)) rfl T.mg_want_list T.F_want_list.kp T.b_want_list .nil pass_def (pa_cons (pv 2) (pa_cons pe_int (pa_cons (pe_glob (v:=.int 4) rfl T.mg_MOST_PUTS ⟨_,rfl⟩) pa_nil)))))
   (pss_cons (ps_fld (pv 0) (pe_call G_copied_rows_X (hr.mono (by decide)) rfl T.mg_copied_rows T.F_copied_rows.kp T.b_copied_rows .nil pass_def (pa_cons (pv 2) (pa_cons (pe_fld (pv 0) rfl) pa_nil))) rfl)
   (pss_cons (ps_fld (pv 0) (pe_callB call_len_seq (by rfl) T.len PySem.boot_len (pa_cons (pe_fld (pv 0) rfl) pa_nil)) rfl)
   (pss_cons (ps_expr (pe_call G_want_list_X (hr.mono (by decide)) rfl T.mg_want_list T.F_want_list.kp T.b_want_list .nil pass_def (pa_cons (pv 3) (pa_cons pe_int (pa_cons (pe_glob (v:=.int 4) rfl T.mg_MOST_LOOKS ⟨_,rfl⟩) pa_nil)))))
   (pss_cons (ps_fld (pv 0) (pe_call G_copied_rows_X (hr.mono (by decide)) rfl T.mg_copied_rows T.F_copied_rows.kp T.b_copied_rows .nil pass_def (pa_cons (pv 3) (pa_cons (pe_fld (pv 0) rfl) pa_nil))) rfl)
   (pss_one (ps_fld (pv 0) (pe_callB call_len_seq (by rfl) T.len PySem.boot_len (pa_cons (pe_fld (pv 0) rfl) pa_nil)) rfl)))))))))),?_⟩
  refine rd_start (σ:=[some (.ref x),some a0,some a1,some a2]) rfl ?_
  have s0:Same Hb (upd (upd Hb dx (.own x)) x (.ins Z.a_System dx [])):=fun b o e=>by
   rw[upd_ne (ne_of_none e nx),upd_ne (ne_of_none e ndx)]
   exact e
  have hx:(upd (upd Hb dx (.own x)) x (.ins Z.a_System dx [])) x=some (.ins Z.a_System dx []):=upd_same
  generalize upd (upd Hb dx (.own x)) x (.ins Z.a_System dx [])=Ha at s0 hx ⊢
  walk_at "w"
  rcases A0.want with ⟨kn,ht,rfl⟩ | ⟨p0,xs0,rfl,e0,l0,⟨lm,rfl⟩ | ⟨lm,lw0,bs0,q0,hq⟩⟩
  ·cases hc
   refine ⟨_,0,8,rfl,.inl ⟨kn.same s0,by rw[tyB_same kn s0];exact ht,fun dq Hq sq gq=>k dq Hq (s0.trans sq) gq⟩⟩
  ·cases hc
   refine ⟨_,0,8,rfl,.inr ⟨p0,xs0,rfl,s0 _ _ e0,fun _ dq Hq sq gq=>k dq Hq (s0.trans sq) gq,fun z=>absurd z (by lia)⟩⟩
  refine ⟨_,0,8,rfl,.inr ⟨p0,xs0,rfl,s0 _ _ e0,fun z=>absurd z (by lia),fun _=>?_⟩⟩
  walk_at "w"
  refine ⟨_,_,rfl,.inl (SqL.of (s0 _ _ e0)),?_⟩
  walk_at "w"
  refine ⟨P,p0,xs0,bs0,w,by rw[lw0 rfl],s0 _ _ e0,l0,Paired.imp' (fun _ _ z=>z.keep (KpU.same s0)) q0,fun k1 i1 j1=>?_,fun al1 a0 H0_ ys0 s0_ ga0 la0=>?_⟩
  ·rcases hq with ⟨k0,i0,j0,rfl⟩ | ⟨al,rfl⟩
   ·cases hc
    cases first_uniq i0 j0 i1 j1
    exact fun dq Hq sq gq=>k dq Hq (s0.trans sq) gq
   ·exact absurd (al _ (List.mem_of_getElem? j1)) (by decide)
  rcases hq with ⟨k0,i0,j0,rfl⟩ | ⟨al,rfl⟩
  ·exact absurd (al1 _ (List.mem_of_getElem? j0)) (by decide)
  have hx3:=s0_ _ _ hx
  have k3:=s0.trans s0_
  have lw:=lw0 rfl
  walk_at "w"
  refine ⟨x,Z.a_System,dx,_,rfl,hx3,T.cl_System,T.na_move,(by show 0 < 1000;decide),?_⟩
  have hx4:(upd H0_ x (.ins Z.a_System dx (putF "move" (.ref a0) []))) x=some (.ins Z.a_System dx (putF "move" (.ref a0) [])):=upd_same
  have k4:Same Hb (upd H0_ x (.ins Z.a_System dx (putF "move" (.ref a0) []))):=k3.after nx
  have ga4:(upd H0_ x (.ins Z.a_System dx (putF "move" (.ref a0) []))) a0=some (.lst ys0):=by rw[upd_ne (fun z=>by rw[z,hx3] at ga0;cases ga0)];exact ga0
  generalize upd H0_ x (.ins Z.a_System dx (putF "move" (.ref a0) []))=H4 at hx4 k4 ga4 ⊢
  walk_at "w"
  refine ⟨x,Z.a_System,dx,_,_,rfl,hx4,T.cl_System,T.na_move,(by rw[lookup_putF,if_pos rfl]),?_⟩
  walk_at "w"
  refine ⟨_,_,rfl,.inl (SqL.of ga4),?_⟩
  walk_at "w"
  rw[show ((ys0.length:Nat):Int)=(w:Int) by lia]
  refine ⟨x,Z.a_System,dx,_,rfl,hx4,T.cl_System,T.na_states,(Nat.lt_of_le_of_lt putF_len (by show 1 < 1000;decide)),?_⟩
  have hx5:(upd H4 x (.ins Z.a_System dx (putF "states" (.int w) (putF "move" (.ref a0) [])))) x=some (.ins Z.a_System dx (putF "states" (.int w) (putF "move" (.ref a0) []))):=upd_same
  have k5:Same Hb (upd H4 x (.ins Z.a_System dx (putF "states" (.int w) (putF "move" (.ref a0) [])))):=k4.after nx
  generalize upd H4 x (.ins Z.a_System dx (putF "states" (.int w) (putF "move" (.ref a0) [])))=H5 at hx5 k5 ⊢
  walk_at "w"
  rcases A1.want with ⟨kn,ht,rfl⟩ | ⟨p1,xs1,rfl,e1,l1,⟨lm,rfl⟩ | ⟨lm,lw1,bs1,q1,hq⟩⟩
  ·cases hc
   refine ⟨_,1,4,rfl,.inl ⟨kn.same k5,by rw[tyB_same kn k5];exact ht,fun dq Hq sq gq=>k dq Hq (k5.trans sq) gq⟩⟩
  ·cases hc
   refine ⟨_,1,4,rfl,.inr ⟨p1,xs1,rfl,k5 _ _ e1,fun _ dq Hq sq gq=>k dq Hq (k5.trans sq) gq,fun z=>absurd z (by lia)⟩⟩
  refine ⟨_,1,4,rfl,.inr ⟨p1,xs1,rfl,k5 _ _ e1,fun z=>absurd z (by lia),fun _=>?_⟩⟩
  walk_at "w"
  refine ⟨x,Z.a_System,dx,_,_,rfl,hx5,T.cl_System,T.na_states,(by rw[lookup_putF,if_pos rfl]),?_⟩
  walk_at "w"
  refine ⟨P,p1,xs1,bs1,w,rfl,k5 _ _ e1,l1,Paired.imp' (fun _ _ z=>z.keep (KpU.same k5)) q1,fun k1 i1 j1=>?_,fun al1 a1 H1_ ys1 s1_ ga1 la1=>?_⟩
  ·rcases hq with ⟨k0,i0,j0,rfl⟩ | ⟨al,rfl⟩
   ·cases hc
    cases first_uniq i0 j0 i1 j1
    exact fun dq Hq sq gq=>k dq Hq (k5.trans sq) gq
   ·exact absurd (al _ (List.mem_of_getElem? j1)) (by decide)
  rcases hq with ⟨k0,i0,j0,rfl⟩ | ⟨al,rfl⟩
  ·exact absurd (al1 _ (List.mem_of_getElem? j0)) (by decide)
  have hx6:=s1_ _ _ hx5
  have k6:=k5.trans s1_
  walk_at "w"
  refine ⟨x,Z.a_System,dx,_,rfl,hx6,T.cl_System,T.na_put,(Nat.lt_of_le_of_lt (Nat.le_trans putF_len (Nat.succ_le_succ putF_len)) (by show 2 < 1000;decide)),?_⟩
  have hx7:(upd H1_ x (.ins Z.a_System dx (putF "put" (.ref a1) (putF "states" (.int w) (putF "move" (.ref a0) []))))) x=some (.ins Z.a_System dx (putF "put" (.ref a1) (putF "states" (.int w) (putF "move" (.ref a0) [])))):=upd_same
  have k7:Same Hb (upd H1_ x (.ins Z.a_System dx (putF "put" (.ref a1) (putF "states" (.int w) (putF "move" (.ref a0) []))))):=k6.after nx
  have ga7:(upd H1_ x (.ins Z.a_System dx (putF "put" (.ref a1) (putF "states" (.int w) (putF "move" (.ref a0) []))))) a1=some (.lst ys1):=by rw[upd_ne (fun z=>by rw[z,hx6] at ga1;cases ga1)];exact ga1
  generalize upd H1_ x (.ins Z.a_System dx (putF "put" (.ref a1) (putF "states" (.int w) (putF "move" (.ref a0) []))))=H7 at hx7 k7 ga7 ⊢
  walk_at "w"
  refine ⟨x,Z.a_System,dx,_,_,rfl,hx7,T.cl_System,T.na_put,(by rw[lookup_putF,if_pos rfl]),?_⟩
  walk_at "w"
  refine ⟨_,_,rfl,.inl (SqL.of ga7),?_⟩
  walk_at "w"
  refine ⟨x,Z.a_System,dx,_,rfl,hx7,T.cl_System,T.na_ins,(Nat.lt_of_le_of_lt (Nat.le_trans putF_len (Nat.succ_le_succ (Nat.le_trans putF_len (Nat.succ_le_succ putF_len)))) (by show 3 < 1000;decide)),?_⟩
  have hx8:(upd H7 x (.ins Z.a_System dx (putF "ins" (.int ys1.length) (putF "put" (.ref a1) (putF "states" (.int w) (putF "move" (.ref a0) [])))))) x=some (.ins Z.a_System dx (putF "ins" (.int ys1.length) (putF "put" (.ref a1) (putF "states" (.int w) (putF "move" (.ref a0) []))))):=upd_same
  have k8:Same Hb (upd H7 x (.ins Z.a_System dx (putF "ins" (.int ys1.length) (putF "put" (.ref a1) (putF "states" (.int w) (putF "move" (.ref a0) [])))))):=k7.after nx
  generalize upd H7 x (.ins Z.a_System dx (putF "ins" (.int ys1.length) (putF "put" (.ref a1) (putF "states" (.int w) (putF "move" (.ref a0) [])))))=H8 at hx8 k8 ⊢
  walk_at "w"
  rcases A2.want with ⟨kn,ht,rfl⟩ | ⟨p2,xs2,rfl,e2,l2,⟨lm,rfl⟩ | ⟨lm,lw2,bs2,q2,hq⟩⟩
  ·cases hc
   refine ⟨_,2,4,rfl,.inl ⟨kn.same k8,by rw[tyB_same kn k8];exact ht,fun dq Hq sq gq=>k dq Hq (k8.trans sq) gq⟩⟩
  ·cases hc
   refine ⟨_,2,4,rfl,.inr ⟨p2,xs2,rfl,k8 _ _ e2,fun _ dq Hq sq gq=>k dq Hq (k8.trans sq) gq,fun z=>absurd z (by lia)⟩⟩
  refine ⟨_,2,4,rfl,.inr ⟨p2,xs2,rfl,k8 _ _ e2,fun z=>absurd z (by lia),fun _=>?_⟩⟩
  walk_at "w"
  refine ⟨x,Z.a_System,dx,_,_,rfl,hx8,T.cl_System,T.na_states,(by rw[lookup_putF,if_neg (by decide +kernel),lookup_putF,if_neg (by decide +kernel),lookup_putF,if_pos rfl]),?_⟩
  walk_at "w"
  refine ⟨P,p2,xs2,bs2,w,rfl,k8 _ _ e2,l2,Paired.imp' (fun _ _ z=>z.keep (KpU.same k8)) q2,fun k1 i1 j1=>?_,fun al1 a2 H2_ ys2 s2_ ga2 la2=>?_⟩
  ·rcases hq with ⟨k0,i0,j0,rfl⟩ | ⟨al,rfl⟩
   ·cases hc
    cases first_uniq i0 j0 i1 j1
    exact fun dq Hq sq gq=>k dq Hq (k8.trans sq) gq
   ·exact absurd (al _ (List.mem_of_getElem? j1)) (by decide)
  rcases hq with ⟨k0,i0,j0,rfl⟩ | ⟨al,rfl⟩
  ·exact absurd (al1 _ (List.mem_of_getElem? j0)) (by decide)
  cases hc
theorem sc__law_refusal:FnScope ["_law_move_here","_law_put","_law_look","e","_law_found"] ["_law_move_here","_law_put","_law_look"] (defScope s__law_refusal):=⟨rfl,rfl,rfl,by decide +kernel,rfl,by decide +kernel,by decide +kernel⟩
theorem ok__law_refusal (T:Txt K mg Z):FnOk P w K mg base CX0 7 Z.a__law_refusal Z.d__law_refusal ["_law_move_here","_law_put","_law_look"] (sp_ref31 K):=by
 have G_System___init___X:=ok_System___init___X (P:=P) (w:=w) (base:=base) T
 refine T.F__law_refusal.ok sc__law_refusal (fun vs H Q E h=>?_) (fun cdv A outer s H vs Q E hr h=>?_)
 ·obtain ⟨P,a0,a1,a2,w,c,v,r0,r1,r2,rfl,_⟩:=h
  rfl
 ·obtain ⟨P,a0,a1,a2,w,c,v,r0,r1,r2,rfl,A0,A1,A2,hc,k⟩:=h
  refine ⟨_,(pss_cons (ps_try rfl rfl (fun _ _ _ hX=>(pss_one (ps_expr (pe_makeX T.mk_System G_System___init___X (hr.mono (by decide)) rfl T.mg_System T.b_System___init__ .nil hX (pa_cons (pv 0) (pa_cons (pv 1) (pa_cons (pv 2) pa_nil)))))))
   (hb_as (i:=3) rfl rfl T.mg_SumError sc__law_refusal.nd rfl rfl (fun _=>(pss_cons (ps_set (i:=4) sc__law_refusal.nd rfl (Or.inl rfl) (pe_lst pa_nil))
   (pss_cons (ps_if (pt_val (pe_callB (call_isX (cv:=.ref Z.a_Wrong) (c:=.ref Z.a_Wrong) (fun _ h=>h)) (by rfl) T.isinstance PyProof.Rows.boot_isinstance (pa_cons (pv 3) (pa_cons (pe_glob (v:=.ref Z.a_Wrong) rfl T.mg_Wrong rfl) pa_nil)))) (pss_one (ps_expr (pe_bm PySem.F.plainAttrs_list PySem.F.slot_list_append PySem.F.type_list_append mt_append (pv 4) (pa_cons (pe_tup (pa_cons pe_str (pa_cons (pe_fldE (pv 3) rfl) pa_nil))) pa_nil)))) pss_nil)
   (pss_cons (ps_if (pt_val (pe_callB (call_isX (cv:=.ref Z.a_NoThing) (c:=.ref Z.a_NoThing) (fun _ h=>h)) (by rfl) T.isinstance PyProof.Rows.boot_isinstance (pa_cons (pv 3) (pa_cons (pe_glob (v:=.ref Z.a_NoThing) rfl T.mg_NoThing rfl) pa_nil)))) (pss_one (ps_expr (pe_bm PySem.F.plainAttrs_list PySem.F.slot_list_append PySem.F.type_list_append mt_append (pv 4) (pa_cons (pe_tup (pa_cons pe_str (pa_cons (pe_fldE (pv 3) rfl) pa_nil))) pa_nil)))) pss_nil)
   (pss_cons (ps_if (pt_val (pe_callB (call_isX (cv:=.ref Z.a_TooMany) (c:=.ref Z.a_TooMany) (fun _ h=>h)) (by rfl) T.isinstance PyProof.Rows.boot_isinstance (pa_cons (pv 3) (pa_cons (pe_glob (v:=.ref Z.a_TooMany) rfl T.mg_TooMany rfl) pa_nil)))) (pss_one (ps_expr (pe_bm PySem.F.plainAttrs_list PySem.F.slot_list_append PySem.F.type_list_append mt_append (pv 4) (pa_cons (pe_tup (pa_cons pe_str (pa_cons (pe_fldE (pv 3) rfl) pa_nil))) pa_nil)))) pss_nil)
   (pss_cons (ps_if (pt_val (pe_callB call_isXt (by rfl) T.isinstance PyProof.Rows.boot_isinstance (pa_cons (pv 3) (pa_cons (pe_tup (pa_cons (pe_glob (v:=.ref Z.a_NoFit) rfl T.mg_NoFit rfl) (pa_cons (pe_glob (v:=.ref Z.a_NoName) rfl T.mg_NoName rfl) (pa_cons (pe_glob (v:=.ref Z.a_NoNumber) rfl T.mg_NoNumber rfl) (pa_cons (pe_glob (v:=.ref Z.a_NotSeen) rfl T.mg_NotSeen rfl) (pa_cons (pe_glob (v:=.ref Z.a_NotSteered) rfl T.mg_NotSteered rfl) (pa_cons (pe_glob (v:=.ref Z.a_NoText) rfl T.mg_NoText rfl) (pa_cons (pe_glob (v:=.ref Z.a_Taken) rfl T.mg_Taken rfl) pa_nil)))))))) pa_nil)))) (pss_one (ps_expr (pe_bm PySem.F.plainAttrs_list PySem.F.slot_list_append PySem.F.type_list_append mt_append (pv 4) (pa_cons (pe_tup (pa_cons pe_str (pa_cons pe_int pa_nil))) pa_nil)))) pss_nil)
   (pss_cons (ps_if (pt_not (pt_val (pe_callB (call_isX (cv:=.ty "ValueError") (c:=.type "ValueError") (fun _ h=>h)) (by rfl) T.isinstance PyProof.Rows.boot_isinstance (pa_cons (pv 3) (pa_cons (pe_bltn (v:=.ty "ValueError") rfl T.ValueError PyProof.Rows.Boot.«ValueError» rfl) pa_nil))))) (pss_one (ps_expr (pe_bm PySem.F.plainAttrs_list PySem.F.slot_list_append PySem.F.type_list_append mt_append (pv 4) (pa_cons (pe_tup (pa_cons pe_str (pa_cons pe_int pa_nil))) pa_nil)))) pss_nil)
   (pss_one (ps_ret (pv 4)))))))))) hb_nil))
   (pss_one (ps_ret (pe_lst pa_nil)))),?_⟩
  refine rd_start (σ:=[some a0,some a1,some a2,none,none]) rfl ?_
  walk_at "w"
  refine rd_try ?_
  walk_at "w"
  refine rd_makeX ?_
  walk_at "w"
  intro x dx nx ndx nex
  refine ⟨P,x,dx,a0,a1,a2,H,w,c,v,r0,r1,r2,rfl,nx,ndx,nex,rfl,A0,A1,A2,hc,fun dq H1 s1 hd=>?_⟩
  rcases or_c3 A0.c3 A1.c3 A2.c3 hc with rfl | rfl | rfl
  ·rw[show clX Z.a_Wrong Z.a_TooMany Z.a_NoThing 0=Z.a_Wrong from rfl]
   refine .inl ⟨T.xm_Wrong_SumError,fun ea hea=>?_⟩
   have se:Same H1 (upd H1 ea (exO ea (.ref Z.a_Wrong) (some dq))):=Same.new hea
   have ge:(upd H1 ea (exO ea (.ref Z.a_Wrong) (some dq))) ea=some (exO ea (.ref Z.a_Wrong) (some dq)):=upd_same
   have gd:(upd H1 ea (exO ea (.ref Z.a_Wrong) (some dq))) dq=some (.xd [("at",.int v)]):=by rw[upd_ne (fun z=>by rw[z,hea] at hd;cases hd)];exact hd
   generalize upd H1 ea (exO ea (.ref Z.a_Wrong) (some dq))=He at se ge gd ⊢
   walk_at "w"
   refine rd_newL fun l Hf sf nf gf=>?_
   have ge:=sf _ _ ge
   have gd:=sf _ _ gd
   have s5:=(s1.trans se).trans sf
   have nl:=(s1.trans se).none nf
   have dd:∀d,some dq=some d->∃fs,Hf d=some (.xd fs):=fun d z=>by cases z;exact ⟨_,gd⟩
   walk_at "w"
   refine ⟨ea,_,_,_,rfl,ge,dd,T.xc_Wrong,T.ki_Wrong_Wrong,?_⟩
   walk_at "w"
   refine ⟨.inl ⟨rfl,_,SqL.of gf⟩,?_⟩
   walk_at "w"
   unfold tFldE
   walk_at "w"
   refine ⟨ea,Z.a_Wrong,dq,_,.int v,rfl,ge,gd,T.xc_Wrong,T.nt_Wrong,rfl,?_⟩
   walk_at "w"
   refine rd_newT fun tp Hg sg gg=>?_
   have ge:=sg _ _ ge
   have gd:=sg _ _ gd
   walk_at "w"
   refine rd_append (sg _ _ gf) (small1000 (by simp)) ?_
   have gl:(upd Hg l (.lst ([]++[.ref tp]))) l=some (.lst [.ref tp]):=upd_same
   have nt:∀{b o},Hg b=some o->(∀ys,o≠.lst ys)->(upd Hg l (.lst ([]++[.ref tp]))) b=some o:=fun {b o} g n=>by rw[upd_ne (fun z=>by rw[z,sg _ _ gf] at g;exact n _ (Option.some.inj g).symm)];exact g
   have ge:=nt ge (fun _ z=>nomatch z)
   have gd:=nt gd (fun _ z=>nomatch z)
   have gg:=nt gg (fun _ z=>nomatch z)
   have s6:Same H (upd Hg l (.lst ([]++[.ref tp]))):=(s5.trans sg).after nl
   generalize upd Hg l (.lst ([]++[.ref tp]))=Hh at gl ge gd gg s6 ⊢
   clear nt
   have dd:∀d,some dq=some d->∃fs,Hh d=some (.xd fs):=fun d z=>by cases z;exact ⟨_,gd⟩
   walk_at "w"
   refine ⟨ea,_,_,_,rfl,ge,dd,T.xc_Wrong,T.ki_Wrong_NoThing,?_⟩
   walk_at "w"
   refine ⟨ea,_,_,_,rfl,ge,dd,T.xc_Wrong,T.ki_Wrong_TooMany,?_⟩
   walk_at "w"
   refine rd_newT fun tq Hi si gi=>?_
   have ge:=si _ _ ge
   have gd:=si _ _ gd
   have dd:∀d,some dq=some d->∃fs,Hi d=some (.xd fs):=fun d z=>by cases z;exact ⟨_,gd⟩
   walk_at "w"
   refine ⟨ea,Z.a_Wrong,tq,[Z.a_NoFit,Z.a_NoName,Z.a_NoNumber,Z.a_NotSeen,Z.a_NotSteered,Z.a_NoText,Z.a_Taken],some dq,false,rfl,ge,dd,T.xc_Wrong,gi,T.ka_Wrong_0,?_⟩
   walk_at "w"
   refine ⟨ea,_,_,_,rfl,ge,dd,T.xc_Wrong,T.ki_Wrong_ValueError,?_⟩
   walk_at "w"
   exact k l tp Hi (s6.trans si) (si _ _ gl) (si _ _ gg)
  ·rw[show clX Z.a_Wrong Z.a_TooMany Z.a_NoThing 1=Z.a_TooMany from rfl]
   refine .inl ⟨T.xm_TooMany_SumError,fun ea hea=>?_⟩
   have se:Same H1 (upd H1 ea (exO ea (.ref Z.a_TooMany) (some dq))):=Same.new hea
   have ge:(upd H1 ea (exO ea (.ref Z.a_TooMany) (some dq))) ea=some (exO ea (.ref Z.a_TooMany) (some dq)):=upd_same
   have gd:(upd H1 ea (exO ea (.ref Z.a_TooMany) (some dq))) dq=some (.xd [("most",.int v)]):=by rw[upd_ne (fun z=>by rw[z,hea] at hd;cases hd)];exact hd
   generalize upd H1 ea (exO ea (.ref Z.a_TooMany) (some dq))=He at se ge gd ⊢
   walk_at "w"
   refine rd_newL fun l Hf sf nf gf=>?_
   have ge:=sf _ _ ge
   have gd:=sf _ _ gd
   have s5:=(s1.trans se).trans sf
   have nl:=(s1.trans se).none nf
   have dd:∀d,some dq=some d->∃fs,Hf d=some (.xd fs):=fun d z=>by cases z;exact ⟨_,gd⟩
   walk_at "w"
   refine ⟨ea,_,_,_,rfl,ge,dd,T.xc_TooMany,T.ki_TooMany_Wrong,?_⟩
   walk_at "w"
   refine ⟨ea,_,_,_,rfl,ge,dd,T.xc_TooMany,T.ki_TooMany_NoThing,?_⟩
   walk_at "w"
   refine ⟨ea,_,_,_,rfl,ge,dd,T.xc_TooMany,T.ki_TooMany_TooMany,?_⟩
   walk_at "w"
   refine ⟨.inl ⟨rfl,_,SqL.of gf⟩,?_⟩
   walk_at "w"
   unfold tFldE
   walk_at "w"
   refine ⟨ea,Z.a_TooMany,dq,_,.int v,rfl,ge,gd,T.xc_TooMany,T.nt_TooMany,rfl,?_⟩
   walk_at "w"
   refine rd_newT fun tp Hg sg gg=>?_
   have ge:=sg _ _ ge
   have gd:=sg _ _ gd
   walk_at "w"
   refine rd_append (sg _ _ gf) (small1000 (by simp)) ?_
   have gl:(upd Hg l (.lst ([]++[.ref tp]))) l=some (.lst [.ref tp]):=upd_same
   have nt:∀{b o},Hg b=some o->(∀ys,o≠.lst ys)->(upd Hg l (.lst ([]++[.ref tp]))) b=some o:=fun {b o} g n=>by rw[upd_ne (fun z=>by rw[z,sg _ _ gf] at g;exact n _ (Option.some.inj g).symm)];exact g
   have ge:=nt ge (fun _ z=>nomatch z)
   have gd:=nt gd (fun _ z=>nomatch z)
   have gg:=nt gg (fun _ z=>nomatch z)
   have s6:Same H (upd Hg l (.lst ([]++[.ref tp]))):=(s5.trans sg).after nl
   generalize upd Hg l (.lst ([]++[.ref tp]))=Hh at gl ge gd gg s6 ⊢
   clear nt
   have dd:∀d,some dq=some d->∃fs,Hh d=some (.xd fs):=fun d z=>by cases z;exact ⟨_,gd⟩
   walk_at "w"
   refine rd_newT fun tq Hi si gi=>?_
   have ge:=si _ _ ge
   have gd:=si _ _ gd
   have dd:∀d,some dq=some d->∃fs,Hi d=some (.xd fs):=fun d z=>by cases z;exact ⟨_,gd⟩
   walk_at "w"
   refine ⟨ea,Z.a_TooMany,tq,[Z.a_NoFit,Z.a_NoName,Z.a_NoNumber,Z.a_NotSeen,Z.a_NotSteered,Z.a_NoText,Z.a_Taken],some dq,false,rfl,ge,dd,T.xc_TooMany,gi,T.ka_TooMany_0,?_⟩
   walk_at "w"
   refine ⟨ea,_,_,_,rfl,ge,dd,T.xc_TooMany,T.ki_TooMany_ValueError,?_⟩
   walk_at "w"
   exact k l tp Hi (s6.trans si) (si _ _ gl) (si _ _ gg)
  ·rw[show clX Z.a_Wrong Z.a_TooMany Z.a_NoThing 2=Z.a_NoThing from rfl]
   refine .inl ⟨T.xm_NoThing_SumError,fun ea hea=>?_⟩
   have se:Same H1 (upd H1 ea (exO ea (.ref Z.a_NoThing) (some dq))):=Same.new hea
   have ge:(upd H1 ea (exO ea (.ref Z.a_NoThing) (some dq))) ea=some (exO ea (.ref Z.a_NoThing) (some dq)):=upd_same
   have gd:(upd H1 ea (exO ea (.ref Z.a_NoThing) (some dq))) dq=some (.xd [("at",.int v)]):=by rw[upd_ne (fun z=>by rw[z,hea] at hd;cases hd)];exact hd
   generalize upd H1 ea (exO ea (.ref Z.a_NoThing) (some dq))=He at se ge gd ⊢
   walk_at "w"
   refine rd_newL fun l Hf sf nf gf=>?_
   have ge:=sf _ _ ge
   have gd:=sf _ _ gd
   have s5:=(s1.trans se).trans sf
   have nl:=(s1.trans se).none nf
   have dd:∀d,some dq=some d->∃fs,Hf d=some (.xd fs):=fun d z=>by cases z;exact ⟨_,gd⟩
   walk_at "w"
   refine ⟨ea,_,_,_,rfl,ge,dd,T.xc_NoThing,T.ki_NoThing_Wrong,?_⟩
   walk_at "w"
   refine ⟨ea,_,_,_,rfl,ge,dd,T.xc_NoThing,T.ki_NoThing_NoThing,?_⟩
   walk_at "w"
   refine ⟨.inl ⟨rfl,_,SqL.of gf⟩,?_⟩
   walk_at "w"
   unfold tFldE
   walk_at "w"
   refine ⟨ea,Z.a_NoThing,dq,_,.int v,rfl,ge,gd,T.xc_NoThing,T.nt_NoThing,rfl,?_⟩
   walk_at "w"
   refine rd_newT fun tp Hg sg gg=>?_
   have ge:=sg _ _ ge
   have gd:=sg _ _ gd
   walk_at "w"
   refine rd_append (sg _ _ gf) (small1000 (by simp)) ?_
   have gl:(upd Hg l (.lst ([]++[.ref tp]))) l=some (.lst [.ref tp]):=upd_same
   have nt:∀{b o},Hg b=some o->(∀ys,o≠.lst ys)->(upd Hg l (.lst ([]++[.ref tp]))) b=some o:=fun {b o} g n=>by rw[upd_ne (fun z=>by rw[z,sg _ _ gf] at g;exact n _ (Option.some.inj g).symm)];exact g
   have ge:=nt ge (fun _ z=>nomatch z)
   have gd:=nt gd (fun _ z=>nomatch z)
   have gg:=nt gg (fun _ z=>nomatch z)
   have s6:Same H (upd Hg l (.lst ([]++[.ref tp]))):=(s5.trans sg).after nl
   generalize upd Hg l (.lst ([]++[.ref tp]))=Hh at gl ge gd gg s6 ⊢
   clear nt
   have dd:∀d,some dq=some d->∃fs,Hh d=some (.xd fs):=fun d z=>by cases z;exact ⟨_,gd⟩
   walk_at "w"
   refine ⟨ea,_,_,_,rfl,ge,dd,T.xc_NoThing,T.ki_NoThing_TooMany,?_⟩
   walk_at "w"
   refine rd_newT fun tq Hi si gi=>?_
   have ge:=si _ _ ge
   have gd:=si _ _ gd
   have dd:∀d,some dq=some d->∃fs,Hi d=some (.xd fs):=fun d z=>by cases z;exact ⟨_,gd⟩
   walk_at "w"
   refine ⟨ea,Z.a_NoThing,tq,[Z.a_NoFit,Z.a_NoName,Z.a_NoNumber,Z.a_NotSeen,Z.a_NotSteered,Z.a_NoText,Z.a_Taken],some dq,false,rfl,ge,dd,T.xc_NoThing,gi,T.ka_NoThing_0,?_⟩
   walk_at "w"
   refine ⟨ea,_,_,_,rfl,ge,dd,T.xc_NoThing,T.ki_NoThing_ValueError,?_⟩
   walk_at "w"
   exact k l tp Hi (s6.trans si) (si _ _ gl) (si _ _ gg)
theorem sc_law:FnScope ["_law_script","_law_bag_here","_law_parts_here","_law_wide","_law_n","_law_place","_law_things","_law_some","_law_due","_law_k","_law_kept","_law_turn"] ["_law_script"] (defScope s_law):=⟨rfl,rfl,rfl,by decide +kernel,rfl,by decide +kernel,by decide +kernel⟩
theorem ok_law (T:Txt K mg Z):FnOk P w K mg base CX0 9 Z.a_law Z.d_law ["_law_script"] (sp_law K):=by
 have G__law_bag:=ok__law_bag (P:=P) (w:=w) (base:=base) T
 have G__law_drawn:=ok__law_drawn (P:=P) (w:=w) (base:=base) T
 have G__law_fields:=ok__law_fields (P:=P) (w:=w) (base:=base) T
 have G__law_system:=ok__law_system (P:=P) (w:=w) (base:=base) T
 have G__law_full:=ok__law_full (P:=P) (w:=w) (base:=base) T
 have G__law_take:=ok__law_take (P:=P) (w:=w) (base:=base) T
 have G__law_copied:=ok__law_copied (P:=P) (w:=w) (base:=base) T
 have G__law_spoilt:=ok__law_spoilt (P:=P) (w:=w) (base:=base) T
 have G__law_refusal:=ok__law_refusal (P:=P) (w:=w) (base:=base) T
 refine T.F_law.ok sc_law (fun vs H Q E h=>?_) (fun cdv A outer s H vs Q E hr h=>?_)
 ·obtain ⟨a,ns,rfl,_⟩:=h
  rfl
 ·obtain ⟨a,ns,rfl,hS,hlen,k⟩:=h
  refine ⟨_,(pss_cons (ps_set (i:=1) sc_law.nd rfl (Or.inl rfl) (pe_call G__law_bag (hr.mono (by decide)) rfl T.mg__law_bag T.F__law_bag.kp T.b__law_bag .nil pass0 (pa_cons (pv 0) pa_nil)))
   (pss_cons (ps_asg (pe_call G__law_drawn (hr.mono (by decide)) rfl T.mg__law_drawn T.F__law_drawn.kp T.b__law_drawn .nil pass0 (pa_cons (pv 1) pa_nil)) (pg_tup rfl (pgs_cons (pg_name (i:=2) sc_law.nd rfl (Or.inl rfl) (Or.inl rfl)) (pgs_cons (pg_name (i:=3) sc_law.nd rfl (Or.inl rfl) (Or.inl rfl)) pgs_nil))))
   (pss_cons (ps_set (i:=4) sc_law.nd rfl (Or.inl rfl) (pe_callB call_len_seq (by rfl) T.len PySem.boot_len (pa_cons (pe_ix ix_tup (pv 2) pe_int (by intro _ _;rfl)) pa_nil)))
   (pss_cons (ps_if (PW.pt (pw_or (pt_not (pt_val (pe_call G__law_fields (hr.mono (by decide)) rfl T.mg__law_fields T.F__law_fields.kp T.b__law_fields .nil pass0 (pa_cons (pe_call G__law_system (hr.mono (by decide)) rfl T.mg__law_system T.F__law_system.kp T.b__law_system .nil pass0 (pa_cons (pv 2) pa_nil)) (pa_cons (pv 2) pa_nil))))) (pw_or1 (pt_not (pt_val (pe_call0 G__law_full (hr.mono (by decide)) rfl T.mg__law_full T.F__law_full.kp T.b__law_full .nil pass0)))))) (pss_one (ps_ret pe_bl)) pss_nil)
   (pss_cons (ps_set (i:=5) sc_law.nd rfl (Or.inl rfl) (pe_call G__law_take (hr.mono (by decide)) rfl T.mg__law_take T.F__law_take.kp T.b__law_take .nil pass0 (pa_cons (pv 1) (pa_cons pe_int pa_nil))))
   (pss_cons (ps_set (i:=6) sc_law.nd rfl (Or.inl rfl) (pe_lst (pa_cons (pe_call G__law_copied (hr.mono (by decide)) rfl T.mg__law_copied T.F__law_copied.kp T.b__law_copied .nil pass0 (pa_cons (pe_ix ix_tup (pv 2) pe_int (by intro _ _;rfl)) pa_nil)) (pa_cons (pe_call G__law_copied (hr.mono (by decide)) rfl T.mg__law_copied T.F__law_copied.kp T.b__law_copied .nil pass0 (pa_cons (pe_ix ix_tup (pv 2) pe_int (by intro _ _;rfl)) pa_nil)) (pa_cons (pe_call G__law_copied (hr.mono (by decide)) rfl T.mg__law_copied T.F__law_copied.kp T.b__law_copied .nil pass0 (pa_cons (pe_ix ix_tup (pv 2) pe_int (by intro _ _;rfl)) pa_nil)) pa_nil)))))
   (pss_cons (ps_asg (pe_call G__law_spoilt (hr.mono (by decide)) rfl T.mg__law_spoilt T.F__law_spoilt.kp T.b__law_spoilt .nil pass0 (pa_cons (pv 1) (pa_cons (pe_ix ix_list (pv 6) (pv 5) (by intro _ _;rfl)) (pa_cons (pv 4) (pa_cons (pv 5) pa_nil))))) (pg_tup rfl (pgs_cons (pg_name (i:=7) sc_law.nd rfl (Or.inl rfl) (Or.inl rfl)) (pgs_cons (pg_name (i:=8) sc_law.nd rfl (Or.inl rfl) (Or.inl rfl)) pgs_nil))))
   (pss_cons (ps_asg (pv 7) (pg_sub (pv 6) (pv 5) set_list))
   (pss_cons (ps_for PassesOwn.never rfl (pi_range2 rfl T.range (pa_cons (pe_op op_add (pv 5) pe_int) (pa_cons pe_int pa_nil))) (pg_name (i:=9) sc_law.nd rfl (Or.inl rfl) (Or.inl rfl))
    (pss_one (ps_if (pt_cmpR op_eq (pe_call G__law_take (hr.mono (by decide)) rfl T.mg__law_take T.F__law_take.kp T.b__law_take .nil pass0 (pa_cons (pv 1) (pa_cons pe_int pa_nil))) pe_int (nomark _)) (pss_one (ps_asg (pe_ix ix_tup (pe_call G__law_spoilt (hr.mono (by decide)) rfl T.mg__law_spoilt T.F__law_spoilt.kp T.b__law_spoilt .nil pass0 (pa_cons (pv 1) (pa_cons (pe_ix ix_list (pv 6) (pv 9) (by intro _ _;rfl)) (pa_cons (pv 4) (pa_cons (pv 9) pa_nil))))) pe_int (by intro _ _;rfl)) (pg_sub (pv 6) (pv 9) set_list))) pss_nil)))
   (pss_cons (ps_set (i:=10) sc_law.nd rfl (Or.inl rfl) (pe_callB (call_repr hr) (by rfl) T.repr PyProof.Rows.boot_repr (pa_cons (pv 6) pa_nil)))
   (pss_cons (ps_for PassesOwn.never rfl (pi_range1 rfl T.range (pa_cons pe_int pa_nil)) (pg_name (i:=11) sc_law.nd rfl (Or.inl rfl) (Or.inl rfl))
    (pss_one (ps_if (pt_cmpR (op_neD (hu50 hr)) (pe_call G__law_refusal (hr.mono (by decide)) rfl T.mg__law_refusal T.F__law_refusal.kp T.b__law_refusal .nil pass0 (pa_cons (pe_ix ix_list (pv 6) pe_int (by intro _ _;rfl)) (pa_cons (pe_ix ix_list (pv 6) pe_int (by intro _ _;rfl)) (pa_cons (pe_ix ix_list (pv 6) pe_int (by intro _ _;rfl)) pa_nil)))) (pe_lst (pa_cons (pv 8) pa_nil)) (nomark _)) (pss_one (ps_ret pe_bl)) pss_nil)))
   (pss_cons (ps_if (pt_cmpR (op_neD (hu50 hr)) (pe_callB (call_repr hr) (by rfl) T.repr PyProof.Rows.boot_repr (pa_cons (pv 6) pa_nil)) (pv 10) (nomark _)) (pss_one (ps_ret pe_bl)) pss_nil)
   (pss_one (ps_ret (pe_call G__law_fields (hr.mono (by decide)) rfl T.mg__law_fields T.F__law_fields.kp T.b__law_fields .nil pass0 (pa_cons (pe_call G__law_system (hr.mono (by decide)) rfl T.mg__law_system T.F__law_system.kp T.b__law_system .nil pass0 (pa_cons (pv 2) pa_nil)) (pa_cons (pv 2) pa_nil))))))))))))))))),?_⟩
  refine rd_start (σ:=[some (.ref a),none,none,none,none,none,none,none,none,none,none,none]) rfl ?_
  walk_at "w"
  refine ⟨a,ns,rfl,hS,hlen,fun p H0 hp0 B0 s0=>?_⟩
  walk_at "w"
  refine ⟨p,rfl,B0,fun t r w mv pt lk H1 gt PQ D F n5 w1 w2 B1 u1=>?_⟩
  obtain ⟨m,pp,ll,gr,_,_,_,Gm,_,_⟩:=id PQ
  obtain ⟨ms,gm,qm,_⟩:=id Gm
  have lms:=qm.length
  have d2:=D.i4
  have d3:=D.o4
  walk_at "w"
  refine ⟨_,_,rfl,.inl (SqL.of gm),?_⟩
  rw[← lms]
  walk_at "w"
  refine ⟨r,H0,mv,pt,lk,rfl,PQ,D,F,fun x H2 nx s2 S2=>?_⟩
  walk_at "w"
  refine ⟨x,r,H1,H0,mv,pt,lk,rfl,S2,PQ.same s2,D,F,fun H3 s3=>?_⟩
  walk_at "w"
  refine ⟨rfl,fun H4 s4=>?_⟩
  have s14:=(s2.trans s3).trans s4
  have B4:=B1.same s14
  walk_at "w"
  refine ⟨p,3,rfl,B4,by decide,by decide,fun pl' H5 p0 p1 B5 u5=>?_⟩
  obtain ⟨pl,rfl⟩:=Int.eq_ofNat_of_zero_le p0
  have hpl:pl < 3:=by lia
  have PQ5:=(PQ.same s14).upto u5 B4 B0.at
  clear gr Gm gm qm lms S2 PQ p0 p1
  obtain ⟨m,pp,ll,gr,_,_,_,Gm,Gp,Gl⟩:=id PQ5
  walk_at "w"
  refine ⟨m,H0,mv,rfl,Gm,by lia,fun xs hx=>by rw[D.mw xs hx];lia,fun g0 H6 n6 s6 G6=>?_⟩
  have gr:=s6 _ _ gr
  walk_at "w"
  refine ⟨pp,H0,pt,rfl,Gp.same s6,by lia,fun xs hx=>by rw[D.pw xs hx];lia,fun g1 H7 n7 s7 G7=>?_⟩
  have gr:=s7 _ _ gr
  walk_at "w"
  refine ⟨ll,H0,lk,rfl,(Gl.same s6).same s7,by lia,fun xs hx=>by rw[D.lw xs hx];lia,fun g2 H8 n8 s8 G8=>?_⟩
  walk_at "w"
  refine rd_newL fun T H9 s9 n9 g9=>?_
  obtain ⟨z0,z1,z2⟩:=szx_fits F
  have R0:R31 mv.length 0 mv:=⟨D.mw,z0,n5,by show _<=8;lia,fun _=>rfl⟩
  have R1:R31 mv.length 1 pt:=⟨D.pw,z1,by lia,by show _<=4;lia,fun z=>nomatch z⟩
  have R2:R31 mv.length 2 lk:=⟨D.lw,z2,by lia,by show _<=4;lia,fun z=>nomatch z⟩
  obtain ⟨W,U⟩:=W31.start B5 n5 s6 s7 s8 s9 n6 n7 n8 n9 g9 G6 G7 G8 R0 R1 R2
  have RJ:=f3_R31 R0 R1 R2
  generalize f3 mv pt lk=rows at U RJ
  generalize f3 g0 g1 g2=gg at U
  generalize f3 (V.ref g0) (.ref g1) (.ref g2)=xs0 at W U
  clear gr g9 G6 G7 G8 n6 n7 n8 n9 s6 s7 s8 s9 Gm Gp Gl R0 R1 R2 z0 z1 z2
  walk_at "w"
  refine rd_ixL (SqL.of W.gT) (x3_at hpl) ?_
  have Up:=U pl hpl
  have Rp_:=RJ pl hpl
  rw[Up.x]
  walk_at "w"
  refine ⟨fun q=>hT31 H5 T q=none,p,gg pl,mv.length,pl,hT31 H5 T,rows pl,rfl,W.B,n5,hpl,Up.G,fun z=>W.ne B5 (hT31_none z).1 rfl,by unfold hT31;rw[upd_ne Up.nT];exact Up.n5,fun q z=>z,fun q z=>W.ne B5 (hT31_none z).1,Rp_.w,Rp_.s,Rp_.l5,Rp_.lm,Rp_.l0,fun rt td x1 c v HA A gA gd BA uA=>?_⟩
  have gT:=(W.upto B5 uA BA).gT
  walk_at "w"
  refine rd_setL gT (ixN_nat (show pl < 3 from hpl)) rfl ?_
  have W2:=W.set B5 hpl A uA BA
  have U2:∀j,pl < j->j < 3->G31 K T mv.length H5 (upd HA T (.lst ([xs0 0,xs0 1,xs0 2].set pl x1))) j (rows j) (xs0 j) none (gg j):=fun j h1 h2=>((U j h2).upto B5 uA W.B).upd gT
  have gd2:(upd HA T (.lst ([xs0 0,xs0 1,xs0 2].set pl x1))) td=some (.tup [.str (nmX c),.int v]):=by rw[upd_ne (fun z=>by rw[z,gT] at gd;cases gd)];exact gd
  generalize upd HA T (.lst ([xs0 0,xs0 1,xs0 2].set pl x1))=HB at W2 U2 gd2 ⊢
  clear U W A gA gd gT uA Up Rp_
  walk_at "w"
  refine ⟨⟨by lia,by lia,by lia,by lia⟩,?_⟩
  refine for_range (lo:=(pl:Int)+1) (n:=((3:Int) - ((pl:Int)+1)).toNat) (fun i σ' H'=>∃xs rs y9,σ'=[some (.ref a),some (.ref p),some (.ref r),some (.int w),some (.int mv.length),some (.int pl),some (.ref T),some x1,some (.ref td),y9,none,none]∧W31 K p T mv.length H5 H' xs rs∧(∀j,j < pl->rs j=none)∧rs pl=some (c,v)∧(∀j,pl+1+i<=j->j < 3->G31 K T mv.length H5 H' j (rows j) (xs j) (rs j) (gg j))∧H' td=some (.tup [.str (nmX c),.int v])) ⟨_,_,_,rfl,W2,fun j hj=>if_neg (by lia),if_pos rfl,fun j h1 h2=>?_,gd2⟩ ?_ ?_
  ·show G31 _ _ _ _ _ _ _ (if j=pl then x1 else xs0 j) (if j=pl then some (c,v) else none) _
   rw[if_neg (by lia),if_neg (by lia)]
   exact U2 j (by lia) h2
  ·rintro i σ' H' hi ⟨xs,rs,y9,rfl,W,h1,h2,U,gd⟩
   walk_at "w"
   refine ⟨p,2,rfl,W.B,by decide,by decide,fun c2 HC c0 c1 BC uC=>?_⟩
   have WC:=W.upto B5 uC BC
   have UC:∀j,pl+1+i<=j->j < 3->G31 K T mv.length H5 HC j (rows j) (xs j) (rs j) (gg j):=fun j a b=>(U j a b).upto B5 uC W.B
   have gdC:=uC.tup W.B gd
   clear W U gd
   walk_at "w"
   refine ite2 (fun h5=>?_) (fun h5=>?_)
   ·have hk:pl+1+i < 3:=by lia
    have ek:(pl:Int)+1+(i:Int)=((pl+1+i:Nat):Int):=by lia
    have Uk:=UC (pl+1+i) (Nat.le_refl _) hk
    have Rk:=RJ (pl+1+i) hk
    rw[ek]
    walk_at "w"
    refine rd_ixL (SqL.of WC.gT) (x3_at hk) ?_
    rw[Uk.x]
    walk_at "w"
    refine ⟨fun q=>hT31 H5 T q=none,p,gg (pl+1+i),mv.length,pl+1+i,hT31 H5 T,rows (pl+1+i),rfl,WC.B,n5,hk,Uk.G,fun z=>WC.ne B5 (hT31_none z).1 rfl,by unfold hT31;rw[upd_ne Uk.nT];exact Uk.n5,fun q z=>z,fun q z=>WC.ne B5 (hT31_none z).1,Rk.w,Rk.s,Rk.l5,Rk.lm,Rk.l0,fun rt td2 x2 c2 v2 HD AD gD _ BD uD=>?_⟩
    have gT:=(WC.upto B5 uD BD).gT
    walk_at "w"
    refine rd_setL gT (ixN_nat (show pl+1+i < 3 from hk)) rfl ?_
    refine ⟨_,_,_,rfl,WC.set B5 hk AD uD BD,fun j hj=>?_,?_,fun j a b=>?_,?_⟩
    ·show (if j=pl+1+i then _ else rs j)=none
     rw[if_neg (by lia)]
     exact h1 j hj
    ·show (if pl=pl+1+i then _ else rs pl)=_
     rw[if_neg (by lia)]
     exact h2
    ·show G31 _ _ _ _ _ _ _ (if j=pl+1+i then x2 else xs j) (if j=pl+1+i then some (c2,v2) else rs j) _
     rw[if_neg (by lia),if_neg (by lia)]
     exact ((UC j (by lia) b).upto B5 uD WC.B).upd gT
    ·have:=uD.tup WC.B gdC
     rw[upd_ne (fun z=>by rw[z,gT] at this;cases this)]
     exact this
   ·walk_at "w"
    exact ⟨_,_,_,rfl,WC,h1,h2,fun j a b=>UC j (by lia) b,gdC⟩
  rintro σ' HE ⟨xs,rs,y9,rfl,W,h1,h2,_,gd⟩
  clear U2 W2 gd2
  have hor:=or31 hpl h1 h2
  obtain ⟨d,hd⟩:=W.rp
  walk_at "w"
  refine ⟨_,T,d,rfl,hd,?_⟩
  walk_at "w"
  refine ⟨by decide,by decide,?_⟩
  refine for_rangeN (n:=2) (fun i σ' H'=>Same HE H'∧∃y11,σ'=[some (.ref a),some (.ref p),some (.ref r),some (.int w),some (.int mv.length),some (.int pl),some (.ref T),some x1,some (.ref td),y9,some (.str d.shown),y11]) ⟨Same.refl _,_,rfl⟩ ?_ ?_
  ·rintro i σ' H' hi ⟨s,y11,rfl⟩
   have Ws:=W.same s
   have gT:=Ws.gT
   walk_at "w"
   refine ⟨_,xs 0,xs 1,xs 2,mv.length,c,v,rs 0,rs 1,rs 2,rfl,Ws.ar 0 (by decide),Ws.ar 1 (by decide),Ws.ar 2 (by decide),hor,fun l tl HF sF gl gtl=>?_⟩
   walk_at "w"
   refine rd_newL fun l2 HG sG nG gG=>?_
   have gd:=(s.trans (sF.trans sG)) _ _ gd
   walk_at "w"
   refine ⟨_,_,kLst (kPair kStr kInt),[(nmX c,(v:Int))],[(nmX c,(v:Int))],by decide,⟨l,_,rfl,SqL.of (sG _ _ gl),.cons ⟨tl,_,_,rfl,SqT.of (sG _ _ gtl),rfl,rfl⟩ .nil⟩,⟨l2,_,rfl,SqL.of gG,.cons ⟨td,_,_,rfl,SqT.of gd,rfl,rfl⟩ .nil⟩,?_⟩
   rw[decide_eq_true rfl]
   walk_at "w"
   exact ⟨s.trans (sF.trans sG),_,rfl⟩
  rintro σ' HF ⟨sF,y11,rfl⟩
  walk_at "w"
  refine ⟨_,T,d,rfl,hd.keep (KpU.same sF),?_⟩
  walk_at "w"
  refine ⟨_,_,kStr,d.shown,d.shown,by decide,rfl,rfl,?_⟩
  rw[decide_eq_true rfl]
  walk_at "w"
  have PQ6:=(PQ5.upto W.u B5 B0.at).same sF
  refine ⟨r,H0,mv,pt,lk,rfl,PQ6,D,F,fun x2 H2 nx2 s2 S2=>?_⟩
  walk_at "w"
  refine ⟨x2,r,HF,H0,mv,pt,lk,rfl,S2,PQ6.same s2,D,F,fun H3 s3=>?_⟩
  exact k _
end
theorem ln0 {P:List Value->Prop} (h:P []):∀us:List Value,us.length=0->P us
 | [],_=>h
theorem ln1 {P:List Value->Prop} (h:∀x0,P [x0]):∀us:List Value,us.length=1->P us
 | [x0],_=>h x0
theorem ln2 {P:List Value->Prop} (h:∀x0 x1,P [x0,x1]):∀us:List Value,us.length=2->P us
 | [x0,x1],_=>h x0 x1
theorem ln3 {P:List Value->Prop} (h:∀x0 x1 x2,P [x0,x1,x2]):∀us:List Value,us.length=3->P us
 | [x0,x1,x2],_=>h x0 x1 x2
theorem ln4 {P:List Value->Prop} (h:∀x0 x1 x2 x3,P [x0,x1,x2,x3]):∀us:List Value,us.length=4->P us
 | [x0,x1,x2,x3],_=>h x0 x1 x2 x3
theorem ln5 {P:List Value->Prop} (h:∀x0 x1 x2 x3 x4,P [x0,x1,x2,x3,x4]):∀us:List Value,us.length=5->P us
 | [x0,x1,x2,x3,x4],_=>h x0 x1 x2 x3 x4
theorem all_mk {l:PySem.W.OpenLaw} {w:World} {K:PySem.W.Frag} {h:Heap} {mg:Str->Option Value} {fa:Addr} (X:K.In h) (G:h.Ns mainGlobals mg) (hfa:mg "law"=some (.ref fa))
  {C:Addr} (aC:PySem.W.nsIn K mainGlobals "System"=some (some (.ref C)))
  {f0:Addr} {od0 an0:Option Addr} {sl0:Array (Option Value)} {oc0 kV0 dc0 pm0 cd0 ct0:Value}
  (a0:PySem.W.nsIn K mainGlobals "_law_bag"=some (some (.ref f0))) (l0:K.lookup f0=some ⟨oc0,od0,.func (PySem.W.fnOf "_law_bag" "_law_bag" (defArgs s__law_bag) (defBody s__law_bag) (defScope s__law_bag) .none kV0 dc0 pm0 an0 cd0 ct0),sl0⟩) (c0:PySem.W.codeIn K cd0 "_law_bag"=true) (k0:PySem.W.keepIn K (.ref f0)=true)
  {f1:Addr} {od1 an1:Option Addr} {sl1:Array (Option Value)} {oc1 kV1 dc1 pm1 cd1 ct1:Value}
  (a1:PySem.W.nsIn K mainGlobals "_law_take"=some (some (.ref f1))) (l1:K.lookup f1=some ⟨oc1,od1,.func (PySem.W.fnOf "_law_take" "_law_take" (defArgs s__law_take) (defBody s__law_take) (defScope s__law_take) .none kV1 dc1 pm1 an1 cd1 ct1),sl1⟩) (c1:PySem.W.codeIn K cd1 "_law_take"=true) (k1:PySem.W.keepIn K (.ref f1)=true)
  {f2:Addr} {od2 an2:Option Addr} {sl2:Array (Option Value)} {oc2 kV2 dc2 pm2 cd2 ct2:Value}
  (a2:PySem.W.nsIn K mainGlobals "_law_sizes"=some (some (.ref f2))) (l2:K.lookup f2=some ⟨oc2,od2,.func (PySem.W.fnOf "_law_sizes" "_law_sizes" (defArgs s__law_sizes) (defBody s__law_sizes) (defScope s__law_sizes) .none kV2 dc2 pm2 an2 cd2 ct2),sl2⟩) (c2:PySem.W.codeIn K cd2 "_law_sizes"=true) (k2:PySem.W.keepIn K (.ref f2)=true)
  {f3:Addr} {od3 an3:Option Addr} {sl3:Array (Option Value)} {oc3 kV3 dc3 pm3 cd3 ct3:Value}
  (a3:PySem.W.nsIn K mainGlobals "_law_low"=some (some (.ref f3))) (l3:K.lookup f3=some ⟨oc3,od3,.func (PySem.W.fnOf "_law_low" "_law_low" (defArgs s__law_low) (defBody s__law_low) (defScope s__law_low) .none kV3 dc3 pm3 an3 cd3 ct3),sl3⟩) (c3:PySem.W.codeIn K cd3 "_law_low"=true) (k3:PySem.W.keepIn K (.ref f3)=true)
  {f4:Addr} {od4 an4:Option Addr} {sl4:Array (Option Value)} {oc4 kV4 dc4 pm4 cd4 ct4:Value}
  (a4:PySem.W.nsIn K mainGlobals "_law_number"=some (some (.ref f4))) (l4:K.lookup f4=some ⟨oc4,od4,.func (PySem.W.fnOf "_law_number" "_law_number" (defArgs s__law_number) (defBody s__law_number) (defScope s__law_number) .none kV4 dc4 pm4 an4 cd4 ct4),sl4⟩) (c4:PySem.W.codeIn K cd4 "_law_number"=true) (k4:PySem.W.keepIn K (.ref f4)=true)
  {f5:Addr} {od5 an5:Option Addr} {sl5:Array (Option Value)} {oc5 kV5 dc5 pm5 cd5 ct5:Value}
  (a5:PySem.W.nsIn K mainGlobals "_law_row"=some (some (.ref f5))) (l5:K.lookup f5=some ⟨oc5,od5,.func (PySem.W.fnOf "_law_row" "_law_row" (defArgs s__law_row) (defBody s__law_row) (defScope s__law_row) .none kV5 dc5 pm5 an5 cd5 ct5),sl5⟩) (c5:PySem.W.codeIn K cd5 "_law_row"=true) (k5:PySem.W.keepIn K (.ref f5)=true)
  {f6:Addr} {od6 an6:Option Addr} {sl6:Array (Option Value)} {oc6 kV6 dc6 pm6 cd6 ct6:Value}
  (a6:PySem.W.nsIn K mainGlobals "_law_move"=some (some (.ref f6))) (l6:K.lookup f6=some ⟨oc6,od6,.func (PySem.W.fnOf "_law_move" "_law_move" (defArgs s__law_move) (defBody s__law_move) (defScope s__law_move) .none kV6 dc6 pm6 an6 cd6 ct6),sl6⟩) (c6:PySem.W.codeIn K cd6 "_law_move"=true) (k6:PySem.W.keepIn K (.ref f6)=true)
  {f7:Addr} {od7 an7:Option Addr} {sl7:Array (Option Value)} {oc7 kV7 dc7 pm7 cd7 ct7:Value}
  (a7:PySem.W.nsIn K mainGlobals "_law_sum"=some (some (.ref f7))) (l7:K.lookup f7=some ⟨oc7,od7,.func (PySem.W.fnOf "_law_sum" "_law_sum" (defArgs s__law_sum) (defBody s__law_sum) (defScope s__law_sum) .none kV7 dc7 pm7 an7 cd7 ct7),sl7⟩) (c7:PySem.W.codeIn K cd7 "_law_sum"=true) (k7:PySem.W.keepIn K (.ref f7)=true)
  {f8:Addr} {od8 an8:Option Addr} {sl8:Array (Option Value)} {oc8 kV8 dc8 pm8 cd8 ct8:Value}
  (a8:PySem.W.nsIn K mainGlobals "_law_plus"=some (some (.ref f8))) (l8:K.lookup f8=some ⟨oc8,od8,.func (PySem.W.fnOf "_law_plus" "_law_plus" (defArgs s__law_plus) (defBody s__law_plus) (defScope s__law_plus) .none kV8 dc8 pm8 an8 cd8 ct8),sl8⟩) (c8:PySem.W.codeIn K cd8 "_law_plus"=true) (k8:PySem.W.keepIn K (.ref f8)=true)
  {f9:Addr} {od9 an9:Option Addr} {sl9:Array (Option Value)} {oc9 kV9 dc9 pm9 cd9 ct9:Value}
  (a9:PySem.W.nsIn K mainGlobals "_law_prod"=some (some (.ref f9))) (l9:K.lookup f9=some ⟨oc9,od9,.func (PySem.W.fnOf "_law_prod" "_law_prod" (defArgs s__law_prod) (defBody s__law_prod) (defScope s__law_prod) .none kV9 dc9 pm9 an9 cd9 ct9),sl9⟩) (c9:PySem.W.codeIn K cd9 "_law_prod"=true) (k9:PySem.W.keepIn K (.ref f9)=true)
  {f10:Addr} {od10 an10:Option Addr} {sl10:Array (Option Value)} {oc10 kV10 dc10 pm10 cd10 ct10:Value}
  (a10:PySem.W.nsIn K mainGlobals "_law_by"=some (some (.ref f10))) (l10:K.lookup f10=some ⟨oc10,od10,.func (PySem.W.fnOf "_law_by" "_law_by" (defArgs s__law_by) (defBody s__law_by) (defScope s__law_by) .none kV10 dc10 pm10 an10 cd10 ct10),sl10⟩) (c10:PySem.W.codeIn K cd10 "_law_by"=true) (k10:PySem.W.keepIn K (.ref f10)=true)
  {f11:Addr} {od11 an11:Option Addr} {sl11:Array (Option Value)} {oc11 kV11 dc11 pm11 cd11 ct11:Value}
  (a11:PySem.W.nsIn K mainGlobals "_law_mixed"=some (some (.ref f11))) (l11:K.lookup f11=some ⟨oc11,od11,.func (PySem.W.fnOf "_law_mixed" "_law_mixed" (defArgs s__law_mixed) (defBody s__law_mixed) (defScope s__law_mixed) .none kV11 dc11 pm11 an11 cd11 ct11),sl11⟩) (c11:PySem.W.codeIn K cd11 "_law_mixed"=true) (k11:PySem.W.keepIn K (.ref f11)=true)
  {f12:Addr} {od12 an12:Option Addr} {sl12:Array (Option Value)} {oc12 kV12 dc12 pm12 cd12 ct12:Value}
  (a12:PySem.W.nsIn K mainGlobals "_law_parts"=some (some (.ref f12))) (l12:K.lookup f12=some ⟨oc12,od12,.func (PySem.W.fnOf "_law_parts" "_law_parts" (defArgs s__law_parts) (defBody s__law_parts) (defScope s__law_parts) .none kV12 dc12 pm12 an12 cd12 ct12),sl12⟩) (c12:PySem.W.codeIn K cd12 "_law_parts"=true) (k12:PySem.W.keepIn K (.ref f12)=true)
  {f13:Addr} {od13 an13:Option Addr} {sl13:Array (Option Value)} {oc13 kV13 dc13 pm13 cd13 ct13:Value}
  (a13:PySem.W.nsIn K mainGlobals "_law_drawn"=some (some (.ref f13))) (l13:K.lookup f13=some ⟨oc13,od13,.func (PySem.W.fnOf "_law_drawn" "_law_drawn" (defArgs s__law_drawn) (defBody s__law_drawn) (defScope s__law_drawn) .none kV13 dc13 pm13 an13 cd13 ct13),sl13⟩) (c13:PySem.W.codeIn K cd13 "_law_drawn"=true) (k13:PySem.W.keepIn K (.ref f13)=true)
  {f14:Addr} {od14 an14:Option Addr} {sl14:Array (Option Value)} {oc14 kV14 dc14 pm14 cd14 ct14:Value}
  (a14:PySem.W.nsIn K mainGlobals "_law_is_number"=some (some (.ref f14))) (l14:K.lookup f14=some ⟨oc14,od14,.func (PySem.W.fnOf "_law_is_number" "_law_is_number" (defArgs s__law_is_number) (defBody s__law_is_number) (defScope s__law_is_number) .none kV14 dc14 pm14 an14 cd14 ct14),sl14⟩) (c14:PySem.W.codeIn K cd14 "_law_is_number"=true) (k14:PySem.W.keepIn K (.ref f14)=true)
  {f15:Addr} {od15 an15:Option Addr} {sl15:Array (Option Value)} {oc15 kV15 dc15 pm15 cd15 ct15:Value}
  (a15:PySem.W.nsIn K mainGlobals "_law_is_row"=some (some (.ref f15))) (l15:K.lookup f15=some ⟨oc15,od15,.func (PySem.W.fnOf "_law_is_row" "_law_is_row" (defArgs s__law_is_row) (defBody s__law_is_row) (defScope s__law_is_row) .none kV15 dc15 pm15 an15 cd15 ct15),sl15⟩) (c15:PySem.W.codeIn K cd15 "_law_is_row"=true) (k15:PySem.W.keepIn K (.ref f15)=true)
  {f16:Addr} {od16 an16:Option Addr} {sl16:Array (Option Value)} {oc16 kV16 dc16 pm16 cd16 ct16:Value}
  (a16:PySem.W.nsIn K mainGlobals "_law_is_grid"=some (some (.ref f16))) (l16:K.lookup f16=some ⟨oc16,od16,.func (PySem.W.fnOf "_law_is_grid" "_law_is_grid" (defArgs s__law_is_grid) (defBody s__law_is_grid) (defScope s__law_is_grid) .none kV16 dc16 pm16 an16 cd16 ct16),sl16⟩) (c16:PySem.W.codeIn K cd16 "_law_is_grid"=true) (k16:PySem.W.keepIn K (.ref f16)=true)
  {f17:Addr} {od17 an17:Option Addr} {sl17:Array (Option Value)} {oc17 kV17 dc17 pm17 cd17 ct17:Value}
  (a17:PySem.W.nsIn K mainGlobals "_law_fields"=some (some (.ref f17))) (l17:K.lookup f17=some ⟨oc17,od17,.func (PySem.W.fnOf "_law_fields" "_law_fields" (defArgs s__law_fields) (defBody s__law_fields) (defScope s__law_fields) .none kV17 dc17 pm17 an17 cd17 ct17),sl17⟩) (c17:PySem.W.codeIn K cd17 "_law_fields"=true) (k17:PySem.W.keepIn K (.ref f17)=true)
  {f18:Addr} {od18 an18:Option Addr} {sl18:Array (Option Value)} {oc18 kV18 dc18 pm18 cd18 ct18:Value}
  (a18:PySem.W.nsIn K mainGlobals "want_list"=some (some (.ref f18))) (l18:K.lookup f18=some ⟨oc18,od18,.func (PySem.W.fnOf "want_list" "want_list" (defArgs s_want_list) (defBody s_want_list) (defScope s_want_list) .none kV18 dc18 pm18 an18 cd18 ct18),sl18⟩) (c18:PySem.W.codeIn K cd18 "want_list"=true) (k18:PySem.W.keepIn K (.ref f18)=true)
  {f19:Addr} {od19 an19:Option Addr} {sl19:Array (Option Value)} {oc19 kV19 dc19 pm19 cd19 ct19:Value}
  (a19:PySem.W.nsIn K mainGlobals "is_whole"=some (some (.ref f19))) (l19:K.lookup f19=some ⟨oc19,od19,.func (PySem.W.fnOf "is_whole" "is_whole" (defArgs s_is_whole) (defBody s_is_whole) (defScope s_is_whole) .none kV19 dc19 pm19 an19 cd19 ct19),sl19⟩) (c19:PySem.W.codeIn K cd19 "is_whole"=true) (k19:PySem.W.keepIn K (.ref f19)=true)
  {f20:Addr} {od20 an20:Option Addr} {sl20:Array (Option Value)} {oc20 kV20 dc20 pm20 cd20 ct20:Value}
  (a20:PySem.W.nsIn K mainGlobals "common_divisor"=some (some (.ref f20))) (l20:K.lookup f20=some ⟨oc20,od20,.func (PySem.W.fnOf "common_divisor" "common_divisor" (defArgs s_common_divisor) (defBody s_common_divisor) (defScope s_common_divisor) .none kV20 dc20 pm20 an20 cd20 ct20),sl20⟩) (c20:PySem.W.codeIn K cd20 "common_divisor"=true) (k20:PySem.W.keepIn K (.ref f20)=true)
  {f21:Addr} {od21 an21:Option Addr} {sl21:Array (Option Value)} {oc21 kV21 dc21 pm21 cd21 ct21:Value}
  (a21:PySem.W.nsIn K mainGlobals "is_number"=some (some (.ref f21))) (l21:K.lookup f21=some ⟨oc21,od21,.func (PySem.W.fnOf "is_number" "is_number" (defArgs s_is_number) (defBody s_is_number) (defScope s_is_number) .none kV21 dc21 pm21 an21 cd21 ct21),sl21⟩) (c21:PySem.W.codeIn K cd21 "is_number"=true) (k21:PySem.W.keepIn K (.ref f21)=true)
  {f22:Addr} {od22 an22:Option Addr} {sl22:Array (Option Value)} {oc22 kV22 dc22 pm22 cd22 ct22:Value}
  (a22:PySem.W.nsIn K mainGlobals "is_row"=some (some (.ref f22))) (l22:K.lookup f22=some ⟨oc22,od22,.func (PySem.W.fnOf "is_row" "is_row" (defArgs s_is_row) (defBody s_is_row) (defScope s_is_row) .none kV22 dc22 pm22 an22 cd22 ct22),sl22⟩) (c22:PySem.W.codeIn K cd22 "is_row"=true) (k22:PySem.W.keepIn K (.ref f22)=true)
  {f23:Addr} {od23 an23:Option Addr} {sl23:Array (Option Value)} {oc23 kV23 dc23 pm23 cd23 ct23:Value}
  (a23:PySem.W.nsIn K mainGlobals "copied_rows"=some (some (.ref f23))) (l23:K.lookup f23=some ⟨oc23,od23,.func (PySem.W.fnOf "copied_rows" "copied_rows" (defArgs s_copied_rows) (defBody s_copied_rows) (defScope s_copied_rows) .none kV23 dc23 pm23 an23 cd23 ct23),sl23⟩) (c23:PySem.W.codeIn K cd23 "copied_rows"=true) (k23:PySem.W.keepIn K (.ref f23)=true)
  {f24:Addr} {od24 an24:Option Addr} {sl24:Array (Option Value)} {oc24 kV24 dc24 pm24 cd24 ct24:Value}
  (a24:PySem.W.findIn K (.ref C) "__init__"=some (some (.ref f24))) (i24:PySem.W.isFn K (.ref f24)=true) (l24:K.lookup f24=some ⟨oc24,od24,.func (PySem.W.fnOf "__init__" "System.__init__" (defArgs s_System___init__) (defBody s_System___init__) (defScope s_System___init__) .none kV24 dc24 pm24 an24 cd24 ct24),sl24⟩) (c24:PySem.W.codeIn K cd24 "System.__init__"=true) (k24:PySem.W.keepIn K (.ref f24)=true)
  {f25:Addr} {od25 an25:Option Addr} {sl25:Array (Option Value)} {oc25 kV25 dc25 pm25 cd25 ct25:Value}
  (a25:PySem.W.nsIn K mainGlobals "_law_copied"=some (some (.ref f25))) (l25:K.lookup f25=some ⟨oc25,od25,.func (PySem.W.fnOf "_law_copied" "_law_copied" (defArgs s__law_copied) (defBody s__law_copied) (defScope s__law_copied) .none kV25 dc25 pm25 an25 cd25 ct25),sl25⟩) (c25:PySem.W.codeIn K cd25 "_law_copied"=true) (k25:PySem.W.keepIn K (.ref f25)=true)
  {f26:Addr} {od26 an26:Option Addr} {sl26:Array (Option Value)} {oc26 kV26 dc26 pm26 cd26 ct26:Value}
  (a26:PySem.W.nsIn K mainGlobals "_law_system"=some (some (.ref f26))) (l26:K.lookup f26=some ⟨oc26,od26,.func (PySem.W.fnOf "_law_system" "_law_system" (defArgs s__law_system) (defBody s__law_system) (defScope s__law_system) .none kV26 dc26 pm26 an26 cd26 ct26),sl26⟩) (c26:PySem.W.codeIn K cd26 "_law_system"=true) (k26:PySem.W.keepIn K (.ref f26)=true)
  {f27:Addr} {od27 an27:Option Addr} {sl27:Array (Option Value)} {oc27 kV27 dc27 pm27 cd27 ct27:Value}
  (a27:PySem.W.nsIn K mainGlobals "grid_turned"=some (some (.ref f27))) (l27:K.lookup f27=some ⟨oc27,od27,.func (PySem.W.fnOf "grid_turned" "grid_turned" (defArgs s_grid_turned) (defBody s_grid_turned) (defScope s_grid_turned) .none kV27 dc27 pm27 an27 cd27 ct27),sl27⟩) (c27:PySem.W.codeIn K cd27 "grid_turned"=true) (k27:PySem.W.keepIn K (.ref f27)=true)
  {f28:Addr} {od28 an28:Option Addr} {sl28:Array (Option Value)} {oc28 kV28 dc28 pm28 cd28 ct28:Value}
  (a28:PySem.W.findIn K (.ref C) "turned"=some (some (.ref f28))) (i28:PySem.W.isFn K (.ref f28)=true) (l28:K.lookup f28=some ⟨oc28,od28,.func (PySem.W.fnOf "turned" "System.turned" (defArgs s_System_turned) (defBody s_System_turned) (defScope s_System_turned) .none kV28 dc28 pm28 an28 cd28 ct28),sl28⟩) (c28:PySem.W.codeIn K cd28 "System.turned"=true) (k28:PySem.W.keepIn K (.ref f28)=true)
  {f29:Addr} {od29 an29:Option Addr} {sl29:Array (Option Value)} {oc29 kV29 dc29 pm29 cd29 ct29:Value}
  (a29:PySem.W.nsIn K mainGlobals "_law_full"=some (some (.ref f29))) (l29:K.lookup f29=some ⟨oc29,od29,.func (PySem.W.fnOf "_law_full" "_law_full" (defArgs s__law_full) (defBody s__law_full) (defScope s__law_full) .none kV29 dc29 pm29 an29 cd29 ct29),sl29⟩) (c29:PySem.W.codeIn K cd29 "_law_full"=true) (k29:PySem.W.keepIn K (.ref f29)=true)
  {f30:Addr} {od30 an30:Option Addr} {sl30:Array (Option Value)} {oc30 kV30 dc30 pm30 cd30 ct30:Value}
  (a30:PySem.W.nsIn K mainGlobals "_law_bad_number"=some (some (.ref f30))) (l30:K.lookup f30=some ⟨oc30,od30,.func (PySem.W.fnOf "_law_bad_number" "_law_bad_number" (defArgs s__law_bad_number) (defBody s__law_bad_number) (defScope s__law_bad_number) .none kV30 dc30 pm30 an30 cd30 ct30),sl30⟩) (c30:PySem.W.codeIn K cd30 "_law_bad_number"=true) (k30:PySem.W.keepIn K (.ref f30)=true)
  {f31:Addr} {od31 an31:Option Addr} {sl31:Array (Option Value)} {oc31 kV31 dc31 pm31 cd31 ct31:Value}
  (a31:PySem.W.nsIn K mainGlobals "_law_bad_row"=some (some (.ref f31))) (l31:K.lookup f31=some ⟨oc31,od31,.func (PySem.W.fnOf "_law_bad_row" "_law_bad_row" (defArgs s__law_bad_row) (defBody s__law_bad_row) (defScope s__law_bad_row) .none kV31 dc31 pm31 an31 cd31 ct31),sl31⟩) (c31:PySem.W.codeIn K cd31 "_law_bad_row"=true) (k31:PySem.W.keepIn K (.ref f31)=true)
  {f32:Addr} {od32 an32:Option Addr} {sl32:Array (Option Value)} {oc32 kV32 dc32 pm32 cd32 ct32:Value}
  (a32:PySem.W.nsIn K mainGlobals "_law_spoilt"=some (some (.ref f32))) (l32:K.lookup f32=some ⟨oc32,od32,.func (PySem.W.fnOf "_law_spoilt" "_law_spoilt" (defArgs s__law_spoilt) (defBody s__law_spoilt) (defScope s__law_spoilt) .none kV32 dc32 pm32 an32 cd32 ct32),sl32⟩) (c32:PySem.W.codeIn K cd32 "_law_spoilt"=true) (k32:PySem.W.keepIn K (.ref f32)=true)
  {f33:Addr} {od33 an33:Option Addr} {sl33:Array (Option Value)} {oc33 kV33 dc33 pm33 cd33 ct33:Value}
  {x_Wrong:Addr} (xa_Wrong:PySem.W.nsIn K mainGlobals "Wrong"=some (some (.ref x_Wrong)))
  (a33:PySem.W.findIn K (.ref x_Wrong) "__init__"=some (some (.ref f33))) (i33:PySem.W.isFn K (.ref f33)=true) (l33:K.lookup f33=some ⟨oc33,od33,.func (PySem.W.fnOf "__init__" "Wrong.__init__" (defArgs s_Wrong___init__) (defBody s_Wrong___init__) (defScope s_Wrong___init__) .none kV33 dc33 pm33 an33 cd33 ct33),sl33⟩) (c33:PySem.W.codeIn K cd33 "Wrong.__init__"=true) (k33:PySem.W.keepIn K (.ref f33)=true)
  {f34:Addr} {od34 an34:Option Addr} {sl34:Array (Option Value)} {oc34 kV34 dc34 pm34 cd34 ct34:Value}
  {x_TooMany:Addr} (xa_TooMany:PySem.W.nsIn K mainGlobals "TooMany"=some (some (.ref x_TooMany)))
  (a34:PySem.W.findIn K (.ref x_TooMany) "__init__"=some (some (.ref f34))) (i34:PySem.W.isFn K (.ref f34)=true) (l34:K.lookup f34=some ⟨oc34,od34,.func (PySem.W.fnOf "__init__" "TooMany.__init__" (defArgs s_TooMany___init__) (defBody s_TooMany___init__) (defScope s_TooMany___init__) .none kV34 dc34 pm34 an34 cd34 ct34),sl34⟩) (c34:PySem.W.codeIn K cd34 "TooMany.__init__"=true) (k34:PySem.W.keepIn K (.ref f34)=true)
  {f35:Addr} {od35 an35:Option Addr} {sl35:Array (Option Value)} {oc35 kV35 dc35 pm35 cd35 ct35:Value}
  {x_NoThing:Addr} (xa_NoThing:PySem.W.nsIn K mainGlobals "NoThing"=some (some (.ref x_NoThing)))
  (a35:PySem.W.findIn K (.ref x_NoThing) "__init__"=some (some (.ref f35))) (i35:PySem.W.isFn K (.ref f35)=true) (l35:K.lookup f35=some ⟨oc35,od35,.func (PySem.W.fnOf "__init__" "NoThing.__init__" (defArgs s_NoThing___init__) (defBody s_NoThing___init__) (defScope s_NoThing___init__) .none kV35 dc35 pm35 an35 cd35 ct35),sl35⟩) (c35:PySem.W.codeIn K cd35 "NoThing.__init__"=true) (k35:PySem.W.keepIn K (.ref f35)=true)
  {f36:Addr} {od36 an36:Option Addr} {sl36:Array (Option Value)} {oc36 kV36 dc36 pm36 cd36 ct36:Value}
  (a36:PySem.W.nsIn K mainGlobals "_law_refusal"=some (some (.ref f36))) (l36:K.lookup f36=some ⟨oc36,od36,.func (PySem.W.fnOf "_law_refusal" "_law_refusal" (defArgs s__law_refusal) (defBody s__law_refusal) (defScope s__law_refusal) .none kV36 dc36 pm36 an36 cd36 ct36),sl36⟩) (c36:PySem.W.codeIn K cd36 "_law_refusal"=true) (k36:PySem.W.keepIn K (.ref f36)=true)
  {f37:Addr} {od37 an37:Option Addr} {sl37:Array (Option Value)} {oc37 kV37 dc37 pm37 cd37 ct37:Value}
  (a37:PySem.W.nsIn K mainGlobals "law"=some (some (.ref f37))) (l37:K.lookup f37=some ⟨oc37,od37,.func (PySem.W.fnOf "law" "law" (defArgs s_law) (defBody s_law) (defScope s_law) .none kV37 dc37 pm37 an37 cd37 ct37),sl37⟩) (c37:PySem.W.codeIn K cd37 "law"=true) (k37:PySem.W.keepIn K (.ref f37)=true)
  {it0:Tok} (ci0:PySem.W.nsIn K mainGlobals "MOST_STATES"=some (some (.int 8 it0)))
  {it1:Tok} (ci1:PySem.W.nsIn K mainGlobals "MOST_PUTS"=some (some (.int 4 it1)))
  {it2:Tok} (ci2:PySem.W.nsIn K mainGlobals "MOST_LOOKS"=some (some (.int 4 it2)))
  (pg:PySem.W.plainGet K C Str.empty=true) (hd:PySem.W.hasDictIn K C=true) (po:PySem.W.plainOver K C=true) (sa:PySem.W.findIn K (.ref C) "__setattr__"=some (some (.builtin "object.__setattr__"))) (mk:PySem.W.makesIn K C=true) (kc:PySem.W.keepIn K (.ref C)=true)
  (n_move:PySem.W.findIn K (.ref C) "move"=some none)
  (n_states:PySem.W.findIn K (.ref C) "states"=some none)
  (n_put:PySem.W.findIn K (.ref C) "put"=some none)
  (n_ins:PySem.W.findIn K (.ref C) "ins"=some none)
  (n_look:PySem.W.findIn K (.ref C) "look"=some none)
  (n_outs:PySem.W.findIn K (.ref C) "outs"=some none)
  {x_SumError:Addr} (xa_SumError:PySem.W.nsIn K mainGlobals "SumError"=some (some (.ref x_SumError)))
  {x_NoNumber:Addr} (xa_NoNumber:PySem.W.nsIn K mainGlobals "NoNumber"=some (some (.ref x_NoNumber)))
  {x_NoFit:Addr} (xa_NoFit:PySem.W.nsIn K mainGlobals "NoFit"=some (some (.ref x_NoFit)))
  {x_NotSteered:Addr} (xa_NotSteered:PySem.W.nsIn K mainGlobals "NotSteered"=some (some (.ref x_NotSteered)))
  {x_NotSeen:Addr} (xa_NotSeen:PySem.W.nsIn K mainGlobals "NotSeen"=some (some (.ref x_NotSeen)))
  {x_NoText:Addr} (xa_NoText:PySem.W.nsIn K mainGlobals "NoText"=some (some (.ref x_NoText)))
  {x_NoName:Addr} (xa_NoName:PySem.W.nsIn K mainGlobals "NoName"=some (some (.ref x_NoName)))
  {x_Taken:Addr} (xa_Taken:PySem.W.nsIn K mainGlobals "Taken"=some (some (.ref x_Taken)))
  {dd_Wrong:Option Addr} {nm_Wrong qn_Wrong:Str} {bs_Wrong su_Wrong:List Value} {ns_Wrong:Addr} {hd_Wrong ab_Wrong:Bool} {sn_Wrong:List Str} {co_Wrong:Option Bool} {ka_Wrong kb_Wrong kc_Wrong kd_Wrong ke_Wrong:Option Value}
  (lx_Wrong:K.lookup x_Wrong=some ⟨.type "type",dd_Wrong,.cls ⟨nm_Wrong,bs_Wrong,[.ref x_Wrong,.ref x_SumError,.type "ValueError",.type "Exception",.type "BaseException",.type "object"],ns_Wrong,qn_Wrong,hd_Wrong,sn_Wrong,su_Wrong,ab_Wrong,co_Wrong,false⟩,#[ka_Wrong,kb_Wrong,kc_Wrong,kd_Wrong,some (.builtin "ValueError.__new__"),ke_Wrong]⟩)
  (sa_Wrong:PySem.W.findIn K (.ref x_Wrong) "__setattr__"=some (some (.builtin "object.__setattr__"))) (kp_Wrong:PySem.W.keepIn K (.ref x_Wrong)=true) (nt_Wrong:PySem.W.findIn K (.ref x_Wrong) "at"=some none)
  {dd_TooMany:Option Addr} {nm_TooMany qn_TooMany:Str} {bs_TooMany su_TooMany:List Value} {ns_TooMany:Addr} {hd_TooMany ab_TooMany:Bool} {sn_TooMany:List Str} {co_TooMany:Option Bool} {ka_TooMany kb_TooMany kc_TooMany kd_TooMany ke_TooMany:Option Value}
  (lx_TooMany:K.lookup x_TooMany=some ⟨.type "type",dd_TooMany,.cls ⟨nm_TooMany,bs_TooMany,[.ref x_TooMany,.ref x_SumError,.type "ValueError",.type "Exception",.type "BaseException",.type "object"],ns_TooMany,qn_TooMany,hd_TooMany,sn_TooMany,su_TooMany,ab_TooMany,co_TooMany,false⟩,#[ka_TooMany,kb_TooMany,kc_TooMany,kd_TooMany,some (.builtin "ValueError.__new__"),ke_TooMany]⟩)
  (sa_TooMany:PySem.W.findIn K (.ref x_TooMany) "__setattr__"=some (some (.builtin "object.__setattr__"))) (kp_TooMany:PySem.W.keepIn K (.ref x_TooMany)=true) (nt_TooMany:PySem.W.findIn K (.ref x_TooMany) "most"=some none)
  {dd_NoThing:Option Addr} {nm_NoThing qn_NoThing:Str} {bs_NoThing su_NoThing:List Value} {ns_NoThing:Addr} {hd_NoThing ab_NoThing:Bool} {sn_NoThing:List Str} {co_NoThing:Option Bool} {ka_NoThing kb_NoThing kc_NoThing kd_NoThing ke_NoThing:Option Value}
  (lx_NoThing:K.lookup x_NoThing=some ⟨.type "type",dd_NoThing,.cls ⟨nm_NoThing,bs_NoThing,[.ref x_NoThing,.ref x_SumError,.type "ValueError",.type "Exception",.type "BaseException",.type "object"],ns_NoThing,qn_NoThing,hd_NoThing,sn_NoThing,su_NoThing,ab_NoThing,co_NoThing,false⟩,#[ka_NoThing,kb_NoThing,kc_NoThing,kd_NoThing,some (.builtin "ValueError.__new__"),ke_NoThing]⟩)
  (sa_NoThing:PySem.W.findIn K (.ref x_NoThing) "__setattr__"=some (some (.builtin "object.__setattr__"))) (kp_NoThing:PySem.W.keepIn K (.ref x_NoThing)=true) (nt_NoThing:PySem.W.findIn K (.ref x_NoThing) "at"=some none)
  (xe_SumError:PySem.W.excIn K x_SumError vErr "ValueError.__new__"=true)
  (xm_Wrong_SumError:PySem.W.exmOne K (.ref x_Wrong) (.ref x_SumError)=some true)
  (xm_NoThing_SumError:PySem.W.exmOne K (.ref x_NoThing) (.ref x_SumError)=some true)
  (xm_TooMany_SumError:PySem.W.exmOne K (.ref x_TooMany) (.ref x_SumError)=some true)
  (ki_Wrong_Wrong:PySem.W.kitOne K (.ref x_Wrong) (.ref x_Wrong)=some true)
  (ki_Wrong_NoThing:PySem.W.kitOne K (.ref x_Wrong) (.ref x_NoThing)=some false)
  (ki_Wrong_TooMany:PySem.W.kitOne K (.ref x_Wrong) (.ref x_TooMany)=some false)
  (ki_Wrong_ValueError:PySem.W.kitOne K (.ref x_Wrong) (.type "ValueError")=some true)
  (ki_NoThing_Wrong:PySem.W.kitOne K (.ref x_NoThing) (.ref x_Wrong)=some false)
  (ki_NoThing_NoThing:PySem.W.kitOne K (.ref x_NoThing) (.ref x_NoThing)=some true)
  (ki_NoThing_TooMany:PySem.W.kitOne K (.ref x_NoThing) (.ref x_TooMany)=some false)
  (ki_NoThing_ValueError:PySem.W.kitOne K (.ref x_NoThing) (.type "ValueError")=some true)
  (ki_TooMany_Wrong:PySem.W.kitOne K (.ref x_TooMany) (.ref x_Wrong)=some false)
  (ki_TooMany_NoThing:PySem.W.kitOne K (.ref x_TooMany) (.ref x_NoThing)=some false)
  (ki_TooMany_TooMany:PySem.W.kitOne K (.ref x_TooMany) (.ref x_TooMany)=some true)
  (ki_TooMany_ValueError:PySem.W.kitOne K (.ref x_TooMany) (.type "ValueError")=some true)
  (ka_Wrong_0:PySem.W.kitAny K (.ref x_Wrong) [.ref x_NoFit,.ref x_NoName,.ref x_NoNumber,.ref x_NotSeen,.ref x_NotSteered,.ref x_NoText,.ref x_Taken]=some false)
  (ka_NoThing_0:PySem.W.kitAny K (.ref x_NoThing) [.ref x_NoFit,.ref x_NoName,.ref x_NoNumber,.ref x_NotSeen,.ref x_NotSteered,.ref x_NoText,.ref x_Taken]=some false)
  (ka_TooMany_0:PySem.W.kitAny K (.ref x_TooMany) [.ref x_NoFit,.ref x_NoName,.ref x_NoNumber,.ref x_NotSeen,.ref x_NotSteered,.ref x_NoText,.ref x_Taken]=some false)
  (ga_Wrong:PySem.W.findIn K (.ref x_Wrong) "__getattribute__"=some (some (.builtin "BaseException.__getattribute__")))
  (gt_Wrong:PySem.W.findIn K (.ref x_Wrong) "__getattr__"=some none)
  (mb_Wrong:PySem.W.mroIn K x_Wrong (.type "BaseException")=some true)
  (mo_Wrong:PySem.W.mroIn K x_Wrong (.type "object")=some true)
  (hd_Wrong:PySem.W.hasDictIn K x_Wrong=true)
  (ca_Wrong:PySem.W.findIn K (.ref x_Wrong) "__class__"=some (some (.builtin "object.__class__")))
  (ga_NoThing:PySem.W.findIn K (.ref x_NoThing) "__getattribute__"=some (some (.builtin "BaseException.__getattribute__")))
  (gt_NoThing:PySem.W.findIn K (.ref x_NoThing) "__getattr__"=some none)
  (mb_NoThing:PySem.W.mroIn K x_NoThing (.type "BaseException")=some true)
  (mo_NoThing:PySem.W.mroIn K x_NoThing (.type "object")=some true)
  (hd_NoThing:PySem.W.hasDictIn K x_NoThing=true)
  (ca_NoThing:PySem.W.findIn K (.ref x_NoThing) "__class__"=some (some (.builtin "object.__class__")))
  (ga_TooMany:PySem.W.findIn K (.ref x_TooMany) "__getattribute__"=some (some (.builtin "BaseException.__getattribute__")))
  (gt_TooMany:PySem.W.findIn K (.ref x_TooMany) "__getattr__"=some none)
  (mb_TooMany:PySem.W.mroIn K x_TooMany (.type "BaseException")=some true)
  (mo_TooMany:PySem.W.mroIn K x_TooMany (.type "object")=some true)
  (hd_TooMany:PySem.W.hasDictIn K x_TooMany=true)
  (ca_TooMany:PySem.W.findIn K (.ref x_TooMany) "__class__"=some (some (.builtin "object.__class__")))
  (sg_:PySem.W.specialIn K (.builtin "object.__class__") "__get__"=some (some (.builtin "getset_descriptor.__get__")))
  (tk_:PySem.W.takesIn K (.builtin "object.__class__")=some true)
  (z_abs:PySem.W.nsIn K mainGlobals "abs"=some none)
  (z_len:PySem.W.nsIn K mainGlobals "len"=some none)
  (z_min:PySem.W.nsIn K mainGlobals "min"=some none)
  (z_range:PySem.W.nsIn K mainGlobals "range"=some none)
  (z_int:PySem.W.nsIn K mainGlobals "int"=some none)
  (z_isinstance:PySem.W.nsIn K mainGlobals "isinstance"=some none)
  (z_tuple:PySem.W.nsIn K mainGlobals "tuple"=some none)
  (z_bool:PySem.W.nsIn K mainGlobals "bool"=some none)
  (z_list:PySem.W.nsIn K mainGlobals "list"=some none)
  (z_all:PySem.W.nsIn K mainGlobals "all"=some none)
  (z_any:PySem.W.nsIn K mainGlobals "any"=some none)
  (z_enumerate:PySem.W.nsIn K mainGlobals "enumerate"=some none)
  (z_ValueError:PySem.W.nsIn K mainGlobals "ValueError"=some none)
  (z_repr:PySem.W.nsIn K mainGlobals "repr"=some none)
  : ∃fd:FuncData,(∀(s:Shared) (v:Value),BindsTo s fd ⟨[v],[]⟩ [("_law_script",v)])∧∀base:Heap,K.In base->base.Ns mainGlobals mg->FnOk l.prog w K mg base CX0 9 fa fd ["_law_script"] (sp_law K):=by
 have e:=hfa.symm.trans (PySem.W.mg_of X G a37)
 cases e
 have F0:=fun_mk (st:=s__law_bag) l0 c0 k0
 have F1:=fun_mk (st:=s__law_take) l1 c1 k1
 have F2:=fun_mk (st:=s__law_sizes) l2 c2 k2
 have F3:=fun_mk (st:=s__law_low) l3 c3 k3
 have F4:=fun_mk (st:=s__law_number) l4 c4 k4
 have F5:=fun_mk (st:=s__law_row) l5 c5 k5
 have F6:=fun_mk (st:=s__law_move) l6 c6 k6
 have F7:=fun_mk (st:=s__law_sum) l7 c7 k7
 have F8:=fun_mk (st:=s__law_plus) l8 c8 k8
 have F9:=fun_mk (st:=s__law_prod) l9 c9 k9
 have F10:=fun_mk (st:=s__law_by) l10 c10 k10
 have F11:=fun_mk (st:=s__law_mixed) l11 c11 k11
 have F12:=fun_mk (st:=s__law_parts) l12 c12 k12
 have F13:=fun_mk (st:=s__law_drawn) l13 c13 k13
 have F14:=fun_mk (st:=s__law_is_number) l14 c14 k14
 have F15:=fun_mk (st:=s__law_is_row) l15 c15 k15
 have F16:=fun_mk (st:=s__law_is_grid) l16 c16 k16
 have F17:=fun_mk (st:=s__law_fields) l17 c17 k17
 have F18:=fun_mk (st:=s_want_list) l18 c18 k18
 have F19:=fun_mk (st:=s_is_whole) l19 c19 k19
 have F20:=fun_mk (st:=s_common_divisor) l20 c20 k20
 have F21:=fun_mk (st:=s_is_number) l21 c21 k21
 have F22:=fun_mk (st:=s_is_row) l22 c22 k22
 have F23:=fun_mk (st:=s_copied_rows) l23 c23 k23
 have F24:=fun_mk (st:=s_System___init__) l24 c24 k24
 have F25:=fun_mk (st:=s__law_copied) l25 c25 k25
 have F26:=fun_mk (st:=s__law_system) l26 c26 k26
 have F27:=fun_mk (st:=s_grid_turned) l27 c27 k27
 have F28:=fun_mk (st:=s_System_turned) l28 c28 k28
 have F29:=fun_mk (st:=s__law_full) l29 c29 k29
 have F30:=fun_mk (st:=s__law_bad_number) l30 c30 k30
 have F31:=fun_mk (st:=s__law_bad_row) l31 c31 k31
 have F32:=fun_mk (st:=s__law_spoilt) l32 c32 k32
 have F33:=fun_mk (st:=s_Wrong___init__) l33 c33 k33
 have F34:=fun_mk (st:=s_TooMany___init__) l34 c34 k34
 have F35:=fun_mk (st:=s_NoThing___init__) l35 c35 k35
 have F36:=fun_mk (st:=s__law_refusal) l36 c36 k36
 have F37:=fun_mk (st:=s_law) l37 c37 k37
 have T:Txt K mg { a__law_bag:=f0,d__law_bag:=_,a__law_take:=f1,d__law_take:=_,a__law_sizes:=f2,d__law_sizes:=_,a__law_low:=f3,d__law_low:=_,a__law_number:=f4,d__law_number:=_,a__law_row:=f5,d__law_row:=_,a__law_move:=f6,d__law_move:=_,a__law_sum:=f7,d__law_sum:=_,a__law_plus:=f8,d__law_plus:=_,a__law_prod:=f9,d__law_prod:=_,a__law_by:=f10,d__law_by:=_,a__law_mixed:=f11,d__law_mixed:=_,a__law_parts:=f12,d__law_parts:=_,a__law_drawn:=f13,d__law_drawn:=_,a__law_is_number:=f14,d__law_is_number:=_,a__law_is_row:=f15,d__law_is_row:=_,a__law_is_grid:=f16,d__law_is_grid:=_,a__law_fields:=f17,d__law_fields:=_,a_want_list:=f18,d_want_list:=_,a_is_whole:=f19,d_is_whole:=_,a_common_divisor:=f20,d_common_divisor:=_,a_is_number:=f21,d_is_number:=_,a_is_row:=f22,d_is_row:=_,a_copied_rows:=f23,d_copied_rows:=_,a_System___init__:=f24,d_System___init__:=_,a__law_copied:=f25,d__law_copied:=_,a__law_system:=f26,d__law_system:=_,a_grid_turned:=f27,d_grid_turned:=_,a_System_turned:=f28,d_System_turned:=_,a__law_full:=f29,d__law_full:=_,a__law_bad_number:=f30,d__law_bad_number:=_,a__law_bad_row:=f31,d__law_bad_row:=_,a__law_spoilt:=f32,d__law_spoilt:=_,a_Wrong___init__:=f33,d_Wrong___init__:=_,a_TooMany___init__:=f34,d_TooMany___init__:=_,a_NoThing___init__:=f35,d_NoThing___init__:=_,a__law_refusal:=f36,d__law_refusal:=_,a_law:=fa,d_law:=_,t_MOST_STATES:=it0,t_MOST_PUTS:=it1,t_MOST_LOOKS:=it2,a_System:=C,a_SumError:=x_SumError,a_Wrong:=x_Wrong,a_NoThing:=x_NoThing,a_TooMany:=x_TooMany,a_NoNumber:=x_NoNumber,a_NoFit:=x_NoFit,a_NotSteered:=x_NotSteered,a_NotSeen:=x_NotSeen,a_NoText:=x_NoText,a_NoName:=x_NoName,a_Taken:=x_Taken }:={
  mg__law_bag:=PySem.W.mg_of X G a0
  b__law_bag:=F0.binds (ps:=["_law_script"]) fun _ _ _ _ _ _=>by refine ln1 ?_;intros;rfl
  F__law_bag:=F0
  mg__law_take:=PySem.W.mg_of X G a1
  b__law_take:=F1.binds (ps:=["_law_bag_here","_law_many"]) fun _ _ _ _ _ _=>by refine ln2 ?_;intros;rfl
  F__law_take:=F1
  mg__law_sizes:=PySem.W.mg_of X G a2
  b__law_sizes:=F2.binds (ps:=["_law_bag_here"]) fun _ _ _ _ _ _=>by refine ln1 ?_;intros;rfl
  F__law_sizes:=F2
  mg__law_low:=PySem.W.mg_of X G a3
  b__law_low:=F3.binds (ps:=["_law_top","_law_bottom"]) fun _ _ _ _ _ _=>by refine ln2 ?_;intros;rfl
  F__law_low:=F3
  mg__law_number:=PySem.W.mg_of X G a4
  b__law_number:=F4.binds (ps:=["_law_bag_here","_law_wide"]) fun _ _ _ _ _ _=>by refine ln2 ?_;intros;rfl
  F__law_number:=F4
  mg__law_row:=PySem.W.mg_of X G a5
  b__law_row:=F5.binds (ps:=["_law_bag_here","_law_many","_law_wide"]) fun _ _ _ _ _ _=>by refine ln3 ?_;intros;rfl
  F__law_row:=F5
  mg__law_move:=PySem.W.mg_of X G a6
  b__law_move:=F6.binds (ps:=["_law_bag_here","_law_n","_law_way","_law_first","_law_wide"]) fun _ _ _ _ _ _=>by refine ln5 ?_;intros;rfl
  F__law_move:=F6
  mg__law_sum:=PySem.W.mg_of X G a7
  b__law_sum:=F7.binds (ps:=["_law_one","_law_other"]) fun _ _ _ _ _ _=>by refine ln2 ?_;intros;rfl
  F__law_sum:=F7
  mg__law_plus:=PySem.W.mg_of X G a8
  b__law_plus:=F8.binds (ps:=["_law_one","_law_other"]) fun _ _ _ _ _ _=>by refine ln2 ?_;intros;rfl
  F__law_plus:=F8
  mg__law_prod:=PySem.W.mg_of X G a9
  b__law_prod:=F9.binds (ps:=["_law_one","_law_other"]) fun _ _ _ _ _ _=>by refine ln2 ?_;intros;rfl
  F__law_prod:=F9
  mg__law_by:=PySem.W.mg_of X G a10
  b__law_by:=F10.binds (ps:=["_law_factor","_law_row_here"]) fun _ _ _ _ _ _=>by refine ln2 ?_;intros;rfl
  F__law_by:=F10
  mg__law_mixed:=PySem.W.mg_of X G a11
  b__law_mixed:=F11.binds (ps:=["_law_bag_here","_law_move_here","_law_put","_law_look"]) fun _ _ _ _ _ _=>by refine ln4 ?_;intros;rfl
  F__law_mixed:=F11
  mg__law_parts:=PySem.W.mg_of X G a12
  b__law_parts:=F12.binds (ps:=["_law_bag_here","_law_n","_law_ins","_law_outs","_law_wide"]) fun _ _ _ _ _ _=>by refine ln5 ?_;intros;rfl
  F__law_parts:=F12
  mg__law_drawn:=PySem.W.mg_of X G a13
  b__law_drawn:=F13.binds (ps:=["_law_bag_here"]) fun _ _ _ _ _ _=>by refine ln1 ?_;intros;rfl
  F__law_drawn:=F13
  mg__law_is_number:=PySem.W.mg_of X G a14
  b__law_is_number:=F14.binds (ps:=["_law_thing"]) fun _ _ _ _ _ _=>by refine ln1 ?_;intros;rfl
  F__law_is_number:=F14
  mg__law_is_row:=PySem.W.mg_of X G a15
  b__law_is_row:=F15.binds (ps:=["_law_thing","_law_many"]) fun _ _ _ _ _ _=>by refine ln2 ?_;intros;rfl
  F__law_is_row:=F15
  mg__law_is_grid:=PySem.W.mg_of X G a16
  b__law_is_grid:=F16.binds (ps:=["_law_thing","_law_many","_law_wide"]) fun _ _ _ _ _ _=>by refine ln3 ?_;intros;rfl
  F__law_is_grid:=F16
  mg__law_fields:=PySem.W.mg_of X G a17
  b__law_fields:=F17.binds (ps:=["_law_system_here","_law_parts_here"]) fun _ _ _ _ _ _=>by refine ln2 ?_;intros;rfl
  F__law_fields:=F17
  mg_want_list:=PySem.W.mg_of X G a18
  b_want_list:=F18.binds (ps:=["thing","at","most"]) fun _ _ _ _ _ _=>by refine ln3 ?_;intros;rfl
  F_want_list:=F18
  mg_is_whole:=PySem.W.mg_of X G a19
  b_is_whole:=F19.binds (ps:=["thing"]) fun _ _ _ _ _ _=>by refine ln1 ?_;intros;rfl
  F_is_whole:=F19
  mg_common_divisor:=PySem.W.mg_of X G a20
  b_common_divisor:=F20.binds (ps:=["one","other"]) fun _ _ _ _ _ _=>by refine ln2 ?_;intros;rfl
  F_common_divisor:=F20
  mg_is_number:=PySem.W.mg_of X G a21
  b_is_number:=F21.binds (ps:=["thing"]) fun _ _ _ _ _ _=>by refine ln1 ?_;intros;rfl
  F_is_number:=F21
  mg_is_row:=PySem.W.mg_of X G a22
  b_is_row:=F22.binds (ps:=["thing","many"]) fun _ _ _ _ _ _=>by refine ln2 ?_;intros;rfl
  F_is_row:=F22
  mg_copied_rows:=PySem.W.mg_of X G a23
  b_copied_rows:=F23.binds (ps:=["things","wide"]) fun _ _ _ _ _ _=>by refine ln2 ?_;intros;rfl
  F_copied_rows:=F23
  b_System___init__:=F24.binds (ps:=["self","move","put","look"]) fun _ _ _ _ _ _=>by refine ln4 ?_;intros;rfl
  F_System___init__:=F24
  mg__law_copied:=PySem.W.mg_of X G a25
  b__law_copied:=F25.binds (ps:=["_law_grid"]) fun _ _ _ _ _ _=>by refine ln1 ?_;intros;rfl
  F__law_copied:=F25
  mg__law_system:=PySem.W.mg_of X G a26
  b__law_system:=F26.binds (ps:=["_law_parts_here"]) fun _ _ _ _ _ _=>by refine ln1 ?_;intros;rfl
  F__law_system:=F26
  mg_grid_turned:=PySem.W.mg_of X G a27
  b_grid_turned:=F27.binds (ps:=["grid","wide"]) fun _ _ _ _ _ _=>by refine ln2 ?_;intros;rfl
  F_grid_turned:=F27
  me_System_turned:=⟨a28,i28,k28⟩
  b_System_turned:=F28.binds (ps:=["self"]) fun _ _ _ _ _ _=>by refine ln1 ?_;intros;rfl
  F_System_turned:=F28
  mg__law_full:=PySem.W.mg_of X G a29
  b__law_full:=F29.binds (ps:=[]) fun _ _ _ _ _ _=>by refine ln0 ?_;intros;rfl
  F__law_full:=F29
  mg__law_bad_number:=PySem.W.mg_of X G a30
  b__law_bad_number:=F30.binds (ps:=["_law_bag_here"]) fun _ _ _ _ _ _=>by refine ln1 ?_;intros;rfl
  F__law_bad_number:=F30
  mg__law_bad_row:=PySem.W.mg_of X G a31
  b__law_bad_row:=F31.binds (ps:=["_law_bag_here","_law_n"]) fun _ _ _ _ _ _=>by refine ln2 ?_;intros;rfl
  F__law_bad_row:=F31
  mg__law_spoilt:=PySem.W.mg_of X G a32
  b__law_spoilt:=F32.binds (ps:=["_law_bag_here","_law_rows","_law_n","_law_place"]) fun _ _ _ _ _ _=>by refine ln4 ?_;intros;rfl
  F__law_spoilt:=F32
  b_Wrong___init__:=F33.binds (ps:=["self","at"]) fun _ _ _ _ _ _=>by refine ln2 ?_;intros;rfl
  F_Wrong___init__:=F33
  b_TooMany___init__:=F34.binds (ps:=["self","most"]) fun _ _ _ _ _ _=>by refine ln2 ?_;intros;rfl
  F_TooMany___init__:=F34
  b_NoThing___init__:=F35.binds (ps:=["self","at"]) fun _ _ _ _ _ _=>by refine ln2 ?_;intros;rfl
  F_NoThing___init__:=F35
  mg__law_refusal:=PySem.W.mg_of X G a36
  b__law_refusal:=F36.binds (ps:=["_law_move_here","_law_put","_law_look"]) fun _ _ _ _ _ _=>by refine ln3 ?_;intros;rfl
  F__law_refusal:=F36
  F_law:=F37
  abs:=PySem.W.mg_none_of X G z_abs
  len:=PySem.W.mg_none_of X G z_len
  min:=PySem.W.mg_none_of X G z_min
  range:=PySem.W.mg_none_of X G z_range
  int:=PySem.W.mg_none_of X G z_int
  isinstance:=PySem.W.mg_none_of X G z_isinstance
  tuple:=PySem.W.mg_none_of X G z_tuple
  bool:=PySem.W.mg_none_of X G z_bool
  list:=PySem.W.mg_none_of X G z_list
  all:=PySem.W.mg_none_of X G z_all
  any:=PySem.W.mg_none_of X G z_any
  enumerate:=PySem.W.mg_none_of X G z_enumerate
  ValueError:=PySem.W.mg_none_of X G z_ValueError
  repr:=PySem.W.mg_none_of X G z_repr
  mg_MOST_STATES:=PySem.W.mg_of X G ci0
  mg_MOST_PUTS:=PySem.W.mg_of X G ci1
  mg_MOST_LOOKS:=PySem.W.mg_of X G ci2
  mg_System:=PySem.W.mg_of X G aC
  cl_System:=⟨pg,hd,po,sa⟩
  na_move:=n_move
  na_states:=n_states
  na_put:=n_put
  na_ins:=n_ins
  na_look:=n_look
  na_outs:=n_outs
  mk_System:=⟨mk,a24,i24,kc⟩
  mg_SumError:=PySem.W.mg_of X G xa_SumError
  mg_Wrong:=PySem.W.mg_of X G xa_Wrong
  mg_NoThing:=PySem.W.mg_of X G xa_NoThing
  mg_TooMany:=PySem.W.mg_of X G xa_TooMany
  mg_NoNumber:=PySem.W.mg_of X G xa_NoNumber
  mg_NoFit:=PySem.W.mg_of X G xa_NoFit
  mg_NotSteered:=PySem.W.mg_of X G xa_NotSteered
  mg_NotSeen:=PySem.W.mg_of X G xa_NotSeen
  mg_NoText:=PySem.W.mg_of X G xa_NoText
  mg_NoName:=PySem.W.mg_of X G xa_NoName
  mg_Taken:=PySem.W.mg_of X G xa_Taken
  ex_SumError:=xe_SumError
  xm_Wrong_SumError:=xm_Wrong_SumError
  xm_NoThing_SumError:=xm_NoThing_SumError
  xm_TooMany_SumError:=xm_TooMany_SumError
  ki_Wrong_Wrong:=ki_Wrong_Wrong
  ki_Wrong_NoThing:=ki_Wrong_NoThing
  ki_Wrong_TooMany:=ki_Wrong_TooMany
  ki_Wrong_ValueError:=ki_Wrong_ValueError
  ki_NoThing_Wrong:=ki_NoThing_Wrong
  ki_NoThing_NoThing:=ki_NoThing_NoThing
  ki_NoThing_TooMany:=ki_NoThing_TooMany
  ki_NoThing_ValueError:=ki_NoThing_ValueError
  ki_TooMany_Wrong:=ki_TooMany_Wrong
  ki_TooMany_NoThing:=ki_TooMany_NoThing
  ki_TooMany_TooMany:=ki_TooMany_TooMany
  ki_TooMany_ValueError:=ki_TooMany_ValueError
  xi_Wrong:=⟨⟨_,_,_,_,_,_,_,lx_Wrong,rfl,rfl⟩,xe_SumError,sa_Wrong,⟨ga_Wrong,gt_Wrong,mb_Wrong,mo_Wrong,hd_Wrong,ca_Wrong,sg_,tk_⟩⟩
  in_Wrong:=a33
  fn_Wrong:=beq_iff_eq.mp i33
  kp_Wrong:=kp_Wrong
  nt_Wrong:=nt_Wrong
  xi_TooMany:=⟨⟨_,_,_,_,_,_,_,lx_TooMany,rfl,rfl⟩,xe_SumError,sa_TooMany,⟨ga_TooMany,gt_TooMany,mb_TooMany,mo_TooMany,hd_TooMany,ca_TooMany,sg_,tk_⟩⟩
  in_TooMany:=a34
  fn_TooMany:=beq_iff_eq.mp i34
  kp_TooMany:=kp_TooMany
  nt_TooMany:=nt_TooMany
  xi_NoThing:=⟨⟨_,_,_,_,_,_,_,lx_NoThing,rfl,rfl⟩,xe_SumError,sa_NoThing,⟨ga_NoThing,gt_NoThing,mb_NoThing,mo_NoThing,hd_NoThing,ca_NoThing,sg_,tk_⟩⟩
  in_NoThing:=a35
  fn_NoThing:=beq_iff_eq.mp i35
  kp_NoThing:=kp_NoThing
  nt_NoThing:=nt_NoThing
  ka_Wrong_0:=ka_Wrong_0
  ka_NoThing_0:=ka_NoThing_0
  ka_TooMany_0:=ka_TooMany_0
  xc_Wrong:=⟨ga_Wrong,gt_Wrong,mb_Wrong,mo_Wrong,hd_Wrong,ca_Wrong,sg_,tk_⟩
  xc_NoThing:=⟨ga_NoThing,gt_NoThing,mb_NoThing,mo_NoThing,hd_NoThing,ca_NoThing,sg_,tk_⟩
  xc_TooMany:=⟨ga_TooMany,gt_TooMany,mb_TooMany,mo_TooMany,hd_TooMany,ca_TooMany,sg_,tk_⟩ }
 exact ⟨_,fun s v=>.of_eq rfl,fun base _ _=>ok_law T⟩
theorem walk {l:PySem.W.OpenLaw} {q:Program} {loose:List Str} {XP:(Str->Option Value)->Heap->Prop} {YP:World->Heap->Prop} {d:DefRec} {K:Params->PySem.W.Frag} (hn:l.most=some 63) (hdf:d.params.defaults=[])
  (hi:PyProof.Rows.importsNone q=true)
  (hY:∀(w:World) (h:Heap),YP w h->(K w.params).In h)
  (F:∀(w:World) (mg:Str->Option Value) (fa:Addr) (h:Heap),(K w.params).In h->h.Ns mainGlobals mg->mg d.name=some (.ref fa) →
   ∃fd:FuncData,(∀(s:Shared) (u:Value),BindsTo s fd ⟨[u],[]⟩ [("_law_script",u)])∧∀base:Heap,(K w.params).In base->base.Ns mainGlobals mg->FnOk l.prog w (K w.params) mg base CX0 9 fa fd ["_law_script"] (sp_law (K w.params))) :
  PySem.W.WalkO q loose XP YP l.row.toRowW d [] (fun f vs=>PySem.call f vs) :=
 L2.walk_of (n:=63) (k:=9) (x:="_law_script") (CX:=fun _=>CX0) (sp:=fun w=>sp_law (K w.params)) hn (by decide) hdf ⟨rfl,by decide,by decide,rfl⟩ hi hY F (fun _ _ a ns hl _ hS=>⟨a,ns,rfl,hS,hl,fun _=>rfl⟩) fun _ _ _ _ _ z=>z
end Lw
namespace PySem.W.Fast
def tw8963305733740536538:=()
def tw4316742330685763718:=()
def tw16929346634729317104:=()
def tw17415187646356278143:=()
def tw7297687039086469743:=()
def tw16493799945464656836:=()
def tw4815022679219422785:=()
def tw13442671132687388969:=()
def tw17080475566800617703:=()
def tw7614495739612945082:=()
def tw11587135245872780261:=()
def tw4797323282707157889:=()
def tw4198239812858108547:=()
def tw4472582309083505822:=()
def tw1587062540373081952:=()
def tw12738608785011012962:=()
def tw12271651520083835889:=()
def tw11507406287913422333:=()
def tw7404337858834089611:=()
def tw13862973211509617457:=()
def tw2127062055624372578:=()
def tw8466971542467635459:=()
def tw7410681789969058680:=()
def tw16637462785519615908:=()
def tw13448566818032365566:=()
def tw13546723619388031575:=()
def tw17397155670490010842:=()
def tw5206433031777693990:=()
def tw672836681440338823:=()
def tw13530639787404329240:=()
def tw8096057007445761784:=()
def tw2739406047247504045:=()
def tw16863439158622740858:=()
def tw4391350351631409583:=()
def tw7085114260581508759:=()
def tw14135403748565340250:=()
def tw8082089904806349039:=()
def tw17478356707825595508:=()
def tw12662146377465754055:=()
def tw2123044026240924902:=()
def tw5576782771302877634:=()
def tw4929726582627998235:=()
def tw7714850360293346001:=()
def tw2275162655385538917:=()
def tw14930770276925456849:=()
def tw17419144588732674298:=()
def tw12917795853974237348:=()
def tw1214156309996935498:=()
def tw15584042979350845310:=()
def tw17615351178498667303:=()
def tw11903750775032866159:=()
def tw2679538163380919612:=()
def tw14382808666694760346:=()
def tw11679363582630139193:=()
def tw12683123883812232000:=()
def tw14301029217942601859:=()
def tw9323881828917816378:=()
def tw1805297582701631083:=()
def tw2381207152046985803:=()
def tw14797743318940149369:=()
def tw7671901153523576671:=()
def tw5732143397598185103:=()
def tw17863095660833450104:=()
def tw6549747494259049985:=()
def tw16214203282026028648:=()
def tw12675227918715900564:=()
def tw15475800792038561152:=()
def tw8626026686348185970:=()
def tw217647989879711665:=()
def tw11948895818109344709:=()
def tw9599996964486774879:=()
def tw18040205638861358382:=()
def tw11482449161917109444:=()
def tw12274905222962119904:=()
def tw12029289952193483609:=()
def tw10376447557479397490:=()
def tw9777347320002065366:=()
def tw6166708661051410438:=()
def tw7126041472747528380:=()
def tw13375052456239241322:=()
def tw12631639960926498912:=()
def tw8233393415633024879:=()
def tw3216178925130040142:=()
def tw5296679723852172655:=()
def tw4656870259411737735:=()
def tw15831580198005192286:=()
def tw3456713746601803261:=()
def tw4560576432246997350:=()
def tw15928617302232714377:=()
def tw6471639116287822097:=()
def tw4740085800293881881:=()
def tw3091378315101677450:=()
def tw16711913969289164842:=()
def tw15690169340816913171:=()
def tw17602317748403443517:=()
def tw2627543811080747982:=()
def tw954273645691907816:=()
def tw122895620381158101:=()
def tw10381313843353928422:=()
def tw12106761489563325696:=()
def tw1509310260174523392:=()
def tw5968162970883266590:=()
def tw9739297113041803759:=()
def tw9259168899963434313:=()
def tw8223824525332220536:=()
def tw13278653015036166738:=()
def tw1715889206658020090:=()
def tw5665167706993283827:=()
def tw12038049072853020429:=()
def tw9002633129163099052:=()
def tw16386434129472588554:=()
def tw17173013735664069710:=()
def tw4034884850630267684:=()
def tw4712467316308096530:=()
def tw11735412911154194803:=()
def tw9727436626851076219:=()
def tw2835932815953412895:=()
def tw9703933837904410569:=()
def tw10069109317722380908:=()
def tw17331347134402020:=()
def tw3912529057481319852:=()
def tw2272973878526455426:=()
def tw9912343694855395130:=()
def tw8096795540476277270:=()
def tw17125587333130450035:=()
def tw16263201525499644996:=()
def tw8612998688863013995:=()
def tw14123970154562280345:=()
def tw16355326326414230345:=()
def tw18106509650837161171:=()
def tw8888547609129695524:=()
def tw8856682442062594013:=()
def tw3065071309793379597:=()
def tw10382257449368799008:=()
def tw12567656226250164647:=()
def tw18202036688682783758:=()
def tw10474501993878387686:=()
def tw13786376725102672612:=()
def tw1377839200620688823:=()
def tw11286682360843593049:=()
def tw8844033812924011139:=()
def tw15227676769759312093:=()
def tw17882275967225650672:=()
def tw114733801268983709:=()
def tw15353457050192548852:=()
def tw4245688970081830534:=()
def tw12198726466378337085:=()
def tw3871187333730081381:=()
def tw9993940401277861444:=()
def tw5466957581239508328:=()
def tw16603742183691859068:=()
def tw6863572237093976422:=()
def tw12359596030613023340:=()
def tw10004220950697182219:=()
def tw17030223254389427066:=()
def tw7085385338111072115:=()
def tw9081788962148140404:=()
def tw16661820675202921416:=()
def tw8559654256633777029:=()
def tw9767798240186734927:=()
def tw4026747046278186854:=()
def tw12771299605352328030:=()
def tw7477535063064763885:=()
def tw13603185338657136143:=()
def tw9128425847039015900:=()
def tw14985955420860340078:=()
def tw15211399445343965072:=()
def tw1547201502494844301:=()
def tw14525489461184911968:=()
def tw14380812640159470988:=()
def tw4357247657690695830:=()
def tw10703342574157782644:=()
def tw2272802626826931540:=()
def tw1944104919843460611:=()
def tw5902587648076600252:=()
def tw16306187221855516765:=()
def tw1015807383830476365:=()
def tw12110139901444629357:=()
def tw15014640853664704964:=()
def tw2950105771950135325:=()
def tw15571890357600433910:=()
def tw11154241954252752804:=()
def tw9491245769070995818:=()
def tw14741907479479492478:=()
def tw3605432187534823960:=()
def tw18365989782248150256:=()
def tw11235893644076359:=()
def tw6355522511130075717:=()
def tw4418365684831737398:=()
def tw14297435641864870187:=()
def tw10259140890816772721:=()
def tw13860769155448224789:=()
def tw17015367395009362154:=()
def tw17736303384339845832:=()
def tw7755029755326850402:=()
def tw15686097629095756920:=()
def tw7387895353059302732:=()
def tw13608465652530055192:=()
def tw236577407283815407:=()
def tw14743226789570551883:=()
def tw8278717148001943655:=()
def tw9958493624622975703:=()
def tw8195631639647249530:=()
def tw9419893107535599177:=()
def tw1299804825627765481:=()
def tw9646007575147498354:=()
def tw8128636254682335239:=()
def tw15423742094563464216:=()
def tw3309849126026317723:=()
def tw533648076386127279:=()
def tw9634380391840603681:=()
def tw12110251338412043903:=()
def tw8814770426459804736:=()
def tw10623118470791575990:=()
def tw3602935683952389070:=()
def tw14816701074971052257:=()
def tw8117340753270780823:=()
def tw10423441753619301249:=()
def tw16159034304244376903:=()
def tw8279456637527754161:=()
def tw8510926247954214048:=()
def tw5192850654647249002:=()
def tw12700275322145115718:=()
def tw4775381078292085856:=()
def tw3661822953824393927:=()
def tw17276622598019158194:=()
def tw8781960512241412793:=()
def tw5899699561035044716:=()
def tw4372011997344842070:=()
def tw5788433383218525373:=()
def tw7002278185194909099:=()
def tw2889913495162827407:=()
def tw6993875987691384701:=()
def tw4487755809829987081:=()
def tw13370263206507853260:=()
def tw12946922970290379801:=()
def tw13589034949703365385:=()
def tw13379528019684745705:=()
def tw18086796709544122466:=()
def tw10045212668196157666:=()
def tw5383052097312293757:=()
def tw11380148302547663614:=()
def tw10179369459544322058:=()
def tw3879189510706847193:=()
def tw3876638992383043394:=()
def tw12130021747700814286:=()
def tw9263678498945332356:=()
def tw10087365356591929777:=()
def tw16453976193504264553:=()
def tw9777639475232394989:=()
def tw12416969178644654580:=()
def tw17968188185256583870:=()
def tw14368439169014195081:=()
def tw6429303765644469526:=()
def tw12590258757583068309:=()
def tw11616803636039174237:=()
def tw5325350436103640817:=()
def tw12658712748420037427:=()
def tw3114358736484282134:=()
def tw6706328060220584162:=()
def tw13148913397049107143:=()
def tw2229033037137762486:=()
def tw2059951450985330199:=()
def tw15207357990852180351:=()
def tw14351006237114002975:=()
def tw1064435249114080199:=()
def tw4239229268963236131:=()
def tw13299775072661383876:=()
def tw9332531203182888431:=()
def tw1576390687257119959:=()
def tw5646219156513566499:=()
def tw3010790592405391700:=()
def tw2311901240654535724:=()
def tw12159089580268396233:=()
def tw13956883762902876378:=()
def tw13175345764254408429:=()
def tw12394647724497540976:=()
def tw6522991583990619628:=()
def tw14926253044386908739:=()
def tw3786385669456785923:=()
def tw2977639974916430319:=()
def tw5887445408047001709:=()
def tw888619697255465098:=()
def tw3100785869962966575:=()
def tw10296393991040217670:=()
def tw2136199004382249390:=()
def tw6640188692789933191:=()
def tw12861276278577230345:=()
def tw12313103329111333975:=()
def tw12113474007810667108:=()
def tw11041849316883120476:=()
def tw3792503190319064170:=()
def tw2135719540472340360:=()
def tw15092723218139331841:=()
def tw15691391576137804057:=()
def tw13299511605117752615:=()
def tw7902162668483812085:=()
def tw3039585447819554679:=()
def tw3426958065114133156:=()
def tw13683050889720080134:=()
def tw11975333325639867727:=()
def tw2310629266214019526:=()
def tw15069063098813061288:=()
def tw69147646565951120:=()
def tw13871130603250545975:=()
def tw1410098882174665014:=()
def tw941624023314016447:=()
def tw12673139709214322559:=()
def tw17673752643215534991:=()
def tw14234400782937525054:=()
def tw8804993243892533594:=()
def tw16046688334284437526:=()
def tw7943720310125819164:=()
def tw7497898540246010262:=()
def tw14707760309008569824:=()
def tw7556541625517534326:=()
def tw12567738747659503822:=()
def tw17872932615303290718:=()
def tw11173252342150853763:=()
def tw10592727995770933696:=()
def tw6699800091660302991:=()
def tw5656825248073538538:=()
def tw2213219196688385838:=()
def tw7984393303641680107:=()
def tw12258508721045832935:=()
def tw4046222178138727270:=()
def tw6077149669669503562:=()
def tw16636525494381407673:=()
def tw18418609115868681284:=()
def tw1610803891018985064:=()
def tw1282416296363284612:=()
def tw317286862814398647:=()
def tw778912858523908418:=()
def tw15590776812369940138:=()
def tw15929089942049217730:=()
def tw11770084865720778715:=()
def tw807672218581595220:=()
def tw1643424696210545243:=()
def tw7724662170620773402:=()
def tw6722351148328059273:=()
def tw17791011932573536483:=()
def tw879172371708694734:=()
def tw3542610422897063650:=()
def tw1987162034263688910:=()
def tw3019925052476248724:=()
def tw3280092031627003466:=()
def tw12470283519113004520:=()
def tw5498941308576556414:=()
def tw18226795348448879302:=()
def tw13308631746600618191:=()
def tw137081575129723937:=()
def tw8475117841765443319:=()
def tw8635172637785446226:=()
def tw9461954348948988938:=()
def tw11706920959813595916:=()
def tw15646400923046582833:=()
def tw11804782817213669946:=()
def tw11714971872331571807:=()
def tw9264887622808011230:=()
def tw8099697679201080508:=()
def tw9451992434056381067:=()
def tw300699013229679177:=()
def tw232122143291541338:=()
def tw17001781819385476433:=()
def tw11110980364049504508:=()
def tw16912639188776077943:=()
def tw903513926502961078:=()
def tw4816686467756507567:=()
def tw2548235203960184708:=()
def tw11599826071730173667:=()
def tw9647328564175652936:=()
def tw12231067722394357577:=()
def tw2962194479489885902:=()
def tw12084067479185302153:=()
def tw2915029261974640635:=()
def tw12554113307438932162:=()
def tw11703290850784361979:=()
def tw12636979299411452707:=()
def tw3564089533335415351:=()
def tw6110267382892412255:=()
def tw17868921479250020898:=()
def tw15765945004822008604:=()
def tw16777643103488096605:=()
def tw10737402804810396886:=()
def tw3664607256742819046:=()
def tw8825174720230319258:=()
def tw2388972686783832580:=()
def tw8925368981237401731:=()
def tw16334762354752833384:=()
def tw10784581120010945993:=()
def tw13530912142033409806:=()
def tw2814747517745754906:=()
def tw942864627881257583:=()
def tw17301119092413184946:=()
def tw15836689590114413955:=()
def tw17097482129890318448:=()
def tw5113809284501254747:=()
def tw17412483010087572419:=()
def tw14183746396704129950:=()
def tw17292713824088012374:=()
def tw1664407098826899663:=()
def tw13272997714211967862:=()
def tw17265374255449882126:=()
def tw4995362621117273935:=()
def tw8557312204781461103:=()
def tw15005319307619210978:=()
def tw17062036161540967567:=()
def tw12699291417876473860:=()
def tw638353328591301726:=()
def tw15487096177936147520:=()
def tw9538173813584227905:=()
def tw1478917943318517347:=()
def tw2358617989423286946:=()
def tw13761719253920208853:=()
def tw11989933849131167400:=()
def tw3979220718448828010:=()
def tw6262443117995976433:=()
def tw9230605172468400121:=()
def tw138740392022642996:=()
def tw8642350523715531538:=()
def tw13110838412964955541:=()
def tw7828227171033228664:=()
def tw15346610757472251410:=()
def tw18397221759837029327:=()
def tw12750004960996794378:=()
def tw1852805823481826545:=()
theorem te8963305733740536538:True:=trivial
end PySem.W.Fast
open PySem PySem.W PyProof.Rows
set_option maxRecDepth 100000 in
set_option maxHeartbeats 0 in
theorem PySem.Challenge.cw_helmsum_k31_systems_refused_holds : PySem.Challenge.rw_helmsum_k31_systems_refused.Holds := by
 w_on;o_law;k_head;(case hw=>w_witness2)
 k_fill
 refine Lw.walk (l:=PySem.Challenge.rw_helmsum_k31_systems_refused) rfl rfl ?hi (fun w h Y=>PySem.W.kIn_of Y) ?F
 case hi=>decide +kernel
 case F =>
  intro w mg fa h KX G hmg
  refine' Lw.all_mk KX G hmg ?aC ?a0 ?l0 ?c0 ?k0 ?a1 ?l1 ?c1 ?k1 ?a2 ?l2 ?c2 ?k2 ?a3 ?l3 ?c3 ?k3 ?a4 ?l4 ?c4 ?k4 ?a5 ?l5 ?c5 ?k5 ?a6 ?l6 ?c6 ?k6 ?a7 ?l7 ?c7 ?k7 ?a8 ?l8 ?c8 ?k8 ?a9 ?l9 ?c9 ?k9 ?a10 ?l10 ?c10 ?k10 ?a11 ?l11 ?c11 ?k11 ?a12 ?l12 ?c12 ?k12 ?a13 ?l13 ?c13 ?k13 ?a14 ?l14 ?c14 ?k14 ?a15 ?l15 ?c15 ?k15 ?a16 ?l16 ?c16 ?k16 ?a17 ?l17 ?c17 ?k17 ?a18 ?l18 ?c18 ?k18 ?a19 ?l19 ?c19 ?k19 ?a20 ?l20 ?c20 ?k20 ?a21 ?l21 ?c21 ?k21 ?a22 ?l22 ?c22 ?k22 ?a23 ?l23 ?c23 ?k23 ?a24 ?i24 ?l24 ?c24 ?k24 ?a25 ?l25 ?c25 ?k25 ?a26 ?l26 ?c26 ?k26 ?a27 ?l27 ?c27 ?k27 ?a28 ?i28 ?l28 ?c28 ?k28 ?a29 ?l29 ?c29 ?k29 ?a30 ?l30 ?c30 ?k30 ?a31 ?l31 ?c31 ?k31 ?a32 ?l32 ?c32 ?k32 ?xa_Wrong ?a33 ?i33 ?l33 ?c33 ?k33 ?xa_TooMany ?a34 ?i34 ?l34 ?c34 ?k34 ?xa_NoThing ?a35 ?i35 ?l35 ?c35 ?k35 ?a36 ?l36 ?c36 ?k36 ?a37 ?l37 ?c37 ?k37 ?ci0 ?ci1 ?ci2 ?pg ?hd ?po ?sa ?mk ?kc ?n_move ?n_states ?n_put ?n_ins ?n_look ?n_outs ?xa_SumError ?xa_NoNumber ?xa_NoFit ?xa_NotSteered ?xa_NotSeen ?xa_NoText ?xa_NoName ?xa_Taken ?lx_Wrong ?sa_Wrong ?kp_Wrong ?nt_Wrong ?lx_TooMany ?sa_TooMany ?kp_TooMany ?nt_TooMany ?lx_NoThing ?sa_NoThing ?kp_NoThing ?nt_NoThing ?xe_SumError ?xm_Wrong_SumError ?xm_NoThing_SumError ?xm_TooMany_SumError ?ki_Wrong_Wrong ?ki_Wrong_NoThing ?ki_Wrong_TooMany ?ki_Wrong_ValueError ?ki_NoThing_Wrong ?ki_NoThing_NoThing ?ki_NoThing_TooMany ?ki_NoThing_ValueError ?ki_TooMany_Wrong ?ki_TooMany_NoThing ?ki_TooMany_TooMany ?ki_TooMany_ValueError ?ka_Wrong_0 ?ka_NoThing_0 ?ka_TooMany_0 ?ga_Wrong ?gt_Wrong ?mb_Wrong ?mo_Wrong ?hd_Wrong ?ca_Wrong ?ga_NoThing ?gt_NoThing ?mb_NoThing ?mo_NoThing ?hd_NoThing ?ca_NoThing ?ga_TooMany ?gt_TooMany ?mb_TooMany ?mo_TooMany ?hd_TooMany ?ca_TooMany ?sg_ ?tk_ ?z_abs ?z_len ?z_min ?z_range ?z_int ?z_isinstance ?z_tuple ?z_bool ?z_list ?z_all ?z_any ?z_enumerate ?z_ValueError ?z_repr
  (case aC=>k_is)
  (case a0=>k_is)
  (case l0=>k_is)
  (case c0=>k_is)
  (case k0=>k_is)
  (case a1=>k_is)
  (case l1=>k_is)
  (case c1=>k_is)
  (case k1=>k_is)
  (case a2=>k_is)
  (case l2=>k_is)
  (case c2=>k_is)
  (case k2=>k_is)
  (case a3=>k_is)
  (case l3=>k_is)
  (case c3=>k_is)
  (case k3=>k_is)
  (case a4=>k_is)
  (case l4=>k_is)
  (case c4=>k_is)
  (case k4=>k_is)
  (case a5=>k_is)
  (case l5=>k_is)
  (case c5=>k_is)
  (case k5=>k_is)
  (case a6=>k_is)
  (case l6=>k_is)
  (case c6=>k_is)
  (case k6=>k_is)
  (case a7=>k_is)
  (case l7=>k_is)
  (case c7=>k_is)
  (case k7=>k_is)
  (case a8=>k_is)
  (case l8=>k_is)
  (case c8=>k_is)
  (case k8=>k_is)
  (case a9=>k_is)
  (case l9=>k_is)
  (case c9=>k_is)
  (case k9=>k_is)
  (case a10=>k_is)
  (case l10=>k_is)
  (case c10=>k_is)
  (case k10=>k_is)
  (case a11=>k_is)
  (case l11=>k_is)
  (case c11=>k_is)
  (case k11=>k_is)
  (case a12=>k_is)
  (case l12=>k_is)
  (case c12=>k_is)
  (case k12=>k_is)
  (case a13=>k_is)
  (case l13=>k_is)
  (case c13=>k_is)
  (case k13=>k_is)
  (case a14=>k_is)
  (case l14=>k_is)
  (case c14=>k_is)
  (case k14=>k_is)
  (case a15=>k_is)
  (case l15=>k_is)
  (case c15=>k_is)
  (case k15=>k_is)
  (case a16=>k_is)
  (case l16=>k_is)
  (case c16=>k_is)
  (case k16=>k_is)
  (case a17=>k_is)
  (case l17=>k_is)
  (case c17=>k_is)
  (case k17=>k_is)
  (case a18=>k_is)
  (case l18=>k_is)
  (case c18=>k_is)
  (case k18=>k_is)
  (case a19=>k_is)
  (case l19=>k_is)
  (case c19=>k_is)
  (case k19=>k_is)
  (case a20=>k_is)
  (case l20=>k_is)
  (case c20=>k_is)
  (case k20=>k_is)
  (case a21=>k_is)
  (case l21=>k_is)
  (case c21=>k_is)
  (case k21=>k_is)
  (case a22=>k_is)
  (case l22=>k_is)
  (case c22=>k_is)
  (case k22=>k_is)
  (case a23=>k_is)
  (case l23=>k_is)
  (case c23=>k_is)
  (case k23=>k_is)
  (case a24=>k_is)
  (case i24=>k_is)
  (case l24=>k_is)
  (case c24=>k_is)
  (case k24=>k_is)
  (case a25=>k_is)
  (case l25=>k_is)
  (case c25=>k_is)
  (case k25=>k_is)
  (case a26=>k_is)
  (case l26=>k_is)
  (case c26=>k_is)
  (case k26=>k_is)
  (case a27=>k_is)
  (case l27=>k_is)
  (case c27=>k_is)
  (case k27=>k_is)
  (case a28=>k_is)
  (case i28=>k_is)
  (case l28=>k_is)
  (case c28=>k_is)
  (case k28=>k_is)
  (case a29=>k_is)
  (case l29=>k_is)
  (case c29=>k_is)
  (case k29=>k_is)
  (case a30=>k_is)
  (case l30=>k_is)
  (case c30=>k_is)
  (case k30=>k_is)
  (case a31=>k_is)
  (case l31=>k_is)
  (case c31=>k_is)
  (case k31=>k_is)
  (case a32=>k_is)
  (case l32=>k_is)
  (case c32=>k_is)
  (case k32=>k_is)
  (case xa_Wrong=>k_is)
  (case a33=>k_is)
  (case i33=>k_is)
  (case l33=>k_is)
  (case c33=>k_is)
  (case k33=>k_is)
  (case xa_TooMany=>k_is)
  (case a34=>k_is)
  (case i34=>k_is)
  (case l34=>k_is)
  (case c34=>k_is)
  (case k34=>k_is)
  (case xa_NoThing=>k_is)
  (case a35=>k_is)
  (case i35=>k_is)
  (case l35=>k_is)
  (case c35=>k_is)
  (case k35=>k_is)
  (case a36=>k_is)
  (case l36=>k_is)
  (case c36=>k_is)
  (case k36=>k_is)
  (case a37=>k_is)
  (case l37=>k_is)
  (case c37=>k_is)
  (case k37=>k_is)
  (case ci0=>k_is)
  (case ci1=>k_is)
  (case ci2=>k_is)
  (case pg=>k_is)
  (case hd=>k_is)
  (case po=>k_is)
  (case sa=>k_is)
  (case mk=>k_is)
  (case kc=>k_is)
  (case n_move=>k_is)
  (case n_states=>k_is)
  (case n_put=>k_is)
  (case n_ins=>k_is)
  (case n_look=>k_is)
  (case n_outs=>k_is)
  (case xa_SumError=>k_is)
  (case xa_NoNumber=>k_is)
  (case xa_NoFit=>k_is)
  (case xa_NotSteered=>k_is)
  (case xa_NotSeen=>k_is)
  (case xa_NoText=>k_is)
  (case xa_NoName=>k_is)
  (case xa_Taken=>k_is)
  (case lx_Wrong=>k_is)
  (case sa_Wrong=>k_is)
  (case kp_Wrong=>k_is)
  (case nt_Wrong=>k_is)
  (case lx_TooMany=>k_is)
  (case sa_TooMany=>k_is)
  (case kp_TooMany=>k_is)
  (case nt_TooMany=>k_is)
  (case lx_NoThing=>k_is)
  (case sa_NoThing=>k_is)
  (case kp_NoThing=>k_is)
  (case nt_NoThing=>k_is)
  (case xe_SumError=>k_exc)
  (case xm_Wrong_SumError=>kts_exm)
  (case xm_NoThing_SumError=>kts_exm)
  (case xm_TooMany_SumError=>kts_exm)
  (case ki_Wrong_Wrong=>kit_is)
  (case ki_Wrong_NoThing=>kit_is)
  (case ki_Wrong_TooMany=>kit_is)
  (case ki_Wrong_ValueError=>kit_is)
  (case ki_NoThing_Wrong=>kit_is)
  (case ki_NoThing_NoThing=>kit_is)
  (case ki_NoThing_TooMany=>kit_is)
  (case ki_NoThing_ValueError=>kit_is)
  (case ki_TooMany_Wrong=>kit_is)
  (case ki_TooMany_NoThing=>kit_is)
  (case ki_TooMany_TooMany=>kit_is)
  (case ki_TooMany_ValueError=>kit_is)
  (case ka_Wrong_0=>kit_is)
  (case ka_NoThing_0=>kit_is)
  (case ka_TooMany_0=>kit_is)
  (case ga_Wrong=>k_is)
  (case gt_Wrong=>k_is)
  (case mb_Wrong=>k_is)
  (case mo_Wrong=>k_is)
  (case hd_Wrong=>k_is)
  (case ca_Wrong=>k_is)
  (case ga_NoThing=>k_is)
  (case gt_NoThing=>k_is)
  (case mb_NoThing=>k_is)
  (case mo_NoThing=>k_is)
  (case hd_NoThing=>k_is)
  (case ca_NoThing=>k_is)
  (case ga_TooMany=>k_is)
  (case gt_TooMany=>k_is)
  (case mb_TooMany=>k_is)
  (case mo_TooMany=>k_is)
  (case hd_TooMany=>k_is)
  (case ca_TooMany=>k_is)
  (case sg_=>k_is)
  (case tk_=>k_is)
  (case z_abs=>k_is)
  (case z_len=>k_is)
  (case z_min=>k_is)
  (case z_range=>k_is)
  (case z_int=>k_is)
  (case z_isinstance=>k_is)
  (case z_tuple=>k_is)
  (case z_bool=>k_is)
  (case z_list=>k_is)
  (case z_all=>k_is)
  (case z_any=>k_is)
  (case z_enumerate=>k_is)
  (case z_ValueError=>k_is)
  (case z_repr=>k_is)