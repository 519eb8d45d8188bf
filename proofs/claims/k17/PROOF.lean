import PyProof.Rows.All
import Wide.All
import OpenK.AllK
import Wide.FinOn
import Lean
import PyProof.EqAt
import PyProof.EqKinds
import PyProof.TupleCall
import PyProof.NeKinds
import PySem.Challenge.RW_helmsum_k17_refusals_apart
set_option Elab.async false
set_option linter.all false
set_option maxRecDepth 100000
namespace L2
open PySem PySem.Spec PyProof.Rows
abbrev Key:=Sum Int Str
def keyIs:Key->Value->Bool
 | .inl k,v=>Value.isInt k v
 | .inr x,v=>Value.isStrOf x v
def keyH (w:World):Key->Int
 | .inl k=>hashInt k
 | .inr x=>hashStr w x
theorem keyIs_shape:∀{k:Key} {v:Value},keyIs k v=true->(∃i t,k=Sum.inl i∧v=Value.int i t)∨(∃x t,k=Sum.inr x∧v=Value.str x t)
 | .inl i,v,h=>by
  obtain ⟨t,e⟩:=Value.isInt_shape (k:=i) (v:=v) h
  exact .inl ⟨i,t,rfl,e⟩
 | .inr x,v,h=>by
  obtain ⟨t,e⟩:=Value.isStrOf_shape (x:=x) (v:=v) h
  exact .inr ⟨x,t,rfl,e⟩
theorem key_ll (a b:Int):decide ((Sum.inl a:Key)=Sum.inl b)=(a == b):=by
 by_cases e:a=b
 ·subst e;simp
 ·have h:¬(Sum.inl a:Key)=Sum.inl b:=fun q=>e (Sum.inl.inj q)
  rw[decide_eq_false h]
  exact (beq_eq_false_iff_ne.mpr e).symm
theorem key_rr (a b:Str):decide ((Sum.inr a:Key)=Sum.inr b)=decide (a=b):=by
 by_cases e:a=b
 ·subst e;simp
 ·have h:¬(Sum.inr a:Key)=Sum.inr b:=fun q=>e (Sum.inr.inj q)
  rw[decide_eq_false h,decide_eq_false e]
theorem key_lr (a:Int) (b:Str):decide ((Sum.inl a:Key)=Sum.inr b)=false:=decide_eq_false (fun q=>nomatch q)
theorem key_rl (a:Str) (b:Int):decide ((Sum.inr a:Key)=Sum.inl b)=false:=decide_eq_false (fun q=>nomatch q)
def mixKind (prog:Program) (w:World):PySem.KeyKind prog w Key where
 is:=keyIs
 hash:=keyH w
 inj:=fun v a b ha hb=>by
  rcases keyIs_shape ha with ⟨i,t,rfl,rfl⟩ | ⟨x,t,rfl,rfl⟩
  ·rcases keyIs_shape hb with ⟨j,u,rfl,e⟩ | ⟨y,u,rfl,e⟩
   ·injection e with e1 _;rw[e1]
   ·exact nomatch e
  ·rcases keyIs_shape hb with ⟨j,u,rfl,e⟩ | ⟨y,u,rfl,e⟩
   ·exact nomatch e
   ·injection e with e1 _;rw[e1]
 byValue:=fun k v h=>by
  rcases keyIs_shape h with ⟨i,t,rfl,rfl⟩ | ⟨x,t,rfl,rfl⟩ <;> rfl
 pyHash:=fun hv h=>by
  rcases keyIs_shape hv with ⟨i,t,rfl,rfl⟩ | ⟨x,t,rfl,rfl⟩
  ·exact wpAny_pyHash_int h
  ·exact wpAny_pyHash_str h
 eqBool:=fun hu hv h=>by
  rcases keyIs_shape hu with ⟨i,t,rfl,rfl⟩ | ⟨x,t,rfl,rfl⟩
  ·rcases keyIs_shape hv with ⟨j,u,rfl,rfl⟩ | ⟨y,u,rfl,rfl⟩
   ·rw[key_ll] at h;exact wpAny_eqBool_int h
   ·rw[key_lr] at h;exact SeqAt.EqAt.int_str i t y u _ _ _ _ h
  ·rcases keyIs_shape hv with ⟨j,u,rfl,rfl⟩ | ⟨y,u,rfl,rfl⟩
   ·rw[key_rl] at h;exact SeqAt.EqAt.str_int x t j u _ _ _ _ h
   ·rw[key_rr] at h;exact wpAny_eqBool_str h
 «strs»:=fun k x t v h=>by
  rcases keyIs_shape h with ⟨i,u,rfl,e⟩ | ⟨y,u,rfl,e⟩
  ·exact nomatch e
  ·injection e with e1 _
   subst e1
   cases v <;> rfl
end L2
namespace L2
open PySem PySem.Spec PyProof.Rows
inductive V where
  | non | bl (b : Bool) | int (i : Int) | str (x : Str) | byt (b : Array UInt8) | flt (b : UInt64) | ref (a : Addr) | ty (n : String)
  deriving DecidableEq

def RelV:V->Value->Prop
 | .non,u=>u=Value.none
 | .bl b,u=>u=Value.bool b
 | .int i,u=>∃t,u=Value.int i t
 | .str x,u=>∃t,u=Value.str x t
 | .byt b,u=>∃t,u=Value.bytes b t
 | .flt b,u=>∃t,u=Value.float b t
 | .ref a,u=>u=Value.ref a
 | .ty n,u=>u=Value.type n
abbrev Vals:List V->List Value->Prop:=Paired RelV
theorem Vals.length {xs:List V} {us:List Value} (r:Vals xs us):xs.length=us.length:=Paired.length r
theorem Vals.get:∀{xs:List V} {us:List Value} {i:Nat} {x:V},Vals xs us->xs[i]?=some x->∃u,us[i]?=some u∧RelV x u
 | _,_,_,_,.nil,e=>by simp at e
 | _,_,0,_,.cons r _,e=>by simp at e;subst e;exact ⟨_,rfl,r⟩
 | _,_,i+1,x,.cons _ t,e=>by
  obtain ⟨u,h1,h2⟩:=Vals.get (i:=i) (x:=x) t (by simpa using e)
  exact ⟨u,by simpa using h1,h2⟩
theorem Vals.set {x:V} {u:Value} (r:RelV x u):∀{xs:List V} {us:List Value} (i:Nat),Vals xs us->Vals (xs.set i x) (us.set i u)
 | _,_,_,.nil=>.nil
 | _,_,0,.cons _ t=>.cons r t
 | _,_,i+1,.cons q t=>.cons q (Vals.set r i t)
theorem Vals.append:∀{xs ys:List V} {us ws:List Value},Vals xs us->Vals ys ws->Vals (xs++ys) (us++ws)
 | _,_,_,_,.nil,s=>s
 | _,_,_,_,.cons r t,s=>.cons r (Vals.append t s)
theorem Vals.take:∀{xs:List V} {us:List Value} (n:Nat),Vals xs us->Vals (xs.take n) (us.take n)
 | _,_,0,_=>.nil
 | _,_,_+1,.nil=>.nil
 | _,_,n+1,.cons r t=>.cons r (Vals.take n t)
theorem Vals.drop:∀{xs:List V} {us:List Value} (n:Nat),Vals xs us->Vals (xs.drop n) (us.drop n)
 | _,_,0,r=>r
 | _,_,_+1,.nil=>.nil
 | _,_,n+1,.cons _ t=>Vals.drop n t
def RelO:Option V->Option Value->Prop
 | some v,some u=>RelV v u
 | none,none=>True
 | _,_=>False
def KV {κ:Type}:List (κ×V)->List (κ×Value)->Prop:=Paired fun (p:κ×V) (q:κ×Value)=>p.1=q.1∧RelV p.2 q.2
def kV:Key->V
 | .inl i=>.int i
 | .inr x=>.str x
inductive HO where
 | lst (xs:List V)
 | tup (xs:List V)
 | dK (kvs:List (Key×V)) | dT (kvs:List (List Key×V))
 | set (S:Int->Bool) (n:Nat)
 | ins (C dx:Addr) (fs:List (Str×V))
 | own (x:Addr)
 | xd (fs:List (Str×V))
 | met (f x:Addr)
 | rng (lo hi:Int)
 | frz (o:Obj) (u:HO)
 | tbl (ps:Array Value)
 | ext (φ:Heap->Prop)
abbrev Hp:=Addr->Option HO
def upd (H:Hp) (a:Addr) (o:HO):Hp:=fun b=>if b=a then some o else H b
theorem upd_same {H:Hp} {a:Addr} {o:HO}:upd H a o a=some o:=by unfold upd;rw[if_pos rfl]
theorem upd_ne {H:Hp} {a b:Addr} {o:HO} (h:b≠a):upd H a o b=H b:=by unfold upd;rw[if_neg h]
theorem ne_of_none {H:Hp} {a b:Addr} {o:HO} (h:H a=some o) (h':H b=none):a≠b:=by
 intro e;subst e;rw[h] at h';cases h'
section
variable (P:Program) (w:World)
def ObjOk (H:Hp) (h:Heap) (a:Addr):HO->Prop
 | .lst xs=>xs.length<=sizeLine∧∃(its:List Value) (n:Nat),Vals xs its∧h.get? a=some { cls:=.type "list",data:=.seq its.toArray n }
 | .tup xs=>xs.length<=sizeLine∧∃its:List Value,Vals xs its∧IsTup h a its.toArray
 | .dK kvs=>kvs.length<=sizeLine∧(a == sysModules)=false∧∃vs,KV kvs vs∧h.DictOf (mixKind P w) a vs
 | .dT kvs=>kvs.length<=sizeLine∧(a == sysModules)=false∧∃xs:List (List Key×Addr×Value),
   Paired (fun (p:List Key×V) (q:List Key×Addr×Value)=>p.1=q.1∧H q.2.1=some (.tup (p.1.map kV))∧RelV p.2 q.2.2) kvs xs ∧
   ∃o es ep,h.get? a=some o∧o.ExactDict∧o.data=.dict es ep∧es.toList=xs.map (entryOfKey (tupleKind (mixKind P w)))∧(xs.map (·.1)).Nodup
 | .set S n=>h.SetOf (intKind P w) a S n
 | .ins C dx fs=>H dx=some (.own a)∧fs.length<=1000∧dx≠a∧h.get? a=some (PySem.W.instObj C dx) ∧
   ∃mA,h.Ns1 dx mA∧(∀f,RelO (fs.lookup f) (mA f))∧PySem.Within mA (fs.map (·.1))
 | .own _=>∃o,h.get? a=some o
 | .xd fs=>∃mA,h.Ns1 a mA∧∀f,RelO (fs.lookup f) (mA f)
 | .rng lo hi=>∃t u v,h.get? a=some { cls:=.type "range",data:=.fields #[.int lo t,.int hi u,.int 1 v] }
 | .frz o u=>h.get? a=some o∧ObjOk H h a u
 | .tbl ps=>h.get? a=some { cls:=.none,data:=.fields ps }
 | .met f x=>h.get? a=some (PySem.W.methodObj (.ref f) (.ref x))
 | .ext φ=>φ h∧(∃o,h.get? a=some o)∧∀h1 h2:Heap,φ h1->(∀o,h1.get? a=some o->h2.get? a=some o)->φ h2
def HOk (H:Hp) (h:Heap):Prop:=∀a o,H a=some o->ObjOk P w H h a o
end
section
variable {P:Program} {w:World} {H H':Hp} {h h':Heap} {a:Addr} {o:HO}
theorem ObjOk.lt (x:ObjOk P w H h a o):a < h.objs.size:=by
 cases o with
 | lst xs=>obtain ⟨_,_,_,_,e⟩:=x;exact Heap.lt_size e
 | tup xs=>obtain ⟨_,_,_,p⟩:=x;exact p.lt
 | dK kvs=>obtain ⟨_,_,_,_,o,_,_,e,_⟩:=x;exact Heap.lt_size e
 | dT kvs=>obtain ⟨_,_,_,_,o,_,_,e,_⟩:=x;exact Heap.lt_size e
 | set S n=>obtain ⟨o,_,_,_,e,_⟩:=x;exact Heap.lt_size e
 | ins C dx fs=>obtain ⟨_,_,_,e,_⟩:=x;exact Heap.lt_size e
 | own y=>obtain ⟨_,e⟩:=x;exact Heap.lt_size e
 | xd fs=>obtain ⟨_,⟨_,_,_,e,_⟩,_⟩:=x;exact Heap.lt_size e
 | rng lo hi=>obtain ⟨_,_,_,e⟩:=x;exact Heap.lt_size e
 | frz ob u=>obtain ⟨e,_⟩:=x;exact Heap.lt_size e
 | tbl ps=>exact Heap.lt_size (show h.get? a=some _ from x)
 | met f y=>exact Heap.lt_size (show h.get? a=some _ from x)
 | ext φ=>obtain ⟨_,⟨_,e⟩,_⟩:=x;exact Heap.lt_size e
theorem Paired.mapP {α β:Type} {F G:α->β->Prop}:∀{l₁:List α} {l₂:List β},Paired F l₁ l₂->(∀a b,F a b->G a b)->Paired G l₁ l₂
 | _,_,.nil,_=>.nil
 | _,_,.cons r t,f=>.cons (f _ _ r) (Paired.mapP t f)
theorem Paired.imp' {α β:Type} {F G:α->β->Prop} (f:∀a b,F a b->G a b) {l₁:List α} {l₂:List β} (r:Paired F l₁ l₂):Paired G l₁ l₂:=Paired.mapP r f
theorem ObjOk.stay (x:ObjOk P w H h a o) (k:∀b u,(b=a∨H b=some (.own a))->h.get? b=some u->h'.get? b=some u)
  (ho:∀b,H b=some (.own a)->H' b=some (.own a)) (ht:∀b xs,H b=some (.tup xs)->H' b=some (.tup xs)):ObjOk P w H' h' a o:=by
 induction o with
 | lst xs=>obtain ⟨z,its,n,r,e⟩:=x;exact ⟨z,its,n,r,k _ _ (.inl rfl) e⟩
 | tup xs=>obtain ⟨z,its,r,ob,e,c⟩:=x;exact ⟨z,its,r,ob,k _ _ (.inl rfl) e,c⟩
 | dK kvs=>obtain ⟨z,y,vs,r,ob,es,ep,e,c⟩:=x;exact ⟨z,y,vs,r,ob,es,ep,k _ _ (.inl rfl) e,c⟩
 | dT kvs =>
  obtain ⟨z,y,xs,r,ob,es,ep,e,c⟩:=x
  exact ⟨z,y,xs,Paired.mapP r fun p q z=>⟨z.1,ht _ _ z.2.1,z.2.2⟩,ob,es,ep,k _ _ (.inl rfl) e,c⟩
 | set S n=>obtain ⟨ob,es,ep,t,e,c⟩:=x;exact ⟨ob,es,ep,t,k _ _ (.inl rfl) e,c⟩
 | ins C dx fs =>
  obtain ⟨d,z,ne,e,mA,⟨od,es,ep,e2,c⟩,r⟩:=x
  exact ⟨ho _ d,z,ne,k _ _ (.inl rfl) e,mA,⟨od,es,ep,k _ _ (.inr d) e2,c⟩,r⟩
 | own y=>obtain ⟨ob,e⟩:=x;exact ⟨ob,k _ _ (.inl rfl) e⟩
 | xd fs=>obtain ⟨mA,⟨od,es,ep,e,c⟩,r⟩:=x;exact ⟨mA,⟨od,es,ep,k _ _ (.inl rfl) e,c⟩,r⟩
 | rng lo hi=>obtain ⟨t,u,v,e⟩:=x;exact ⟨t,u,v,k _ _ (.inl rfl) e⟩
 | frz ob u ih=>obtain ⟨e,q⟩:=x;exact ⟨k _ _ (.inl rfl) e,ih q⟩
 | tbl ps =>
  have e:h.get? a=some { cls:=.none,data:=.fields ps }:=x
  show h'.get? a=some { cls:=.none,data:=.fields ps }
  exact k a _ (.inl rfl) e
 | met f y =>
  have e:h.get? a=some (PySem.W.methodObj (.ref f) (.ref y)):=x
  show h'.get? a=some (PySem.W.methodObj (.ref f) (.ref y))
  exact k a _ (.inl rfl) e
 | ext φ=>obtain ⟨p,⟨o,e⟩,st⟩:=x;exact ⟨st _ _ p fun o q=>k _ _ (.inl rfl) q,⟨o,k _ _ (.inl rfl) e⟩,st⟩
theorem HOk.lt (x:HOk P w H h) (e:H a=some o):a < h.objs.size:=(x a o e).lt
theorem HOk.fresh (x:HOk P w H h) (e:h.objs.size<=a):H a=none:=by
 cases q:H a with
 | none=>rfl
 | some u=>exact absurd (Nat.lt_of_lt_of_le (x.lt q) e) (Nat.lt_irrefl _)
theorem HOk.kept (x:HOk P w H h) (k:∀b u,h.get? b=some u->h'.get? b=some u):HOk P w H h':=fun a o e =>
 (x a o e).stay (fun b u _ q=>k b u q) (fun _ q=>q) fun _ _ q=>q
theorem HOk.laid (x:HOk P w H h) (k:∀b u,h.get? b=some u->h'.get? b=some u) (hp:h.objs.size<=a) (new:ObjOk P w (upd H a o) h' a o):HOk P w (upd H a o) h':=fun b u e=>by
 have hn:=x.fresh hp
 by_cases hb:b=a
 ·subst hb;rw[upd_same] at e;cases e;exact new
 ·rw[upd_ne hb] at e
  exact (x b u e).stay (fun c v _ q=>k c v q) (fun c q=>by rw[upd_ne (ne_of_none q hn)];exact q) fun c xs q=>by rw[upd_ne (ne_of_none q hn)];exact q
end
def Rd (H:Hp) (a:Addr) (u:HO):Prop:=H a=some u∨∃o,H a=some (.frz o u)
theorem Rd.of {H:Hp} {a:Addr} {u:HO} (h:H a=some u):Rd H a u:=.inl h
theorem Rd.ok {P:Program} {w:World} {H:Hp} {h:Heap} {a:Addr} {u:HO} (r:Rd H a u) (x:HOk P w H h):ObjOk P w H h a u:=by
 rcases r with r | ⟨o,r⟩
 ·exact x a u r
 ·obtain ⟨_,q⟩:=x a _ r
  exact q
def Mut:Option HO->Prop
 | some (.lst _)=>True
 | some (.dK _)=>True
 | some (.dT _)=>True
 | some (.set _ _)=>True
 | some (.ins _ _ _)=>True
 | some (.ext _)=>True
 | _=>False
section
variable {P:Program} {w:World} {H:Hp} {h h':Heap} {x e:Addr} {o':HO}
theorem HOk.write (ok:HOk P w H h) (mu:Mut (H x)) (he:e=x∨H e=some (.own x)) (k:∀b u,b≠e->h.get? b=some u->h'.get? b=some u) (heo:∃u,h'.get? e=some u)
  (new:ObjOk P w (upd H x o') h' x o'):HOk P w (upd H x o') h':=fun b u q=>by
 have nown:∀c y,H c=some (.own y)->c≠x:=fun c y r z=>by subst z;rw[r] at mu;exact mu
 have ntup:∀c xs,H c=some (.tup xs)->c≠x:=fun c xs r z=>by subst z;rw[r] at mu;exact mu
 by_cases hb:b=x
 ·subst hb;rw[upd_same] at q;cases q;exact new
 ·rw[upd_ne hb] at q
  by_cases hbe:b=e
  ·have q':H b=some (.own x):=by
    rcases he with z | z
    ·exact absurd (hbe.trans z) hb
    ·rw[hbe];exact z
   rw[q] at q';cases q'
   obtain ⟨v,hv⟩:=heo
   exact ⟨v,by rw[hbe];exact hv⟩
  ·refine (ok b u q).stay (fun c v hc r=>k c v ?_ r) (fun c r=>by rw[upd_ne (nown c b r)];exact r) fun c xs r=>by rw[upd_ne (ntup c xs r)];exact r
   rcases hc with rfl | hc
   ·exact hbe
   ·rintro rfl
    rcases he with z | z
    ·exact nown c b hc z
    ·rw[hc] at z;cases z;exact hb rfl
end
structure Un (fs ex:List Addr) (H H':Hp) (h h':Heap):Prop where
 keep:∀b o,h.get? b=some o->H b=none->b∉fs->b∉ex->h'.get? b=some o
 slot:∀b o,h.get? b=some o->H b=none->b∈fs->b∉ex->∃sl,h'.get? b=some { o with slots:=sl }
 free:∀b o,h.get? b=some o->H b=none->b∉ex->H' b=none
 there:∀b o,h.get? b=some o->b∉ex->∃o',h'.get? b=some o'
 tups:∀b xs,H b=some (.tup xs)->H' b=some (.tup xs)
 frzs:∀b o u,H b=some (.frz o u)->H' b=some (.frz o u)
 tbls:∀b ps,H b=some (.tbl ps)->∃more,H' b=some (.tbl (ps++more))
section
variable {fs fs' ex ex':List Addr} {H H1 H2:Hp} {h h1 h2 h':Heap} {a x e:Addr} {o:HO}
theorem Un.any (u:Un fs ex H H1 h h1) {b:Addr} {ob:Obj} (q:h.get? b=some ob) (n:H b=none) (hx:b∉ex):∃sl,h1.get? b=some { ob with slots:=sl }:=by
 by_cases hb:b∈fs
 ·exact u.slot b ob q n hb hx
 ·exact ⟨ob.slots,u.keep b ob q n hb hx⟩
theorem Un.trans (a:Un fs ex H H1 h h1) (b:Un fs ex H1 H2 h1 h2):Un fs ex H H2 h h2 where
 keep:=fun c ob q n hc hx=>b.keep c ob (a.keep c ob q n hc hx) (a.free c ob q n hx) hc hx
 slot:=fun c ob q n hc hx=>by
  obtain ⟨sl,e1⟩:=a.slot c ob q n hc hx
  obtain ⟨sl',e2⟩:=b.slot c _ e1 (a.free c ob q n hx) hc hx
  exact ⟨sl',e2⟩
 free:=fun c ob q n hx=>by
  obtain ⟨o',e1⟩:=a.there c ob q hx
  exact b.free c o' e1 (a.free c ob q n hx) hx
 there:=fun c ob q hx=>by
  obtain ⟨o',e1⟩:=a.there c ob q hx
  exact b.there c o' e1 hx
 tups:=fun c xs q=>b.tups c xs (a.tups c xs q)
 frzs:=fun c ob xs q=>b.frzs c ob xs (a.frzs c ob xs q)
 tbls:=fun c ps q=>by
  obtain ⟨m1,e1⟩:=a.tbls c ps q
  obtain ⟨m2,e2⟩:=b.tbls c _ e1
  exact ⟨m1++m2,by rw[e2,Array.append_assoc]⟩
theorem Un.kept (k:∀b u,h.get? b=some u->h'.get? b=some u):Un fs ex H H h h' :=
 ⟨fun b ob q _ _ _=>k b ob q,fun b ob q _ _ _=>⟨ob.slots,k b ob q⟩,fun _ _ _ n _=>n,fun b ob q _=>⟨ob,k b ob q⟩,fun _ _ q=>q,fun _ _ _ q=>q,fun _ ps q=>⟨#[],by rw[q];simp⟩⟩
theorem Un.refl:Un fs ex H H h h:=Un.kept fun _ _ q=>q
theorem Un.laid (k:∀b u,h.get? b=some u->h'.get? b=some u) (hp:h.objs.size<=a) (hn:H a=none):Un fs ex H (upd H a o) h h' where
 keep:=fun b u q _ _ _=>k b u q
 slot:=fun b u q _ _ _=>⟨u.slots,k b u q⟩
 free:=fun b u q n _=>by rw[upd_ne (Nat.ne_of_lt (Nat.lt_of_lt_of_le (Heap.lt_size q) hp))];exact n
 there:=fun b u q _=>⟨u,k b u q⟩
 tups:=fun b xs q=>by rw[upd_ne (ne_of_none q hn)];exact q
 frzs:=fun b u xs q=>by rw[upd_ne (ne_of_none q hn)];exact q
 tbls:=fun b ps q=>⟨#[],by rw[upd_ne (ne_of_none q hn),q];simp⟩
theorem Un.write (mu:Mut (H x)) (he:e=x∨H e=some (.own x)) (k:∀b u,b≠e->h.get? b=some u->h'.get? b=some u) (heo:∃u,h'.get? e=some u):Un fs ex H (upd H x o) h h':=by
 have hx:∀b,H b=none->b≠x:=fun b n z=>by subst z;rw[n] at mu;exact mu
 have hb:∀b,H b=none->b≠e:=fun b n z=>by
  subst z
  rcases he with r | r
  ·exact hx b n r
  ·rw[n] at r;cases r
 have hm:∀b u,H b=some u->¬Mut (some u)->b≠x:=fun b u q nm z=>by subst z;rw[q] at mu;exact nm mu
 refine ⟨fun b u q n _ _=>k b u (hb b n) q,fun b u q n _ _=>⟨u.slots,k b u (hb b n) q⟩,fun b u q n _=>by rw[upd_ne (hx b n)];exact n,fun b u q _=>?_,
  fun b xs q=>by rw[upd_ne (hm b _ q fun z=>z)];exact q,fun b u xs q=>by rw[upd_ne (hm b _ q fun z=>z)];exact q,fun b ps q=>⟨#[],by rw[upd_ne (hm b _ q fun z=>z),q];simp⟩⟩
 by_cases hbe:b=e
 ·subst hbe;exact heo
 ·exact ⟨u,k b u hbe q⟩
theorem Un.mono (u:Un fs ex H H1 h h1) (hs:∀b∈fs,b∈fs') (hx:∀b∈ex,b∈ex'):Un fs' ex' H H1 h h1 :=
 ⟨fun b ob q n hb he=>u.keep b ob q n (fun z=>hb (hs b z)) fun z=>he (hx b z),fun _ _ q n _ he=>u.any q n fun z=>he (hx _ z),fun b ob q n he=>u.free b ob q n fun z=>he (hx b z),fun b ob q he=>u.there b ob q fun z=>he (hx b z),u.tups,u.frzs,u.tbls⟩
end
def trk (h:Heap) (H:Hp):List Addr:=(List.range h.objs.size).filter fun a=>(H a).isSome
def hidT (h:Heap) (H:Hp):Heap:=PySem.W.hideAll h (trk h H)
theorem hidT_size (h:Heap) (H:Hp):(hidT h H).objs.size=h.objs.size:=PySem.W.hideAll_size _ _
theorem hidT_get {h:Heap} {H:Hp} {b:Addr} {o:Obj} (e:h.get? b=some o) (n:H b=none):(hidT h H).get? b=some o :=
 PySem.W.hideAll_get _ e fun hm=>by
  have q:(H b).isSome=true:=(List.mem_filter.mp hm).2
  rw[n] at q;simp at q
theorem of_hidT {h:Heap} {H:Hp} {b:Addr} {o:Obj} (e:(hidT h H).get? b=some o):h.get? b=some o∧H b=none:=by
 have e':h.get? b=some o:=PySem.W.of_hideAll (trk h H) e
 refine ⟨e',?_⟩
 cases q:H b with
 | none=>rfl
 | some x =>
  have hm:b∈trk h H:=List.mem_filter.mpr ⟨List.mem_range.mpr (Heap.lt_size e'),by simp [q]⟩
  have z:(hidT h H).get? b=none:=PySem.W.hideAll_none (trk h H) hm
  rw[z] at e;cases e
def allNews (g h:Heap) (L:Addr):List (Addr×Obj):=(List.range h.objs.size).filterMap fun a=>if a=L∨(g.get? a).isSome=true then none else (h.get? a).map fun o=>(a,o)
def rest (g h:Heap) (L d:Addr):List (Addr×Obj):=(allNews g h L).filter fun p=>decide (p.1≠d)
end L2
namespace L2
open PySem PySem.Spec PyProof.Rows
structure Mod (K:PySem.W.Frag) (mg:Str->Option Value) (base:Heap):Prop where
 kin:K.In base
 glob:base.Ns mainGlobals mg
 blt:∃mb,base.Ns builtinsNs mb∧∀x:Str,x≠"__name__"->mb x=bootBuiltins x
 nolimit:base.NoLimit
structure Cx where
 prog:Program
 w:World
 K:PySem.W.Frag
 mg:Str->Option Value
 base:Heap
 A:Around
 N:List Str
 s₀:Shared
 H₀:Hp
 env:Env
 outer:List Env
 stack:List Env
 ex:List Addr
 fn:Str->Bool
 calm:Bool
 pn:List (Addr×Obj)
 xe:Value->Shared->Prop
def frs (l:List Env):List Addr:=l.filterMap (·.frame)
abbrev Cx.fs (X:Cx):List Addr:=frs X.outer
def Vis (sc:Scope) (x:Str):Prop:=sc.names.lookup x=some .local∨sc.names.lookup x=some .cell∨sc.names.lookup x=some .free
def Loc (sc:Scope) (x:Str):Prop:=sc.names.lookup x=some .local∨sc.names.lookup x=some .cell
def Look (env:Env) (h:Heap) (m:Str->Option Value) (x:Str) (u:Value):Prop :=
 (env.kindOf x=some .local∧m x=some u)∨((env.kindOf x=some .cell∨env.kindOf x=some .free)∧∃c,env.cells.lookup x=some c∧h.IsCell c (some u))
structure Cx.Ok (X:Cx):Prop where
 mod:Mod X.K X.mg X.base
 kind:X.env.scope.kind=.function
 glob:X.env.globals=mainGlobals
 blt:X.env.builtins=builtinsNs
 above:X.s₀.heap.objs.size<=X.env.locals
 inj:∀x y c,X.env.cells.lookup x=some c->X.env.cells.lookup y=some c->x=y
 has:∀x,(X.env.kindOf x=some .cell∨X.env.kindOf x=some .free)->∃c,X.env.cells.lookup x=some c
 cab:∀x c,X.fn x=true->X.env.cells.lookup x=some c->X.s₀.heap.objs.size<=c
 hd:X.calm=true->X.A.handled=none
 frames:X.A.frames=some X.stack
 stk:X.stack=X.outer∨(X.stack=X.env :: X.outer∧X.env.frame=some X.env.locals)
 exf:∀b∈X.ex,b≠X.env.locals∧∀x c,X.env.cells.lookup x=some c->c≠b
 bs:∀b o,X.base.get? b=some o->X.s₀.heap.get? b=some o∧X.H₀ b=none
 bsz:X.base.objs.size<=X.s₀.heap.objs.size
 noex:∀b o,X.base.get? b=some o->b∉X.ex
 exfs:∀b∈X.ex,b∉X.fs
 funs:X.s₀.heap.FunFrames X.base X.outer
 frf:∀b∈X.fs,X.H₀ b=none
structure Inv (X:Cx) (pins:List (Addr×Obj)) (σ:List (Option V)) (H:Hp) (s:Shared):Prop where
 ok:X.Ok
 os:s.os=X.s₀.os
 bare:AllBare s.gens
 base:Un X.fs X.ex X.H₀ H X.s₀.heap s.heap
 loc:∃m,s.heap.Ns X.env.locals m∧∀(i:Nat) (x:Str) (v:V),X.N[i]?=some x->σ[i]?=some (some v)->Vis X.env.scope x->∃u,RelV v u∧Look X.env s.heap m x u
 cell:∀x c,X.env.cells.lookup x=some c->∃v,s.heap.IsCell c v
 free:H X.env.locals=none
 freeC:∀x c,X.env.cells.lookup x=some c->H c=none
 pin:∀p∈X.pn++pins,s.heap.get? p.1=some p.2∧H p.1=none∧p.1≠X.env.locals∧p.1∉X.fs∧∀v,p.2.data≠.cell v
 hok:HOk X.prog X.w H s.heap
 len:σ.length=X.N.length
section
variable {X:Cx} {pins:List (Addr×Obj)} {σ:List (Option V)} {H H':Hp} {s:Shared} {h':Heap}
theorem Cx.Ok.nofr (ok:X.Ok) {b:Addr} {o:Obj} (e:X.base.get? b=some o):b∉X.fs:=fun hb=>by
 have:=(ok.funs.mem hb).1
 rw[e] at this;cases this
theorem Inv.bs (I:Inv X pins σ H s):∀b o,X.base.get? b=some o->s.heap.get? b=some o∧H b=none:=fun b o e =>
 ⟨I.base.keep b o (I.ok.bs b o e).1 (I.ok.bs b o e).2 (I.ok.nofr e) (I.ok.noex b o e),I.base.free b o (I.ok.bs b o e).1 (I.ok.bs b o e).2 (I.ok.noex b o e)⟩
theorem Inv.bk (I:Inv X pins σ H s):∀b o,X.base.get? b=some o->s.heap.get? b=some o:=fun b o e=>(I.bs b o e).1
theorem Inv.mod (I:Inv X pins σ H s):Mod X.K X.mg X.base:=I.ok.mod
theorem Inv.kIn (I:Inv X pins σ H s):X.K.In s.heap:=I.ok.mod.kin.keeps I.bk
theorem Inv.nolimit (I:Inv X pins σ H s):s.heap.NoLimit:=I.ok.mod.nolimit.keeps I.bk
theorem Inv.fr (I:Inv X pins σ H s):∃m,Fr X.base X.env.locals s.heap m :=
 let ⟨m,hn,_⟩:=I.loc
 ⟨m,hn,I.bk,Nat.le_trans I.ok.bsz I.ok.above⟩
theorem Inv.lt (I:Inv X pins σ H s):X.env.locals < s.heap.objs.size:=let ⟨_,hn,_⟩:=I.loc;hn.lt
theorem Inv.sz (I:Inv X pins σ H s):X.s₀.heap.objs.size<=s.heap.objs.size:=Nat.le_trans I.ok.above (Nat.le_of_lt I.lt)
theorem Inv.nofs (I:Inv X pins σ H s) {a:Addr} (h:s.heap.objs.size<=a):a∉X.fs:=fun hb=>by
 obtain ⟨_,o,ho,_⟩:=I.ok.funs.mem hb
 exact absurd (Nat.lt_of_lt_of_le (Heap.lt_size ho) (Nat.le_trans I.sz h)) (Nat.lt_irrefl _)
theorem Inv.cne (I:Inv X pins σ H s):∀x c,X.env.cells.lookup x=some c->c≠X.env.locals:=fun x c e z=>by
 obtain ⟨v,o,ho,hd⟩:=I.cell x c e
 obtain ⟨m,⟨o',es,ep,ho',hd',_⟩,_⟩:=I.loc
 rw[z,ho'] at ho;cases ho;rw[hd'] at hd;cases hd
theorem Inv.funs (I:Inv X pins σ H s):s.heap.FunFrames X.base X.outer:=by
 have all:∀(l:List Env),(∀b∈frs l,b∈X.fs)->X.s₀.heap.FunFrames X.base l->s.heap.FunFrames X.base l:=by
  intro l
  induction l with
  | nil=>intro _ _;trivial
  | cons env r ih =>
   intro hs hl
   obtain ⟨hk,⟨L,o,hf,hn,ho,hd⟩,hr⟩:=hl
   have hL:L∈X.fs:=hs L (by unfold frs;rw[List.filterMap_cons,hf];exact List.mem_cons_self)
   obtain ⟨sl,e⟩:=I.base.slot L o ho (I.ok.frf L hL) hL fun z=>I.ok.exfs L z hL
   exact ⟨hk,⟨L,_,hf,hn,e,hd⟩,ih (fun b hb=>hs b (by unfold frs;rw[List.filterMap_cons,hf];exact List.mem_cons_of_mem _ hb)) hr⟩
 exact all X.outer (fun _ hb=>hb) I.ok.funs
theorem Inv.stack (I:Inv X pins σ H s):s.heap.FunFrames X.base X.stack:=by
 rcases I.ok.stk with e | ⟨e,hf⟩
 ·rw[e];exact I.funs
 ·rw[e]
  obtain ⟨m,hn,_⟩:=I.loc
  refine .cons (by rw[I.ok.kind];decide) hf hn ?_ I.funs
  exact Heap.get?_none_of_le (Nat.le_trans I.ok.bsz I.ok.above)
theorem Inv.stkSub (I:Inv X pins σ H s):∀b∈frs X.stack,b∈X.env.locals :: X.fs:=fun b hb=>by
 rcases I.ok.stk with e | ⟨e,hf⟩
 ·rw[e] at hb;exact List.mem_cons_of_mem _ hb
 ·rw[e] at hb
  unfold frs at hb
  rw[List.filterMap_cons,hf] at hb
  exact hb
theorem Inv.stkFree (I:Inv X pins σ H s):∀b∈frs X.stack,H b=none:=fun b hb=>by
 rcases List.mem_cons.mp (I.stkSub b hb) with e | hb
 ·rw[e];exact I.free
 ·obtain ⟨_,o,ho,_⟩:=I.ok.funs.mem hb
  exact I.base.free b o ho (I.ok.frf b hb) fun z=>I.ok.exfs b z hb
theorem Inv.step {g':Array GenState} {t':Nat} {d':Drawn} {ch:List Addr} (I:Inv X pins σ H s)
  (hch:∀b∈ch,(b∈X.ex∨X.s₀.heap.objs.size<=b)∧b≠X.env.locals∧(∀x c,X.env.cells.lookup x=some c->c≠b)∧∀p∈X.pn++pins,p.1≠b)
  (keep:∀b o,b≠X.env.locals->b∉X.fs->b∉ch->s.heap.get? b=some o->H b=none->h'.get? b=some o)
  (slot:∀b o,b≠X.env.locals->b∈X.fs->b∉ch->s.heap.get? b=some o->H b=none->∃sl,h'.get? b=some { o with slots:=sl }) (free:∀b o,b∉ch->s.heap.get? b=some o->H b=none->H' b=none)
  (there:∀b o,b∉ch->s.heap.get? b=some o->∃o',h'.get? b=some o')
  (tups:∀b xs,H b=some (.tup xs)->H' b=some (.tup xs)) (frzs:∀b o u,H b=some (.frz o u)->H' b=some (.frz o u)) (tbls:∀b ps,H b=some (.tbl ps)->∃more,H' b=some (.tbl (ps++more)))
  (ns:∀m,s.heap.Ns X.env.locals m->h'.Ns X.env.locals m) (hok:HOk X.prog X.w H' h') (hg:AllBare g') :
  Inv X pins σ H' { s with heap:=h',gens:=g',drawn:=d',toks:=t' }:=by
 have neL:∀b o,X.s₀.heap.get? b=some o->b≠X.env.locals:=fun b o e=>Nat.ne_of_lt (Nat.lt_of_lt_of_le (Heap.lt_size e) I.ok.above)
 have neC:∀b o,X.s₀.heap.get? b=some o->b∉X.ex->b∉ch:=fun b o e hx hb=>by
  rcases (hch b hb).1 with z | z
  ·exact hx z
  ·exact absurd (Nat.lt_of_lt_of_le (Heap.lt_size e) z) (Nat.lt_irrefl _)
 have cellK:∀x c,X.env.cells.lookup x=some c->∀v,s.heap.IsCell c v->h'.IsCell c v:=fun x c e v ⟨o,ho,hd⟩=>by
  have nch:c∉ch:=fun z=>(hch c z).2.2.1 x c e rfl
  by_cases hc:c∈X.fs
  ·obtain ⟨sl,q⟩:=slot c o (I.cne x c e) hc nch ho (I.freeC x c e)
   exact ⟨_,q,hd⟩
  ·exact ⟨o,keep c o (I.cne x c e) hc nch ho (I.freeC x c e),hd⟩
 refine ⟨I.ok,I.os,hg,⟨fun b o e n hb hx=>?_,fun b o e n hb hx=>?_,fun b o e n hx=>?_,fun b o e hx=>?_,fun b xs e=>tups b xs (I.base.tups b xs e),fun b o xs e=>frzs b o xs (I.base.frzs b o xs e),fun b ps e=>?_⟩,?_,fun x c e=>?_,?_,fun x c e=>?_,fun p hp=>?_,hok,I.len⟩
 ·exact keep b o (neL b o e) hb (neC b o e hx) (I.base.keep b o e n hb hx) (I.base.free b o e n hx)
 ·obtain ⟨sl,e1⟩:=I.base.slot b o e n hb hx
  obtain ⟨sl',e2⟩:=slot b _ (neL b o e) hb (neC b o e hx) e1 (I.base.free b o e n hx)
  exact ⟨sl',e2⟩
 ·obtain ⟨o',e1⟩:=I.base.there b o e hx
  exact free b o' (neC b o e hx) e1 (I.base.free b o e n hx)
 ·obtain ⟨o',e1⟩:=I.base.there b o e hx
  exact there b o' (neC b o e hx) e1
 ·obtain ⟨m1,e1⟩:=I.base.tbls b ps e
  obtain ⟨m2,e2⟩:=tbls b _ e1
  exact ⟨m1++m2,by rw[e2,Array.append_assoc]⟩
 ·obtain ⟨m,hn,hl⟩:=I.loc
  refine ⟨m,ns m hn,fun i x v e1 e2 e3=>?_⟩
  obtain ⟨u,r,l⟩:=hl i x v e1 e2 e3
  refine ⟨u,r,?_⟩
  rcases l with l | ⟨k,c,e,z⟩
  ·exact .inl l
  ·exact .inr ⟨k,c,e,cellK x c e _ z⟩
 ·obtain ⟨v,z⟩:=I.cell x c e
  exact ⟨v,cellK x c e v z⟩
 ·obtain ⟨m,⟨o,_,_,ho,_⟩,_⟩:=I.loc
  exact free _ o (fun z=>(hch _ z).2.1 rfl) ho I.free
 ·obtain ⟨v,o,ho,hd⟩:=I.cell x c e
  exact free c o (fun z=>(hch c z).2.2.1 x c e rfl) ho (I.freeC x c e)
 ·obtain ⟨e,n,ne,nf,d⟩:=I.pin p hp
  have nch:p.1∉ch:=fun z=>(hch p.1 z).2.2.2 p hp rfl
  exact ⟨keep p.1 p.2 ne nf nch e n,free p.1 p.2 nch e n,ne,nf,d⟩
theorem Inv.un {t':Nat} (I:Inv X pins σ H s) (u:Un X.fs [] H H' s.heap h') (hok:HOk X.prog X.w H' h'):Inv X pins σ H' { s with heap:=h',toks:=t' }:=by
 obtain ⟨m,⟨o,es,ep,ho,r⟩,_⟩:=id I.loc
 obtain ⟨sl,hL⟩:=u.any ho I.free (by simp)
 exact I.step (g':=s.gens) (d':=s.drawn) (ch:=[]) (fun _ z=>nomatch z) (fun b o _ hb _ e n=>u.keep b o e n hb (by simp)) (fun b o _ hb _ e n=>u.slot b o e n hb (by simp)) (fun b o _ e n=>u.free b o e n (by simp)) (fun b o _ e=>u.there b o e (by simp)) u.tups u.frzs u.tbls (fun m' hm=>by
  obtain ⟨o',es',ep',ho',r'⟩:=hm
  rw[ho] at ho';cases ho'
  exact ⟨_,es',ep',hL,r'⟩) hok I.bare
theorem Inv.call {g':Array GenState} {t':Nat} {d':Drawn} {ch:List Addr} (I:Inv X pins σ H s) (u:Un (frs X.stack) ch H H' s.heap h') (hok:HOk X.prog X.w H' h') (hg:AllBare g')
  (hch:∀b∈ch,(b∈X.ex∨X.s₀.heap.objs.size<=b)∧b≠X.env.locals∧(∀x c,X.env.cells.lookup x=some c->c≠b)∧∀p∈X.pn++pins,p.1≠b) :
  Inv X pins σ H' { s with heap:=h',gens:=g',drawn:=d',toks:=t' }:=by
 obtain ⟨m,⟨o,es,ep,ho,r⟩,_⟩:=id I.loc
 obtain ⟨sl,hL⟩:=u.any ho I.free fun z=>(hch _ z).2.1 rfl
 exact I.step (ch:=ch) hch (fun b o hL hb hc e n=>u.keep b o e n (fun z=>(List.mem_cons.mp (I.stkSub b z)).elim hL hb) hc) (fun b o _ _ hc e n=>u.any e n hc) (fun b o hc e n=>u.free b o e n hc) (fun b o hc e=>u.there b o e hc) u.tups u.frzs u.tbls (fun m' hm=>by
  obtain ⟨o',es',ep',ho',r'⟩:=hm
  rw[ho] at ho';cases ho'
  exact ⟨_,es',ep',hL,r'⟩) hok hg
theorem Inv.turned {t':Nat} {it:Addr} (I:Inv X pins σ H s) (k:∀b o,b≠it->s.heap.get? b=some o->h'.get? b=some o) (hn:H it=none) (hL:it≠X.env.locals)
  (h1:it∈X.ex∨X.s₀.heap.objs.size<=it) (h2:∀x c,X.env.cells.lookup x=some c->c≠it) (h3:∀p∈X.pn++pins,p.1≠it):Inv X pins σ H { s with heap:=h',toks:=t' }:=by
 have nit:∀b u,H b=some u->b≠it:=fun b u e z=>by rw[z,hn] at e;cases e
 refine I.step (g':=s.gens) (d':=s.drawn) (ch:=[it]) (fun b hb=>?_) (fun b o _ _ hc e _=>k b o (fun z=>hc (by simp [z])) e) (fun b o _ _ hc e _=>⟨o.slots,k b o (fun z=>hc (by simp [z])) e⟩) (fun _ _ _ _ n=>n)
  (fun b o hc e=>⟨o,k b o (fun z=>hc (by simp [z])) e⟩) (fun _ _ e=>e) (fun _ _ _ e=>e) (fun b ps e=>⟨#[],by rw[e];simp⟩) (fun m hm=>?_) (fun b u e=>?_) I.bare
 ·have e:b=it:=by simpa using hb
  subst e
  exact ⟨h1,hL,h2,h3⟩
 ·obtain ⟨o,es,ep,ho,r⟩:=hm
  exact ⟨o,es,ep,k _ o (Ne.symm hL) ho,r⟩
 ·refine (I.hok b u e).stay (fun c v hc q=>k c v ?_ q) (fun _ q=>q) fun _ _ q=>q
  rcases hc with z | z
  ·rw[z];exact nit b u e
  ·exact nit c _ z
theorem Inv.tok (I:Inv X pins σ H s) (t:Nat):Inv X pins σ H { s with toks:=t }:=I.un (h':=s.heap) (t':=t) Un.refl I.hok
theorem Inv.kept {t':Nat} (I:Inv X pins σ H s) (k:∀b u,s.heap.get? b=some u->h'.get? b=some u):Inv X pins σ H { s with heap:=h',toks:=t' }:=I.un (Un.kept k) (I.hok.kept k)
theorem Inv.laid {a:Addr} {o:HO} {t':Nat} (I:Inv X pins σ H s) (k:∀b u,s.heap.get? b=some u->h'.get? b=some u) (hp:s.heap.objs.size<=a) (new:ObjOk X.prog X.w (upd H a o) h' a o) :
  Inv X pins σ (upd H a o) { s with heap:=h',toks:=t' }:=I.un (Un.laid k hp (I.hok.fresh hp)) (I.hok.laid k hp new)
theorem Inv.write {x e:Addr} {o:HO} {t':Nat} (I:Inv X pins σ H s) (mu:Mut (H x)) (he:e=x∨H e=some (.own x)) (k:∀b u,b≠e->s.heap.get? b=some u->h'.get? b=some u) (heo:∃u,h'.get? e=some u)
  (new:ObjOk X.prog X.w (upd H x o) h' x o):Inv X pins σ (upd H x o) { s with heap:=h',toks:=t' }:=I.un (Un.write mu he k heo) (I.hok.write mu he k heo new)
theorem Inv.pins_of {pins':List (Addr×Obj)} (I:Inv X pins σ H s) (h:∀p∈pins',s.heap.get? p.1=some p.2∧H p.1=none∧p.1≠X.env.locals∧p.1∉X.fs∧∀v,p.2.data≠.cell v):Inv X pins' σ H s :=
 ⟨I.ok,I.os,I.bare,I.base,I.loc,I.cell,I.free,I.freeC,fun p hp=>(List.mem_append.mp hp).elim (fun z=>I.pin p (List.mem_append_left _ z)) (h p),I.hok,I.len⟩
theorem nodup_ix {N:List Str} (hN:N.Nodup) {i j:Nat} {x:Str} (a:N[i]?=some x) (b:N[j]?=some x):i=j:=by
 obtain ⟨h1,e1⟩:=List.getElem?_eq_some_iff.mp a
 obtain ⟨h2,e2⟩:=List.getElem?_eq_some_iff.mp b
 exact (List.getElem_inj hN).mp (e1.trans e2.symm)
theorem store_ok2 {M:Model} {A:Around} {E:Value->Shared->Prop} {i:Nat} {x:Str} {v:V} {u:Value} {Q:Unit->Shared->Prop} (I:Inv X pins σ H s) (hN:X.N.Nodup) (hi:X.N[i]?=some x) (hx:Loc X.env.scope x) (r:RelV v u)
  (h:∀s',Inv X pins (σ.set i (some v)) H s'->(∃a,Heap.SameBut a s.heap s'.heap∧(a=X.env.locals∨X.env.cells.lookup x=some a))->Q () s') (hf:X.fn x=true∨X.env.scope.names.lookup x=some .local:=by first | exact .inl rfl | exact .inr rfl | assumption):wpAny M A (storeName X.env x u) Q E s:=by
 obtain ⟨m,hn,hl⟩:=id I.loc
 have hcls:(X.env.scope.kind == .class || (X.env.scope.kind == .module && X.env.locals != X.env.globals))=false:=by rw[I.ok.kind];rfl
 have hiσ:i < σ.length:=by rw[I.len];exact (List.getElem?_eq_some_iff.mp hi).1
 have cne:=I.cne
 have tracked:∀{a:Addr} {h':Heap},(∃o,s.heap.get? a=some o∧H a=none)->Heap.SameBut a s.heap h'->HOk X.prog X.w H h':=fun {a h'} ha hs b ob e=>by
  obtain ⟨_,_,hfree⟩:=ha
  refine (I.hok b ob e).stay (fun c w' hc q=>(hs.2 c ?_).trans q) (fun _ q=>q) fun _ _ q=>q
  rintro rfl
  rcases hc with rfl | hc
  ·rw[hfree] at e;cases e
  ·rw[hfree] at hc;cases hc
 rcases hx with hk | hk
 ·refine wpAny_storeName_local hk hn (fun h' hn' hs=>?_) hcls
  obtain ⟨oL,_,_,hoL,_⟩:=id hn
  refine h _ ⟨I.ok,I.os,I.bare,⟨fun b o e n hb hx=>?_,fun b o e n hb hx=>?_,I.base.free,fun b o e hx=>?_,I.base.tups,I.base.frzs,I.base.tbls⟩,⟨_,hn',fun j y v' e1 e2 e3=>?_⟩,fun y c e=>?_,I.free,I.freeC,fun p hp=>?_,tracked ⟨oL,hoL,I.free⟩ hs,by simpa using I.len⟩ ⟨_,hs,.inl rfl⟩
  ·exact (hs.2 b (Nat.ne_of_lt (Nat.lt_of_lt_of_le (Heap.lt_size e) I.ok.above))).trans (I.base.keep b o e n hb hx)
  ·obtain ⟨sl,e1⟩:=I.base.slot b o e n hb hx
   exact ⟨sl,(hs.2 b (Nat.ne_of_lt (Nat.lt_of_lt_of_le (Heap.lt_size e) I.ok.above))).trans e1⟩
  ·obtain ⟨o',e1⟩:=I.base.there b o e hx
   exact ⟨o',(hs.2 b (Nat.ne_of_lt (Nat.lt_of_lt_of_le (Heap.lt_size e) I.ok.above))).trans e1⟩
  ·by_cases hj:j=i
   ·subst hj
    rw[hi] at e1;cases e1
    rw[List.getElem?_set_self hiσ] at e2
    cases e2
    exact ⟨u,r,.inl ⟨hk,by simp⟩⟩
   ·rw[List.getElem?_set_ne (Ne.symm hj)] at e2
    obtain ⟨u',r',q⟩:=hl j y v' e1 e2 e3
    refine ⟨u',r',?_⟩
    rcases q with ⟨k,e⟩ | ⟨k,c,e,z⟩
    ·refine .inl ⟨k,?_⟩
     have:y≠x:=fun e=>hj (nodup_ix hN e1 (e ▸ hi))
     simp [this,e]
    ·exact .inr ⟨k,c,e,z.sameBut hs (cne y c e)⟩
  ·obtain ⟨w',z⟩:=I.cell y c e
   exact ⟨w',z.sameBut hs (cne y c e)⟩
  ·obtain ⟨e,n,ne,nf,d⟩:=I.pin p hp
   exact ⟨(hs.2 p.1 ne).trans e,n,ne,nf,d⟩
 ·have hfn:X.fn x=true:=by
   rcases hf with z | z
   ·exact z
   ·rw[z] at hk;cases hk
  obtain ⟨c,hc⟩:=I.ok.has x (.inl hk)
  obtain ⟨w',z⟩:=I.cell x c hc
  refine wpAny_storeName_cell I.ok.kind hk hc z (fun h' hc' hs=>?_)
  obtain ⟨oc,hoc,hocd⟩:=id z
  refine h { s with heap:=h' } ⟨I.ok,I.os,I.bare,⟨fun b o e n hb hx=>?_,fun b o e n hb hx=>?_,I.base.free,fun b o e hx=>?_,I.base.tups,I.base.frzs,I.base.tbls⟩,⟨m,hn.sameBut hs (Ne.symm (cne x c hc)),fun j y v' e1 e2 e3=>?_⟩,fun y c' e=>?_,I.free,I.freeC,fun p hp=>?_,tracked ⟨oc,hoc,I.freeC x c hc⟩ hs,by simpa using I.len⟩ ⟨c,hs,.inr hc⟩
  ·exact (hs.2 b (Nat.ne_of_lt (Nat.lt_of_lt_of_le (Heap.lt_size e) (I.ok.cab x c hfn hc)))).trans (I.base.keep b o e n hb hx)
  ·obtain ⟨sl,e1⟩:=I.base.slot b o e n hb hx
   exact ⟨sl,(hs.2 b (Nat.ne_of_lt (Nat.lt_of_lt_of_le (Heap.lt_size e) (I.ok.cab x c hfn hc)))).trans e1⟩
  ·obtain ⟨o',e1⟩:=I.base.there b o e hx
   exact ⟨o',(hs.2 b (Nat.ne_of_lt (Nat.lt_of_lt_of_le (Heap.lt_size e) (I.ok.cab x c hfn hc)))).trans e1⟩
  ·by_cases hj:j=i
   ·subst hj
    rw[hi] at e1;cases e1
    rw[List.getElem?_set_self hiσ] at e2
    cases e2
    exact ⟨u,r,.inr ⟨.inl hk,c,hc,hc'⟩⟩
   ·rw[List.getElem?_set_ne (Ne.symm hj)] at e2
    obtain ⟨u',r',q⟩:=hl j y v' e1 e2 e3
    refine ⟨u',r',?_⟩
    rcases q with q | ⟨k,c',e,z'⟩
    ·exact .inl q
    ·refine .inr ⟨k,c',e,z'.sameBut hs ?_⟩
     rintro rfl
     exact hj (nodup_ix hN e1 (I.ok.inj _ _ _ e hc ▸ hi))
  ·by_cases hcc:c'=c
   ·subst hcc;exact ⟨_,hc'⟩
   ·obtain ⟨w2,z2⟩:=I.cell y c' e
    exact ⟨w2,z2.sameBut hs hcc⟩
  ·obtain ⟨e,n,ne,nf,d⟩:=I.pin p hp
   refine ⟨(hs.2 p.1 ?_).trans e,n,ne,nf,d⟩
   intro q
   rw[q,hoc] at e
   have q':oc=p.2:=Option.some.inj e
   exact d w' (by rw[← q'];exact hocd)
theorem store_ok {M:Model} {A:Around} {E:Value->Shared->Prop} {i:Nat} {x:Str} {v:V} {u:Value} {Q:Unit->Shared->Prop} (I:Inv X pins σ H s) (hN:X.N.Nodup) (hi:X.N[i]?=some x) (hx:Loc X.env.scope x) (r:RelV v u)
  (h:∀s',Inv X pins (σ.set i (some v)) H s'->Q () s') (hf:X.fn x=true∨X.env.scope.names.lookup x=some .local:=by first | exact .inl rfl | exact .inr rfl | assumption):wpAny M A (storeName X.env x u) Q E s :=
 store_ok2 I hN hi hx r (fun s' I' _=>h s' I') hf
theorem Inv.call' {s':Shared} {ch:List Addr} (I:Inv X pins σ H s) (ho:s'.os=s.os) (u:Un (frs X.stack) ch H H' s.heap s'.heap) (hok:HOk X.prog X.w H' s'.heap) (hg:AllBare s'.gens)
  (hch:∀b∈ch,(b∈X.ex∨X.s₀.heap.objs.size<=b)∧b≠X.env.locals∧(∀x c,X.env.cells.lookup x=some c->c≠b)∧∀p∈X.pn++pins,p.1≠b):Inv X pins σ H' s':=by
 obtain ⟨h',g',d',t',o'⟩:=s'
 have e:o'=s.os:=ho
 subst e
 exact I.call (g':=g') (t':=t') (d':=d') u hok hg hch
end
abbrev XK:=Value->Option Addr->Hp->Prop
abbrev St:=List (Option V)
abbrev VK:=V->Hp->Prop
abbrev TE:=St->Hp->VK->Prop
abbrev TT:=St->Hp->(Bool->Hp->Prop)->Prop
abbrev TA:=St->Hp->(List V->Hp->Prop)->Prop
structure Ends where
 nx:St->Hp->Prop
 rt:VK
 bk:St->Hp->Prop:=fun _ _=>False
 ct:St->Hp->Prop:=fun _ _=>False
abbrev TS:=Ends->St->Hp->Prop
def EP (X:Cx) (pins:List (Addr×Obj)) (σ:St) (Q:VK) (u:Value) (s':Shared):Prop:=∃v H',Inv X pins σ H' s'∧RelV v u∧Q v H'
def TP (X:Cx) (pins:List (Addr×Obj)) (σ:St) (Q:Bool->Hp->Prop) (b:Bool) (s':Shared):Prop:=∃H',Inv X pins σ H' s'∧Q b H'
def AP (X:Cx) (pins:List (Addr×Obj)) (σ:St) (Q:List V->Hp->Prop) (us:List Value) (s':Shared):Prop:=∃vs H',Inv X pins σ H' s'∧Vals vs us∧Q vs H'
def SP (X:Cx) (pins:List (Addr×Obj)) (D:Ends) (f:Flow) (s':Shared):Prop :=
 match f with
 | .next=>∃σ' H',Inv X pins σ' H' s'∧D.nx σ' H'
 | .brk=>∃σ' H',Inv X pins σ' H' s'∧D.bk σ' H'
 | .cont=>∃σ' H',Inv X pins σ' H' s'∧D.ct σ' H'
 | .ret u=>∃v σ' H',Inv X pins σ' H' s'∧RelV v u∧D.rt v H'
def PE (X:Cx) (e:Expr) (t:TE):Prop :=
 ∀(pins:List (Addr×Obj)) (s:Shared) (σ:St) (H:Hp) (Q:VK),Inv X pins σ H s->t σ H Q->wpAny (model X.prog X.w) X.A (eval e X.env) (EP X pins σ Q) X.xe s
def PT (X:Cx) (e:Expr) (t:TT):Prop :=
 ∀(pins:List (Addr×Obj)) (s:Shared) (σ:St) (H:Hp) (Q:Bool->Hp->Prop),Inv X pins σ H s->t σ H Q->wpAny (model X.prog X.w) X.A (isTrue e X.env (eval e X.env)) (TP X pins σ Q) X.xe s
def PW (X:Cx) (e:Expr) (t:TT):Prop :=
 ∀(whole:Sem Value) (pins:List (Addr×Obj)) (s:Shared) (σ:St) (H:Hp) (Q:Bool->Hp->Prop),Inv X pins σ H s->t σ H Q->wpAny (model X.prog X.w) X.A (isTrue e X.env whole) (TP X pins σ Q) X.xe s
theorem PW.pt {X:Cx} {e:Expr} {t:TT} (h:PW X e t):PT X e t:=h _
def PA (X:Cx) (es:List Expr) (t:TA):Prop :=
 ∀(pos:Pos) (pins:List (Addr×Obj)) (s:Shared) (σ:St) (H:Hp) (Q:List V->Hp->Prop),Inv X pins σ H s->t σ H Q->wpAny (model X.prog X.w) X.A (spliced (backTo pos (starEach es X.env))) (AP X pins σ Q) X.xe s
def PS (X:Cx) (st:Stmt) (t:TS):Prop :=
 ∀(pins:List (Addr×Obj)) (s:Shared) (σ:St) (H:Hp) (D:Ends),Inv X pins σ H s->t D σ H->wpAny (model X.prog X.w) X.A (exec st X.env) (SP X pins D) X.xe s
def PSs (X:Cx) (st:List Stmt) (t:TS):Prop :=
 ∀(pins:List (Addr×Obj)) (s:Shared) (σ:St) (H:Hp) (D:Ends),Inv X pins σ H s->t D σ H->wpAny (model X.prog X.w) X.A (execs st X.env) (SP X pins D) X.xe s
theorem thn {α:Type} {t:Sem α} {Q Q':α->Shared->Prop} {M:Model} {A:Around} {E:Value->Shared->Prop} {s:Shared} (h:wpAny M A t Q E s) (hQ:∀a s,Q a s->Q' a s):wpAny M A t Q' E s:=wpAny_mono h hQ fun _ _ x=>x
end L2
namespace L2
open PySem PySem.Spec PyProof.Rows
section
variable {X:Cx}
def tVar (i:Nat):TE:=fun σ H Q=>∃v,σ[i]?=some (some v)∧Q v H
def tC (v:V):TE:=fun _ H Q=>Q v H
theorem pe_var {i:Nat} {x:Str} {pos:Pos} (hN:X.N[i]?=some x) (hv:Vis X.env.scope x) (hd:(x == ("__debug__":Str))=false:=by decide) (hcd:(x == ("__classdict__":Str))=false:=by decide):PE X (.Name x pos) (tVar i):=by
 intro pins s σ H Q I h
 obtain ⟨v,e,h⟩:=h
 obtain ⟨m,hn,hl⟩:=I.loc
 obtain ⟨u,r,l⟩:=hl i x v hN e hv
 have fin:EP X pins σ Q u s:=⟨v,H,I,r,h⟩
 rcases l with ⟨hk,hm⟩ | ⟨hk,c,hc,hcell⟩
 ·exact wpAny_Name (wpAny_loadName_local I.ok.kind hk hn hm fin) hd
 ·rcases hk with hk | hk
  ·exact wpAny_Name (wpAny_loadName_cell I.ok.kind hk hc hcell fin) hd
  ·exact wpAny_Name (wpAny_loadName_free I.ok.kind hk hc hcell fin hcd) hd
theorem pe_int {i j pos}:PE X (.Constant (.int i) j pos) (tC (.int i)):=fun _ _ _ H _ I h=>wpAny_Constant_int ⟨.int i,H,I.tok _,⟨_,rfl⟩,h⟩
theorem pe_bl {b j pos}:PE X (.Constant (.bool b) j pos) (tC (.bl b)):=fun _ _ _ H _ I h=>Constant_bool ⟨.bl b,H,I,rfl,h⟩
theorem pe_str {x j pos}:PE X (.Constant (.str x) j pos) (tC (.str x)):=fun _ _ _ H _ I h=>Calls.Constant_str ⟨.str x,H,I.tok _,⟨_,rfl⟩,h⟩
def Gl (X:Cx) (x:Str):Prop:=X.env.kindOf x=some .globalImplicit
theorem ld_glob {E:Value->Shared->Prop} {pins:List (Addr×Obj)} {s:Shared} {σ:St} {H:Hp} {x:Str} {u:Value} {pos:Pos} {Q:Value->Shared->Prop} (I:Inv X pins σ H s) (hg:Gl X x) (hm:X.mg x=some u) (h:Q u s)
  (hd:(x == ("__debug__":Str))=false:=by decide):wpAny (model X.prog X.w) X.A (eval (.Name x pos) X.env) Q E s :=
 Calls.Name_function_global I.ok.kind hg (Calls.loadGlobal_global (by rw[I.ok.glob];exact I.mod.glob.keeps I.bk) hm h) hd
theorem ld_blt {E:Value->Shared->Prop} {pins:List (Addr×Obj)} {s:Shared} {σ:St} {H:Hp} {x:Str} {u:Value} {pos:Pos} {Q:Value->Shared->Prop} (I:Inv X pins σ H s) (hg:Gl X x) (hm:X.mg x=none) (hv:bootBuiltins x=some u) (h:Q u s)
  (hn:x≠"__name__":=by decide) (hd:(x == ("__debug__":Str))=false:=by decide):wpAny (model X.prog X.w) X.A (eval (.Name x pos) X.env) Q E s:=by
 obtain ⟨mb,h1,h2⟩:=I.mod.blt
 exact Calls.Name_function_global I.ok.kind hg (Calls.loadGlobal_builtin (by rw[I.ok.glob];exact I.mod.glob.keeps I.bk) hm (by rw[I.ok.blt];exact h1.keeps I.bk) ((h2 x hn).trans hv) h) hd
theorem pe_glob {x:Str} {v:V} {u:Value} {pos:Pos} (hg:Gl X x) (hm:X.mg x=some u) (r:RelV v u) (hd:(x == ("__debug__":Str))=false:=by decide):PE X (.Name x pos) (tC v) :=
 fun _ _ _ H _ I h=>ld_glob I hg hm ⟨v,H,I,r,h⟩ hd
theorem pe_bltn {x:Str} {v:V} {u:Value} {pos:Pos} (hg:Gl X x) (hm:X.mg x=none) (hv:bootBuiltins x=some u) (r:RelV v u) (hn:x≠"__name__":=by decide) (hd:(x == ("__debug__":Str))=false:=by decide):PE X (.Name x pos) (tC v) :=
 fun _ _ _ H _ I h=>ld_blt I hg hm hv ⟨v,H,I,r,h⟩ hn hd
def t2I (ta tb:TE) (k:Int->Int->Hp->Prop):St->Hp->Prop:=fun σ H=>ta σ H fun x H1=>tb σ H1 fun y H2=>∃i j,x=.int i∧y=.int j∧k i j H2
variable {a b:Expr} {ta tb:TE} {pos:Pos}
def tCmp (p:Int->Int->Bool) (ta tb:TE):TE:=fun σ H Q=>t2I ta tb (fun i j H2=>Q (.bl (p i j)) H2) σ H
abbrev tLt:TE->TE->TE:=tCmp fun i j=>decide (i < j)
abbrev tLe:TE->TE->TE:=tCmp fun i j=>decide (i<=j)
abbrev tGt:TE->TE->TE:=tCmp fun i j=>decide (j < i)
abbrev tGe:TE->TE->TE:=tCmp fun i j=>decide (j<=i)
abbrev tEqI:TE->TE->TE:=tCmp fun i j=>decide (i=j)
abbrev tNeI:TE->TE->TE:=tCmp fun i j=>!decide (i=j)
def tB (t:TE):TT:=fun σ H Q=>t σ H fun x H1=>∃c,x=.bl c∧Q c H1
theorem pt_val {e : Expr} {t : TE} (h : PE X e t) (he : ∀ whole, isTrue e X.env whole = (do let v ← whole; standAt e.pos; holding [v] (truthy v)) := by intro _; rfl) : PT X e (tB t) := by
  intro pins s σ H Q I hw
  refine isTrue_plain (thn (h pins s σ H _ I hw) fun v s1 ⟨x, H1, I1, r1, q1⟩ => ?_) (he _)
  obtain ⟨d, rfl, q⟩ := q1
  cases r1
  exact wpAny_truthy_bool ⟨H1, I1, q⟩

variable {tA tB':TT} {rest:List Expr}
def tAnd (t u:TT):TT:=fun σ H Q=>t σ H fun c H1=>if c=true then u σ H1 Q else Q false H1
def tOr (t u:TT):TT:=fun σ H Q=>t σ H fun c H1=>if c=true then Q true H1 else u σ H1 Q
def tNot (t:TT):TT:=fun σ H Q=>t σ H fun c H1=>Q (!c) H1
theorem pw_or1 (ha:PT X a tA):PW X (.BoolOp .Or [a] pos) tA:=by
 intro wh pins s σ H Q I h
 refine isTrue_or (thn (ha pins s σ H Q I h) fun c s1 e=>?_)
 cases c with
 | false=>exact isTrue_or_nil e
 | true=>exact e
theorem pw_or (ha:PT X a tA) (hb:PW X (.BoolOp .Or (b :: rest) pos) tB'):PW X (.BoolOp .Or (a :: b :: rest) pos) (tOr tA tB'):=by
 intro wh pins s σ H Q I h
 refine isTrue_or (thn (ha pins s σ H _ I h) fun c s1 ⟨H1,I1,q1⟩=>?_)
 cases c with
 | true=>exact ⟨H1,I1,q1⟩
 | false=>exact hb wh pins s1 σ H1 Q I1 q1
theorem pt_not (ha:PT X a tA):PT X (.UnaryOp .Not a pos) (tNot tA):=by
 intro pins s σ H Q I h
 exact isTrue_not (ha pins s σ H (fun c H1=>Q (!c) H1) I h)
def tAndV (ta tb:TE):TE:=fun σ H Q=>ta σ H fun x H1=>∃c,x=.bl c∧if c=true then tb σ H1 Q else Q (.bl false) H1
def tOrV (ta tb:TE):TE:=fun σ H Q=>ta σ H fun x H1=>∃c,x=.bl c∧if c=true then Q (.bl true) H1 else tb σ H1 Q
def tNotV (ta:TE):TE:=fun σ H Q=>ta σ H fun x H1=>∃c,x=.bl c∧Q (.bl (!c)) H1
def tIf (t:TT) (ta tb:TE):TE:=fun σ H Q=>t σ H fun c H1=>if c=true then ta σ H1 Q else tb σ H1 Q
end
end L2
namespace L2
open PySem PySem.Spec PyProof.Rows
def SqL (K:PySem.W.Frag) (H:Hp) (a:Addr) (xs:List V):Prop :=
 Rd H a (.lst xs) ∨
  ∃(o:Obj) (its:Array Value) (n:Nat),K.lookup a=some o∧o.cls=.type "list"∧o.dict=none∧o.data=.seq its n∧its.size<=sizeLine∧Vals xs its.toList
def SqT (K:PySem.W.Frag) (H:Hp) (a:Addr) (xs:List V):Prop :=
 Rd H a (.tup xs) ∨
  ∃(o:Obj) (its:Array Value) (n:Nat),K.lookup a=some o∧o.cls=.type "tuple"∧o.data=.seq its n∧its.size<=sizeLine∧Vals xs its.toList
def absV:Value->Option V
 | .none=>some .non
 | .bool b=>some (.bl b)
 | .int i _=>some (.int i)
 | .str x _=>some (.str x)
 | .bytes b _=>some (.byt b)
 | .float b _=>some (.flt b)
 | .ref a=>some (.ref a)
 | .type n=>some (.ty n)
 | _=>none
theorem RelV.abs {x:V} {u:Value} (r:RelV x u):absV u=some x:=by
 cases x with
 | non=>cases r;rfl
 | bl _=>cases r;rfl
 | int _=>obtain ⟨t,rfl⟩:=r;rfl
 | str _=>obtain ⟨t,rfl⟩:=r;rfl
 | byt _=>obtain ⟨t,rfl⟩:=r;rfl
 | flt _=>obtain ⟨t,rfl⟩:=r;rfl
 | ref _=>cases r;rfl
 | ty _=>cases r;rfl
theorem RelV.inj {x y:V} {u:Value} (r:RelV x u) (q:RelV y u):x=y:=Option.some.inj (r.abs.symm.trans q.abs)
theorem Vals.inj:∀{xs ys:List V} {us:List Value},Vals xs us->Vals ys us->xs=ys
 | _,_,_,.nil,.nil=>rfl
 | _,_,_,.cons r t,.cons r' t'=>by rw[r.inj r',Vals.inj t t']
section
variable {X:Cx} {pins:List (Addr×Obj)} {σ:St} {H:Hp} {s:Shared} {a:Addr} {xs ys:List V}
theorem SqL.of {K:PySem.W.Frag} (h:H a=some (.lst xs)):SqL K H a xs:=.inl (.inl h)
theorem SqT.of {K:PySem.W.Frag} (h:H a=some (.tup xs)):SqT K H a xs:=.inl (.inl h)
theorem Inv.list (I:Inv X pins σ H s) (h:SqL X.K H a xs):∃its:List Value,Vals xs its∧PlainL s.heap a its.toArray∧xs.length<=sizeLine:=by
 rcases h with h | ⟨o,its,n,hk,hc,hd,hs,hz,r⟩
 ·obtain ⟨z,its,n,r,e⟩:=h.ok I.hok
  exact ⟨its,r,⟨_,n,e,rfl,rfl,rfl⟩,z⟩
 ·refine ⟨its.toList,r,⟨o,n,I.kIn a o hk,hc,hd,by simpa using hs⟩,?_⟩
  have e:=r.length
  simp only[Array.length_toList] at e
  lia
theorem Inv.tuple (I:Inv X pins σ H s) (h:SqT X.K H a xs):∃its:List Value,Vals xs its∧IsTup s.heap a its.toArray∧xs.length<=sizeLine:=by
 rcases h with h | ⟨o,its,n,hk,hc,hs,hz,r⟩
 ·obtain ⟨z,its,r,p⟩:=h.ok I.hok
  exact ⟨its,r,p,z⟩
 ·refine ⟨its.toList,r,⟨o,I.kIn a o hk,hc,n,by simpa using hs⟩,?_⟩
  have e:=r.length
  simp only[Array.length_toList] at e
  lia
theorem Inv.list_inj (I:Inv X pins σ H s) (h:SqL X.K H a xs) (h':SqL X.K H a ys):xs=ys:=by
 obtain ⟨its,r,⟨o,n,e,_,_,d⟩,_⟩:=I.list h
 obtain ⟨its',r',⟨o',n',e',_,_,d'⟩,_⟩:=I.list h'
 rw[e] at e';cases e'
 rw[d] at d'
 injection d' with d1 _
 have:its=its':=by simpa using congrArg Array.toList d1
 subst this
 exact r.inj r'
theorem Inv.tuple_inj (I:Inv X pins σ H s) (h:SqT X.K H a xs) (h':SqT X.K H a ys):xs=ys:=by
 obtain ⟨its,r,⟨o,e,_,n,d⟩,_⟩:=I.tuple h
 obtain ⟨its',r',⟨o',e',_,n',d'⟩,_⟩:=I.tuple h'
 rw[e] at e';cases e'
 rw[d] at d'
 injection d' with d1 _
 have:its=its':=by simpa using congrArg Array.toList d1
 subst this
 exact r.inj r'
end
abbrev Cx.wish (X:Cx) (E:Value->Shared->Prop):Cx:={ X with xe:=E }
abbrev Cx.nox (X:Cx):Cx:=X.wish fun _ _=>False
theorem Cx.Ok.wish {X:Cx} (ok:X.Ok) (E:Value->Shared->Prop):(X.wish E).Ok :=
 ⟨ok.mod,ok.kind,ok.glob,ok.blt,ok.above,ok.inj,ok.has,ok.cab,ok.hd,ok.frames,ok.stk,ok.exf,ok.bs,ok.bsz,ok.noex,ok.exfs,ok.funs,ok.frf⟩
theorem Cx.Ok.unwish {X:Cx} {E:Value->Shared->Prop} (ok:(X.wish E).Ok):X.Ok :=
 ⟨ok.mod,ok.kind,ok.glob,ok.blt,ok.above,ok.inj,ok.has,ok.cab,ok.hd,ok.frames,ok.stk,ok.exf,ok.bs,ok.bsz,ok.noex,ok.exfs,ok.funs,ok.frf⟩
section
variable {X:Cx} {pins:List (Addr×Obj)} {σ:St} {H:Hp} {s:Shared} {E:Value->Shared->Prop}
theorem Inv.wish (I:Inv X pins σ H s) (E:Value->Shared->Prop):Inv (X.wish E) pins σ H s:=⟨I.ok.wish E,I.os,I.bare,I.base,I.loc,I.cell,I.free,I.freeC,I.pin,I.hok,I.len⟩
theorem Inv.unwish (I:Inv (X.wish E) pins σ H s):Inv X pins σ H s:=⟨I.ok.unwish,I.os,I.bare,I.base,I.loc,I.cell,I.free,I.freeC,I.pin,I.hok,I.len⟩
theorem SP.unwish {D:Ends} {f:Flow} {s':Shared} (h:SP (X.wish E) pins D f s'):SP X pins D f s':=by
 cases f with
 | next=>obtain ⟨σ',H',I,q⟩:=h;exact ⟨σ',H',I.unwish,q⟩
 | brk=>obtain ⟨σ',H',I,q⟩:=h;exact ⟨σ',H',I.unwish,q⟩
 | cont=>obtain ⟨σ',H',I,q⟩:=h;exact ⟨σ',H',I.unwish,q⟩
 | ret u=>obtain ⟨v,σ',H',I,r,q⟩:=h;exact ⟨v,σ',H',I.unwish,r,q⟩
theorem PE.nox {e:Expr} {t:TE} (h:PE X.nox e t):PE X e t:=fun pins s σ H Q I hw =>
 wpAny_mono (h pins s σ H Q (I.wish _) hw) (fun _ _ ⟨v,H',I',r,q⟩=>⟨v,H',I'.unwish,r,q⟩) fun _ _ z=>False.elim z
theorem PT.nox {e:Expr} {t:TT} (h:PT X.nox e t):PT X e t:=fun pins s σ H Q I hw =>
 wpAny_mono (h pins s σ H Q (I.wish _) hw) (fun _ _ ⟨H',I',q⟩=>⟨H',I'.unwish,q⟩) fun _ _ z=>False.elim z
theorem PSs.nox {st:List Stmt} {t:TS} (h:PSs X.nox st t):PSs X st t:=fun pins s σ H D I hw =>
 wpAny_mono (h pins s σ H D (I.wish _) hw) (fun _ _ q=>q.unwish) fun _ _ z=>False.elim z
end
section
variable {X:Cx} {st:Stmt} {rest:List Stmt} {t u:TS} {e:Expr} {te:TE} {pos:Pos}
def tNext:TS:=fun D σ H=>D.nx σ H
def tSeq (t u:TS):TS:=fun D σ H=>t { D with nx:=u D } σ H
theorem pss_nil:PSs X [] tNext:=fun _ _ σ H _ I h=>wpAny_execs_nil ⟨σ,H,I,h⟩
theorem pss_cons (h1:PS X st t) (h2:PSs X rest u):PSs X (st :: rest) (tSeq t u):=by
 intro pins s σ H D I h
 refine wpAny_execs_cons (thn (h1 pins s σ H { D with nx:=u D } I h) fun f s1 q=>?_)
 cases f with
 | next =>
  obtain ⟨σ',H',I',q⟩:=q
  exact h2 pins s1 σ' H' D I' q
 | ret v=>exact q
 | brk=>exact q
 | cont=>exact q
theorem pss_one (h1:PS X st t):PSs X [st] t:=by
 intro pins s σ H D I h
 refine wpAny_execs_cons (thn (h1 pins s σ H D I h) fun f s1 q=>?_)
 cases f with
 | next=>exact wpAny_execs_nil q
 | ret v=>exact q
 | brk=>exact q
 | cont=>exact q
def tBreak:TS:=fun D σ H=>D.bk σ H
def tCont:TS:=fun D σ H=>D.ct σ H
theorem Inv.quiet {pins:List (Addr×Obj)} {σ:St} {H:Hp} {s:Shared} (I:Inv X pins σ H s):interactive X.env=false:=by simp [interactive,I.ok.kind]
def tDrop (te:TE):TS:=fun D σ H=>te σ H fun _ H1=>D.nx σ H1
theorem ps_expr (he:PE X e te) (hs:swapsWith e none pos.line X.env=pure false:=by rfl):PS X (.Expr e pos) (tDrop te):=by
 intro pins s σ H D I h
 exact wpAny_Expr_any (thn (he pins s σ H _ I h) fun v s1 ⟨x,H1,I1,r1,q1⟩=>⟨σ,H1,I1,q1⟩) I.quiet hs
def tRet (te:TE):TS:=fun D σ H=>te σ H D.rt
theorem ps_ret (he:PE X e te):PS X (.Return (some e) pos) (tRet te):=by
 intro pins s σ H D I h
 exact wpAny_Return_some (thn (he pins s σ H _ I h) fun v s1 ⟨x,H1,I1,r1,q1⟩=>⟨x,σ,H1,I1,r1,q1⟩)
def tRetN:TS:=fun D _ H=>D.rt .non H
def tIfS (c:TT) (t u:TS):TS:=fun D σ H=>c σ H fun b H1=>if b=true then t D σ H1 else u D σ H1
theorem ps_if {c:Expr} {a b:List Stmt} {tc:TT} (hc:PT X c tc) (ha:PSs X a t) (hb:PSs X b u):PS X (.If c a b pos) (tIfS tc t u):=by
 intro pins s σ H D I h
 refine wpAny_If (thn (hc pins s σ H _ I h) fun d s1 ⟨H1,I1,q1⟩=>?_)
 cases d with
 | true=>exact ha pins s1 σ H1 D I1 q1
 | false=>exact hb pins s1 σ H1 D I1 q1
end
abbrev TG:=V->St->Hp->(St->Hp->Prop)->Prop
abbrev TGs:=List V->St->Hp->(St->Hp->Prop)->Prop
def PG (X:Cx) (target:Expr) (t:TG):Prop :=
 ∀(pins:List (Addr×Obj)) (s:Shared) (σ:St) (H:Hp) (v:V) (u:Value) (Q:St->Hp->Prop),Inv X pins σ H s->RelV v u->t v σ H Q →
  wpAny (model X.prog X.w) X.A (assign target X.env u) (fun _ s'=>∃σ' H',Inv X pins σ' H' s'∧Q σ' H') X.xe s
abbrev TSet:=V->V->V->Hp->(Hp->Prop)->Prop
def PSet (X:Cx) (t:TSet):Prop :=
 ∀(pins:List (Addr×Obj)) (s:Shared) (σ:St) (H:Hp) (o i v:V) (ov iv u:Value) (Q:Hp->Prop),Inv X pins σ H s->RelV o ov->RelV i iv->RelV v u->t o i v H Q →
  wpAny (model X.prog X.w) X.A (setItem ov iv u) (fun _ s'=>∃H',Inv X pins σ H' s'∧Q H') X.xe s
abbrev TIp:=V->V->Hp->VK->Prop
def PIp (X:Cx) (op:Operator) (t:TIp):Prop :=
 ∀(pins:List (Addr×Obj)) (s:Shared) (σ:St) (H:Hp) (x y:V) (v u:Value) (Q:VK),Inv X pins σ H s->RelV x v->RelV y u->t x y H Q →
  wpAny (model X.prog X.w) X.A (inplaceOp op v u) (EP X pins σ Q) X.xe s
section
variable {X:Cx} {pos:Pos}
def gName (i:Nat):TG:=fun v σ H Q=>Q (σ.set i (some v)) H
theorem pg_name {i:Nat} {x:Str} (hN:X.N.Nodup) (hi:X.N[i]?=some x) (hx:Loc X.env.scope x) (hf:X.fn x=true∨X.env.scope.names.lookup x=some .local:=by first | exact .inl rfl | exact .inr rfl | assumption):PG X (.Name x pos) (gName i):=by
 intro pins s σ H v u Q I r h
 exact wpAny_assign_Name (store_ok I hN hi hx r (fun s' I'=>⟨_,H,I',h⟩) hf)
def gNil:TGs:=fun vs σ H Q=>vs=[]∧Q σ H
def gCons (t:TG) (u:TGs):TGs:=fun vs σ H Q=>∃v r,vs=v :: r∧t v σ H fun σ' H'=>u r σ' H' Q
def gTup (K:PySem.W.Frag) (n:Nat) (t:TGs):TG:=fun v σ H Q=>∃a xs,v=.ref a∧SqT K H a xs∧xs.length=n∧t xs σ H Q
def gSub (to ti:TE) (t:TSet):TG:=fun v σ H Q=>to σ H fun o H1=>ti σ H1 fun i H2=>t o i v H2 fun H3=>Q σ H3
theorem pg_sub {o i : Expr} {to ti : TE} {t : TSet} (ho : PE X o to) (hi : PE X i ti) (hs : PSet X t)
    (ha : ∀ v, assign (.Subscript o i pos) X.env v = (do
      let ov ← holding [v] (eval o X.env)
      let iv ← holding [v, ov] (eval i X.env)
      standAt pos
      holding [v, ov, iv] (setItem ov iv v)
      release [v, ov, iv] []) := by intro _; rfl) : PG X (.Subscript o i pos) (gSub to ti t) := by
  intro pins s σ H v u Q I r h
  rw [ha]
  refine wpAny_bind (wpAny_holding (thn (ho pins s σ H _ I h) fun ov s1 ⟨x, H1, I1, r1, q1⟩ => ?_))
  refine wpAny_bind (wpAny_holding (thn (hi pins s1 σ H1 _ I1 q1) fun iv s2 ⟨y, H2, I2, r2, q2⟩ => ?_))
  refine wpAny_bind (wpAny_standAt (wpAny_bind (wpAny_holding (thn (hs pins s2 σ H2 x y v ov iv u _ I2 r1 r2 r q2) fun _ s3 ⟨H3, I3, q3⟩ => ?_))))
  exact wpAny_release ⟨σ, H3, I3, q3⟩
def tAsg (te:TE) (g:TG):TS:=fun D σ H=>te σ H fun x H1=>g x σ H1 D.nx
theorem ps_asg {tg e:Expr} {te:TE} {g:TG} (he:PE X e te) (hg:PG X tg g) (hs:swapsWithSole [tg] e pos.line X.env=pure false:=by rfl) (hw:swappedStores [tg] e X.env=pure none:=by rfl)
  (h1:(assignEach [tg] X.env).map (·.2)=[assign tg X.env]:=by rfl):PS X (.Assign [tg] e pos) (tAsg te g):=by
 intro pins s σ H D I h
 refine wpAny_Assign_stores (thn (he pins s σ H _ I h) fun v s1 ⟨x,H1,I1,r1,q1⟩=>?_) hs hw
 rw[h1]
 exact thn (hg pins s1 σ H1 x v _ I1 r1 q1) fun _ s2 q=>q
theorem ps_set {i:Nat} {x:Str} {e:Expr} {te:TE} {pos':Pos} (hN:X.N.Nodup) (hi:X.N[i]?=some x) (hx:Loc X.env.scope x) (he:PE X e te) (hs:swapsWith e (some (.Name x pos')) pos.line X.env=pure false:=by rfl) (hf:X.fn x=true∨X.env.scope.names.lookup x=some .local:=by first | exact .inl rfl | exact .inr rfl | assumption) :
  PS X (.Assign [.Name x pos'] e pos) (tAsg te (gName i)):=by
 intro pins s σ H D I h
 refine wpAny_Assign_Name (thn (he pins s σ H _ I h) fun v s1 ⟨y,H1,I1,r1,q1⟩=>?_) hs
 exact store_ok I1 hN hi hx r1 (fun s2 I2=>⟨_,H1,I2,q1⟩) hf
def tPar (i j:Nat) (ta:TA):TS:=fun D σ H=>ta σ H fun vs H1=>∃v w,vs=[v,w]∧D.nx ((σ.set i (some v)).set j (some w)) H1
theorem ps_par {i j : Nat} {x y : Str} {a b : Expr} {ta : TA} {px py pt : Pos} {kt k2 pt2} (hc : X.calm = true) (hN : X.N.Nodup) (hi : X.N[i]? = some x) (hj : X.N[j]? = some y) (hij : i ≠ j)
    (hx : X.env.scope.names.lookup x = some .local) (hy : X.env.scope.names.lookup y = some .local) (ha : PA X [a, b] ta)
    (hw : swappedStores [.Tuple [.Name x px, .Name y py] kt pt] (.Tuple [a, b] k2 pt2) X.env = pure (some [x, y]))
    (hs : swapsWithSole [.Tuple [.Name x px, .Name y py] kt pt] (.Tuple [a, b] k2 pt2) pos.line X.env = pure false := by rfl) :
    PS X (.Assign [.Tuple [.Name x px, .Name y py] kt pt] (.Tuple [a, b] k2 pt2) pos) (tPar i j ta) := by
  intro pins s σ H D I h
  rw [exec_Assign_arm]
  refine wpAny_bind (wpAny_standAt ?_)
  rw [hs]
  refine wpAny_bind (wpAny_pure ?_)
  rw [if_neg (by decide)]
  refine wpAny_bind (Tuple_ (thn (ha _ pins s σ H _ I h) fun us s1 ⟨vs, H1, I1, r1, q1⟩ => ?_))
  obtain ⟨v, w, e1, q1⟩ := q1
  subst e1
  obtain ⟨u1, u2, rfl, rv, rw'⟩ : ∃ u1 u2, us = [u1, u2] ∧ RelV v u1 ∧ RelV w u2 := by
    cases r1 with
    | cons p q =>
      cases q with
      | cons p' q' =>
        cases q'
        exact ⟨_, _, rfl, p, p'⟩
  refine wpAny_newObj_type ?_ (by show 2 ≤ sizeLine; decide)
  have I2 : Inv X pins σ H1 { s1 with heap := s1.heap.push { cls := .type "tuple", data := .seq [u1, u2].toArray } } := I1.kept (t' := s1.toks) fun b o e => Heap.get?_push_of_some _ e
  rw [hw]
  refine wpAny_bind (wpAny_pure ?_)
  show wpAny (model X.prog X.w) X.A (do rule "assign.swapped-stores"; let items ← unpackItems (.ref s1.heap.objs.size) 2 none; assignInOrder [fun v => bindName X.env y v, fun v => bindName X.env x v] items.reverse; pure Flow.next) _ _ _
  refine wpAny_bind (wpAny_rule (wpAny_bind (unpackItems_tuple (items := #[u1, u2]) (I.ok.hd hc) (IsTup.new s1.heap _) fun h' hx' => ?_)))
  have I3 := I2.kept (h' := h') (t' := s1.toks) fun b o e => hx' b o (Nat.ne_of_lt (Heap.lt_size e)) e
  show wpAny _ _ (assignInOrder [fun v => bindName X.env y v, fun v => bindName X.env x v] [u2, u1] >>= fun _ => pure Flow.next) _ _ _
  refine wpAny_bind (assignInOrder_cons (wpAny_bindName (store_ok I3 hN hj (.inl hy) rw' (fun s2 I4 => ?_) (.inr hy))))
  refine assignInOrder_cons (wpAny_bindName (store_ok I4 hN hi (.inl hx) rv (fun s3 I5 => assignInOrder_nil (wpAny_pure ?_)) (.inr hx)))
  rw [List.set_comm _ _ (Ne.symm hij)] at I5
  exact ⟨_, H1, I5, q1⟩
def tAug (i:Nat) (te:TE) (ti:TIp):TS:=fun D σ H=>∃x,σ[i]?=some (some x)∧te σ H fun y H1=>ti x y H1 fun z H2=>D.nx (σ.set i (some z)) H2
def tAugS (to ti te:TE) (tget:V->V->Hp->VK->Prop) (tip:TIp) (tset:TSet):TS:=fun D σ H=>to σ H fun o H1=>ti σ H1 fun i H2=>tget o i H2 fun x H3=>te σ H3 fun y H4=>tip x y H4 fun z H5=>tset o i z H5 fun H6=>D.nx σ H6
def PGet (X:Cx) (t:V->V->Hp->VK->Prop):Prop :=
 ∀(pins:List (Addr×Obj)) (s:Shared) (σ:St) (H:Hp) (o i:V) (ov iv:Value) (Q:VK),Inv X pins σ H s->RelV o ov->RelV i iv->t o i H Q →
  wpAny (model X.prog X.w) X.A (getItem ov iv) (EP X pins σ Q) X.xe s
theorem ps_augS {o i e : Expr} {to ti te : TE} {tget : V → V → Hp → VK → Prop} {tip : TIp} {tset : TSet} {op : Operator} {tpos : Pos} (ho : PE X o to) (hi : PE X i ti) (hg : PGet X tget) (he : PE X e te) (hp : PIp X op tip) (hs : PSet X tset)
    (ha : ∀ ov iv new, augStore i ov iv new = (do holding [new, ov, iv] (setItem ov iv new); release [new, ov, iv] []; pure .next) := by intros; rfl) : PS X (.AugAssign (.Subscript o i tpos) op e pos) (tAugS to ti te tget tip tset) := by
  intro pins s σ H D I h
  refine wpAny_AugAssign_SubscriptAny (thn (ho pins s σ H _ I h) fun ov s1 ⟨x1, H1, I1, r1, q1⟩ => ?_) ha
  refine thn (hi pins s1 σ H1 _ I1 q1) fun iv s2 ⟨x2, H2, I2, r2, q2⟩ => ?_
  refine thn (hg pins s2 σ H2 x1 x2 ov iv _ I2 r1 r2 q2) fun old s3 ⟨x3, H3, I3, r3, q3⟩ => ?_
  refine thn (he pins s3 σ H3 _ I3 q3) fun v s4 ⟨x4, H4, I4, r4, q4⟩ => ?_
  refine thn (hp pins s4 σ H4 x3 x4 old v _ I4 r3 r4 q4) fun new s5 ⟨x5, H5, I5, r5, q5⟩ => ?_
  exact thn (hs pins s5 σ H5 x1 x2 x5 ov iv new _ I5 r1 r2 r5 q5) fun _ s6 ⟨H6, I6, q6⟩ => ⟨σ, H6, I6, q6⟩
def ipI (f:Int->Int->Int):TIp:=fun x y H Q=>∃i j,x=.int i∧y=.int j∧Q (.int (f i j)) H
theorem ip_add:PIp X .Add (ipI fun i j=>i+j):=by
 intro pins s σ H x y v u Q I r1 r2 h
 obtain ⟨i,j,e1,e2,q⟩:=h
 subst e1;subst e2
 obtain ⟨t,rfl⟩:=r1
 obtain ⟨t',rfl⟩:=r2
 exact iadd_int ⟨.int _,H,I.tok _,⟨_,rfl⟩,q⟩
end
section
variable {X:Cx} {pos:Pos}
def tWhile (c:TT) (tb:TS):TS:=fun D σ H=>∃W:Nat->St->Hp->Prop,(∃m,W m σ H)∧∀m σ H,W m σ H →
 c σ H fun b H1=>if b=true then ∃N:St->Hp->Prop,(∀σ' H',N σ' H'->∃m',m' < m∧W m' σ' H')∧tb { D with nx:=N,ct:=N,bk:=D.nx } σ H1 else D.nx σ H1
theorem ps_while {c:Expr} {body:List Stmt} {tc:TT} {tb:TS} (hp:PassesOwn (model X.prog X.w) X.A X.env X.xe) (hc:PT X c tc) (hb:PSs X body tb):PS X (.While c body [] pos) (tWhile tc tb):=by
 intro pins s σ H D I h
 obtain ⟨W,⟨m0,w0⟩,turn⟩:=h
 refine wpAny_While (codeAny_whileLoop (fun n s'=>∃σ' H',Inv X pins σ' H' s'∧W n σ' H') ?_ m0 ⟨σ,H,I,w0⟩)
 rintro n s1 ⟨σ1,H1,I1,w1⟩
 refine wpAny_passesOwn hp (thn (hc pins s1 σ1 H1 _ I1 (turn n σ1 H1 w1)) fun b s2 ⟨H2,I2,q2⟩=>?_)
 cases b with
 | true =>
  obtain ⟨N,hN,q2⟩:=q2
  rw[if_pos rfl]
  refine wpAny_passesOwn hp (thn (hb pins s2 σ1 H2 _ I2 q2) fun f s3 q3=>?_)
  cases f with
  | next =>
   obtain ⟨σ3,H3,I3,n3⟩:=q3
   obtain ⟨m',hm,w3⟩:=hN σ3 H3 n3
   exact ⟨m',hm,σ3,H3,I3,w3⟩
  | cont =>
   obtain ⟨σ3,H3,I3,n3⟩:=q3
   obtain ⟨m',hm,w3⟩:=hN σ3 H3 n3
   exact ⟨m',hm,σ3,H3,I3,w3⟩
  | brk=>exact q3
  | ret v=>exact q3
 | false =>
  rw[if_neg Bool.false_ne_true]
  exact wpAny_execs_nil ⟨σ1,H2,I2,q2⟩
end
structure It where
 go:Nat->Hp->Prop
 yld:Nat->Hp->V->Hp->Prop
 stop:Nat->Hp->Prop
def FpOk (X:Cx) (pins:List (Addr×Obj)) (H:Hp) (b:Addr):Prop :=
 H b=none∧b≠X.env.locals∧b∉X.fs∧(b∈X.ex∨X.s₀.heap.objs.size<=b)∧(∀x c,X.env.cells.lookup x=some c->c≠b)∧∀p∈X.pn++pins,p.1≠b
theorem Inv.fpOk {X:Cx} {pins:List (Addr×Obj)} {σ:St} {H H':Hp} {s:Shared} {b:Addr} (I:Inv X pins σ H s) (hb:s.heap.objs.size<=b) (hn:H' b=none):FpOk X pins H' b:=by
 refine ⟨hn,Nat.ne_of_gt (Nat.lt_of_lt_of_le I.lt hb),I.nofs hb,.inr (Nat.le_trans I.sz hb),fun x c e z=>?_,fun p hp z=>?_⟩
 ·obtain ⟨v,q⟩:=I.cell x c e
  exact absurd (Nat.lt_of_lt_of_le q.lt (by rw[z];exact hb)) (Nat.lt_irrefl _)
 ·exact absurd (Nat.lt_of_lt_of_le (Heap.lt_size (I.pin p hp).1) (by rw[z];exact hb)) (Nat.lt_irrefl _)
structure Turn (P:Program) (w:World) (K:PySem.W.Frag) (tg:Expr) (J:It) (fp:List Addr) (it:Addr) (tn:Nat->Heap->Prop):Prop where
 mem:it∈fp
 obj:∀i h,tn i h->∀b∈fp,∃o,h.get? b=some o∧∀v,o.data≠.cell v
 keep:∀i h h',tn i h->(∀b∈fp,∀o,h.get? b=some o->h'.get? b=some o)->tn i h'
 item:∀(X:Cx),X.prog=P->X.w=w->X.K=K->X.calm=true->∀(i:Nat) (pins:List (Addr×Obj)) (s:Shared) (σ:St) (H:Hp) (E:Value->Shared->Prop),Inv X pins σ H s->(∀b∈fp,FpOk X pins H b)->tn i s.heap->J.go i H →
  wpAny (model P w) X.A (pyNext (.ref it)) (fun r s1=>∃u,r=some u ∧
   wpAny (model P w) X.A (letOwnedTupleGo tg (.ref it) u) (fun _ s2=>∃x H',Inv X pins σ H' s2∧RelV x u∧J.yld i H x H'∧tn (i+1) s2.heap∧∀b∈fp,H' b=none) E s1) E s
 done:∀(X:Cx),X.prog=P->X.w=w->X.K=K->X.calm=true->∀(i:Nat) (pins:List (Addr×Obj)) (s:Shared) (σ:St) (H:Hp) (E:Value->Shared->Prop),Inv X pins σ H s->(∀b∈fp,FpOk X pins H b)->tn i s.heap->J.stop i H →
  wpAny (model P w) X.A (pyNext (.ref it)) (fun r s1=>r=none∧Inv X pins σ H s1) E s
 self:∀(A:Around) (i:Nat) (s:Shared) (Q:Value->Shared->Prop) (E:Value->Shared->Prop),tn i s.heap->Q (.ref it) s->wpAny (model P w) A (pyIter (.ref it)) Q E s
abbrev TI:=St->Hp->(It->Hp->Prop)->Prop
def PIE (X:Cx) (pins:List (Addr×Obj)) (σ:St) (tg:Expr) (R:It->Hp->Prop) (itv:Value) (s2:Shared):Prop :=
 ∃(it:Addr) (fp:List Addr) (tn:Nat->Heap->Prop) (J:It) (H':Hp),itv=.ref it∧Inv X pins σ H' s2∧Turn X.prog X.w X.K tg J fp it tn∧tn 0 s2.heap∧(∀b∈fp,FpOk X pins H' b)∧R J H'
def PI (X:Cx) (tg iter:Expr) (wi:TI):Prop :=
 ∀(pins:List (Addr×Obj)) (s:Shared) (σ:St) (H:Hp) (R:It->Hp->Prop),Inv X pins σ H s->wi σ H R →
  wpAny (model X.prog X.w) X.A (eval iter X.env) (fun v s1=>wpAny (model X.prog X.w) X.A (pyIter v) (PIE X pins σ tg R) X.xe s1) X.xe s
theorem go_of {M : Model} {A : Around} {E : Value → Shared → Prop} {s : Shared} {tg : Expr} {it : Addr} {u : Value} {o : Obj} {n : String} {vs : Array Value} {Q : Unit → Shared → Prop} (ho : s.heap.get? it = some o) (hc : o.cls = .type n) (hd : o.data = .fields vs)
    (hn : ["enumerate", "zip", "dict_itemiterator", "dict_reverseitemiterator", "odict_iterator", "itertools.zip_longest", "itertools.pairwise"].contains n = false) (hQ : Q () s) : wpAny M A (letOwnedTupleGo tg (.ref it) u) Q E s := by
  unfold letOwnedTupleGo
  cases tg <;> first
    | exact wpAny_pure hQ
    | (cases u <;> first
        | exact wpAny_pure hQ
        | (refine wpAny_bind (wpAny_load ho ?_)
           rw [hc, hd]
           show wpAny M A (if (["enumerate", "zip", "dict_itemiterator", "dict_reverseitemiterator", "odict_iterator", "itertools.zip_longest", "itertools.pairwise"].contains n && vs[0]? == some (rawInt _)) = true then _ else _) Q E s
           rw [if_neg (by intro h; rw [hn, Bool.false_and] at h; cases h)]
           exact wpAny_pure hQ))

def Itl (K:PySem.W.Frag) (a:Addr):It :=
 ⟨fun i H=>∃xs x,SqL K H a xs∧xs[i]?=some x,fun i H x H'=>H'=H∧∀xs,SqL K H a xs->xs[i]?=some x,fun i H=>∃xs,SqL K H a xs∧xs.length<=i⟩
def Itt (K:PySem.W.Frag) (a:Addr):It :=
 ⟨fun i H=>∃xs x,SqT K H a xs∧xs[i]?=some x,fun i H x H'=>H'=H∧∀xs,SqT K H a xs->xs[i]?=some x,fun i H=>∃xs,SqT K H a xs∧xs.length<=i⟩
def Itr (lo:Int) (n:Nat):It:=⟨fun i _=>i < n,fun i H x H'=>H'=H∧x=.int (lo+i),fun i _=>n<=i⟩
theorem turn_list {P:Program} {w:World} {K:PySem.W.Frag} {tg:Expr} (a it:Addr):Turn P w K tg (Itl K a) [it] it (fun i h=>h.IsListIter it a i) where
 mem:=by simp
 obj:=fun i h st b hb=>by
  have e:b=it:=by simpa using hb
  subst e
  obtain ⟨o,e,c,d⟩:=st
  exact ⟨o,e,fun v z=>by rw[d] at z;cases z⟩
 keep:=fun i h h' st k=>st.at fun o e=>k it (by simp) o e
 item:=by
  intro X hP hw hK hc i pins s σ H E I hf st hg
  subst hP hw hK
  obtain ⟨xs,x,hq,hx⟩:=hg
  obtain ⟨its,rv,p,hz⟩:=I.list hq
  obtain ⟨u,hu,ru⟩:=rv.get hx
  obtain ⟨f0,f1,f2,f3,f4,f5⟩:=hf it (by simp)
  refine wpAny_pyNext_list_item st p.isList (x:=u) (by simpa using hu) fun h' st' sb=>?_
  have I1:Inv X pins σ H { s with heap:=h' }:=I.turned (t':=s.toks) (fun b o hb e=>(sb.2 b hb).trans e) f0 f1 f3 f4 f5
  obtain ⟨o,e,c,d⟩:=id st'
  exact ⟨u,rfl,go_of (s:={ s with heap:=h' }) e c d (by decide) ⟨x,H,I1,ru,⟨rfl,fun ys hy=>by rw[I.list_inj hy hq];exact hx⟩,st',fun b hb=>(hf b hb).1⟩⟩
 done:=by
  intro X hP hw hK hc i pins s σ H E I hf st hg
  subst hP hw hK
  obtain ⟨xs,hq,hx⟩:=hg
  obtain ⟨its,rv,p,hz⟩:=I.list hq
  obtain ⟨f0,f1,f2,f3,f4,f5⟩:=hf it (by simp)
  have hl:=rv.length
  exact wpAny_pyNext_list_end (I.ok.hd hc) st p.isList (by simp;lia) fun h' eb=>⟨rfl,I.turned (t':=s.toks) (fun b o hb e=>eb b o hb e) f0 f1 f3 f4 f5⟩
 self:=fun _ _ _ _ _ st h=>wpAny_pyIter_listiter st h
theorem turn_range {P:Program} {w:World} {K:PySem.W.Frag} {tg:Expr} (it:Addr) (lo:Int) (n:Nat):Turn P w K tg (Itr lo n) [it] it (fun i h=>IsRangeIter h it (lo+(i:Nat)*1) ((n:Int) - (i:Nat)) 1) where
 mem:=by simp
 obj:=fun i h st b hb=>by
  have e:b=it:=by simpa using hb
  subst e
  exact ⟨_,st,fun v z=>by
   have z':Data.fields _=Data.cell v:=z
   cases z'⟩
 keep:=fun i h h' st k=>k it (by simp) _ st
 item:=by
  intro X hP hw hK hc i pins s σ H E I hf st hg
  subst hP hw hK
  obtain ⟨f0,f1,f2,f3,f4,f5⟩:=hf it (by simp)
  have W:=Walks.range (prog:=X.prog) (w:=X.w) (I.ok.hd hc) it lo 1 n
  refine W.item i s _ _ hg st fun v h' tk hv st' kk=>?_
  obtain ⟨t,rfl⟩:=hv
  have I1:Inv X pins σ H { s with heap:=h',toks:=tk }:=I.turned (fun b o hb e=>kk b o (by simpa using hb) e) f0 f1 f3 f4 f5
  refine ⟨_,rfl,go_of (s:={ s with heap:=h',toks:=tk }) (n:="range_iterator") st' rfl rfl (by decide) ⟨.int (lo+i),H,I1,⟨t,?_⟩,⟨rfl,rfl⟩,st',fun b hb=>(hf b hb).1⟩⟩
  rw[Int.mul_one]
 done:=by
  intro X hP hw hK hc i pins s σ H E I hf st hg
  subst hP hw hK
  obtain ⟨f0,f1,f2,f3,f4,f5⟩:=hf it (by simp)
  exact wpAny_pyNext_range_end (I.ok.hd hc) st (by have:n<=i:=hg;lia) fun h' eb=>⟨rfl,I.turned (t':=s.toks) (fun b o hb e=>eb b o hb e) f0 f1 f3 f4 f5⟩
 self:=fun _ _ _ _ _ st h=>wpAny_pyIter_rangeiter st h
end L2
namespace L2
open PySem PySem.Spec PyProof.Rows
section
variable {X:Cx} {tg:Expr}
def iList (K:PySem.W.Frag) (tl:TE):TI:=fun σ H R=>tl σ H fun x H1=>∃a,x=.ref a∧(∃xs,SqL K H1 a xs)∧R (Itl K a) H1
def iTup (K:PySem.W.Frag) (tl:TE):TI:=fun σ H R=>tl σ H fun x H1=>∃a,x=.ref a∧(∃xs,SqT K H1 a xs)∧R (Itt K a) H1
theorem pi_list {l:Expr} {tl:TE} (hl:PE X l tl):PI X tg l (iList X.K tl):=by
 intro pins s σ H R I h
 refine thn (hl pins s σ H _ I h) fun v s1 ⟨x,H1,I1,r1,q1⟩=>?_
 obtain ⟨a,e,⟨xs,hq⟩,q⟩:=q1
 subst e
 cases r1
 obtain ⟨its,rv,p,hz⟩:=I1.list hq
 refine wpAny_pyIter_list p.isList ?_
 refine ⟨s1.heap.objs.size,[s1.heap.objs.size],_,_,H1,rfl,I1.kept (t':=s1.toks) fun b o e=>Heap.get?_push_of_some _ e,turn_list a _,⟨_,Heap.get?_push_size _ rfl,rfl,rfl⟩,fun b hb=>?_,q⟩
 have e:b=s1.heap.objs.size:=by simpa using hb
 subst e
 exact I1.fpOk (Nat.le_refl _) (I1.hok.fresh (Nat.le_refl _))
theorem range_it {pins:List (Addr×Obj)} {σ:St} {H:Hp} {s:Shared} {R:It->Hp->Prop} {E:Value->Shared->Prop} {lo hi:Int} {t u v:Tok} {tk:Nat} (I:Inv X pins σ H s) (h1:-(2^62)<=lo) (h2:lo < 2^62) (h3:-(2^62)<=hi) (h4:hi < 2^62)
  (q:R (Itr lo (hi - lo).toNat) H):wpAny (model X.prog X.w) X.A (pyIter (.ref s.heap.objs.size)) (PIE X pins σ tg R) E { s with heap:=s.heap.push { cls:=.type "range",data:=.fields #[.int lo t,.int hi u,.int 1 v] },toks:=tk }:=by
 refine wpAny_pyIter_range (IsRange.new ..) (small_one h1 h2 h3 h4) ?_
 have I1:Inv X pins σ H { s with heap:=s.heap.push { cls:=.type "range",data:=.fields #[.int lo t,.int hi u,.int 1 v] },toks:=tk }:=I.kept fun b o e=>Heap.get?_push_of_some _ e
 refine ⟨(s.heap.push { cls:=.type "range",data:=.fields #[.int lo t,.int hi u,.int 1 v] }).objs.size,[(s.heap.push { cls:=.type "range",data:=.fields #[.int lo t,.int hi u,.int 1 v] }).objs.size],_,_,H,rfl,
  I1.kept (t':=tk) fun b o e=>Heap.get?_push_of_some _ e,turn_range _ lo (hi - lo).toNat,?_,fun b hb=>?_,q⟩
 ·have e1:lo+((0:Nat):Int)*1=lo:=by simp
  have e2:(((hi - lo).toNat:Nat):Int) - ((0:Nat):Int)=Builtin.Range.rangeSize lo hi 1:=by rw[rangeSize_one];split <;> lia
  show IsRangeIter _ _ (lo+((0:Nat):Int)*1) ((((hi - lo).toNat:Nat):Int) - ((0:Nat):Int)) 1
  rw[e1,e2]
  exact Heap.get?_push_size _ rfl
 ·have e:b=(s.heap.push { cls:=.type "range",data:=.fields #[.int lo t,.int hi u,.int 1 v] }).objs.size:=by simpa using hb
  subst e
  exact I1.fpOk (Nat.le_refl _) (I1.hok.fresh (Nat.le_refl _))
def iRng1 (ta:TA):TI:=fun σ H R=>ta σ H fun vs H1=>∃j:Int,vs=[.int j]∧-(2^62)<=j∧j < 2^62∧R (Itr 0 j.toNat) H1
def iRng2 (ta:TA):TI:=fun σ H R=>ta σ H fun vs H1=>∃i j:Int,vs=[.int i,.int j]∧(-(2^62)<=i∧i < 2^62∧-(2^62)<=j∧j < 2^62)∧R (Itr i (j - i).toNat) H1
theorem pi_range1 {a:Expr} {ta:TA} {p pos:Pos} (hg:Gl X "range") (hm:X.mg "range"=none) (ha:PA X [a] ta) (hs:starEach [a] X.env=[(false,eval a X.env)]:=by rfl):PI X tg (.Call (.Name "range" p) [a] [] pos) (iRng1 ta):=by
 intro pins s σ H R I h
 refine Call_ (ld_blt I hg hm boot_range (PyProof.Rows.callWith_type1 (thn (ha pos pins s σ H _ I h) fun us s1 ⟨vs,H1,I1,r1,q1⟩=>?_) hs rfl))
 obtain ⟨j,e,q1,q2,q⟩:=q1
 subst e
 cases r1 with
 | cons r rr =>
  cases rr
  obtain ⟨t,rfl⟩:=r
  exact call_range_1 (range_it I1 (by lia) (by lia) q1 q2 (by simpa using q))
def tFor (wi:TI) (g:TG) (tb:TS):TS:=fun D σ H=>wi σ H fun J H1=>∃W:Nat->Nat->St->Hp->Prop,(∃m,W 0 m σ H1)∧∀i m σ H,W i m σ H →
 (J.stop i H∧D.nx σ H)∨(J.go i H∧∃N:St->Hp->Prop,(∀σ' H',N σ' H'->∃m',m' < m∧W (i+1) m' σ' H')∧∀x H',J.yld i H x H'->g x σ H' fun σ2 H2=>tb { D with nx:=N,ct:=N,bk:=D.nx } σ2 H2)
def pinsAt (fp:List Addr) (h:Heap):List (Addr×Obj):=fp.filterMap fun b=>(h.get? b).map fun o=>(b,o)
theorem mem_pinsAt {fp:List Addr} {h:Heap} {b:Addr} {o:Obj} (hb:b∈fp) (e:h.get? b=some o):(b,o)∈pinsAt fp h:=List.mem_filterMap.mpr ⟨b,hb,by rw[e];rfl⟩
theorem of_pinsAt {fp:List Addr} {h:Heap} {p:Addr×Obj} (hp:p∈pinsAt fp h):p.1∈fp∧h.get? p.1=some p.2:=by
 obtain ⟨b,hb,e⟩:=List.mem_filterMap.mp hp
 cases q:h.get? b with
 | none=>rw[q] at e;cases e
 | some o =>
  rw[q] at e
  have e':(b,o)=p:=Option.some.inj e
  subst e'
  exact ⟨hb,q⟩
theorem Inv.pinned {pins:List (Addr×Obj)} {σ:St} {H:Hp} {s:Shared} {fp:List Addr} (I:Inv X pins σ H s) (hf:∀b∈fp,FpOk X pins H b) (ho:∀b∈fp,∃o,s.heap.get? b=some o∧∀v,o.data≠.cell v):Inv X (pins++pinsAt fp s.heap) σ H s :=
 I.pins_of fun p hp=>(List.mem_append.mp hp).elim (fun z=>I.pin p (List.mem_append_right _ z)) fun z=>by
  obtain ⟨hb,e⟩:=of_pinsAt z
  obtain ⟨f0,f1,f2,_⟩:=hf p.1 hb
  obtain ⟨o,e',d⟩:=ho p.1 hb
  rw[e] at e';cases e'
  exact ⟨e,f0,f1,f2,d⟩
theorem Inv.unpinned {pins pl:List (Addr×Obj)} {σ:St} {H:Hp} {s:Shared} (I:Inv X (pins++pl) σ H s):Inv X pins σ H s:=I.pins_of fun p hp=>I.pin p (List.mem_append_right _ (List.mem_append_left _ hp))
theorem ps_for {iter : Expr} {body : List Stmt} {wi : TI} {g : TG} {tb : TS} {pos : Pos} (hp : PassesOwn (model X.prog X.w) X.A X.env X.xe) (hc : X.calm = true) (hi : PI X tg iter wi) (hg : PG X tg g) (hb : PSs X body tb)
    (hs : ∀ x, foldedSetIterable iter X.env x = pure x := by intro _; rfl) : PS X (.For tg iter body [] pos) (tFor wi g tb) := by
  intro pins s σ H D I h
  refine wpAny_For (thn (hi pins s σ H _ I h) fun v s1 h1 => thn h1 fun itv s2 h2 => ?_) hs
  obtain ⟨it, fp, tn, J, H2, e, I2, T, st2, f2, W, ⟨m0, w0⟩, turn⟩ := h2
  subst e
  -- what stays true of the iterator's objects through the loop
  have stat : ∀ {H' : Hp}, (∀ b ∈ fp, H' b = none) → ∀ b ∈ fp, FpOk X pins H' b := fun hn b hb => ⟨hn b hb, (f2 b hb).2⟩
  refine codeAny_forLoop_any (fun n s' => ∃ i σ' H', Inv X pins σ' H' s' ∧ tn i s'.heap ∧ (∀ b ∈ fp, H' b = none) ∧ W i n σ' H') ?_ m0 ⟨0, σ, H2, I2, st2, fun b hb => (f2 b hb).1, w0⟩
  rintro n s3 ⟨i, σ3, H3, I3, st3, fr3, w3⟩
  rcases turn i n σ3 H3 w3 with ⟨stop, qn⟩ | ⟨go, N, hN, step⟩
  · refine wpAny_passesOwn hp (thn (T.done X rfl rfl rfl hc i pins s3 σ3 H3 X.xe I3 (stat fr3) st3 stop) fun r s4 ⟨hr, I4⟩ => ?_)
    subst hr
    exact wpAny_execs_nil ⟨σ3, H3, I4, qn⟩
  · refine wpAny_passesOwn hp (thn (T.item X rfl rfl rfl hc i pins s3 σ3 H3 X.xe I3 (stat fr3) st3 go) fun r s4 ⟨u, hr, h4⟩ => ?_)
    subst hr
    refine wpAny_passesOwn hp (thn h4 fun _ s5 ⟨x, H5, I5, r5, y5, st5, fr5⟩ => ?_)
    have I5' := I5.pinned (stat fr5) (T.obj _ _ st5)
    refine wpAny_passesOwn hp (thn (hg _ s5 σ3 H5 x u _ I5' r5 (step x H5 y5)) fun _ s6 ⟨σ6, H6, I6, q6⟩ => ?_)
    refine wpAny_passesOwn hp (thn (hb _ s6 σ6 H6 _ I6 q6) fun f s7 q7 => ?_)
    have again : ∀ {σ7 : St} {H7 : Hp}, Inv X (pins ++ pinsAt fp s5.heap) σ7 H7 s7 → N σ7 H7 → ∃ m, m < n ∧ ∃ i σ' H', Inv X pins σ' H' s7 ∧ tn i s7.heap ∧ (∀ b ∈ fp, H' b = none) ∧ W i m σ' H' := fun {σ7 H7} I7 n7 => by
      obtain ⟨m', hm, w7⟩ := hN σ7 H7 n7
      refine ⟨m', hm, i + 1, σ7, H7, I7.unpinned, T.keep _ _ _ st5 fun b hb o e => (I7.pin (b, o) (List.mem_append_right _ (List.mem_append_right _ (mem_pinsAt hb e)))).1, fun b hb => ?_, w7⟩
      obtain ⟨o, e, d⟩ := T.obj _ _ st5 b hb
      exact (I7.pin (b, o) (List.mem_append_right _ (List.mem_append_right _ (mem_pinsAt hb e)))).2.1
    cases f with
    | next => obtain ⟨σ7, H7, I7, n7⟩ := q7; exact again I7 n7
    | cont => obtain ⟨σ7, H7, I7, n7⟩ := q7; exact again I7 n7
    | brk => obtain ⟨σ7, H7, I7, q7⟩ := q7; exact ⟨σ7, H7, I7.unpinned, q7⟩
    | ret v => obtain ⟨x7, σ7, H7, I7, r7, q7⟩ := q7; exact ⟨x7, σ7, H7, I7.unpinned, r7, q7⟩
end
theorem for_range {lo:Int} {n:Nat} {g:TG} {tb:TS} {D:Ends} {σ:St} {H:Hp} (Pv:Nat->St->Hp->Prop) (h0:Pv 0 σ H)
  (hs:∀i σ H,i < n->Pv i σ H->g (.int (lo+i)) σ H fun σ2 H2=>tb { D with nx:=Pv (i+1),ct:=Pv (i+1),bk:=D.nx } σ2 H2) (hd:∀σ H,Pv n σ H->D.nx σ H) :
  ∃W:Nat->Nat->St->Hp->Prop,(∃m,W 0 m σ H)∧∀i m σ H,W i m σ H →
   ((Itr lo n).stop i H∧D.nx σ H)∨((Itr lo n).go i H∧∃N:St->Hp->Prop,(∀σ' H',N σ' H'->∃m',m' < m∧W (i+1) m' σ' H')∧∀x H',(Itr lo n).yld i H x H'->g x σ H' fun σ2 H2=>tb { D with nx:=N,ct:=N,bk:=D.nx } σ2 H2):=by
 refine ⟨fun i m σ H=>m=n - i∧i<=n∧Pv i σ H,⟨n,by simp,Nat.zero_le _,h0⟩,?_⟩
 rintro i m σ H ⟨rfl,hi,p⟩
 by_cases hlt:i < n
 ·refine .inr ⟨hlt,Pv (i+1),fun σ' H' p'=>⟨n - (i+1),by lia,rfl,hlt,p'⟩,fun x H' y=>?_⟩
  obtain ⟨e,y⟩:=y
  subst e y
  exact hs i σ _ hlt p
 ·have e:i=n:=by lia
  subst e
  exact .inl ⟨Nat.le_refl _,hd σ H p⟩
end L2
namespace L2
open PySem PySem.Spec PyProof.Rows
abbrev R2:=V->V->Hp->VK->Prop
def OpR (X:Cx) (f:Value->Value->Sem Value) (r:R2):Prop :=
 ∀(pins:List (Addr×Obj)) (s:Shared) (σ:St) (H:Hp) (x y:V) (v u:Value) (Q:VK),Inv X pins σ H s->RelV x v->RelV y u->r x y H Q →
  wpAny (model X.prog X.w) X.A (f v u) (EP X pins σ Q) X.xe s
def CallR (X:Cx) (f:Value) (r:List V->Hp->VK->Prop):Prop :=
 ∀(pins:List (Addr×Obj)) (s:Shared) (σ:St) (H:Hp) (xs:List V) (us:List Value) (Q:VK),Inv X pins σ H s->Vals xs us->r xs H Q →
  wpAny (model X.prog X.w) X.A (call f us) (EP X pins σ Q) X.xe s
def tOp (r:R2) (ta tb:TE):TE:=fun σ H Q=>ta σ H fun x H1=>tb σ H1 fun y H2=>r x y H2 Q
def tUn (r:V->Hp->VK->Prop) (ta:TE):TE:=fun σ H Q=>ta σ H fun x H1=>r x H1 Q
def rI (C:Int->Int->Prop) (g:Int->Int->V):R2:=fun x y H Q=>∃i j,x=.int i∧y=.int j∧C i j∧Q (g i j) H
def rI0 (g:Int->Int->V):R2:=fun x y H Q=>∃i j,x=.int i∧y=.int j∧Q (g i j) H
def rU (g:Int->V):V->Hp->VK->Prop:=fun x H Q=>∃i,x=.int i∧Q (g i) H
section
variable {X:Cx} {a b c:Expr} {ta tb tc:TE} {pos:Pos}
theorem binT (ha:PE X a ta) (hb:PE X b tb) {pins:List (Addr×Obj)} {s:Shared} {σ:St} {H:Hp} {R:V->V->Hp->Prop} (I:Inv X pins σ H s)
  (h:ta σ H fun x H1=>tb σ H1 fun y H2=>R x y H2) {Q:Value->Shared->Prop} {f:Value->Value->Sem Value}
  (hf:∀v u s2 x y H2,Inv X pins σ H2 s2->RelV x v->RelV y u->R x y H2->wpAny (model X.prog X.w) X.A (f v u) Q X.xe s2) :
  wpAny (model X.prog X.w) X.A (eval a X.env) (fun v s₁=>wpAny (model X.prog X.w) X.A (eval b X.env) (fun u s₂=>wpAny (model X.prog X.w) X.A (f v u) Q X.xe s₂) X.xe s₁) X.xe s:=by
 refine thn (ha pins s σ H _ I h) fun v s1 ⟨x,H1,I1,r1,q1⟩=>?_
 refine thn (hb pins s1 σ H1 _ I1 q1) fun u s2 ⟨y,H2,I2,r2,q2⟩=>?_
 exact hf v u s2 x y H2 I2 r1 r2 q2
theorem pe_op {op:Operator} {r:R2} (ho:OpR X (binaryOp op) r) (ha:PE X a ta) (hb:PE X b tb):PE X (.BinOp a op b pos) (tOp r ta tb):=by
 intro pins s σ H Q I h
 exact wpAny_BinOp (binT ha hb I h fun v u s2 x y H2 I2 rx ry q=>ho pins s2 σ H2 x y v u Q I2 rx ry q)
theorem opI {f:Value->Value->Sem Value} {C:Int->Int->Prop} {g:Int->Int->Int}
  (rule:∀(i j:Int) (t u:Tok) (s:Shared) (Q:Value->Shared->Prop) (E:Value->Shared->Prop),C i j->Q (.int (g i j) s.toks) { s with toks:=s.toks+1 }->wpAny (model X.prog X.w) X.A (f (.int i t) (.int j u)) Q E s) :
  OpR X f (rI C fun i j=>.int (g i j)):=by
 intro pins s σ H x y v u Q I rx ry h
 obtain ⟨i,j,rfl,rfl,hc,q⟩:=h
 obtain ⟨t,rfl⟩:=rx
 obtain ⟨t',rfl⟩:=ry
 exact rule i j t t' s _ _ hc ⟨.int (g i j),H,I.tok _,⟨_,rfl⟩,q⟩
theorem opI0 {f:Value->Value->Sem Value} {g:Int->Int->Int}
  (rule:∀(i j:Int) (t u:Tok) (s:Shared) (Q:Value->Shared->Prop) (E:Value->Shared->Prop),Q (.int (g i j) s.toks) { s with toks:=s.toks+1 }->wpAny (model X.prog X.w) X.A (f (.int i t) (.int j u)) Q E s) :
  OpR X f (rI0 fun i j=>.int (g i j)):=by
 intro pins s σ H x y v u Q I rx ry h
 obtain ⟨i,j,rfl,rfl,q⟩:=h
 obtain ⟨t,rfl⟩:=rx
 obtain ⟨t',rfl⟩:=ry
 exact rule i j t t' s _ _ ⟨.int (g i j),H,I.tok _,⟨_,rfl⟩,q⟩
theorem opB0 {f:Value->Value->Sem Value} {g:Int->Int->Bool}
  (rule:∀(i j:Int) (t u:Tok) (s:Shared) (Q:Value->Shared->Prop) (E:Value->Shared->Prop),Q (.bool (g i j)) s->wpAny (model X.prog X.w) X.A (f (.int i t) (.int j u)) Q E s) :
  OpR X f (rI0 fun i j=>.bl (g i j)):=by
 intro pins s σ H x y v u Q I rx ry h
 obtain ⟨i,j,rfl,rfl,q⟩:=h
 obtain ⟨t,rfl⟩:=rx
 obtain ⟨t',rfl⟩:=ry
 exact rule i j t t' s _ _ ⟨.bl (g i j),H,I,rfl,q⟩
def CPow (i j:Int):Prop:=0<=j∧j<=1000000∧i.natAbs < 2^64
def CMul (i j:Int):Prop:=(-(2^64) < i∧i < 2^64)∨(-(2^64) < j∧j < 2^64)
theorem CMul.ok {i j:Int} (h:CMul i j):IntMulOk i j:=by
 rcases h with ⟨h1,h2⟩ | ⟨h1,h2⟩
 ·exact .of_left (intBits_le_64 h1 h2)
 ·exact .of_right (intBits_le_64 h1 h2)
theorem op_add:OpR X (binaryOp .Add) (rI0 fun i j=>.int (i+j)):=opI0 fun _ _ _ _ _ _ _ q=>add_int q
theorem op_sub:OpR X (binaryOp .Sub) (rI0 fun i j=>.int (i - j)):=opI0 fun _ _ _ _ _ _ _ q=>sub_int q
theorem op_mod:OpR X (binaryOp .Mod) (rI (fun _ j=>0 < j) fun i j=>.int (i % j)):=opI fun i j _ _ _ _ _ hc q=>by
 have h1:(0:Int) < j:=hc
 exact mod_int' (by lia) (by rw[Int.fmod_eq_emod_of_nonneg i (by lia)];exact q)
theorem op_pow:OpR X (binaryOp .Pow) (rI CPow fun i j=>.int (i^j.toNat)):=opI fun _ _ _ _ _ _ _ hc q=>pow_int_small hc.1 hc.2.1 hc.2.2 q
end
def scal:V->V->Bool
 | .non,.non=>true | .non,.int _=>true | .int _,.non=>true | .non,.bl _=>true | .bl _,.non=>true | .non,.str _=>true | .str _,.non=>true
 | .int _,.int _=>true | .bl _,.bl _=>true | .str _,.str _=>true | .byt _,.byt _=>true
 | .int _,.str _=>true | .str _,.int _=>true | .bl _,.str _=>true | .str _,.bl _=>true
 | _,_=>false
def rEq:R2:=fun x y H Q=>scal x y=true∧Q (.bl (decide (x=y))) H
def rNe:R2:=fun x y H Q=>scal x y=true∧Q (.bl (!decide (x=y))) H
theorem dec_int {i j:Int}:decide (V.int i=V.int j)=(i == j):=by
 rw[Bool.eq_iff_iff]
 simp
theorem dec_bl {i j:Bool}:decide (V.bl i=V.bl j)=(i == j):=by
 rw[Bool.eq_iff_iff]
 simp
theorem dec_str {i j:Str}:decide (V.str i=V.str j)=(i == j):=by
 rw[Bool.eq_iff_iff]
 simp
theorem dec_byt {i j:Array UInt8}:decide (V.byt i=V.byt j)=(i.toList == j.toList):=by
 rw[Bool.eq_iff_iff]
 cases i
 cases j
 simp
section
variable {X:Cx} {a b c:Expr} {ta tb tc:TE} {pos:Pos}
theorem fin_bl {pins:List (Addr×Obj)} {σ:St} {H:Hp} {s:Shared} {Q:VK} {k k':Bool} (I:Inv X pins σ H s) (q:Q (.bl k) H) (e:k=k'):EP X pins σ Q (.bool k') s:=by
 subst e
 exact ⟨.bl k,H,I,rfl,q⟩
theorem op_eq:OpR X (compareOp .Eq) rEq:=by
 intro pins s σ H x y v u Q I rx ry h
 obtain ⟨hs,q⟩:=h
 cases x with
 | non =>
  cases rx
  cases y with
  | non=>cases ry;exact PySem.EqNone.eq_none_none (fin_bl I q (by simp))
  | bl j=>cases ry;exact PySem.EqNone.eq_none_bool (fin_bl I q (by simp))
  | int j=>obtain ⟨t',rfl⟩:=ry;exact PySem.EqNone.eq_none_int (fin_bl I q (by simp))
  | str j=>obtain ⟨t',rfl⟩:=ry;exact PySem.EqNone.eq_none_str (fin_bl I q (by simp))
  | _=>exact absurd (show false=true from hs) Bool.false_ne_true
 | bl i =>
  cases rx
  cases y with
  | non=>cases ry;exact PySem.EqNone.eq_bool_none (fin_bl I q (by simp))
  | bl j=>cases ry;exact eq_bool (fin_bl I q dec_bl)
  | str j=>obtain ⟨t',rfl⟩:=ry;exact PySem.EqMixed.eq_bool_str (fin_bl I q (by simp))
  | _=>exact absurd (show false=true from hs) Bool.false_ne_true
 | int i =>
  obtain ⟨t,rfl⟩:=rx
  cases y with
  | non=>cases ry;exact PySem.EqNone.eq_int_none (fin_bl I q (by simp))
  | int j=>obtain ⟨t',rfl⟩:=ry;exact eq_int (fin_bl I q dec_int)
  | str j=>obtain ⟨t',rfl⟩:=ry;exact PySem.EqMixed.eq_int_str (fin_bl I q (by simp))
  | _=>exact absurd (show false=true from hs) Bool.false_ne_true
 | str i =>
  obtain ⟨t,rfl⟩:=rx
  cases y with
  | non=>cases ry;exact PySem.EqNone.eq_str_none (fin_bl I q (by simp))
  | bl j=>cases ry;exact PySem.EqMixed.eq_str_bool (fin_bl I q (by simp))
  | int j=>obtain ⟨t',rfl⟩:=ry;exact PySem.EqMixed.eq_str_int (fin_bl I q (by simp))
  | str j=>obtain ⟨t',rfl⟩:=ry;exact eq_str (fin_bl I q dec_str)
  | _=>exact absurd (show false=true from hs) Bool.false_ne_true
 | byt i =>
  obtain ⟨t,rfl⟩:=rx
  cases y with
  | byt j=>obtain ⟨t',rfl⟩:=ry;exact PySem.W.eq_bytes (fin_bl I q dec_byt)
  | _=>exact absurd (show false=true from hs) Bool.false_ne_true
 | _=>cases y <;> exact absurd (show false=true from hs) Bool.false_ne_true
theorem op_ne:OpR X (compareOp .NotEq) rNe:=by
 intro pins s σ H x y v u Q I rx ry h
 obtain ⟨hs,q⟩:=h
 cases x with
 | non =>
  cases rx
  cases y with
  | non=>cases ry;exact PySem.EqNone.ne_none_none (fin_bl I q (by simp))
  | bl j=>cases ry;exact PySem.EqNone.ne_none_bool (fin_bl I q (by simp))
  | int j=>obtain ⟨t',rfl⟩:=ry;exact PySem.EqNone.ne_none_int (fin_bl I q (by simp))
  | str j=>obtain ⟨t',rfl⟩:=ry;exact PySem.EqNone.ne_none_str (fin_bl I q (by simp))
  | _=>exact absurd (show false=true from hs) Bool.false_ne_true
 | bl i =>
  cases rx
  cases y with
  | non=>cases ry;exact PySem.EqNone.ne_bool_none (fin_bl I q (by simp))
  | bl j=>cases ry;exact ne_bool (fin_bl I q (congrArg not dec_bl))
  | str j=>obtain ⟨t',rfl⟩:=ry;exact PySem.EqMixed.ne_bool_str (fin_bl I q (by simp))
  | _=>exact absurd (show false=true from hs) Bool.false_ne_true
 | int i =>
  obtain ⟨t,rfl⟩:=rx
  cases y with
  | non=>cases ry;exact PySem.EqNone.ne_int_none (fin_bl I q (by simp))
  | int j=>obtain ⟨t',rfl⟩:=ry;exact ne_int (fin_bl I q (congrArg not dec_int))
  | str j=>obtain ⟨t',rfl⟩:=ry;exact PySem.EqMixed.ne_int_str (fin_bl I q (by simp))
  | _=>exact absurd (show false=true from hs) Bool.false_ne_true
 | str i =>
  obtain ⟨t,rfl⟩:=rx
  cases y with
  | non=>cases ry;exact PySem.EqNone.ne_str_none (fin_bl I q (by simp))
  | bl j=>cases ry;exact PySem.EqMixed.ne_str_bool (fin_bl I q (by simp))
  | int j=>obtain ⟨t',rfl⟩:=ry;exact PySem.EqMixed.ne_str_int (fin_bl I q (by simp))
  | str j=>obtain ⟨t',rfl⟩:=ry;exact ne_str (fin_bl I q (congrArg not dec_str))
  | _=>exact absurd (show false=true from hs) Bool.false_ne_true
 | byt i =>
  obtain ⟨t,rfl⟩:=rx
  cases y with
  | byt j=>obtain ⟨t',rfl⟩:=ry;exact PySem.W.ne_bytes (fin_bl I q (congrArg not dec_byt))
  | _=>exact absurd (show false=true from hs) Bool.false_ne_true
 | _=>cases y <;> exact absurd (show false=true from hs) Bool.false_ne_true
theorem op_lt:OpR X (compareOp .Lt) (rI0 fun i j=>.bl (decide (i < j))):=opB0 fun _ _ _ _ _ _ _ q=>lt_int q
theorem op_gt:OpR X (compareOp .Gt) (rI0 fun i j=>.bl (decide (j < i))):=opB0 fun _ _ _ _ _ _ _ q=>gt_int q
theorem op_ge:OpR X (compareOp .GtE) (rI0 fun i j=>.bl (decide (j<=i))):=opB0 fun _ _ _ _ _ _ _ q=>ge_int q
theorem OpR.or {f:Value->Value->Sem Value} {r r':R2} (h:OpR X f r) (h':OpR X f r'):OpR X f (fun x y H Q=>r x y H Q∨r' x y H Q):=by
 intro pins s σ H x y v u Q I rx ry q
 rcases q with q | q
 ·exact h pins s σ H x y v u Q I rx ry q
 ·exact h' pins s σ H x y v u Q I rx ry q
theorem nomark (b:Expr) {op:CmpOp} (h:op≠.In:=by decide) (h2:op≠.NotIn:=by decide):behindInMarks op b=false:=by
 have e1:(op == CmpOp.In)=false:=by cases op <;> first | rfl | exact absurd rfl h
 have e2:(op == CmpOp.NotIn)=false:=by cases op <;> first | rfl | exact absurd rfl h2
 cases b <;> simp [behindInMarks,e1,e2]
theorem pe_cmpR {op:CmpOp} {r:R2} (ho:OpR X (compareOp op) r) (ha:PE X a ta) (hb:PE X b tb) (hm:behindInMarks op b=false):PE X (.Compare a [op] [b] pos) (tOp r ta tb):=by
 intro pins s σ H Q I h
 exact wpAny_Compare1 (binT ha hb I h fun v u s2 x y H2 I2 rx ry q=>ho pins s2 σ H2 x y v u Q I2 rx ry q) hm
def tTest (t:TE):TT:=fun σ H Q=>t σ H fun x H'=>∃k,x=.bl k∧Q k H'
theorem pt_cmpR {op:CmpOp} {r:R2} (ho:OpR X (compareOp op) r) (ha:PE X a ta) (hb:PE X b tb) (hm:behindInMarks op b=false):PT X (.Compare a [op] [b] pos) (tTest (tOp r ta tb)):=by
 intro pins s σ H Q I h
 refine wpAny_isTrue_Compare1 (thn (ha pins s σ H _ I h) fun v s1 ⟨x,H1,I1,r1,q1⟩=>thn (hb pins s1 σ H1 _ I1 q1) fun u s2 ⟨y,H2,I2,r2,q2⟩ =>
  thn (ho pins s2 σ H2 x y v u _ I2 r1 r2 q2) fun c s3 ⟨z,H3,I3,r3,k,e,q3⟩=>?_) hm
 subst e
 cases r3
 exact wpAny_truthy_bool ⟨H3,I3,q3⟩
theorem line63:(sizeLine:Nat) < 2^63:=by rw[sizeLine_eq];decide
theorem vals1 {x:V} {us:List Value} (r:Vals [x] us):∃u,us=[u]∧RelV x u:=by
 cases r with
 | cons r1 r2=>cases r2;exact ⟨_,rfl,r1⟩
theorem vals2 {x y:V} {us:List Value} (r:Vals [x,y] us):∃u w',us=[u,w']∧RelV x u∧RelV y w':=by
 cases r with
 | cons r1 r2 =>
  cases r2 with
  | cons r3 r4=>cases r4;exact ⟨_,_,rfl,r1,r3⟩
theorem call_abs:CallR X (.builtin "abs") (fun xs H Q=>∃i,xs=[.int i]∧Q (.int (if i < 0 then -i else i)) H):=by
 intro pins s σ H xs us Q I r h
 obtain ⟨i,rfl,q⟩:=h
 obtain ⟨u,rfl,t,rfl⟩:=vals1 r
 exact call_abs_int fun u tk=>⟨.int (if i < 0 then -i else i),H,I.tok _,⟨_,rfl⟩,q⟩
theorem call_max2 (hc:X.calm=true):CallR X (.builtin "max") (fun xs H Q=>∃i j,xs=[.int i,.int j]∧Q (.int (if j > i then j else i)) H):=by
 intro pins s σ H xs us Q I r h
 obtain ⟨i,j,rfl,q⟩:=h
 obtain ⟨u,w',rfl,⟨t,rfl⟩,⟨t',rfl⟩⟩:=vals2 r
 refine max_two_ints (I.ok.hd hc) fun h' tk k=>⟨_,H,I.kept k,?_,q⟩
 by_cases hj:j > i
 ·rw[if_pos hj,if_pos hj];exact ⟨_,rfl⟩
 ·rw[if_neg hj,if_neg hj];exact ⟨_,rfl⟩
end
end L2
namespace L2
open PySem PySem.Spec PyProof.Rows
structure ObjM (h:Heap) (x dx C:Addr) (mA:Str->Option Value):Prop where
 obj:h.get? x=some (PySem.W.instObj C dx)
 ns:h.Ns1 dx mA
 ne:dx≠x
theorem lookIn_ns {h:Heap} {dx:Addr} {mA:Str->Option Value} (n:h.Ns1 dx mA):∃od,h.get? dx=some od∧∀name,PySem.W.lookIn name od=some (mA name):=by
 obtain ⟨o,es,ep,ho,hd,hk,_,hm⟩:=n
 refine ⟨o,ho,fun name=>?_⟩
 have e:=hm name
 unfold nsFind findBy at e
 rw[← Array.find?_toList] at e
 unfold PySem.W.lookIn
 rw[hd]
 dsimp only
 split
 ·rename_i y q
  rw[q] at e
  exact congrArg some e
 ·rename_i q
  rw[q] at e
  have a:es.toList.any (·.refKey)=false:=by
   rw[List.any_eq_false]
   intro y hy
   obtain ⟨z,t,hkey⟩:=hk y (Array.mem_toList_iff.mp hy)
   simp [DictEntry.refKey,hkey]
  have a':¬es.toList.any (·.refKey)=true:=by rw[a];exact Bool.false_ne_true
  rw[if_neg a']
  exact congrArg some e
section
variable {prog:Program} {w:World} {A:Around} {E:Value->Shared->Prop} {s:Shared} {K:PySem.W.Frag} {x dx C f:Addr} {mA:Str->Option Value} {name:Str} {v:Value}
end
section
variable {P:Program} {w:World} {H H':Hp} {h h':Heap} {a C dx:Addr} {fs fs':List (Str×V)}
end
structure Cls (K:PySem.W.Frag) (C:Addr):Prop where
 pg:PySem.W.plainGet K C Str.empty=true
 hd:PySem.W.hasDictIn K C=true
 po:PySem.W.plainOver K C=true
 sa:PySem.W.findIn K (.ref C) "__setattr__"=some (some (.builtin "object.__setattr__"))
theorem Cls.get {K:PySem.W.Frag} {C:Addr} (c:Cls K C) (f:Str):PySem.W.plainGet K C f=true:=c.pg
structure Con (K:PySem.W.Frag) (C:Addr) (f:Str) (v:V) (u:Value):Prop where
 at_:PySem.W.findIn K (.ref C) f=some (some u)
 rel:RelV v u
 get:PySem.W.specialIn K u "__get__"=some none
 cp:PySem.W.copiedNames.contains f=false
structure Meth (K:PySem.W.Frag) (C:Addr) (m:Str) (f:Addr):Prop where
 at_:PySem.W.findIn K (.ref C) m=some (some (.ref f))
 fn:PySem.W.isFn K (.ref f)=true
 kp:PySem.W.keepIn K (.ref f)=true
section
variable {X:Cx} {pins:List (Addr×Obj)} {σ:St} {H:Hp} {s:Shared} {a C dx:Addr} {fs:List (Str×V)} {f:Str} {v:V} {A:Around} {E:Value->Shared->Prop}
theorem Inv.made (I:Inv X pins σ H s):Inv X pins σ (upd (upd H s.heap.objs.size (.own (s.heap.objs.size+1))) (s.heap.objs.size+1) (.ins C s.heap.objs.size []))
  { s with heap:=(s.heap.push PySem.W.emptyDict).push (PySem.W.instObj C s.heap.objs.size) }:=by
 have e1:(s.heap.push PySem.W.emptyDict).get? s.heap.objs.size=some PySem.W.emptyDict:=Heap.get?_push_size s.heap rfl
 have e2:((s.heap.push PySem.W.emptyDict).push (PySem.W.instObj C s.heap.objs.size)).get? (s.heap.objs.size+1)=some (PySem.W.instObj C s.heap.objs.size):=by
  have:=Heap.get?_push_size (s.heap.push PySem.W.emptyDict) (o:=PySem.W.instObj C s.heap.objs.size) rfl
  rwa [Heap.size_push] at this
 have e3:(s.heap.push PySem.W.emptyDict).Ns s.heap.objs.size (fun _=>none):=⟨PySem.W.emptyDict,#[],_,e1,rfl,(fun e he=>absurd he (by simp)),fun _=>rfl⟩
 have I1:=I.laid (a:=s.heap.objs.size) (o:=.own (s.heap.objs.size+1)) (h':=s.heap.push PySem.W.emptyDict) (t':=s.toks) (fun b u q=>Heap.get?_push_of_some _ q) (Nat.le_refl _) ⟨_,e1⟩
 refine I1.laid (a:=s.heap.objs.size+1) (o:=.ins C s.heap.objs.size []) (t':=s.toks) (fun b u q=>Heap.get?_push_of_some _ q) (Nat.le_of_eq (Heap.size_push _ _)) ?_
 have ne:s.heap.objs.size≠s.heap.objs.size+1:=Nat.ne_of_lt (Nat.lt_succ_self _)
 refine ⟨by rw[upd_ne ne,upd_same],Nat.zero_le _,ne,e2,fun _=>none,(Heap.Ns1.of_empty e3).at fun o q=>Heap.get?_push_of_some _ q,fun _=>True.intro,fun y hy=>absurd rfl hy⟩
theorem attr_of {prog:Program} {w:World} {env:Env} {e:Expr} {f:Str} {pos:Pos} {s:Shared} {Q:Value->Shared->Prop} (hb:attributeBase e f env (eval e env)=eval e env)
  (h:wpAny (model prog w) A (eval e env) (fun o s₁=>wpAny (model prog w) A (getAttr o f true) Q E s₁) E s):wpAny (model prog w) A (eval (.Attribute e f pos) env) Q E s :=
 Attribute_any_ h (by rw[arm_eval_Attribute,hb])
end
section
variable {X:Cx} {o e value:Expr} {f:Str} {pos pos' tpos:Pos} {ta tv:TE}
end
section
variable {X:Cx} {pins:List (Addr×Obj)} {σ:St} {H:Hp} {s:Shared} {A:Around} {E:Value->Shared->Prop} {Q:Value->Shared->Prop} {c:Value} {b:Bool}
inductive TyOf (K:PySem.W.Frag) (H:Hp):V->Value->Prop where
 | non:TyOf K H .non (.type "NoneType")
 | bl (x:Bool):TyOf K H (.bl x) (.type "bool")
 | int (i:Int):TyOf K H (.int i) (.type "int")
 | str (x:Str):TyOf K H (.str x) (.type "str")
 | flt (x:UInt64):TyOf K H (.flt x) (.type "float")
 | lst {a:Addr} {xs:List V} (e:H a=some (.lst xs)):TyOf K H (.ref a) (.type "list")
 | frz {a:Addr} {o:Obj} {xs:List V} (e:H a=some (.frz o (.lst xs))):TyOf K H (.ref a) (.type "list")
 | tup {a:Addr} {xs:List V} (e:H a=some (.tup xs)):TyOf K H (.ref a) (.type "tuple")
 | dK {a:Addr} {kvs:List (Key×V)} (e:H a=some (.dK kvs)):TyOf K H (.ref a) (.type "dict")
 | dT {a:Addr} {kvs:List (List Key×V)} (e:H a=some (.dT kvs)):TyOf K H (.ref a) (.type "dict")
 | ins {a C dx:Addr} {fs:List (Str×V)} (e:H a=some (.ins C dx fs)) (cl:Cls K C) (ha:PySem.W.findIn K (.ref C) "__class__"=some (some (.builtin "object.__class__")))
   (hn:PySem.W.specialIn K (.builtin "object.__class__") "__get__"=some (some (.builtin "getset_descriptor.__get__"))) (htk:PySem.W.takesIn K (.builtin "object.__class__")=some true)
   (hm:PySem.W.mroIn K C (.type "object")=some true):TyOf K H (.ref a) (.ref C)
end
end L2
namespace L2
open PySem PySem.Spec PyProof.Rows
structure Room (k:Nat) (A:Around):Prop where
 hd:A.handled=none
 dp:A.depth+3*k+5 < recursionLimit
 un:A.units+16*k+200 < cLine
theorem Room.mono {j k:Nat} {A:Around} (r:Room k A) (h:j<=k):Room j A:=⟨r.hd,by have:=r.dp;lia,by have:=r.un;lia⟩
theorem Room.deeper {k:Nat} {A:Around} (r:Room (k+1) A) (env:Env):Room k (A.deeper env) :=
 ⟨r.hd,by have:=r.dp;show A.depth+1+3*k+5 < _;lia,by have:=r.un;show A.units+3+16*k+200 < _;lia⟩
theorem Room.in1 {k:Nat} {A:Around} (r:Room (k+1) A):Room k A.in1 :=
 ⟨r.hd,by have:=r.dp;show A.depth+3*k+5 < _;lia,by have:=r.un;show A.units+1+16*k+200 < _;lia⟩
theorem make_depth {A:Around} {C:Addr} {us:List Value} {kw:List (Str×Value)}:(A.under (.builtin "type.__call__" ⟨.ref C :: us,kw⟩)).depth=A.depth+1:=by
 first | rfl | simp [Around.under,Code.weight,Code.isCreation,Code.isGuard,Code.isCaller,Code.frames,Code.isFrame,guardIds]
theorem make_units {A:Around} {C:Addr} {us:List Value} {kw:List (Str×Value)}:(A.under (.builtin "type.__call__" ⟨.ref C :: us,kw⟩)).units=A.units+1:=by
 first | rfl | simp [Around.under,Code.cUnits,Code.frames,Code.isFrame]
theorem Room.make {k:Nat} {A:Around} (r:Room (k+1) A) (C:Addr) (us:List Value) (kw:List (Str×Value)):Room k (A.under (.builtin "type.__call__" ⟨.ref C :: us,kw⟩)) :=
 ⟨r.hd,by have:=r.dp;rw[make_depth];lia,by have:=r.un;rw[make_units];lia⟩
theorem Room.depth {k:Nat} {A:Around} (r:Room k A):A.depth < recursionLimit:=by have:=r.dp;lia
theorem Room.units {k:Nat} {A:Around} (r:Room k A):A.units+64 < cLine:=by have:=r.un;lia
def tNil:TA:=fun _ H Q=>Q [] H
def tCons (ta:TE) (tr:TA):TA:=fun σ H Q=>ta σ H fun x H1=>tr σ H1 fun xs H2=>Q (x :: xs) H2
section
variable {X:Cx} {e:Expr} {es:List Expr} {te:TE} {t:TA} {pos:Pos}
theorem pa_nil:PA X [] tNil:=fun _ _ _ _ H Q I h=>Calls.spliced_nil ⟨[],H,I,.nil,h⟩
theorem pa_cons (ha:PE X e te) (hr:PA X es t) (hs:starEach (e :: es) X.env=(false,eval e X.env) :: starEach es X.env:=by rfl):PA X (e :: es) (tCons te t):=by
 intro pos pins s σ H Q I h
 rw[hs]
 show wpAny _ _ (spliced ((false,eval e X.env) :: backTo pos (starEach es X.env))) _ _ s
 refine Calls.spliced_cons (thn (ha pins s σ H _ I h) fun u s1 ⟨x,H1,I1,r1,q1⟩=>?_)
 exact thn (hr pos pins s1 σ H1 _ I1 q1) fun us s2 ⟨xs,H2,I2,r2,q2⟩=>⟨x :: xs,H2,I2,.cons r1 r2,q2⟩
def tTup (t:TA):TE:=fun σ H Q=>t σ H fun xs H1=>xs.length<=sizeLine∧∀p,H1 p=none->Q (.ref p) (upd H1 p (.tup xs))
def tLst (t:TA):TE:=fun σ H Q=>t σ H fun xs H1=>xs.length<=sizeLine∧∀p,H1 p=none->Q (.ref p) (upd H1 p (.lst xs))
theorem pe_tup {x1} (h:PA X es t):PE X (.Tuple es x1 pos) (tTup t):=by
 intro pins s σ H Q I hq
 refine wpAny_Tuple_spliced (thn (h pos pins s σ H _ I hq) fun us s1 ⟨xs,H1,I1,r,z,q⟩=>⟨by rw[← r.length];exact z,?_⟩)
 have hf:H1 s1.heap.objs.size=none:=I1.hok.fresh (Nat.le_refl _)
 refine ⟨.ref s1.heap.objs.size,upd H1 s1.heap.objs.size (.tup xs),I1.laid (t':=s1.toks) (fun b u e=>Heap.get?_push_of_some _ e) (Nat.le_refl _) ?_,rfl,q _ hf⟩
 exact ⟨z,us,r,⟨_,Heap.get?_push_size _ rfl,rfl,_,rfl⟩⟩
theorem pe_lst (h:PA X es t):PE X (.List es pos) (tLst t):=by
 intro pins s σ H Q I hq
 refine wpAny_List_spliced (thn (h pos pins s σ H _ I hq) fun us s1 ⟨xs,H1,I1,r,z,q⟩=>⟨by rw[← r.length];exact z,?_⟩)
 have hf:H1 s1.heap.objs.size=none:=I1.hok.fresh (Nat.le_refl _)
 refine ⟨.ref s1.heap.objs.size,upd H1 s1.heap.objs.size (.lst xs),I1.laid (t':=s1.toks) (fun b u e=>Heap.get?_push_of_some _ e) (Nat.le_refl _) ?_,rfl,q _ hf⟩
 exact ⟨z,us,0,r,Heap.get?_push_size _ rfl⟩
end
abbrev Sp:=List V->Hp->VK->XK->Prop
abbrev CXT:=List Env->Hp->Shared->XK->Value->Shared->Prop
structure Env0 (P:Program) (w:World) (K:PySem.W.Frag) (mg:Str->Option Value) (base:Heap) (A:Around) (outer:List Env) (s:Shared) (H:Hp):Prop where
 frames:A.frames=some outer
 mod:Mod K mg base
 bs:∀b o,base.get? b=some o->s.heap.get? b=some o∧H b=none
 bsz:base.objs.size<=s.heap.objs.size
 funs:s.heap.FunFrames base outer
 frf:∀b∈frs outer,H b=none
 hok:HOk P w H s.heap
 bare:AllBare s.gens
def CE (outer:List Env) (P:Program) (w:World) (H:Hp) (s:Shared) (Q:VK) (u:Value) (s':Shared):Prop :=
 ∃v H',s'.os=s.os∧AllBare s'.gens∧Un (frs outer) [] H H' s.heap s'.heap∧HOk P w H' s'.heap∧RelV v u∧Q v H'
def CR (CX:CXT) (outer:List Env) (P:Program) (w:World) (H:Hp) (s:Shared) (Q:VK) (E:XK) (r:Result) (s':Shared):Prop :=
 match r with
 | .ok (.ret u)=>CE outer P w H s Q u s'
 | .ok _=>False
 | .error e=>CX outer H s E e s'
structure FnOk (P:Program) (w:World) (K:PySem.W.Frag) (mg:Str->Option Value) (base:Heap) (CX:CXT) (k:Nat) (f:Addr) (fd:FuncData) (ps:List Str) (sp:Sp):Prop where
 len:∀vs H Q E,sp vs H Q E->vs.length=ps.length
 run:∀(A:Around) (outer:List Env) (s:Shared) (H:Hp) (args:Args) (us:List Value) (vs:List V) (Q:VK) (E:XK),Room k A->Env0 P w K mg base A outer s H->BindsTo s fd args (ps.zip us)->Vals vs us->sp vs H Q E →
  codeAny (model P w) A (.call (.ref f) args) (CR CX outer P w H s Q E) s
theorem FnOk.mono {P:Program} {w:World} {K:PySem.W.Frag} {mg:Str->Option Value} {base:Heap} {CX:CXT} {j k:Nat} {f:Addr} {fd:FuncData} {ps:List Str} {sp:Sp} (F:FnOk P w K mg base CX j f fd ps sp) (h:j<=k) :
  FnOk P w K mg base CX k f fd ps sp:=⟨F.len,fun A outer s H args us vs Q E hr=>F.run A outer s H args us vs Q E (hr.mono h)⟩
theorem Env0.make {P:Program} {w:World} {K:PySem.W.Frag} {mg:Str->Option Value} {base:Heap} {A:Around} {outer:List Env} {s:Shared} {H:Hp} (e:Env0 P w K mg base A outer s H) (C:Addr) (us:List Value) (kw:List (Str×Value)) :
  Env0 P w K mg base (A.under (.builtin "type.__call__" ⟨.ref C :: us,kw⟩)) outer s H:=⟨by first | exact e.frames | (simpa [Around.under,Code.envs,Code.isFrame,pushEnvs] using e.frames),e.mod,e.bs,e.bsz,e.funs,e.frf,e.hok,e.bare⟩
theorem Env0.in1 {P:Program} {w:World} {K:PySem.W.Frag} {mg:Str->Option Value} {base:Heap} {A:Around} {outer:List Env} {s:Shared} {H:Hp} (e:Env0 P w K mg base A outer s H) :
  Env0 P w K mg base A.in1 outer s H:=⟨e.frames,e.mod,e.bs,e.bsz,e.funs,e.frf,e.hok,e.bare⟩
section
variable {X:Cx} {pins:List (Addr×Obj)} {σ:St} {H:Hp} {s s':Shared}
theorem Inv.env0 (I:Inv X pins σ H s):Env0 X.prog X.w X.K X.mg X.base X.A X.stack s H :=
 ⟨I.ok.frames,I.ok.mod,I.bs,Nat.le_trans I.ok.bsz I.sz,I.stack,I.stkFree,I.hok,I.bare⟩
theorem Inv.after {Q:VK} {u:Value} (I:Inv X pins σ H s) (h:CE X.stack X.prog X.w H s Q u s'):EP X pins σ Q u s':=by
 obtain ⟨v,H',os,bare,un,hok,r,q⟩:=h
 obtain ⟨hh,g,d,t,os'⟩:=s'
 obtain rfl:os'=s.os:=os
 exact ⟨v,H',I.call (h':=hh) (g':=g) (d':=d) (t':=t) (ch:=[]) un hok bare (fun b z=>absurd z (by simp)),r,q⟩
end
def tCall (sp:Sp) (dvs:List V) (E:XK) (t:TA):TE:=fun σ H Q=>t σ H fun vs H1=>sp (vs++dvs) H1 Q E
def Binds (K:PySem.W.Frag) (fd:FuncData) (ps:List Str) (ds:List Value):Prop :=
 ∀(s:Shared) (us:List Value),K.In s.heap->(us++ds).length=ps.length->BindsTo s fd ⟨us,[]⟩ (ps.zip (us++ds))
theorem Binds.all {K:PySem.W.Frag} {fd:FuncData} {ps:List Str} (h:∀us:List Value,us.length=ps.length->bindArgs fd ⟨us,[]⟩=pure (ps.zip us)):Binds K fd ps []:=fun s us _ hl=>by
 rw[List.append_nil] at hl ⊢
 exact .of_eq (h us hl)
def Passes (CX:CXT) (X:Cx) (E:XK):Prop:=∀(pins:List (Addr×Obj)) (σ:St) (H:Hp) (s:Shared) (e:Value) (s':Shared),Inv X pins σ H s->CX X.stack H s E e s'->X.xe e s'
section
variable {X:Cx} {CX:CXT} {k:Nat} {f C:Addr} {fd:FuncData} {ps:List Str} {sp:Sp} {dvs:List V} {ds:List Value} {E:XK} {x m:Str} {p pos apos:Pos} {e o:Expr} {es:List Expr} {ta:TE} {t:TA}
theorem run_fn {pins:List (Addr×Obj)} {σ:St} {H:Hp} {s:Shared} {Q:VK} {us:List Value} {vs:List V} (F:FnOk X.prog X.w X.K X.mg X.base CX k f fd ps sp) (hr:Room k X.A) (hb:Binds X.K fd ps ds) (hd:Vals dvs ds) (hx:Passes CX X E)
  (I:Inv X pins σ H s) (r:Vals vs us) (h:sp (vs++dvs) H Q E):wpAny (model X.prog X.w) X.A (call (.ref f) us) (EP X pins σ Q) X.xe s:=by
 have r2:Vals (vs++dvs) (us++ds):=r.append hd
 have hl:(us++ds).length=ps.length:=by rw[← r2.length];exact F.len _ _ _ _ h
 refine wpAny_call (codeAny_mono (F.run X.A X.stack s H ⟨us,[]⟩ (us++ds) (vs++dvs) Q E hr I.env0 (hb s us I.kIn hl) r2 h) fun r s' hq=>?_)
 cases r with
 | error e=>exact hx pins σ H s e s' I hq
 | ok fl =>
  cases fl with
  | ret u=>exact I.after hq
  | next=>exact False.elim hq
  | brk=>exact False.elim hq
  | cont=>exact False.elim hq
theorem pe_call (F:FnOk X.prog X.w X.K X.mg X.base CX k f fd ps sp) (hr:Room k X.A) (hg:Gl X x) (hm:X.mg x=some (.ref f)) (hk:PySem.W.keepIn X.K (.ref f)=true) (hb:Binds X.K fd ps ds) (hd:Vals dvs ds) (hx:Passes CX X E)
  (ha:PA X (e :: es) t) (hdb:(x == ("__debug__":Str))=false:=by decide) (he:starEach (e :: es) X.env=(false,eval e X.env) :: starEach es X.env:=by rfl) (hpl:(backTo pos (starEach es X.env)).any (·.1)=false:=by rfl) :
  PE X (.Call (.Name x p) (e :: es) [] pos) (tCall sp dvs E t):=by
 intro pins s σ H Q I h
 refine wpAny_Call_Name_kw (ld_glob I hg hm ?_ hdb)
 refine PySem.W.callWith_K (h₀:=X.base) I.ok.mod.kin hk (thn (ha pos pins s σ H _ I h) fun us s1 ⟨vs,H1,I1,r,q⟩=>⟨I1.kIn,?_⟩) he hpl
 exact run_fn F hr hb hd hx I1 r q
structure Mk (K:PySem.W.Frag) (C f:Addr):Prop where
 makes:PySem.W.makesIn K C=true
 init:PySem.W.findIn K (.ref C) "__init__"=some (some (.ref f))
 fn:PySem.W.isFn K (.ref f)=true
 kp:PySem.W.keepIn K (.ref C)=true
end
section
variable {X:Cx} {CX:CXT} {k:Nat} {f C:Addr} {fd:FuncData} {ps ks:List Str} {sp:Sp} {E:XK} {x m:Str} {p pos apos kpos:Pos} {e o:Expr} {es:List Expr} {kws:List Keyword} {te ta:TE} {t tk:TA} {nm:Option Str}
structure KBinds (K:PySem.W.Frag) (fd:FuncData) (ps ks:List Str) (g:List Value->List Value->List Value) (gV:List V->List V->List V):Prop where
 to:∀(s:Shared) (us ws:List Value),K.In s.heap->(g us ws).length=ps.length->BindsTo s fd ⟨us,ks.zip ws⟩ (ps.zip (g us ws))
 rel:∀{vs:List V} {us:List Value} {zs:List V} {ws:List Value},Vals vs us->Vals zs ws->Vals (gV vs zs) (g us ws)
variable {g:List Value->List Value->List Value} {gV:List V->List V->List V}
end
structure FnScope (N P:List Str) (sc:Scope):Prop where
 kind:sc.kind=.function
 co:sc.isCoroutine=false
 gen:sc.isGenerator=false
 nd:N.Nodup
 pre:N.take P.length=P
 par:∀x∈P,sc.names.lookup x=some .local∨sc.names.lookup x=some .cell
 nofree:∀y∈sc.names,y.2≠.free
theorem bindL_out {kindOf:Str->Option NameKind} {x:Str}:∀{binds:List (Str×Value)} {m:Str->Option Value},(∀v,(x,v)∉binds)->bindL kindOf binds m x=m x
 | [],_,_=>rfl
 | (n,v) :: r,m,h=>by
  unfold bindL
  rw[bindL_out fun w hw=>h w (List.mem_cons_of_mem _ hw)]
  split
  ·have:x≠n:=by rintro rfl;exact h v List.mem_cons_self
   simp [this]
  ·rfl
theorem bindC_out {kindOf:Str->Option NameKind} {x:Str}:∀{binds:List (Str×Value)} {m:Str->Option Value},(∀v,(x,v)∉binds)->bindC kindOf binds m x=m x
 | [],_,_=>rfl
 | (n,v) :: r,m,h=>by
  unfold bindC
  rw[bindC_out fun w hw=>h w (List.mem_cons_of_mem _ hw)]
  split
  ·rfl
  ·have:x≠n:=by rintro rfl;exact h v List.mem_cons_self
   simp [this]
theorem bindL_get {kindOf:Str->Option NameKind} {x:Str} {v:Value}:∀{P:List Str} {vs:List Value} {i:Nat} {m:Str->Option Value},P.Nodup->P[i]?=some x->vs[i]?=some v->kindOf x=some .local →
  bindL kindOf (P.zip vs) m x=some v
 | [],_,_,_,_,h,_,_=>by simp at h
 | _ :: _,[],_,_,_,_,h,_=>by simp at h
 | p :: P,w :: vs,0,m,nd,h1,h2,hk=>by
  simp at h1 h2;subst h1;subst h2
  show bindL kindOf ((p,w) :: P.zip vs) m p=_
  unfold bindL
  rw[bindL_out fun v hv=>(List.nodup_cons.mp nd).1 (List.of_mem_zip hv).1,if_pos hk]
  simp
 | p :: P,w :: vs,i+1,m,nd,h1,h2,hk=>by
  show bindL kindOf ((p,w) :: P.zip vs) m x=_
  unfold bindL
  exact bindL_get (i:=i) (List.nodup_cons.mp nd).2 (by simpa using h1) (by simpa using h2) hk
theorem bindC_get {kindOf:Str->Option NameKind} {x:Str} {v:Value}:∀{P:List Str} {vs:List Value} {i:Nat} {m:Str->Option Value},P.Nodup->P[i]?=some x->vs[i]?=some v->kindOf x≠some .local →
  bindC kindOf (P.zip vs) m x=some v
 | [],_,_,_,_,h,_,_=>by simp at h
 | _ :: _,[],_,_,_,_,h,_=>by simp at h
 | p :: P,w :: vs,0,m,nd,h1,h2,hk=>by
  simp at h1 h2;subst h1;subst h2
  show bindC kindOf ((p,w) :: P.zip vs) m p=_
  unfold bindC
  rw[bindC_out fun v hv=>(List.nodup_cons.mp nd).1 (List.of_mem_zip hv).1,if_neg hk]
  simp
 | p :: P,w :: vs,i+1,m,nd,h1,h2,hk=>by
  show bindC kindOf ((p,w) :: P.zip vs) m x=_
  unfold bindC
  exact bindC_get (i:=i) (List.nodup_cons.mp nd).2 (by simpa using h1) (by simpa using h2) hk
def start (N:List Str) (vs:List V):St:=vs.map some++List.replicate (N.length - vs.length) none
def cxOf (CX:CXT) (P:Program) (w:World) (K:PySem.W.Frag) (mg:Str->Option Value) (base:Heap) (N:List Str) (qual:Str) (scope:Scope) (f:Addr) (cd:Value) (A:Around) (outer:List Env) (s:Shared) (H:Hp) (E:XK):Cx where
 prog:=P
 w:=w
 K:=K
 mg:=mg
 base:=base
 A:=A.deeper (envOfC qual scope s.heap.objs.size f cd)
 N:=N
 s₀:=s
 H₀:=H
 env:=envOfC qual scope s.heap.objs.size f cd
 outer:=outer
 stack:=envOfC qual scope s.heap.objs.size f cd :: outer
 ex:=[]
 calm:=true
 fn:=fun _=>true
 pn:=[]
 xe:=fun e s'=>wpAny (model P w) (A.deeper (envOfC qual scope s.heap.objs.size f cd)) (leaving (envOfC qual scope s.heap.objs.size f cd) e) (fun _ s''=>CX outer H s E e s'') (fun e' s''=>CX outer H s E e' s'') s'
theorem cell_has {sc:Scope} {n:Nat} {x:Str} (h:sc.names.lookup x=some .cell):∃c,(cellsFrom n sc.names []).lookup x=some c:=by
 have q:=PySem.W.cellsFrom_some sc.names n [] (.inl h)
 exact Option.isSome_iff_exists.mp q
theorem inv_start {CX:CXT} {P:Program} {w:World} {K:PySem.W.Frag} {mg:Str->Option Value} {base:Heap} {N ps:List Str} {qual:Str} {scope:Scope} {f:Addr} {cd:Value} {A:Around} {outer:List Env} {s s1:Shared} {H:Hp} {E:XK} {us:List Value} {vs:List V}
  (S:FnScope N ps scope) (hd:A.handled=none) (e0:Env0 P w K mg base A outer s H) (hl:vs.length=ps.length) (r:Vals vs us)
  (x:InCallC s s.heap.objs.size (bindL (envOfC qual scope s.heap.objs.size f cd).kindOf (ps.zip us) fun _=>none) (cellsFrom (s.heap.objs.size+1) scope.names []) (bindC (envOfC qual scope s.heap.objs.size f cd).kindOf (ps.zip us) fun _=>none) s1) :
  Inv (cxOf CX P w K mg base N qual scope f cd A outer s H E) [] (start N vs) H s1:=by
 have hpl:ps.length<=N.length:=by have:=congrArg List.length S.pre;rw[List.length_take] at this;lia
 obtain ⟨h1,tk,rfl,hk⟩:=x.done
 have noA:∀b:Addr,b∉(cxOf CX P w K mg base N qual scope f cd A outer s H E).ex:=fun b z=>absurd (show b∈([]:List Addr) from z) (by simp)
 refine ⟨⟨e0.mod,S.kind,rfl,rfl,Nat.le_refl _,fun y z c h1 h2=>?_,fun y hy=>?_,fun y c _ h=>?_,fun _=>hd,Around.frames_deeper e0.frames,.inr ⟨rfl,rfl⟩,fun b z=>absurd z (noA b),e0.bs,e0.bsz,fun b _ _=>noA b,fun b z=>absurd z (noA b),e0.funs,e0.frf⟩,
  rfl,e0.bare,Un.kept hk,⟨_,x.toInCall.ns,fun i y v h1 h2 h3=>?_⟩,fun y c h=>⟨_,x.cell y c h⟩,e0.hok.fresh (Nat.le_refl _),fun y c h=>?_,fun p hp=>absurd (show p∈([]:List (Addr×Obj)) from hp) (by simp),e0.hok.kept hk,?_⟩
 ·exact name_of_addr x.apart (PySem.mem_of_lookup h1) (PySem.mem_of_lookup h2)
 ·have hy:scope.names.lookup y=some .cell∨scope.names.lookup y=some .free:=hy
  rcases hy with hy | hy
  ·exact cell_has hy
  ·exact absurd rfl (S.nofree _ (PySem.mem_of_lookup hy))
 ·exact Nat.le_of_lt (x.above y c (PySem.mem_of_lookup h))
 ·have hi:i < vs.length:=by
   unfold start at h2
   by_cases hi:i < vs.length
   ·exact hi
   ·rw[List.getElem?_append_right (by simpa using hi)] at h2
    rw[List.getElem?_replicate] at h2
    split at h2 <;> cases h2
  have ha:vs[i]?=some v:=by
   unfold start at h2
   rw[List.getElem?_append_left (by simpa using hi),List.getElem?_map] at h2
   cases e:vs[i]? with
   | none=>rw[e] at h2;cases h2
   | some a=>rw[e] at h2;cases h2;rfl
  obtain ⟨u,hu,rv⟩:=r.get ha
  have hp:ps[i]?=some y:=by
   rw[← S.pre,List.getElem?_take_of_lt (by lia)];exact h1
  have ndP:ps.Nodup:=by rw[← S.pre];exact S.nd.sublist (List.take_sublist _ _)
  refine ⟨u,rv,?_⟩
  rcases S.par y (List.mem_of_getElem? hp) with k | k
  ·exact .inl ⟨k,bindL_get ndP hp hu k⟩
  ·obtain ⟨c,e⟩:=cell_has (n:=s.heap.objs.size+1) k
   refine .inr ⟨.inl k,c,e,?_⟩
   have q:=x.cell y c e
   rw[bindC_get ndP hp hu (by show scope.names.lookup y≠_;rw[k];decide)] at q
   exact q
 ·exact e0.hok.fresh (Nat.le_of_lt (x.above y c (PySem.mem_of_lookup h)))
 ·unfold start
  show _=N.length
  rw[List.length_append,List.length_map,List.length_replicate]
  lia
theorem fn_of {CX:CXT} {P:Program} {w:World} {K:PySem.W.Frag} {mg:Str->Option Value} {base:Heap} {k:Nat} {f:Addr} {name qual:Str} {params:Arguments} {body:List Stmt} {scope:Scope} {dV kV doc pm cdv ct oc:Value} {an od:Option Addr}
  {osl:Array (Option Value)} {N ps:List Str} {sp:Sp} (lk:K.lookup f=some ⟨oc,od,.func (PySem.W.fnOf name qual params body scope dV kV doc pm an cdv ct),osl⟩) (hcd:PySem.W.codeIn K cdv qual=true) (S:FnScope N ps scope)
  (len:∀vs H Q E,sp vs H Q E->vs.length=ps.length)
  (hbody:∀(A:Around) (outer:List Env) (s:Shared) (H:Hp) (vs:List V) (Q:VK) (E:XK),Room k (A.deeper (envOfC qual scope s.heap.objs.size f cdv))->sp vs H Q E →
   ∃t,PSs (cxOf CX P w K mg base N qual scope f cdv A outer s H E) body t∧t { nx:=fun _ H'=>Q .non H',rt:=Q } (start N vs) H) :
  FnOk P w K mg base CX (k+1) f (PySem.W.fnOf name qual params body scope dV kV doc pm an cdv ct) ps sp:=by
 refine ⟨len,fun A outer s H args us vs Q E hr e0 hb r hsp=>?_⟩
 have hl:=len _ _ _ _ hsp
 have KX:K.In s.heap:=e0.mod.kin.keeps fun b o e=>(e0.bs b o e).1
 have lim:s.heap.NoLimit:=e0.mod.nolimit.keeps fun b o e=>(e0.bs b o e).1
 have hkind:∀y∈ps.zip us,scope.names.lookup y.1=some .local∨(scope.names.lookup y.1=some .cell∧((cellsFrom (s.heap.objs.size+1) scope.names []).lookup y.1).isSome=true):=fun ⟨n,v⟩ hy=>by
  rcases S.par n (List.of_mem_zip hy).1 with q | q
  ·exact .inl q
  ·exact .inr ⟨q,PySem.W.cellsFrom_some _ _ _ (.inl q)⟩
 refine codeAny_call_function hr.depth (KX _ _ lk) rfl S.co S.gen rfl (PySem.W.codeRec_of KX hcd) (hb _ _ _ _ ?_)
 refine wpAny_newFunctionEnv_cells S.kind hkind fun env he s1 x=>?_
 subst he
 refine ⟨lim.keeps x.toInCall.keep,codeAny_func ?_⟩
 obtain ⟨t,ht,hq⟩:=hbody A outer s H vs Q E (hr.deeper _) hsp
 have I:Inv (cxOf CX P w K mg base N qual scope f cdv A outer s H E) [] (start N vs) H s1:=inv_start S hr.hd e0 hl r x
 refine wpAny_mono (ht [] s1 (start N vs) H _ I hq) (fun fl s' hs=>?_) fun e s' hs=>hs
 have fin:∀{σ':St} {H':Hp} {v:V} {u:Value},Inv (cxOf CX P w K mg base N qual scope f cdv A outer s H E) [] σ' H' s'->RelV v u->Q v H'->CE outer P w H s Q u s' :=
  fun {σ' H' v u} J rv q=>⟨v,H',J.os,J.bare,J.base,J.hok,rv,q⟩
 cases fl with
 | ret u =>
  obtain ⟨v,σ',H',J,rv,q⟩:=hs
  exact fin J rv q
 | next =>
  obtain ⟨σ',H',J,q⟩:=hs
  exact fin (v:=V.non) (u:=Value.none) J rfl q
 | brk =>
  obtain ⟨_,_,_,q⟩:=hs
  exact False.elim q
 | cont =>
  obtain ⟨_,_,_,q⟩:=hs
  exact False.elim q
end L2
namespace L2
open PySem PySem.Spec PyProof.Rows
section
variable {X:Cx} {x:Str} {p pos:Pos} {e:Expr} {es:List Expr} {t:TA} {id T:String} {r:List V->Hp->VK->Prop}
def tCB (r:List V->Hp->VK->Prop) (t:TA):TE:=fun σ H Q=>t σ H fun vs H1=>r vs H1 Q
theorem pe_callB (hc:CallR X (.builtin id) r) (hg:Gl X x) (hm:X.mg x=none) (hv:bootBuiltins x=some (.builtin id)) (ha:PA X (e :: es) t) (hn:x≠"__name__":=by decide) (hdb:(x == ("__debug__":Str))=false:=by decide)
  (he:starEach (e :: es) X.env=(false,eval e X.env) :: starEach es X.env:=by rfl) (hpl:(backTo pos (starEach es X.env)).any (·.1)=false:=by rfl):PE X (.Call (.Name x p) (e :: es) [] pos) (tCB r t):=by
 intro pins s σ H Q I h
 refine wpAny_Call_Name_kw (ld_blt I hg hm hv ?_ hn hdb)
 exact PyProof.Rows.callWith_builtin1 (thn (ha pos pins s σ H _ I h) fun us s1 ⟨vs,H1,I1,r1,q1⟩=>hc pins s1 σ H1 vs us Q I1 r1 q1) he hpl
end
end L2
namespace HT
open PySem PyProof.Rows
section
open PySem.SeqAt
open PySem.AutoSeq1 (wpAny_loadPart')
open PySem.MeetsSeq PySem.MeetsSeq2 PySem.MeetsSeq3
end
section
variable {prog:Program} {w:World} {A:Around} {E:Value->Shared->Prop} {s:Shared}
def sIx (n d:Nat):Option Int->Nat
 | none=>d
 | some v=>if v < 0 then (v+(n:Int)).toNat else min v.toNat n
end
end HT
namespace L2
open PySem PySem.Spec PyProof.Rows
abbrev TO:=St->Hp->(Option Int->Hp->Prop)->Prop
def PO (X:Cx) (e:Option Expr) (t:TO):Prop :=
 ∀(pins:List (Addr×Obj)) (s:Shared) (σ:St) (H:Hp) (Q:Option Int->Hp->Prop),Inv X pins σ H s->t σ H Q →
  wpAny (model X.prog X.w) X.A (evalPart e X.env) (fun u s'=>∃o H',Inv X pins σ H' s'∧IsPart u o∧Q o H') X.xe s
def tNoPart:TO:=fun _ H Q=>Q none H
def tPart (t:TE):TO:=fun σ H Q=>t σ H fun x H1=>∃i,x=.int i∧Q (some i) H1
section
variable {X:Cx} {e:Expr} {te:TE} {lo hi:Option Expr} {tl th:TO} {pos p2:Pos}
theorem po_none:PO X none tNoPart:=by
 intro pins s σ H Q I h
 rw[evalPart_none]
 exact wpAny_pure ⟨none,H,I,.none,h⟩
theorem po_some (h:PE X e te):PO X (some e) (tPart te):=by
 intro pins s σ H Q I hw
 rw[evalPart_some]
 refine thn (h pins s σ H _ I hw) fun u s1 ⟨x,H1,I1,r1,q1⟩=>?_
 obtain ⟨i,rfl,q⟩:=q1
 obtain ⟨t,rfl⟩:=r1
 exact ⟨some i,H1,I1,.int i t,q⟩
def SlR (X:Cx) (r:V->Option Int->Option Int->Hp->VK->Prop):Prop :=
 ∀(pins:List (Addr×Obj)) (s:Shared) (σ:St) (H:Hp) (x:V) (v vl vu:Value) (lo hi:Option Int) (sl:Addr) (Q:VK),Inv X pins σ H s->RelV x v->s.heap.IsSliceOf sl vl vu .none->IsPart vl lo->IsPart vu hi->r x lo hi H Q →
  ∃T id,typeLookup (.type T) "__getitem__"=pure (some (.builtin id))∧s.TypeIs v T∧wpAny (model X.prog X.w) X.A (getItem v (.ref sl)) (EP X pins σ Q) X.xe s
theorem SlR.or {r r':V->Option Int->Option Int->Hp->VK->Prop} (h:SlR X r) (h':SlR X r'):SlR X (fun x lo hi H Q=>r x lo hi H Q∨r' x lo hi H Q):=by
 intro pins s σ H x v vl vu lo hi sl Q I rx hs pl pu q
 rcases q with q | q
 ·exact h pins s σ H x v vl vu lo hi sl Q I rx hs pl pu q
 ·exact h' pins s σ H x v vl vu lo hi sl Q I rx hs pl pu q
def tSl (r:V->Option Int->Option Int->Hp->VK->Prop) (te:TE) (tl th:TO):TE:=fun σ H Q=>te σ H fun x H1=>tl σ H1 fun l H2=>th σ H2 fun u H3=>r x l u H3 Q
theorem pe_slice {r:V->Option Int->Option Int->Hp->VK->Prop} (hr:SlR X r) (he:PE X e te) (hl:PO X lo tl) (hu:PO X hi th):PE X (.Subscript e (.Slice lo hi none p2) pos) (tSl r te tl th):=by
 intro pins s σ H Q I h
 refine Subscript_ (thn (he pins s σ H _ I h) fun v s1 ⟨x,H1,I1,r1,q1⟩=>?_)
 refine wpAny_Slice (thn (hl pins s1 σ H1 _ I1 q1) fun vl s2 ⟨l,H2,I2,pl,q2⟩=>thn (hu pins s2 σ H2 _ I2 q2) fun vu s3 ⟨u,H3,I3,pu,q3⟩=>?_)
 rw[evalPart_none]
 refine wpAny_pure ?_
 have I4:Inv X pins σ H3 { s3 with heap:=s3.heap.push { cls:=.type "slice",data:=.fields #[vl,vu,.none] } }:=I3.kept (t':=s3.toks) fun b ob q=>Heap.get?_push_of_some _ q
 obtain ⟨T,id,hT,ht,hg⟩:=hr pins { s3 with heap:=s3.heap.push { cls:=.type "slice",data:=.fields #[vl,vu,.none] } } σ H3 x v vl vu l u s3.heap.objs.size Q I4 r1 (Heap.IsSliceOf.new ..) pl pu q3
 show wpAny (model X.prog X.w) X.A (subscriptTail e (.Slice lo hi none p2) v (.ref s3.heap.objs.size)) (EP X pins σ Q) X.xe { s3 with heap:=s3.heap.push { cls:=.type "slice",data:=.fields #[vl,vu,.none] } }
 exact tail_any (ops:=[.ref s3.heap.objs.size,v]) ht hT hg (by with_unfolding_all rfl)
def cutV (xs:List V) (lo hi:Option Int):List V:=(xs.drop (HT.sIx xs.length 0 lo)).take (HT.sIx xs.length xs.length hi - HT.sIx xs.length 0 lo)
theorem cutV_length (xs:List V) (lo hi:Option Int):(cutV xs lo hi).length<=xs.length:=by
 unfold cutV
 rw[List.length_take,List.length_drop]
 lia
end
end L2
namespace L2
open PySem PySem.Spec PyProof.Rows
def ixN (n:Nat) (i:Int):Option Nat:=if 0<=i then (if i < n then some i.toNat else none) else if -(n:Int)<=i then some (i+n).toNat else none
def atI {α:Type} (xs:List α) (i:Int):Option α:=(ixN xs.length i).bind fun j=>xs[j]?
theorem ixN_seq {n:Nat} {i:Int} {j:Nat} (h:ixN n i=some j):seqIndex? i n=some j∧j < n∧-(n:Int)<=i∧i < n:=by
 unfold ixN at h
 by_cases h0:0<=i
 ·rw[if_pos h0] at h
  by_cases h1:i < n
  ·rw[if_pos h1] at h
   have e:i.toNat=j:=Option.some.inj h
   exact ⟨by rw[seqIndex_of h0 h1,e],by lia,by lia,h1⟩
  ·rw[if_neg h1] at h;cases h
 ·rw[if_neg h0] at h
  by_cases h1:-(n:Int)<=i
  ·rw[if_pos h1] at h
   have e:(i+n).toNat=j:=Option.some.inj h
   exact ⟨by rw[seqIndex_neg (by lia) h1,e],by lia,h1,by lia⟩
  ·rw[if_neg h1] at h;cases h
theorem atI_get {α:Type} {xs:List α} {i:Int} {v:α} (h:atI xs i=some v):∃j,seqIndex? i xs.length=some j∧xs[j]?=some v∧j < xs.length∧-(xs.length:Int)<=i∧i < xs.length:=by
 unfold atI at h
 cases e:ixN xs.length i with
 | none=>rw[e] at h;cases h
 | some j =>
  rw[e] at h
  obtain ⟨h1,h2,h3,h4⟩:=ixN_seq e
  exact ⟨j,h1,h,h2,h3,h4⟩
theorem atI_nat {α:Type} {xs:List α} {j:Nat} {v:α} (h:xs[j]?=some v):atI xs (j:Int)=some v:=by
 have hj:j < xs.length:=(List.getElem?_eq_some_iff.mp h).1
 have e:ixN xs.length (j:Int)=some j:=by
  unfold ixN
  rw[if_pos (by lia),if_pos (by lia)];simp
 unfold atI;rw[e];exact h
def PlainIx (b:Expr):Prop:=∀o i,subscripted b false o i=operate [o,i] (getItem o i)
def IxR (X:Cx) (r:R2):Prop :=
 ∀(value slice:Expr) (pins:List (Addr×Obj)) (s:Shared) (σ:St) (H:Hp) (x y:V) (v u:Value) (Q:VK),Inv X pins σ H s->RelV x v->RelV y u->r x y H Q →
  subscripted slice false v u=operate [v,u] (getItem v u)->wpAny (model X.prog X.w) X.A (subscriptTail value slice v u) (EP X pins σ Q) X.xe s
def MtR (X:Cx) (id:String) (r:V->List V->Hp->VK->Prop):Prop :=
 ∀(pins:List (Addr×Obj)) (s:Shared) (σ:St) (H:Hp) (x:V) (xs:List V) (v:Value) (us:List Value) (Q:VK),Inv X pins σ H s->RelV x v->Vals xs us->r x xs H Q →
  wpAny (model X.prog X.w) X.A (call (.builtin id) (v :: us)) (EP X pins σ Q) X.xe s
section
variable {X:Cx} {a b:Expr} {ta tb:TE} {pos:Pos}
theorem IxR.or {r r':R2} (h:IxR X r) (h':IxR X r'):IxR X (fun x y H Q=>r x y H Q∨r' x y H Q):=by
 intro value slice pins s σ H x y v u Q I rx ry q hs
 rcases q with q | q
 ·exact h value slice pins s σ H x y v u Q I rx ry q hs
 ·exact h' value slice pins s σ H x y v u Q I rx ry q hs
theorem MtR.or {id:String} {r r':V->List V->Hp->VK->Prop} (h:MtR X id r) (h':MtR X id r'):MtR X id (fun x xs H Q=>r x xs H Q∨r' x xs H Q):=by
 intro pins s σ H x xs v us Q I rx rs q
 rcases q with q | q
 ·exact h pins s σ H x xs v us Q I rx rs q
 ·exact h' pins s σ H x xs v us Q I rx rs q
theorem pe_ix {r:R2} (hr:IxR X r) (ha:PE X a ta) (hb:PE X b tb) (hs:PlainIx b):PE X (.Subscript a b pos) (tOp r ta tb):=by
 intro pins s σ H Q I h
 exact Subscript_ (binT ha hb I h fun v u s2 x y H2 I2 rx ry q=>hr a b pins s2 σ H2 x y v u Q I2 rx ry q (hs _ _))
def rIxL (K:PySem.W.Frag):R2:=fun x y H Q=>∃p xs i v,x=.ref p∧y=.int i∧SqL K H p xs∧atI xs i=some v∧Q v H
def rIxT (K:PySem.W.Frag):R2:=fun x y H Q=>∃p xs i v,x=.ref p∧y=.int i∧SqT K H p xs∧atI xs i=some v∧Q v H
theorem ix_list:IxR X (rIxL X.K):=by
 intro value slice pins s σ H x y v u Q I rx ry h hs
 obtain ⟨p,xs,i,z,rfl,rfl,hq,he,q⟩:=h
 cases rx
 obtain ⟨t,rfl⟩:=ry
 obtain ⟨its,r,pl,hz⟩:=I.list hq
 obtain ⟨j,h1,h2,h3,h4,h5⟩:=atI_get he
 obtain ⟨w,ew,rw'⟩:=r.get h2
 have hl:=r.length
 have hn:=line63
 have fin:EP X pins σ Q w s:=⟨z,H,I,rw',q⟩
 by_cases h0:0<=i
 ·have hj:i.toNat=j:=by
   rw[seqIndex_of h0 h5] at h1
   exact Option.some.inj h1
  exact item_listR pl.isList h0 (by lia) (by rw[hj];simpa using ew) fin hs
 ·have hj:(i+(its.toArray.size:Int)).toNat=j:=by
   rw[seqIndex_neg (by lia) h4] at h1
   rw[List.size_toArray,← hl]
   exact Option.some.inj h1
  exact subscriptTail_builtinR (x:=w) pl.isList.typeIs slot_list_getitem.lookup
   (wpAny_getItem_list_neg (Q:=fun r s'=>r=w∧EP X pins σ Q r s') pl.isList (by lia) (by rw[List.size_toArray] <;> lia) (by lia) (by rw[hj];simpa using ew) ⟨rfl,fin⟩) hs
theorem ix_tup:IxR X (rIxT X.K):=by
 intro value slice pins s σ H x y v u Q I rx ry h hs
 obtain ⟨p,xs,i,z,rfl,rfl,hq,he,q⟩:=h
 cases rx
 obtain ⟨t,rfl⟩:=ry
 obtain ⟨its,r,pl,hz⟩:=I.tuple hq
 obtain ⟨j,h1,h2,h3,h4,h5⟩:=atI_get he
 obtain ⟨w,ew,rw'⟩:=r.get h2
 have hl:=r.length
 have hn:=line63
 have fin:EP X pins σ Q w s:=⟨z,H,I,rw',q⟩
 exact subscriptTail_builtinR (x:=w) pl.typeIs slot_tuple_getitem.lookup
  (getItem_tuple (j:=j) (Q:=fun r s'=>r=w∧EP X pins σ Q r s') pl (by lia) (by lia) (by rw[List.size_toArray,← hl];exact h1) (by simpa using ew) ⟨rfl,fin⟩) hs
theorem mapSeq_set (its:List Value) (n j:Nat) (u:Value):Obj.mapSeq (·.setIfInBounds j u) { cls:=.type "list",data:=.seq its.toArray n }={ cls:=.type "list",data:=.seq (its.set j u).toArray n }:=by
 simp [Obj.mapSeq]
theorem Inv.lst {pins:List (Addr×Obj)} {σ:St} {H:Hp} {s:Shared} {p:Addr} {xs:List V} (I:Inv X pins σ H s) (h:H p=some (.lst xs)) :
  ∃(its:List Value) (n:Nat),Vals xs its∧s.heap.get? p=some { cls:=.type "list",data:=.seq its.toArray n }∧xs.length<=sizeLine:=by
 obtain ⟨z,its,n,r,e⟩:=I.hok p _ h
 exact ⟨its,n,r,e,z⟩
theorem Inv.lstUpd {pins:List (Addr×Obj)} {σ:St} {H:Hp} {s:Shared} {p:Addr} {xs ys:List V} {its its':List Value} {n n':Nat} {f:Obj->Obj} (I:Inv X pins σ H s) (h:H p=some (.lst xs))
  (ho:s.heap.get? p=some { cls:=.type "list",data:=.seq its.toArray n }) (hf:f { cls:=.type "list",data:=.seq its.toArray n }={ cls:=.type "list",data:=.seq its'.toArray n' }) (r:Vals ys its') (hz:ys.length<=sizeLine) (t:Nat) :
  Inv X pins σ (upd H p (.lst ys)) { s with heap:=s.heap.update p f,toks:=t }:=by
 have e:(s.heap.update p f).get? p=some { cls:=.type "list",data:=.seq its'.toArray n' }:=by
  rw[Heap.get?_update_self f ho (by rw[hf] <;> rfl),hf]
 refine I.write (x:=p) (e:=p) (by rw[h];trivial) (.inl rfl) (fun b u hb q=>(Heap.get?_update_other _ _ (Ne.symm hb)).trans q) ⟨_,e⟩ ?_
 exact ⟨hz,its',n',r,e⟩
def rSetL:V->V->V->Hp->(Hp->Prop)->Prop:=fun o i v H Q=>∃p xs k j,o=.ref p∧i=.int k∧H p=some (.lst xs)∧ixN xs.length k=some j∧Q (upd H p (.lst (xs.set j v)))
theorem set_list:PSet X rSetL:=by
 intro pins s σ H o i v ov iv u Q I ro ri rv h
 obtain ⟨p,xs,k,j,rfl,rfl,hp,hj,q⟩:=h
 cases ro
 obtain ⟨t,rfl⟩:=ri
 obtain ⟨its,n,r,ho,hz⟩:=I.lst hp
 obtain ⟨h1,h2,h3,h4⟩:=ixN_seq hj
 have hl:=r.length
 have hn:=line63
 have I':Inv X pins σ (upd H p (.lst (xs.set j v))) { s with heap:=s.heap.update p (Obj.mapSeq (·.setIfInBounds j u)) } :=
  I.lstUpd hp ho (mapSeq_set its n j u) (r.set rv j) (by rw[List.length_set];exact hz) s.toks
 by_cases h0:0<=k
 ·have hk:k.toNat=j:=by
   rw[seqIndex_of h0 h4] at h1
   exact Option.some.inj h1
  exact PySem.W.ki_setAt ho h0 (by lia) (by rw[List.size_toArray,← hl];exact h4) (by rw[hk];exact ⟨_,I',q⟩)
 ·have hk:(k+(its.toArray.size:Int)).toNat=j:=by
   rw[seqIndex_neg (by lia) h3] at h1
   rw[List.size_toArray,← hl]
   exact Option.some.inj h1
  exact PySem.W.ki_setBack ho (by lia) (by rw[List.size_toArray,← hl];exact h3) (by lia) (by rw[hk];exact ⟨_,I',q⟩)
theorem slice_bounds (lo hi:Option Int) (n:Nat):(sliceBounds lo hi none n).1=((HT.sIx n 0 lo:Nat):Int)∧(sliceBounds lo hi none n).2.1=((HT.sIx n n hi:Nat):Int)∧(sliceBounds lo hi none n).2.2=1:=by
 refine ⟨?_,?_,rfl⟩
 ·cases lo with
  | none=>simp [sliceBounds,HT.sIx]
  | some i =>
   simp only[sliceBounds,HT.sIx,Option.getD_none,show (1:Int) > 0 by decide,if_true]
   by_cases h:i < 0
   ·simp only[h,if_true] <;> lia
   ·simp only[h,if_false] <;> lia
 ·cases hi with
  | none=>simp [sliceBounds,HT.sIx]
  | some i =>
   simp only[sliceBounds,HT.sIx,Option.getD_none,show (1:Int) > 0 by decide,if_true]
   by_cases h:i < 0
   ·simp only[h,if_true] <;> lia
   ·simp only[h,if_false] <;> lia
theorem slicePick_cut (its:List Value) (lo hi:Option Int):slicePick its.toArray lo hi none=((its.drop (HT.sIx its.length 0 lo)).take (HT.sIx its.length its.length hi - HT.sIx its.length 0 lo)).toArray:=by
 obtain ⟨h1,h2,h3⟩:=slice_bounds lo hi its.toArray.size
 unfold slicePick
 rw[h1,h2,h3]
 simp only[sliceRange_one,pick_run,List.size_toArray] <;> rfl
def rSlL (K:PySem.W.Frag):V->Option Int->Option Int->Hp->VK->Prop:=fun x lo hi H Q=>∃a xs,x=.ref a∧SqL K H a xs∧∀p,H p=none->Q (.ref p) (upd H p (.lst (cutV xs lo hi)))
theorem sl_list:SlR X (rSlL X.K):=by
 intro pins s σ H x v vl vu lo hi sl Q I rx hs pl pu h
 obtain ⟨a,xs,rfl,hx,q⟩:=h
 cases rx
 obtain ⟨its,r,ht,hz⟩:=I.list hx
 have hlen:=r.length
 refine ⟨"list",_,slot_list_getitem.lookup,ht.isList.typeIs,?_⟩
 refine wpAny_getItem_list_slice ht.isList hs pl pu .none (by simp) ?_ (by rw[List.size_toArray] <;> lia)
 rw[slicePick_cut,← hlen]
 refine ⟨.ref s.heap.objs.size,_,I.laid (t':=s.toks) (o:=.lst (cutV xs lo hi)) (fun b ob q=>Heap.get?_push_of_some _ q) (Nat.le_refl _) ?_,rfl,q _ (I.hok.fresh (Nat.le_refl _))⟩
 exact ⟨Nat.le_trans (cutV_length xs lo hi) hz,_,0,(r.drop (HT.sIx xs.length 0 lo)).take (HT.sIx xs.length xs.length hi - HT.sIx xs.length 0 lo),Heap.get?_push_size _ rfl⟩
theorem call_len_seq:CallR X (.builtin "len") (fun xs H Q=>∃p ys,xs=[.ref p]∧(SqL X.K H p ys∨SqT X.K H p ys)∧Q (.int ys.length) H):=by
 intro pins s σ H xs us Q I r h
 obtain ⟨p,ys,rfl,hq,q⟩:=h
 obtain ⟨u,rfl,rx⟩:=vals1 r
 cases rx
 have hn:=line63
 rcases hq with hq | hq
 ·obtain ⟨its,r',pl,hz⟩:=I.list hq
  have hlen:=r'.length
  exact Calls.call_len_list pl.isList (by simp only[List.size_toArray] <;> lia) ⟨.int ys.length,H,I.tok _,⟨s.toks+1,by rw[List.size_toArray,hlen]⟩,q⟩
 ·obtain ⟨its,r',pl,hz⟩:=I.tuple hq
  have hlen:=r'.length
  exact len_tuple pl (by simp only[List.size_toArray] <;> lia) ⟨.int ys.length,H,I.tok _,⟨s.toks+1,by rw[List.size_toArray,hlen]⟩,q⟩
theorem CallR.or {f:Value} {r r':List V->Hp->VK->Prop} (h:CallR X f r) (h':CallR X f r'):CallR X f (fun xs H Q=>r xs H Q∨r' xs H Q):=by
 intro pins s σ H xs us Q I rs q
 rcases q with q | q
 ·exact h pins s σ H xs us Q I rs q
 ·exact h' pins s σ H xs us Q I rs q
def tyV (K:PySem.W.Frag) (T:String) (x:V) (H:Hp):Prop:=match x with
 | .str _=>T="str"
 | .int _=>T="int"
 | .ref p=>(T="list"∧∃xs,SqL K H p xs)∨(T="tuple"∧∃o,K.lookup p=some o∧o.cls=.type "tuple"∧o.dict=none) ∨
   (T="dict"∧((∃kvs,H p=some (.dK kvs))∨∃kvs,H p=some (.dT kvs)))∨(T="set"∧∃S n,H p=some (.set S n))
 | _=>False
def tBM0 (K:PySem.W.Frag) (T:String) (r:V->List V->Hp->VK->Prop) (to:TE):TE:=fun σ H Q=>to σ H fun x H1=>tyV K T x H1∧r x [] H1 Q
def tBM (K:PySem.W.Frag) (T:String) (r:V->List V->Hp->VK->Prop) (to:TE) (t:TA):TE:=fun σ H Q=>to σ H fun x H1=>tyV K T x H1∧t σ H1 fun xs H2=>r x xs H2 Q
variable {o e:Expr} {es:List Expr} {to:TE} {t:TA} {name:Str} {apos cpos:Pos} {T id:String} {r:V->List V->Hp->VK->Prop}
/- xs.append(e),list.index on a module's tuple .. are MtR facts of 06m -/
end
end L2
namespace L2
open PySem PySem.Spec PyProof.Rows
theorem Vals.one:∀{x:V} {us:List Value},Vals [x] us->∃u,us=[u]∧RelV x u
 | _,_,.cons r .nil=>⟨_,rfl,r⟩
theorem Vals.two:∀{x y:V} {us:List Value},Vals [x,y] us->∃u v,us=[u,v]∧RelV x u∧RelV y v
 | _,_,_,.cons r (.cons q .nil)=>⟨_,_,rfl,r,q⟩
theorem Vals.zero:∀{us:List Value},Vals [] us->us=[]
 | _,.nil=>rfl
theorem Vals.reverse {xs:List V} {us:List Value} (h:Vals xs us):Vals xs.reverse us.reverse:=by
 induction h with
 | nil=>exact .nil
 | cons r t ih=>rw[List.reverse_cons,List.reverse_cons];exact Vals.append ih (.cons r .nil)
section
variable {X:Cx} {pins:List (Addr×Obj)} {σ:St} {H:Hp} {s:Shared} {l b:Addr} {xs ys zs:List V}
theorem Inv.lnew {its:List Value} {t':Nat} (I:Inv X pins σ H s) (hv:Vals ys its) (hz:ys.length<=sizeLine) :
  Inv X pins σ (upd H s.heap.objs.size (.lst ys)) { s with heap:=s.heap.push { cls:=.type "list",data:=.seq its.toArray },toks:=t' } :=
 I.laid (fun _ _ q=>Heap.get?_push_of_some _ q) (Nat.le_refl _) ⟨hz,its,0,hv,Heap.get?_push_size _ rfl⟩
theorem Inv.fresh (I:Inv X pins σ H s):H s.heap.objs.size=none:=I.hok.fresh (Nat.le_refl _)
theorem Inv.lstM (I:Inv X pins σ H s) (hH:H l=some (.lst xs)):xs.length<=sizeLine∧∃(its:List Value) (n:Nat),Vals xs its∧xs.length=its.length∧s.heap.get? l=some { cls:=.type "list",data:=.seq its.toArray n }:=by
 obtain ⟨z,its,n,r,e⟩:=I.hok l _ hH
 exact ⟨z,its,n,r,r.length,e⟩
end
section
variable {X:Cx}
def rCat:R2:=fun x y H Q=>∃l b xs zs,x=.ref l∧y=.ref b∧H l=some (.lst xs)∧H b=some (.lst zs)∧xs.length+zs.length<=sizeLine∧∀p,H p=none->Q (.ref p) (upd H p (.lst (xs++zs)))
theorem op_cat:OpR X (binaryOp .Add) rCat:=by
 intro pins s σ H x y v u Q I rx ry h
 obtain ⟨l,b,xs,zs,rfl,rfl,hH,hB,hz,q⟩:=h
 cases rx
 cases ry
 obtain ⟨z,its,n,r,hl,e⟩:=I.lstM hH
 obtain ⟨z2,its2,n2,r2,hl2,e2⟩:=I.lstM hB
 refine PySem.P.add_list e e2 ?_ (by rw[List.size_toArray,List.size_toArray];lia)
 have ea:its.toArray++its2.toArray=(its++its2).toArray:=by simp
 rw[ea]
 exact ⟨.ref _,_,I.lnew (t':=s.toks) (r.append r2) (by rw[List.length_append];lia),rfl,q _ I.fresh⟩
end
section
variable {prog:Program} {w:World} {A:Around} {E:Value->Shared->Prop} {s:Shared}
end
section
variable {X:Cx}
end
end L2
namespace Att
open PySem PySem.W PySem.Calls PyProof.Rows
theorem ints_of_wellAll {P:Params} {h:Heap}:∀(ns:List Int) (vs:List Value),WellAll P h vs (ns.map WData.int)->IntsAre vs ns:=by
 intro ns
 induction ns with
 | nil =>
  intro vs w
  rw[List.map_nil] at w
  cases w
  exact .nil
 | cons n ns ih =>
  intro vs w
  rw[List.map_cons] at w
  cases w with
  | cons a b =>
   cases a
   exact .cons _ _ (ih _ b)
theorem script_of {l:OpenLaw} {n:Nat} (hn:l.most=some n) {P:Params} {h:Heap} {args:List WData} {vals:List Value}
  (hpre:l.row.toRowW.claim.pre args=true) (hwl:WellAll P h vals args) :
  ∃a vs ns,vals=[Value.ref a]∧args=[WData.list (ns.map WData.int)]∧h.get? a=some { cls:=.type "list",data:=.seq vs.toArray }∧IntsAre vs ns∧ns.length<=n:=by
 have hsh:WShape.hasAll [] args [.list .int]=true:=(pre_splitW hpre).1
 have hc:l.pre.holds [] { args:=args }=true:=(pre_splitW hpre).2
 obtain ⟨d,r,rfl,h1,h2⟩:=hasAllW_cons hsh
 obtain rfl:=hasAllW_nil h2
 obtain ⟨xs,rfl,h3⟩:=hasW_list h1
 obtain ⟨ns,rfl⟩:=items_int h3
 have hlen:ns.length<=n:=by
  unfold OpenLaw.pre at hc
  have h4:(WTm.not (.lt (.lit (.int (n:Int))) (.len (.arg 0)))).holds [] { args:=[.list (ns.map .int)] }=true:=by
   have h4:=(holds_andW hc).1
   rw[hn] at h4
   exact h4
  have h5:=condW_of h4 (w_not (w_lt w_lit (w_len_list (w_arg rfl))))
  rw[List.length_map] at h5
  refine Nat.le_of_not_lt fun q=>?_
  have q':(n:Int) < ((ns.length:Nat):Int):=by lia
  first
   | (rw[decide_eq_true q'] at h5;exact absurd h5 (by decide))
   | (simp at h5;lia)
 cases hwl with
 | cons w1 w2 =>
  cases w2
  cases w1 with
  | list ho hall=>exact ⟨_,_,ns,rfl,rfl,ho,ints_of_wellAll ns _ hall,hlen⟩
theorem post_true (l:OpenLaw) (args:List WData):l.row.toRowW.claim.post args (.bool true) args=true :=
 postW_of (r:=l.row.toRowW) (X:=(true == true))
  (show WShape.has [] (.bool true) .bool=true by first | rfl | decide | simp [WShape.has,WShape.arms,WShape.armsAll])
  (show (WTm.eq .res (.lit (.bool true))).value [] { args:=args,res:=some (.bool true),after:=args }=some (.bool (true == true)) from w_eq_bool (w_res rfl) w_lit) rfl
theorem attach_call {l:OpenLaw} {n:Nat} {q:Program} {loose:List Str} {XP:(Str->Option Value)->Heap->Prop} {YP:World->Heap->Prop} {d:DefRec}
  (hn:l.most=some n) (hdf:d.params.defaults=[])
  (call:∀(w:World) (s₀ s₁:Shared) (mg mb:Str->Option Value) (fa:Addr) (o:Obj) (pm cd doc:Value) (a:Addr) (vs:List Value) (ns:List Int),
   Ground q loose [] XP w s₀ mg mb s₁.heap->YP w s₁.heap →
   s₁.heap.get? fa=some o->o.data=.func (docDef d.name d.params d.body d.scope pm cd doc)->s₁.heap.CodeRec cd d.name->mg d.name=some (.ref fa) →
   s₁.heap.get? a=some { cls:=.type "list",data:=.seq vs.toArray }->IntsAre vs ns->ns.length<=n->s₁.gens=#[] →
   codeAny (model l.prog w) callerA (.call (.ref fa) ⟨[.ref a],[]⟩) (fun r s'=>r=.ok (.ret (.bool true))∧OldK s₁.heap s'.heap∧s'.os=s₁.os∧AllBare s'.gens) s₁) :
  WalkO q loose XP YP l.row.toRowW d [] (fun f vs=>PySem.call f vs):=by
 intro w s₀ s₁ mg mb G Y fa o pm cd doc dV kV ho hd hcd hD hmg hg args vals as hpre hlay hrd hwl hlo
 obtain rfl:dV=.none:=Dflts.none hD hdf
 obtain rfl:kV=.none:=Dflts.noKw hD
 obtain ⟨a,vs,ns,rfl,rfl,hobj,hints,hlen⟩:=script_of hn hpre hwl
 refine enter_call (codeAny_mono (call w s₀ s₁ mg mb fa o pm cd doc a vs ns G Y ho (fd_plain hd) hcd hmg hobj hints hlen hg) fun r s' hq=>?_)
 obtain ⟨rfl,h2,h3,h4⟩:=hq
 exact ⟨.inl ⟨.bool true,.bool true,[],rfl,fun _=>rfl,.bool true,post_true l _,fun _=>⟨List.Pairwise.nil,fun _ hm=>(nomatch hm)⟩⟩,h2,h3,h4⟩
section
variable {prog:Program} {w:World} {A:Around} {E:Value->Shared->Prop} {s:Shared} {K:Frag}
def ledger (h:Heap) (L d:Addr):List (Addr×Obj):=(List.range h.objs.size).filterMap fun a=>if a=L∨a=d then none else (h.get? a).map fun o=>(a,o)
end
end Att
namespace L2
open PySem PySem.Spec PyProof.Rows
theorem vals_ints:∀{vs:List Value} {ns:List Int},IntsAre vs ns->Vals (ns.map V.int) vs
 | _,_,.nil=>.nil
 | _,_,.cons n t h=>.cons ⟨t,rfl⟩ (vals_ints h)
def Only (H:Hp):Prop:=∀b,H b=none∨∃o xs,H b=some (.frz o (.lst xs))
theorem law_call {P : Program} {w : World} {K : PySem.W.Frag} {mg mb : Str → Option Value} {CX : CXT} {k : Nat} {fa a : Addr} {fd : FuncData} {x : Str} {sp : Sp} {s₁ : Shared} {vs : List Value} {ns : List Int}
    (KX : K.In s₁.heap) (hns : s₁.heap.Ns mainGlobals mg) (hb : s₁.heap.Ns builtinsNs mb) (hbb : ∀ x : Str, x ≠ "__name__" → mb x = bootBuiltins x) (hlim : s₁.heap.NoLimit) (hg : s₁.gens = #[])
    (ha : s₁.heap.get? a = some { cls := .type "list", data := .seq vs.toArray }) (hi : IntsAre vs ns) (hl : ns.length ≤ sizeLine) (hr : Room k callerA)
    (F : ∀ base : Heap, K.In base → base.Ns mainGlobals mg → FnOk P w K mg base CX k fa fd [x] sp) (hbind : ∀ (s : Shared) (u : Value), BindsTo s fd ⟨[u], []⟩ [(x, u)])
    (hsp : ∀ H : Hp, Only H → SqL K H a (ns.map V.int) → sp [.ref a] H (fun v _ => v = .bl true) fun _ _ _ => False)
    (hCX : ∀ H e s', CX [] H s₁ (fun _ _ _ => False) e s' → False) :
    codeAny (model P w) callerA (.call (.ref fa) ⟨[.ref a], []⟩) (fun r s' => r = .ok (.ret (.bool true)) ∧ OldK s₁.heap s'.heap ∧ s'.os = s₁.os ∧ AllBare s'.gens) s₁ := by
  have rv := vals_ints hi
  have lenV := hi.length
  -- from an abstract heap in which nothing but the script may be tracked
  have core : ∀ H : Hp, Only H → SqL K H a (ns.map V.int) → HOk P w H s₁.heap → (∀ b, H b ≠ none → b = a) → (H a ≠ none → K.lookup a = none) →
      codeAny (model P w) callerA (.call (.ref fa) ⟨[.ref a], []⟩) (fun r s' => r = .ok (.ret (.bool true)) ∧ OldK s₁.heap s'.heap ∧ s'.os = s₁.os ∧ AllBare s'.gens) s₁ := by
    intro H hO hS hok hA hK
    have base_of : ∀ {b : Addr} {o : Obj}, s₁.heap.get? b = some o → H b = none → (hidT s₁.heap H).get? b = some o := fun e n => hidT_get e n
    have noA : ∀ {b : Addr} {o : Obj} {es : Array DictEntry} {ep : Nat}, s₁.heap.get? b = some o → o.data = .dict es ep → H b = none := fun {b o es ep} e d => by
      cases q : H b with
      | none => rfl
      | some u =>
        have e' : b = a := hA b (by rw [q]; simp)
        subst e'
        rw [ha] at e; cases e
        have d' : Data.seq vs.toArray _ = Data.dict es ep := d
        cases d'
    have nsK : ∀ {b : Addr} {m : Str → Option Value}, s₁.heap.Ns b m → (hidT s₁.heap H).Ns b m := fun {b m} ⟨o, es, ep, e, d, r⟩ => ⟨o, es, ep, base_of e (noA e d), d, r⟩
    have hKb : K.In (hidT s₁.heap H) := fun b o e => base_of (KX b o e) (by
      cases q : H b with
      | none => rfl
      | some u =>
        have e' : b = a := hA b (by rw [q]; simp)
        subst e'
        rw [hK (by rw [q]; simp)] at e; cases e)
    have hM : Mod K mg (hidT s₁.heap H) := ⟨hKb, nsK hns, ⟨mb, nsK hb, hbb⟩, let ⟨mc, h1, h2⟩ := hlim; ⟨mc, nsK h1, h2⟩⟩
    have e0 : Env0 P w K mg (hidT s₁.heap H) callerA [] s₁ H := ⟨rfl, hM, fun b o e => of_hidT e, Nat.le_of_eq (hidT_size _ _), trivial, fun b hb => absurd (show b ∈ ([] : List Addr) from hb) (by simp), hok, .of_eq hg⟩
    refine codeAny_mono ((F _ hKb (nsK hns)).run callerA [] s₁ H ⟨[.ref a], []⟩ [.ref a] [.ref a] _ _ hr e0 (hbind s₁ (.ref a)) (.cons rfl .nil) (hsp H hO hS)) fun r s' h => ?_
    cases r with
    | error e => exact (hCX H e s' h).elim
    | ok fl =>
      cases fl with
      | next => exact False.elim h
      | brk => exact False.elim h
      | cont => exact False.elim h
      | ret u =>
        obtain ⟨v, H', os, bare, un, hok', r', q⟩ := h
        have q' : v = .bl true := q
        subst q'
        obtain rfl : u = Value.bool true := r'
        refine ⟨rfl, OldK.of_keep fun b o e => ?_, os, bare⟩
        cases q : H b with
        | none => exact un.keep b o e q (by intro z; exact absurd (show b ∈ ([] : List Addr) from z) (by simp)) (by simp)
        | some u =>
          rcases hO b with z | ⟨ob, xs, z⟩
          · rw [q] at z; cases z
          · have z2 := un.frzs b ob _ z
            obtain ⟨e1, _⟩ := hok b _ z
            obtain ⟨e2, _⟩ := hok' b _ z2
            rw [e] at e1; cases e1
            exact e2
  cases hk : K.lookup a with
  | some o =>
    -- the script is one of the module's own objects
    have e := KX a o hk
    rw [ha] at e
    cases e
    refine core (fun _ => none) (fun _ => .inl rfl) (.inr ⟨_, vs.toArray, _, hk, rfl, rfl, rfl, by rw [List.size_toArray, lenV]; exact hl, by simpa using rv⟩) (fun b u z => by have z' : (none : Option HO) = some u := z; cases z') (fun b z => absurd rfl z) fun z => absurd rfl z
  | none =>
    refine core (fun b => if b = a then some (.frz { cls := .type "list", data := .seq vs.toArray } (.lst (ns.map V.int))) else none) (fun b => ?_) (.inl (.inr ⟨{ cls := .type "list", data := .seq vs.toArray }, if_pos rfl⟩)) (fun b u z => ?_) (fun b z => ?_) fun _ => hk
    · by_cases hb : b = a
      · exact .inr ⟨_, _, if_pos hb⟩
      · exact .inl (if_neg hb)
    · by_cases hb : b = a
      · have z' := (if_pos hb).symm.trans z
        cases z'
        subst hb
        exact ⟨ha, by rw [List.length_map]; exact hl, vs, _, rv, ha⟩
      · have z' := (if_neg hb).symm.trans z
        cases z'
    · by_cases hb : b = a
      · exact hb
      · exact absurd (if_neg hb) z
end L2
namespace L2
open PySem PySem.Spec PyProof.Rows
abbrev KOf {K:PySem.W.Frag} {h:Heap} (_:K.In h):PySem.W.Frag:=K
theorem walk_of {l:PySem.W.OpenLaw} {n k:Nat} {q:Program} {loose:List Str} {XP:(Str->Option Value)->Heap->Prop} {YP:World->Heap->Prop} {d:DefRec} {K:Params->PySem.W.Frag} {CX:World->CXT} {sp:World->Sp} {x:Str}
  (hn:l.most=some n) (hn2:n<=sizeLine) (hdf:d.params.defaults=[]) (hr:Room k callerA)
  (hY:∀(w:World) (h:Heap),YP w h->(K w.params).In h)
  (F:∀(w:World) (mg:Str->Option Value) (fa:Addr) (h:Heap),(K w.params).In h->h.Ns mainGlobals mg->mg d.name=some (.ref fa) →
   ∃fd:FuncData,(∀(s:Shared) (u:Value),BindsTo s fd ⟨[u],[]⟩ [(x,u)]) ∧
    ∀base:Heap,(K w.params).In base->base.Ns mainGlobals mg->FnOk l.prog w (K w.params) mg base (CX w) k fa fd [x] (sp w))
  (hsp:∀(w:World) (H:Hp) (a:Addr) (ns:List Int),ns.length<=n->Only H->SqL (K w.params) H a (ns.map V.int)->sp w [.ref a] H (fun v _=>v=.bl true) fun _ _ _=>False)
  (hCX:∀(w:World) (H:Hp) (s:Shared) (e:Value) (s':Shared),CX w [] H s (fun _ _ _=>False) e s'->False) :
  PySem.W.WalkO q loose XP YP l.row.toRowW d [] (fun f vs=>PySem.call f vs):=by
 refine Att.attach_call hn hdf fun w s₀ s₁ mg mb fa o pm cd doc a vs ns G Y ho hd hcd hmg hobj hints hlen hg=>?_
 have KX:=hY w _ Y
 obtain ⟨fd,hb,hF⟩:=F w mg fa _ KX G.T.g hmg
 exact law_call KX G.T.g G.T.b G.T.builtins G.T.nolimit hg hobj hints (Nat.le_trans hlen hn2) hr hF hb (fun H hO hS=>hsp w H a ns hlen hO hS) fun H e s'=>hCX w H s₁ e s'
end L2

/- THE LAST THEOREM (shape; LID, My.* are yours):
   My.Adr: a structure of the addresses that your layer names (classes, functions); My.Txt K t: a structure (Prop) of the equations over K;
   My.txt_mk : {K} {implicit addresses ..} (e1 : nsIn K mainGlobals "law" = some (some (.ref f))) (e2 : K.lookup f = some ⟨oc, od, .func (fnOf "law" "law" params body scope dV kV doc pm an cdv ct), sl⟩) (e3 : codeIn K cdv "law" = true) .. : ∃ t, My.Txt K t

set_option maxRecDepth 100000 in
set_option maxHeartbeats 0 in
theorem PySem.Challenge.cw_LID_holds : PySem.Challenge.rw_LID.Holds := by
  w_on; o_law; k_head; (case hw => w_witness2)
  k_fill
  refine L2.walk_of (l := PySem.Challenge.rw_LID) (n := 63) (k := 40) (x := "script") (CX := fun w => ..) (sp := fun _ => My.sp_law) rfl (by decide) rfl ⟨rfl, by decide, by decide⟩ (fun w h Y => PySem.W.kIn_of Y) ?F ?S ?C
  case F =>
    intro w mg fa h KX G hmg
    have T : ∃ t, My.Txt (L2.KOf KX) t := by
      dsimp only [L2.KOf]                          -- K must stand as «<heap const> w.params» for k_is
      refine' My.txt_mk ?e1 ?e2 ?e3 ..
      (case e1 => PySem.W.k_is)                    -- in the order: a name -> its address -> its object -> its parts
      (case e2 => PySem.W.k_is)
      ..
    obtain ⟨t, T⟩ := T
    have e0 := hmg.symm.trans (PySem.W.mg_of KX G T.law)
    cases e0                                       -- fa is the law's own address
    exact ⟨_, fun s u => .of_eq rfl, fun base kb nb => My.law_fn T kb nb⟩     -- if «.of_eq rfl» comes too early: refine' ⟨_, ?b, fun base kb nb => My.law_fn T kb nb⟩; exact fun s u => .of_eq rfl
  case S => exact fun w H a ns hl hO hS => ..
  case C => exact ..
(the tactic k_is has no namespace: write k_is) -/

namespace L2
open PySem PySem.Spec PyProof.Rows
def inClass (s:Stmt) (j:Nat):Stmt:=match s with
 | .ClassDef _ _ _ body _ _ _ _ _ _ _=>body.getD j (.Pass ⟨0,0,0,0⟩)
 | _=>.Pass ⟨0,0,0,0⟩
def defArgs (s:Stmt):Arguments:=match s with
 | .FunctionDef _ a _ _ _ _ _ _ _ _=>a
 | _=>{ posonlyargs:=[],args:=[],vararg:=none,kwonlyargs:=[],kw_defaults:=[],kwarg:=none,defaults:=[] }
def defBody (s:Stmt):List Stmt:=match s with
 | .FunctionDef _ _ b _ _ _ _ _ _ _=>b
 | _=>[]
def defScope (s:Stmt):Scope:=match s with
 | .FunctionDef _ _ _ _ _ _ sc _ _ _=>sc
 | _=>{ kind:=.function,names:=[],isGenerator:=false,isCoroutine:=false }
abbrev CX0:CXT:=fun _ _ _ _ _ _=>False
abbrev E0:XK:=fun _ _ _=>False
theorem pass0 {X:Cx}:Passes CX0 X E0:=fun _ _ _ _ _ _ _ h=>h.elim
structure Fun (K:PySem.W.Frag) (x qual:Str) (st:Stmt) (f:Addr) (fd:FuncData):Prop where
 ex:∃(oc:Value) (od:Option Addr) (kV doc pm:Value) (an:Option Addr) (cdv ct:Value) (osl:Array (Option Value)),
  fd=PySem.W.fnOf x qual (defArgs st) (defBody st) (defScope st) .none kV doc pm an cdv ct∧K.lookup f=some ⟨oc,od,.func fd,osl⟩∧PySem.W.codeIn K cdv qual=true
 kp:PySem.W.keepIn K (.ref f)=true
section
variable {P:Program} {w:World} {K:PySem.W.Frag} {mg:Str->Option Value} {base:Heap}
theorem Fun.ok {x qual:Str} {st:Stmt} {f:Addr} {fd:FuncData} {N ps:List Str} {k:Nat} {sp:Sp} (F:Fun K x qual st f fd) (S:FnScope N ps (defScope st)) (len:∀vs H Q E,sp vs H Q E->vs.length=ps.length)
  (hbody:∀(cdv:Value) (A:Around) (outer:List Env) (s:Shared) (H:Hp) (vs:List V) (Q:VK) (E:XK),Room k (A.deeper (envOfC qual (defScope st) s.heap.objs.size f cdv))->sp vs H Q E →
   ∃t,PSs (cxOf CX0 P w K mg base N qual (defScope st) f cdv A outer s H E).nox (defBody st) t∧t { nx:=fun _ H'=>Q .non H',rt:=Q } (start N vs) H):FnOk P w K mg base CX0 (k+1) f fd ps sp:=by
 obtain ⟨oc,od,kV,doc,pm,an,cdv,ct,osl,rfl,lk,hcd⟩:=F.ex
 refine fn_of lk hcd S len fun A outer s H vs Q E hr hsp=>?_
 obtain ⟨t,h,q⟩:=hbody cdv A outer s H vs Q E hr hsp
 exact ⟨t,h.nox,q⟩
theorem Fun.binds {x qual:Str} {st:Stmt} {f:Addr} {fd:FuncData} {ps:List Str} (F:Fun K x qual st f fd)
  (h:∀(kV doc pm:Value) (an:Option Addr) (cdv ct:Value) (us:List Value),us.length=ps.length->bindArgs (PySem.W.fnOf x qual (defArgs st) (defBody st) (defScope st) .none kV doc pm an cdv ct) ⟨us,[]⟩=pure (ps.zip us)):Binds K fd ps []:=by
 obtain ⟨oc,od,kV,doc,pm,an,cdv,ct,osl,rfl,lk,hcd⟩:=F.ex
 exact .all (h kV doc pm an cdv ct)
theorem fun_mk {x qual:Str} {st:Stmt} {f:Addr} {oc:Value} {od an:Option Addr} {osl:Array (Option Value)} {kV doc pm cdv ct:Value} (l:K.lookup f=some ⟨oc,od,.func (PySem.W.fnOf x qual (defArgs st) (defBody st) (defScope st) .none kV doc pm an cdv ct),osl⟩)
  (c:PySem.W.codeIn K cdv qual=true) (k:PySem.W.keepIn K (.ref f)=true):Fun K x qual st f (PySem.W.fnOf x qual (defArgs st) (defBody st) (defScope st) .none kV doc pm an cdv ct):=⟨⟨oc,od,kV,doc,pm,an,cdv,ct,osl,rfl,l,c⟩,k⟩
end
theorem small1000 {n:Nat} (h:n<=1000):n < sizeLine:=Nat.lt_of_le_of_lt h (by decide)
section
variable {X:Cx}
theorem pv (i:Nat) {x:Str} {pos:Pos} (hN:X.N[i]?=some x:=by rfl) (hv:Vis X.env.scope x:=by first | exact Or.inl rfl | exact Or.inr (Or.inl rfl) | exact Or.inr (Or.inr rfl)) (hd:(x == ("__debug__":Str))=false:=by decide)
  (hcd:(x == ("__classdict__":Str))=false:=by decide):PE X (.Name x pos) (tVar i):=pe_var hN hv hd hcd
end
theorem iteF {A B:Prop} (h:B):if false=true then A else B:=by
 rw[if_neg Bool.false_ne_true]
 exact h
theorem iteT {A B:Prop} (h:A):if true=true then A else B:=by
 rw[if_pos rfl]
 exact h
theorem ite2 {c A B:Prop} [Decidable c] (h1:c->A) (h2:¬c->B):if c then A else B:=by
 by_cases h:c
 ·rw[if_pos h]
  exact h1 h
 ·rw[if_neg h]
  exact h2 h
def Same (H H':Hp):Prop:=∀b o,H b=some o->H' b=some o
theorem Same.refl (H:Hp):Same H H:=fun _ _ h=>h
theorem Same.trans {H H1 H2:Hp} (a:Same H H1) (b:Same H1 H2):Same H H2:=fun c o h=>b c o (a c o h)
theorem Same.free {H H':Hp} (e:Same H H') {l:Addr} (h:H' l=Option.none):H l=Option.none:=by
 cases q:H l with
 | none=>rfl
 | some o =>
  rw[e l o q] at h
  cases h
theorem Same.seq {K:PySem.W.Frag} {H H':Hp} {a:Addr} {xs:List V} (e:Same H H') (h:SqL K H a xs):SqL K H' a xs:=by
 rcases h with (h | ⟨o,h⟩) | h
 ·exact .inl (.inl (e _ _ h))
 ·exact .inl (.inr ⟨o,e _ _ h⟩)
 ·exact .inr h
end L2
namespace Nm
theorem gcd_emod (a b:Int):Int.gcd b (a % b)=Int.gcd a b:=by
 rw[Int.emod_def,Int.gcd_comm a b]
 apply Nat.dvd_antisymm
 ·apply Int.dvd_gcd
  ·exact Int.gcd_dvd_left ..
  ·have h1:=Int.gcd_dvd_left (a:=b) (b:=a - b*(a / b))
   have h2:=Int.gcd_dvd_right (a:=b) (b:=a - b*(a / b))
   have h3:=Int.dvd_add h2 (Int.dvd_mul_of_dvd_left (c:=a / b) h1)
   rwa [Int.sub_add_cancel] at h3
 ·apply Int.dvd_gcd
  ·exact Int.gcd_dvd_left ..
  ·exact Int.dvd_sub (Int.gcd_dvd_right ..) (Int.dvd_mul_of_dvd_left (Int.gcd_dvd_left ..))
def g (t b:Int):Int:=(Int.gcd t b:Int)
def lo (t b:Int):Int:=t / g t b
def hi (t b:Int):Int:=b / g t b
theorem g_pos {t b:Int} (h:b≠0):0 < g t b:=by
 unfold g
 have:0 < Int.gcd t b:=Int.gcd_pos_of_ne_zero_right _ h
 lia
theorem lo_mul (t b:Int):lo t b*g t b=t:=Int.ediv_mul_cancel (Int.gcd_dvd_left ..)
theorem hi_mul (t b:Int):hi t b*g t b=b:=Int.ediv_mul_cancel (Int.gcd_dvd_right ..)
theorem hi_pos {t b:Int} (h:0 < b):0 < hi t b:=by
 have h1:=g_pos (t:=t) (b:=b) (by lia)
 have h2:=hi_mul t b
 by_cases h3:0 < hi t b
 ·exact h3
 ·have:hi t b*g t b<=0:=Int.mul_nonpos_of_nonpos_of_nonneg (by lia) (by lia)
  lia
theorem lohi_gcd {t b:Int} (h:b≠0):Int.gcd (lo t b) (hi t b)=1:=by
 have h1:=g_pos (t:=t) h
 have e:=Int.gcd_mul_right (lo t b) (g t b) (hi t b)
 rw[lo_mul,hi_mul] at e
 have e2:(g t b).natAbs=Int.gcd t b:=by unfold g;simp
 rw[e2] at e
 have h2:0 < Int.gcd t b:=Int.gcd_pos_of_ne_zero_right _ h
 exact Nat.eq_of_mul_eq_mul_right h2 (by rw[← e,Nat.one_mul])
theorem dvd_of_cop {a b c:Int} (h:Int.gcd a b=1) (hd:a∣b*c):a∣c:=by
 have h1:a.natAbs∣b.natAbs*c.natAbs:=by rw[← Int.natAbs_mul];exact Int.natAbs_dvd_natAbs.mpr hd
 have h2:Nat.Coprime a.natAbs b.natAbs:=h
 exact Int.natAbs_dvd_natAbs.mp (h2.dvd_of_dvd_mul_left h1)
theorem natAbs_mul_le {a b:Int} (h:b≠0):a.natAbs<=(a*b).natAbs:=by
 rw[Int.natAbs_mul]
 exact Nat.le_mul_of_pos_right _ (Int.natAbs_pos.mpr h)
theorem lo_le {t b:Int} (h:b≠0):(lo t b).natAbs<=t.natAbs:=by
 have:=natAbs_mul_le (a:=lo t b) (b:=g t b) (by have:=g_pos (t:=t) h;lia)
 rwa [lo_mul] at this
theorem hi_le {t b:Int} (h:b≠0):(hi t b).natAbs<=b.natAbs:=by
 have:=natAbs_mul_le (a:=hi t b) (b:=g t b) (by have:=g_pos (t:=t) h;lia)
 rwa [hi_mul] at this
def Sz (k:Nat) (x:Int):Prop:=x.natAbs < 2^k
theorem Sz.mono {j k:Nat} {x:Int} (h:Sz j x) (l:j<=k):Sz k x:=Nat.lt_of_lt_of_le h (Nat.pow_le_pow_right (by decide) l)
theorem Sz.mul {j k:Nat} {x y:Int} (h1:Sz j x) (h2:Sz k y):Sz (j+k) (x*y):=by
 unfold Sz at *
 rw[Int.natAbs_mul,Nat.pow_add]
 exact Nat.mul_lt_mul'' h1 h2
theorem Sz.add {j k:Nat} {x y:Int} (h1:Sz j x) (h2:Sz k y):Sz (j+k+1) (x+y):=by
 have a1:Sz (j+k) x:=h1.mono (by lia)
 have a2:Sz (j+k) y:=h2.mono (by lia)
 unfold Sz at *
 have:=Int.natAbs_add_le x y
 rw[Nat.pow_succ]
 lia
theorem Sz.neg {k:Nat} {x:Int} (h:Sz k x):Sz k (-x):=by unfold Sz at *;rw[Int.natAbs_neg];exact h
theorem Sz.sub {j k:Nat} {x y:Int} (h1:Sz j x) (h2:Sz k y):Sz (j+k+1) (x - y):=by
 rw[Int.sub_eq_add_neg];exact h1.add h2.neg
theorem Sz.le {k:Nat} {x y:Int} (h:Sz k y) (l:x.natAbs<=y.natAbs):Sz k x:=Nat.lt_of_le_of_lt l h
theorem Sz.lo {k:Nat} {t b:Int} (h:Sz k t) (hb:b≠0):Sz k (lo t b):=h.le (lo_le hb)
theorem Sz.hi {k:Nat} {t b:Int} (h:Sz k b) (hb:b≠0):Sz k (hi t b):=h.le (hi_le hb)
end Nm
namespace L2
open PySem PySem.Spec PyProof.Rows
structure Bk (env:Env) (scope:Scope) (own capN:List Str):Prop where
 kind:scope.kind=.function
 locs:∀y∈scope.names,y.2=.local->scope.names.lookup y.1=some .local
 ownk:∀x∈own,scope.names.lookup x=some .local∨scope.names.lookup x=some .cell
 cells:∀y∈scope.names,y.2=.cell->y.1∈own∧y.1∉capN
 frees:∀y∈scope.names,y.2=.free->y.1∈capN∧y.1∉own
 capf:∀x∈capN,scope.names.lookup x=some .free
 caps:∀x∈capN,env.kindOf x=some .cell∨env.kindOf x=some .free
def bkS (scope:Scope) (own capN:List Str):Bool :=
 decide (scope.kind=.function) && scope.names.all (fun y=>decide (y.2=.local->scope.names.lookup y.1=some .local) && decide (y.2=.cell->y.1∈own∧y.1∉capN) && decide (y.2=.free->y.1∈capN∧y.1∉own)) &&
 own.all (fun x=>decide (scope.names.lookup x=some .local∨scope.names.lookup x=some .cell)) && capN.all fun x=>decide (scope.names.lookup x=some .free)
def capsB (env:Env):List Str->Bool
 | []=>true
 | x :: r=>(match env.kindOf x with | some .cell=>true | some .free=>true | _=>false) && capsB env r
theorem capsB_ok {env:Env}:∀{capN:List Str},capsB env capN=true->∀x∈capN,env.kindOf x=some .cell∨env.kindOf x=some .free
 | [],_,_,h=>nomatch h
 | y :: r,h,x,hx=>by
  unfold capsB at h
  rw[Bool.and_eq_true] at h
  rcases List.mem_cons.mp hx with e | hx
  ·subst e
   have h1:=h.1
   split at h1
   ·rename_i e;exact .inl e
   ·rename_i e;exact .inr e
   ·cases h1
  ·exact capsB_ok h.2 x hx
theorem Bk.of {env:Env} {scope:Scope} {own capN:List Str} (h1:bkS scope own capN=true) (h2:capsB env capN=true):Bk env scope own capN:=by
 unfold bkS at h1
 rw[Bool.and_eq_true,Bool.and_eq_true,Bool.and_eq_true,List.all_eq_true,List.all_eq_true,List.all_eq_true] at h1
 obtain ⟨⟨⟨a1,a2⟩,a3⟩,a4⟩:=h1
 have a2':∀y∈scope.names,(y.2=.local->scope.names.lookup y.1=some .local)∧(y.2=.cell->y.1∈own∧y.1∉capN)∧(y.2=.free->y.1∈capN∧y.1∉own):=fun y hy=>by
  have q:=a2 y hy
  rw[Bool.and_eq_true,Bool.and_eq_true] at q
  exact ⟨of_decide_eq_true q.1.1,of_decide_eq_true q.1.2,of_decide_eq_true q.2⟩
 exact ⟨of_decide_eq_true a1,fun y hy=>(a2' y hy).1,fun x hx=>of_decide_eq_true (a3 x hx),fun y hy=>(a2' y hy).2.1,fun y hy=>(a2' y hy).2.2,fun x hx=>of_decide_eq_true (a4 x hx),capsB_ok h2⟩
def capCells (env:Env):List (Str×NameKind)->List (Str×Addr)->List (Str×Addr)
 | [],acc=>acc
 | (n,k) :: r,acc=>if k == .free then capCells env r ((n,(env.cells.lookup n).getD 0) :: acc) else capCells env r acc
theorem capCells_app (env:Env):∀(names:List (Str×NameKind)) (acc:List (Str×Addr)),capCells env names acc=capCells env names []++acc
 | [],_=>rfl
 | (n,k) :: r,acc=>by
  unfold capCells
  split
  ·rw[capCells_app env r (_ :: acc),capCells_app env r [_],List.append_assoc];rfl
  ·exact capCells_app env r acc
theorem capCells_mem (env:Env):∀(names:List (Str×NameKind)) {x:Str} {c:Addr},(x,c)∈capCells env names []->(x,NameKind.free)∈names∧c=(env.cells.lookup x).getD 0
 | [],_,_,h=>nomatch h
 | (n,k) :: r,x,c,h=>by
  unfold capCells at h
  split at h
  ·rename_i hk
   have ek:k=.free:=by simpa using hk
   subst ek
   rw[capCells_app] at h
   rcases List.mem_append.mp h with h | h
   ·have q:=capCells_mem env r h
    exact ⟨List.mem_cons_of_mem _ q.1,q.2⟩
   ·have e:(x,c)=(n,(env.cells.lookup n).getD 0):=by simpa using h
    cases e
    exact ⟨List.mem_cons_self,rfl⟩
  ·have q:=capCells_mem env r h
   exact ⟨List.mem_cons_of_mem _ q.1,q.2⟩
theorem lookup_some_of_mem {α:Type}:∀{l:List (Str×α)} {x:Str} {c:α},(x,c)∈l->∃d,l.lookup x=some d
 | (k,v) :: r,x,c,h=>by
  rw[List.lookup_cons]
  cases hb:x == k with
  | true=>exact ⟨v,rfl⟩
  | false =>
   rcases List.mem_cons.mp h with e | h
   ·cases e;simp at hb
   ·exact lookup_some_of_mem h
theorem capCells_has (env:Env):∀(names:List (Str×NameKind)) {x:Str},(x,NameKind.free)∈names->∃c,(x,c)∈capCells env names []
 | (n,k) :: r,x,h=>by
  unfold capCells
  rcases List.mem_cons.mp h with e | h
  ·cases e
   rw[if_pos (by decide),capCells_app]
   exact ⟨_,List.mem_append_right _ List.mem_cons_self⟩
  ·obtain ⟨c,q⟩:=capCells_has env r h
   split
   ·rw[capCells_app];exact ⟨c,List.mem_append_left _ q⟩
   ·exact ⟨c,q⟩
theorem closureFor_cap {scope : Scope} {env : Env} (h : ∀ y ∈ scope.names, y.2 = .free → ∃ c, env.cells.lookup y.1 = some c) : closureFor scope env = pure (capCells env scope.names []) := by
  have gen : ∀ (names : List (Str × NameKind)) (acc : List (Str × Addr)) (f : Str × NameKind → List (Str × Addr) → Sem (ForInStep (List (Str × Addr)))),
      (∀ name kind cells, f (name, kind) cells = if kind == .free then (do let a ← cellOf env name; pure (.yield ((name, a) :: cells))) else pure (.yield cells)) →
      (∀ y ∈ names, y.2 = .free → ∃ c, env.cells.lookup y.1 = some c) → forIn names acc f = pure (capCells env names acc) := by
    intro names
    induction names with
    | nil => intro acc f hf _; rw [List.forIn_nil]; rfl
    | cons y r ih =>
      intro acc f hf hh
      obtain ⟨n, k⟩ := y
      rw [List.forIn_cons, hf]
      unfold capCells
      by_cases hk : (k == NameKind.free) = true
      · obtain ⟨c, hc⟩ := hh (n, k) List.mem_cons_self (by simpa using hk)
        have hc' : env.cells.lookup n = some c := hc
        have e : cellOf env n = pure c := by unfold cellOf; rw [hc']
        rw [if_pos hk, if_pos hk, e, hc']
        simp only [pure_bind, Option.getD_some]
        exact ih _ f hf fun y hy => hh y (List.mem_cons_of_mem _ hy)
      · rw [if_neg hk, if_neg hk]
        simp only [pure_bind]
        exact ih _ f hf fun y hy => hh y (List.mem_cons_of_mem _ hy)
  simp only [closureFor]
  rw [gen scope.names [] _ (fun name kind cells => by cases hkc : kind == NameKind.free <;> simp [hkc]) h]
  rfl

theorem cellsFrom_app:∀(names:List (Str×NameKind)) (n:Nat) (acc:List (Str×Addr)),cellsFrom n names acc=cellsFrom n names []++acc
 | [],_,_=>rfl
 | (x,k) :: r,n,acc=>by
  unfold cellsFrom
  split
  ·rw[cellsFrom_app r (n+1) (_ :: acc),cellsFrom_app r (n+1) [_],List.append_assoc];rfl
  ·exact cellsFrom_app r n acc
theorem cellsFrom_mem:∀(names:List (Str×NameKind)) (n:Nat) {x:Str} {c:Addr},(x,c)∈cellsFrom n names []->(x,NameKind.cell)∈names
 | [],_,_,_,h=>nomatch h
 | (y,k) :: r,n,x,c,h=>by
  unfold cellsFrom at h
  split at h
  ·rename_i hk
   have ek:k=.cell:=by simpa using hk
   subst ek
   rw[cellsFrom_app] at h
   rcases List.mem_append.mp h with h | h
   ·exact List.mem_cons_of_mem _ (cellsFrom_mem r _ h)
   ·have e:(x,c)=(y,n):=by simpa using h
    cases e
    exact List.mem_cons_self
  ·exact List.mem_cons_of_mem _ (cellsFrom_mem r _ h)
def blkEnv (env:Env) (scope:Scope) (C:Addr):Env :=
 { scope:=relabel scope env,locals:=C,globals:=env.globals,cells:=cellsFrom (C+1) scope.names (capCells env scope.names []),qual:=env.qual,func:=none,code:=env.code,frame:=env.frame,builtins:=env.builtins }
theorem newBlockEnv {M:Model} {A:Around} {E:Value->Shared->Prop} {s:Shared} {scope:Scope} {g:Addr} {cl:List (Str×Addr)} {qual:Str} {env:Env} {Q:Env->Shared->Prop}
  (h:Q (newEnv scope s.heap.objs.size g (cellsFrom (s.heap.objs.size+1) scope.names cl) qual none .none (some env) builtinsNs) { s with heap:=pushCells (s.heap.push { cls:=.type "dict",data:=.dict #[] }) scope.names }) :
  wpAny M A (newFunctionEnv scope g cl [] qual none .none (some env)) Q E s:=by
 simp only[newFunctionEnv,Option.isSome_some,if_true]
 refine wpAny_bind (wpAny_alloc ?_)
 refine wpAny_bind (wpAny_layCells _ (fun name kind cells=>by cases hkc:kind == NameKind.cell <;> simp [hkc]) _ _ _ _ ?_)
 rw[show ({ s with heap:=s.heap.push { cls:=.type "dict",data:=.dict #[] } }:Shared).heap.objs.size=s.heap.objs.size+1 from Heap.size_push ..]
 rw[List.forIn_nil]
 exact wpAny_bind (wpAny_pure (wpAny_pure h))
theorem relabel_look {scope:Scope} {env:Env} {x:Str}:∀{k:NameKind},(relabel scope env).names.lookup x=some k->∃k0,scope.names.lookup x=some k0∧(k=k0∨(k0=.free∧k=.cell)):=by
 unfold relabel
 show ∀{k:NameKind},(scope.names.map fun (n,k)=>if (k == NameKind.free && env.scope.kind == .function && env.kindOf n == some .cell) then (n,NameKind.cell) else (n,k)).lookup x=some k->_
 induction scope.names with
 | nil=>intro k h;cases h
 | cons y r ih =>
  intro k h
  obtain ⟨n,k1⟩:=y
  rw[List.map_cons,List.lookup_cons] at h
  rw[List.lookup_cons]
  by_cases hc:(k1 == NameKind.free && env.scope.kind == .function && env.kindOf n == some .cell)=true
  ·simp only[hc,if_true] at h
   cases hb:x == n with
   | true =>
    simp only[hb] at h
    have e1:k1=.free:=by
     rw[Bool.and_eq_true,Bool.and_eq_true] at hc
     simpa using hc.1.1
    cases h
    exact ⟨k1,rfl,.inr ⟨e1,rfl⟩⟩
   | false=>simp only[hb] at h;exact ih h
  ·have hc':(k1 == NameKind.free && env.scope.kind == .function && env.kindOf n == some .cell)=false:=by simpa using hc
   simp only[hc',Bool.false_eq_true,if_false] at h
   cases hb:x == n with
   | true=>simp only[hb] at h;cases h;exact ⟨_,rfl,.inl rfl⟩
   | false=>simp only[hb] at h;exact ih h
theorem relabel_cap {scope:Scope} {env:Env} {x:Str}:scope.names.lookup x=some .free->(relabel scope env).names.lookup x=some .cell∨(relabel scope env).names.lookup x=some .free:=by
 unfold relabel
 show _->(scope.names.map fun (n,k)=>if (k == NameKind.free && env.scope.kind == .function && env.kindOf n == some .cell) then (n,NameKind.cell) else (n,k)).lookup x=some .cell∨(scope.names.map fun (n,k)=>if (k == NameKind.free && env.scope.kind == .function && env.kindOf n == some .cell) then (n,NameKind.cell) else (n,k)).lookup x=some .free
 induction scope.names with
 | nil=>intro h;cases h
 | cons y r ih =>
  intro h
  obtain ⟨n,k1⟩:=y
  rw[List.lookup_cons] at h
  rw[List.map_cons]
  by_cases hc:(k1 == NameKind.free && env.scope.kind == .function && env.kindOf n == some .cell)=true
  ·simp only[hc,if_true,List.lookup_cons]
   cases hb:x == n with
   | true=>exact .inl rfl
   | false=>rw[hb] at h;exact ih h
  ·have hc':(k1 == NameKind.free && env.scope.kind == .function && env.kindOf n == some .cell)=false:=by simpa using hc
   simp only[hc',Bool.false_eq_true,if_false,List.lookup_cons]
   cases hb:x == n with
   | true=>rw[hb] at h;cases h;exact .inr rfl
   | false=>rw[hb] at h;exact ih h
structure Bz where
 s:Shared
 H:Hp
 fp:List Addr
 C:Addr
def blk (X:Cx) (own capN:List Str) (scope:Scope) (Z:Bz):Cx where
 prog:=X.prog
 w:=X.w
 K:=X.K
 mg:=X.mg
 base:=X.base
 A:=X.A
 N:=own++capN
 s₀:=Z.s
 H₀:=Z.H
 env:=blkEnv X.env scope Z.C
 outer:=X.stack
 stack:=X.stack
 ex:=Z.fp
 fn:=fun x=>own.contains x
 calm:=true
 pn:=[]
 xe:=fun _ _=>False
section
variable {X:Cx} {pins:List (Addr×Obj)} {σ:St} {own capN:List Str} {scope:Scope} {Z:Bz}
theorem blk_cells (B:Bk X.env scope own capN) (I:Inv X pins σ Z.H Z.s) {x:Str} {c:Addr} (h:(blkEnv X.env scope Z.C).cells.lookup x=some c) :
  (x∈own∧(x,c)∈cellsFrom (Z.C+1) scope.names [])∨(x∈capN∧x∉own∧X.env.cells.lookup x=some c):=by
 have h':(cellsFrom (Z.C+1) scope.names (capCells X.env scope.names [])).lookup x=some c:=h
 rw[cellsFrom_app] at h'
 rcases List.mem_append.mp (mem_of_lookup h') with m | m
 ·exact .inl ⟨(B.cells _ (cellsFrom_mem _ _ m) rfl).1,m⟩
 ·obtain ⟨m1,e⟩:=capCells_mem _ _ m
  obtain ⟨q1,q2⟩:=B.frees _ m1 rfl
  obtain ⟨d,hd⟩:=I.ok.has x (B.caps x q1)
  rw[hd] at e
  exact .inr ⟨q1,q2,by rw[hd,e];rfl⟩
theorem blk_cap (B:Bk X.env scope own capN) (I:Inv X pins σ Z.H Z.s) {x:Str} {c:Addr} (hx:x∈capN) (h:X.env.cells.lookup x=some c):(blkEnv X.env scope Z.C).cells.lookup x=some c:=by
 have hm:(x,NameKind.free)∈scope.names:=mem_of_lookup (B.capf x hx)
 obtain ⟨c1,m1⟩:=capCells_has X.env scope.names hm
 have hs:∃d,(blkEnv X.env scope Z.C).cells.lookup x=some d:=by
  show ∃d,(cellsFrom (Z.C+1) scope.names (capCells X.env scope.names [])).lookup x=some d
  rw[cellsFrom_app]
  exact lookup_some_of_mem (List.mem_append_right _ m1)
 obtain ⟨d,hd⟩:=hs
 rcases blk_cells B I hd with ⟨q,m⟩ | ⟨_,_,q⟩
 ·exact absurd hx (B.cells _ (cellsFrom_mem _ _ m) rfl).2
 ·rw[h] at q;cases q;exact hd
theorem own_cells (h:Heap) (C:Addr) (hC:h.objs.size=C+1) (names:List (Str×NameKind)):CellsOk (pushCells h names) (C+1) (cellsFrom (C+1) names []):=by
 have q:=cellsFrom_ok names h (C+1) [] ⟨fun _ _ hm=>(nomatch hm),List.Pairwise.nil⟩ (by rw[hC];exact Nat.le_refl _)
 rwa [hC] at q
theorem cell_lt (I:Inv X pins σ Z.H Z.s) {x:Str} {c:Addr} (h:X.env.cells.lookup x=some c):@LT.lt Nat instLTNat c Z.s.heap.objs.size:=by
 obtain ⟨v,q⟩:=I.cell x c h
 exact q.lt
theorem blk_ok {h1:Heap} (I:Inv X pins σ Z.H Z.s) (hc:X.calm=true) (B:Bk X.env scope own capN) (hC:Z.s.heap.objs.size<=Z.C) (hcl:CellsOk h1 (Z.C+1) (cellsFrom (Z.C+1) scope.names []))
  (hf:∀b∈Z.fp,FpOk X pins Z.H b∧@LT.lt Nat instLTNat b Z.s.heap.objs.size):(blk X own capN scope Z).Ok:=by
 refine ⟨I.ok.mod,B.kind,I.ok.glob,I.ok.blt,hC,fun x y c h1 h2=>?_,fun x hx=>?_,fun x c hx h=>?_,fun _=>I.ok.hd hc,I.ok.frames,.inl rfl,fun b hb=>⟨?_,fun x c h=>?_⟩,I.bs,Nat.le_trans I.ok.bsz I.sz,fun b o e hb=>?_,fun b hb hz=>?_,I.stack,I.stkFree⟩
 ·rcases blk_cells B I h1 with ⟨q1,m1⟩ | ⟨q1,n1,m1⟩ <;> rcases blk_cells B I h2 with ⟨q2,m2⟩ | ⟨q2,n2,m2⟩
  ·exact name_of_addr hcl.apart m1 m2
  ·have l1:=(hcl.empty _ _ m1).2
   have l2:=cell_lt I m2
   lia
  ·have l1:=(hcl.empty _ _ m2).2
   have l2:=cell_lt I m1
   lia
  ·exact I.ok.inj x y c m1 m2
 ·have hx':(relabel scope X.env).names.lookup x=some .cell∨(relabel scope X.env).names.lookup x=some .free:=hx
  have hk:scope.names.lookup x=some .cell∨scope.names.lookup x=some .free:=by
   rcases hx' with h | h
   ·obtain ⟨k0,e,q | ⟨q,_⟩⟩:=relabel_look h
    ·exact .inl (by rw[e,← q])
    ·exact .inr (by rw[e,q])
   ·obtain ⟨k0,e,q | ⟨_,q⟩⟩:=relabel_look h
    ·exact .inr (by rw[e,← q])
    ·cases q
  show ∃c,(cellsFrom (Z.C+1) scope.names (capCells X.env scope.names [])).lookup x=some c
  rcases hk with h | h
  ·exact Option.isSome_iff_exists.mp (PySem.W.cellsFrom_some scope.names (Z.C+1) _ (.inl h))
  ·obtain ⟨c,m⟩:=capCells_has X.env scope.names (mem_of_lookup h)
   rw[cellsFrom_app]
   exact lookup_some_of_mem (List.mem_append_right _ m)
 ·have ho:x∈own:=by have hx':own.contains x=true:=hx;simpa using hx'
  rcases blk_cells B I h with ⟨_,m⟩ | ⟨_,n,_⟩
  ·have:=(hcl.empty _ _ m).2
   have hC':Z.s.heap.objs.size<=Z.C:=hC
   show Z.s.heap.objs.size<=c
   lia
  ·exact absurd ho n
 ·intro e
  have e':@Eq Nat b Z.C:=e
  have:=(hf b hb).2
  lia
 ·have l:=(hf b hb).2
  rcases blk_cells B I h with ⟨_,m⟩ | ⟨_,_,m⟩
  ·intro e
   have e':@Eq Nat c b:=e
   have:=(hcl.empty _ _ m).2
   lia
  ·exact (hf b hb).1.2.2.2.2.1 x c m
 ·obtain ⟨_,_,_,f3,_⟩:=(hf b hb).1
  rcases f3 with f3 | f3
  ·exact I.ok.noex b o e f3
  ·exact absurd (Nat.lt_of_lt_of_le (Heap.lt_size e) (Nat.le_trans I.ok.bsz f3)) (Nat.lt_irrefl _)
 ·obtain ⟨_,f1,f2,_⟩:=(hf b hb).1
  rcases List.mem_cons.mp (I.stkSub b hz) with e | e
  ·exact f1 e
  ·exact f2 e
def st0 (k:Nat) (cap:List Nat) (σ:St):St:=List.replicate k none++cap.map fun j=>(σ[j]?).join
def CapOk (X:Cx) (capN:List Str) (cap:List Nat):Prop:=cap.map (fun j=>X.N[j]?)=capN.map some
theorem CapOk.get {cap:List Nat} (h:CapOk X capN cap) {i:Nat} {x:Str} (e:capN[i]?=some x):∃j,cap[i]?=some j∧X.N[j]?=some x:=by
 have q:=congrArg (fun l=>l[i]?) h
 simp only[List.getElem?_map,e,Option.map_some] at q
 cases hc:cap[i]? with
 | none=>rw[hc] at q;cases q
 | some j=>rw[hc] at q;exact ⟨j,rfl,by simpa using q⟩
theorem cap_look {cap:List Nat} {h':Heap} {m:Str->Option Value} (I:Inv X pins σ Z.H Z.s) (B:Bk X.env scope own capN) (hcap:CapOk X capN cap)
  (kc:∀x c,X.env.cells.lookup x=some c->∀v,Z.s.heap.IsCell c v->h'.IsCell c v) {i:Nat} {x:Str} {v:V} (e1:(own++capN)[i]?=some x) (e2:(st0 own.length cap σ)[i]?=some (some v)) :
  ∃u,RelV v u∧Look (blkEnv X.env scope Z.C) h' m x u:=by
 have hi:own.length<=i:=by
  by_cases hi:own.length<=i
  ·exact hi
  ·exfalso
   unfold st0 at e2
   rw[List.getElem?_append_left (by simpa using hi),List.getElem?_replicate] at e2
   split at e2 <;> cases e2
 rw[List.getElem?_append_right hi] at e1
 unfold st0 at e2
 rw[List.getElem?_append_right (by simpa using hi),List.length_replicate,List.getElem?_map] at e2
 obtain ⟨j,hj,hN⟩:=hcap.get e1
 rw[hj] at e2
 have e3:(σ[j]?).join=some v:=by simpa using e2
 have e4:σ[j]?=some (some v):=by
  cases q:σ[j]? with
  | none=>rw[q] at e3;cases e3
  | some o=>rw[q] at e3;simp at e3;rw[e3]
 have hx:x∈capN:=List.mem_of_getElem? e1
 have hk:=B.caps x hx
 obtain ⟨m0,_,hl⟩:=I.loc
 obtain ⟨u,r,l⟩:=hl j x v hN e4 (.inr hk)
 refine ⟨u,r,.inr ⟨relabel_cap (B.capf x hx),?_⟩⟩
 rcases l with ⟨hk2,_⟩ | ⟨_,c,hc,z⟩
 ·rcases hk with hk | hk
  ·rw[hk] at hk2;cases hk2
  ·rw[hk] at hk2;cases hk2
 ·exact ⟨c,blk_cap B I hx hc,kc x c hc _ z⟩
theorem fs_lt (I:Inv X pins σ Z.H Z.s) {b:Addr} (h:b∈frs X.stack):@LT.lt Nat instLTNat b Z.s.heap.objs.size:=by
 obtain ⟨_,o,ho,_⟩:=I.stack.mem h
 exact Heap.lt_size ho
theorem blk_inv {cap:List Nat} {h1:Heap} {D:Addr} {oD:Obj} {t1:Nat} (I:Inv X pins σ Z.H Z.s) (hc:X.calm=true) (B:Bk X.env scope own capN) (hcap:CapOk X capN cap) (hC:Z.s.heap.objs.size<=Z.C)
  (hcl:CellsOk h1 (Z.C+1) (cellsFrom (Z.C+1) scope.names [])) (hf:∀b∈Z.fp,FpOk X pins Z.H b∧@LT.lt Nat instLTNat b Z.s.heap.objs.size)
  (hk:∀b o,Z.s.heap.get? b=some o->h1.get? b=some o) (hn:h1.Ns Z.C fun _=>none) (hD:Z.s.heap.objs.size<=D) (hDC:D≠Z.C) (hoD:h1.get? D=some oD) (hdD:∀v,oD.data≠.cell v) :
  Inv (blk X own capN scope Z) [(D,oD)] (st0 own.length cap σ) Z.H { Z.s with heap:=h1,toks:=t1 }:=by
 refine ⟨blk_ok I hc B hC hcl hf,rfl,I.bare,Un.kept hk,⟨_,hn,fun i x v e1 e2 _=>cap_look I B hcap (fun x c _ v z=>z.keeps hk) e1 e2⟩,fun x c h=>?_,I.hok.fresh hC,fun x c h=>?_,fun p hp=>?_,I.hok.kept hk,?_⟩
 ·rcases blk_cells B I h with ⟨_,m⟩ | ⟨_,_,m⟩
  ·exact ⟨none,(hcl.empty _ _ m).1⟩
  ·obtain ⟨v,q⟩:=I.cell x c m
   exact ⟨v,q.keeps hk⟩
 ·rcases blk_cells B I h with ⟨_,m⟩ | ⟨_,_,m⟩
  ·exact I.hok.fresh (by have:=(hcl.empty _ _ m).2;lia)
  ·exact I.freeC x c m
 ·have e:p=(D,oD):=by simpa [blk] using hp
  subst e
  exact ⟨hoD,I.hok.fresh hD,hDC,fun z=>Nat.lt_irrefl _ (Nat.lt_of_lt_of_le (fs_lt I z) hD),hdD⟩
 ·show (st0 own.length cap σ).length=(own++capN).length
  have:=congrArg List.length hcap
  simp only[List.length_map] at this
  unfold st0
  simp [this]
theorem blk_late {cap:List Nat} {pins':List (Addr×Obj)} {σ':St} {H':Hp} {s':Shared} (I:Inv X pins σ Z.H Z.s) (B:Bk X.env scope own capN) (hcap:CapOk X capN cap) (hf:∀b∈Z.fp,FpOk X pins Z.H b∧@LT.lt Nat instLTNat b Z.s.heap.objs.size)
  (J:Inv (blk X own capN scope Z) pins' σ' H' s'):Inv (blk X own capN scope Z) pins' (st0 own.length cap σ) H' s':=by
 refine ⟨J.ok,J.os,J.bare,J.base,?_,J.cell,J.free,J.freeC,J.pin,J.hok,?_⟩
 ·obtain ⟨m,hn,_⟩:=J.loc
  refine ⟨m,hn,fun i x v e1 e2 _=>cap_look I B hcap (fun x c hx v z=>?_) e1 e2⟩
  obtain ⟨o,ho,hd⟩:=z
  obtain ⟨sl,e⟩:=J.base.any ho (I.freeC x c hx) fun z=>(hf c z).1.2.2.2.2.1 x c hx rfl
  exact ⟨_,e,hd⟩
 ·show (st0 own.length cap σ).length=(own++capN).length
  have:=congrArg List.length hcap
  simp only[List.length_map] at this
  unfold st0
  simp [this]
theorem blk_end {σ':St} {H':Hp} {s':Shared} {D:Addr} {its:List Value} {n:Nat} {ys:List V} (I:Inv X pins σ Z.H Z.s) (hf:∀b∈Z.fp,FpOk X pins Z.H b∧@LT.lt Nat instLTNat b Z.s.heap.objs.size) (hD:Z.s.heap.objs.size<=D)
  (J:Inv (blk X own capN scope Z) [(D,{ cls:=.type "list",data:=.seq its.toArray n })] σ' H' s') (r:Vals ys its) (hz:ys.length<=sizeLine) :
  Inv X pins σ (upd H' D (.lst ys)) s':=by
 have pD:=J.pin (D,{ cls:=.type "list",data:=.seq its.toArray n }) (by simp)
 have ne:∀{b:Addr} {o:Obj},Z.s.heap.get? b=some o->b≠D:=fun e z=>by subst z;exact Nat.lt_irrefl _ (Nat.lt_of_lt_of_le (Heap.lt_size e) hD)
 have nt:∀{b:Addr} {u:HO},H' b=some u->b≠D:=fun e z=>by rw[z,pD.2.1] at e;cases e
 refine I.call' (ch:=Z.fp) J.os ⟨J.base.keep,J.base.slot,fun b o e h hx=>?_,J.base.there,fun b xs e=>?_,fun b o u e=>?_,fun b ps e=>?_⟩ (fun b u e=>?_) J.bare fun b hb=>?_
 ·rw[upd_ne (ne e)];exact J.base.free b o e h hx
 ·have q:=J.base.tups b xs e
  rw[upd_ne (nt q)];exact q
 ·have q:=J.base.frzs b o u e
  rw[upd_ne (nt q)];exact q
 ·obtain ⟨more,q⟩:=J.base.tbls b ps e
  exact ⟨more,by rw[upd_ne (nt q)];exact q⟩
 ·by_cases hb:b=D
  ·subst hb
   rw[upd_same] at e
   cases e
   exact ⟨hz,its,n,r,pD.1⟩
  ·rw[upd_ne hb] at e
   exact (J.hok b u e).stay (fun c v _ q=>q) (fun c q=>by rw[upd_ne (nt q)];exact q) fun c xs q=>by rw[upd_ne (nt q)];exact q
 ·obtain ⟨_,f1,_,f3,f4,f5⟩:=(hf b hb).1
  exact ⟨f3,f1,f4,f5⟩
end
end L2
namespace L2
open PySem PySem.Spec PyProof.Rows
theorem thn0 {α:Type} {t:Sem α} {Q Q':α->Shared->Prop} {M:Model} {A:Around} {E:Value->Shared->Prop} {s:Shared} (h:wpAny M A t Q (fun _ _=>False) s) (hQ:∀a s,Q a s->Q' a s):wpAny M A t Q' E s :=
 wpAny_mono h hQ fun _ _ z=>False.elim z
theorem compLoop_own {prog : Program} {w : World} {A : Around} {R : Result → Shared → Prop} {s : Shared} {elt target iter : Expr} {ifs : List Expr} {scope : Scope} {pos : Pos} {it acc : Value} {env : Env} (I : Nat → Shared → Prop)
    (turn : ∀ (E : Value → Shared → Prop) n s, I n s → wpAny (model prog w) A (pyNext it) (fun r s₁ => match r with
      | none => R (.ok .next) s₁
      | some v => wpAny (model prog w) A (letOwnedTupleGo target it v) (fun _ s₂ => wpAny (model prog w) A (assign target env v) (fun _ s₃ =>
          wpAny (model prog w) A (forIn ifs true fun c r => if r = true then do let ok ← isTrue c env (eval c env); pure (ForInStep.yield ok) else pure (ForInStep.yield r)) (fun ok s₄ =>
            if ok = true then wpAny (model prog w) A (eval elt env) (fun x s₅ => wpAny (model prog w) A (call (.builtin "list.append") [acc, x]) (fun _ s₆ => ∃ m, m < n ∧ I m s₆) E s₅) E s₄
            else ∃ m, m < n ∧ I m s₄) E s₃) E s₂) E s₁) E s)
    (n : Nat) (h : I n s) : codeAny (model prog w) A (.compLoop (.ListComp elt [⟨target, iter, ifs, 0⟩] scope pos) 0 it acc env) R s := by
  refine codeAny_loop rfl I (fun n s hI => ?_) n h
  show wpAny _ A ((compTurn (.ListComp elt [⟨target, iter, ifs, 0⟩] scope pos) 0 it acc env).onRaise (fun x => do noteFrame x env; theTreesLotGoes x)) _ _ s
  refine wpAny_noted ?_
  rw [compTurn_list]
  refine wpAny_bind (wpAny_standAt (wpAny_bind (wpAny_mono (turn _ n s hI) (fun r s₁ h₁ => ?_) fun _ _ h' => h')))
  cases r with
  | none => exact wpAny_pure h₁
  | some v =>
    refine wpAny_bind (wpAny_mono h₁ (fun _ s₂ h₂ => wpAny_bind (wpAny_mono h₂ (fun _ s₃ h₃ => wpAny_bind (wpAny_mono h₃ (fun ok s₄ h₄ => ?_) fun _ _ h' => h')) fun _ _ h' => h')) fun _ _ h' => h')
    cases ok with
    | false => exact wpAny_pure ⟨rfl, h₄⟩
    | true =>
      exact wpAny_bind (wpAny_bind (wpAny_mono h₄ (fun x s₅ h₅ => wpAny_bind (wpAny_mono h₅ (fun _ s₆ h₆ => wpAny_pure (wpAny_pure ⟨rfl, h₆⟩)) fun _ _ h' => h')) fun _ _ h' => h'))

def PF (X : Cx) (ifs : List Expr) (t : TT) : Prop :=
  ∀ (pins : List (Addr × Obj)) (s : Shared) (σ : St) (H : Hp) (Q : Bool → Hp → Prop), Inv X pins σ H s → t σ H Q →
    wpAny (model X.prog X.w) X.A (forIn ifs true fun c r => if r = true then do let ok ← isTrue c X.env (eval c X.env); pure (ForInStep.yield ok) else pure (ForInStep.yield r)) (TP X pins σ Q) X.xe s
def tYes:TT:=fun _ H Q=>Q true H
theorem pf_nil {X:Cx}:PF X [] tYes:=fun _ _ _ H _ I h=>wpAny_tests_nil ⟨H,I,h⟩
def tTurn (σ₀:St) (g:TG) (tf:TT) (te:TE) (x:V) (H:Hp) (NY:V->Hp->Prop) (NN:Hp->Prop):Prop :=
 g x σ₀ H fun σ2 H2=>tf σ2 H2 fun b H3=>if b=true then te σ2 H3 NY else NN H3
def CompW (J:It) (σ₀:St) (g:TG) (tf:TT) (te:TE) (Q:VK) (H1:Hp):Prop :=
 ∃W:Nat->Nat->List V->Hp->Prop,(∃m,W 0 m [] H1)∧∀i m ys H,W i m ys H →
  (J.stop i H∧ys.length<=sizeLine∧∀p,H p=none->Q (.ref p) (upd H p (.lst ys))) ∨
  (J.go i H∧ys.length < sizeLine∧∃(NY:V->Hp->Prop) (NN:Hp->Prop),(∀y H',NY y H'->∃m',m' < m∧W (i+1) m' (ys++[y]) H')∧(∀H',NN H'->∃m',m' < m∧W (i+1) m' ys H') ∧
   ∀x H',J.yld i H x H'->tTurn σ₀ g tf te x H' NY NN)
def tComp (wi:TI) (k:Nat) (cap:List Nat) (g:TG) (tf:TT) (te:TE):TE:=fun σ H Q=>wi σ H fun J H1=>CompW J (st0 k cap σ) g tf te Q H1
abbrev lobj (its:List Value) (n:Nat):Obj:={ cls:=.type "list",data:=.seq its.toArray n }
section
variable {X:Cx} {own capN:List Str} {cap:List Nat} {scope:Scope} {elt tg iter:Expr} {ifs:List Expr} {pos:Pos} {wi:TI} {g:TG} {tf:TT} {te:TE}
theorem comp_core {use:Option (Value->Sem Unit)} {Qe:Value->Shared->Prop} {fpos:Pos} (hc:X.calm=true) (B:Bk X.env scope own capN) (hcap:CapOk X capN cap)
  (hi:PI X tg iter wi) (hg:∀Z,PG (blk X own capN scope Z) tg g) (hf:∀Z,PF (blk X own capN scope Z) ifs tf) (he:∀Z,PE (blk X own capN scope Z) elt te)
  (hs:∀x,foldedSetIterable iter X.env x=pure x) {pins:List (Addr×Obj)} {s:Shared} {σ:St} {H:Hp} {Q:VK} (I:Inv X pins σ H s) (h:tComp wi own.length cap g tf te σ H Q)
  (fin:∀(D C:Addr) (s':Shared) (H':Hp),Inv X pins σ H' s'->FpOk X pins H' C->(∃m,s'.heap.Ns C m)->Q (.ref D) H'->compPost (model X.prog X.w) X.A X.xe use Qe (.ref D) C (.ok .next) s') :
  wpAny (model X.prog X.w) X.A (comprehension (.ListComp elt [⟨tg,iter,ifs,0⟩] scope pos) scope X.env fpos (newList []) false (eval iter X.env) use) Qe X.xe s:=by
 refine wpAny_comprehension_free (use:=use) rfl hs (closureFor_cap fun y hy hk=>I.ok.has y.1 (B.caps _ (B.frees y hy hk).1)) B.kind B.locs ?_
 refine thn (hi pins s σ H _ I h) fun v s1 h1=>thn h1 fun itv s2 h2=>?_
 obtain ⟨it,fp,tn,J,H2,e,I2,T,st2,f2,W,⟨m0,w0⟩,turn⟩:=h2
 subst e
 have hfp:∀b∈fp,FpOk X pins H2 b∧@LT.lt Nat instLTNat b s2.heap.objs.size:=fun b hb=>⟨f2 b hb,let ⟨_,e,_⟩:=T.obj _ _ st2 b hb;Heap.lt_size e⟩
 refine wpAny_newObj_type (newBlockEnv ?_) (Nat.zero_le _)
 have es:(s2.heap.push { cls:=.type "list",data:=.seq ([]:List Value).toArray }).objs.size=s2.heap.objs.size+1:=Heap.size_push ..
 show codeAny _ _ (.compStart _ 0 (.ref it) (.ref s2.heap.objs.size) { newEnv scope (s2.heap.push { cls:=.type "list",data:=.seq ([]:List Value).toArray }).objs.size X.env.globals (cellsFrom ((s2.heap.push { cls:=.type "list",data:=.seq ([]:List Value).toArray }).objs.size+1) scope.names (capCells X.env scope.names [])) X.env.qual none .none (some X.env) builtinsNs with scope:=relabel scope X.env })
  (compPost (model X.prog X.w) X.A X.xe use Qe (.ref s2.heap.objs.size) (s2.heap.push { cls:=.type "list",data:=.seq ([]:List Value).toArray }).objs.size)
  { s2 with heap:=pushCells ((s2.heap.push { cls:=.type "list",data:=.seq ([]:List Value).toArray }).push { cls:=.type "dict",data:=.dict #[] }) scope.names }
 have hk1:∀b o,(s2.heap.push { cls:=.type "list",data:=.seq ([]:List Value).toArray }).get? b=some o->(pushCells ((s2.heap.push { cls:=.type "list",data:=.seq ([]:List Value).toArray }).push { cls:=.type "dict",data:=.dict #[] }) scope.names).get? b=some o :=
  fun b o e=>pushCells_keeps _ _ _ _ (Heap.get?_push_of_some _ e)
 have hk:∀b o,s2.heap.get? b=some o->(pushCells ((s2.heap.push { cls:=.type "list",data:=.seq ([]:List Value).toArray }).push { cls:=.type "dict",data:=.dict #[] }) scope.names).get? b=some o:=fun b o e=>hk1 b o (Heap.get?_push_of_some _ e)
 have hoD:=hk1 s2.heap.objs.size _ (Heap.get?_push_size s2.heap (o:={ cls:=.type "list",data:=.seq ([]:List Value).toArray }) rfl)
 have hn:=(Heap.Ns.new (s2.heap.push { cls:=.type "list",data:=.seq ([]:List Value).toArray }) (.type "dict")).keeps (pushCells_keeps scope.names _)
 have hcl:=own_cells ((s2.heap.push { cls:=.type "list",data:=.seq ([]:List Value).toArray }).push { cls:=.type "dict",data:=.dict #[] }) (s2.heap.objs.size+1) (by rw[Heap.size_push,es]) scope.names
 rw[es] at hn ⊢
 generalize pushCells ((s2.heap.push { cls:=.type "list",data:=.seq ([]:List Value).toArray }).push { cls:=.type "dict",data:=.dict #[] }) scope.names=h3 at hk hoD hn hcl ⊢
 have Z:Bz:=⟨s2,H2,fp,s2.heap.objs.size+1⟩
 have I3:Inv (blk X own capN scope ⟨s2,H2,fp,s2.heap.objs.size+1⟩) [(s2.heap.objs.size,lobj [] 0)] (st0 own.length cap σ) H2 { s2 with heap:=h3 } :=
  blk_inv (Z:=⟨s2,H2,fp,s2.heap.objs.size+1⟩) (t1:=s2.toks) I2 hc B hcap (Nat.le_succ _) hcl hfp hk hn (Nat.le_refl _) (Nat.ne_of_lt (Nat.lt_succ_self _)) hoD (fun v z=>nomatch z)
 have st3:tn 0 h3:=T.keep _ _ _ st2 fun b _ o e=>hk b o e
 have loop:codeAny (model X.prog X.w) X.A (.compLoop (.ListComp elt [⟨tg,iter,ifs,0⟩] scope pos) 0 (.ref it) (.ref s2.heap.objs.size) (blkEnv X.env scope (s2.heap.objs.size+1))) (compPost (model X.prog X.w) X.A X.xe use Qe (.ref s2.heap.objs.size) (s2.heap.objs.size+1)) { s2 with heap:=h3 }:=by
  refine compLoop_own (fun m s'=>∃i ys σ' H' its n,Inv (blk X own capN scope ⟨s2,H2,fp,s2.heap.objs.size+1⟩) [(s2.heap.objs.size,lobj its n)] σ' H' s'∧tn i s'.heap∧(∀b∈fp,H' b=none)∧Vals ys its∧W i m ys H') ?_ m0
   ⟨0,[],_,H2,[],0,I3,st3,fun b hb=>(f2 b hb).1,.nil,w0⟩
  rintro E n s4 ⟨i,ys,σ4,H4,its,k,I4,st4,fr4,rv,w4⟩
  have fpo:∀{pp:List (Addr×Obj)} {H':Hp},(∀p∈pp,p.1=s2.heap.objs.size)->(∀b∈fp,H' b=none)->∀b∈fp,FpOk (blk X own capN scope ⟨s2,H2,fp,s2.heap.objs.size+1⟩) pp H' b:=fun {pp H'} hpp hn b hb=>by
   obtain ⟨e1,e2⟩:=I4.ok.exf b hb
   refine ⟨hn b hb,e1,I4.ok.exfs b hb,.inl hb,e2,fun p hp=>?_⟩
   have hp':p∈pp:=by simpa [blk] using hp
   have l:=(hfp b hb).2
   rw[hpp p hp']
   exact fun z=>Nat.lt_irrefl _ (by rw[← z] at l;exact l)
  have pinD:∀{its:List Value} {n:Nat},∀p∈[(s2.heap.objs.size,lobj its n)],p.1=s2.heap.objs.size:=fun p hp=>by simp at hp;rw[hp]
  rcases turn i n ys H4 w4 with ⟨stop,hz,q⟩ | ⟨go,hlt,NY,NN,hNY,hNN,step⟩
  ·refine thn (T.done (blk X own capN scope ⟨s2,H2,fp,s2.heap.objs.size+1⟩) rfl rfl rfl rfl i _ s4 σ4 H4 E I4 (fpo pinD fr4) st4 stop) fun r s5 ⟨hr,I5⟩=>?_
   subst hr
   have pD:=I5.pin (s2.heap.objs.size,lobj its k) (by simp)
   have I6:=blk_end (Z:=⟨s2,H2,fp,s2.heap.objs.size+1⟩) I2 hfp (Nat.le_refl _) I5 rv hz
   have hC:upd H4 s2.heap.objs.size (.lst ys) (s2.heap.objs.size+1)=none:=by
    rw[upd_ne (Nat.ne_of_gt (Nat.lt_succ_self _))];exact I5.free
   obtain ⟨m,hm,_⟩:=I5.loc
   exact fin _ _ s5 _ I6 (I2.fpOk (Nat.le_succ _) hC) ⟨m,hm⟩ (q _ pD.2.1)
  ·refine thn (T.item (blk X own capN scope ⟨s2,H2,fp,s2.heap.objs.size+1⟩) rfl rfl rfl rfl i _ s4 σ4 H4 E I4 (fpo pinD fr4) st4 go) fun r s5 ⟨u,hr,h5⟩=>?_
   subst hr
   refine thn h5 fun _ s6 ⟨x,H6,I6,r6,y6,st6,fr6⟩=>?_
   have I6':=(blk_late (Z:=⟨s2,H2,fp,s2.heap.objs.size+1⟩) I2 B hcap hfp I6).pinned (fpo pinD fr6) (T.obj _ _ st6)
   have back:∀{σ7:St} {H7:Hp} {s7:Shared},Inv (blk X own capN scope ⟨s2,H2,fp,s2.heap.objs.size+1⟩) ([(s2.heap.objs.size,lobj its k)]++pinsAt fp s6.heap) σ7 H7 s7 →
     Inv (blk X own capN scope ⟨s2,H2,fp,s2.heap.objs.size+1⟩) [(s2.heap.objs.size,lobj its k)] σ7 H7 s7∧tn (i+1) s7.heap∧∀b∈fp,H7 b=none:=fun {σ7 H7 s7} I7=>by
    refine ⟨I7.unpinned,T.keep _ _ _ st6 fun b hb o e=>(I7.pin (b,o) (List.mem_append_right _ (List.mem_append_right _ (mem_pinsAt hb e)))).1,fun b hb=>?_⟩
    obtain ⟨o,e,d⟩:=T.obj _ _ st6 b hb
    exact (I7.pin (b,o) (List.mem_append_right _ (List.mem_append_right _ (mem_pinsAt hb e)))).2.1
   refine thn0 (hg _ _ s6 _ H6 x u _ I6' r6 (step x H6 y6)) fun _ s7 ⟨σ7,H7,I7,q7⟩=>?_
   refine thn0 (hf _ _ s7 σ7 H7 _ I7 q7) fun ok s8 ⟨H8,I8,q8⟩=>?_
   cases ok with
   | false =>
    rw[if_neg Bool.false_ne_true] at q8 ⊢
    obtain ⟨m',hm,w8⟩:=hNN H8 q8
    obtain ⟨J1,J2,J3⟩:=back I8
    exact ⟨m',hm,i+1,ys,σ7,H8,its,k,J1,J2,J3,rv,w8⟩
   | true =>
    rw[if_pos rfl] at q8 ⊢
    refine thn0 (he _ _ s8 σ7 H8 _ I8 q8) fun z s9 ⟨y,H9,I9,r9,q9⟩=>?_
    obtain ⟨J1,J2,J3⟩:=back I9
    obtain ⟨m',hm,w9⟩:=hNY y H9 q9
    have pD:=J1.pin (s2.heap.objs.size,lobj its k) (by simp)
    have hl:=rv.length
    refine call_meets F.slot_list_append ⟨_,pD.1,rfl⟩ F.entry_list_append (F.args_list_append_2 _ _) (PySem.list_append s2.heap.objs.size its.toArray k z (by rw[List.size_toArray];lia)) ⟨pD.1,?_⟩
    have e9:=PySem.IsL.update pD.1 (fun a=>a.push z)
    have e9':(its.toArray.push z)=(its++[z]).toArray:=by simp
    rw[e9'] at e9
    obtain ⟨n',e9⟩:∃n',(s9.heap.update s2.heap.objs.size (Obj.mapSeq fun a=>a.push z)).get? s2.heap.objs.size=some (lobj (its++[z]) n'):=⟨_,e9⟩
    have J4:Inv (blk X own capN scope ⟨s2,H2,fp,s2.heap.objs.size+1⟩) [] σ7 H9 { s9 with heap:=s9.heap.update s2.heap.objs.size (Obj.mapSeq fun a=>a.push z),toks:=s9.toks } :=
     (J1.pins_of (pins':=[]) fun p hp=>nomatch hp).turned (fun b o hb e=>(Heap.get?_update_other s9.heap _ (Ne.symm hb)).trans e) pD.2.1 pD.2.2.1 (.inr (Nat.le_refl _)) (fun x c hx z=>by
      rcases blk_cells (Z:=⟨s2,H2,fp,s2.heap.objs.size+1⟩) B I2 hx with ⟨_,m⟩ | ⟨_,_,m⟩
      ·have:=(hcl.empty _ _ m).2
       have z':@Eq Nat c s2.heap.objs.size:=z
       lia
      ·have:=cell_lt (Z:=⟨s2,H2,fp,s2.heap.objs.size+1⟩) I2 m
       rw[z] at this
       exact Nat.lt_irrefl _ this) fun p hp=>by simp [blk] at hp
    have nfp:∀b∈fp,b≠s2.heap.objs.size:=fun b hb z=>by have:=(hfp b hb).2;rw[z] at this;exact Nat.lt_irrefl _ this
    refine ⟨m',hm,i+1,ys++[y],σ7,H9,its++[z],n',J4.pins_of fun p hp=>?_,T.keep _ _ _ J2 fun b hb o e=>(Heap.get?_update_other s9.heap _ (Ne.symm (nfp b hb))).trans e,J3,rv.append (.cons r9 .nil),w9⟩
    have ep:p=(s2.heap.objs.size,lobj (its++[z]) n'):=by simpa using hp
    rw[ep]
    exact ⟨e9,pD.2.1,pD.2.2.1,pD.2.2.2.1,fun v z=>nomatch z⟩
 exact codeAny_compStart_list loop (T.self _ _ _ _ _ st3 loop)
theorem pe_comp (own capN:List Str) (cap:List Nat) (hi:PI X tg iter wi) (hg:∀Z,PG (blk X own capN scope Z) tg g) (hf:∀Z,PF (blk X own capN scope Z) ifs tf) (he:∀Z,PE (blk X own capN scope Z) elt te)
  (h1:bkS scope own capN=true:=by decide +kernel) (h2:capsB X.env capN=true:=by rfl) (hcap:CapOk X capN cap:=by rfl) (hc:X.calm=true:=by rfl) (hs:∀x,foldedSetIterable iter X.env x=pure x:=by intro _;rfl) :
  PE X (.ListComp elt [⟨tg,iter,ifs,0⟩] scope pos) (tComp wi own.length cap g tf te):=by
 intro pins s σ H Q I h
 rw[eval_ListComp]
 refine comp_core (use:=none) hc (Bk.of h1 h2) hcap hi hg hf he hs I h fun D C s' H' I' fC hm q=>?_
 obtain ⟨m,hm⟩:=hm
 refine ⟨m,hm,fun h' hs'=>?_⟩
 obtain ⟨f0,f1,f2,f3,f4,f5⟩:=fC
 exact ⟨.ref D,H',I'.turned (t':=s'.toks) (fun b o hb e=>(hs'.2 b hb).trans e) f0 f1 f3 f4 f5,rfl,q⟩
theorem ps_setC (i:Nat) (own capN:List Str) (cap:List Nat) {x:Str} {pos' spos:Pos} (hN:X.N.Nodup) (hi':X.N[i]?=some x) (hx:X.env.scope.names.lookup x=some .local) (hi:PI X tg iter wi) (hg:∀Z,PG (blk X own capN scope Z) tg g) (hf:∀Z,PF (blk X own capN scope Z) ifs tf) (he:∀Z,PE (blk X own capN scope Z) elt te)
  (h1:bkS scope own capN=true:=by decide +kernel) (h2:capsB X.env capN=true:=by rfl) (hcap:CapOk X capN cap:=by rfl) (hc:X.calm=true:=by rfl) (hs:∀x,foldedSetIterable iter X.env x=pure x:=by intro _;rfl)
  (hsw:swapsWith (.ListComp elt [⟨tg,iter,ifs,0⟩] scope pos) (some (.Name x pos')) spos.line X.env=pure true:=by rfl) :
  PS X (.Assign [.Name x pos'] (.ListComp elt [⟨tg,iter,ifs,0⟩] scope pos) spos) (tAsg (tComp wi own.length cap g tf te) (gName i)):=by
 intro pins s σ H D I h
 rw[exec_Assign_Name_used _ _ _ _ hsw]
 refine wpAny_bind (wpAny_standAt (wpAny_bind ?_))
 rw[arm_evalThenUse_ListComp]
 refine wpAny_bind (comp_core (Q:=fun v H1=>D.nx (σ.set i (some v)) H1) (use:=some _) hc (Bk.of h1 h2) hcap hi hg hf he hs I h fun L C s' H' I' fC hm q=>?_)
 obtain ⟨m,hm⟩:=hm
 obtain ⟨f0,f1,f2,f3,f4,f5⟩:=fC
 refine wpAny_assign_Name (store_ok2 I' hN hi' (.inl hx) (v:=.ref L) rfl (fun s'' I'' ⟨a,sb,ha⟩=>?_) (.inr hx))
 have hCa:C≠a:=by
  rcases ha with e | e
  ·rw[e];exact f1
  ·exact (f4 x a e).symm
 refine ⟨m,hm.at' fun o e=>(sb.2 C hCa).trans e,fun h' hs'=>?_⟩
 have I3:=I''.turned (h':=h') (t':=s''.toks) (fun b o hb e=>(hs'.2 b hb).trans e) f0 f1 f3 f4 f5
 exact wpAny_pure (wpAny_pure ⟨_,H',I3,q⟩)
end
section
variable {K:PySem.W.Frag} {a:Addr} {xs:List V} {g:TG} {tf:TT} {te:TE} {Q:VK} {σ₀:St} {H:Hp}
theorem comp_list (Pv:Nat->List V->Hp->Prop) (hz:xs.length<=sizeLine) (h0:Pv 0 [] H) (hl:∀i ys H,i<=xs.length->Pv i ys H->SqL K H a xs)
  (hs:∀i x ys H,xs[i]?=some x->ys.length<=i->Pv i ys H->tTurn σ₀ g tf te x H (fun y H'=>Pv (i+1) (ys++[y]) H') (fun H'=>Pv (i+1) ys H'))
  (hd:∀ys H,ys.length<=xs.length->Pv xs.length ys H->∀p,H p=none->Q (.ref p) (upd H p (.lst ys))):CompW (Itl K a) σ₀ g tf te Q H:=by
 refine ⟨fun i m ys H=>m=xs.length - i∧i<=xs.length∧ys.length<=i∧Pv i ys H,⟨xs.length,by simp,Nat.zero_le _,Nat.zero_le _,h0⟩,?_⟩
 rintro i m ys H ⟨rfl,hi,hy,p⟩
 have q:=hl i ys H hi p
 by_cases hlt:i < xs.length
 ·refine .inr ⟨⟨xs,xs[i],q,by simp [hlt]⟩,by lia,fun y H'=>Pv (i+1) (ys++[y]) H',fun H'=>Pv (i+1) ys H',fun y H' p'=>⟨xs.length - (i+1),by lia,rfl,hlt,by rw[List.length_append,List.length_singleton];lia,p'⟩,fun H' p'=>⟨xs.length - (i+1),by lia,rfl,hlt,by lia,p'⟩,fun x H' y=>?_⟩
  obtain ⟨e,y⟩:=y
  subst e
  exact hs i x ys _ (y xs q) hy p
 ·have e:i=xs.length:=by lia
  subst e
  exact .inl ⟨⟨xs,q,Nat.le_refl _⟩,by lia,hd ys H hy p⟩
theorem comp_range {lo:Int} {n:Nat} (Pv:Nat->List V->Hp->Prop) (hz:n<=sizeLine) (h0:Pv 0 [] H)
  (hs:∀i ys H,i < n->ys.length<=i->Pv i ys H->tTurn σ₀ g tf te (.int (lo+i)) H (fun y H'=>Pv (i+1) (ys++[y]) H') (fun H'=>Pv (i+1) ys H'))
  (hd:∀ys H,ys.length<=n->Pv n ys H->∀p,H p=none->Q (.ref p) (upd H p (.lst ys))):CompW (Itr lo n) σ₀ g tf te Q H:=by
 refine ⟨fun i m ys H=>m=n - i∧i<=n∧ys.length<=i∧Pv i ys H,⟨n,by simp,Nat.zero_le _,Nat.zero_le _,h0⟩,?_⟩
 rintro i m ys H ⟨rfl,hi,hy,p⟩
 by_cases hlt:i < n
 ·refine .inr ⟨hlt,by lia,fun y H'=>Pv (i+1) (ys++[y]) H',fun H'=>Pv (i+1) ys H',fun y H' p'=>⟨n - (i+1),by lia,rfl,hlt,by rw[List.length_append,List.length_singleton];lia,p'⟩,fun H' p'=>⟨n - (i+1),by lia,rfl,hlt,by lia,p'⟩,fun x H' y=>?_⟩
  obtain ⟨e,y⟩:=y
  subst e y
  exact hs i ys _ hlt hy p
 ·have e:i=n:=by lia
  subst e
  exact .inl ⟨Nat.le_refl _,by lia,hd ys H hy p⟩
end
end L2
namespace L2
open PySem PySem.Spec PyProof.Rows Nm
def CMulS (i j:Int):Prop:=CMul i j∨∃m n,Sz m i∧Sz n j∧m+n<=1000000
def CDivS (i j:Int):Prop:=j≠0∧Sz 8999 j
theorem bits_of_sz {k:Nat} {i:Int} (h:Sz k i):Builtin.Int.intBits i<=k:=by
 unfold Builtin.Int.intBits
 by_cases e:i=0
 ·subst e;simp
 ·have e':(i == 0)=false:=by simpa using e
  rw[e']
  have hn:i.natAbs≠0:=by lia
  have:=(Nat.log2_lt hn).mpr h
  simp only[Bool.false_eq_true,if_false]
  lia
theorem CMulS.ok {i j:Int} (h:CMulS i j):IntMulOk i j:=by
 rcases h with h | ⟨m,n,h1,h2,h3⟩
 ·exact h.ok
 ·have e:(2:Nat)^20=1048576:=by decide
  exact .of_bits (by have:=bits_of_sz h1;lia) (by have:=bits_of_sz h2;lia)
section
variable {X:Cx} {a b:Expr} {ta tb:TE} {pos:Pos}
theorem op_mulS:OpR X (binaryOp .Mult) (rI CMulS fun i j=>.int (i*j)):=opI fun _ _ _ _ _ _ _ hc q=>mul_int q hc.ok
theorem op_fdivS:OpR X (binaryOp .FloorDiv) (rI CDivS fun i j=>.int (i.fdiv j)):=opI fun i j _ _ _ _ _ hc q=>by
 refine floordiv_int hc.1 q (.inl (PyProof.noPylong_of_log2 ?_))
 have hn:j.natAbs≠0:=by have:=hc.1;lia
 have:=(Nat.log2_lt hn).mpr hc.2
 lia
def tSeqM (t u:TS):TS:=fun D σ H=>∃N:St->Hp->Prop,t { D with nx:=N } σ H∧∀σ' H',N σ' H'->u D σ' H'
theorem pss_consM {st:Stmt} {rest:List Stmt} {t u:TS} (h1:PS X st t) (h2:PSs X rest u):PSs X (st :: rest) (tSeqM t u):=by
 intro pins s σ H D I h
 obtain ⟨N,h,k⟩:=h
 refine wpAny_execs_cons (thn (h1 pins s σ H { D with nx:=N } I h) fun f s1 q=>?_)
 cases f with
 | next =>
  obtain ⟨σ',H',I',q⟩:=q
  exact h2 pins s1 σ' H' D I' (k _ _ q)
 | ret v=>exact q
 | brk=>exact q
 | cont=>exact q
def rGetL (K:PySem.W.Frag):V->V->Hp->VK->Prop:=fun o i H Q=>∃p xs k v,o=.ref p∧i=.int k∧SqL K H p xs∧atI xs k=some v∧Q v H
theorem get_list:PGet X (rGetL X.K):=by
 intro pins s σ H o i ov iv Q I ro ri h
 obtain ⟨p,xs,k,z,rfl,rfl,hq,he,q⟩:=h
 cases ro
 obtain ⟨t,rfl⟩:=ri
 obtain ⟨its,r,pl,hz⟩:=I.list hq
 obtain ⟨j,h1,h2,h3,h4,h5⟩:=atI_get he
 obtain ⟨w,ew,rw'⟩:=r.get h2
 have hl:=r.length
 have hn:=line63
 have fin:EP X pins σ Q w s:=⟨z,H,I,rw',q⟩
 by_cases h0:0<=k
 ·have hj:k.toNat=j:=by
   rw[seqIndex_of h0 h5] at h1
   exact Option.some.inj h1
  exact wpAny_getItem_list pl.isList h0 (by lia) (by rw[hj];simpa using ew) fin
 ·have hj:(k+(its.toArray.size:Int)).toNat=j:=by
   rw[seqIndex_neg (by lia) h4] at h1
   rw[List.size_toArray,← hl]
   exact Option.some.inj h1
  exact wpAny_getItem_list_neg pl.isList (by lia) (by rw[List.size_toArray] <;> lia) (by lia) (by rw[hj];simpa using ew) fin
end
structure Kind (α:Type) [DecidableEq α] where
 R:PySem.W.Frag->Hp->V->α->Prop
 d:Nat
 inj:∀{X:Cx} {pins:List (Addr×Obj)} {σ:St} {H:Hp} {s:Shared} {x:V} {a b:α},Inv X pins σ H s->R X.K H x a->R X.K H x b->a=b
 rc:∀{X:Cx} {pins:List (Addr×Obj)} {σ:St} {H:Hp} {s:Shared} {x y:V} {v u:Value} {a b:α} {A:Around},Inv X pins σ H s->RelV x v->RelV y u->R X.K H x a->R X.K H y b->A.units+d < cLine->SeqAt.RcAt A s v u (decide (a=b))
 ne:∀{X:Cx} {pins:List (Addr×Obj)} {σ:St} {H:Hp} {s:Shared} {x y:V} {v u:Value} {a b:α} {A:Around},Inv X pins σ H s->RelV x v->RelV y u->R X.K H x a->R X.K H y b->A.units+d < cLine->SeqAt.RcNeAt A s v u (!decide (a=b))
 eq:∀{X:Cx} {pins:List (Addr×Obj)} {σ:St} {H:Hp} {s:Shared} {x y:V} {v u:Value} {a b:α} {A:Around},Inv X pins σ H s->RelV x v->RelV y u->R X.K H x a->R X.K H y b->A.units+d < cLine->SeqAt.EqAt A s v u (decide (a=b))
def kInt:Kind Int where
 R:=fun _ _ x i=>x=.int i
 d:=0
 inj:=fun _ h1 h2=>by rw[h1] at h2;cases h2;rfl
 rc:=fun {X pins σ H s x y v u a b A} I rx ry h1 h2 _=>by
  subst h1 h2
  obtain ⟨t,rfl⟩:=rx
  obtain ⟨t',rfl⟩:=ry
  have q:=SeqAt.RcAt.int_int (A:=A) (s:=s) a t b t'
  rwa [Bool.beq_eq_decide_eq] at q
 ne:=fun {X pins σ H s x y v u a b A} I rx ry h1 h2 _=>by
  subst h1 h2
  obtain ⟨t,rfl⟩:=rx
  obtain ⟨t',rfl⟩:=ry
  have q:=SeqAt.RcNeAt.int_int (A:=A) (s:=s) a t b t'
  rwa [Bool.beq_eq_decide_eq] at q
 eq:=fun {X pins σ H s x y v u a b A} I rx ry h1 h2 _=>by
  subst h1 h2
  obtain ⟨t,rfl⟩:=rx
  obtain ⟨t',rfl⟩:=ry
  have q:=SeqAt.EqAt.int_int (A:=A) (s:=s) a t b t'
  rwa [Bool.beq_eq_decide_eq] at q
theorem paired_get {α β:Type} {F:α->β->Prop}:∀{l1:List α} {l2:List β} {i:Nat} (_:Paired F l1 l2) (h1:i < l1.length) (h2:i < l2.length),F l1[i] l2[i]
 | _,_,_,.nil,h1,_=>absurd h1 (Nat.not_lt_zero _)
 | _,_,0,.cons r _,_,_=>r
 | _,_,i+1,.cons _ t,h1,h2=>paired_get (i:=i) t (Nat.lt_of_succ_lt_succ h1) (Nat.lt_of_succ_lt_succ h2)
theorem paired_inj {α β:Type} {F:α->β->Prop} (hF:∀a b x,F a x->F b x->a=b):∀{l1 l2:List α} {l:List β},Paired F l1 l->Paired F l2 l->l1=l2
 | _,_,_,.nil,.nil=>rfl
 | _,_,_,.cons r t,.cons r' t'=>by rw[hF _ _ _ r r',paired_inj hF t t']
theorem decide_lists {α:Type} [DecidableEq α] (as bs:List α) (h:as.length=bs.length):(List.range as.length).all (fun j=>decide (as[j]?=bs[j]?))=decide (as=bs):=by
 rw[Bool.eq_iff_iff,List.all_eq_true,decide_eq_true_iff]
 constructor
 ·intro q
  apply List.ext_getElem?
  intro i
  by_cases hi:i < as.length
  ·exact of_decide_eq_true (q i (List.mem_range.mpr hi))
  ·rw[List.getElem?_eq_none (by lia),List.getElem?_eq_none (by lia)]
 ·rintro rfl i _
  simp
section
variable {α:Type} [DecidableEq α] (k:Kind α)
theorem Kind.items {X:Cx} {pins:List (Addr×Obj)} {σ:St} {H:Hp} {s:Shared} {A:Around} (I:Inv X pins σ H s) (hA:A.units+k.d < cLine) {xs ys:List V} {us ws:List Value} {as bs:List α}
  (rx:Vals xs us) (ry:Vals ys ws) (ha:Paired (fun a x=>k.R X.K H x a) as xs) (hb:Paired (fun a x=>k.R X.K H x a) bs ys) :
  ∀j (h1:j < us.toArray.size) (h2:j < ws.toArray.size),SeqAt.EqAt A s us.toArray[j] ws.toArray[j] (decide (as[j]?=bs[j]?)):=fun j h1 h2=>by
 have l1:j < us.length:=by simpa using h1
 have l2:j < ws.length:=by simpa using h2
 have e1:=rx.length
 have e2:=ry.length
 have e3:=ha.length
 have e4:=hb.length
 obtain ⟨u,hu,ru⟩:=rx.get (i:=j) (x:=xs[j]'(by lia)) (by simp)
 obtain ⟨w,hw,rw'⟩:=ry.get (i:=j) (x:=ys[j]'(by lia)) (by simp)
 have q:=k.eq (A:=A) I ru rw' (paired_get ha (by lia) (by lia)) (paired_get hb (by lia) (by lia)) hA
 have eu:us.toArray[j]=u:=by
  have:=hu
  rw[List.getElem?_eq_getElem l1] at this
  simpa using this
 have ew:ws.toArray[j]=w:=by
  have:=hw
  rw[List.getElem?_eq_getElem l2] at this
  simpa using this
 rw[eu,ew,List.getElem?_eq_getElem (show j < as.length by lia),List.getElem?_eq_getElem (show j < bs.length by lia)]
 have e5:decide (some as[j]=some bs[j])=decide (as[j]=bs[j]):=by simp
 rw[e5]
 exact q
theorem tup_all {α:Type} [DecidableEq α] (as bs:List α) {n m:Nat} (h1:as.length=n) (h2:bs.length=m):((List.range (min n m)).all (fun j=>decide (as[j]?=bs[j]?)) && n == m)=decide (as=bs):=by
 subst h1 h2
 by_cases e:as.length=bs.length
 ·rw[show min as.length bs.length=as.length by lia,decide_lists as bs e]
  simp [e]
 ·have h1:(as.length == bs.length)=false:=by simpa using e
  rw[h1,Bool.and_false]
  exact (decide_eq_false fun z=>e (by rw[z])).symm
def kTup:Kind (List α) where
 R:=fun K H x as=>∃p xs,x=.ref p∧SqT K H p xs∧Paired (fun a x=>k.R K H x a) as xs
 d:=k.d+1
 inj:=fun {X pins σ H s x a b} I h1 h2=>by
  obtain ⟨p,xs,rfl,hp,pa⟩:=h1
  obtain ⟨q,ys,e,hq,pb⟩:=h2
  cases e
  have e:=I.tuple_inj hp hq
  subst e
  exact paired_inj (F:=fun a x=>k.R X.K H x a) (fun a b x=>k.inj I) pa pb
 rc:=fun {X pins σ H s x y v u a b A} I rx ry h1 h2 hA=>by
  obtain ⟨p,xs,rfl,hp,pa⟩:=h1
  obtain ⟨q,ys,rfl,hq,pb⟩:=h2
  cases rx
  cases ry
  obtain ⟨us,r1,t1,_⟩:=I.tuple hp
  obtain ⟨ws,r2,t2,_⟩:=I.tuple hq
  have z:=SeqAt.RcAt.tuples (A:=A) (e:=fun j=>decide (a[j]?=b[j]?)) (show s.heap.IsTuple p us.toArray from t1) (show s.heap.IsTuple q ws.toArray from t2) (by lia) (k.items (A:=A.in1) I (by show A.units+1+k.d < cLine;lia) r1 r2 pa pb)
  rwa [tup_all a b (by rw[pa.length,r1.length];simp) (by rw[pb.length,r2.length];simp)] at z
 ne:=fun {X pins σ H s x y v u a b A} I rx ry h1 h2 hA=>by
  obtain ⟨p,xs,rfl,hp,pa⟩:=h1
  obtain ⟨q,ys,rfl,hq,pb⟩:=h2
  cases rx
  cases ry
  obtain ⟨us,r1,t1,_⟩:=I.tuple hp
  obtain ⟨ws,r2,t2,_⟩:=I.tuple hq
  have z:=SeqAt.RcNeAt.tuples (A:=A) (e:=fun j=>decide (a[j]?=b[j]?)) (show s.heap.IsTuple p us.toArray from t1) (show s.heap.IsTuple q ws.toArray from t2) (by lia) (k.items (A:=A.in1) I (by show A.units+1+k.d < cLine;lia) r1 r2 pa pb)
  rwa [tup_all a b (by rw[pa.length,r1.length];simp) (by rw[pb.length,r2.length];simp)] at z
 eq:=fun {X pins σ H s x y v u a b A} I rx ry h1 h2 hA=>by
  obtain ⟨p,xs,rfl,hp,pa⟩:=h1
  obtain ⟨q,ys,rfl,hq,pb⟩:=h2
  cases rx
  cases ry
  by_cases e:p=q
  ·subst e
   have e:=I.tuple_inj hp hq
   subst e
   rw[paired_inj (F:=fun a x=>k.R X.K H x a) (fun a b x=>k.inj I) pa pb,decide_eq_true rfl]
   exact SeqAt.EqAt.same _
  ·obtain ⟨us,r1,t1,_⟩:=I.tuple hp
   obtain ⟨ws,r2,t2,_⟩:=I.tuple hq
   have z:=SeqAt.RcAt.tuples (A:=A) (e:=fun j=>decide (a[j]?=b[j]?)) (show s.heap.IsTuple p us.toArray from t1) (show s.heap.IsTuple q ws.toArray from t2) (by lia) (k.items (A:=A.in1) I (by show A.units+1+k.d < cLine;lia) r1 r2 pa pb)
   rw[tup_all a b (by rw[pa.length,r1.length];simp) (by rw[pb.length,r2.length];simp)] at z
   exact .of_refs e z
theorem lst_rc {X:Cx} {pins:List (Addr×Obj)} {σ:St} {H:Hp} {s:Shared} {p q:Addr} {xs ys:List V} {a b:List α} {A:Around} (I:Inv X pins σ H s) (hp:SqL X.K H p xs) (hq:SqL X.K H q ys)
  (pa:Paired (fun a x=>k.R X.K H x a) a xs) (pb:Paired (fun a x=>k.R X.K H x a) b ys) (hA:A.units+(k.d+1) < cLine) :
  SeqAt.RcAt A s (.ref p) (.ref q) (decide (a=b))∧SeqAt.RcNeAt A s (.ref p) (.ref q) (!decide (a=b)):=by
 obtain ⟨us,r1,t1,_⟩:=I.list hp
 obtain ⟨ws,r2,t2,_⟩:=I.list hq
 have l1:=r1.length
 have l2:=r2.length
 have l3:=pa.length
 have l4:=pb.length
 by_cases e:us.length=ws.length
 ·have it:=k.items (A:=A.in1) I (by show A.units+1+k.d < cLine;lia) r1 r2 pa pb
  have z:=SeqAt.RcAt.lists (A:=A) (e:=fun j=>decide (a[j]?=b[j]?)) t1.isList t2.isList (by simpa using e) (by lia) it
  have z2:=SeqAt.RcNeAt.lists (A:=A) (e:=fun j=>decide (a[j]?=b[j]?)) t1.isList t2.isList (by simpa using e) (by lia) it
  have e1:us.toArray.size=a.length:=by rw[List.size_toArray];lia
  rw[e1,decide_lists a b (by lia)] at z z2
  exact ⟨z,z2⟩
 ·have hne:¬a=b:=fun z=>e (by have:=congrArg List.length z;lia)
  rw[decide_eq_false hne]
  exact ⟨SeqAt.RcAt.lists_lengths t1.isList t2.isList (by simpa using e) (by lia),SeqAt.RcNeAt.lists_lengths t1.isList t2.isList (by simpa using e) (by lia)⟩
def kLst:Kind (List α) where
 R:=fun K H x as=>∃p xs,x=.ref p∧SqL K H p xs∧Paired (fun a x=>k.R K H x a) as xs
 d:=k.d+1
 inj:=fun {X pins σ H s x a b} I h1 h2=>by
  obtain ⟨p,xs,rfl,hp,pa⟩:=h1
  obtain ⟨q,ys,e,hq,pb⟩:=h2
  cases e
  have e:=I.list_inj hp hq
  subst e
  exact paired_inj (F:=fun a x=>k.R X.K H x a) (fun a b x=>k.inj I) pa pb
 rc:=fun {X pins σ H s x y v u a b A} I rx ry h1 h2 hA=>by
  obtain ⟨p,xs,rfl,hp,pa⟩:=h1
  obtain ⟨q,ys,rfl,hq,pb⟩:=h2
  cases rx
  cases ry
  exact (lst_rc k I hp hq pa pb hA).1
 ne:=fun {X pins σ H s x y v u a b A} I rx ry h1 h2 hA=>by
  obtain ⟨p,xs,rfl,hp,pa⟩:=h1
  obtain ⟨q,ys,rfl,hq,pb⟩:=h2
  cases rx
  cases ry
  exact (lst_rc k I hp hq pa pb hA).2
 eq:=fun {X pins σ H s x y v u a b A} I rx ry h1 h2 hA=>by
  obtain ⟨p,xs,rfl,hp,pa⟩:=h1
  obtain ⟨q,ys,rfl,hq,pb⟩:=h2
  cases rx
  cases ry
  by_cases e:p=q
  ·subst e
   have e:=I.list_inj hp hq
   subst e
   rw[paired_inj (F:=fun a x=>k.R X.K H x a) (fun a b x=>k.inj I) pa pb,decide_eq_true rfl]
   exact SeqAt.EqAt.same _
  ·exact .of_refs e (lst_rc k I hp hq pa pb hA).1
def Kind.via {β:Type} [DecidableEq β] (f:β->α) (fi:∀a b,f a=f b->a=b) (R':PySem.W.Frag->Hp->V->β->Prop) (im:∀{K H x b},R' K H x b->k.R K H x (f b)):Kind β where
 R:=R'
 d:=k.d
 inj:=fun I h1 h2=>fi _ _ (k.inj I (im h1) (im h2))
 rc:=fun {X pins σ H s x y v u a b A} I rx ry h1 h2 hA=>by
  have z:=k.rc (A:=A) I rx ry (im h1) (im h2) hA
  rwa [decide_eq_decide.mpr (show f a=f b↔a=b from ⟨fi a b,fun e=>by rw[e]⟩)] at z
 ne:=fun {X pins σ H s x y v u a b A} I rx ry h1 h2 hA=>by
  have z:=k.ne (A:=A) I rx ry (im h1) (im h2) hA
  rwa [decide_eq_decide.mpr (show f a=f b↔a=b from ⟨fi a b,fun e=>by rw[e]⟩)] at z
 eq:=fun {X pins σ H s x y v u a b A} I rx ry h1 h2 hA=>by
  have z:=k.eq (A:=A) I rx ry (im h1) (im h2) hA
  rwa [decide_eq_decide.mpr (show f a=f b↔a=b from ⟨fi a b,fun e=>by rw[e]⟩)] at z
end
def NumR (K:PySem.W.Frag) (H:Hp) (x:V) (n:Int×Int):Prop:=∃p,x=.ref p∧SqT K H p [.int n.1,.int n.2]
def kNum:Kind (Int×Int):=(kTup kInt).via (fun n=>[n.1,n.2]) (fun a b e=>by cases a;cases b;simp at e;rw[e.1,e.2]) NumR fun ⟨p,e,h⟩=>⟨p,_,e,h,.cons rfl (.cons rfl .nil)⟩
def kRow:Kind (List (Int×Int)):=kLst kNum
def kGrid:Kind (List (List (Int×Int))):=kLst kRow
abbrev RowR:=kRow.R
abbrev GridR:=kGrid.R
def rNeD (K:PySem.W.Frag):R2:=fun x y H Q=>∃(α:Type) (_:DecidableEq α) (k:Kind α) (a b:α),k.d<=50∧k.R K H x a∧k.R K H y b∧Q (.bl (!decide (a=b))) H
theorem op_neD {X:Cx} (hu:X.A.units+50 < cLine):OpR X (compareOp .NotEq) (rNeD X.K):=by
 intro pins s σ H x y v u Q I rx ry h
 obtain ⟨α,_,k,a,b,hd,ha,hb,q⟩:=h
 exact k.ne (A:=X.A) I rx ry ha hb (by lia) _ _ _ _ ⟨.bl (!decide (a=b)),H,I,rfl,q⟩
theorem hu50 {A:Around} {k:Nat} (hr:Room k A):A.units+50 < cLine:=by have:=hr.units;lia
def Inner (H:Hp) (p q:Addr):Prop:=∃a b c:Int,H p=some (.lst [.int a,.int b,.int c,.ref q])
def Upto (p:Addr) (H H':Hp):Prop:=(∀b o,H b=some o->b≠p->H' b=some o)∧∀q,Inner H p q->Inner H' p q
theorem Upto.refl {p:Addr} (H:Hp):Upto p H H:=⟨fun _ _ h _=>h,fun _ h=>h⟩
theorem Upto.trans {p:Addr} {H H1 H2:Hp} (a:Upto p H H1) (b:Upto p H1 H2):Upto p H H2:=⟨fun c o h n=>b.1 c o (a.1 c o h n) n,fun q h=>b.2 q (a.2 q h)⟩
theorem Inner.inj {H:Hp} {p q q':Addr} (h:Inner H p q) (h':Inner H p q'):q=q':=by
 obtain ⟨a,b,c,e⟩:=h
 obtain ⟨a',b',c',e'⟩:=h'
 rw[e] at e'
 have:=HO.lst.inj (Option.some.inj e')
 simp at this
 exact this.2.2.2
theorem Upto.set {p q:Addr} {H:Hp} {a b c a' b' c':Int} (h:H p=some (.lst [.int a,.int b,.int c,.ref q])):Upto p H (upd H p (.lst [.int a',.int b',.int c',.ref q])) :=
 ⟨fun b u h n=>by rw[upd_ne n];exact h,fun q' h'=>by
  rw[(Inner.inj ⟨a,b,c,h⟩ h').symm]
  exact ⟨a',b',c',upd_same⟩⟩
theorem Same.upto {p:Addr} {H H':Hp} (h:Same H H'):Upto p H H':=⟨fun b o e _=>h b o e,fun q ⟨a,b,c,e⟩=>⟨a,b,c,h _ _ e⟩⟩
theorem Same.new {H:Hp} {p:Addr} {o:HO} (h:H p=Option.none):Same H (upd H p o):=fun b u e=>by rw[upd_ne (ne_of_none e h)];exact e
theorem Same.sqt {K:PySem.W.Frag} {H H':Hp} {a:Addr} {xs:List V} (e:Same H H') (h:SqT K H a xs):SqT K H' a xs:=by
 rcases h with (h | ⟨o,h⟩) | h
 ·exact .inl (.inl (e _ _ h))
 ·exact .inl (.inr ⟨o,e _ _ h⟩)
 ·exact .inr h
theorem Same.num {K:PySem.W.Frag} {H H':Hp} {x:V} {n:Int×Int} (e:Same H H') (h:NumR K H x n):NumR K H' x n:=by obtain ⟨p,q,r⟩:=h;exact ⟨p,q,e.sqt r⟩
theorem Same.row {K:PySem.W.Frag} {H H':Hp} {x:V} {n:List (Int×Int)} (e:Same H H') (h:RowR K H x n):RowR K H' x n:=by obtain ⟨p,xs,q,r,z⟩:=h;exact ⟨p,xs,q,e.seq r,Paired.imp' (fun _ _ q=>e.num q) z⟩
section
variable {σ:St} {H:Hp} {D:Ends}
theorem rd_start {t:TS} {σ0 σ:St} {D:Ends} {H:Hp} (e:σ0=σ) (h:t D σ H):t D σ0 H:=by rw[e];exact h
theorem rd_seq {t u:TS} (h:t { D with nx:=u D } σ H):tSeq t u D σ H:=h
theorem rd_next (h:D.nx σ H):tNext D σ H:=h
theorem rd_asg {te:TE} {g:TG} (h:te σ H fun x H1=>g x σ H1 D.nx):tAsg te g D σ H:=h
theorem rd_gname {i:Nat} {v:V} {Q:St->Hp->Prop} (h:Q (σ.set i (some v)) H):gName i v σ H Q:=h
theorem rd_ret {te:TE} (h:te σ H D.rt):tRet te D σ H:=h
theorem rd_retN (h:D.rt .non H):tRetN D σ H:=h
theorem rd_ifS {c:TT} {t u:TS} (h:c σ H fun b H1=>if b=true then t D σ H1 else u D σ H1):tIfS c t u D σ H:=h
theorem rd_drop {te:TE} (h:te σ H fun _ H1=>D.nx σ H1):tDrop te D σ H:=h
theorem rd_brk (h:D.bk σ H):tBreak D σ H:=h
theorem rd_cont (h:D.ct σ H):tCont D σ H:=h
theorem rd_par {i j:Nat} {ta:TA} (h:ta σ H fun vs H1=>∃v w,vs=[v,w]∧D.nx ((σ.set i (some v)).set j (some w)) H1):tPar i j ta D σ H:=h
theorem rd_augS {to ti te:TE} {tget:V->V->Hp->VK->Prop} {tip:TIp} {tset:TSet}
  (h:to σ H fun o H1=>ti σ H1 fun i H2=>tget o i H2 fun x H3=>te σ H3 fun y H4=>tip x y H4 fun z H5=>tset o i z H5 fun H6=>D.nx σ H6):tAugS to ti te tget tip tset D σ H:=h
theorem rd_aug {i:Nat} {te:TE} {ti:TIp} {x:V} (e:σ[i]?=some (some x)) (h:te σ H fun y H1=>ti x y H1 fun z H2=>D.nx (σ.set i (some z)) H2):tAug i te ti D σ H:=⟨x,e,h⟩
theorem rd_ipI {f:Int->Int->Int} {i j:Int} {Q:VK} (h:Q (.int (f i j)) H):ipI f (.int i) (.int j) H Q:=⟨i,j,rfl,rfl,h⟩
theorem rd_for {wi:TI} {g:TG} {tb:TS} (h:wi σ H fun J H1=>∃W:Nat->Nat->St->Hp->Prop,(∃m,W 0 m σ H1)∧∀i m σ H,W i m σ H →
  (J.stop i H∧D.nx σ H)∨(J.go i H∧∃N:St->Hp->Prop,(∀σ' H',N σ' H'->∃m',m' < m∧W (i+1) m' σ' H')∧∀x H',J.yld i H x H'->g x σ H' fun σ2 H2=>tb { D with nx:=N,ct:=N,bk:=D.nx } σ2 H2)):tFor wi g tb D σ H:=h
variable {Q:VK} {QA:List V->Hp->Prop} {QB:Bool->Hp->Prop}
theorem rd_var {i:Nat} {v:V} (e:σ[i]?=some (some v)) (h:Q v H):tVar i σ H Q:=⟨v,e,h⟩
theorem rd_c {v:V} (h:Q v H):tC v σ H Q:=h
theorem rd_op {r:R2} {ta tb:TE} (h:ta σ H fun x H1=>tb σ H1 fun y H2=>r x y H2 Q):tOp r ta tb σ H Q:=h
theorem rd_un {r:V->Hp->VK->Prop} {ta:TE} (h:ta σ H fun x H1=>r x H1 Q):tUn r ta σ H Q:=h
theorem rd_I0 {g:Int->Int->V} {i j:Int} (h:Q (g i j) H):rI0 g (.int i) (.int j) H Q:=⟨i,j,rfl,rfl,h⟩
theorem rd_I {C:Int->Int->Prop} {g:Int->Int->V} {i j:Int} (hc:C i j) (h:Q (g i j) H):rI C g (.int i) (.int j) H Q:=⟨i,j,rfl,rfl,hc,h⟩
theorem rd_U {g:Int->V} {i:Int} (h:Q (g i) H):rU g (.int i) H Q:=⟨i,rfl,h⟩
theorem rd_eqI {i j:Int} (h:Q (.bl (decide (i=j))) H):rEq (.int i) (.int j) H Q:=⟨rfl,by
 have e:decide (V.int i=V.int j)=decide (i=j):=by simp
 rw[e];exact h⟩
theorem rd_neI {i j:Int} (h:Q (.bl (!decide (i=j))) H):rNe (.int i) (.int j) H Q:=⟨rfl,by
 have e:decide (V.int i=V.int j)=decide (i=j):=by simp
 rw[e];exact h⟩
theorem rd_eqS {i j:Str} (h:Q (.bl (decide (i=j))) H):rEq (.str i) (.str j) H Q:=⟨rfl,by
 have e:decide (V.str i=V.str j)=decide (i=j):=by simp
 rw[e];exact h⟩
theorem rd_neS {i j:Str} (h:Q (.bl (!decide (i=j))) H):rNe (.str i) (.str j) H Q:=⟨rfl,by
 have e:decide (V.str i=V.str j)=decide (i=j):=by simp
 rw[e];exact h⟩
theorem rd_test {t:TE} (h:t σ H fun x H'=>∃k,x=.bl k∧QB k H'):tTest t σ H QB:=h
theorem rd_tB {t:TE} (h:t σ H fun x H'=>∃k,x=.bl k∧QB k H'):tB t σ H QB:=h
theorem rd_and {t u:TT} (h:t σ H fun c H1=>if c=true then u σ H1 QB else QB false H1):tAnd t u σ H QB:=h
theorem rd_or {t u:TT} (h:t σ H fun c H1=>if c=true then QB true H1 else u σ H1 QB):tOr t u σ H QB:=h
theorem rd_not {t:TT} (h:t σ H fun c H1=>QB (!c) H1):tNot t σ H QB:=h
theorem rd_andV {t u:TE} (h:t σ H fun x H1=>∃c,x=.bl c∧if c=true then u σ H1 Q else Q (.bl false) H1):tAndV t u σ H Q:=h
theorem rd_orV {t u:TE} (h:t σ H fun x H1=>∃c,x=.bl c∧if c=true then Q (.bl true) H1 else u σ H1 Q):tOrV t u σ H Q:=h
theorem rd_notV {t:TE} (h:t σ H fun x H1=>∃c,x=.bl c∧Q (.bl (!c)) H1):tNotV t σ H Q:=h
theorem rd_ifE {c:TT} {ta tb:TE} (h:c σ H fun b H1=>if b=true then ta σ H1 Q else tb σ H1 Q):tIf c ta tb σ H Q:=h
theorem rd_yes (h:QB true H):tYes σ H QB:=h
theorem rd_nil (h:QA [] H):tNil σ H QA:=h
theorem rd_cons {ta:TE} {tr:TA} (h:ta σ H fun x H1=>tr σ H1 fun xs H2=>QA (x :: xs) H2):tCons ta tr σ H QA:=h
theorem rd_call {sp:Sp} {E:XK} {t:TA} (h:t σ H fun vs H1=>sp vs H1 Q E):tCall sp [] E t σ H Q:=by
 have e:(fun vs H1=>sp (vs++[]) H1 Q E)=fun vs H1=>sp vs H1 Q E:=by funext vs H1;rw[List.append_nil]
 show t σ H fun vs H1=>sp (vs++[]) H1 Q E
 rw[e];exact h
theorem rd_cb {r:List V->Hp->VK->Prop} {t:TA} (h:t σ H fun vs H1=>r vs H1 Q):tCB r t σ H Q:=h
theorem rd_ixT {K:PySem.W.Frag} {p:Addr} {xs:List V} {i:Int} {v:V} (hx:SqT K H p xs) (e:atI xs i=some v) (h:Q v H):rIxT K (.ref p) (.int i) H Q:=⟨p,xs,i,v,rfl,rfl,hx,e,h⟩
theorem rd_ixL {K:PySem.W.Frag} {p:Addr} {xs:List V} {i:Int} (hx:SqL K H p xs) {v:V} (e:atI xs i=some v) (h:Q v H):rIxL K (.ref p) (.int i) H Q:=⟨p,xs,i,v,rfl,rfl,hx,e,h⟩
theorem rd_getL {K:PySem.W.Frag} {p:Addr} {xs:List V} {i:Int} (hx:SqL K H p xs) {v:V} (e:atI xs i=some v) (h:Q v H):rGetL K (.ref p) (.int i) H Q:=⟨p,xs,i,v,rfl,rfl,hx,e,h⟩
theorem rd_setL {QH:Hp->Prop} {p:Addr} {xs:List V} {i:Int} {v:V} {j:Nat} {ys:List V} (hx:H p=some (.lst xs)) (e:ixN xs.length i=some j) (ey:xs.set j v=ys) (h:QH (upd H p (.lst ys))):rSetL (.ref p) (.int i) v H QH:=⟨p,xs,i,j,rfl,rfl,hx,e,by rw[ey];exact h⟩
theorem rd_gsub {to ti:TE} {t:TSet} {v:V} {QS:St->Hp->Prop} (h:to σ H fun o H1=>ti σ H1 fun i H2=>t o i v H2 fun H3=>QS σ H3):gSub to ti t v σ H QS:=h
theorem rd_gcons {t:TG} {u:TGs} {v:V} {r:List V} {QS:St->Hp->Prop} (h:t v σ H fun σ' H'=>u r σ' H' QS):gCons t u (v :: r) σ H QS:=⟨v,r,rfl,h⟩
theorem rd_gnil {QS:St->Hp->Prop} (h:QS σ H):gNil [] σ H QS:=⟨rfl,h⟩
theorem rd_gtup {K:PySem.W.Frag} {n:Nat} {t:TGs} {a:Addr} {xs:List V} {QS:St->Hp->Prop} (hx:SqT K H a xs) (hl:xs.length=n) (h:t xs σ H QS):gTup K n t (.ref a) σ H QS:=⟨a,xs,rfl,hx,hl,h⟩
theorem rd_sl {r:V->Option Int->Option Int->Hp->VK->Prop} {te:TE} {tl th:TO} (h:te σ H fun x H1=>tl σ H1 fun l H2=>th σ H2 fun u H3=>r x l u H3 Q):tSl r te tl th σ H Q:=h
theorem rd_noPart {QO:Option Int->Hp->Prop} (h:QO none H):tNoPart σ H QO:=h
theorem rd_part {t:TE} {QO:Option Int->Hp->Prop} (h:t σ H fun x H1=>∃i,x=.int i∧QO (some i) H1):tPart t σ H QO:=h
variable {R:It->Hp->Prop} {K:PySem.W.Frag}
theorem rd_iList {tl:TE} (h:tl σ H fun x H1=>∃a,x=.ref a∧(∃xs,SqL K H1 a xs)∧R (Itl K a) H1):iList K tl σ H R:=h
theorem rd_iTup {tl:TE} (h:tl σ H fun x H1=>∃a,x=.ref a∧(∃xs,SqT K H1 a xs)∧R (Itt K a) H1):iTup K tl σ H R:=h
theorem rd_iRng1 {ta:TA} (h:ta σ H fun vs H1=>∃j:Int,vs=[.int j]∧-(2^62)<=j∧j < 2^62∧R (Itr 0 j.toNat) H1):iRng1 ta σ H R:=h
theorem rd_iRng2 {ta:TA} (h:ta σ H fun vs H1=>∃i j:Int,vs=[.int i,.int j]∧(-(2^62)<=i∧i < 2^62∧-(2^62)<=j∧j < 2^62)∧R (Itr i (j - i).toNat) H1):iRng2 ta σ H R:=h
theorem rd_comp {wi:TI} {k:Nat} {cap:List Nat} {g:TG} {tf:TT} {te:TE} {σ₀:St} (e:st0 k cap σ=σ₀) (h:wi σ H fun J H1=>CompW J σ₀ g tf te Q H1):tComp wi k cap g tf te σ H Q:=by
 unfold tComp;rw[e];exact h
theorem rd_turn {g:TG} {tf:TT} {te:TE} {x:V} {NY:V->Hp->Prop} {NN:Hp->Prop} (h:g x σ H fun σ2 H2=>tf σ2 H2 fun b H3=>if b=true then te σ2 H3 NY else NN H3):tTurn σ g tf te x H NY NN:=h
theorem rd_bm {T:String} {r:V->List V->Hp->VK->Prop} {to:TE} {t:TA} (h:to σ H fun x H1=>tyV K T x H1∧t σ H1 fun xs H2=>r x xs H2 Q):tBM K T r to t σ H Q:=h
theorem rd_bm0 {T:String} {r:V->List V->Hp->VK->Prop} {to:TE} (h:to σ H fun x H1=>tyV K T x H1∧r x [] H1 Q):tBM0 K T r to σ H Q:=h
def NewT (Q:VK) (xs:List V) (H:Hp):Prop:=xs.length<=sizeLine∧∀p,H p=none->Q (.ref p) (upd H p (.tup xs))
def NewL (Q:VK) (xs:List V) (H:Hp):Prop:=xs.length<=sizeLine∧∀p,H p=none->Q (.ref p) (upd H p (.lst xs))
theorem rd_tup {t:TA} (h:t σ H (NewT Q)):tTup t σ H Q:=h
theorem rd_lst {t:TA} (h:t σ H (NewL Q)):tLst t σ H Q:=h
theorem short_ok {n:Nat} (h:Nat.ble n 1000=true):n<=sizeLine:=Nat.le_of_lt (small1000 (Nat.le_of_ble_eq_true h))
theorem rd_newT {xs:List V} (h:∀p H',Same H H'->H' p=some (.tup xs)->Q (.ref p) H') (hl:Nat.ble xs.length 1000=true:=by rfl):NewT Q xs H :=
 ⟨short_ok hl,fun p hp=>h p _ (Same.new hp) upd_same⟩
theorem rd_newL {xs:List V} (h:∀p H',Same H H'->H p=none->H' p=some (.lst xs)->Q (.ref p) H') (hl:Nat.ble xs.length 1000=true:=by rfl):NewL Q xs H :=
 ⟨short_ok hl,fun p hp=>h p _ (Same.new hp) hp upd_same⟩
theorem iteNT {A B:Prop} (h:B):if (!true)=true then A else B:=iteF h
theorem iteNF {A B:Prop} (h:A):if (!false)=true then A else B:=iteT h
def WB (tb:TS) (D:Ends) (Pv:St->Hp->Prop) (μ:St->Hp->Nat) (n:Nat) (σ:St) (H:Hp):Prop:=∃N:St->Hp->Prop,(∀σ' H',N σ' H'->∃m',m' < n∧(m'=μ σ' H'∧Pv σ' H'))∧tb { D with nx:=N,ct:=N,bk:=D.nx } σ H
theorem rd_wb {tb:TS} {Pv:St->Hp->Prop} {μ:St->Hp->Nat} {n:Nat} (h:tb { D with nx:=fun σ' H'=>Pv σ' H'∧μ σ' H' < n,ct:=fun σ' H'=>Pv σ' H'∧μ σ' H' < n,bk:=D.nx } σ H):WB tb D Pv μ n σ H :=
 ⟨_,fun σ' H' ⟨p,l⟩=>⟨_,l,rfl,p⟩,h⟩
theorem while_i {c:TT} {tb:TS} (Pv:St->Hp->Prop) (μ:St->Hp->Nat) (h0:Pv σ H) (hs:∀σ H,Pv σ H->c σ H fun b H1=>if b=true then WB tb D Pv μ (μ σ H) σ H1 else D.nx σ H1):tWhile c tb D σ H:=by
 refine ⟨fun m σ H=>m=μ σ H∧Pv σ H,⟨_,rfl,h0⟩,?_⟩
 rintro m σ H ⟨rfl,p⟩
 exact hs σ H p
end
end L2
namespace L2
open PySem PySem.Spec PyProof.Rows Nm
def Bag (H:Hp) (p:Addr):Prop:=∃(q:Addr) (a b c:Int) (cs:List Int),H p=some (.lst [.int a,.int b,.int c,.ref q])∧H q=some (.lst (cs.map V.int))∧0<=a∧0<=c∧c<=(cs.length:Int)∧∀x∈cs,(0:Int)<=x
theorem bag_apart {H:Hp} {p q:Addr} {a b c:Int} {cs:List Int} (hp:H p=some (.lst [.int a,.int b,.int c,.ref q])) (hq:H q=some (.lst (cs.map V.int))):q≠p:=fun e=>by
 rw[e,hp] at hq
 have h:=HO.lst.inj (Option.some.inj hq)
 cases cs with
 | nil=>cases h
 | cons x1 cs=>cases cs with
  | nil=>cases h
  | cons x2 cs=>cases cs with
   | nil=>cases h
   | cons x3 cs=>cases cs with
    | nil=>cases h
    | cons x4 cs=>simp at h
theorem Bag.same {H H':Hp} {p:Addr} (h:Bag H p) (e:Same H H'):Bag H' p:=by obtain ⟨q,a,b,c,cs,h1,h2,r⟩:=h;exact ⟨q,a,b,c,cs,e _ _ h1,e _ _ h2,r⟩
theorem Upto.tup {H H':Hp} {p r:Addr} {xs:List V} (u:Upto p H H') (B:Bag H p) (h:H r=some (.tup xs)):H' r=some (.tup xs):=by
 obtain ⟨q,a,b,c,cs,h1,_⟩:=B
 exact u.1 r _ h fun e=>by rw[e,h1] at h;cases h
theorem Upto.other {H H':Hp} {p r:Addr} {o:HO} (u:Upto p H H') (n:r≠p) (h:H r=some o):H' r=some o:=u.1 r _ h n
theorem Bag.inner {H:Hp} {p:Addr} (h:Bag H p):∃q,Inner H p q∧∃xs,H q=some (.lst xs):=by obtain ⟨q,a,b,c,cs,h1,h2,_⟩:=h;exact ⟨q,⟨a,b,c,h1⟩,_,h2⟩
theorem Bag.upd {H:Hp} {p q r:Addr} {o:HO} (h:Bag H p) (hi:Inner H p q) (n1:r≠p) (n2:r≠q):Bag (L2.upd H r o) p:=by
 obtain ⟨q',a,b,c,cs,h1,h2,z⟩:=h
 have e:q'=q:=Inner.inj ⟨a,b,c,h1⟩ hi
 subst e
 exact ⟨q',a,b,c,cs,by rw[upd_ne n1.symm];exact h1,by rw[upd_ne n2.symm];exact h2,z⟩
theorem Inner.upd {H:Hp} {p q r:Addr} {o:HO} (hi:Inner H p q) (n1:r≠p):Inner (L2.upd H r o) p q:=by obtain ⟨a,b,c,h⟩:=hi;exact ⟨a,b,c,by rw[upd_ne n1.symm];exact h⟩
def sp_take:Sp:=fun vs H Q _=>∃p n,vs=[.ref p,.int n]∧Bag H p∧0 < n∧n < 2^64∧∀v H',0<=v->v < n->Bag H' p->Upto p H H'->Q (.int v) H'
def sp_bag (K:PySem.W.Frag):Sp:=fun vs H Q _=>∃(a:Addr) (ns:List Int),vs=[.ref a]∧SqL K H a (ns.map V.int)∧ns.length<=63∧∀p H',H p=none->Bag H' p->Same H H'->Q (.ref p) H'
def sp_law (K:PySem.W.Frag):Sp:=fun vs H Q _=>∃(a:Addr) (ns:List Int),vs=[.ref a]∧SqL K H a (ns.map V.int)∧ns.length<=63∧∀H',Q (.bl true) H'
def sp_great:Sp:=fun vs H Q _=>∃p,vs=[.ref p]∧Bag H p∧∀v H',0<=v->v < 10^60->Bag H' p->Upto p H H'->Q (.int v) H'
def sp_top:Sp:=fun vs H Q _=>∃p,vs=[.ref p]∧Bag H p∧∀v H',v.natAbs < 10^60->Bag H' p->Upto p H H'->Q (.int v) H'
def N60 (a b:Int):Prop:=0 < b∧Int.gcd a b=1∧a.natAbs < 10^60∧b.natAbs < 10^60
theorem lt60 {x:Int} (h:x.natAbs < 10^60):Sz 200 x:=Nat.lt_of_lt_of_le h (by decide +kernel)
theorem N60.sa {a b:Int} (h:N60 a b):Sz 200 a:=lt60 h.2.2.1
theorem N60.sb {a b:Int} (h:N60 a b):Sz 200 b:=lt60 h.2.2.2
theorem low60 {t b:Int} (hb:0 < b) (ht:t.natAbs < 10^60) (hb2:b.natAbs < 10^60):N60 (lo t b) (hi t b) :=
 ⟨hi_pos hb,lohi_gcd (by lia),Nat.lt_of_le_of_lt (lo_le (by lia)) ht,Nat.lt_of_le_of_lt (hi_le (by lia)) hb2⟩
theorem mul_bd {a b m n:Int} (a0:0<=a) (b0:0<=b) (ha:a < m) (hb:b < n):0<=a*b∧a*b < m*n:=by
 refine ⟨Int.mul_nonneg a0 b0,?_⟩
 have h1:a*b<=a*n:=Int.mul_le_mul_of_nonneg_left (by lia) a0
 have h2:a*n < m*n:=Int.mul_lt_mul_of_pos_right ha (by lia)
 lia
def sp_any:Sp:=fun vs H Q _=>∃p,vs=[.ref p]∧Bag H p∧∀r a b H',N60 a b->H' r=some (.tup [.int a,.int b])->Bag H' p->Upto p H H'->Q (.ref r) H'
def sp_low:Sp:=fun vs H Q _=>∃t b,vs=[.int t,.int b]∧0 < b∧Sz 8999 b∧∀r H',Same H H'->H' r=some (.tup [.int (lo t b),.int (hi t b)])->Q (.ref r) H'
def PairR (H:Hp) (_:Unit) (x:V):Prop:=∃r r1 r2 a b c d,x=.ref r∧N60 a b∧N60 c d∧H r=some (.tup [.ref r1,.ref r2])∧H r1=some (.tup [.int a,.int b])∧H r2=some (.tup [.int c,.int d])
theorem PairR.same {H H':Hp} {u:Unit} {x:V} (h:PairR H u x) (e:Same H H'):PairR H' u x:=by obtain ⟨r,r1,r2,a,b,c,d,q,n1,n2,g0,g1,g2⟩:=h;exact ⟨r,r1,r2,a,b,c,d,q,n1,n2,e _ _ g0,e _ _ g1,e _ _ g2⟩
end L2
namespace L2
open PySem PySem.Spec PyProof.Rows Nm
def Itz (K : PySem.W.Frag) (l1 l2 : Addr) : It :=
  ⟨fun i H => ∃ xs ys x y, SqL K H l1 xs ∧ SqL K H l2 ys ∧ xs[i]? = some x ∧ ys[i]? = some y,
   fun i H v H' => ∃ p x y, v = .ref p ∧ H p = none ∧ H' = upd H p (.tup [x, y]) ∧ (∀ xs, SqL K H l1 xs → xs[i]? = some x) ∧ ∀ ys, SqL K H l2 ys → ys[i]? = some y,
   fun i H => ∃ xs ys, SqL K H l1 xs ∧ SqL K H l2 ys ∧ (xs.length ≤ i ∨ ys.length ≤ i)⟩
section
variable {X:Cx}
def iZip (K:PySem.W.Frag) (ta:TA):TI:=fun σ H R=>ta σ H fun vs H1=>∃l1 l2,vs=[.ref l1,.ref l2]∧(∃xs,SqL K H1 l1 xs)∧(∃ys,SqL K H1 l2 ys)∧R (Itz K l1 l2) H1
end
section
variable {K:PySem.W.Frag} {l1 l2:Addr} {xs ws:List V} {g:TG} {tf:TT} {te:TE} {Q:VK} {σ₀:St} {H:Hp}
end
section
variable {X:Cx}
end
theorem pa_consE {X:Cx} {e e':Expr} {es:List Expr} {te:TE} {t:TA} (h:e=e') (ha:PE X e' te) (hr:PA X es t) (hs:∀l,starEach (e' :: l) X.env=(false,eval e' X.env) :: starEach l X.env:=by intro _;rfl):PA X (e :: es) (tCons te t):=by subst h;exact pa_cons ha hr (hs _)
section
variable {X:Cx} {pos:Pos}
end
section
variable {σ:St} {H:Hp} {D:Ends} {Q:VK}
theorem rd_eqB {i j:Bool} (h:Q (.bl (decide (i=j))) H):rEq (.bl i) (.bl j) H Q:=⟨rfl,by
 have e:decide (V.bl i=V.bl j)=decide (i=j):=by simp
 rw[e];exact h⟩
theorem rd_neB {i j:Bool} (h:Q (.bl (!decide (i=j))) H):rNe (.bl i) (.bl j) H Q:=⟨rfl,by
 have e:decide (V.bl i=V.bl j)=decide (i=j):=by simp
 rw[e];exact h⟩
theorem rd_iZip {K:PySem.W.Frag} {ta:TA} {R:It->Hp->Prop} (h:ta σ H fun vs H1=>∃l1 l2,vs=[.ref l1,.ref l2]∧(∃xs,SqL K H1 l1 xs)∧(∃ys,SqL K H1 l2 ys)∧R (Itz K l1 l2) H1):iZip K ta σ H R:=h
theorem rd_cat {l b:Addr} {xs zs:List V} (h1:H l=some (.lst xs)) (h2:H b=some (.lst zs)) (hz:xs.length+zs.length<=sizeLine) (h:∀p H',Same H H'->H p=none->H' p=some (.lst (xs++zs))->Q (.ref p) H'):rCat (.ref l) (.ref b) H Q :=
 ⟨l,b,xs,zs,rfl,rfl,h1,h2,hz,fun p hp=>h p _ (Same.new hp) hp upd_same⟩
theorem atI_some {α:Type} {xs:List α} {i:Int} (h0:0<=i) (h1:i < xs.length):∃v,atI xs i=some v∧v∈xs∧xs[i.toNat]?=some v:=by
 have hj:i.toNat < xs.length:=by lia
 refine ⟨xs[i.toNat],?_,List.getElem_mem hj,by simp [hj]⟩
 have:=atI_nat (xs:=xs) (j:=i.toNat) (v:=xs[i.toNat]) (by simp [hj])
 rwa [Int.toNat_of_nonneg h0] at this
end
inductive Kn (H:Hp):V->Prop where
 | non:Kn H .non
 | bl (b:Bool):Kn H (.bl b)
 | int (i:Int):Kn H (.int i)
 | str (x:Str):Kn H (.str x)
 | lst {a:Addr} {xs:List V} (e:H a=some (.lst xs)):Kn H (.ref a)
 | tup {a:Addr} {xs:List V} (e:H a=some (.tup xs)):Kn H (.ref a)
 | dic {a:Addr} {kvs:List (Key×V)} (e:H a=some (.dK kvs)):Kn H (.ref a)
theorem Kn.same {H H':Hp} {x:V} (h:Kn H x) (e:Same H H'):Kn H' x:=by
 cases h with
 | non=>exact .non
 | bl b=>exact .bl b
 | int i=>exact .int i
 | str x=>exact .str x
 | lst q=>exact .lst (e _ _ q)
 | tup q=>exact .tup (e _ _ q)
 | dic q=>exact .dic (e _ _ q)
def OkT (T:String):Prop:=T="int"∨T="bool"∨T="list"∨T="tuple"
def wholeB (x:V):Bool:=match x with
 | .int _=>true
 | _=>false
def Kn2 (H:Hp) (x:V):Prop:=Kn H x∧∀p xs,x=.ref p->H p=some (.tup xs)->∀y∈xs,Kn H y∧∀i,y=.int i->Sz 8999 i
def Kn3 (H:Hp) (x:V):Prop:=Kn2 H x∧∀p xs,x=.ref p->H p=some (.lst xs)->xs.length<=1000∧∀y∈xs,Kn2 H y
theorem Kn.at_same {H H':Hp} {p:Addr} {o:HO} (h:Kn H (.ref p)) (e:Same H H') (q:H' p=some o):H p=some o:=by
 cases h with
 | lst g=>rw[e _ _ g] at q;rw[g,q]
 | tup g=>rw[e _ _ g] at q;rw[g,q]
 | dic g=>rw[e _ _ g] at q;rw[g,q]
theorem Kn2.same {H H':Hp} {x:V} (h:Kn2 H x) (e:Same H H'):Kn2 H' x :=
 ⟨h.1.same e,fun p xs ex q y hy=>by
  subst ex
  obtain ⟨k,z⟩:=h.2 p xs rfl (h.1.at_same e q) y hy
  exact ⟨k.same e,z⟩⟩
theorem Kn3.same {H H':Hp} {x:V} (h:Kn3 H x) (e:Same H H'):Kn3 H' x :=
 ⟨h.1.same e,fun p xs ex q=>by
  subst ex
  obtain ⟨l,k⟩:=h.2 p xs rfl (h.1.1.at_same e q)
  exact ⟨l,fun y hy=>(k y hy).same e⟩⟩
def NumH (H:Hp) (n:Int×Int) (x:V):Prop:=∃r,x=.ref r∧H r=some (.tup [.int n.1,.int n.2])
def RowH (H:Hp) (p:Addr) (ns:List (Int×Int)):Prop:=∃xs,H p=some (.lst xs)∧Paired (NumH H) ns xs
theorem NumH.same {H H':Hp} {n:Int×Int} {x:V} (h:NumH H n x) (e:Same H H'):NumH H' n x:=by obtain ⟨r,q,g⟩:=h;exact ⟨r,q,e _ _ g⟩
theorem RowH.same {H H':Hp} {p:Addr} {ns:List (Int×Int)} (h:RowH H p ns) (e:Same H H'):RowH H' p ns:=by obtain ⟨xs,g,q⟩:=h;exact ⟨xs,e _ _ g,Paired.imp' (fun _ _ z=>z.same e) q⟩
theorem NumH.upto {H H':Hp} {n:Int×Int} {x:V} {b:Addr} (h:NumH H n x) (u:Upto b H H') (B:Bag H b):NumH H' n x:=by obtain ⟨r,q,g⟩:=h;exact ⟨r,q,u.tup B g⟩
theorem RowH.upto {H H':Hp} {p b:Addr} {ns:List (Int×Int)} (h:RowH H p ns) (u:Upto b H H') (B:Bag H b) (n:p≠b):RowH H' p ns:=by obtain ⟨xs,g,q⟩:=h;exact ⟨xs,u.other n g,Paired.imp' (fun _ _ z=>z.upto u B) q⟩
theorem NumH.kind {K:PySem.W.Frag} {H:Hp} {n:Int×Int} {x:V} (h:NumH H n x):NumR K H x n:=by obtain ⟨r,q,g⟩:=h;exact ⟨r,q,SqT.of g⟩
theorem RowH.kind {K:PySem.W.Frag} {H:Hp} {p:Addr} {ns:List (Int×Int)} (h:RowH H p ns):kRow.R K H (.ref p) ns:=by obtain ⟨xs,g,q⟩:=h;exact ⟨p,xs,rfl,SqL.of g,Paired.imp' (fun _ _ z=>z.kind) q⟩
def NumOk (n:Int×Int):Prop:=0 < n.2∧Int.gcd n.1 n.2=1∧Sz 8000 n.1∧Sz 8000 n.2
end L2
namespace L2
open PySem PySem.Spec PyProof.Rows Nm
theorem N60.ok {n:Int×Int} (h:N60 n.1 n.2):NumOk n:=⟨h.1,h.2.1,h.sa.mono (by decide),h.sb.mono (by decide)⟩
theorem Same.after {H H':Hp} {r:Addr} {o:HO} (s:Same H H') (h:H r=Option.none):Same H (upd H' r o):=fun b u e=>by rw[upd_ne (ne_of_none e h)];exact s b u e
theorem Upto.after {H H':Hp} {b r:Addr} {o:HO} (s:Upto b H H') (h:H r=Option.none):Upto b H (upd H' r o):=⟨fun c u e n=>by rw[upd_ne (ne_of_none e h)];exact s.1 c u e n,fun q hi=>(s.2 q hi).upd fun z=>by obtain ⟨_,_,_,e⟩:=hi;rw[← z,h] at e;cases e⟩
theorem Upto.same {H H' H'':Hp} {b:Addr} (s:Upto b H H') (e:Same H' H''):Upto b H H'':=s.trans e.upto
end L2
namespace L2
open PySem PySem.Spec PyProof.Rows Nm
end L2
namespace L2
open PySem PySem.Spec PyProof.Rows Nm
theorem Kn3.flat {H:Hp} {x:V} (h:Kn H x) (hr:∀p,x≠.ref p):Kn3 H x:=⟨⟨h,fun p _ e=>absurd e (hr p)⟩,fun p _ e=>absurd e (hr p)⟩
theorem Kn2.tup {H:Hp} {p:Addr} {xs:List V} (g:H p=some (.tup xs)) (h:∀y∈xs,Kn H y∧∀i,y=.int i->Sz 8999 i):Kn2 H (.ref p):=⟨.tup g,fun p' xs' e q=>by cases e;rw[g] at q;cases q;exact h⟩
theorem Kn3.tup {H:Hp} {p:Addr} {xs:List V} (g:H p=some (.tup xs)) (h:∀y∈xs,Kn H y∧∀i,y=.int i->Sz 8999 i):Kn3 H (.ref p):=⟨Kn2.tup g h,fun p' xs' e q=>by cases e;rw[g] at q;cases q⟩
theorem Kn2.lst {H:Hp} {p:Addr} {xs:List V} (g:H p=some (.lst xs)):Kn2 H (.ref p):=⟨.lst g,fun p' xs' e q=>by cases e;rw[g] at q;cases q⟩
theorem Kn3.lst {H:Hp} {p:Addr} {xs:List V} (g:H p=some (.lst xs)) (hl:xs.length<=1000) (h:∀y∈xs,Kn2 H y):Kn3 H (.ref p):=⟨Kn2.lst g,fun p' xs' e q=>by cases e;rw[g] at q;cases q;exact ⟨hl,h⟩⟩
theorem Kn3.dic {H:Hp} {p:Addr} {kvs:List (Key×V)} (g:H p=some (.dK kvs)):Kn3 H (.ref p):=⟨⟨.dic g,fun p' xs' e q=>by cases e;rw[g] at q;cases q⟩,fun p' xs' e q=>by cases e;rw[g] at q;cases q⟩
theorem Kn2.flat {H:Hp} {x:V} (h:Kn H x) (hr:∀p,x≠.ref p):Kn2 H x:=(Kn3.flat h hr).1
theorem Kn.upto {H H':Hp} {x:V} {b:Addr} (h:Kn H x) (u:Upto b H H') (hx:x≠.ref b):Kn H' x:=by
 cases h with
 | non=>exact .non
 | bl b=>exact .bl b
 | int i=>exact .int i
 | str x=>exact .str x
 | lst q=>exact .lst (u.1 _ _ q fun z=>hx (by rw[z]))
 | tup q=>exact .tup (u.1 _ _ q fun z=>hx (by rw[z]))
 | dic q=>exact .dic (u.1 _ _ q fun z=>hx (by rw[z]))
end L2
namespace L2
open PySem PySem.Spec PyProof.Rows Nm
abbrev ZipR (h:Heap) (z TI TO:Addr) (f0 f1:Value):Prop:=h.get? z=some { cls:=.type "zip",dict:=none,data:=.fields #[f0,f1,.bool false,.ref TI,.ref TO],slots:=#[] }
section
variable {prog:Program} {w:World} {A:Around} {E:Value->Shared->Prop} {s:Shared}
end
section
variable {X:Cx} {pins:List (Addr×Obj)} {σ:St} {H:Hp} {s:Shared}
theorem Inv.moved {h':Heap} {ch:List Addr} {g':Array GenState} {d':Drawn} {t':Nat} (I:Inv X pins σ H s) (fx:∀b∈ch,FpOk X pins H b) (up:∀b o,b∉ch->s.heap.get? b=some o->h'.get? b=some o) (hg:AllBare g') :
  Inv X pins σ H { s with heap:=h',gens:=g',drawn:=d',toks:=t' }:=by
 have nx:∀b o,H b=some o->b∉ch:=fun b o e hb=>by have:=(fx b hb).1;rw[this] at e;cases e
 refine I.step (ch:=ch) (fun b hb=>?_) (fun b o _ _ hb e _=>up b o hb e) (fun b o _ _ hb e _=>⟨o.slots,up b o hb e⟩) (fun b o hb e n=>n) (fun b o hb e=>⟨o,up b o hb e⟩) (fun b q e=>e) (fun b o q e=>e) (fun b q e=>⟨#[],by rw[e];simp⟩) (fun m hm=>?_) (fun b o e=>?_) hg
 ·obtain ⟨_,f1,_,f3,f4,f5⟩:=fx b hb
  exact ⟨f3,f1,f4,f5⟩
 ·obtain ⟨o,es,ep,ho,r⟩:=hm
  exact ⟨o,es,ep,up _ o (fun z=>(fx _ z).2.1 rfl) ho,r⟩
 ·refine (I.hok b o e).stay (fun c v' hc q=>up c v' ?_ q) (fun c q=>q) fun c xs q=>q
  rcases hc with rfl | hc
  ·exact nx _ _ e
  ·exact nx _ _ hc
theorem Inv.track {p:Addr} {o:HO} (I:Inv X pins σ H s) (fp:FpOk X pins H p) (new:ObjOk X.prog X.w (upd H p o) s.heap p o):Inv X pins σ (upd H p o) s:=by
 have nt:∀{b:Addr} {u:HO},H b=some u->b≠p:=fun e z=>by rw[z,fp.1] at e;cases e
 refine I.step (h':=s.heap) (g':=s.gens) (d':=s.drawn) (t':=s.toks) (ch:=[p]) (fun b hb=>?_) (fun b o _ _ _ e _=>e) (fun b o _ _ _ e _=>⟨o.slots,e⟩) (fun b o hb e n=>?_) (fun b o _ e=>⟨o,e⟩) (fun b q e=>by rw[upd_ne (nt e)];exact e) (fun b o q e=>by rw[upd_ne (nt e)];exact e)
  (fun b q e=>⟨#[],by rw[upd_ne (nt e),e];simp⟩) (fun m hm=>hm) (fun b u e=>?_) I.bare
 ·have e:b=p:=by simpa using hb
  subst e
  obtain ⟨_,f1,_,f3,f4,f5⟩:=fp
  exact ⟨f3,f1,f4,f5⟩
 ·rw[upd_ne fun z=>hb (by simp [z])];exact n
 ·by_cases hb:b=p
  ·subst hb;rw[upd_same] at e;cases e;exact new
  ·rw[upd_ne hb] at e
   exact (I.hok b u e).stay (fun c v _ q=>q) (fun c q=>by rw[upd_ne (nt q)];exact q) fun c xs q=>by rw[upd_ne (nt q)];exact q
end
def PrR (H:Hp) (p:V×V) (x:V):Prop:=∃T,x=.ref T∧H T=some (.tup [p.1,p.2])
theorem PrR.same {H H':Hp} {p:V×V} {x:V} (h:PrR H p x) (e:Same H H'):PrR H' p x:=by obtain ⟨T,q,g⟩:=h;exact ⟨T,q,e _ _ g⟩
def Zst (h:Heap) (z TI TO:Addr) (base:Nat):Prop:=(∃a b,IsPair h TO a b)∧(IsZip h z TI TO .none∨∃(T:Addr) (b1:Bool) (o:Obj),ZipR h z TI TO (rawInt T) (.bool b1)∧h.get? T=some o∧@LE.le Nat instLENat base T)
section
variable {X:Cx} {pins:List (Addr×Obj)} {σ:St}
theorem FpOk.heap {H H':Hp} {b:Addr} (f:FpOk X pins H b) (e:H' b=none):FpOk X pins H' b:=⟨e,f.2⟩
structure Zad where
 z:Addr
 TI:Addr
 TO:Addr
 i1:Addr
 i2:Addr
 S:Addr
 base:Nat
def Zad.all (a:Zad):List Addr:=[a.z,a.TI,a.TO,a.i1,a.i2,a.S]
structure Zad.Ok (a:Zad):Prop where
 tt:a.TI≠a.TO
 ii:a.i1≠a.i2
 Sz:a.S≠a.z
 STI:a.S≠a.TI
 STO:a.S≠a.TO
 Si1:a.S≠a.i1
 Si2:a.S≠a.i2
 lt:∀b∈a.all,@LT.lt Nat instLTNat b a.base
structure LzI (X:Cx) (pins:List (Addr×Obj)) (σ:St) (H1:Hp) (a:Zad) (l1 l2:Addr) (i:Nat) (H:Hp) (s:Shared):Prop where
 inv:Inv X pins σ H s
 same:Same H1 H
 fps:∀b∈a.all,FpOk X pins H b
 sz:a.base<=s.heap.objs.size
 zst:Zst s.heap a.z a.TI a.TO a.base
 pt:IsPair s.heap a.TI (.ref a.i1) (.ref a.i2)
 j1:s.heap.IsListIter a.i1 l1 i
 j2:s.heap.IsListIter a.i2 l2 i
variable {a:Zad} {l1 l2:Addr} {H1 H:Hp} {s:Shared} {i:Nat} {xs ys:List V}
theorem LzI.push {h':Heap} (L:LzI X pins σ H1 a l1 l2 i H s) (O:a.Ok) (k:∀b o,b≠a.S->s.heap.get? b=some o->h'.get? b=some o) (hz:h'.objs.size=s.heap.objs.size):LzI X pins σ H1 a l1 l2 i H { s with heap:=h' }:=by
 refine ⟨L.inv.moved (g':=s.gens) (d':=s.drawn) (t':=s.toks) (ch:=[a.S]) (fun b hb=>?_) (fun b o hb e=>k b o (fun z=>hb (by simp [z])) e) L.inv.bare,L.same,L.fps,by show a.base<=h'.objs.size;rw[hz];exact L.sz,?_,k _ _ O.STI.symm L.pt,L.j1.at fun o e=>k _ o O.Si1.symm e,L.j2.at fun o e=>k _ o O.Si2.symm e⟩
 ·have e:b=a.S:=by simpa using hb
  rw[e];exact L.fps _ (by simp [Zad.all])
 ·obtain ⟨⟨c,d,z0⟩,z4⟩:=L.zst
  refine ⟨⟨c,d,k _ _ O.STO.symm z0⟩,?_⟩
  rcases z4 with z1 | ⟨T,b1,o,z1,z2,z3⟩
  ·exact .inl (k _ _ O.Sz.symm z1)
  ·refine .inr ⟨T,b1,o,k _ _ O.Sz.symm z1,k _ _ (fun e=>?_) z2,z3⟩
   have:=O.lt a.S (by simp [Zad.all])
   rw[← e] at this
   exact absurd this (Nat.not_lt.mpr z3)
end
section
variable {X:Cx}
def tListZip (K:PySem.W.Frag) (ta:TA):TE:=fun σ H Q=>ta σ H fun vs H1=>∃(l1 l2:Addr) (xs ys:List V),vs=[.ref l1,.ref l2]∧SqL K H1 l1 xs∧SqL K H1 l2 ys∧ys.length=xs.length ∧
 ∀L ts H',Same H1 H'->H1 L=none->H' L=some (.lst ts)->Paired (PrR H') (xs.zip ys) ts->Q (.ref L) H'
end
end L2
namespace Nm
end Nm
namespace L2
open PySem PySem.Spec PyProof.Rows Nm
def RowK (K:PySem.W.Frag) (H:Hp) (p:Addr) (ns:List (Int×Int)):Prop:=∃xs,H p=some (.lst xs)∧Paired (fun n x=>NumR K H x n) ns xs
theorem RowK.same {K:PySem.W.Frag} {H H':Hp} {p:Addr} {ns:List (Int×Int)} (h:RowK K H p ns) (e:Same H H'):RowK K H' p ns:=by obtain ⟨xs,g,q⟩:=h;exact ⟨xs,e _ _ g,Paired.imp' (fun _ _ z=>e.num z) q⟩
theorem RowK.kind {K:PySem.W.Frag} {H:Hp} {p:Addr} {ns:List (Int×Int)} (h:RowK K H p ns):kRow.R K H (.ref p) ns:=by obtain ⟨xs,g,q⟩:=h;exact ⟨p,xs,rfl,SqL.of g,q⟩
theorem rd_listZip {σ:St} {H:Hp} {Q:VK} {K:PySem.W.Frag} {ta:TA} (h:ta σ H fun vs H1=>∃(l1 l2:Addr) (xs ys:List V),vs=[.ref l1,.ref l2]∧SqL K H1 l1 xs∧SqL K H1 l2 ys∧ys.length=xs.length ∧
 ∀L ts H',Same H1 H'->H1 L=none->H' L=some (.lst ts)->Paired (PrR H') (xs.zip ys) ts->Q (.ref L) H'):tListZip K ta σ H Q:=h
def unitV (a0 a1:Addr) (at':Int) (m:Nat):List V:=(List.range m).map fun (i:Nat)=>if ((i:Nat):Int)=at' then V.ref a1 else V.ref a0
end L2
namespace L2
open PySem PySem.Spec PyProof.Rows Nm
theorem paired_map {α β γ:Type} {F:α->β->Prop} {f:γ->α} {g:γ->β}:∀{l:List γ},(∀i∈l,F (f i) (g i))->Paired F (l.map f) (l.map g)
 | [],_=>.nil
 | c :: r,h=>.cons (h c (.head _)) (paired_map fun i hi=>h i (.tail _ hi))
end L2
namespace L2
open PySem PySem.Spec PyProof.Rows Nm
theorem Same.none {H H':Hp} {l:Addr} (s:Same H H') (h:H' l=Option.none):H l=Option.none:=by
 cases e:H l with
 | none=>rfl
 | some o=>have:=s _ _ e;rw[h] at this;cases this
def GridK (K:PySem.W.Frag) (H:Hp) (p:Addr) (rows:List (List (Int×Int))):Prop:=∃xs,H p=some (.lst xs)∧Paired (fun ns x=>∃q,x=V.ref q∧RowK K H q ns) rows xs
theorem GridK.same {K:PySem.W.Frag} {H H':Hp} {p:Addr} {rows:List (List (Int×Int))} (h:GridK K H p rows) (e:Same H H'):GridK K H' p rows:=by obtain ⟨xs,g,q⟩:=h;exact ⟨xs,e _ _ g,Paired.imp' (fun _ _ ⟨q,a,b⟩=>⟨q,a,b.same e⟩) q⟩
def UGrid (a0 a1:Addr) (m:Nat) (H0 H:Hp) (i:Nat) (xs:List V):Prop:=Paired (fun (j:Nat) x=>∃q,x=V.ref q∧H0 q=none∧H q=some (.lst (unitV a0 a1 j m))) (List.range i) xs
theorem UGrid.same {a0 a1:Addr} {m:Nat} {H0 H H':Hp} {i:Nat} {xs:List V} (h:UGrid a0 a1 m H0 H i xs) (e:Same H H'):UGrid a0 a1 m H0 H' i xs:=Paired.imp' (fun _ _ ⟨q,a,b,c⟩=>⟨q,a,b,e _ _ c⟩) h
theorem Upto.none {H H':Hp} {b l:Addr} (u:Upto b H H') (B:Bag H' b) (h:H' l=Option.none):H l=Option.none:=by
 cases e:H l with
 | none=>rfl
 | some o =>
  by_cases z:l=b
  ·obtain ⟨_,_,_,_,_,e2,_⟩:=B
   rw[← z,h] at e2
   cases e2
  ·have:=u.1 l o e z
   rw[h] at this
   cases this
def GridH (H:Hp) (p:Addr) (rows:List (List (Int×Int))):Prop:=∃xs,H p=some (.lst xs)∧Paired (fun ns x=>∃q,x=V.ref q∧RowH H q ns) rows xs
theorem GridH.same {H H':Hp} {p:Addr} {rows:List (List (Int×Int))} (h:GridH H p rows) (e:Same H H'):GridH H' p rows:=by obtain ⟨xs,g,q⟩:=h;exact ⟨xs,e _ _ g,Paired.imp' (fun _ _ ⟨q,a,b⟩=>⟨q,a,b.same e⟩) q⟩
end L2
namespace Nm
def nm (q:Rat):Int×Int:=(q.num,(q.den:Int))
theorem nm_pos (q:Rat):0 < (nm q).2:=by have:=q.den_pos;show 0 < (q.den:Int);lia
theorem nm_gcd (q:Rat):Int.gcd (nm q).1 (nm q).2=1:=q.reduced
theorem nm_inj {p q:Rat} (h:nm p=nm q):p=q:=by
 have h1:p.num=q.num:=congrArg Prod.fst h
 have h2:(p.den:Int)=q.den:=congrArg Prod.snd h
 exact Rat.ext h1 (by lia)
theorem num_val (q : Rat) : (q.num : Rat) = q * (q.den : Rat) := by
  have h := Rat.num_divInt_den q
  rw [Rat.divInt_eq_div] at h
  have hd : ((q.den : Int) : Rat) ≠ 0 := by
    intro z
    have z := Rat.intCast_eq_zero_iff.mp z
    have := q.den_pos
    lia
  have e : ((q.den : Int) : Rat) = (q.den : Rat) := Rat.intCast_natCast _
  calc (q.num : Rat) = (q.num : Rat) / ((q.den : Int) : Rat) * ((q.den : Int) : Rat) := (Rat.div_mul_cancel hd).symm
    _ = q * (q.den : Rat) := by rw [h, e]
def Fr (M V:Nat) (q:Rat):Prop:=∃z:Int,q*(M:Rat)=(z:Rat)∧z.natAbs<=V*M
theorem Fr.mono {M V V':Nat} {q:Rat} (h:Fr M V q) (l:V<=V'):Fr M V' q:=by obtain ⟨z,e,b⟩:=h;exact ⟨z,e,Nat.le_trans b (Nat.mul_le_mul_right _ l)⟩
theorem Fr.add {M V W:Nat} {p q:Rat} (h:Fr M V p) (h':Fr M W q):Fr M (V+W) (p+q):=by
 obtain ⟨z,e,b⟩:=h
 obtain ⟨z',e',b'⟩:=h'
 refine ⟨z+z',by rw[Rat.intCast_add,← e,← e',Rat.add_mul],?_⟩
 rw[Nat.add_mul]
 have:=Int.natAbs_add_le z z'
 lia
theorem Fr.neg {M V:Nat} {q:Rat} (h:Fr M V q):Fr M V (-q):=by
 obtain ⟨z,e,b⟩:=h
 exact ⟨-z,by rw[Rat.intCast_neg,← e,Rat.neg_mul],by rw[Int.natAbs_neg];exact b⟩
theorem Fr.sub {M V W:Nat} {p q:Rat} (h:Fr M V p) (h':Fr M W q):Fr M (V+W) (p - q):=by rw[Rat.sub_eq_add_neg];exact h.add h'.neg
theorem Fr.mul {M N V W : Nat} {p q : Rat} (h : Fr M V p) (h' : Fr N W q) : Fr (M * N) (V * W) (p * q) := by
  obtain ⟨z, e, b⟩ := h
  obtain ⟨z', e', b'⟩ := h'
  refine ⟨z * z', ?_, ?_⟩
  · rw [Rat.natCast_mul, Rat.intCast_mul, ← e, ← e']; grind
  · rw [Int.natAbs_mul]
    calc z.natAbs * z'.natAbs ≤ (V * M) * (W * N) := Nat.mul_le_mul b b'
      _ = V * W * (M * N) := by rw [Nat.mul_assoc, Nat.mul_left_comm M, ← Nat.mul_assoc]
theorem Fr.zero {M V:Nat}:Fr M V 0:=⟨0,by simp,by simp⟩
theorem Fr.int {M V:Nat} {i:Int} (h:i.natAbs<=V):Fr M V (i:Rat):=⟨i*M,by rw[Rat.intCast_mul,Rat.intCast_natCast],by rw[Int.natAbs_mul,Int.natAbs_natCast];exact Nat.mul_le_mul_right _ h⟩
theorem Fr.one {M V:Nat} (h:1<=V):Fr M V 1:=Fr.int (i:=1) h
theorem Fr.den {M V:Nat} {q:Rat} (h:Fr M V q):(q.den:Int)∣(M:Int):=by
 obtain ⟨z,e,b⟩:=h
 have h1:q.num*(M:Int)=z*(q.den:Int):=by
  apply Rat.intCast_inj.mp
  rw[Rat.intCast_mul,Rat.intCast_mul,← e,num_val,Rat.intCast_natCast,Rat.intCast_natCast]
  grind
 have h2:(q.den:Int)∣q.num*(M:Int):=⟨z,by rw[h1,Int.mul_comm]⟩
 exact dvd_of_cop (by rw[Int.gcd_comm];exact nm_gcd q) h2
theorem Fr.den_le {M V:Nat} {q:Rat} (h:Fr M V q) (hM:0 < M):q.den<=M:=Nat.le_of_dvd hM (Int.natCast_dvd_natCast.mp h.den)
theorem Fr.num_le {M V:Nat} {q:Rat} (h:Fr M V q) (hM:0 < M):q.num.natAbs<=V*M:=by
 have hd:=h.den
 obtain ⟨z,e,b⟩:=h
 obtain ⟨k,hk⟩:=Int.natCast_dvd_natCast.mp hd
 have hk0:k≠0:=fun z=>by rw[z,Nat.mul_zero] at hk;lia
 have h1:z=q.num*(k:Int):=by
  apply Rat.intCast_inj.mp
  rw[Rat.intCast_mul,← e,num_val,Rat.intCast_natCast,hk,Rat.natCast_mul]
  grind
 rw[h1] at b
 exact Nat.le_trans (natAbs_mul_le (by lia)) b
theorem Fr.own (q:Rat) {V:Nat} (h:q.num.natAbs<=V):Fr q.den V q:=⟨q.num,(num_val q).symm,Nat.le_trans h (Nat.le_mul_of_pos_right _ q.den_pos)⟩
theorem Fr.sz {M V k j:Nat} {q:Rat} (h:Fr M V q) (hM:0 < M) (h1:M<=2^k) (h2:V<=2^j):Sz (j+k+1) (nm q).1∧Sz (k+1) (nm q).2:=by
 constructor
 ·show q.num.natAbs < 2^(j+k+1)
  have h3:=h.num_le hM
  have h4:V*M<=2^j*2^k:=Nat.mul_le_mul h2 h1
  rw[Nat.pow_succ,Nat.pow_add]
  have:=Nat.two_pow_pos (j+k)
  rw[Nat.pow_add] at this
  lia
 ·show (q.den:Int).natAbs < 2^(k+1)
  have h3:=h.den_le hM
  rw[Int.natAbs_natCast,Nat.pow_succ]
  have:=Nat.two_pow_pos k
  lia
theorem Fr.sum {M V:Nat}:∀{l:List Rat},(∀x∈l,Fr M V x)->Fr M (l.length*V) l.sum
 | [],_=>by simp;exact Fr.zero
 | x :: r,h=>by
  rw[List.sum_cons,List.length_cons,Nat.succ_mul,Nat.add_comm]
  exact (h x (.head _)).add (Fr.sum fun y hy=>h y (.tail _ hy))
def dotQ (xs ys:List Rat):Rat:=(List.zipWith (·*·) xs ys).sum
theorem Fr.dot {M N V W : Nat} {xs ys : List Rat} (h : ∀ x ∈ xs, Fr M V x) (h' : ∀ y ∈ ys, Fr N W y) : Fr (M * N) (xs.length * (V * W)) (dotQ xs ys) := by
  have q := Fr.sum (M := M * N) (V := V * W) (l := List.zipWith (· * ·) xs ys) fun z hz => by
    obtain ⟨i, hi, e⟩ := List.getElem_of_mem hz
    rw [List.getElem_zipWith] at e
    rw [← e]
    exact (h _ (List.getElem_mem _)).mul (h' _ (List.getElem_mem _))
  exact q.mono (Nat.mul_le_mul_right _ (by rw [List.length_zipWith]; lia))
end Nm
namespace Nm
def turnQ (rows:List (List Rat)) (w:Nat):List (List Rat):=(List.range w).map fun j=>rows.map fun xs=>xs.getD j 0
end Nm
namespace L2
open PySem PySem.Spec PyProof.Rows Nm
theorem Upto.sqt {K:PySem.W.Frag} {H H':Hp} {b a:Addr} {xs:List V} (u:Upto b H H') (B:Bag H b) (h:SqT K H a xs):SqT K H' a xs:=by
 rcases h with (h | ⟨o,h⟩) | h
 ·exact .inl (.inl (u.tup B h))
 ·exact .inl (.inr ⟨o,u.other (fun z=>by obtain ⟨_,_,_,_,_,e,_⟩:=B;rw[z,e] at h;cases h) h⟩)
 ·exact .inr h
def NumQ (K:PySem.W.Frag) (H:Hp) (q:Rat) (x:V):Prop:=NumR K H x (nm q)
section
variable {K:PySem.W.Frag} {H H':Hp} {q:Rat} {x:V} {b l p:Addr} {qs:List Rat}
theorem NumQ.same (h:NumQ K H q x) (e:Same H H'):NumQ K H' q x:=e.num h
theorem NumQ.upto (h:NumQ K H q x) (u:Upto b H H') (B:Bag H b):NumQ K H' q x:=by obtain ⟨p,e,s⟩:=h;exact ⟨p,e,u.sqt B s⟩
def RowQ (K:PySem.W.Frag) (H:Hp) (p:Addr) (qs:List Rat):Prop:=∃xs,H p=some (.lst xs)∧Paired (NumQ K H) qs xs
theorem RowQ.same (h:RowQ K H p qs) (e:Same H H'):RowQ K H' p qs:=by obtain ⟨xs,g,r⟩:=h;exact ⟨xs,e _ _ g,Paired.imp' (fun _ _ z=>z.same e) r⟩
theorem RowQ.upto (h:RowQ K H p qs) (u:Upto b H H') (B:Bag H b) (n:p≠b):RowQ K H' p qs:=by obtain ⟨xs,g,r⟩:=h;exact ⟨xs,u.other n g,Paired.imp' (fun _ _ z=>z.upto u B) r⟩
theorem RowQ.has (h:RowQ K H p qs):∃xs,H p=some (.lst xs)∧xs.length=qs.length:=by obtain ⟨xs,g,r⟩:=h;exact ⟨xs,g,r.length.symm⟩
def RowF (K:PySem.W.Frag) (H0 H:Hp) (qs:List Rat) (x:V):Prop:=∃q,x=V.ref q∧H0 q=none∧RowQ K H q qs
def GridQ (K:PySem.W.Frag) (H0 H:Hp) (p:Addr) (rows:List (List Rat)):Prop:=∃xs,H p=some (.lst xs)∧Paired (RowF K H0 H) rows xs∧V.ref p∉xs
variable {H0:Hp} {rows:List (List Rat)}
theorem RowF.same (h:RowF K H0 H qs x) (e:Same H H'):RowF K H0 H' qs x:=by obtain ⟨q,a,b,c⟩:=h;exact ⟨q,a,b,c.same e⟩
theorem RowF.upto (h:RowF K H0 H qs x) (u:Upto b H H') (B:Bag H b) (nb:H0 b≠none):RowF K H0 H' qs x:=by obtain ⟨q,a,c,d⟩:=h;exact ⟨q,a,c,d.upto u B fun z=>nb (by rw[← z];exact c)⟩
theorem GridQ.same (h:GridQ K H0 H p rows) (e:Same H H'):GridQ K H0 H' p rows:=by obtain ⟨xs,g,r,n⟩:=h;exact ⟨xs,e _ _ g,Paired.imp' (fun _ _ z=>z.same e) r,n⟩
theorem GridQ.upto (h:GridQ K H0 H p rows) (u:Upto b H H') (B:Bag H b) (n:p≠b) (nb:H0 b≠none):GridQ K H0 H' p rows:=by obtain ⟨xs,g,r,nn⟩:=h;exact ⟨xs,u.other n g,Paired.imp' (fun _ _ z=>z.upto u B nb) r,nn⟩
end
def kNumQ:Kind Rat:=kNum.via nm (fun _ _ e=>nm_inj e) (fun K H x q=>NumQ K H q x) id
def kRowQ:Kind (List Rat):=kLst kNumQ
def kGridQ:Kind (List (List Rat)):=kLst kRowQ
theorem RowQ.kind {K:PySem.W.Frag} {H:Hp} {p:Addr} {qs:List Rat} (h:RowQ K H p qs):kRowQ.R K H (.ref p) qs:=by obtain ⟨xs,g,q⟩:=h;exact ⟨p,xs,rfl,SqL.of g,q⟩
theorem GridQ.kind {K:PySem.W.Frag} {H0 H:Hp} {p:Addr} {rows:List (List Rat)} (h:GridQ K H0 H p rows):kGridQ.R K H (.ref p) rows:=by obtain ⟨xs,g,q,_⟩:=h;exact ⟨p,xs,rfl,SqL.of g,Paired.imp' (fun _ _ ⟨q,a,_,c⟩=>by rw[a];exact c.kind) q⟩
def SzN (x:Rat):Prop:=Sz 4000 (nm x).1∧Sz 4000 (nm x).2
def Fits (l:List Rat):Prop:=∃M V:Nat,0 < M∧M<=2^900∧V<=2^900∧∀x∈l,Fr M V x
theorem Fits.szn {l:List Rat} (h:Fits l) {x:Rat} (hx:x∈l):SzN x:=by
 obtain ⟨M,V,h0,h1,h2,h3⟩:=h
 obtain ⟨a,b⟩:=(h3 x hx).sz h0 h1 h2
 exact ⟨a.mono (by decide),b.mono (by decide)⟩
theorem Fits.ok {l:List Rat} (h:Fits l) {x:Rat} (hx:x∈l):NumOk (nm x):=⟨nm_pos x,nm_gcd x,(h.szn hx).1.mono (by decide),(h.szn hx).2.mono (by decide)⟩
section
variable {K:PySem.W.Frag} {vs:List V} {H:Hp} {Q:VK} {E:XK}
end
def GFits (rows:List (List Rat)):Prop:=∃M V:Nat,0 < M∧M<=2^300∧V<=2^100∧∀xs∈rows,∀x∈xs,Fr M V x
theorem GFits.turn {rows:List (List Rat)} (h:GFits rows) {w:Nat}:∀ys∈turnQ rows w,Fits ys:=fun ys hy=>by
 obtain ⟨M,V,h0,h1,h2,h3⟩:=h
 refine ⟨M,V,h0,Nat.le_trans h1 (Nat.pow_le_pow_right (by decide) (by decide)),Nat.le_trans h2 (Nat.pow_le_pow_right (by decide) (by decide)),fun y hy'=>?_⟩
 obtain ⟨j,_,rfl⟩:=List.mem_map.mp hy
 obtain ⟨xs,hx,rfl⟩:=List.mem_map.mp hy'
 by_cases hj:j < xs.length
 ·rw[List.getD_eq_getElem?_getD,List.getElem?_eq_getElem hj]
  exact h3 xs hx _ (List.getElem_mem hj)
 ·rw[List.getD_eq_getElem?_getD,List.getElem?_eq_none (by lia)]
  exact Fr.zero
section
variable {K:PySem.W.Frag} {a:Addr} {xs:List V} {g:TG} {tf:TT} {te:TE} {Q:VK} {σ₀:St} {H:Hp} {α β:Type}
end
section
variable {X:Cx}
theorem for_rangeN {n:Nat} {g:TG} {tb:TS} {D:Ends} {σ:St} {H:Hp} (Pv:Nat->St->Hp->Prop) (h0:Pv 0 σ H)
  (hs:∀(i:Nat) σ H,i < n->Pv i σ H->g (.int i) σ H fun σ2 H2=>tb { D with nx:=Pv (i+1),ct:=Pv (i+1),bk:=D.nx } σ2 H2) (hd:∀σ H,Pv n σ H->D.nx σ H) :
  ∃W:Nat->Nat->St->Hp->Prop,(∃m,W 0 m σ H)∧∀i m σ H,W i m σ H →
   ((Itr 0 n).stop i H∧D.nx σ H)∨((Itr 0 n).go i H∧∃N:St->Hp->Prop,(∀σ' H',N σ' H'->∃m',m' < m∧W (i+1) m' σ' H')∧∀x H',(Itr 0 n).yld i H x H'->g x σ H' fun σ2 H2=>tb { D with nx:=N,ct:=N,bk:=D.nx } σ2 H2) :=
 for_range (lo:=0) Pv h0 (fun i σ H hi p=>by rw[Int.zero_add];exact hs i σ H hi p) hd
end
theorem Fits.one {l:List Rat} (h:Fits l) {x:Rat} (hx:x∈l):Fits [x]:=by
 obtain ⟨M,V,h0,h1,h2,h3⟩:=h
 exact ⟨M,V,h0,h1,h2,fun y hy=>by rw[List.mem_singleton.mp hy];exact h3 x hx⟩
theorem Bag.at {H:Hp} {b:Addr} (B:Bag H b):H b≠none:=by obtain ⟨_,_,_,_,_,e,_⟩:=B;rw[e];simp
theorem Inner.at {H:Hp} {b q:Addr} (B:Bag H b) (i:Inner H b q):H q≠none:=by
 obtain ⟨q',i',xs,e⟩:=B.inner
 rw[← Inner.inj i' i,e];simp
section
variable {α β:Type} [DecidableEq α] [DecidableEq β] (k1:Kind α) (k2:Kind β)
end
theorem cmulS_l {i j:Int} (h1:-(2^64) < i) (h2:i < 2^64):CMulS i j:=.inl (.inl ⟨h1,h2⟩)
theorem cmulS_r {i j:Int} (h1:-(2^64) < j) (h2:j < 2^64):CMulS i j:=.inl (.inr ⟨h1,h2⟩)
theorem cpow_of {i j:Int} (h1:0<=j) (h2:j<=1000000) (h3:i.natAbs < 2^64):CPow i j:=⟨h1,h2,h3⟩
end L2
namespace L2
open PySem PySem.Spec PyProof.Rows
inductive DKp {α:Type}:Sem α->Prop
 | pure (a:α):DKp (.pure a)
 | raise (e:Value):DKp (.raise e)
 | uns (w:String):DKp (.unsupported w)
 | rule {t:String} {k:Unit->Sem α} (h:∀u,DKp (k u)):DKp (.rule t k)
 | load {a:Addr} {p:Option Value} {k:Obj->Sem α} (h:∀o,DKp (k o)):DKp (.load a p k)
 | update {a:Addr} {p:Option Value} {f:Obj->Obj} {k:Unit->Sem α} (hf:∀o,(f o).dict=o.dict) (h:∀u,DKp (k u)):DKp (.update a p f k)
 | alloc {o:Obj} {k:Addr->Sem α} (h:∀a,DKp (k a)):DKp (.alloc o k)
 | alive {a:Addr} {k:Option Obj->Sem α} (h:∀o,DKp (k o)):DKp (.loadIfAlive a k)
 | stack {k:List (Code×Pos)->Sem α} (h:∀l,DKp (k l)):DKp (.stack k)
 | reg {a:Addr} {k:Unit->Sem α}:DKp (.register a k)
 | ask {k:Setting->Sem α} (h:∀x,DKp (k x)):DKp (.ask k)
theorem DKp.bind {α β:Type} {m:Sem α} {f:α->Sem β} (hm:DKp m) (hf:∀a,DKp (f a)):DKp (m >>= f):=by
 show DKp (Sem.bind m f)
 induction hm with
 | pure a=>exact hf a
 | raise e=>exact .raise e
 | uns w=>exact .uns w
 | rule _ ih=>exact .rule fun u=>ih u
 | load _ ih=>exact .load fun u=>ih u
 | update hg _ ih=>exact .update hg fun u=>ih u
 | alloc _ ih=>exact .alloc fun u=>ih u
 | alive _ ih=>exact .alive fun u=>ih u
 | stack _ ih=>exact .stack fun u=>ih u
 | reg=>exact .reg
 | ask _ ih=>exact .ask fun u=>ih u
def DicAt (e:Addr) (d:Option Addr) (h:Heap):Prop:=e < h.objs.size∧∀o,h.objs[e]?=some o->o.dict=d
theorem DicAt.get {e:Addr} {d:Option Addr} {h:Heap} (x:DicAt e d h) {o:Obj} (q:h.get? e=some o):o.dict=d:=by
 unfold Heap.get? at q
 split at q
 ·cases q
 ·exact x.2 o q
theorem DicAt.of {e:Addr} {h:Heap} {o:Obj} (q:h.get? e=some o):DicAt e o.dict h:=by
 refine ⟨Heap.lt_size q,fun o' q'=>?_⟩
 unfold Heap.get? at q
 split at q
 ·cases q
 ·rw[q'] at q;cases q;rfl
theorem DicAt.update {e a:Addr} {d:Option Addr} {h:Heap} {f:Obj->Obj} (x:DicAt e d h) (hf:∀o,(f o).dict=o.dict):DicAt e d (h.update a f):=by
 obtain ⟨objs,l⟩:=h
 refine ⟨by show e < (objs.modify a f).size;rw[Array.size_modify];exact x.1,fun o q=>?_⟩
 have q:(objs.modify a f)[e]?=some o:=q
 rw[Array.getElem?_modify] at q
 split at q
 ·obtain ⟨o',q',rfl⟩:=Option.map_eq_some_iff.mp q
  rw[hf];exact x.2 o' q'
 ·exact x.2 o q
theorem DicAt.push {e:Addr} {d:Option Addr} {h:Heap} {o:Obj} (x:DicAt e d h):DicAt e d (h.push o):=by
 obtain ⟨objs,l⟩:=h
 refine ⟨by show e < (objs.push o).size;rw[Array.size_push];exact Nat.lt_succ_of_lt x.1,fun o' q=>?_⟩
 have q:(objs.push o)[e]?=some o':=q
 rw[Array.getElem?_push,if_neg (Nat.ne_of_lt x.1)] at q
 exact x.2 o' q
section
variable {M:Model} {e:Addr} {d:Option Addr}
theorem wp_dict {α:Type} {Γ:PySem.Ctx} {t:Sem α} (ht:DKp t) {Q:α->Pos->Shared->Prop} {E:Value->Pos->Shared->Prop}:∀{p:Pos} {s:Shared},Sem.wp M Γ t Q E p s->DicAt e d s.heap →
  Sem.wp M Γ t (fun a p s'=>Q a p s'∧DicAt e d s'.heap) (fun v p s'=>E v p s'∧DicAt e d s'.heap) p s:=by
 induction ht with
 | pure a=>exact fun h x=>⟨h,x⟩
 | raise v=>exact fun h x=>⟨h,x⟩
 | uns w=>exact fun h _=>h
 | reg=>exact fun h _=>h
 | rule _ ih=>exact fun h x=>ih () h x
 | load _ ih=>exact fun ⟨o,ho,h⟩ x=>⟨o,ho,ih o h x⟩
 | update hf _ ih=>exact fun ⟨ha,h⟩ x=>⟨ha,ih () h (x.update hf)⟩
 | alloc _ ih=>exact fun h x=>ih _ h x.push
 | alive _ ih=>exact fun h x=>ih _ h x
 | stack _ ih=>exact fun h x=>ih _ h x
 | ask _ ih=>exact fun h x=>ih _ h x
theorem wpAny_dict {α:Type} {A:Around} {t:Sem α} (ht:DKp t) {Q:α->Shared->Prop} {E:Value->Shared->Prop} {s:Shared} (h:wpAny M A t Q E s) (x:DicAt e d s.heap) :
  wpAny M A t (fun a s'=>Q a s'∧DicAt e d s'.heap) (fun v s'=>E v s'∧DicAt e d s'.heap) s:=fun Γ p hΓ=>wp_dict ht (h Γ p hΓ) x
end
theorem dk_ld (a:Addr) (p:Option Value):DKp (Sem.load a p Sem.pure):=.load fun o=>.pure o
theorem dk_fieldsOf (v:Value):DKp (fieldsOf v):=by
 unfold fieldsOf
 cases v <;> try exact .uns _
 refine DKp.bind (dk_ld _ _) fun o=>?_
 cases o.data <;> first | exact .pure _ | exact .uns _
theorem dk_field (v:Value) (i:Nat):DKp (field v i):=by
 unfold field
 refine DKp.bind (dk_fieldsOf v) fun vs=>?_
 split
 ·exact .pure _
 ·exact .uns _
theorem mapFields_dict (f:Array Value->Array Value) (o:Obj):(o.mapFields f).dict=o.dict:=by
 obtain ⟨c,d,dt,sl⟩:=o
 cases dt <;> rfl
theorem dk_setField (v:Value) (i:Nat) (x:Value):DKp (setField v i x):=by
 unfold setField
 cases v <;> try exact .uns _
 show DKp (updateField _ i x)
 unfold updateField
 refine DKp.bind (dk_ld _ _) fun o=>?_
 cases o.data <;> try exact .uns _
 dsimp only
 split
 ·exact .update (fun o=>mapFields_dict _ o) fun u=>.pure u
 ·exact .uns _
theorem dk_setFlight (e:Value) (f:Option Addr):DKp (setFlight e f):=by
 unfold setFlight
 refine DKp.bind (dk_field e 1) fun tb=>?_
 split
 ·exact dk_setField _ _ _
 ·exact .pure _
theorem dk_behind (env:Env) (l:List Env):DKp (behindIsImport env l):=by
 unfold behindIsImport
 split
 ·exact .pure _
 ·split
  ·exact .pure _
  ·exact DKp.bind (dk_field _ _) fun _=>.pure _
theorem dk_kept (env:Env) (b:Bool):∀l:List Env,DKp (keptBack env b l)
 | []=>by
  simp only[keptBack]
  split
  ·exact .pure _
  ·refine DKp.bind ?_ fun _=>.pure _
   unfold underTheClaimsCaller
   exact DKp.bind (.stack fun l=>.pure l) fun _=>.pure _
 | _ :: _=>.pure _
theorem dk_ready:∀l:List Env,DKp (readyFrames l)
 | []=>.pure _
 | env :: outer=>by
  unfold readyFrames
  split
  ·refine DKp.bind (dk_ld _ _) fun o=>?_
   split
   ·exact .pure _
   ·refine DKp.bind (dk_behind _ _) fun b=>DKp.bind (dk_kept _ _ _) fun v=>DKp.bind (.update (fun _=>rfl) fun u=>.pure u) fun _=>dk_ready outer
  ·exact .uns _
theorem dk_frameOf (env:Env):DKp (PySem.frameOf env):=by
 unfold PySem.frameOf
 refine DKp.bind (DKp.bind (.stack fun l=>.pure l) fun _=>.pure _) fun l=>DKp.bind ?_ fun o=>?_
 ·unfold frameObject
  split
  ·exact .pure _
  ·exact DKp.bind (dk_ready _) fun _=>.pure _
 ·cases o
  ·exact .uns _
  ·exact .pure _
theorem dk_place (f:Addr) (b:Bool):DKp (entryPlaceOf f b):=by
 unfold entryPlaceOf
 refine DKp.bind (.stack fun l=>.pure l) fun l=>?_
 split <;> exact .pure _
theorem dk_entry (a b c d e:Value) (l:List Value):DKp (EntryCells.newEntry a b c d e l):=by
 unfold EntryCells.newEntry newFields
 generalize ([a,b,c,d,e]++if l.isEmpty then List.replicate 6 Value.none else l).toArray=vs
 have fin:DKp (newObjAsIs (.type "traceback") (.fields vs)):=DKp.bind (.alloc fun a=>.pure a) fun _=>.pure _
 unfold newObj
 dsimp only
 split
 ·exact DKp.bind (.uns _) fun _=>fin
 ·exact fin
theorem dk_note (e : Value) (env : Env) : DKp (noteFrame e env) := by
  unfold noteFrame
  split
  · refine DKp.bind (dk_field e 1) fun h => ?_
    have last : ∀ f : Addr, DKp (do setField e 1 (← EntryCells.newEntry h (← PySem.frameOf env) .none (rawInt f) .none (← entryPlaceOf f (h != .none)))) := fun f =>
      DKp.bind (dk_frameOf env) fun _ => DKp.bind (dk_place _ _) fun _ => DKp.bind (dk_entry _ _ _ _ _ _) fun _ => dk_setField _ _ _
    split
    · refine DKp.bind (dk_field _ _) fun v => ?_
      split
      · exact .pure _
      · exact DKp.bind (dk_setField _ _ _) fun _ => last _
    · exact last _
  · exact .uns _
theorem dk_leaving (env:Env) (e:Value):DKp (leaving env e):=DKp.bind (dk_note e env) fun _=>dk_setFlight e none
end L2
namespace L2
open PySem PySem.Spec PyProof.Rows
theorem ObjOk.there {P:Program} {w:World} {H:Hp} {h:Heap} {a:Addr} {o:HO} (x:ObjOk P w H h a o):∃u,h.get? a=some u:=by
 cases o with
 | lst xs=>obtain ⟨_,_,_,_,e⟩:=x;exact ⟨_,e⟩
 | tup xs=>obtain ⟨_,_,_,o,e,_⟩:=x;exact ⟨_,e⟩
 | dK kvs=>obtain ⟨_,_,_,_,o,_,_,e,_⟩:=x;exact ⟨_,e⟩
 | dT kvs=>obtain ⟨_,_,_,_,o,_,_,e,_⟩:=x;exact ⟨_,e⟩
 | set S n=>obtain ⟨o,_,_,_,e,_⟩:=x;exact ⟨_,e⟩
 | ins C dx fs=>obtain ⟨_,_,_,e,_⟩:=x;exact ⟨_,e⟩
 | own y=>exact x
 | xd fs=>obtain ⟨_,⟨_,_,_,e,_⟩,_⟩:=x;exact ⟨_,e⟩
 | rng lo hi=>obtain ⟨_,_,_,e⟩:=x;exact ⟨_,e⟩
 | frz ob u=>obtain ⟨e,_⟩:=x;exact ⟨_,e⟩
 | tbl ps=>exact ⟨_,(show h.get? a=some _ from x)⟩
 | met f y=>exact ⟨_,(show h.get? a=some _ from x)⟩
 | ext φ=>exact x.2.1
section
variable {P:Program} {w:World} {fs:List Addr} {H H1 H2:Hp} {h0 h1 h2 B:Heap}
theorem fly_un (U:Un fs [] H H1 h0 h1) (ok:HOk P w H1 h1) (hB1:B.StaysIn h1) (hB2:B.StaysIn h2) (up:h1.UpToSlots h2)
  (c1:∀b u,H1 b=some u->∃o,B.get? b=some o) (c2:∀b o,h0.get? b=some o->b∉fs->∃o',B.get? b=some o')
  (hf:∀b∈fs,H b=none) (hd:∀b∈fs,∀o,h0.get? b=some o->∀vs,o.data≠.fields vs):Un fs [] H H1 h0 h2∧HOk P w H1 h2:=by
 have same:∀b o,h1.get? b=some o->(∃o',B.get? b=some o')->h2.get? b=some o:=fun b o e ⟨o',eb⟩=>by
  have z:=hB1 _ _ eb
  rw[e] at z;cases z
  exact hB2 _ _ eb
 have slot:∀b o,h0.get? b=some o->b∈fs->∃sl,h2.get? b=some { o with slots:=sl }:=fun b o e hb=>by
  obtain ⟨sl,e1⟩:=U.slot b o e (hf b hb) hb (by simp)
  obtain ⟨sl2,e2⟩:=up b _ e1 (hd b hb o e)
  exact ⟨sl2,e2⟩
 refine ⟨⟨fun b o e n hb hx=>same b o (U.keep b o e n hb hx) (c2 b o e hb),fun b o e n hb _=>slot b o e hb,U.free,fun b o e hx=>?_,U.tups,U.frzs,U.tbls⟩,fun a o e=>?_⟩
 ·by_cases hb:b∈fs
  ·obtain ⟨sl,q⟩:=slot b o e hb;exact ⟨_,q⟩
  ·obtain ⟨o',q⟩:=c2 b o e hb;exact ⟨o',hB2 _ _ q⟩
 ·refine (ok a o e).stay (fun b u hb q=>same b u q ?_) (fun _ q=>q) fun _ _ q=>q
  rcases hb with z | z
  ·rw[z];exact c1 a o e
  ·exact c1 b _ z
theorem Un.inner {L:Addr} (a:Un fs [] H H1 h0 h1) (b:Un (L :: fs) [] H1 H2 h1 h2) (hL:h0.get? L=none):Un fs [] H H2 h0 h2 where
 keep:=fun c o q n hc hx=>b.keep c o (a.keep c o q n hc hx) (a.free c o q n hx) (fun z=>(List.mem_cons.mp z).elim (fun e=>by rw[e,hL] at q;cases q) hc) hx
 slot:=fun c o q n hc hx=>by
  obtain ⟨sl,e1⟩:=a.slot c o q n hc hx
  obtain ⟨sl',e2⟩:=b.slot c _ e1 (a.free c o q n hx) (List.mem_cons_of_mem _ hc) hx
  exact ⟨sl',e2⟩
 free:=fun c o q n hx=>by
  obtain ⟨o',e1⟩:=a.there c o q hx
  exact b.free c o' e1 (a.free c o q n hx) hx
 there:=fun c o q hx=>by
  obtain ⟨o',e1⟩:=a.there c o q hx
  exact b.there c o' e1 hx
 tups:=fun c xs q=>b.tups c xs (a.tups c xs q)
 frzs:=fun c o xs q=>b.frzs c o xs (a.frzs c o xs q)
 tbls:=fun c ps q=>by
  obtain ⟨m1,e1⟩:=a.tbls c ps q
  obtain ⟨m2,e2⟩:=b.tbls c _ e1
  exact ⟨m1++m2,by rw[e2,Array.append_assoc]⟩
end
structure Fly0 (P:Program) (w:World) (outer:List Env) (H:Hp) (s:Shared) (H':Hp) (ea t:Addr) (cls:Value) (B:Heap) (s':Shared):Prop where
 os:s'.os=s.os
 bare:AllBare s'.gens
 un:Un (frs outer) [] H H' s.heap s'.heap
 hok:HOk P w H' s'.heap
 fly:Heap.FlyingW B outer ea cls (.ref t) s'.heap
 c1:∀b u,H' b=some u->∃o,B.get? b=some o
 c2:∀b o,s.heap.get? b=some o->b∉frs outer->∃o',B.get? b=some o'
structure Fly (P:Program) (w:World) (outer:List Env) (H:Hp) (s:Shared) (H':Hp) (ea t:Addr) (cls:Value) (dx:Option Addr) (B:Heap) (s':Shared):Prop extends Fly0 P w outer H s H' ea t cls B s' where
 dct:DicAt ea dx s'.heap
def CXE (P:Program) (w:World):CXT:=fun outer H s E e s'=>∃ea t cls dx H' B,e=.ref ea∧Fly P w outer H s H' ea t cls dx B s'∧E cls dx H'
section
variable {P:Program} {w:World} {K:PySem.W.Frag} {mg:Str->Option Value} {base:Heap} {N:List Str} {qual:Str} {scope:Scope} {f:Addr} {cd:Value} {A:Around} {outer:List Env} {s:Shared} {H:Hp} {E:XK}
theorem frs_cons {env:Env} {L:Addr} (hf:env.frame=some L):frs (env :: outer)=L :: frs outer:=by unfold frs;rw[List.filterMap_cons,hf]
theorem xe_throw {pins:List (Addr×Obj)} {σ:St} {H1:Hp} {s1:Shared} {h':Heap} {e:Addr} {cls:Value} {vs:List Value} (I:Inv (cxOf (CXE P w) P w K mg base N qual scope f cd A outer s H E) pins σ H1 s1)
  (hx:Heap.MadeExcOf s1.heap h' e cls vs) (hE:E cls none H1):(cxOf (CXE P w) P w K mg base N qual scope f cd A outer s H E).xe (.ref e) { s1 with heap:=h' }:=by
 have hfr:(A.deeper (envOfC qual scope s.heap.objs.size f cd)).frames=some (envOfC qual scope s.heap.objs.size f cd :: outer):=I.ok.frames
 have hstk:s1.heap.FunFrames base (envOfC qual scope s.heap.objs.size f cd :: outer):=I.stack
 have nL:∀b o,s.heap.get? b=some o->b≠s.heap.objs.size:=fun b o q=>Nat.ne_of_lt (Heap.lt_size q)
 have hD:DicAt e none h':=by
  obtain ⟨t,q,_⟩:=hx.there
  exact DicAt.of q
 refine wpAny_mono (wpAny_dict (e:=e) (d:=none) (dk_leaving _ _) (wpAny_leaves_madeW (E:=fun _ _=>False) (Q:=fun _ s2=>∃t,Fly0 P w outer H s H1 e t cls (PySem.W.hideAll s1.heap (frs (envOfC qual scope s.heap.objs.size f cd :: outer))) s2)
  (base:=PySem.W.hideAll s1.heap (frs (envOfC qual scope s.heap.objs.size f cd :: outer))) (h:=s1.heap) (L:=s.heap.objs.size) hfr rfl (fun b o q=>PySem.W.of_hideAll _ q)
  (PySem.W.funFrames_hide hstk fun env he b hb=>List.mem_filterMap.mpr ⟨env,he,hb⟩) hx fun h2 t x1 x2 x3 x4=>?_) hD) (fun _ s2 ⟨⟨t,F⟩,dc⟩=>⟨e,t,cls,none,H1,_,rfl,⟨F,dc⟩,hE⟩) (fun _ _ z=>z.1.elim)
 have c1:∀b u,H1 b=some u->∃o,(PySem.W.hideAll s1.heap (frs (envOfC qual scope s.heap.objs.size f cd :: outer))).get? b=some o:=fun b u q=>by
  obtain ⟨o,e⟩:=(I.hok b u q).there
  exact ⟨o,PySem.W.hideAll_get _ e fun z=>by
   have:=I.stkFree b z
   rw[q] at this;cases this⟩
 have c2:∀b o,s.heap.get? b=some o->b∉frs outer->∃o',(PySem.W.hideAll s1.heap (frs (envOfC qual scope s.heap.objs.size f cd :: outer))).get? b=some o':=fun b o q hb=>by
  obtain ⟨o',e⟩:=I.base.there b o q (List.not_mem_nil)
  refine ⟨o',PySem.W.hideAll_get _ e fun z=>?_⟩
  rw[frs_cons (L:=s.heap.objs.size) rfl] at z
  rcases List.mem_cons.mp z with z | z
  ·exact nL b o q z
  ·exact hb z
 have hU:Un (frs outer) [] H H1 s.heap s1.heap:=I.base
 obtain ⟨U2,ok2⟩:=fly_un hU I.hok (fun b o q=>PySem.W.of_hideAll _ q) x1.1 ((Heap.UpToSlots.of_keeps hx.keeps).trans x4) c1 c2 I.ok.frf (fun b hb o q=>by
  obtain ⟨_,o',e',d⟩:=I.ok.funs.mem hb
  have e':s.heap.get? b=some o':=e'
  rw[q] at e';cases e';exact d)
 exact ⟨t,I.os,I.bare,U2,ok2,x1,c1,c2⟩
end
def Throws (X:Cx) (E:XK):Prop:=∀(pins:List (Addr×Obj)) (σ:St) (H:Hp) (s:Shared) (h':Heap) (e:Addr) (cls:Value) (vs:List Value),Inv X pins σ H s->Heap.MadeExcOf s.heap h' e cls vs->E cls none H->X.xe (.ref e) { s with heap:=h' }
theorem throws_def {P:Program} {w:World} {K:PySem.W.Frag} {mg:Str->Option Value} {base:Heap} {N:List Str} {qual:Str} {scope:Scope} {f:Addr} {cd:Value} {A:Around} {outer:List Env} {s:Shared} {H:Hp} {E:XK} :
  Throws (cxOf (CXE P w) P w K mg base N qual scope f cd A outer s H E) E:=fun _ _ _ _ _ _ _ _ I hx hE=>xe_throw I hx hE
def tRaise (C:Addr) (E:XK):TS:=fun _ _ H=>E (.ref C) none H
abbrev vErr:List Value:=[.type "ValueError",.type "Exception",.type "BaseException",.type "object"]
theorem exc_obj {K:PySem.W.Frag} {C:Addr} {h:Heap} (X':K.In h) (hk:PySem.W.excIn K C vErr "ValueError.__new__"=true) :
  ∃bm N nm q bs hdct sn sub ab col dd k0 k1 k2 k3 k5 mN,h.get? C=some (excClassObj nm q C N bs bm hdct sn sub ab col dd k0 k1 k2 k3 k5 "ValueError.__new__")∧h.Ns N mN∧mN "__init__"=none∧OwnTail h vErr bm:=by
 unfold PySem.W.excIn at hk
 split at hk
 ·rename_i dd cd sl ho
  split at hk
  ·rename_i C' bm k0 k1 k2 k3 n k5 hm hs
   simp only[Bool.and_eq_true,beq_iff_eq,Bool.not_eq_true'] at hk
   obtain ⟨⟨⟨⟨⟨rfl,rfl⟩,hdel⟩,ht⟩,hok⟩,hni⟩:=hk
   obtain ⟨nm,bs,mro,ns,qn,hd',sn,sub,ab,col,del⟩:=cd
   dsimp only at hm hdel hok hni
   subst hm hdel
   have hsl:sl=#[k0,k1,k2,k3,some (.builtin "ValueError.__new__"),k5]:=by
    obtain ⟨l⟩:=sl
    simp only at hs
    rw[hs]
   subst hsl
   exact ⟨bm,ns,nm,qn,bs,hd',sn,sub,ab,col,dd,k0,k1,k2,k3,k5,_,X' _ _ ho,.of_isNs (PySem.W.isNs_of_in X' hok),PySem.W.nsMap_none_of_in X' hok hni,PySem.W.tail_of_in X' ht⟩
  ·cases hk
 ·cases hk
theorem ps_raise0 {X:Cx} {E:XK} {x:Str} {C:Addr} {np cpos pos:Pos} (hx:Throws X E) (hc:X.calm=true) (hg:Gl X x) (hm:X.mg x=some (.ref C)) (hk:PySem.W.excIn X.K C vErr "ValueError.__new__"=true)
  (hd:(x == ("__debug__":Str))=false:=by decide):PS X (.Raise (some (.Call (.Name x np) [] [] cpos)) none pos) (tRaise C E):=by
 intro pins s σ H D I h
 have O:=exc_obj I.kIn hk
 obtain ⟨tl,N,nm,q,bs,hdct,sn,sub,ab,col,dd,k0,k1,k2,k3,k5,mN,hC,hN,hni,T⟩:=O
 refine wpAny_Raise_call_subT (C:=C) (nm:=nm) (q:=q) (N:=N) (bs:=bs) (bm:=tl) (hdct:=hdct) (sn:=sn) (sub:=sub) (ab:=ab) (col:=col) (dd:=dd) (k0:=k0) (k1:=k1) (k2:=k2) (k3:=k3) (k5:=k5)
  PySem.F.excBase_ValueError (mN:=mN) (T.hasType PySem.F.excBase_ValueError.hasBase) (I.ok.hd hc) rfl hni (ld_glob I hg hm ⟨rfl,?_⟩ hd)
 exact evalArgs_empty ⟨rfl,Nat.zero_le _,hC,hN,T,fun h' e hm=>hx pins σ H s h' e _ _ I hm h⟩
end L2
namespace L2
open PySem PySem.Spec PyProof.Rows
abbrev Cx.tr (X:Cx) (pn:List (Addr×Obj)) (xe:Value->Shared->Prop):Cx:={ X with pn:=pn,xe:=xe }
abbrev Cx.sm (X:Cx) (ea:Addr):Cx:={ X with A:=X.A.mark (some (.ref ea)),calm:=false,xe:=fun _ _=>False }
section
variable {X:Cx} {pins:List (Addr×Obj)} {σ:St} {H H':Hp} {s:Shared}
theorem Inv.tr (I:Inv X pins σ H s) (xe:Value->Shared->Prop):Inv (X.tr (X.pn++pins) xe) [] σ H s :=
 ⟨⟨I.ok.mod,I.ok.kind,I.ok.glob,I.ok.blt,I.ok.above,I.ok.inj,I.ok.has,I.ok.cab,I.ok.hd,I.ok.frames,I.ok.stk,I.ok.exf,I.ok.bs,I.ok.bsz,I.ok.noex,I.ok.exfs,I.ok.funs,I.ok.frf⟩,
  I.os,I.bare,I.base,I.loc,I.cell,I.free,I.freeC,fun p hp=>I.pin p (by simpa using hp),I.hok,I.len⟩
theorem Inv.untr {ps:List (Addr×Obj)} {xe:Value->Shared->Prop} (I:Inv (X.tr (X.pn++pins) xe) ps σ H s):Inv X pins σ H s :=
 ⟨⟨I.ok.mod,I.ok.kind,I.ok.glob,I.ok.blt,I.ok.above,I.ok.inj,I.ok.has,I.ok.cab,I.ok.hd,I.ok.frames,I.ok.stk,I.ok.exf,I.ok.bs,I.ok.bsz,I.ok.noex,I.ok.exfs,I.ok.funs,I.ok.frf⟩,
  I.os,I.bare,I.base,I.loc,I.cell,I.free,I.freeC,fun p hp=>I.pin p (List.mem_append_left _ hp),I.hok,I.len⟩
theorem Inv.sm (I:Inv X pins σ H s) (ea:Addr):Inv (X.sm ea) pins σ H s :=
 ⟨⟨I.ok.mod,I.ok.kind,I.ok.glob,I.ok.blt,I.ok.above,I.ok.inj,I.ok.has,I.ok.cab,fun z=>Bool.noConfusion z,I.ok.frames,I.ok.stk,I.ok.exf,I.ok.bs,I.ok.bsz,I.ok.noex,I.ok.exfs,I.ok.funs,I.ok.frf⟩,
  I.os,I.bare,I.base,I.loc,I.cell,I.free,I.freeC,I.pin,I.hok,I.len⟩
theorem Inv.forget {ea:Addr} {h':Heap} {m':Str->Option Value} {t':Nat} (ok:X.Ok) (I:Inv (X.sm ea) pins σ H s) (hn:h'.Ns X.env.locals m') (hs:Heap.SameBut X.env.locals s.heap h') :
  Inv X pins (List.replicate X.N.length none) H { s with heap:=h',toks:=t' }:=by
 have neL:∀b o,X.s₀.heap.get? b=some o->b≠X.env.locals:=fun b o e=>Nat.ne_of_lt (Nat.lt_of_lt_of_le (Heap.lt_size e) ok.above)
 refine ⟨ok,I.os,I.bare,⟨fun b o e n hb hx=>(hs.2 b (neL b o e)).trans (I.base.keep b o e n hb hx),fun b o e n hb hx=>?_,I.base.free,fun b o e hx=>?_,I.base.tups,I.base.frzs,I.base.tbls⟩,⟨m',hn,fun i x v e1 e2 e3=>?_⟩,fun x c e=>?_,I.free,I.freeC,fun p hp=>?_,fun b u e=>?_,List.length_replicate⟩
 ·obtain ⟨sl,e1⟩:=I.base.slot b o e n hb hx
  exact ⟨sl,(hs.2 b (neL b o e)).trans e1⟩
 ·obtain ⟨o',e1⟩:=I.base.there b o e hx
  exact ⟨o',(hs.2 b (neL b o e)).trans e1⟩
 ·rw[List.getElem?_replicate] at e2
  split at e2 <;> cases e2
 ·obtain ⟨v,z⟩:=I.cell x c e
  exact ⟨v,z.sameBut hs (I.cne x c e)⟩
 ·obtain ⟨e,n,ne,nf,d⟩:=I.pin p hp
  exact ⟨(hs.2 p.1 ne).trans e,n,ne,nf,d⟩
 ·have fr:H X.env.locals=none:=I.free
  refine (I.hok b u e).stay (fun c v hc q=>(hs.2 c ?_).trans q) (fun _ q=>q) fun _ _ q=>q
  rintro rfl
  rcases hc with z | z
  ·rw[← z,fr] at e;cases e
  ·rw[fr] at z;cases z
theorem Inv.trackO {a:Addr} {o:HO} (I:Inv X pins σ H s) (hn:H a=none) (new:ObjOk X.prog X.w (upd H a o) s.heap a o) (n0:X.s₀.heap.get? a=none) (nL:a≠X.env.locals) (nC:∀x c,X.env.cells.lookup x=some c->c≠a)
  (nP:∀p∈X.pn++pins,p.1≠a):Inv X pins σ (upd H a o) s:=by
 have ne:∀b u,H b=some u->b≠a:=fun b u q=>ne_of_none q hn
 refine ⟨I.ok,I.os,I.bare,⟨I.base.keep,I.base.slot,fun b ob e n hx=>?_,I.base.there,fun b xs q=>?_,fun b ob u q=>?_,fun b ps q=>?_⟩,I.loc,I.cell,?_,fun x c e=>?_,fun p hp=>?_,fun b u e=>?_,I.len⟩
 ·rw[upd_ne (fun z=>by rw[z,n0] at e;cases e)];exact I.base.free b ob e n hx
 ·have q':=I.base.tups b xs q
  rw[upd_ne (ne _ _ q')];exact q'
 ·have q':=I.base.frzs b ob u q
  rw[upd_ne (ne _ _ q')];exact q'
 ·obtain ⟨m,q'⟩:=I.base.tbls b ps q
  exact ⟨m,by rw[upd_ne (ne _ _ q')];exact q'⟩
 ·rw[upd_ne (Ne.symm nL)];exact I.free
 ·rw[upd_ne (nC x c e)];exact I.freeC x c e
 ·obtain ⟨e,n,r⟩:=I.pin p hp
  exact ⟨e,by rw[upd_ne (nP p hp)];exact n,r⟩
 ·by_cases hb:b=a
  ·subst hb;rw[upd_same] at e;cases e;exact new
  ·rw[upd_ne hb] at e
   exact (I.hok b u e).stay (fun c v _ q=>q) (fun c q=>by rw[upd_ne (ne _ _ q)];exact q) fun c xs q=>by rw[upd_ne (ne _ _ q)];exact q
end
def exO (a:Addr) (cls:Value) (dx:Option Addr):HO:=.ext fun h=>∃o vs,h.get? a=some o∧o.cls=cls∧o.data=.fields vs∧o.dict=dx
def PassesS (CX:CXT) (X:Cx) (E:St->XK):Prop:=∀(pins:List (Addr×Obj)) (σ:St) (H:Hp) (s:Shared) (e:Value) (s':Shared),Inv X pins σ H s->CX X.stack H s (E σ) e s'->X.xe e s'
def tCallX (sp:Sp) (dvs:List V) (E:St->XK) (t:TA):TE:=fun σ H Q=>t σ H fun vs H1=>sp (vs++dvs) H1 Q (E σ)
section
variable {X:Cx} {CX:CXT} {k:Nat} {f C:Addr} {fd:FuncData} {ps:List Str} {sp:Sp} {dvs:List V} {ds:List Value} {E:St->XK} {x n:Str} {p pos hpos np:Pos} {e:Expr} {es:List Expr} {t:TA}
theorem pe_callX (F:FnOk X.prog X.w X.K X.mg X.base CX k f fd ps sp) (hr:Room k X.A) (hg:Gl X x) (hm:X.mg x=some (.ref f)) (hk:PySem.W.keepIn X.K (.ref f)=true) (hb:Binds X.K fd ps ds) (hd:Vals dvs ds) (hx:PassesS CX X E)
  (ha:PA X (e :: es) t) (hdb:(x == ("__debug__":Str))=false:=by decide) (he:starEach (e :: es) X.env=(false,eval e X.env) :: starEach es X.env:=by rfl) (hpl:(backTo pos (starEach es X.env)).any (·.1)=false:=by rfl) :
  PE X (.Call (.Name x p) (e :: es) [] pos) (tCallX sp dvs E t):=by
 intro pins s σ H Q I h
 refine wpAny_Call_Name_kw (ld_glob I hg hm ?_ hdb)
 refine PySem.W.callWith_K (h₀:=X.base) I.ok.mod.kin hk (thn (ha pos pins s σ H _ I h) fun us s1 ⟨vs,H1,I1,r,q⟩=>⟨I1.kIn,?_⟩) he hpl
 have r2:Vals (vs++dvs) (us++ds):=r.append hd
 have hl:(us++ds).length=ps.length:=by rw[← r2.length];exact F.len _ _ _ _ q
 refine wpAny_call (codeAny_mono (F.run X.A X.stack s1 H1 ⟨us,[]⟩ (us++ds) (vs++dvs) Q (E σ) hr I1.env0 (hb s1 us I1.kIn hl) r2 q) fun r s' hq=>?_)
 cases r with
 | error e=>exact hx pins σ H1 s1 e s' I1 hq
 | ok fl =>
  cases fl with
  | ret u=>exact I1.after hq
  | next=>exact False.elim hq
  | brk=>exact False.elim hq
  | cont=>exact False.elim hq
structure Land (X:Cx) (pins:List (Addr×Obj)) (σ:St) (H0:Hp) (s0:Shared) (H':Hp) (ea t:Addr) (cls:Value) (dx:Option Addr) (B:Heap) (s1:Shared):Prop where
 I:Inv X pins σ H0 s0
 F:Fly X.prog X.w X.stack H0 s0 H' ea t cls dx B s1
section
variable {pins:List (Addr×Obj)} {σ:St} {H0 H':Hp} {s0 s1:Shared} {ea tt:Addr} {cls:Value} {dx:Option Addr} {B h:Heap}
theorem Land.inv (L:Land X pins σ H0 s0 H' ea tt cls dx B s1) (fl:Heap.FlyingW B X.stack ea cls (.ref tt) h) (up:s1.heap.UpToSlots h):Inv X pins σ H' { s1 with heap:=h }:=by
 obtain ⟨U,ok⟩:=fly_un L.F.un L.F.hok L.F.fly.1 fl.1 up L.F.c1 L.F.c2 L.I.stkFree (fun b hb o q=>by
  obtain ⟨_,o',e',d⟩:=L.I.stack.mem hb
  rw[q] at e';cases e';exact d)
 have os:s1.os=s0.os:=L.F.os
 have bare:AllBare s1.gens:=L.F.bare
 obtain ⟨hh,g,d,t,os'⟩:=s1
 dsimp only at os bare
 subst os
 exact Inv.call (s:=s0) (h':=h) (g':=g) (d':=d) (t':=t) (ch:=[]) L.I U ok bare (fun b z=>absurd z (by simp))
theorem Land.new (L:Land X pins σ H0 s0 H' ea tt cls dx B s1):s0.heap.get? ea=none:=by
 obtain ⟨_,n,fr,oe,vs,T,oT,ts,he,hc,hd,_⟩:=L.F.fly
 cases q:s0.heap.get? ea with
 | none=>rfl
 | some o =>
  by_cases hb:ea∈frs X.stack
  ·obtain ⟨_,o',e',d⟩:=fr.mem hb
   rw[he] at e';cases e'
   exact absurd hd (d vs)
  ·obtain ⟨o',e'⟩:=L.F.c2 ea o q hb
   rw[n] at e';cases e'
theorem Land.none_ (L:Land X pins σ H0 s0 H' ea tt cls dx B s1):H' ea=none:=by
 cases q:H' ea with
 | none=>rfl
 | some u =>
  obtain ⟨o,e⟩:=L.F.c1 ea u q
  rw[L.F.fly.2.1] at e;cases e
theorem Land.track (L:Land X pins σ H0 s0 H' ea tt cls dx B s1) (hex:X.ex=[]) (fl:Heap.FlyingW B X.stack ea cls (.ref tt) h) (up:s1.heap.UpToSlots h) (dc:DicAt ea dx h):Inv X pins σ (upd H' ea (exO ea cls dx)) { s1 with heap:=h }:=by
 have nw:=L.new
 have some_ne:∀b o,s0.heap.get? b=some o->b≠ea:=fun b o q z=>by rw[z,nw] at q;cases q
 refine (L.inv fl up).trackO L.none_ ?_ ?_ ?_ (fun x c e=>?_) (fun p hp=>?_)
 ·obtain ⟨_,_,_,oe,vs,T,oT,ts,he,hc,hd,_⟩:=fl
  exact ⟨⟨oe,vs,he,hc.1,hd,dc.get he⟩,⟨oe,he⟩,fun h1 h2 ⟨o,vs,a,b⟩ k=>⟨o,vs,k o a,b⟩⟩
 ·cases q:X.s₀.heap.get? ea with
  | none=>rfl
  | some o =>
   obtain ⟨o',e'⟩:=L.I.base.there ea o q (by rw[hex];exact List.not_mem_nil)
   rw[nw] at e';cases e'
 ·obtain ⟨m,⟨o,_,_,ho,_⟩,_⟩:=L.I.loc
  exact Ne.symm (some_ne _ o ho)
 ·obtain ⟨v,o,ho,_⟩:=L.I.cell x c e
  exact some_ne _ o ho
 ·exact some_ne _ _ (L.I.pin p hp).1
end
def HB (X:Cx) (hs:List ExceptHandler) (hr:Ends->St->Value->Option Addr->Hp->Prop):Prop :=
 ∀(pins:List (Addr×Obj)) (σ:St) (H0:Hp) (s0:Shared) (H':Hp) (ea tt:Addr) (cls:Value) (dx:Option Addr) (B:Heap) (s1:Shared) (h:Heap) (D:Ends),Land X pins σ H0 s0 H' ea tt cls dx B s1->Heap.FlyingW B X.stack ea cls (.ref tt) h->s1.heap.UpToSlots h->DicAt ea dx h →
  hr D σ cls dx H'->wpAny (model X.prog X.w) X.A (handleBy (.ref ea) X.env hs) (SP X pins D) X.xe { s1 with heap:=h }
def rtOnly (D:Ends):Ends:={ nx:=fun _ _=>False,rt:=D.rt }
def hNone:Ends->St->Value->Option Addr->Hp->Prop:=fun _ _ _ _ _=>False
theorem hb_nil:HB X [] hNone:=fun _ _ _ _ _ _ _ _ _ _ _ _ _ _ _ _ _ z=>False.elim z
def hAs (K:PySem.W.Frag) (C:Addr) (i:Nat) (ts:Addr->TS) (hr:Ends->St->Value->Option Addr->Hp->Prop):Ends->St->Value->Option Addr->Hp->Prop:=fun D σ cls dx H =>
 (PySem.W.exmOne K cls (.ref C)=some true∧∀ea,H ea=none->ts ea (rtOnly D) (σ.set i (some (.ref ea))) (upd H ea (exO ea cls dx)))∨(PySem.W.exmOne K cls (.ref C)=some false∧hr D σ cls dx H)
theorem hb_as {i:Nat} {b₀:Stmt} {suite:List Stmt} {rest:List ExceptHandler} {ts:Addr->TS} {hr:Ends->St->Value->Option Addr->Hp->Prop} (hex:X.ex=[]) (hg:Gl X x) (hm:X.mg x=some (.ref C)) (nd:X.N.Nodup) (hi:X.N[i]?=some n)
  (hl:X.env.scope.names.lookup n=some .local) (hs:∀ea,PSs (X.sm ea) (b₀ :: suite) (ts ea)) (hrest:HB X rest hr) (hdb:(x == ("__debug__":Str))=false:=by decide) :
  HB X (.ExceptHandler (some (.Name x np)) (some n) (b₀ :: suite) hpos :: rest) (hAs X.K C i ts hr):=by
 intro pins σ H0 s0 H' ea tt cls dx B s1 h D L fl up dc hq
 have J:=L.inv fl up
 refine wpAny_handleBy_cons (codeAny_handlers_test (ld_glob (X:=X.sm ea) (J.sm ea) hg hm ?_ hdb)) (by intro q;cases q)
 have LT:PySem.W.Looks (model X.prog X.w) h (typeOf (.ref ea)) cls:=by
  obtain ⟨o,e,c⟩:=fl.there
  exact c ▸ (PySem.W.Looks.ld e).andThen .now
 rcases hq with ⟨hb,hts⟩ | ⟨hb,hq⟩
 ·refine (PySem.W.exm_one (show X.K.In h from J.kIn) LT hb) _ _ _ _ (fun _ _ q=>q) ?_
  refine codeAny_handlers_suite_as ?_
  refine wpAny_mono (wpAny_dict (e:=ea) (d:=dx) (dk_setFlight _ _) (lands_againW (E:=fun _ _=>False) (Q:=fun _ s2=>∃h6,s2={ s1 with heap:=h6 }∧Heap.FlyingW B X.stack ea cls (.ref tt) h6∧h.UpToSlots h6) fl fun h6 fl6 up6=>⟨h6,rfl,fl6,up6⟩) dc) ?_ (fun _ _ z=>z.1.elim)
  rintro _ _ ⟨⟨h6,rfl,fl6,up6⟩,dc6⟩
  have J6:=(L.track hex fl6 (up.trans up6) dc6).sm ea
  refine store_ok (X:=X.sm ea) J6 nd hi (.inl hl) (show RelV (.ref ea) (.ref ea) from rfl) (fun s' I'=>?_) (.inr hl)
  refine wpAny_mono (hs ea pins s' _ _ _ I' (hts ea L.none_)) (fun f s2 hsp=>?_) fun _ _ z=>False.elim z
  cases f with
  | next=>obtain ⟨_,_,_,z⟩:=hsp;exact False.elim z
  | brk=>obtain ⟨_,_,_,z⟩:=hsp;exact False.elim z
  | cont=>obtain ⟨_,_,_,z⟩:=hsp;exact False.elim z
  | ret u =>
   obtain ⟨v,σ',H2,J2,rv,q⟩:=hsp
   obtain ⟨m,hn,_⟩:=id J2.loc
   refine wpAny_nameGoes hl hn (by rw[L.I.ok.kind];rfl) fun h' m' hn' hs'=>?_
   exact ⟨v,_,H2,J2.forget L.I.ok hn' hs',rv,q⟩
 ·refine (PySem.W.exm_one (show X.K.In h from J.kIn) LT hb) _ _ _ _ (fun _ _ q=>q) ?_
  exact hrest pins σ H0 s0 H' ea tt cls dx B s1 h D L fl up dc hq
def tTry (hr:Ends->St->Value->Option Addr->Hp->Prop) (tb:(St->XK)->TS):TS:=fun D σ H=>tb (hr D) D σ H
theorem ps_try {body:List Stmt} {h₀:ExceptHandler} {hs:List ExceptHandler} {hr:Ends->St->Value->Option Addr->Hp->Prop} {tb:(St->XK)->TS} (hst:X.stack=X.env :: X.outer) (hfr:X.env.frame=some X.env.locals)
  (hb:∀pn xe E,PassesS (CXE X.prog X.w) (X.tr pn xe) E->PSs (X.tr pn xe) body (tb E)) (hh:HB X (h₀ :: hs) hr):PS X (.Try body (h₀ :: hs) [] [] pos) (tTry hr tb):=by
 intro pins s σ H D I h
 refine wpAny_Try_except ?_
 refine wpAny_mono (hb (X.pn++pins) (fun e s1=>∃σ' H0 s0 H' ea t cls dx B,e=.ref ea∧Land X pins σ' H0 s0 H' ea t cls dx B s1∧hr D σ' cls dx H') (hr D) ?_ [] s σ H D (I.tr _) h) (fun f s1 hsp=>?_) (fun e s1 hx=>?_)
 ·rintro ps σ' H1 s1 e s' J ⟨ea,t,cls,dx,H',B,rfl,F,hE⟩
  exact ⟨σ',H1,s1,H',ea,t,cls,dx,B,rfl,⟨J.untr,F⟩,hE⟩
 ·cases f with
  | next=>obtain ⟨σ',H',J,q⟩:=hsp;exact wpAny_execs_nil ⟨σ',H',J.untr,q⟩
  | brk=>obtain ⟨σ',H',J,q⟩:=hsp;exact ⟨σ',H',J.untr,q⟩
  | cont=>obtain ⟨σ',H',J,q⟩:=hsp;exact ⟨σ',H',J.untr,q⟩
  | ret u=>obtain ⟨v,σ',H',J,r,q⟩:=hsp;exact ⟨v,σ',H',J.untr,r,q⟩
 ·obtain ⟨σ',H0,s0,H',ea,t,cls,dx,B,rfl,L,hq⟩:=hx
  have hfrm:X.A.frames=some (X.env :: X.outer):=by rw[← hst];exact L.I.ok.frames
  have fl:Heap.FlyingW B (X.env :: X.outer) ea cls (.ref t) s1.heap:=by rw[← hst];exact L.F.fly
  refine wpAny_mono (wpAny_dict (e:=ea) (d:=dx) (dk_note _ _) (wpAny_looks_onW (E:=fun _ _=>False) (Q:=fun _ s2=>∃h4,s2={ s1 with heap:=h4 }∧Heap.HeldW B (X.env :: X.outer) ea cls (.ref t) X.env.locals h4∧s1.heap.UpToSlots h4) hfrm hfr fl fun h4 held up4=>⟨h4,rfl,held,up4⟩) L.F.dct) ?_ (fun _ _ z=>z.1.elim)
  rintro _ _ ⟨⟨h4,rfl,held,up4⟩,dc4⟩
  refine wpAny_mono (wpAny_dict (e:=ea) (d:=dx) (dk_setFlight _ _) (wpAny_landsW (E:=fun _ _=>False) (Q:=fun _ s2=>∃h5,s2={ s1 with heap:=h5 }∧Heap.FlyingW B (X.env :: X.outer) ea cls (.ref t) h5∧h4.UpToSlots h5) held fun h5 fl5 up5=>⟨h5,rfl,fl5,up5⟩) dc4) ?_ (fun _ _ z=>z.1.elim)
  rintro _ _ ⟨⟨h5,rfl,fl5,up5⟩,dc5⟩
  exact hh pins σ' H0 s0 H' ea t cls dx B s1 h5 D L (by rw[hst];exact fl5) (up4.trans up5) dc5 hq
end
section
variable {K:PySem.W.Frag} {x t:Value} {Hh:Heap->Prop}
end
end L2
namespace L2
open PySem PySem.Spec PyProof.Rows PySem.W
section
variable {prog:Program} {w:World} {A:Around} {E:Value->Shared->Prop} {h:Heap} {g:Array GenState} {d:Drawn} {t:Nat} {os:OsState} {a C:Addr} {o:Obj} {od:Option Obj} {K:Frag}
theorem chk_ga {M:Model} {nv:Value} {Q:Unit->Shared->Prop} (X:K.In h) (I:InstAt h a o C od) (hm:mroIn K C (.type "BaseException")=some true) (hq:Q () ⟨h,g,d,t,os⟩) :
  wpAny M A (checkBuiltinCall "BaseException.__getattribute__" ⟨[.ref a,nv],[]⟩) Q E ⟨h,g,d,t,os⟩:=by
 have b1:builtinKind "BaseException.__getattribute__"=some .slot:=by decide +kernel
 have b2:splitId "BaseException.__getattribute__"=some ("BaseException","__getattribute__"):=by decide +kernel
 have b3:=F.args_bexc_ga (.ref a) nv
 have LI:Looks M h (isInstance (.ref a) (.type "BaseException")) true:=I.type.andThen (looks_mroIn X hm)
 simp only[checkBuiltinCall,b1,b2]
 refine wpAny_bind (Looks.at LI ?_)
 (repeat (first | assumption | wp_step))
theorem ga_call {R:Result->Shared->Prop} {tk:Tok} (X:K.In h) (I:InstAt h a o C od) (hm:mroIn K C (.type "BaseException")=some true) (hm2:mroIn K C (.type "object")=some true) (hc:(clsIn K C).isSome=true)
  (ha:findIn K (.ref C) "__class__"=some (some (.builtin "object.__class__"))) (hn:specialIn K (.builtin "object.__class__") "__get__"=some (some (.builtin "getset_descriptor.__get__"))) (htk:takesIn K (.builtin "object.__class__")=some true)
  (hq:R (.ok (.ret (.ref C))) ⟨h,g,d,t,os⟩):codeAny (model prog w) A (.call (.builtin "BaseException.__getattribute__") ⟨[.ref a,.str "__class__" tk],[]⟩) R ⟨h,g,d,t,os⟩:=by
 have hf:findObj K C od "__class__"=some (.bind (.builtin "getset_descriptor.__get__") (.builtin "object.__class__")):=by
  obtain ⟨cd,hc⟩:=Option.isSome_iff_exists.mp hc
  unfold findObj
  rw[hc,Option.bind_some,ha,Option.bind_some]
  simp [hn,htk]
 have L0:=I.type (M:=model prog w)
 have L1:=looks_find (M:=model prog w) X I hf
 refine codeAny_call_builtin (by decide +kernel) F.entry_bexc_ga (chk_ga X I hm ?_)
 unfold Builtin.«object.__getattribute__»
 refine wpAny_bind (wpAny_pure ?_)
 dsimp only
 refine wpAny_bind (m:=Builtin.ObjectAttr.attrName (.str "__class__" tk)) (wpAny_pure ?_)
 refine wpAny_bind (Looks.at L0 ?_)
 refine wpAny_bind (Looks.at L1 ?_)
 dsimp only
 unfold Builtin.ObjectAttr.bindTo
 refine wpAny_bind (wpAny_holding (wpAny_call (class_get (s:=⟨h,g,d,t,os⟩) (ox:=o) (od:=od) X I hm2 ?_)))
 exact wpAny_pure hq
theorem exc_class {Q:Option Value->Shared->Prop} (X:K.In h) (I:InstAt h a o C od) (hga:findIn K (.ref C) "__getattribute__"=some (some (.builtin "BaseException.__getattribute__"))) (hgt:findIn K (.ref C) "__getattr__"=some none)
  (hm:mroIn K C (.type "BaseException")=some true) (hm2:mroIn K C (.type "object")=some true) (hc:(clsIn K C).isSome=true)
  (ha:findIn K (.ref C) "__class__"=some (some (.builtin "object.__class__"))) (hn:specialIn K (.builtin "object.__class__") "__get__"=some (some (.builtin "getset_descriptor.__get__"))) (htk:takesIn K (.builtin "object.__class__")=some true)
  (hq:Q (some (.ref C)) ⟨h,g,d,t+1,os⟩):wpAny (model prog w) A (getAttr? (.ref a) "__class__") Q E ⟨h,g,d,t,os⟩:=by
 have L0:=I.type (M:=model prog w)
 have L1:=looks_findIn (M:=model prog w) X hga
 have L2:=looks_findIn (M:=model prog w) X hgt
 unfold getAttr? getAttrBy? getAttrBy
 refine wpAny_bind (wpAny_mkText (wpAny_bind (wpAny_attempt (wpAny_holding (wpAny_bind (Looks.at L0 (wpAny_bind (Looks.at L1 ?_))))))))
 have ne:(onTheHeap (Value.ref C) && Value.builtin "BaseException.__getattribute__" == Value.builtin "object.__getattribute__")=false:=by
  rw[show (Value.builtin "BaseException.__getattribute__" == Value.builtin "object.__getattribute__")=false by decide +kernel,Bool.and_false]
 dsimp only
 rw[ne,if_neg Bool.false_ne_true]
 unfold getAttrByItsOwn
 refine wpAny_bind (show wpAny _ _ (typeLookup (.ref C) "__getattr__") _ _ _ from Looks.at L2 (wpAny_bind (wpAny_attempt (wpAny_holding ?_))))
 unfold callGetattribute boundAndCalled
 rw[Bool.false_and,if_neg Bool.false_ne_true]
 have fb:bindSpecial (.builtin "BaseException.__getattribute__") (.ref a)=pure (.builtin "BaseException.__getattribute__",[.ref a]):=F.excAttr_ValueError.ga.bind (.ref a)
 rw[fb]
 refine wpAny_bind (wpAny_pure (wpAny_call (ga_call X I hm hm2 hc ha hn htk ?_)))
 exact wpAny_pure (wpAny_pure hq)
end
structure ExC (K:Frag) (C:Addr):Prop where
 ga:findIn K (.ref C) "__getattribute__"=some (some (.builtin "BaseException.__getattribute__"))
 gt:findIn K (.ref C) "__getattr__"=some none
 mb:mroIn K C (.type "BaseException")=some true
 mo:mroIn K C (.type "object")=some true
 hd:hasDictIn K C=true
 ca:findIn K (.ref C) "__class__"=some (some (.builtin "object.__class__"))
 sg:specialIn K (.builtin "object.__class__") "__get__"=some (some (.builtin "getset_descriptor.__get__"))
 tk:takesIn K (.builtin "object.__class__")=some true
theorem ExC.obj {K:Frag} {C:Addr} (e:ExC K C):∃c d cd sl,K.lookup C=some ⟨c,d,.cls cd,sl⟩:=by
 obtain ⟨cd,hc,_⟩:=any_some e.hd
 unfold clsIn at hc
 split at hc
 ·exact ⟨_,_,_,_,by assumption⟩
 ·cases hc
theorem exO_inst {X:Cx} {pins:List (Addr×Obj)} {σ:St} {H:Hp} {s:Shared} {a C:Addr} (I:Inv X pins σ H s) (e:H a=some (exO a (.ref C) none)):∃o,InstAt s.heap a o C none:=by
 obtain ⟨⟨o,vs,g,c,d,dd⟩,_⟩:=(show ObjOk X.prog X.w H s.heap a (exO a (.ref C) none) from I.hok a _ e)
 obtain ⟨oc,od,dt,sl⟩:=o
 dsimp only at c d dd
 subst c d dd
 exact ⟨_,g,rfl,rfl,trivial⟩
end L2
namespace L2
open PySem PySem.Spec PyProof.Rows Nm
section
variable {X:Cx} {pins:List (Addr×Obj)} {σ:St} {H:Hp} {s:Shared}
end
theorem rd_callX {sp:Sp} {E:St->XK} {t:TA} {σ:St} {H:Hp} {Q:VK} (h:t σ H fun vs H1=>sp vs H1 Q (E σ)):tCallX sp [] E t σ H Q:=by
 show t σ H fun vs H1=>sp (vs++[]) H1 Q (E σ)
 simpa only [List.append_nil] using h
theorem rd_try {hr:Ends->St->Value->Option Addr->Hp->Prop} {tb:(St->XK)->TS} {D:Ends} {σ:St} {H:Hp} (h:tb (hr D) D σ H):tTry hr tb D σ H:=h
section
variable {P:Program} {w:World} {K:PySem.W.Frag} {mg:Str->Option Value} {base:Heap}
theorem Fun.okX {x qual:Str} {st:Stmt} {f:Addr} {fd:FuncData} {N ps:List Str} {k:Nat} {sp:Sp} (F:Fun K x qual st f fd) (S:FnScope N ps (defScope st)) (len:∀vs H Q E,sp vs H Q E->vs.length=ps.length)
  (hbody:∀(cdv:Value) (A:Around) (outer:List Env) (s:Shared) (H:Hp) (vs:List V) (Q:VK) (E:XK),Room k (A.deeper (envOfC qual (defScope st) s.heap.objs.size f cdv))->sp vs H Q E →
   ∃t,PSs (cxOf (CXE P w) P w K mg base N qual (defScope st) f cdv A outer s H E) (defBody st) t∧t { nx:=fun _ H'=>Q .non H',rt:=Q } (start N vs) H):FnOk P w K mg base (CXE P w) (k+1) f fd ps sp:=by
 obtain ⟨oc,od,kV,doc,pm,an,cdv,ct,osl,rfl,lk,hcd⟩:=F.ex
 exact fn_of lk hcd S len fun A outer s H vs Q E hr hsp=>hbody cdv A outer s H vs Q E hr hsp
end
def NumM (H:Hp) (x:V):Prop:=∃r a b,x=.ref r∧H r=some (.tup [.int a,.int b])∧0 < b∧Int.gcd a b=1∧Sz 1000 a∧Sz 1000 b
theorem NumM.same {H H':Hp} {x:V} (h:NumM H x) (s:Same H H'):NumM H' x:=by
 obtain ⟨r,a,b,e,g,z⟩:=h
 exact ⟨r,a,b,e,s _ _ g,z⟩
theorem NumM.upto {H H':Hp} {x:V} {p:Addr} (h:NumM H x) (u:Upto p H H') (B:Bag H p):NumM H' x:=by
 obtain ⟨r,a,b,e,g,z⟩:=h
 exact ⟨r,a,b,e,u.tup B g,z⟩
theorem NumM.of {H:Hp} {r:Addr} {a b:Int} (h:N60 a b) (g:H r=some (.tup [.int a,.int b])):NumM H (.ref r):=⟨r,a,b,rfl,g,h.1,h.2.1,h.sa.mono (by decide),h.sb.mono (by decide)⟩
def PairM (H:Hp) (_:Unit) (x:V):Prop:=∃r y z,x=.ref r∧H r=some (.tup [y,z])∧NumM H y∧NumM H z
theorem PairM.same {H H':Hp} {u:Unit} {x:V} (h:PairM H u x) (s:Same H H'):PairM H' u x:=by
 obtain ⟨r,y,z,e,g,a,b⟩:=h
 exact ⟨r,y,z,e,s _ _ g,a.same s,b.same s⟩
theorem PairM.upto {H H':Hp} {w:Unit} {x:V} {p:Addr} (h:PairM H w x) (u:Upto p H H') (B:Bag H p):PairM H' w x:=by
 obtain ⟨r,y,z,e,g,a,b⟩:=h
 exact ⟨r,y,z,e,u.tup B g,a.upto u B,b.upto u B⟩
def K12 (p:Addr) (H:Hp) (x:V):Prop:=Kn H x∧x≠.ref p∧∀i,x=.int i->i.natAbs < 10^60
theorem K12.same {p:Addr} {H H':Hp} {x:V} (h:K12 p H x) (s:Same H H'):K12 p H' x:=⟨h.1.same s,h.2⟩
theorem K12.upto {p:Addr} {H H':Hp} {x:V} (h:K12 p H x) (u:Upto p H H'):K12 p H' x:=by
 obtain ⟨k,n,z⟩:=h
 refine ⟨?_,n,z⟩
 cases k with
 | non=>exact .non
 | bl b=>exact .bl b
 | int i=>exact .int i
 | str y=>exact .str y
 | lst e=>exact .lst (u.1 _ _ e fun q=>n (by rw[q]))
 | tup e=>exact .tup (u.1 _ _ e fun q=>n (by rw[q]))
 | dic e=>exact .dic (u.1 _ _ e fun q=>n (by rw[q]))
theorem K12.int {p:Addr} {H:Hp} {i:Int} (h:i.natAbs < 10^60):K12 p H (.int i):=⟨.int i,(fun z=>nomatch z),fun j e=>by cases e;exact h⟩
theorem K12.of {p:Addr} {H:Hp} {x:V} (h:Kn H x) (n:x≠.ref p) (ni:wholeB x=false):K12 p H x:=⟨h,n,fun i e=>by subst e;cases ni⟩
def Pair12 (p:Addr) (H:Hp) (_:Unit) (x:V):Prop:=∃r y z,x=.ref r∧H r=some (.tup [y,z])∧K12 p H y∧K12 p H z
theorem Pair12.same {p:Addr} {H H':Hp} {u:Unit} {x:V} (h:Pair12 p H u x) (s:Same H H'):Pair12 p H' u x:=by
 obtain ⟨r,y,z,e,g,a,b⟩:=h
 exact ⟨r,y,z,e,s _ _ g,a.same s,b.same s⟩
theorem Pair12.upto {p:Addr} {H H':Hp} {w:Unit} {x:V} (h:Pair12 p H w x) (u:Upto p H H') (B:Bag H p):Pair12 p H' w x:=by
 obtain ⟨r,y,z,e,g,a,b⟩:=h
 exact ⟨r,y,z,e,u.tup B g,a.upto u,b.upto u⟩
end L2
namespace L2
open PySem PySem.Spec PyProof.Rows Nm
section
variable {X:Cx}
end
def ExV (K:PySem.W.Frag) (H:Hp) (x:V):Prop:=∃a C,x=.ref a∧H a=some (exO a (.ref C) none)∧ExC K C∧∀T,OkT T->PySem.W.kitOne K (.ref C) (.type T)=some false
def KX (K:PySem.W.Frag) (H:Hp) (x:V):Prop:=Kn H x∨ExV K H x
theorem KX.same {K:PySem.W.Frag} {H H':Hp} {x:V} (h:KX K H x) (s:Same H H'):KX K H' x:=by
 rcases h with h | ⟨a,C,e0,e,r⟩
 ·exact .inl (h.same s)
 ·exact .inr ⟨a,C,e0,s _ _ e,r⟩
theorem KX.upto {K:PySem.W.Frag} {H H':Hp} {x:V} {p:Addr} (h:KX K H x) (n:x≠.ref p) (u:Upto p H H'):KX K H' x:=by
 rcases h with h | ⟨a,C,e0,e,r⟩
 ·left
  cases h with
  | non=>exact .non
  | bl b=>exact .bl b
  | int i=>exact .int i
  | str y=>exact .str y
  | lst e=>exact .lst (u.1 _ _ e fun q=>n (by rw[q]))
  | tup e=>exact .tup (u.1 _ _ e fun q=>n (by rw[q]))
  | dic e=>exact .dic (u.1 _ _ e fun q=>n (by rw[q]))
 ·exact .inr ⟨a,C,e0,u.1 _ _ e fun q=>n (by rw[e0,q]),r⟩
theorem KX.at {K:PySem.W.Frag} {H H':Hp} {q:Addr} {o:HO} (h:KX K H (.ref q)) (s:∀o,H q=some o->H' q=some o) (z:H' q=some o):H q=some o:=by
 rcases h with h | ⟨a,C,e0,e,r⟩
 ·cases h with
  | lst e=>rw[s _ e] at z;rw[e,z]
  | tup e=>rw[s _ e] at z;rw[e,z]
  | dic e=>rw[s _ e] at z;rw[e,z]
 ·cases e0
  rw[s _ e] at z;rw[e,z]
def Td (K:PySem.W.Frag) (p:Addr):Nat->Hp->V->Prop
 | 0,H,x=>KX K H x∧x≠.ref p∧∀i,x=.int i->Sz 8999 i
 | n+1,H,x=>(KX K H x∧x≠.ref p∧∀i,x=.int i->Sz 8999 i)∧∀q xs,x=.ref q->H q=some (.tup xs)->xs.length<=1000∧∀y∈xs,Td K p n H y
theorem Td.same {K:PySem.W.Frag} {p:Addr} {H H':Hp} (s:Same H H'):∀{n:Nat} {x:V},Td K p n H x->Td K p n H' x
 | 0,_,h=>⟨h.1.same s,h.2⟩
 | n+1,_,h=>⟨⟨h.1.1.same s,h.1.2⟩,fun q xs e z=>by
  subst e
  obtain ⟨a,b⟩:=h.2 q xs rfl (h.1.1.at (fun o w=>s _ _ w) z)
  exact ⟨a,fun y hy=>Td.same s (b y hy)⟩⟩
theorem Td.upto {K:PySem.W.Frag} {p:Addr} {H H':Hp} (u:Upto p H H'):∀{n:Nat} {x:V},Td K p n H x->Td K p n H' x
 | 0,_,h=>⟨h.1.upto h.2.1 u,h.2⟩
 | n+1,_,h=>⟨⟨h.1.1.upto h.1.2.1 u,h.1.2⟩,fun q xs e z=>by
  subst e
  obtain ⟨a,b⟩:=h.2 q xs rfl (h.1.1.at (fun o w=>u.1 _ _ w fun qq=>h.1.2.1 (by rw[qq])) z)
  exact ⟨a,fun y hy=>Td.upto u (b y hy)⟩⟩
theorem Td.flat {K:PySem.W.Frag} {p:Addr} {H:Hp} {x:V} {n:Nat} (k:KX K H x) (ne:x≠.ref p) (i:∀i,x=.int i->Sz 8999 i) (t:∀q xs,x=.ref q->H q≠some (.tup xs)):Td K p n H x:=by
 cases n with
 | zero=>exact ⟨k,ne,i⟩
 | succ n=>exact ⟨⟨k,ne,i⟩,fun q xs e z=>absurd z (t q xs e)⟩
theorem Td.int {K:PySem.W.Frag} {p:Addr} {H:Hp} {i:Int} {n:Nat} (h:Sz 8999 i):Td K p n H (.int i):=Td.flat (.inl (.int i)) (fun z=>nomatch z) (fun j e=>by cases e;exact h) (fun _ _ z=>nomatch z)
theorem Td.tup {K:PySem.W.Frag} {p:Addr} {H:Hp} {r:Addr} {xs:List V} {n:Nat} (g:H r=some (.tup xs)) (ne:r≠p) (l:xs.length<=1000) (h:∀y∈xs,Td K p n H y):Td K p (n+1) H (.ref r) :=
 ⟨⟨.inl (.tup g),fun z=>ne (V.ref.inj z),fun _ z=>nomatch z⟩,fun q ys e z=>by cases e;rw[g] at z;cases z;exact ⟨l,h⟩⟩
end L2
namespace L2
open PySem PySem.Spec PyProof.Rows Nm
end L2
namespace L2
open PySem PySem.Spec PyProof.Rows PySem.W
section
variable {prog:Program} {w:World} {A:Around} {E:Value->Shared->Prop} {s:Shared} {a C:Addr} {o:Obj} {K:Frag} {name:Str} {v:Value}
theorem refuse_vErr (self:Value):refuseLoop self "__setattr__" vErr=pure ():=by kernel_rfl
theorem osa_exc {R:Result->Shared->Prop} {tk:Tok} {od:Option Obj} {cd:ClassData} {l:List Value} (X:K.In s.heap) (I:InstAt s.heap a o C od) (hc:clsIn K C=some cd) (hl:cd.mro=l) (hr:refuseLoop (.ref a) "__setattr__" l=pure ()) (hm:mroIn K C (.type "object")=some true)
  (ha:findIn K (.ref C) name=some none)
  (h:wpAny (model prog w) A.in1 (Builtin.ObjectAttr.storeInOwnDict (.ref a) (.ref C) (.str name tk) name v false) (fun (fin:Fin) s'=>match fin with | .done f=>R (.ok f) s' | .again c'=>c'.quiet=true∧codeAny (model prog w) A c' R s') (fun e s'=>R (.error e) s') s) :
  codeAny (model prog w) A (.call (.builtin "object.__setattr__") ⟨[.ref a,.str name tk,v],[]⟩) R s:=by
 have SF:=PySem.F.store_object
 have sub:Looks (model prog w) s.heap (isInstance (.ref a) (.type "object")) true:=I.type.andThen (looks_mroIn X hm)
 refine codeAny_call_builtin SF.slot.plain SF.entry (@check_slot (model prog w) _ _ s "object.__setattr__" "object" "__setattr__" (.ref a) [.str name tk,v] [] _ SF.kind SF.split sub (SF.args (.ref a) (.str name tk) v) ?_)
 have hmr:Looks (model prog w) s.heap (mroOf (.ref C)) cd.mro:=(looks_clsIn X hc).andThen .now
 rw[osa_eq,refuse_eq]
 refine wpAny_bind (wpAny_bind (I.type.here (wpAny_bind (hmr.here ?_))))
 rw[hl,hr]
 refine wpAny_pure (wpAny_bind (I.type.here (wpAny_bind ((looks_findIn X ha).here ?_))))
 exact wpAny_bind (wpAny_pure h)
theorem set_exc {Q:Unit->Shared->Prop} {cd:ClassData} {l:List Value} {vs:Array Value} (X:K.In s.heap) (I:InstAt s.heap a o C none) (hc:clsIn K C=some cd) (hl:cd.mro=l) (hr:refuseLoop (.ref a) "__setattr__" l=pure ()) (hm:mroIn K C (.type "object")=some true)
  (hs:findIn K (.ref C) "__setattr__"=some (some (.builtin "object.__setattr__"))) (hd:hasDictIn K C=true) (ha:findIn K (.ref C) name=some none) (ho:o.data=.fields vs)
  (h:∀h',(∀b ob,b≠a->s.heap.get? b=some ob->h'.get? b=some ob)->h'.get? a=some { o with dict:=some s.heap.objs.size }->h'.Ns1 s.heap.objs.size (fun y=>if y=name then some v else none)->Q () { s with heap:=h',toks:=s.toks+2 }) :
  wpAny (model prog w) A (setAttr (.ref a) name v) Q E s:=by
 refine set_plain X I hs (osa_exc (s:={ s with toks:=s.toks+1 }) X I hc hl hr hm ha ?_)
 obtain ⟨cd',hc',hd'⟩:=any_some hd
 rw[hc] at hc'
 cases hc'
 obtain ⟨hx,hcl,hn,hdd⟩:=I
 obtain ⟨oc,odi,oda,osl⟩:=o
 dsimp only at hcl hdd ho
 subst hcl ho
 obtain rfl:odi=none:=by cases odi with | none=>rfl | some _=>exact hdd.elim
 have hlt:a < s.heap.objs.size:=Heap.lt_size hx
 have kp:∀b ob,s.heap.get? b=some ob->(s.heap.push emptyDict).get? b=some ob:=fun b ob q=>Heap.get?_push_of_some _ q
 refine wpAny_bind (wpAny_pure ?_)
 have ne:(Value.ref C == Value.type "module")=false:=by rfl
 dsimp only
 rw[ne,if_neg Bool.false_ne_true]
 refine wpAny_bind ?_
 show wpAny _ _ (instanceDict a true) _ _ _
 unfold instanceDict
 refine wpAny_bind (wpAny_loadPart hx (wpAny_bind (Looks.here (s:={ s with toks:=s.toks+1 }) (looks_clsIn X hc) ?_)))
 dsimp only
 rw[hd']
 have hx1:(s.heap.push emptyDict).get? a=some { cls:=Value.ref C,data:=Data.fields vs,slots:=osl }:=kp _ _ hx
 refine wpAny_bind (wpAny_alloc (wpAny_bind (wpAny_update hx1 ?_)))
 have hx2:((s.heap.push emptyDict).update a fun o=>{ o with dict:=some s.heap.objs.size }).get? a=some { cls:=Value.ref C,dict:=some s.heap.objs.size,data:=Data.fields vs,slots:=osl }:=Heap.get?_update_self _ hx1 rfl
 have hD:((s.heap.push emptyDict).update a fun o=>{ o with dict:=some s.heap.objs.size }).get? s.heap.objs.size=some emptyDict:=by
  rw[Heap.get?_update_other _ _ (Nat.ne_of_lt hlt)]
  exact Heap.get?_push_size _ rfl
 have hN:((s.heap.push emptyDict).update a fun o=>{ o with dict:=some s.heap.objs.size }).Ns1 s.heap.objs.size (fun _=>none):=⟨_,_,_,hD,rfl,(fun y hy=>by simp at hy),(by unfold UniqKeys;simp),fun _=>rfl⟩
 refine wpAny_pure (wpAny_bind (wpAny_pure (wpAny_bind ?_)))
 refine wpAny_nsSet1 (s:={ s with heap:=(s.heap.push emptyDict).update a fun o=>{ o with dict:=some s.heap.objs.size },toks:=s.toks+1 }) hN fun h' hn2 hs2=>?_
 obtain ⟨oD,esD,epD,hoD,hdD,hcD⟩:=hn2.count (PySem.Within.cons name v (ns:=[]) (fun _ z=>absurd rfl z))
 refine wpAny_bind (wpAny_lookBehind hoD (by rw[hdD];exact pastItsLine_dict (Nat.le_trans hcD (by show 1<=sizeLine+1;lia))) (wpAny_pure (h h' (fun b ob n q=>?_) ((hs2.2 a (Nat.ne_of_lt hlt)).trans hx2) hn2)))
 rw[hs2.2 b (Nat.ne_of_lt (Heap.lt_size q)),Heap.get?_update_other _ _ (Ne.symm n)]
 exact kp b ob q
end
end L2
namespace L2
open PySem PySem.Spec PyProof.Rows PySem.W
section
variable {prog:Program} {w:World} {A:Around} {E:Value->Shared->Prop} {h:Heap} {g:Array GenState} {d:Drawn} {t:Nat} {os:OsState} {a C:Addr} {o od:Obj} {K:Frag} {name:Str} {v:Value}
theorem ga_val {R:Result->Shared->Prop} {tk:Tok} (X:K.In h) (I:InstAt h a o C (some od)) (hm:mroIn K C (.type "BaseException")=some true) (hh:hasDictIn K C=true) (ha:findIn K (.ref C) name=some none) (hl:lookIn name od=some (some v))
  (hq:R (.ok (.ret v)) ⟨h,g,d,t,os⟩):codeAny (model prog w) A (.call (.builtin "BaseException.__getattribute__") ⟨[.ref a,.str name tk],[]⟩) R ⟨h,g,d,t,os⟩:=by
 have L0:=I.type (M:=model prog w)
 have L1:=looks_find (M:=model prog w) X I (findObj_own hh ha rfl hl)
 refine codeAny_call_builtin (by decide +kernel) F.entry_bexc_ga (chk_ga X I hm ?_)
 unfold Builtin.«object.__getattribute__»
 refine wpAny_bind (wpAny_pure ?_)
 dsimp only
 refine wpAny_bind (m:=Builtin.ObjectAttr.attrName (.str name tk)) (wpAny_pure ?_)
 refine wpAny_bind (Looks.at L0 (wpAny_bind (Looks.at L1 (wpAny_pure hq))))
theorem exc_get {expr:Bool} {Q:Value->Shared->Prop} (X:K.In h) (I:InstAt h a o C (some od)) (ex:ExC K C) (ha:findIn K (.ref C) name=some none) (hl:lookIn name od=some (some v)) (hv:handedIn v=true)
  (hq:Q v ⟨h,g,d,t+1,os⟩):wpAny (model prog w) A (getAttr (.ref a) name expr) Q E ⟨h,g,d,t,os⟩:=by
 have L0:=I.type (M:=model prog w)
 have L1:=looks_findIn (M:=model prog w) X ex.ga
 have L2:=looks_findIn (M:=model prog w) X ex.gt
 unfold getAttr getAttrBy
 refine wpAny_bind (wpAny_mkText (wpAny_holding (wpAny_bind (Looks.at L0 (wpAny_bind (Looks.at L1 ?_))))))
 have ne:(onTheHeap (Value.ref C) && Value.builtin "BaseException.__getattribute__" == Value.builtin "object.__getattribute__")=false:=by
  rw[show (Value.builtin "BaseException.__getattribute__" == Value.builtin "object.__getattribute__")=false by decide +kernel,Bool.and_false]
 dsimp only
 rw[ne,if_neg Bool.false_ne_true]
 unfold getAttrByItsOwn
 refine wpAny_bind (show wpAny _ _ (typeLookup (.ref C) "__getattr__") _ _ _ from Looks.at L2 (wpAny_bind (wpAny_attempt (wpAny_holding ?_))))
 unfold callGetattribute boundAndCalled
 have ne2:(expr && onTheHeap (Value.builtin "BaseException.__getattribute__"))=false:=by cases expr <;> rfl
 rw[ne2,if_neg Bool.false_ne_true]
 have fb:bindSpecial (.builtin "BaseException.__getattribute__") (.ref a)=pure (.builtin "BaseException.__getattribute__",[.ref a]):=F.excAttr_ValueError.ga.bind (.ref a)
 rw[fb]
 refine wpAny_bind (wpAny_pure (wpAny_call (ga_val X I ex.mb ex.hd ha hl ?_)))
 show wpAny _ _ (handedOut v) _ _ _
 rw[handedOut_of hv]
 exact wpAny_pure hq
end
section
variable {prog:Program} {w:World} {A:Around} {h:Heap} {g:Array GenState} {d:Drawn} {t:Nat} {os:OsState} {R:Result->Shared->Prop}
variable {nm q:Str} {C N f:Addr} {bs bm:List Value} {hdct:Bool} {sn:List Str} {sub:List Value} {ab:Bool} {col:Option Bool} {dd:Option Addr} {k0 k1 k2 k3 k5:Option Value}
abbrev newExcObj (C t:Addr):Obj:={ cls:=.ref C,data:=.fields #[.ref t,.none,.none,.none,.bool false,.none] }
theorem call_excI {rest:List Value} (T:OwnTail h vErr bm) (hC:h.get? C=some (excClassObj nm q C N bs bm hdct sn sub ab col dd k0 k1 k2 k3 k5 "ValueError.__new__"))
  (hi:Looks (model prog w) h (typeLookup (.ref C) "__init__") (some (.ref f))) (hb:∀self,Looks (model prog w) h (bindSpecial (.ref f) self) (.ref f,[self])) (hrest:rest.length<=sizeLine)
  (hq:codeAny (model prog w) (A.under (.builtin "type.__call__" ⟨.ref C :: rest,[]⟩)) (.call (.ref f) ⟨.ref (h.objs.size+1) :: rest,[]⟩) (InitBack (h.objs.size+1) R) ⟨(h.push { cls:=.type "tuple",data:=.seq rest.toArray }).push (newExcObj C h.objs.size),g,d,t,os⟩) :
  codeAny (model prog w) A (.call (.ref C) ⟨rest,[]⟩) R ⟨h,g,d,t,os⟩:=by
 have FV:=PySem.F.excBase_ValueError
 have f1:=tc_lookup
 have f2:=tc_bind (.ref C)
 have hT:(⟨h,g,d,t,os⟩:Shared).TypeIs (.ref C) "type":=⟨_,hC,rfl⟩
 refine codeAny_of_tree ?_
 show wpAny _ _ (callAny (.ref C) _) _ _ _
 (repeat (any_goals (first | assumption | with_reducible refine wpAny_loadPart_at hC ?_ | wp_step)))
 refine ⟨rfl,codeAny_call_builtin_at (Code.quiet_builtin _ (by decide +kernel)) entry_typeCall (wpAny_check_type_call_sub hC ?_)⟩
 (repeat (first | with_reducible refine wpAny_loadPart_at hC ?_ | with_reducible refine wpAny_madeBy_exc hC ?_ | wp_step))
 refine codeAny_call_builtin_code (Code.quiet_builtin _ FV.quiet) (wpAny_check_new_subT FV T hC (codeAny_exc_new_subT FV T hC ?_ hrest))
 have kp:∀b ob,h.get? b=some ob->((h.push { cls:=.type "tuple",data:=.seq rest.toArray }).push (newExcObj C h.objs.size)).get? b=some ob:=fun b ob z=>Heap.get?_push_of_some _ (Heap.get?_push_of_some _ z)
 have hC1:=kp _ _ hC
 have hg1:((h.push { cls:=.type "tuple",data:=.seq rest.toArray }).push (newExcObj C h.objs.size)).get? (h.objs.size+1)=some (newExcObj C h.objs.size):=by heap_get
 have hcC:(Value.ref C :: bm).contains (.ref C)=true:=by simp
 show wpAny _ _ _ _ _ _
 have t1:Looks (model prog w) ((h.push { cls:=.type "tuple",data:=.seq rest.toArray }).push (newExcObj C h.objs.size)) (typeOf (.ref (h.objs.size+1))) (.ref C):=(Looks.ld hg1).andThen .now
 have sb:Looks (model prog w) ((h.push { cls:=.type "tuple",data:=.seq rest.toArray }).push (newExcObj C h.objs.size)) (isSubtype (.ref C) (.ref C)) true:=fun A' Q' E' s' k z=>by
  obtain ⟨h',g',d',t',os'⟩:=s'
  exact wpAny_isSubtype_exc (k _ _ hC1) (by rw[hcC];exact z)
 have LI:Looks (model prog w) ((h.push { cls:=.type "tuple",data:=.seq rest.toArray }).push (newExcObj C h.objs.size)) (isInstance (.ref (h.objs.size+1)) (.ref C)) true:=t1.andThen sb
 refine wpAny_bind (Looks.at LI ?_)
 rw[if_neg (by simp)]
 unfold callSpecial? specialOf
 refine wpAny_bind (wpAny_holding (wpAny_bind (wpAny_bind (Looks.at t1 (Looks.at (hi.keeps kp) ?_)))))
 dsimp only
 refine wpAny_holding (wpAny_bind (Looks.at ((hb _).keeps kp) ?_))
 dsimp only
 refine wpAny_bind (wpAny_call (codeAny_mono hq fun r s' z=>?_))
 rcases r with e | (v | _ | _ | _) <;> first | exact z | exact z.elim | skip
 obtain ⟨rfl,z⟩:=z
 exact wpAny_pure (wpAny_pure z)
end
end L2
namespace L2
open PySem PySem.Spec PyProof.Rows PySem.W
def exN (a:Addr) (cls:Value) (dx:Option Addr):HO:=.ext fun h=>∃o vs t,h.get? a=some o∧o.cls=cls∧o.data=.fields vs∧o.dict=dx∧vs[0]?=some (.ref t)∧vs[1]?=some .none
theorem exN_ok {P:Program} {w:World} {H:Hp} {h:Heap} {a:Addr} {cls:Value} {dx:Option Addr} {o:Obj} {vs:Array Value} {t:Addr} (e:h.get? a=some o) (c:o.cls=cls) (d:o.data=.fields vs) (x:o.dict=dx) (v0:vs[0]?=some (.ref t)) (v1:vs[1]?=some .none) :
  ObjOk P w H h a (exN a cls dx):=⟨⟨o,vs,t,e,c,d,x,v0,v1⟩,⟨o,e⟩,fun h1 h2 ⟨o,vs,t,q,r⟩ k=>⟨o,vs,t,k o q,r⟩⟩
structure ExI (K:Frag) (C S:Addr):Prop where
 lk:∃dd cd k0 k1 k2 k3 k5,K.lookup C=some ⟨.type "type",dd,.cls cd,#[k0,k1,k2,k3,some (.builtin "ValueError.__new__"),k5]⟩∧cd.mro=.ref C :: .ref S :: vErr∧cd.hasDel=false
 exS:excIn K S vErr "ValueError.__new__"=true
 sa:findIn K (.ref C) "__setattr__"=some (some (.builtin "object.__setattr__"))
 xc:ExC K C
theorem ExI.at {K:Frag} {C S:Addr} (e:ExI K C S) {h:Heap} (X:K.In h):∃N nm q bs hdct sn sub ab col dd k0 k1 k2 k3 k5 cd,h.get? C=some (excClassObj nm q C N bs (.ref S :: vErr) hdct sn sub ab col dd k0 k1 k2 k3 k5 "ValueError.__new__")∧OwnTail h vErr (.ref S :: vErr)∧clsIn K C=some cd∧cd.mro=.ref C :: .ref S :: vErr:=by
 obtain ⟨dd,cd,k0,k1,k2,k3,k5,lk,hm,hdl⟩:=e.lk
 obtain ⟨nm,bs,mro,ns,qn,hd,sn,sub,ab,col,del⟩:=cd
 dsimp only at hm hdl
 subst hm hdl
 obtain ⟨tl,N,nm',q',bs',hdct',sn',sub',ab',col',dd',j0,j1,j2,j3,j5,mN,hS,hN,hni,T⟩:=exc_obj X e.exS
 exact ⟨ns,nm,qn,bs,hd,sn,sub,ab,col,dd,k0,k1,k2,k3,k5,_,X _ _ lk,.own hS hN hni .base,by unfold clsIn;rw[lk],rfl⟩
section
variable {X:Cx} {pins:List (Addr×Obj)} {σ:St} {H:Hp} {s:Shared}
def sFldE (K:Frag) (ta tv:TE) (f:Str):TS:=fun D σ H=>tv σ H fun y H1=>ta σ H1 fun x H2=>∃a C S,x=.ref a∧H2 a=some (exN a (.ref C) none)∧ExI K C S∧findIn K (.ref C) f=some none ∧
 ∀dx,H2 dx=none->dx≠a->D.nx σ (upd (upd H2 dx (.xd [(f,y)])) a (exN a (.ref C) (some dx)))
theorem ps_fldE {o value:Expr} {f:Str} {ta tv:TE} {pos pos':Pos} (ha:PE X o ta) (hv:PE X value tv) (hs:swapsWith value (some (.Attribute o f pos')) pos.line X.env=pure false):PS X (.Assign [.Attribute o f pos'] value pos) (sFldE X.K ta tv f):=by
 intro pins s σ H D I h
 refine plainObj_wpAny_Assign_Attribute (thn (hv pins s σ H _ I h) fun u s1 ⟨y,H1,I1,ry,q⟩=>thn (ha pins s1 σ H1 _ I1 q) fun ov s2 ⟨x,H2,I2,rx,a,C,S,ex,ea,xi,na,q2⟩=>?_) hs
 subst ex
 cases rx
 obtain ⟨⟨ob,vs,t,g0,oc,od,odd,v0,v1⟩,_⟩:=(show ObjOk X.prog X.w H2 s2.heap a (exN a (.ref C) none) from I2.hok a _ ea)
 obtain ⟨N,nm,qn,bs,hdct,sn,sub,ab,col,dd,k0,k1,k2,k3,k5,cd,hC,T,hc,hm⟩:=xi.at I2.kIn
 have J:InstAt s2.heap a ob C none:=by
  obtain ⟨c1,d1,e1,l1⟩:=ob
  dsimp only at oc od odd
  subst oc od odd
  exact ⟨g0,rfl,rfl,trivial⟩
 have alt:a < s2.heap.objs.size:=Heap.lt_size g0
 have hn:H2 s2.heap.objs.size=none:=I2.hok.fresh (Nat.le_refl _)
 have nea:s2.heap.objs.size≠a:=Ne.symm (Nat.ne_of_lt alt)
 refine set_exc I2.kIn J hc hm (by rw[refuseLoop_ref,refuseLoop_ref];exact refuse_vErr _) xi.xc.mo xi.sa xi.xc.hd na od fun h' kp g1 ns=>?_
 have kept:∀b ub,H2 b=none->s2.heap.get? b=some ub->h'.get? b=some ub:=fun b ub n z=>kp b ub (fun e=>by rw[e,ea] at n;cases n) z
 have nu:∀b ub,s2.heap.get? b=some ub->H2 b=none->upd (upd H2 s2.heap.objs.size (.xd [(f,y)])) a (exN a (.ref C) (some s2.heap.objs.size)) b=none:=fun b ub z n=>by
  rw[upd_ne (fun e=>by rw[e,ea] at n;cases n),upd_ne (Nat.ne_of_lt (Heap.lt_size z))];exact n
 have old:∀b u',H2 b=some u'->b≠a->upd (upd H2 s2.heap.objs.size (.xd [(f,y)])) a (exN a (.ref C) (some s2.heap.objs.size)) b=some u':=fun b u' z n=>by
  rw[upd_ne n,upd_ne (fun e=>by rw[e,hn] at z;cases z)];exact z
 have nat:∀b xs,H2 b=some (.tup xs)->b≠a:=fun b xs z e=>by rw[e,ea] at z;cases z
 refine ⟨σ,_,I2.un (t':=s2.toks+2) ⟨fun b ub z n _ _=>kept b ub n z,fun b ub z n _ _=>⟨ub.slots,kept b ub n z⟩,fun b ub z n _=>nu b ub z n,fun b ub z _=>?_,fun b xs z=>old b _ z (nat b xs z),fun b ub u' z=>old b _ z (fun e=>by rw[e,ea] at z;cases z),fun b ps z=>⟨#[],by rw[old b _ z (fun e=>by rw[e,ea] at z;cases z)];simp⟩⟩ (fun b u' z=>?_),q2 _ hn nea⟩
 ·by_cases e:b=a
  ·subst e;exact ⟨_,g1⟩
  ·exact ⟨ub,kp b ub e z⟩
 ·by_cases e:b=a
  ·subst e
   rw[upd_same] at z
   cases z
   exact exN_ok g1 oc od rfl v0 v1
  ·rw[upd_ne e] at z
   by_cases e2:b=s2.heap.objs.size
   ·subst e2
    rw[upd_same] at z
    cases z
    refine ⟨_,ns,fun gn=>?_⟩
    show RelO (List.lookup gn [(f,y)]) (if gn=f then some u else none)
    by_cases q:gn=f
    ·subst q
     rw[if_pos rfl]
     simp only[List.lookup,beq_self_eq_true]
     exact ry
    ·rw[if_neg q]
     have hb:(gn == f)=false:=beq_eq_false_iff_ne.mpr q
     simp only[List.lookup,hb]
     exact True.intro
   ·rw[upd_ne e2] at z
    have ne2:∀c,(c=b∨H2 c=some (.own b))->c≠a:=fun c hcc=>by
     rcases hcc with rfl | hcc
     ·exact e
     ·intro z2;rw[z2,ea] at hcc;cases hcc
    exact (I2.hok b u' z).stay (fun c ub hcc q=>kp c ub (ne2 c hcc) q) (fun c q=>old c _ q (ne2 c (.inr q))) fun c xs q=>old c _ q (nat c xs q)
def tMakeE (C:Addr) (sp:Sp) (t:TA):TE:=fun σ H Q=>t σ H fun vs H1=>∀e,H1 e=none->sp (.ref e :: vs) (upd H1 e (exN e (.ref C) none)) (fun v H2=>v=.non∧Q (.ref e) H2) E0
theorem Inv.newExc (hex:X.ex=[]) (I:Inv X pins σ H s) {C:Addr} {rest:List Value}:H (s.heap.objs.size+1)=none ∧
  Inv X pins σ (upd H (s.heap.objs.size+1) (exN (s.heap.objs.size+1) (.ref C) none)) { s with heap:=(s.heap.push { cls:=.type "tuple",data:=.seq rest.toArray }).push (newExcObj C s.heap.objs.size) }:=by
 have hn:H (s.heap.objs.size+1)=none:=I.hok.fresh (Nat.le_succ _)
 have I1:=I.kept (t':=s.toks) (h':=s.heap.push { cls:=.type "tuple",data:=.seq rest.toArray }) fun b u q=>Heap.get?_push_of_some _ q
 have e2:((s.heap.push { cls:=.type "tuple",data:=.seq rest.toArray }).push (newExcObj C s.heap.objs.size)).get? (s.heap.objs.size+1)=some (newExcObj C s.heap.objs.size):=by heap_get
 exact ⟨hn,I1.laid (a:=s.heap.objs.size+1) (o:=exN (s.heap.objs.size+1) (.ref C) none) (t':=s.toks) (fun b u q=>Heap.get?_push_of_some _ q) (Nat.le_of_eq (Heap.size_push _ _)) (exN_ok e2 rfl rfl rfl rfl rfl)⟩
theorem pe_makeE {k:Nat} {C S f:Addr} {fd:FuncData} {ps:List Str} {sp:Sp} {x:Str} {e:Expr} {es:List Expr} {t:TA} {p pos:Pos} (hex:X.ex=[]) (xi:ExI X.K C S) (hi:findIn X.K (.ref C) "__init__"=some (some (.ref f))) (hf:typeIn X.K (.ref f)=some (.type "function")) (kp:keepIn X.K (.ref C)=true)
  (F:FnOk X.prog X.w X.K X.mg X.base CX0 k f fd ps sp) (hr:Room (k+1) X.A) (hg:Gl X x) (hm:X.mg x=some (.ref C)) (hb:Binds X.K fd ps []) (ha:PA X (e :: es) t) (hps:Nat.ble ps.length 1000=true:=by rfl)
  (hdb:(x == ("__debug__":Str))=false:=by decide) (he:starEach (e :: es) X.env=(false,eval e X.env) :: starEach es X.env:=by rfl) (hpl:(backTo pos (starEach es X.env)).any (·.1)=false:=by rfl) :
  PE X (.Call (.Name x p) (e :: es) [] pos) (tMakeE C sp t):=by
 intro pins s σ H Q I h
 refine wpAny_Call_Name_kw (ld_glob I hg hm ?_ hdb)
 refine PySem.W.callWith_K (h₀:=X.base) I.ok.mod.kin kp (thn (ha pos pins s σ H _ I h) fun us s1 ⟨vs,H1,I1,r,q⟩=>⟨I1.kIn,?_⟩) he hpl
 obtain ⟨N,nm,qn,bs,hdct,sn,sub,ab,col,dd,k0,k1,k2,k3,k5,cd,hC,T,hc,hmro⟩:=xi.at I1.kIn
 obtain ⟨hn,I2⟩:=I1.newExc hex (C:=C) (rest:=us)
 have hq:=q _ hn
 have r2:Vals (V.ref (s1.heap.objs.size+1) :: vs) (Value.ref (s1.heap.objs.size+1) :: us):=.cons rfl r
 have hlen:(Value.ref (s1.heap.objs.size+1) :: us++[]).length=ps.length:=by
  rw[List.append_nil]
  have e':=r2.length
  rw[F.len _ _ _ _ hq] at e'
  exact e'.symm
 have small:us.length<=sizeLine:=by
  have e':=r2.length
  rw[F.len _ _ _ _ hq,List.length_cons] at e'
  have:=Nat.le_of_ble_eq_true hps
  have z:(1000:Nat)<=sizeLine:=by rw[sizeLine_eq];decide
  lia
 have bd:=hb _ (Value.ref (s1.heap.objs.size+1) :: us) I2.kIn hlen
 rw[List.append_nil] at bd
 refine wpAny_call (call_excI (h:=s1.heap) (g:=s1.gens) (d:=s1.drawn) (t:=s1.toks) (os:=s1.os) T hC (looks_findIn I1.kIn hi) (fun self=>bind_fn I1.kIn self hf) small (codeAny_mono (F.run _ X.stack _ _ ⟨Value.ref (s1.heap.objs.size+1) :: us,[]⟩ (Value.ref (s1.heap.objs.size+1) :: us) _ _ E0 (hr.make C us [])
  (I2.env0.make C us []) bd r2 hq) fun r' s' hq'=>?_))
 cases r' with
 | error z=>exact hq'.elim
 | ok fl =>
  cases fl with
  | ret u =>
   obtain ⟨v,H',I3,rv,ev,q3⟩:=I2.after hq'
   subst ev
   exact ⟨rv,⟨V.ref (s1.heap.objs.size+1),H',I3,rfl,q3⟩⟩
  | next=>exact False.elim hq'
  | brk=>exact False.elim hq'
  | cont=>exact False.elim hq'
def hidE (H:Hp) (a:Addr):Hp:=fun b=>if b=a then none else H b
theorem hid_ne {H:Hp} {a b:Addr} (h:b≠a):hidE H a b=H b:=by unfold hidE;rw[if_neg h]
theorem hid_of {H:Hp} {a b:Addr} {u:HO} (h:hidE H a b=some u):b≠a∧H b=some u:=by
 unfold hidE at h
 split at h
 ·cases h
 ·exact ⟨by assumption,h⟩
def ThrowsT (X:Cx) (E:XK):Prop:=∀(pins:List (Addr×Obj)) (σ:St) (H:Hp) (s:Shared) (a:Addr) (cls:Value) (dx:Option Addr),Inv X pins σ H s->H a=some (exN a cls dx)->X.H₀ a=none->E cls dx (hidE H a)->X.xe (.ref a) s
theorem throwsT_def {P : Program} {w : World} {K : Frag} {mg : Str → Option Value} {base : Heap} {N : List Str} {qual : Str} {scope : Scope} {f : Addr} {cd : Value} {A : Around} {outer : List Env} {s : Shared} {H : Hp} {E : XK} :
    ThrowsT (cxOf (CXE P w) P w K mg base N qual scope f cd A outer s H E) E := by
  intro pins σ H1 s1 e cls dx I he h0 hE
  have h0 : H e = none := h0
  obtain ⟨⟨oe, vs, t, g0, oc, od, odd, v0, v1⟩, _⟩ := (show ObjOk P w H1 s1.heap e (exN e cls dx) from I.hok e _ he)
  subst oc
  have hfr : (A.deeper (envOfC qual scope s.heap.objs.size f cd)).frames = some (envOfC qual scope s.heap.objs.size f cd :: outer) := I.ok.frames
  have hstk : s1.heap.FunFrames base (envOfC qual scope s.heap.objs.size f cd :: outer) := I.stack
  have nL : ∀ b o, s.heap.get? b = some o → b ≠ s.heap.objs.size := fun b o q => Nat.ne_of_lt (Heap.lt_size q)
  -- e is none of the entry's untracked things
  have ns0 : s.heap.get? e = none := by
    cases q : s.heap.get? e with
    | none => rfl
    | some o =>
      have := I.base.free e o q h0 (List.not_mem_nil)
      rw [he] at this; cases this
  have enf : e ∉ frs (envOfC qual scope s.heap.objs.size f cd :: outer) := fun z => by
    have := I.stkFree e z
    rw [he] at this; cases this
  obtain ⟨hid, eh⟩ : ∃ l, l = e :: frs (envOfC qual scope s.heap.objs.size f cd :: outer) := ⟨_, rfl⟩
  have hfun : s1.heap.FunFrames (hideAll s1.heap hid) (envOfC qual scope s.heap.objs.size f cd :: outer) := funFrames_hide hstk fun env hm b hb => by rw [eh]; exact List.mem_cons_of_mem _ (List.mem_filterMap.mpr ⟨env, hm, hb⟩)
  have hD : DicAt e dx s1.heap := odd ▸ DicAt.of g0
  have c1 : ∀ b u, hidE H1 e b = some u → ∃ o, (hideAll s1.heap hid).get? b = some o := fun b u q => by
    obtain ⟨ne, q⟩ := hid_of q
    obtain ⟨o, z⟩ := (I.hok b u q).there
    refine ⟨o, hideAll_get _ z fun m => ?_⟩
    rw [eh] at m
    rcases List.mem_cons.mp m with m | m
    · exact ne m
    · have := I.stkFree b m
      rw [q] at this; cases this
  have c2 : ∀ b o, s.heap.get? b = some o → b ∉ frs outer → ∃ o', (hideAll s1.heap hid).get? b = some o' := fun b o q hb => by
    obtain ⟨o', z⟩ := I.base.there b o q (List.not_mem_nil)
    refine ⟨o', hideAll_get _ z fun m => ?_⟩
    rw [eh, frs_cons (L := s.heap.objs.size) rfl] at m
    rcases List.mem_cons.mp m with m | m
    · rw [m, ns0] at q; cases q
    rcases List.mem_cons.mp m with m | m
    · exact nL b o q m
    · exact hb m
  have hU0 : Un (frs outer) [] H H1 s.heap s1.heap := I.base
  have hU : Un (frs outer) [] H (hidE H1 e) s.heap s1.heap := ⟨hU0.keep, hU0.slot, fun b o q n hx => by
      rw [hid_ne (fun z => by rw [z, ns0] at q; cases q)]; exact hU0.free b o q n hx, hU0.there, fun b xs q => by
      have q' := hU0.tups b xs q
      rw [hid_ne (fun z => by rw [z, he] at q'; cases q')]; exact q', fun b o u q => by
      have q' := hU0.frzs b o u q
      rw [hid_ne (fun z => by rw [z, he] at q'; cases q')]; exact q', fun b ps q => by
      obtain ⟨m, q'⟩ := hU0.tbls b ps q
      exact ⟨m, by rw [hid_ne (fun z => by rw [z, he] at q'; cases q')]; exact q'⟩⟩
  have hok1 : HOk P w (hidE H1 e) s1.heap := fun b u q => by
    obtain ⟨ne, q⟩ := hid_of q
    exact (I.hok b u q).stay (fun c v _ z => z) (fun c z => by rw [hid_ne (fun y => by rw [y, he] at z; cases z)]; exact z) fun c xs z => by rw [hid_ne (fun y => by rw [y, he] at z; cases z)]; exact z
  refine wpAny_mono (wpAny_dict (e := e) (d := dx) (dk_leaving _ _) (wpAny_leaving_firstW (E := fun _ _ => False) (Q := fun _ s2 => Fly0 P w outer H s (hidE H1 e) e t oe.cls (hideAll s1.heap hid) s2)
    (base := hideAll s1.heap hid) (L := s.heap.objs.size) hfr hfun rfl g0 (fun b o q => of_hideAll _ q) (hideAll_none _ (by rw [eh]; exact List.mem_cons_self)) od v1 v0 fun h2 hL => ?_) hD) (fun _ s2 ⟨F, dc⟩ => ⟨e, t, oe.cls, dx, hidE H1 e, _, rfl, ⟨F, dc⟩, hE⟩) (fun _ _ z => z.1.elim)
  obtain ⟨x1, ⟨_, _, x2⟩, x3, x4⟩ := hL
  have fl : Heap.FlyingW (hideAll s1.heap hid) outer e oe.cls (.ref t) h2 := ⟨x1, hideAll_none _ (by rw [eh]; exact List.mem_cons_self), x2, x3⟩
  obtain ⟨U2, ok2⟩ := fly_un hU hok1 (fun b o q => of_hideAll _ q) x1 x4 c1 c2 I.ok.frf (fun b hb o q => by
    obtain ⟨_, o', e', d⟩ := I.ok.funs.mem hb
    have e' : s.heap.get? b = some o' := e'
    rw [q] at e'; cases e'; exact d)
  exact ⟨I.os, I.bare, U2, ok2, fl, c1, c2⟩
end
end L2
namespace L2
open PySem PySem.Spec PyProof.Rows PySem.W
section
variable {X:Cx}
def tRaiseE (K:Frag) (H0:Hp) (te:TE) (E:XK):TS:=fun _ σ H=>te σ H fun v H1=>∃a C S dx,v=.ref a∧H1 a=some (exN a (.ref C) dx)∧H0 a=none∧ExI K C S∧E (.ref C) dx (hidE H1 a)
theorem ps_raiseE {E:XK} {e:Expr} {te:TE} {pos:Pos} (hx:ThrowsT X E) (hc:X.calm=true) (he:PE X e te):PS X (.Raise (some e) none pos) (tRaiseE X.K X.H₀ te E):=by
 intro pins s σ H D I h
 rw[arm_exec_Raise]
 refine wpAny_bind (wpAny_standAt ?_)
 unfold raiseStmt
 dsimp only
 refine wpAny_bind (wpAny_bind (thn (he pins s σ H _ I h) fun u s1 ⟨v,H1,I1,rv,a,C,S,dx,ev,ea,h0,xi,q⟩=>wpAny_bind (wpAny_standAt (wpAny_pure ?_))))
 subst ev
 cases rv
 obtain ⟨⟨ob,vs,t,g0,oc,od,odd,v0,v1⟩,_⟩:=(show ObjOk X.prog X.w H1 s1.heap a (exN a (.ref C) dx) from I1.hok a _ ea)
 obtain ⟨N,nm,qn,bs,hdct,sn,sub,ab,col,dd,k0,k1,k2,k3,k5,cd,hC,T,hcl,hm⟩:=xi.at I1.kIn
 have hxe:=hx pins σ H1 s1 a _ _ I1 ea h0 q
 have hhd:=I1.ok.hd hc
 obtain ⟨c1,d1,e1,l1⟩:=ob
 dsimp only at oc od odd
 subst oc od odd
 have hcB:(Value.ref C :: .ref S :: vErr).contains (.type "BaseException")=true:=by rfl
 obtain ⟨hp,gs,dr,tk,os⟩:=s1
 have LT:Looks (model X.prog X.w) hp (typeOf (.ref a)) (.ref C):=(Looks.ld g0).andThen .now
 have LTT:Looks (model X.prog X.w) hp (typeOf (.ref C)) (.type "type"):=(Looks.ld hC).andThen .now
 have LIT:Looks (model X.prog X.w) hp (isType (.ref a)) false:=fun A' Q' E' s' k z=>by
  unfold isType loadHead
  exact wpAny_bind (wpAny_loadPart (k _ _ g0) (wpAny_pure z))
 have LIE:Looks (model X.prog X.w) hp (isExcClass (.ref a)) false:=fun A' Q' E' s' k z=>by
  unfold isExcClass
  refine wpAny_bind ((LIT.keeps k).here ?_)
  rw[if_neg Bool.false_ne_true]
  exact wpAny_pure z
 have LIB:Looks (model X.prog X.w) hp (isInstance (.ref a) (.type "BaseException")) true:=LT.andThen (looks_mroIn (show X.K.In hp from I1.kIn) xi.xc.mb)
 simp only[evalOpt,Option.map]
 refine wpAny_bind (wpAny_pure (wpAny_bind (wpAny_holding ?_)))
 unfold excFromValue
 refine wpAny_bind (Looks.at LIE ?_)
 rw[if_neg Bool.false_ne_true]
 refine wpAny_bind (Looks.at LIB ?_)
 rw[if_pos rfl]
 refine wpAny_pure ?_
 refine wpAny_bind (Looks.at LIT ?_)
 rw[if_neg Bool.false_ne_true]
 unfold raisedInstance
 refine wpAny_bind (wpAny_bind (Looks.at LT (wpAny_bind (Looks.at LTT ?_))))
 rw[if_pos (by rfl)]
 refine wpAny_pure (wpAny_bind ?_)
 unfold setFlight
 refine wpAny_bind (wpAny_field g0 rfl v1 ?_)
 rw[if_neg (by decide)]
 exact wpAny_pure (wpAny_raiseNew_none hhd hxe)
def tFldE (K:Frag) (ta:TE) (f:Str):TE:=fun σ H Q=>ta σ H fun x H1=>∃a C dx fs v,x=.ref a∧H1 a=some (exO a (.ref C) (some dx))∧H1 dx=some (.xd fs)∧ExC K C∧findIn K (.ref C) f=some none∧fs.lookup f=some v∧Q v H1
theorem exD_inst {pins:List (Addr×Obj)} {σ:St} {H:Hp} {s:Shared} {a C dx:Addr} {fs:List (Str×V)} (I:Inv X pins σ H s) (e:H a=some (exO a (.ref C) (some dx))) (ed:H dx=some (.xd fs)):∃o od,InstAt s.heap a o C (some od)∧∃mA:Str->Option Value,(∀f,RelO (fs.lookup f) (mA f))∧∀n,lookIn n od=some (mA n):=by
 obtain ⟨⟨o,vs,g,c,d,dd⟩,_⟩:=(show ObjOk X.prog X.w H s.heap a (exO a (.ref C) (some dx)) from I.hok a _ e)
 obtain ⟨mA,ns,r⟩:=(show ObjOk X.prog X.w H s.heap dx (.xd fs) from I.hok dx _ ed)
 obtain ⟨od,god,hl⟩:=lookIn_ns ns
 obtain ⟨oc,odi,dt,sl⟩:=o
 dsimp only at c d dd
 subst c d dd
 exact ⟨_,od,⟨g,rfl,rfl,god⟩,mA,r,hl⟩
theorem handed_rel {v:V} {u:Value} (r:RelV v u):handedIn u=true:=by
 cases v with
 | non=>cases (show u=Value.none from r);rfl
 | bl b=>cases (show u=Value.bool b from r);rfl
 | int i=>obtain ⟨t,rfl⟩:=(show ∃t,u=Value.int i t from r);rfl
 | str y=>obtain ⟨t,rfl⟩:=(show ∃t,u=Value.str y t from r);rfl
 | byt y=>obtain ⟨t,rfl⟩:=(show ∃t,u=Value.bytes y t from r);rfl
 | flt y=>obtain ⟨t,rfl⟩:=(show ∃t,u=Value.float y t from r);rfl
 | ref y=>cases (show u=Value.ref y from r);rfl
 | ty n=>cases (show u=Value.type n from r);rfl
theorem pe_fldE {e:Expr} {f:Str} {pos:Pos} {ta:TE} (he:PE X e ta) (hb:attributeBase e f X.env (eval e X.env)=eval e X.env):PE X (.Attribute e f pos) (tFldE X.K ta f):=by
 intro pins s σ H Q I h
 refine attr_of hb (thn (he pins s σ H _ I h) fun u s1 ⟨x,H1,I1,rx,a,C,dx,fs,v,ex,ea,ed,xc,na,lf,q⟩=>?_)
 subst ex
 cases rx
 obtain ⟨o,od,J,mA,r,hl⟩:=exD_inst I1 ea ed
 have rf:=r f
 rw[lf] at rf
 cases hm:mA f with
 | none=>rw[hm] at rf;exact rf.elim
 | some u =>
  rw[hm] at rf
  have rf:RelV v u:=rf
  have tokd:=I1.tok (s1.toks+1)
  obtain ⟨hp,gs,dr,tk,os⟩:=s1
  exact exc_get (show X.K.In hp from I1.kIn) J xc na (by rw[hl,hm]) (handed_rel rf) ⟨v,H1,tokd,rf,q⟩
def rIsX (K:Frag) (c:Value):V->Hp->VK->Prop:=fun x H Q=>∃a C dx b,x=.ref a∧H a=some (exO a (.ref C) dx)∧(∀d,dx=some d->∃fs,H d=some (.xd fs))∧ExC K C∧kitOne K (.ref C) c=some b∧Q (.bl b) H
theorem exA_inst {pins:List (Addr×Obj)} {σ:St} {H:Hp} {s:Shared} {a C:Addr} {dx:Option Addr} (I:Inv X pins σ H s) (e:H a=some (exO a (.ref C) dx)) (ed:∀d,dx=some d->∃fs,H d=some (.xd fs)):∃o od,InstAt s.heap a o C od:=by
 cases dx with
 | none=>obtain ⟨o,J⟩:=exO_inst I e;exact ⟨o,none,J⟩
 | some d =>
  obtain ⟨fs,ed⟩:=ed d rfl
  obtain ⟨o,od,J,_⟩:=exD_inst I e ed
  exact ⟨o,some od,J⟩
theorem kitx_excA {K:Frag} {a C:Addr} (e:ExC K C):KitX K (.ref a) (.ref C) (fun h=>∃o od,InstAt h a o C od) where
 ty:=fun _ _ _ ⟨_,_,I⟩=>I.type
 it:=fun _ _ X _=>by
  obtain ⟨c,d,cd,sl,lk⟩:=e.obj
  intro A' Q' E' s' k q
  unfold isType loadHead
  exact wpAny_bind (wpAny_loadPart (k _ _ (X _ _ lk)) (wpAny_pure q))
 ne:=fun h tp dd its n sl X htp=>by
  obtain ⟨c,d,cd,sl',lk⟩:=e.obj
  rcases Bool.eq_false_or_eq_true (Value.ref C == Value.ref tp) with q | q
  ·have z:C=tp:=Value.ref.inj (beq_iff_eq.mp q)
   subst z
   rw[X _ _ lk] at htp
   cases htp
  ·exact q
 ca:=fun {prog w A E Q s} X ⟨_,_,I⟩ k=>by
  obtain ⟨cd,hc,_⟩:=any_some e.hd
  obtain ⟨h,g,d,t,os⟩:=s
  exact exc_class X I e.ga e.gt e.mb e.mo (by rw[hc];rfl) e.ca e.sg e.tk k
theorem isX_ok {pins:List (Addr×Obj)} {σ:St} {H:Hp} {s:Shared} {A:Around} {E:Value->Shared->Prop} {Q:Value->Shared->Prop} {a C:Addr} {dx:Option Addr} {c:Value} {b:Bool} (I:Inv X pins σ H s) (e:H a=some (exO a (.ref C) dx)) (ed:∀d,dx=some d->∃fs,H d=some (.xd fs)) (xc:ExC X.K C)
  (k:kitOne X.K (.ref C) c=some b) (h:∀tk,Q (.bool b) { s with toks:=tk }):wpAny (model X.prog X.w) A (call (.builtin "isinstance") [.ref a,c]) Q E s:=kia_one (kitx_excA xc) I.kIn (exA_inst I e ed) k (fun z=>nomatch z) h
theorem call_isX {cv:V} {c:Value} (rc:∀u,RelV cv u->u=c):CallR X (.builtin "isinstance") (fun vs H Q=>∃x,vs=[x,cv]∧rIsX X.K c x H Q):=by
 intro pins s σ H vs us Q I r h
 obtain ⟨x,rfl,a,C,dx,b,rfl,ea,ed,xc,ek,q⟩:=h
 obtain ⟨u,v,rfl,ru,rv⟩:=vals2 r
 cases ru
 rw[rc v rv]
 exact isX_ok I ea ed xc ek fun tk=>⟨.bl b,H,I.tok tk,rfl,q⟩
end
end L2
namespace L2
open PySem PySem.Spec PyProof.Rows Nm
def rSlS:V->Option Int->Option Int->Hp->VK->Prop:=fun x _ _ H Q=>∃y,x=.str y∧y.length<=1000∧∀z,Q (.str z) H
theorem sl_strA {X:Cx}:SlR X rSlS:=by
 intro pins s σ H x v vl vu lo hi sl Q I rx hs pl pu h
 obtain ⟨y,rfl,hy,q⟩:=h
 obtain ⟨t,rfl⟩:=(show ∃t,v=Value.str y t from rx)
 refine ⟨"str",_,PySem.F.slot_str_getitem.lookup,typeIs_str _ _ _,?_⟩
 obtain ⟨l,e1⟩:∃l:Option (Int×Tok),vl=partValue l:=by cases pl with | none=>exact ⟨none,rfl⟩ | int i t=>exact ⟨some (i,t),rfl⟩
 obtain ⟨u,e2⟩:∃u:Option (Int×Tok),vu=partValue u:=by cases pu with | none=>exact ⟨none,rfl⟩ | int i t=>exact ⟨some (i,t),rfl⟩
 subst e1 e2
 refine wpAny_getItem_str_slice (l:=l) (u:=u) (st:=none) hs rfl ?_
 unfold sliceMade
 split
 ·exact ⟨.str y,H,I,⟨_,rfl⟩,q y⟩
 ·refine ⟨?_,⟨.str _,H,I.tok _,⟨_,rfl⟩,q _⟩⟩
  have h1:((slicePicked y l u none).filterMap (y.cps[·]?)).length<=(slicePicked y l u none).length:=List.length_filterMap_le ..
  have h2:(slicePicked y l u none).length<=y.length:=indices_len_le _ _ _
  have h3:(1000:Nat)<=sizeLine:=by rw[sizeLine_eq];decide
  show ((slicePicked y l u none).filterMap (y.cps[·]?)).toArray.size<=sizeLine
  rw[List.size_toArray]
  lia
def kBl:Kind Bool where
 R:=fun _ _ x i=>x=.bl i
 d:=0
 inj:=fun _ h1 h2=>by rw[h1] at h2;cases h2;rfl
 rc:=fun {X pins σ H s x y v u a b A} I rx ry h1 h2 _=>by
  subst h1 h2
  cases (show v=Value.bool a from rx)
  cases (show u=Value.bool b from ry)
  have q:=SeqAt.RcAt.bool_bool (A:=A) (s:=s) a b
  rwa [Bool.beq_eq_decide_eq] at q
 ne:=fun {X pins σ H s x y v u a b A} I rx ry h1 h2 _=>by
  subst h1 h2
  cases (show v=Value.bool a from rx)
  cases (show u=Value.bool b from ry)
  have q:=SeqAt.RcNeAt.bool_bool (A:=A) (s:=s) a b
  rwa [Bool.beq_eq_decide_eq] at q
 eq:=fun {X pins σ H s x y v u a b A} I rx ry h1 h2 _=>by
  subst h1 h2
  cases (show v=Value.bool a from rx)
  cases (show u=Value.bool b from ry)
  have q:=SeqAt.EqAt.bool_bool (A:=A) (s:=s) a b
  rwa [Bool.beq_eq_decide_eq] at q
def sp_initE (K:PySem.W.Frag) (C S:Addr) (f:Str):Sp:=fun vs H Q _=>∃e y,vs=[.ref e,y]∧H e=some (exN e (.ref C) none)∧∀dx,H dx=none->dx≠e->Q .non (upd (upd H dx (.xd [(f,y)])) e (exN e (.ref C) (some dx)))
theorem same_hid {H H1:Hp} {e dx:Addr} {u u' o:HO} (hn:H e=none) (s:Same H H1) (hd:H1 dx=none):Same H (hidE (upd (upd (upd H1 e u) dx o) e u') e):=fun b w q=>by
 have be:b≠e:=fun z=>by rw[z,hn] at q;cases q
 have bd:b≠dx:=fun z=>by have:=s _ _ q;rw[z,hd] at this;cases this
 rw[hid_ne be,upd_ne be,upd_ne bd,upd_ne be]
 exact s _ _ q
def sp_raised17 (cs:List Addr) (fs:List Str):Sp:=fun vs H Q E=>∃(i:Nat) (y:V),vs=[.int i,y]∧i < 10∧(i < 7->∀dx H',Same H H'->H' dx=some (.xd [(fs.getD i "",y)])->E (.ref (cs.getD i 0)) (some dx) H')∧(7<=i->E (.ref (cs.getD i 0)) none H)
def sp_caught17 (cs:List Addr):Sp:=fun vs H Q _=>∃(i:Nat) (y:V),vs=[.int i,y]∧i < 10∧∀r a dx H',Same H H'->H' r=some (.tup [.int i,y,.ref a])->H' a=some (exO a (.ref (cs.getD i 0)) dx)->(∀d,dx=some d->∃fs,H' d=some (.xd fs))->Q (.ref r) H'
def sp_kinds17 (cs:List Addr):Sp:=fun vs H Q _=>∃(i:Nat) (a:Addr) (dx:Option Addr),vs=[.ref a]∧i < 10∧H a=some (exO a (.ref (cs.getD i 0)) dx)∧(∀d,dx=some d->∃fs,H d=some (.xd fs))∧∀r H',Same H H'->H' r=some (.lst ((List.range 10).map fun j=>V.bl (decide (j=i))))->Q (.ref r) H'
end L2
namespace L2
open PySem PySem.Spec PyProof.Rows Nm
def kStr:Kind Str where
 R:=fun _ _ x i=>x=.str i
 d:=0
 inj:=fun _ h1 h2=>by rw[h1] at h2;cases h2;rfl
 rc:=fun {X pins σ H s x y v u a b A} I rx ry h1 h2 _=>by
  subst h1 h2
  obtain ⟨t,rfl⟩:=rx
  obtain ⟨t',rfl⟩:=ry
  have q:=SeqAt.RcAt.str_str (A:=A) (s:=s) a t b t'
  rwa [Bool.beq_eq_decide_eq] at q
 ne:=fun {X pins σ H s x y v u a b A} I rx ry h1 h2 _=>by
  subst h1 h2
  obtain ⟨t,rfl⟩:=rx
  obtain ⟨t',rfl⟩:=ry
  have q:=SeqAt.RcNeAt.str_str (A:=A) (s:=s) a t b t'
  rwa [Bool.beq_eq_decide_eq] at q
 eq:=fun {X pins σ H s x y v u a b A} I rx ry h1 h2 _=>by
  subst h1 h2
  obtain ⟨t,rfl⟩:=rx
  obtain ⟨t',rfl⟩:=ry
  have q:=SeqAt.EqAt.str_str (A:=A) (s:=s) a t b t'
  rwa [Bool.beq_eq_decide_eq] at q
end L2
open L2
local macro_rules | `(tactic| walk_at "hl") => `(tactic| first | (show _ ≤ sizeLine; with_unfolding_all decide) | (with_unfolding_all exact (by decide)))
local macro_rules | `(tactic| walk_at "sq") => `(tactic| first | with_reducible assumption | with_reducible exact SqT.of (by assumption) | with_reducible exact SqL.of (by assumption) | with_reducible exact SqT.of upd_same | with_reducible exact SqL.of upd_same | assumption)
local macro_rules | `(tactic| walk_at "sc") => `(tactic| first | (with_reducible show (0 : Int) < _; decide) | with_reducible exact cmulS_r (by decide) (by decide) | with_reducible exact cmulS_l (by decide) (by decide) | with_reducible exact cpow_of (by decide) (by decide) (by decide))
local macro_rules | `(tactic| walk_at "rd") => `(tactic| first
  | with_reducible refine rd_seq ?_
  | with_reducible refine rd_next ?_
  | with_reducible refine rd_asg ?_
  | with_reducible refine rd_gname ?_
  | ((with_reducible refine' rd_var ?hx1 ?_); (case hx1 => with_unfolding_all rfl))
  | with_reducible refine rd_c ?_
  | with_reducible refine rd_op ?_
  | with_reducible refine rd_I0 ?_
  | with_reducible refine rd_un ?_
  | with_reducible refine rd_U ?_
  | with_reducible refine rd_eqI ?_
  | with_reducible refine rd_neI ?_
  | with_reducible refine rd_eqS ?_
  | with_reducible refine rd_neS ?_
  | with_reducible refine rd_eqB ?_
  | with_reducible refine rd_neB ?_
  | with_reducible refine rd_iZip ?_
  | with_reducible refine rd_listZip ?_
  | with_reducible refine rd_test ?_
  | with_reducible refine rd_tB ?_
  | with_reducible refine rd_ret ?_
  | with_reducible refine rd_retN ?_
  | with_reducible refine rd_ifS ?_
  | with_reducible refine rd_and ?_
  | with_reducible refine rd_or ?_
  | with_reducible refine rd_not ?_
  | with_reducible refine rd_andV ?_
  | with_reducible refine rd_orV ?_
  | with_reducible refine rd_notV ?_
  | with_reducible refine rd_ifE ?_
  | with_reducible refine rd_yes ?_
  | with_reducible refine iteF ?_
  | with_reducible refine iteT ?_
  | with_reducible refine iteNT ?_
  | with_reducible refine iteNF ?_
  | with_reducible refine rd_wb ?_
  | with_reducible refine rd_nil ?_
  | with_reducible refine rd_cons ?_
  | with_reducible refine rd_tup ?_
  | with_reducible refine rd_lst ?_
  | with_reducible refine rd_call ?_
  | with_reducible refine rd_cb ?_
  | with_reducible refine rd_drop ?_
  | with_reducible refine rd_par ?_
  | with_reducible refine rd_augS ?_
  | ((with_reducible refine' rd_aug ?hx1 ?_); (case hx1 => with_unfolding_all rfl))
  | with_reducible refine rd_ipI ?_
  | with_reducible refine rd_gsub ?_
  | with_reducible refine rd_gcons ?_
  | with_reducible refine rd_gnil ?_
  | with_reducible refine rd_sl ?_
  | with_reducible refine rd_noPart ?_
  | with_reducible refine rd_part ?_
  | with_reducible refine rd_for ?_
  | with_reducible refine rd_iList ?_
  | with_reducible refine rd_iTup ?_
  | with_reducible refine rd_iRng1 ?_
  | with_reducible refine rd_iRng2 ?_
  | ((with_reducible refine' rd_comp ?hx1 ?_); (case hx1 => with_unfolding_all rfl))
  | with_reducible refine rd_turn ?_
  | with_reducible refine rd_bm ?_
  | with_reducible refine rd_bm0 ?_
  | with_reducible refine rd_brk ?_
  | ((with_reducible refine' rd_gtup ?hx1 ?hx2 ?_); (case hx1 => walk_at "sq"); (case hx2 => with_unfolding_all rfl))
  | with_reducible refine rd_cont ?_
  | ((with_reducible refine' rd_I ?hx1 ?_); (case hx1 => walk_at "sc"))
  | ((with_reducible refine' rd_ixT ?hx1 ?hx2 ?_); (case hx1 => walk_at "sq"); (case hx2 => with_unfolding_all rfl))
  | ((with_reducible refine' rd_ixL ?hx1 ?hx2 ?_); (case hx1 => walk_at "sq"); (case hx2 => with_unfolding_all rfl))
  | ((with_reducible refine' rd_getL ?hx1 ?hx2 ?_); (case hx1 => walk_at "sq"); (case hx2 => with_unfolding_all rfl))
  | ((with_reducible refine' rd_setL ?hx1 ?hx2 ?hx3 ?_); (case hx1 => with_reducible first | assumption | exact upd_same); (case hx2 => with_unfolding_all rfl); (case hx3 => with_unfolding_all rfl))
  | with_reducible refine ⟨_, rfl, ?_⟩
  | with_reducible refine ⟨_, _, rfl, ?_⟩)
local macro_rules | `(tactic| walk_at "w") => `(tactic| repeat walk_at "rd")
namespace Lw
open PySem PySem.Spec PyProof.Rows L2 Nm
set_option maxHeartbeats 4000000
def top (i:Nat):Stmt:=PySem.Challenge.pw_helmsum_k17_refusals_apart.main.body.getD i (.Pass ⟨0,0,0,0⟩)
abbrev s__law_bag:Stmt:=top 13
abbrev s__law_take:Stmt:=top 14
abbrev s__law_low:Stmt:=top 15
abbrev s__law_great:Stmt:=top 20
abbrev s__law_top:Stmt:=top 21
abbrev s__law_any:Stmt:=top 22
abbrev s_Wrong___init__:Stmt:=inClass (top 2) 0
abbrev s_NoThing___init__:Stmt:=inClass (top 3) 0
abbrev s_TooMany___init__:Stmt:=inClass (top 4) 0
abbrev s_NotSteered___init__:Stmt:=inClass (top 7) 0
abbrev s_NotSeen___init__:Stmt:=inClass (top 8) 0
abbrev s_NoName___init__:Stmt:=inClass (top 10) 0
abbrev s_Taken___init__:Stmt:=inClass (top 11) 0
abbrev s__law_raised:Stmt:=top 24
abbrev s__law_caught:Stmt:=top 25
abbrev s__law_kinds:Stmt:=top 26
abbrev s_law:Stmt:=top 27
set_option genInjectivity false in
set_option genSizeOf false in
structure Ads where
 a__law_bag:Addr
 d__law_bag:FuncData
 a__law_take:Addr
 d__law_take:FuncData
 a__law_low:Addr
 d__law_low:FuncData
 a__law_great:Addr
 d__law_great:FuncData
 a__law_top:Addr
 d__law_top:FuncData
 a__law_any:Addr
 d__law_any:FuncData
 a_Wrong___init__:Addr
 d_Wrong___init__:FuncData
 a_NoThing___init__:Addr
 d_NoThing___init__:FuncData
 a_TooMany___init__:Addr
 d_TooMany___init__:FuncData
 a_NotSteered___init__:Addr
 d_NotSteered___init__:FuncData
 a_NotSeen___init__:Addr
 d_NotSeen___init__:FuncData
 a_NoName___init__:Addr
 d_NoName___init__:FuncData
 a_Taken___init__:Addr
 d_Taken___init__:FuncData
 a__law_raised:Addr
 d__law_raised:FuncData
 a__law_caught:Addr
 d__law_caught:FuncData
 a__law_kinds:Addr
 d__law_kinds:FuncData
 a_law:Addr
 d_law:FuncData
 a_SumError:Addr
 a_Wrong:Addr
 a_NoThing:Addr
 a_TooMany:Addr
 a_NoNumber:Addr
 a_NoFit:Addr
 a_NotSteered:Addr
 a_NotSeen:Addr
 a_NoText:Addr
 a_NoName:Addr
 a_Taken:Addr
structure Txt (K:PySem.W.Frag) (mg:Str->Option Value) (Z:Ads):Prop where
 mg__law_bag:mg "_law_bag"=some (.ref Z.a__law_bag)
 b__law_bag:Binds K Z.d__law_bag ["_law_script"] []
 F__law_bag:Fun K "_law_bag" "_law_bag" s__law_bag Z.a__law_bag Z.d__law_bag
 mg__law_take:mg "_law_take"=some (.ref Z.a__law_take)
 b__law_take:Binds K Z.d__law_take ["_law_bag_here","_law_many"] []
 F__law_take:Fun K "_law_take" "_law_take" s__law_take Z.a__law_take Z.d__law_take
 mg__law_low:mg "_law_low"=some (.ref Z.a__law_low)
 b__law_low:Binds K Z.d__law_low ["_law_top_here","_law_bottom"] []
 F__law_low:Fun K "_law_low" "_law_low" s__law_low Z.a__law_low Z.d__law_low
 mg__law_great:mg "_law_great"=some (.ref Z.a__law_great)
 b__law_great:Binds K Z.d__law_great ["_law_bag_here"] []
 F__law_great:Fun K "_law_great" "_law_great" s__law_great Z.a__law_great Z.d__law_great
 mg__law_top:mg "_law_top"=some (.ref Z.a__law_top)
 b__law_top:Binds K Z.d__law_top ["_law_bag_here"] []
 F__law_top:Fun K "_law_top" "_law_top" s__law_top Z.a__law_top Z.d__law_top
 mg__law_any:mg "_law_any"=some (.ref Z.a__law_any)
 b__law_any:Binds K Z.d__law_any ["_law_bag_here"] []
 F__law_any:Fun K "_law_any" "_law_any" s__law_any Z.a__law_any Z.d__law_any
 b_Wrong___init__:Binds K Z.d_Wrong___init__ ["self","at"] []
 F_Wrong___init__:Fun K "__init__" "Wrong.__init__" s_Wrong___init__ Z.a_Wrong___init__ Z.d_Wrong___init__
 b_NoThing___init__:Binds K Z.d_NoThing___init__ ["self","at"] []
 F_NoThing___init__:Fun K "__init__" "NoThing.__init__" s_NoThing___init__ Z.a_NoThing___init__ Z.d_NoThing___init__
 b_TooMany___init__:Binds K Z.d_TooMany___init__ ["self","most"] []
 F_TooMany___init__:Fun K "__init__" "TooMany.__init__" s_TooMany___init__ Z.a_TooMany___init__ Z.d_TooMany___init__
 b_NotSteered___init__:Binds K Z.d_NotSteered___init__ ["self","price"] []
 F_NotSteered___init__:Fun K "__init__" "NotSteered.__init__" s_NotSteered___init__ Z.a_NotSteered___init__ Z.d_NotSteered___init__
 b_NotSeen___init__:Binds K Z.d_NotSeen___init__ ["self","state"] []
 F_NotSeen___init__:Fun K "__init__" "NotSeen.__init__" s_NotSeen___init__ Z.a_NotSeen___init__ Z.d_NotSeen___init__
 b_NoName___init__:Binds K Z.d_NoName___init__ ["self","name"] []
 F_NoName___init__:Fun K "__init__" "NoName.__init__" s_NoName___init__ Z.a_NoName___init__ Z.d_NoName___init__
 b_Taken___init__:Binds K Z.d_Taken___init__ ["self","name"] []
 F_Taken___init__:Fun K "__init__" "Taken.__init__" s_Taken___init__ Z.a_Taken___init__ Z.d_Taken___init__
 mg__law_raised:mg "_law_raised"=some (.ref Z.a__law_raised)
 b__law_raised:Binds K Z.d__law_raised ["_law_which","_law_held"] []
 F__law_raised:Fun K "_law_raised" "_law_raised" s__law_raised Z.a__law_raised Z.d__law_raised
 mg__law_caught:mg "_law_caught"=some (.ref Z.a__law_caught)
 b__law_caught:Binds K Z.d__law_caught ["_law_which","_law_held"] []
 F__law_caught:Fun K "_law_caught" "_law_caught" s__law_caught Z.a__law_caught Z.d__law_caught
 mg__law_kinds:mg "_law_kinds"=some (.ref Z.a__law_kinds)
 b__law_kinds:Binds K Z.d__law_kinds ["_law_e"] []
 F__law_kinds:Fun K "_law_kinds" "_law_kinds" s__law_kinds Z.a__law_kinds Z.d__law_kinds
 F_law:Fun K "law" "law" s_law Z.a_law Z.d_law
 abs:mg "abs"=none
 len:mg "len"=none
 range:mg "range"=none
 max:mg "max"=none
 isinstance:mg "isinstance"=none
 ValueError:mg "ValueError"=none
 mg_SumError:mg "SumError"=some (.ref Z.a_SumError)
 mg_Wrong:mg "Wrong"=some (.ref Z.a_Wrong)
 mg_NoThing:mg "NoThing"=some (.ref Z.a_NoThing)
 mg_TooMany:mg "TooMany"=some (.ref Z.a_TooMany)
 mg_NoNumber:mg "NoNumber"=some (.ref Z.a_NoNumber)
 mg_NoFit:mg "NoFit"=some (.ref Z.a_NoFit)
 mg_NotSteered:mg "NotSteered"=some (.ref Z.a_NotSteered)
 mg_NotSeen:mg "NotSeen"=some (.ref Z.a_NotSeen)
 mg_NoText:mg "NoText"=some (.ref Z.a_NoText)
 mg_NoName:mg "NoName"=some (.ref Z.a_NoName)
 mg_Taken:mg "Taken"=some (.ref Z.a_Taken)
 xi_Wrong:ExI K Z.a_Wrong Z.a_SumError
 in_Wrong:PySem.W.findIn K (.ref Z.a_Wrong) "__init__"=some (some (.ref Z.a_Wrong___init__))
 fn_Wrong:PySem.W.typeIn K (.ref Z.a_Wrong___init__)=some (.type "function")
 kp_Wrong:PySem.W.keepIn K (.ref Z.a_Wrong)=true
 nt_Wrong:PySem.W.findIn K (.ref Z.a_Wrong) "at"=some none
 xi_NoThing:ExI K Z.a_NoThing Z.a_SumError
 in_NoThing:PySem.W.findIn K (.ref Z.a_NoThing) "__init__"=some (some (.ref Z.a_NoThing___init__))
 fn_NoThing:PySem.W.typeIn K (.ref Z.a_NoThing___init__)=some (.type "function")
 kp_NoThing:PySem.W.keepIn K (.ref Z.a_NoThing)=true
 nt_NoThing:PySem.W.findIn K (.ref Z.a_NoThing) "at"=some none
 xi_TooMany:ExI K Z.a_TooMany Z.a_SumError
 in_TooMany:PySem.W.findIn K (.ref Z.a_TooMany) "__init__"=some (some (.ref Z.a_TooMany___init__))
 fn_TooMany:PySem.W.typeIn K (.ref Z.a_TooMany___init__)=some (.type "function")
 kp_TooMany:PySem.W.keepIn K (.ref Z.a_TooMany)=true
 nt_TooMany:PySem.W.findIn K (.ref Z.a_TooMany) "most"=some none
 xi_NotSteered:ExI K Z.a_NotSteered Z.a_SumError
 in_NotSteered:PySem.W.findIn K (.ref Z.a_NotSteered) "__init__"=some (some (.ref Z.a_NotSteered___init__))
 fn_NotSteered:PySem.W.typeIn K (.ref Z.a_NotSteered___init__)=some (.type "function")
 kp_NotSteered:PySem.W.keepIn K (.ref Z.a_NotSteered)=true
 nt_NotSteered:PySem.W.findIn K (.ref Z.a_NotSteered) "price"=some none
 xi_NotSeen:ExI K Z.a_NotSeen Z.a_SumError
 in_NotSeen:PySem.W.findIn K (.ref Z.a_NotSeen) "__init__"=some (some (.ref Z.a_NotSeen___init__))
 fn_NotSeen:PySem.W.typeIn K (.ref Z.a_NotSeen___init__)=some (.type "function")
 kp_NotSeen:PySem.W.keepIn K (.ref Z.a_NotSeen)=true
 nt_NotSeen:PySem.W.findIn K (.ref Z.a_NotSeen) "state"=some none
 xi_NoName:ExI K Z.a_NoName Z.a_SumError
 in_NoName:PySem.W.findIn K (.ref Z.a_NoName) "__init__"=some (some (.ref Z.a_NoName___init__))
 fn_NoName:PySem.W.typeIn K (.ref Z.a_NoName___init__)=some (.type "function")
 kp_NoName:PySem.W.keepIn K (.ref Z.a_NoName)=true
 nt_NoName:PySem.W.findIn K (.ref Z.a_NoName) "name"=some none
 xi_Taken:ExI K Z.a_Taken Z.a_SumError
 in_Taken:PySem.W.findIn K (.ref Z.a_Taken) "__init__"=some (some (.ref Z.a_Taken___init__))
 fn_Taken:PySem.W.typeIn K (.ref Z.a_Taken___init__)=some (.type "function")
 kp_Taken:PySem.W.keepIn K (.ref Z.a_Taken)=true
 nt_Taken:PySem.W.findIn K (.ref Z.a_Taken) "name"=some none
 ex_NoNumber:PySem.W.excIn K Z.a_NoNumber vErr "ValueError.__new__"=true
 ex_NoFit:PySem.W.excIn K Z.a_NoFit vErr "ValueError.__new__"=true
 ex_NoText:PySem.W.excIn K Z.a_NoText vErr "ValueError.__new__"=true
 ex_SumError:PySem.W.excIn K Z.a_SumError vErr "ValueError.__new__"=true
 xm_Wrong_Wrong:PySem.W.exmOne K (.ref Z.a_Wrong) (.ref Z.a_Wrong)=some true
 xm_Wrong_NoThing:PySem.W.exmOne K (.ref Z.a_Wrong) (.ref Z.a_NoThing)=some false
 xm_Wrong_TooMany:PySem.W.exmOne K (.ref Z.a_Wrong) (.ref Z.a_TooMany)=some false
 xm_Wrong_NoNumber:PySem.W.exmOne K (.ref Z.a_Wrong) (.ref Z.a_NoNumber)=some false
 xm_Wrong_NoFit:PySem.W.exmOne K (.ref Z.a_Wrong) (.ref Z.a_NoFit)=some false
 xm_Wrong_NotSteered:PySem.W.exmOne K (.ref Z.a_Wrong) (.ref Z.a_NotSteered)=some false
 xm_Wrong_NotSeen:PySem.W.exmOne K (.ref Z.a_Wrong) (.ref Z.a_NotSeen)=some false
 xm_Wrong_NoText:PySem.W.exmOne K (.ref Z.a_Wrong) (.ref Z.a_NoText)=some false
 xm_Wrong_NoName:PySem.W.exmOne K (.ref Z.a_Wrong) (.ref Z.a_NoName)=some false
 xm_Wrong_Taken:PySem.W.exmOne K (.ref Z.a_Wrong) (.ref Z.a_Taken)=some false
 xm_NoThing_Wrong:PySem.W.exmOne K (.ref Z.a_NoThing) (.ref Z.a_Wrong)=some false
 xm_NoThing_NoThing:PySem.W.exmOne K (.ref Z.a_NoThing) (.ref Z.a_NoThing)=some true
 xm_NoThing_TooMany:PySem.W.exmOne K (.ref Z.a_NoThing) (.ref Z.a_TooMany)=some false
 xm_NoThing_NoNumber:PySem.W.exmOne K (.ref Z.a_NoThing) (.ref Z.a_NoNumber)=some false
 xm_NoThing_NoFit:PySem.W.exmOne K (.ref Z.a_NoThing) (.ref Z.a_NoFit)=some false
 xm_NoThing_NotSteered:PySem.W.exmOne K (.ref Z.a_NoThing) (.ref Z.a_NotSteered)=some false
 xm_NoThing_NotSeen:PySem.W.exmOne K (.ref Z.a_NoThing) (.ref Z.a_NotSeen)=some false
 xm_NoThing_NoText:PySem.W.exmOne K (.ref Z.a_NoThing) (.ref Z.a_NoText)=some false
 xm_NoThing_NoName:PySem.W.exmOne K (.ref Z.a_NoThing) (.ref Z.a_NoName)=some false
 xm_NoThing_Taken:PySem.W.exmOne K (.ref Z.a_NoThing) (.ref Z.a_Taken)=some false
 xm_TooMany_Wrong:PySem.W.exmOne K (.ref Z.a_TooMany) (.ref Z.a_Wrong)=some false
 xm_TooMany_NoThing:PySem.W.exmOne K (.ref Z.a_TooMany) (.ref Z.a_NoThing)=some false
 xm_TooMany_TooMany:PySem.W.exmOne K (.ref Z.a_TooMany) (.ref Z.a_TooMany)=some true
 xm_TooMany_NoNumber:PySem.W.exmOne K (.ref Z.a_TooMany) (.ref Z.a_NoNumber)=some false
 xm_TooMany_NoFit:PySem.W.exmOne K (.ref Z.a_TooMany) (.ref Z.a_NoFit)=some false
 xm_TooMany_NotSteered:PySem.W.exmOne K (.ref Z.a_TooMany) (.ref Z.a_NotSteered)=some false
 xm_TooMany_NotSeen:PySem.W.exmOne K (.ref Z.a_TooMany) (.ref Z.a_NotSeen)=some false
 xm_TooMany_NoText:PySem.W.exmOne K (.ref Z.a_TooMany) (.ref Z.a_NoText)=some false
 xm_TooMany_NoName:PySem.W.exmOne K (.ref Z.a_TooMany) (.ref Z.a_NoName)=some false
 xm_TooMany_Taken:PySem.W.exmOne K (.ref Z.a_TooMany) (.ref Z.a_Taken)=some false
 xm_NoNumber_Wrong:PySem.W.exmOne K (.ref Z.a_NoNumber) (.ref Z.a_Wrong)=some false
 xm_NoNumber_NoThing:PySem.W.exmOne K (.ref Z.a_NoNumber) (.ref Z.a_NoThing)=some false
 xm_NoNumber_TooMany:PySem.W.exmOne K (.ref Z.a_NoNumber) (.ref Z.a_TooMany)=some false
 xm_NoNumber_NoNumber:PySem.W.exmOne K (.ref Z.a_NoNumber) (.ref Z.a_NoNumber)=some true
 xm_NoNumber_NoFit:PySem.W.exmOne K (.ref Z.a_NoNumber) (.ref Z.a_NoFit)=some false
 xm_NoNumber_NotSteered:PySem.W.exmOne K (.ref Z.a_NoNumber) (.ref Z.a_NotSteered)=some false
 xm_NoNumber_NotSeen:PySem.W.exmOne K (.ref Z.a_NoNumber) (.ref Z.a_NotSeen)=some false
 xm_NoNumber_NoText:PySem.W.exmOne K (.ref Z.a_NoNumber) (.ref Z.a_NoText)=some false
 xm_NoNumber_NoName:PySem.W.exmOne K (.ref Z.a_NoNumber) (.ref Z.a_NoName)=some false
 xm_NoNumber_Taken:PySem.W.exmOne K (.ref Z.a_NoNumber) (.ref Z.a_Taken)=some false
 xm_NoFit_Wrong:PySem.W.exmOne K (.ref Z.a_NoFit) (.ref Z.a_Wrong)=some false
 xm_NoFit_NoThing:PySem.W.exmOne K (.ref Z.a_NoFit) (.ref Z.a_NoThing)=some false
 xm_NoFit_TooMany:PySem.W.exmOne K (.ref Z.a_NoFit) (.ref Z.a_TooMany)=some false
 xm_NoFit_NoNumber:PySem.W.exmOne K (.ref Z.a_NoFit) (.ref Z.a_NoNumber)=some false
 xm_NoFit_NoFit:PySem.W.exmOne K (.ref Z.a_NoFit) (.ref Z.a_NoFit)=some true
 xm_NoFit_NotSteered:PySem.W.exmOne K (.ref Z.a_NoFit) (.ref Z.a_NotSteered)=some false
 xm_NoFit_NotSeen:PySem.W.exmOne K (.ref Z.a_NoFit) (.ref Z.a_NotSeen)=some false
 xm_NoFit_NoText:PySem.W.exmOne K (.ref Z.a_NoFit) (.ref Z.a_NoText)=some false
 xm_NoFit_NoName:PySem.W.exmOne K (.ref Z.a_NoFit) (.ref Z.a_NoName)=some false
 xm_NoFit_Taken:PySem.W.exmOne K (.ref Z.a_NoFit) (.ref Z.a_Taken)=some false
 xm_NotSteered_Wrong:PySem.W.exmOne K (.ref Z.a_NotSteered) (.ref Z.a_Wrong)=some false
 xm_NotSteered_NoThing:PySem.W.exmOne K (.ref Z.a_NotSteered) (.ref Z.a_NoThing)=some false
 xm_NotSteered_TooMany:PySem.W.exmOne K (.ref Z.a_NotSteered) (.ref Z.a_TooMany)=some false
 xm_NotSteered_NoNumber:PySem.W.exmOne K (.ref Z.a_NotSteered) (.ref Z.a_NoNumber)=some false
 xm_NotSteered_NoFit:PySem.W.exmOne K (.ref Z.a_NotSteered) (.ref Z.a_NoFit)=some false
 xm_NotSteered_NotSteered:PySem.W.exmOne K (.ref Z.a_NotSteered) (.ref Z.a_NotSteered)=some true
 xm_NotSteered_NotSeen:PySem.W.exmOne K (.ref Z.a_NotSteered) (.ref Z.a_NotSeen)=some false
 xm_NotSteered_NoText:PySem.W.exmOne K (.ref Z.a_NotSteered) (.ref Z.a_NoText)=some false
 xm_NotSteered_NoName:PySem.W.exmOne K (.ref Z.a_NotSteered) (.ref Z.a_NoName)=some false
 xm_NotSteered_Taken:PySem.W.exmOne K (.ref Z.a_NotSteered) (.ref Z.a_Taken)=some false
 xm_NotSeen_Wrong:PySem.W.exmOne K (.ref Z.a_NotSeen) (.ref Z.a_Wrong)=some false
 xm_NotSeen_NoThing:PySem.W.exmOne K (.ref Z.a_NotSeen) (.ref Z.a_NoThing)=some false
 xm_NotSeen_TooMany:PySem.W.exmOne K (.ref Z.a_NotSeen) (.ref Z.a_TooMany)=some false
 xm_NotSeen_NoNumber:PySem.W.exmOne K (.ref Z.a_NotSeen) (.ref Z.a_NoNumber)=some false
 xm_NotSeen_NoFit:PySem.W.exmOne K (.ref Z.a_NotSeen) (.ref Z.a_NoFit)=some false
 xm_NotSeen_NotSteered:PySem.W.exmOne K (.ref Z.a_NotSeen) (.ref Z.a_NotSteered)=some false
 xm_NotSeen_NotSeen:PySem.W.exmOne K (.ref Z.a_NotSeen) (.ref Z.a_NotSeen)=some true
 xm_NotSeen_NoText:PySem.W.exmOne K (.ref Z.a_NotSeen) (.ref Z.a_NoText)=some false
 xm_NotSeen_NoName:PySem.W.exmOne K (.ref Z.a_NotSeen) (.ref Z.a_NoName)=some false
 xm_NotSeen_Taken:PySem.W.exmOne K (.ref Z.a_NotSeen) (.ref Z.a_Taken)=some false
 xm_NoText_Wrong:PySem.W.exmOne K (.ref Z.a_NoText) (.ref Z.a_Wrong)=some false
 xm_NoText_NoThing:PySem.W.exmOne K (.ref Z.a_NoText) (.ref Z.a_NoThing)=some false
 xm_NoText_TooMany:PySem.W.exmOne K (.ref Z.a_NoText) (.ref Z.a_TooMany)=some false
 xm_NoText_NoNumber:PySem.W.exmOne K (.ref Z.a_NoText) (.ref Z.a_NoNumber)=some false
 xm_NoText_NoFit:PySem.W.exmOne K (.ref Z.a_NoText) (.ref Z.a_NoFit)=some false
 xm_NoText_NotSteered:PySem.W.exmOne K (.ref Z.a_NoText) (.ref Z.a_NotSteered)=some false
 xm_NoText_NotSeen:PySem.W.exmOne K (.ref Z.a_NoText) (.ref Z.a_NotSeen)=some false
 xm_NoText_NoText:PySem.W.exmOne K (.ref Z.a_NoText) (.ref Z.a_NoText)=some true
 xm_NoText_NoName:PySem.W.exmOne K (.ref Z.a_NoText) (.ref Z.a_NoName)=some false
 xm_NoText_Taken:PySem.W.exmOne K (.ref Z.a_NoText) (.ref Z.a_Taken)=some false
 xm_NoName_Wrong:PySem.W.exmOne K (.ref Z.a_NoName) (.ref Z.a_Wrong)=some false
 xm_NoName_NoThing:PySem.W.exmOne K (.ref Z.a_NoName) (.ref Z.a_NoThing)=some false
 xm_NoName_TooMany:PySem.W.exmOne K (.ref Z.a_NoName) (.ref Z.a_TooMany)=some false
 xm_NoName_NoNumber:PySem.W.exmOne K (.ref Z.a_NoName) (.ref Z.a_NoNumber)=some false
 xm_NoName_NoFit:PySem.W.exmOne K (.ref Z.a_NoName) (.ref Z.a_NoFit)=some false
 xm_NoName_NotSteered:PySem.W.exmOne K (.ref Z.a_NoName) (.ref Z.a_NotSteered)=some false
 xm_NoName_NotSeen:PySem.W.exmOne K (.ref Z.a_NoName) (.ref Z.a_NotSeen)=some false
 xm_NoName_NoText:PySem.W.exmOne K (.ref Z.a_NoName) (.ref Z.a_NoText)=some false
 xm_NoName_NoName:PySem.W.exmOne K (.ref Z.a_NoName) (.ref Z.a_NoName)=some true
 xm_NoName_Taken:PySem.W.exmOne K (.ref Z.a_NoName) (.ref Z.a_Taken)=some false
 xm_Taken_Wrong:PySem.W.exmOne K (.ref Z.a_Taken) (.ref Z.a_Wrong)=some false
 xm_Taken_NoThing:PySem.W.exmOne K (.ref Z.a_Taken) (.ref Z.a_NoThing)=some false
 xm_Taken_TooMany:PySem.W.exmOne K (.ref Z.a_Taken) (.ref Z.a_TooMany)=some false
 xm_Taken_NoNumber:PySem.W.exmOne K (.ref Z.a_Taken) (.ref Z.a_NoNumber)=some false
 xm_Taken_NoFit:PySem.W.exmOne K (.ref Z.a_Taken) (.ref Z.a_NoFit)=some false
 xm_Taken_NotSteered:PySem.W.exmOne K (.ref Z.a_Taken) (.ref Z.a_NotSteered)=some false
 xm_Taken_NotSeen:PySem.W.exmOne K (.ref Z.a_Taken) (.ref Z.a_NotSeen)=some false
 xm_Taken_NoText:PySem.W.exmOne K (.ref Z.a_Taken) (.ref Z.a_NoText)=some false
 xm_Taken_NoName:PySem.W.exmOne K (.ref Z.a_Taken) (.ref Z.a_NoName)=some false
 xm_Taken_Taken:PySem.W.exmOne K (.ref Z.a_Taken) (.ref Z.a_Taken)=some true
 ki_Wrong_SumError:PySem.W.kitOne K (.ref Z.a_Wrong) (.ref Z.a_SumError)=some true
 ki_Wrong_Wrong:PySem.W.kitOne K (.ref Z.a_Wrong) (.ref Z.a_Wrong)=some true
 ki_Wrong_NoThing:PySem.W.kitOne K (.ref Z.a_Wrong) (.ref Z.a_NoThing)=some false
 ki_Wrong_TooMany:PySem.W.kitOne K (.ref Z.a_Wrong) (.ref Z.a_TooMany)=some false
 ki_Wrong_NoNumber:PySem.W.kitOne K (.ref Z.a_Wrong) (.ref Z.a_NoNumber)=some false
 ki_Wrong_NoFit:PySem.W.kitOne K (.ref Z.a_Wrong) (.ref Z.a_NoFit)=some false
 ki_Wrong_NotSteered:PySem.W.kitOne K (.ref Z.a_Wrong) (.ref Z.a_NotSteered)=some false
 ki_Wrong_NotSeen:PySem.W.kitOne K (.ref Z.a_Wrong) (.ref Z.a_NotSeen)=some false
 ki_Wrong_NoText:PySem.W.kitOne K (.ref Z.a_Wrong) (.ref Z.a_NoText)=some false
 ki_Wrong_NoName:PySem.W.kitOne K (.ref Z.a_Wrong) (.ref Z.a_NoName)=some false
 ki_Wrong_Taken:PySem.W.kitOne K (.ref Z.a_Wrong) (.ref Z.a_Taken)=some false
 ki_Wrong_ValueError:PySem.W.kitOne K (.ref Z.a_Wrong) (.type "ValueError")=some true
 ki_NoThing_SumError:PySem.W.kitOne K (.ref Z.a_NoThing) (.ref Z.a_SumError)=some true
 ki_NoThing_Wrong:PySem.W.kitOne K (.ref Z.a_NoThing) (.ref Z.a_Wrong)=some false
 ki_NoThing_NoThing:PySem.W.kitOne K (.ref Z.a_NoThing) (.ref Z.a_NoThing)=some true
 ki_NoThing_TooMany:PySem.W.kitOne K (.ref Z.a_NoThing) (.ref Z.a_TooMany)=some false
 ki_NoThing_NoNumber:PySem.W.kitOne K (.ref Z.a_NoThing) (.ref Z.a_NoNumber)=some false
 ki_NoThing_NoFit:PySem.W.kitOne K (.ref Z.a_NoThing) (.ref Z.a_NoFit)=some false
 ki_NoThing_NotSteered:PySem.W.kitOne K (.ref Z.a_NoThing) (.ref Z.a_NotSteered)=some false
 ki_NoThing_NotSeen:PySem.W.kitOne K (.ref Z.a_NoThing) (.ref Z.a_NotSeen)=some false
 ki_NoThing_NoText:PySem.W.kitOne K (.ref Z.a_NoThing) (.ref Z.a_NoText)=some false
 ki_NoThing_NoName:PySem.W.kitOne K (.ref Z.a_NoThing) (.ref Z.a_NoName)=some false
 ki_NoThing_Taken:PySem.W.kitOne K (.ref Z.a_NoThing) (.ref Z.a_Taken)=some false
 ki_NoThing_ValueError:PySem.W.kitOne K (.ref Z.a_NoThing) (.type "ValueError")=some true
 ki_TooMany_SumError:PySem.W.kitOne K (.ref Z.a_TooMany) (.ref Z.a_SumError)=some true
 ki_TooMany_Wrong:PySem.W.kitOne K (.ref Z.a_TooMany) (.ref Z.a_Wrong)=some false
 ki_TooMany_NoThing:PySem.W.kitOne K (.ref Z.a_TooMany) (.ref Z.a_NoThing)=some false
 ki_TooMany_TooMany:PySem.W.kitOne K (.ref Z.a_TooMany) (.ref Z.a_TooMany)=some true
 ki_TooMany_NoNumber:PySem.W.kitOne K (.ref Z.a_TooMany) (.ref Z.a_NoNumber)=some false
 ki_TooMany_NoFit:PySem.W.kitOne K (.ref Z.a_TooMany) (.ref Z.a_NoFit)=some false
 ki_TooMany_NotSteered:PySem.W.kitOne K (.ref Z.a_TooMany) (.ref Z.a_NotSteered)=some false
 ki_TooMany_NotSeen:PySem.W.kitOne K (.ref Z.a_TooMany) (.ref Z.a_NotSeen)=some false
 ki_TooMany_NoText:PySem.W.kitOne K (.ref Z.a_TooMany) (.ref Z.a_NoText)=some false
 ki_TooMany_NoName:PySem.W.kitOne K (.ref Z.a_TooMany) (.ref Z.a_NoName)=some false
 ki_TooMany_Taken:PySem.W.kitOne K (.ref Z.a_TooMany) (.ref Z.a_Taken)=some false
 ki_TooMany_ValueError:PySem.W.kitOne K (.ref Z.a_TooMany) (.type "ValueError")=some true
 ki_NoNumber_SumError:PySem.W.kitOne K (.ref Z.a_NoNumber) (.ref Z.a_SumError)=some true
 ki_NoNumber_Wrong:PySem.W.kitOne K (.ref Z.a_NoNumber) (.ref Z.a_Wrong)=some false
 ki_NoNumber_NoThing:PySem.W.kitOne K (.ref Z.a_NoNumber) (.ref Z.a_NoThing)=some false
 ki_NoNumber_TooMany:PySem.W.kitOne K (.ref Z.a_NoNumber) (.ref Z.a_TooMany)=some false
 ki_NoNumber_NoNumber:PySem.W.kitOne K (.ref Z.a_NoNumber) (.ref Z.a_NoNumber)=some true
 ki_NoNumber_NoFit:PySem.W.kitOne K (.ref Z.a_NoNumber) (.ref Z.a_NoFit)=some false
 ki_NoNumber_NotSteered:PySem.W.kitOne K (.ref Z.a_NoNumber) (.ref Z.a_NotSteered)=some false
 ki_NoNumber_NotSeen:PySem.W.kitOne K (.ref Z.a_NoNumber) (.ref Z.a_NotSeen)=some false
 ki_NoNumber_NoText:PySem.W.kitOne K (.ref Z.a_NoNumber) (.ref Z.a_NoText)=some false
 ki_NoNumber_NoName:PySem.W.kitOne K (.ref Z.a_NoNumber) (.ref Z.a_NoName)=some false
 ki_NoNumber_Taken:PySem.W.kitOne K (.ref Z.a_NoNumber) (.ref Z.a_Taken)=some false
 ki_NoNumber_ValueError:PySem.W.kitOne K (.ref Z.a_NoNumber) (.type "ValueError")=some true
 ki_NoFit_SumError:PySem.W.kitOne K (.ref Z.a_NoFit) (.ref Z.a_SumError)=some true
 ki_NoFit_Wrong:PySem.W.kitOne K (.ref Z.a_NoFit) (.ref Z.a_Wrong)=some false
 ki_NoFit_NoThing:PySem.W.kitOne K (.ref Z.a_NoFit) (.ref Z.a_NoThing)=some false
 ki_NoFit_TooMany:PySem.W.kitOne K (.ref Z.a_NoFit) (.ref Z.a_TooMany)=some false
 ki_NoFit_NoNumber:PySem.W.kitOne K (.ref Z.a_NoFit) (.ref Z.a_NoNumber)=some false
 ki_NoFit_NoFit:PySem.W.kitOne K (.ref Z.a_NoFit) (.ref Z.a_NoFit)=some true
 ki_NoFit_NotSteered:PySem.W.kitOne K (.ref Z.a_NoFit) (.ref Z.a_NotSteered)=some false
 ki_NoFit_NotSeen:PySem.W.kitOne K (.ref Z.a_NoFit) (.ref Z.a_NotSeen)=some false
 ki_NoFit_NoText:PySem.W.kitOne K (.ref Z.a_NoFit) (.ref Z.a_NoText)=some false
 ki_NoFit_NoName:PySem.W.kitOne K (.ref Z.a_NoFit) (.ref Z.a_NoName)=some false
 ki_NoFit_Taken:PySem.W.kitOne K (.ref Z.a_NoFit) (.ref Z.a_Taken)=some false
 ki_NoFit_ValueError:PySem.W.kitOne K (.ref Z.a_NoFit) (.type "ValueError")=some true
 ki_NotSteered_SumError:PySem.W.kitOne K (.ref Z.a_NotSteered) (.ref Z.a_SumError)=some true
 ki_NotSteered_Wrong:PySem.W.kitOne K (.ref Z.a_NotSteered) (.ref Z.a_Wrong)=some false
 ki_NotSteered_NoThing:PySem.W.kitOne K (.ref Z.a_NotSteered) (.ref Z.a_NoThing)=some false
 ki_NotSteered_TooMany:PySem.W.kitOne K (.ref Z.a_NotSteered) (.ref Z.a_TooMany)=some false
 ki_NotSteered_NoNumber:PySem.W.kitOne K (.ref Z.a_NotSteered) (.ref Z.a_NoNumber)=some false
 ki_NotSteered_NoFit:PySem.W.kitOne K (.ref Z.a_NotSteered) (.ref Z.a_NoFit)=some false
 ki_NotSteered_NotSteered:PySem.W.kitOne K (.ref Z.a_NotSteered) (.ref Z.a_NotSteered)=some true
 ki_NotSteered_NotSeen:PySem.W.kitOne K (.ref Z.a_NotSteered) (.ref Z.a_NotSeen)=some false
 ki_NotSteered_NoText:PySem.W.kitOne K (.ref Z.a_NotSteered) (.ref Z.a_NoText)=some false
 ki_NotSteered_NoName:PySem.W.kitOne K (.ref Z.a_NotSteered) (.ref Z.a_NoName)=some false
 ki_NotSteered_Taken:PySem.W.kitOne K (.ref Z.a_NotSteered) (.ref Z.a_Taken)=some false
 ki_NotSteered_ValueError:PySem.W.kitOne K (.ref Z.a_NotSteered) (.type "ValueError")=some true
 ki_NotSeen_SumError:PySem.W.kitOne K (.ref Z.a_NotSeen) (.ref Z.a_SumError)=some true
 ki_NotSeen_Wrong:PySem.W.kitOne K (.ref Z.a_NotSeen) (.ref Z.a_Wrong)=some false
 ki_NotSeen_NoThing:PySem.W.kitOne K (.ref Z.a_NotSeen) (.ref Z.a_NoThing)=some false
 ki_NotSeen_TooMany:PySem.W.kitOne K (.ref Z.a_NotSeen) (.ref Z.a_TooMany)=some false
 ki_NotSeen_NoNumber:PySem.W.kitOne K (.ref Z.a_NotSeen) (.ref Z.a_NoNumber)=some false
 ki_NotSeen_NoFit:PySem.W.kitOne K (.ref Z.a_NotSeen) (.ref Z.a_NoFit)=some false
 ki_NotSeen_NotSteered:PySem.W.kitOne K (.ref Z.a_NotSeen) (.ref Z.a_NotSteered)=some false
 ki_NotSeen_NotSeen:PySem.W.kitOne K (.ref Z.a_NotSeen) (.ref Z.a_NotSeen)=some true
 ki_NotSeen_NoText:PySem.W.kitOne K (.ref Z.a_NotSeen) (.ref Z.a_NoText)=some false
 ki_NotSeen_NoName:PySem.W.kitOne K (.ref Z.a_NotSeen) (.ref Z.a_NoName)=some false
 ki_NotSeen_Taken:PySem.W.kitOne K (.ref Z.a_NotSeen) (.ref Z.a_Taken)=some false
 ki_NotSeen_ValueError:PySem.W.kitOne K (.ref Z.a_NotSeen) (.type "ValueError")=some true
 ki_NoText_SumError:PySem.W.kitOne K (.ref Z.a_NoText) (.ref Z.a_SumError)=some true
 ki_NoText_Wrong:PySem.W.kitOne K (.ref Z.a_NoText) (.ref Z.a_Wrong)=some false
 ki_NoText_NoThing:PySem.W.kitOne K (.ref Z.a_NoText) (.ref Z.a_NoThing)=some false
 ki_NoText_TooMany:PySem.W.kitOne K (.ref Z.a_NoText) (.ref Z.a_TooMany)=some false
 ki_NoText_NoNumber:PySem.W.kitOne K (.ref Z.a_NoText) (.ref Z.a_NoNumber)=some false
 ki_NoText_NoFit:PySem.W.kitOne K (.ref Z.a_NoText) (.ref Z.a_NoFit)=some false
 ki_NoText_NotSteered:PySem.W.kitOne K (.ref Z.a_NoText) (.ref Z.a_NotSteered)=some false
 ki_NoText_NotSeen:PySem.W.kitOne K (.ref Z.a_NoText) (.ref Z.a_NotSeen)=some false
 ki_NoText_NoText:PySem.W.kitOne K (.ref Z.a_NoText) (.ref Z.a_NoText)=some true
 ki_NoText_NoName:PySem.W.kitOne K (.ref Z.a_NoText) (.ref Z.a_NoName)=some false
 ki_NoText_Taken:PySem.W.kitOne K (.ref Z.a_NoText) (.ref Z.a_Taken)=some false
 ki_NoText_ValueError:PySem.W.kitOne K (.ref Z.a_NoText) (.type "ValueError")=some true
 ki_NoName_SumError:PySem.W.kitOne K (.ref Z.a_NoName) (.ref Z.a_SumError)=some true
 ki_NoName_Wrong:PySem.W.kitOne K (.ref Z.a_NoName) (.ref Z.a_Wrong)=some false
 ki_NoName_NoThing:PySem.W.kitOne K (.ref Z.a_NoName) (.ref Z.a_NoThing)=some false
 ki_NoName_TooMany:PySem.W.kitOne K (.ref Z.a_NoName) (.ref Z.a_TooMany)=some false
 ki_NoName_NoNumber:PySem.W.kitOne K (.ref Z.a_NoName) (.ref Z.a_NoNumber)=some false
 ki_NoName_NoFit:PySem.W.kitOne K (.ref Z.a_NoName) (.ref Z.a_NoFit)=some false
 ki_NoName_NotSteered:PySem.W.kitOne K (.ref Z.a_NoName) (.ref Z.a_NotSteered)=some false
 ki_NoName_NotSeen:PySem.W.kitOne K (.ref Z.a_NoName) (.ref Z.a_NotSeen)=some false
 ki_NoName_NoText:PySem.W.kitOne K (.ref Z.a_NoName) (.ref Z.a_NoText)=some false
 ki_NoName_NoName:PySem.W.kitOne K (.ref Z.a_NoName) (.ref Z.a_NoName)=some true
 ki_NoName_Taken:PySem.W.kitOne K (.ref Z.a_NoName) (.ref Z.a_Taken)=some false
 ki_NoName_ValueError:PySem.W.kitOne K (.ref Z.a_NoName) (.type "ValueError")=some true
 ki_Taken_SumError:PySem.W.kitOne K (.ref Z.a_Taken) (.ref Z.a_SumError)=some true
 ki_Taken_Wrong:PySem.W.kitOne K (.ref Z.a_Taken) (.ref Z.a_Wrong)=some false
 ki_Taken_NoThing:PySem.W.kitOne K (.ref Z.a_Taken) (.ref Z.a_NoThing)=some false
 ki_Taken_TooMany:PySem.W.kitOne K (.ref Z.a_Taken) (.ref Z.a_TooMany)=some false
 ki_Taken_NoNumber:PySem.W.kitOne K (.ref Z.a_Taken) (.ref Z.a_NoNumber)=some false
 ki_Taken_NoFit:PySem.W.kitOne K (.ref Z.a_Taken) (.ref Z.a_NoFit)=some false
 ki_Taken_NotSteered:PySem.W.kitOne K (.ref Z.a_Taken) (.ref Z.a_NotSteered)=some false
 ki_Taken_NotSeen:PySem.W.kitOne K (.ref Z.a_Taken) (.ref Z.a_NotSeen)=some false
 ki_Taken_NoText:PySem.W.kitOne K (.ref Z.a_Taken) (.ref Z.a_NoText)=some false
 ki_Taken_NoName:PySem.W.kitOne K (.ref Z.a_Taken) (.ref Z.a_NoName)=some false
 ki_Taken_Taken:PySem.W.kitOne K (.ref Z.a_Taken) (.ref Z.a_Taken)=some true
 ki_Taken_ValueError:PySem.W.kitOne K (.ref Z.a_Taken) (.type "ValueError")=some true
 xc_Wrong:ExC K Z.a_Wrong
 xc_NoThing:ExC K Z.a_NoThing
 xc_TooMany:ExC K Z.a_TooMany
 xc_NoNumber:ExC K Z.a_NoNumber
 xc_NoFit:ExC K Z.a_NoFit
 xc_NotSteered:ExC K Z.a_NotSteered
 xc_NotSeen:ExC K Z.a_NotSeen
 xc_NoText:ExC K Z.a_NoText
 xc_NoName:ExC K Z.a_NoName
 xc_Taken:ExC K Z.a_Taken
section
variable {P:Program} {w:World} {K:PySem.W.Frag} {mg:Str->Option Value} {base:Heap} {Z:Ads}
theorem sc__law_bag:FnScope ["_law_script"] ["_law_script"] (defScope s__law_bag):=⟨rfl,rfl,rfl,by decide +kernel,rfl,by decide +kernel,by decide +kernel⟩
theorem ok__law_bag (T:Txt K mg Z):FnOk P w K mg base CX0 1 Z.a__law_bag Z.d__law_bag ["_law_script"] (sp_bag K):=by
 refine T.F__law_bag.ok sc__law_bag (fun vs H Q E h=>?_) (fun cdv A outer s H vs Q E hr h=>?_)
 ·obtain ⟨a,ns,rfl,hS,hlen,k⟩:=h
  rfl
 ·obtain ⟨a,ns,rfl,hS,hlen,k⟩:=h
  refine ⟨_,(pss_one (ps_ret (pe_lst (pa_cons pe_int (pa_cons pe_int (pa_cons pe_int (pa_cons (pe_comp ["_law_cell"] [] [] (pi_list (pe_slice sl_list (pv 0) po_none (po_some pe_int))) (fun _=>(pg_name (i:=0) (show List.Nodup (α:=PySem.Str) ["_law_cell"] by decide +kernel) rfl (Or.inl rfl) (Or.inl rfl))) (fun _=>pf_nil) (fun _=>(pe_callB call_abs (by rfl) T.abs PyProof.Rows.boot_abs (pa_cons (pv 0) pa_nil)))) pa_nil))))))),?_⟩
  refine rd_start (σ:=[some (.ref a)]) rfl ?_
  walk_at "w"
  refine ⟨a,_,rfl,hS,fun l hl=>?_⟩
  have hcl:(cutV (ns.map V.int) none (some 63)).length<=63:=Nat.le_trans (cutV_length _ _ _) (by simpa using hlen)
  refine ⟨l,rfl,⟨_,SqL.of upd_same⟩,?_⟩
  refine comp_list (K:=K) (a:=l) (xs:=cutV (ns.map V.int) none (some 63)) (fun i ys H'=>H'=upd H l (.lst (cutV (ns.map V.int) none (some 63)))∧∃cs:List Int,ys=cs.map V.int∧∀x∈cs,0<=x) (Nat.le_trans hcl (by decide)) ⟨rfl,[],rfl,fun _ z=>nomatch z⟩ (fun i ys H' _ ⟨e,_⟩=>by subst e;exact SqL.of upd_same) ?_ ?_
  ·rintro i x ys H' hx hi ⟨rfl,cs,rfl,hcs⟩
   obtain ⟨z,rfl⟩:∃z,x=V.int z:=by
    have hm:x∈ns.map V.int:=List.mem_of_mem_drop (List.mem_of_mem_take (List.mem_of_getElem? hx))
    obtain ⟨z,_,e⟩:=List.mem_map.mp hm
    exact ⟨z,e.symm⟩
   walk_at "w"
   refine ⟨rfl,cs++[if z < 0 then -z else z],by simp,fun x hx=>?_⟩
   rcases List.mem_append.mp hx with hx | hx
   ·exact hcs x hx
   ·have e:x=if z < 0 then -z else z:=by simpa using hx
    subst e
    split <;> lia
  ·rintro ys H' hy ⟨rfl,cs,rfl,hcs⟩ p hp
   walk_at "w"
   refine ⟨by show 4<=sizeLine;decide,fun b hb=>?_⟩
   have n1:b≠p:=fun z=>by rw[z,upd_same] at hb;cases hb
   have hb1:(upd H l (.lst (cutV (ns.map V.int) none (some 63)))) b=none:=by rw[upd_ne n1] at hb;exact hb
   have s1:Same H (upd H l (.lst (cutV (ns.map V.int) none (some 63)))):=Same.new hl
   refine k b _ (s1.free hb1) ⟨p,0,1234567891,0,cs,upd_same,by rw[upd_ne n1.symm];exact upd_same,by decide,by decide,by lia,hcs⟩ ((s1.trans (Same.new hp)).trans (Same.new hb))
theorem sc__law_take:FnScope ["_law_bag_here","_law_many","_law_more","_law_cell","_law_value","_law_first","_law_second"] ["_law_bag_here","_law_many"] (defScope s__law_take):=⟨rfl,rfl,rfl,by decide +kernel,rfl,by decide +kernel,by decide +kernel⟩
theorem ok__law_take (T:Txt K mg Z):FnOk P w K mg base CX0 1 Z.a__law_take Z.d__law_take ["_law_bag_here","_law_many"] sp_take:=by
 refine T.F__law_take.ok sc__law_take (fun vs H Q E h=>?_) (fun cdv A outer s H vs Q E hr h=>?_)
 ·obtain ⟨p,n,rfl,⟨q,a,b,c,cs,hp,hq,ha,hc,hcl,hcs⟩,hn,hn2,k⟩:=h
  rfl
 ·obtain ⟨p,n,rfl,⟨q,a,b,c,cs,hp,hq,ha,hc,hcl,hcs⟩,hn,hn2,k⟩:=h
  have nqp:q≠p:=bag_apart hp hq
  refine ⟨_,(pss_consM (ps_if (pt_cmpR op_eq (pe_ix ix_list (pv 0) pe_int (by intro _ _;rfl)) pe_int (nomark _)) (pss_cons (ps_set (i:=2) sc__law_take.nd rfl (Or.inl rfl) pe_int)
   (pss_consM (ps_if (pt_cmpR op_lt (pe_ix ix_list (pv 0) pe_int (by intro _ _;rfl)) (pe_callB call_len_seq (by rfl) T.len PySem.boot_len (pa_cons (pe_ix ix_list (pv 0) pe_int (by intro _ _;rfl)) pa_nil)) (nomark _)) (pss_cons (ps_set (i:=3) sc__law_take.nd rfl (Or.inl rfl) (pe_ix ix_list (pe_ix ix_list (pv 0) pe_int (by intro _ _;rfl)) (pe_ix ix_list (pv 0) pe_int (by intro _ _;rfl)) (by intro _ _;rfl)))
   (pss_cons (ps_augS (pv 0) pe_int get_list pe_int ip_add set_list)
   (pss_cons (ps_if (pt_cmpR op_ge (pv 3) pe_int (nomark _)) (pss_one (ps_asg (pv 3) (pg_sub (pv 0) pe_int set_list))) pss_nil)
   (pss_one (ps_set (i:=2) sc__law_take.nd rfl (Or.inl rfl) (pe_op op_add (pe_op op_mod (pv 3) pe_int) pe_int)))))) pss_nil)
   (pss_one (ps_asg (pe_op op_mod (pe_op op_add (pe_op op_mulS (pe_ix ix_list (pv 0) pe_int (by intro _ _;rfl)) pe_int) (pv 2)) pe_int) (pg_sub (pv 0) pe_int set_list))))) pss_nil)
   (pss_cons (ps_if (pt_cmpR op_gt (pe_ix ix_list (pv 0) pe_int (by intro _ _;rfl)) pe_int (nomark _)) (pss_cons (ps_set (i:=4) sc__law_take.nd rfl (Or.inl rfl) (pe_op op_mod (pe_ix ix_list (pv 0) pe_int (by intro _ _;rfl)) (pv 1)))
   (pss_cons (ps_asg (pe_op op_fdivS (pe_ix ix_list (pv 0) pe_int (by intro _ _;rfl)) (pv 1)) (pg_sub (pv 0) pe_int set_list))
   (pss_one (ps_ret (pv 4))))) pss_nil)
   (pss_cons (ps_set (i:=5) sc__law_take.nd rfl (Or.inl rfl) (pe_op op_mod (pe_op op_mulS (pe_ix ix_list (pv 0) pe_int (by intro _ _;rfl)) pe_int) pe_int))
   (pss_cons (ps_set (i:=6) sc__law_take.nd rfl (Or.inl rfl) (pe_op op_mod (pe_op op_mulS (pv 5) pe_int) pe_int))
   (pss_cons (ps_if (pt_cmpR op_gt (pv 1) pe_int (nomark _)) (pss_one (ps_ret (pe_op op_mod (pe_op op_add (pe_op op_mulS (pv 6) pe_int) (pv 5)) (pv 1)))) pss_nil)
   (pss_one (ps_ret (pe_op op_mod (pe_op op_fdivS (pv 6) pe_int) (pv 1))))))))),?_⟩
  refine rd_start (σ:=[some (.ref p),some (.int n),none,none,none,none,none]) rfl ?_
  refine ⟨fun σ' H'=>∃(x y:Option V) (a' b' c':Int),σ'=[some (.ref p),some (.int n),x,y,none,none,none]∧H' p=some (.lst [.int a',.int b',.int c',.ref q])∧0<=a'∧0<=c'∧c'<=cs.length∧Upto p H H',?_,?_⟩
  ·walk_at "w"
   refine ite2 (fun h0=>?_) (fun h0=>?_)
   ·walk_at "w"
    refine ⟨fun σ' H'=>∃(m:Int) (y:Option V) (a' c':Int),σ'=[some (.ref p),some (.int n),some (.int m),y,none,none,none]∧H' p=some (.lst [.int a',.int b,.int c',.ref q])∧0<=a'∧0<=c'∧c'<=cs.length∧Upto p H H',?_,?_⟩
    ·walk_at "w"
     refine ⟨_,_,rfl,.inl (SqL.of hq),?_⟩
     walk_at "w"
     refine ite2 (fun h1=>?_) (fun h1=>?_)
     ·have h1':c < cs.length:=by simpa using of_decide_eq_true h1
      obtain ⟨z,hz⟩:∃z,cs[c.toNat]?=some z:=⟨_,List.getElem?_eq_getElem (by lia)⟩
      have hz0:0<=z:=hcs z (List.mem_of_getElem? hz)
      walk_at "w"
      refine rd_ixL (SqL.of hq) (v:=.int z) ?_ ?_
      ·have:=atI_nat (xs:=cs.map V.int) (j:=c.toNat) (v:=.int z) (by rw[List.getElem?_map,hz];rfl)
       rwa [Int.toNat_of_nonneg hc] at this
      walk_at "w"
      refine ite2 (fun h2=>?_) (fun h2=>?_)
      ·walk_at "w"
       exact ⟨_,_,z,c+1,rfl,upd_same,hz0,by lia,by lia,(Upto.set hp).trans (Upto.set upd_same)⟩
      ·walk_at "w"
       exact ⟨_,_,a,c+1,rfl,upd_same,ha,by lia,by lia,Upto.set hp⟩
     ·walk_at "w"
      exact ⟨_,_,a,c,rfl,hp,ha,hc,hcl,Upto.refl _⟩
    ·rintro σ' H' ⟨m,y,a',c',rfl,hp',ha',hc',hcl',u'⟩
     walk_at "w"
     exact ⟨_,_,a',_,c',rfl,upd_same,ha',hc',hcl',u'.trans (Upto.set hp')⟩
   ·walk_at "w"
    exact ⟨_,_,a,b,c,rfl,hp,ha,hc,hcl,Upto.refl _⟩
  ·rintro σ' H' ⟨x,y,a',b',c',rfl,hp',ha',hc',hcl',u'⟩
   have hq':H' q=some (.lst (cs.map V.int)):=u'.1 q _ hq nqp
   have sn:Sz 8999 n:=by
    show n.natAbs < 2^8999
    exact Nat.lt_of_lt_of_le (show n.natAbs < 2^64 by lia) (Nat.pow_le_pow_right (by decide) (by decide))
   walk_at "w"
   refine ite2 (fun h0=>?_) (fun h0=>?_)
   ·walk_at "w"
    refine rd_I (show (0:Int) < n from hn) ?_
    walk_at "w"
    refine rd_I (show CDivS _ _ from ⟨by lia,sn⟩) ?_
    walk_at "w"
    refine k _ _ (Int.emod_nonneg _ (by lia)) (Int.emod_lt_of_pos _ hn) ⟨q,_,b',c',cs,upd_same,by rw[upd_ne nqp];exact hq',?_,hc',hcl',hcs⟩ (u'.trans (Upto.set hp'))
    rw[Int.fdiv_eq_ediv_of_nonneg _ (by lia)]
    exact Int.ediv_nonneg ha' (by lia)
   ·walk_at "w"
    refine ite2 (fun h1=>?_) (fun h1=>?_)
    ·walk_at "w"
     refine rd_I (show (0:Int) < n from hn) ?_
     exact k _ _ (Int.emod_nonneg _ (by lia)) (Int.emod_lt_of_pos _ hn) ⟨q,a',b',c',cs,hp',hq',ha',hc',hcl',hcs⟩ u'
    ·walk_at "w"
     refine rd_I (show CDivS _ _ from ⟨by decide,by show (3:Nat) < 2^8999;exact Nat.lt_of_lt_of_le (show 3 < 2^2 by decide) (Nat.pow_le_pow_right (by decide) (by decide))⟩) ?_
     walk_at "w"
     refine rd_I (show (0:Int) < n from hn) ?_
     exact k _ _ (Int.emod_nonneg _ (by lia)) (Int.emod_lt_of_pos _ hn) ⟨q,a',b',c',cs,hp',hq',ha',hc',hcl',hcs⟩ u'
theorem sc__law_low:FnScope ["_law_top_here","_law_bottom","_law_one","_law_other"] ["_law_top_here","_law_bottom"] (defScope s__law_low):=⟨rfl,rfl,rfl,by decide +kernel,rfl,by decide +kernel,by decide +kernel⟩
theorem ok__law_low (T:Txt K mg Z):FnOk P w K mg base CX0 1 Z.a__law_low Z.d__law_low ["_law_top_here","_law_bottom"] sp_low:=by
 refine T.F__law_low.ok sc__law_low (fun vs H Q E h=>?_) (fun cdv A outer s H vs Q E hr h=>?_)
 ·obtain ⟨t,b,rfl,hb,hs,k⟩:=h
  rfl
 ·obtain ⟨t,b,rfl,hb,hs,k⟩:=h
  refine ⟨_,(pss_cons (ps_set (i:=2) sc__law_low.nd rfl (Or.inl rfl) (pe_callB call_abs (by rfl) T.abs PyProof.Rows.boot_abs (pa_cons (pv 0) pa_nil)))
   (pss_cons (ps_set (i:=3) sc__law_low.nd rfl (Or.inl rfl) (pv 1))
   (pss_cons (ps_while PassesOwn.never (pt_cmpR op_ne (pv 2) pe_int (nomark _))
    (pss_one (ps_par (i:=2) (j:=3) rfl sc__law_low.nd rfl rfl (by decide) rfl rfl (pa_cons (pe_op op_mod (pv 3) (pv 2)) (pa_cons (pv 2) pa_nil)) rfl)))
   (pss_one (ps_ret (pe_tup (pa_cons (pe_op op_fdivS (pv 0) (pv 3)) (pa_cons (pe_op op_fdivS (pv 1) (pv 3)) pa_nil)))))))),?_⟩
  refine rd_start (σ:=[some (.int t),some (.int b),none,none]) rfl ?_
  walk_at "w"
  refine while_i (fun σ' H'=>∃(u v:Int),σ'=[some (.int t),some (.int b),some (.int u),some (.int v)]∧H'=H∧0<=u∧0 < v∧Int.gcd u v=Int.gcd t b) (fun σ' _=>match σ' with | [_,_,some (.int u),_]=>u.natAbs | _=>0) ⟨_,b,rfl,rfl,by split <;> lia,hb,by
   split
   ·rw[Int.neg_gcd]
   ·rfl⟩ ?_
  rintro σ' H' ⟨u,v,rfl,rfl,hu,hv,hg⟩
  walk_at "w"
  refine ite2 (fun h=>?_) (fun h=>?_)
  ·have hu0:u≠0:=fun z=>by subst z;simp at h
   walk_at "w"
   refine rd_I (show (0:Int) < u by lia) ?_
   walk_at "w"
   have h1:=Int.emod_nonneg v hu0
   have h2:=Int.emod_lt_of_pos v (show 0 < u by lia)
   exact ⟨⟨v % u,u,rfl,rfl,h1,by lia,by rw[Int.gcd_comm,gcd_emod,Int.gcd_comm];exact hg⟩,by show (v % u).natAbs < u.natAbs;lia⟩
  ·have hu0:u=0:=by
    by_cases z:u=0
    ·exact z
    ·exfalso;apply h;simp [z]
   subst hu0
   have e:v=g t b:=by
    unfold g
    rw[← hg,Int.gcd_zero_left]
    lia
   have hgs:Sz 8999 v:=hs.le (by
    rw[e]
    have h1:(g t b).natAbs=Int.gcd t b:=by unfold g;simp
    rw[h1]
    exact Nat.le_of_dvd (by lia) (by have:=Int.gcd_dvd_right (a:=t) (b:=b);exact Int.natAbs_dvd_natAbs.mpr this |> fun z=>by simpa using z))
   walk_at "w"
   refine rd_I (show CDivS _ _ from ⟨by lia,hgs⟩) ?_
   walk_at "w"
   refine rd_I (show CDivS _ _ from ⟨by lia,hgs⟩) ?_
   walk_at "w"
   refine rd_newT fun r H' s' h'=>?_
   rw[Int.fdiv_eq_ediv_of_nonneg _ (by lia),Int.fdiv_eq_ediv_of_nonneg _ (by lia),e] at h'
   exact k r H' s' h'
theorem sc__law_great:FnScope ["_law_bag_here","_law_way","_law_found","_law_k"] ["_law_bag_here"] (defScope s__law_great):=⟨rfl,rfl,rfl,by decide +kernel,rfl,by decide +kernel,by decide +kernel⟩
theorem ok__law_great (T : Txt K mg Z) : FnOk P w K mg base CX0 2 Z.a__law_great Z.d__law_great ["_law_bag_here"] sp_great := by
  have G__law_take := ok__law_take (P := P) (w := w) (base := base) T
  refine T.F__law_great.ok sc__law_great (fun vs H Q E h => ?_) (fun cdv A outer s H vs Q E hr h => ?_)
  · obtain ⟨p, rfl, hB, k⟩ := h
    rfl
  · obtain ⟨p, rfl, hB, k⟩ := h
    refine ⟨_, (pss_cons (ps_set (i := 1) sc__law_great.nd rfl (Or.inl rfl) (pe_call G__law_take (hr.mono (by decide)) rfl T.mg__law_take T.F__law_take.kp T.b__law_take .nil pass0 (pa_cons (pv 0) (pa_cons pe_int pa_nil))))
      (pss_cons (ps_if (pt_cmpR op_eq (pv 1) pe_int (nomark _)) (pss_one (ps_ret (pe_call G__law_take (hr.mono (by decide)) rfl T.mg__law_take T.F__law_take.kp T.b__law_take .nil pass0 (pa_cons (pv 0) (pa_cons pe_int pa_nil))))) pss_nil)
      (pss_cons (ps_if (pt_cmpR op_eq (pv 1) pe_int (nomark _)) (pss_one (ps_ret (pe_call G__law_take (hr.mono (by decide)) rfl T.mg__law_take T.F__law_take.kp T.b__law_take .nil pass0 (pa_cons (pv 0) (pa_cons pe_int pa_nil))))) pss_nil)
      (pss_cons (ps_if (pt_cmpR op_eq (pv 1) pe_int (nomark _)) (pss_one (ps_ret (pe_call G__law_take (hr.mono (by decide)) rfl T.mg__law_take T.F__law_take.kp T.b__law_take .nil pass0 (pa_cons (pv 0) (pa_cons (pe_op op_pow pe_int pe_int) pa_nil))))) pss_nil)
      (pss_cons (ps_if (pt_cmpR op_eq (pv 1) pe_int (nomark _)) (pss_cons (ps_set (i := 2) sc__law_great.nd rfl (Or.inl rfl) pe_int)
      (pss_cons (ps_for PassesOwn.never rfl (pi_range1 rfl T.range (pa_cons (pe_call G__law_take (hr.mono (by decide)) rfl T.mg__law_take T.F__law_take.kp T.b__law_take .nil pass0 (pa_cons (pv 0) (pa_cons pe_int pa_nil))) pa_nil)) (pg_name (i := 3) sc__law_great.nd rfl (Or.inl rfl) (Or.inl rfl))
        (pss_one (ps_set (i := 2) sc__law_great.nd rfl (Or.inl rfl) (pe_op op_mulS (pv 2) pe_int))))
      (pss_one (ps_ret (pv 2))))) pss_nil)
      (pss_cons (ps_if (pt_cmpR op_eq (pv 1) pe_int (nomark _)) (pss_one (ps_ret (pe_op op_mulS (pe_op op_mulS (pe_call G__law_take (hr.mono (by decide)) rfl T.mg__law_take T.F__law_take.kp T.b__law_take .nil pass0 (pa_cons (pv 0) (pa_cons (pe_op op_pow pe_int pe_int) pa_nil))) (pe_call G__law_take (hr.mono (by decide)) rfl T.mg__law_take T.F__law_take.kp T.b__law_take .nil pass0 (pa_cons (pv 0) (pa_cons (pe_op op_pow pe_int pe_int) pa_nil)))) (pe_call G__law_take (hr.mono (by decide)) rfl T.mg__law_take T.F__law_take.kp T.b__law_take .nil pass0 (pa_cons (pv 0) (pa_cons (pe_op op_pow pe_int pe_int) pa_nil)))))) pss_nil)
      (pss_one (ps_ret (pe_op op_sub (pe_op op_sub (pe_op op_pow pe_int pe_int) pe_int) (pe_call G__law_take (hr.mono (by decide)) rfl T.mg__law_take T.F__law_take.kp T.b__law_take .nil pass0 (pa_cons (pv 0) (pa_cons (pe_op op_pow pe_int pe_int) pa_nil)))))))))))), ?_⟩
    refine rd_start (σ := [some (.ref p), none, none, none]) rfl ?_
    walk_at "w"
    refine ⟨p, 6, rfl, hB, by decide, by decide, fun w H1 hw0 hw1 B1 u1 => ?_⟩
    walk_at "w"
    refine ite2 (fun h0 => ?_) (fun h0 => ?_)
    · walk_at "w"
      exact ⟨p, 4, rfl, B1, by decide, by decide, fun v H2 v0 v1 B2 u2 => k v H2 v0 (by have : (4 : Int) < 10 ^ 60 := by decide
                                                                                        lia) B2 (u1.trans u2)⟩
    walk_at "w"
    refine ite2 (fun h0 => ?_) (fun h0 => ?_)
    · walk_at "w"
      exact ⟨p, 100, rfl, B1, by decide, by decide, fun v H2 v0 v1 B2 u2 => k v H2 v0 (by have : (100 : Int) < 10 ^ 60 := by decide
                                                                                          lia) B2 (u1.trans u2)⟩
    walk_at "w"
    refine ite2 (fun h0 => ?_) (fun h0 => ?_)
    · walk_at "w"
      exact ⟨p, _, rfl, B1, by decide, by decide, fun v H2 v0 v1 B2 u2 => k v H2 v0 (Int.lt_trans v1 (by decide)) B2 (u1.trans u2)⟩
    walk_at "w"
    refine ite2 (fun h0 => ?_) (fun h0 => ?_)
    · walk_at "w"
      refine ⟨p, 60, rfl, B1, by decide, by decide, fun v H2 v0 v1 B2 u2 => ?_⟩
      refine ⟨v, rfl, by lia, by lia, ?_⟩
      refine for_range (fun i σ' H' => H' = H2 ∧ ∃ x, σ' = [some (.ref p), some (.int w), some (.int (10 ^ i)), x]) ⟨rfl, none, rfl⟩ ?_ ?_
      · rintro i σ' H' hi ⟨rfl, x, rfl⟩
        walk_at "w"
        exact ⟨rfl, _, by rw [Int.pow_succ]; rfl⟩
      · rintro σ' H' ⟨rfl, x, rfl⟩
        walk_at "w"
        have e1 : (10 : Int) ^ v.toNat ≤ 10 ^ 59 := by
          have : (10 : Nat) ^ v.toNat ≤ 10 ^ 59 := Nat.pow_le_pow_right (by decide) (by lia)
          have h2 := Int.ofNat_le.mpr this
          simpa using h2
        have e2 : (0 : Int) ≤ 10 ^ v.toNat := Int.pow_nonneg (by decide)
        exact k _ _ e2 (Int.lt_of_le_of_lt e1 (by decide)) B2 (u1.trans u2)
    walk_at "w"
    refine ite2 (fun h0 => ?_) (fun h0 => ?_)
    · walk_at "w"
      refine ⟨p, _, rfl, B1, by decide, by decide, fun v H2 v0 v1 B2 u2 => ?_⟩
      walk_at "w"
      refine ⟨p, _, rfl, B2, by decide, by decide, fun v' H3 v0' v1' B3 u3 => ?_⟩
      have b1 : v < 2 ^ 64 := Int.lt_trans v1 (by decide)
      have b2 : v' < 2 ^ 64 := Int.lt_trans v1' (by decide)
      refine rd_I (show CMulS _ _ from .inl (.inl ⟨by lia, b1⟩)) ?_
      walk_at "w"
      refine ⟨p, _, rfl, B3, by decide, by decide, fun z H4 z0 z1 B4 u4 => ?_⟩
      have b3 : z < 2 ^ 64 := Int.lt_trans z1 (by decide)
      refine rd_I (show CMulS _ _ from .inl (.inr ⟨by lia, b3⟩)) ?_
      have m1 := mul_bd v0 v0' v1 v1'
      have m2 := mul_bd m1.1 z0 m1.2 z1
      exact k _ _ m2.1 (Int.lt_trans m2.2 (by decide)) B4 (((u1.trans u2).trans u3).trans u4)
    · walk_at "w"
      refine ⟨p, _, rfl, B1, by decide, by decide, fun v H2 v0 v1 B2 u2 => ?_⟩
      walk_at "w"
      have e1 : v < 10 ^ 9 := v1
      refine k _ _ ?_ ?_ B2 (u1.trans u2)
      · show (0 : Int) ≤ 10 ^ 60 - 1 - v
        have : (10 : Int) ^ 9 ≤ 10 ^ 60 - 1 := by decide
        lia
      · show (10 : Int) ^ 60 - 1 - v < 10 ^ 60
        lia
theorem sc__law_top:FnScope ["_law_bag_here"] ["_law_bag_here"] (defScope s__law_top):=⟨rfl,rfl,rfl,by decide +kernel,rfl,by decide +kernel,by decide +kernel⟩
theorem ok__law_top (T:Txt K mg Z):FnOk P w K mg base CX0 3 Z.a__law_top Z.d__law_top ["_law_bag_here"] sp_top:=by
 have G__law_take:=ok__law_take (P:=P) (w:=w) (base:=base) T
 have G__law_great:=ok__law_great (P:=P) (w:=w) (base:=base) T
 refine T.F__law_top.ok sc__law_top (fun vs H Q E h=>?_) (fun cdv A outer s H vs Q E hr h=>?_)
 ·obtain ⟨p,rfl,hB,k⟩:=h
  rfl
 ·obtain ⟨p,rfl,hB,k⟩:=h
  refine ⟨_,(pss_cons (ps_if (pt_cmpR op_eq (pe_call G__law_take (hr.mono (by decide)) rfl T.mg__law_take T.F__law_take.kp T.b__law_take .nil pass0 (pa_cons (pv 0) (pa_cons pe_int pa_nil))) pe_int (nomark _)) (pss_one (ps_ret (pe_call G__law_great (hr.mono (by decide)) rfl T.mg__law_great T.F__law_great.kp T.b__law_great .nil pass0 (pa_cons (pv 0) pa_nil)))) pss_nil)
   (pss_one (ps_ret (pe_op op_sub pe_int (pe_call G__law_great (hr.mono (by decide)) rfl T.mg__law_great T.F__law_great.kp T.b__law_great .nil pass0 (pa_cons (pv 0) pa_nil)))))),?_⟩
  refine rd_start (σ:=[some (.ref p)]) rfl ?_
  walk_at "w"
  refine ⟨p,2,rfl,hB,by decide,by decide,fun w H1 hw0 hw1 B1 u1=>?_⟩
  walk_at "w"
  refine ite2 (fun h0=>?_) (fun h0=>?_)
  ·walk_at "w"
   refine ⟨p,rfl,B1,fun v H2 v0 v1 B2 u2=>k v H2 ?_ B2 (u1.trans u2)⟩
   have e:((10:Nat)^60:Int)=10^60:=by decide
   lia
  ·walk_at "w"
   refine ⟨p,rfl,B1,fun v H2 v0 v1 B2 u2=>?_⟩
   walk_at "w"
   refine k _ H2 ?_ B2 (u1.trans u2)
   have e:((10:Nat)^60:Int)=10^60:=by decide
   lia
theorem sc__law_any:FnScope ["_law_bag_here"] ["_law_bag_here"] (defScope s__law_any):=⟨rfl,rfl,rfl,by decide +kernel,rfl,by decide +kernel,by decide +kernel⟩
theorem ok__law_any (T:Txt K mg Z):FnOk P w K mg base CX0 4 Z.a__law_any Z.d__law_any ["_law_bag_here"] sp_any:=by
 have G__law_low:=ok__law_low (P:=P) (w:=w) (base:=base) T
 have G__law_top:=ok__law_top (P:=P) (w:=w) (base:=base) T
 have G__law_great:=ok__law_great (P:=P) (w:=w) (base:=base) T
 refine T.F__law_any.ok sc__law_any (fun vs H Q E h=>?_) (fun cdv A outer s H vs Q E hr h=>?_)
 ·obtain ⟨p,rfl,hB,k⟩:=h
  rfl
 ·obtain ⟨p,rfl,hB,k⟩:=h
  refine ⟨_,(pss_one (ps_ret (pe_call G__law_low (hr.mono (by decide)) rfl T.mg__law_low T.F__law_low.kp T.b__law_low .nil pass0 (pa_cons (pe_call G__law_top (hr.mono (by decide)) rfl T.mg__law_top T.F__law_top.kp T.b__law_top .nil pass0 (pa_cons (pv 0) pa_nil)) (pa_cons (pe_callB (call_max2 rfl) (by rfl) T.max PyProof.Rows.boot_max (pa_cons pe_int (pa_cons (pe_call G__law_great (hr.mono (by decide)) rfl T.mg__law_great T.F__law_great.kp T.b__law_great .nil pass0 (pa_cons (pv 0) pa_nil)) pa_nil))) pa_nil))))),?_⟩
  refine rd_start (σ:=[some (.ref p)]) rfl ?_
  walk_at "w"
  refine ⟨p,rfl,hB,fun t H1 ht B1 u1=>?_⟩
  walk_at "w"
  refine ⟨p,rfl,B1,fun m H2 m0 m1 B2 u2=>?_⟩
  walk_at "w"
  have hb:0 < (if m > 1 then m else (1:Int)):=by split <;> lia
  have hb2:(if m > 1 then m else (1:Int)).natAbs < 10^60:=by
   have e:((10:Nat)^60:Int)=10^60:=by decide
   split
   ·lia
   ·decide
  refine ⟨_,_,rfl,hb,(lt60 hb2).mono (by decide),fun r H' s' h'=>?_⟩
  exact k r _ _ _ (low60 hb ht hb2) h' (B2.same s') ((u1.trans u2).trans s'.upto)
theorem sc_Wrong___init__:FnScope ["self","at"] ["self","at"] (defScope s_Wrong___init__):=⟨rfl,rfl,rfl,by decide +kernel,rfl,by decide +kernel,by decide +kernel⟩
theorem ok_Wrong___init__ (T:Txt K mg Z):FnOk P w K mg base CX0 1 Z.a_Wrong___init__ Z.d_Wrong___init__ ["self","at"] (sp_initE K Z.a_Wrong Z.a_SumError "at"):=by
 refine T.F_Wrong___init__.ok sc_Wrong___init__ (fun vs H Q E h=>?_) (fun cdv A outer s H vs Q E hr h=>?_)
 ·obtain ⟨e,y,rfl,he,k⟩:=h
  rfl
 ·obtain ⟨e,y,rfl,he,k⟩:=h
  refine ⟨_,(pss_one (ps_fldE (pv 0) (pv 1) rfl)),?_⟩
  refine rd_start (σ:=[some (.ref e),some y]) rfl ?_
  walk_at "w"
  unfold sFldE
  walk_at "w"
  refine ⟨e,_,_,rfl,he,T.xi_Wrong,T.nt_Wrong,fun dx hd ne=>?_⟩
  walk_at "w"
  exact k dx hd ne
theorem sc_NoThing___init__:FnScope ["self","at"] ["self","at"] (defScope s_NoThing___init__):=⟨rfl,rfl,rfl,by decide +kernel,rfl,by decide +kernel,by decide +kernel⟩
theorem ok_NoThing___init__ (T:Txt K mg Z):FnOk P w K mg base CX0 1 Z.a_NoThing___init__ Z.d_NoThing___init__ ["self","at"] (sp_initE K Z.a_NoThing Z.a_SumError "at"):=by
 refine T.F_NoThing___init__.ok sc_NoThing___init__ (fun vs H Q E h=>?_) (fun cdv A outer s H vs Q E hr h=>?_)
 ·obtain ⟨e,y,rfl,he,k⟩:=h
  rfl
 ·obtain ⟨e,y,rfl,he,k⟩:=h
  refine ⟨_,(pss_one (ps_fldE (pv 0) (pv 1) rfl)),?_⟩
  refine rd_start (σ:=[some (.ref e),some y]) rfl ?_
  walk_at "w"
  unfold sFldE
  walk_at "w"
  refine ⟨e,_,_,rfl,he,T.xi_NoThing,T.nt_NoThing,fun dx hd ne=>?_⟩
  walk_at "w"
  exact k dx hd ne
theorem sc_TooMany___init__:FnScope ["self","most"] ["self","most"] (defScope s_TooMany___init__):=⟨rfl,rfl,rfl,by decide +kernel,rfl,by decide +kernel,by decide +kernel⟩
theorem ok_TooMany___init__ (T:Txt K mg Z):FnOk P w K mg base CX0 1 Z.a_TooMany___init__ Z.d_TooMany___init__ ["self","most"] (sp_initE K Z.a_TooMany Z.a_SumError "most"):=by
 refine T.F_TooMany___init__.ok sc_TooMany___init__ (fun vs H Q E h=>?_) (fun cdv A outer s H vs Q E hr h=>?_)
 ·obtain ⟨e,y,rfl,he,k⟩:=h
  rfl
 ·obtain ⟨e,y,rfl,he,k⟩:=h
  refine ⟨_,(pss_one (ps_fldE (pv 0) (pv 1) rfl)),?_⟩
  refine rd_start (σ:=[some (.ref e),some y]) rfl ?_
  walk_at "w"
  unfold sFldE
  walk_at "w"
  refine ⟨e,_,_,rfl,he,T.xi_TooMany,T.nt_TooMany,fun dx hd ne=>?_⟩
  walk_at "w"
  exact k dx hd ne
theorem sc_NotSteered___init__:FnScope ["self","price"] ["self","price"] (defScope s_NotSteered___init__):=⟨rfl,rfl,rfl,by decide +kernel,rfl,by decide +kernel,by decide +kernel⟩
theorem ok_NotSteered___init__ (T:Txt K mg Z):FnOk P w K mg base CX0 1 Z.a_NotSteered___init__ Z.d_NotSteered___init__ ["self","price"] (sp_initE K Z.a_NotSteered Z.a_SumError "price"):=by
 refine T.F_NotSteered___init__.ok sc_NotSteered___init__ (fun vs H Q E h=>?_) (fun cdv A outer s H vs Q E hr h=>?_)
 ·obtain ⟨e,y,rfl,he,k⟩:=h
  rfl
 ·obtain ⟨e,y,rfl,he,k⟩:=h
  refine ⟨_,(pss_one (ps_fldE (pv 0) (pv 1) rfl)),?_⟩
  refine rd_start (σ:=[some (.ref e),some y]) rfl ?_
  walk_at "w"
  unfold sFldE
  walk_at "w"
  refine ⟨e,_,_,rfl,he,T.xi_NotSteered,T.nt_NotSteered,fun dx hd ne=>?_⟩
  walk_at "w"
  exact k dx hd ne
theorem sc_NotSeen___init__:FnScope ["self","state"] ["self","state"] (defScope s_NotSeen___init__):=⟨rfl,rfl,rfl,by decide +kernel,rfl,by decide +kernel,by decide +kernel⟩
theorem ok_NotSeen___init__ (T:Txt K mg Z):FnOk P w K mg base CX0 1 Z.a_NotSeen___init__ Z.d_NotSeen___init__ ["self","state"] (sp_initE K Z.a_NotSeen Z.a_SumError "state"):=by
 refine T.F_NotSeen___init__.ok sc_NotSeen___init__ (fun vs H Q E h=>?_) (fun cdv A outer s H vs Q E hr h=>?_)
 ·obtain ⟨e,y,rfl,he,k⟩:=h
  rfl
 ·obtain ⟨e,y,rfl,he,k⟩:=h
  refine ⟨_,(pss_one (ps_fldE (pv 0) (pv 1) rfl)),?_⟩
  refine rd_start (σ:=[some (.ref e),some y]) rfl ?_
  walk_at "w"
  unfold sFldE
  walk_at "w"
  refine ⟨e,_,_,rfl,he,T.xi_NotSeen,T.nt_NotSeen,fun dx hd ne=>?_⟩
  walk_at "w"
  exact k dx hd ne
theorem sc_NoName___init__:FnScope ["self","name"] ["self","name"] (defScope s_NoName___init__):=⟨rfl,rfl,rfl,by decide +kernel,rfl,by decide +kernel,by decide +kernel⟩
theorem ok_NoName___init__ (T:Txt K mg Z):FnOk P w K mg base CX0 1 Z.a_NoName___init__ Z.d_NoName___init__ ["self","name"] (sp_initE K Z.a_NoName Z.a_SumError "name"):=by
 refine T.F_NoName___init__.ok sc_NoName___init__ (fun vs H Q E h=>?_) (fun cdv A outer s H vs Q E hr h=>?_)
 ·obtain ⟨e,y,rfl,he,k⟩:=h
  rfl
 ·obtain ⟨e,y,rfl,he,k⟩:=h
  refine ⟨_,(pss_one (ps_fldE (pv 0) (pv 1) rfl)),?_⟩
  refine rd_start (σ:=[some (.ref e),some y]) rfl ?_
  walk_at "w"
  unfold sFldE
  walk_at "w"
  refine ⟨e,_,_,rfl,he,T.xi_NoName,T.nt_NoName,fun dx hd ne=>?_⟩
  walk_at "w"
  exact k dx hd ne
theorem sc_Taken___init__:FnScope ["self","name"] ["self","name"] (defScope s_Taken___init__):=⟨rfl,rfl,rfl,by decide +kernel,rfl,by decide +kernel,by decide +kernel⟩
theorem ok_Taken___init__ (T:Txt K mg Z):FnOk P w K mg base CX0 1 Z.a_Taken___init__ Z.d_Taken___init__ ["self","name"] (sp_initE K Z.a_Taken Z.a_SumError "name"):=by
 refine T.F_Taken___init__.ok sc_Taken___init__ (fun vs H Q E h=>?_) (fun cdv A outer s H vs Q E hr h=>?_)
 ·obtain ⟨e,y,rfl,he,k⟩:=h
  rfl
 ·obtain ⟨e,y,rfl,he,k⟩:=h
  refine ⟨_,(pss_one (ps_fldE (pv 0) (pv 1) rfl)),?_⟩
  refine rd_start (σ:=[some (.ref e),some y]) rfl ?_
  walk_at "w"
  unfold sFldE
  walk_at "w"
  refine ⟨e,_,_,rfl,he,T.xi_Taken,T.nt_Taken,fun dx hd ne=>?_⟩
  walk_at "w"
  exact k dx hd ne
theorem sc__law_raised:FnScope ["_law_which","_law_held"] ["_law_which","_law_held"] (defScope s__law_raised):=⟨rfl,rfl,rfl,by decide +kernel,rfl,by decide +kernel,by decide +kernel⟩
theorem ok__law_raised (T:Txt K mg Z):FnOk P w K mg base (CXE P w) 3 Z.a__law_raised Z.d__law_raised ["_law_which","_law_held"] (sp_raised17 [Z.a_Wrong,Z.a_NoThing,Z.a_TooMany,Z.a_NotSteered,Z.a_NotSeen,Z.a_NoName,Z.a_Taken,Z.a_NoNumber,Z.a_NoFit,Z.a_NoText] ["at","at","most","price","state","name","name"]):=by
 have G_Wrong___init__:=ok_Wrong___init__ (P:=P) (w:=w) (base:=base) T
 have G_NoThing___init__:=ok_NoThing___init__ (P:=P) (w:=w) (base:=base) T
 have G_TooMany___init__:=ok_TooMany___init__ (P:=P) (w:=w) (base:=base) T
 have G_NotSteered___init__:=ok_NotSteered___init__ (P:=P) (w:=w) (base:=base) T
 have G_NotSeen___init__:=ok_NotSeen___init__ (P:=P) (w:=w) (base:=base) T
 have G_NoName___init__:=ok_NoName___init__ (P:=P) (w:=w) (base:=base) T
 have G_Taken___init__:=ok_Taken___init__ (P:=P) (w:=w) (base:=base) T
 refine T.F__law_raised.okX sc__law_raised (fun vs H Q E h=>?_) (fun cdv A outer s H vs Q E hr h=>?_)
 ·obtain ⟨i,y,rfl,hi,k1,k2⟩:=h
  rfl
 ·obtain ⟨i,y,rfl,hi,k1,k2⟩:=h
  refine ⟨_,(pss_cons (ps_if (pt_cmpR op_eq (pv 0) pe_int (nomark _)) (pss_one (ps_raiseE throwsT_def rfl (pe_makeE rfl T.xi_Wrong T.in_Wrong T.fn_Wrong T.kp_Wrong G_Wrong___init__ (hr.mono (by decide)) rfl T.mg_Wrong T.b_Wrong___init__ (pa_cons (pv 1) pa_nil)))) pss_nil)
   (pss_cons (ps_if (pt_cmpR op_eq (pv 0) pe_int (nomark _)) (pss_one (ps_raiseE throwsT_def rfl (pe_makeE rfl T.xi_NoThing T.in_NoThing T.fn_NoThing T.kp_NoThing G_NoThing___init__ (hr.mono (by decide)) rfl T.mg_NoThing T.b_NoThing___init__ (pa_cons (pv 1) pa_nil)))) pss_nil)
   (pss_cons (ps_if (pt_cmpR op_eq (pv 0) pe_int (nomark _)) (pss_one (ps_raiseE throwsT_def rfl (pe_makeE rfl T.xi_TooMany T.in_TooMany T.fn_TooMany T.kp_TooMany G_TooMany___init__ (hr.mono (by decide)) rfl T.mg_TooMany T.b_TooMany___init__ (pa_cons (pv 1) pa_nil)))) pss_nil)
   (pss_cons (ps_if (pt_cmpR op_eq (pv 0) pe_int (nomark _)) (pss_one (ps_raiseE throwsT_def rfl (pe_makeE rfl T.xi_NotSteered T.in_NotSteered T.fn_NotSteered T.kp_NotSteered G_NotSteered___init__ (hr.mono (by decide)) rfl T.mg_NotSteered T.b_NotSteered___init__ (pa_cons (pv 1) pa_nil)))) pss_nil)
   (pss_cons (ps_if (pt_cmpR op_eq (pv 0) pe_int (nomark _)) (pss_one (ps_raiseE throwsT_def rfl (pe_makeE rfl T.xi_NotSeen T.in_NotSeen T.fn_NotSeen T.kp_NotSeen G_NotSeen___init__ (hr.mono (by decide)) rfl T.mg_NotSeen T.b_NotSeen___init__ (pa_cons (pv 1) pa_nil)))) pss_nil)
   (pss_cons (ps_if (pt_cmpR op_eq (pv 0) pe_int (nomark _)) (pss_one (ps_raiseE throwsT_def rfl (pe_makeE rfl T.xi_NoName T.in_NoName T.fn_NoName T.kp_NoName G_NoName___init__ (hr.mono (by decide)) rfl T.mg_NoName T.b_NoName___init__ (pa_cons (pv 1) pa_nil)))) pss_nil)
   (pss_cons (ps_if (pt_cmpR op_eq (pv 0) pe_int (nomark _)) (pss_one (ps_raiseE throwsT_def rfl (pe_makeE rfl T.xi_Taken T.in_Taken T.fn_Taken T.kp_Taken G_Taken___init__ (hr.mono (by decide)) rfl T.mg_Taken T.b_Taken___init__ (pa_cons (pv 1) pa_nil)))) pss_nil)
   (pss_cons (ps_if (pt_cmpR op_eq (pv 0) pe_int (nomark _)) (pss_one (ps_raise0 throws_def rfl rfl T.mg_NoNumber T.ex_NoNumber)) pss_nil)
   (pss_cons (ps_if (pt_cmpR op_eq (pv 0) pe_int (nomark _)) (pss_one (ps_raise0 throws_def rfl rfl T.mg_NoFit T.ex_NoFit)) pss_nil)
   (pss_one (ps_raise0 throws_def rfl rfl T.mg_NoText T.ex_NoText))))))))))),?_⟩
  refine rd_start (σ:=[some (.int i),some y]) rfl ?_
  have i10:i=0∨i=1∨i=2∨i=3∨i=4∨i=5∨i=6∨i=7∨i=8∨i=9:=by lia
  rcases i10 with rfl | rfl | rfl | rfl | rfl | rfl | rfl | rfl | rfl | rfl
  ·walk_at "w"
   refine iteT ?_
   walk_at "w"
   unfold tRaiseE tMakeE
   walk_at "w"
   intro e he
   refine ⟨e,y,rfl,upd_same,fun dx hd ne=>⟨rfl,e,Z.a_Wrong,_,some dx,rfl,upd_same,he,T.xi_Wrong,?_⟩⟩
   have hd':H dx=none:=by rw[upd_ne ne] at hd;exact hd
   exact k1 (by decide) dx _ (same_hid he (Same.refl _) hd') (by rw[hid_ne ne,upd_ne ne,upd_same];rfl)
  ·walk_at "w"
   refine iteF ?_
   walk_at "w"
   refine iteT ?_
   walk_at "w"
   unfold tRaiseE tMakeE
   walk_at "w"
   intro e he
   refine ⟨e,y,rfl,upd_same,fun dx hd ne=>⟨rfl,e,Z.a_NoThing,_,some dx,rfl,upd_same,he,T.xi_NoThing,?_⟩⟩
   have hd':H dx=none:=by rw[upd_ne ne] at hd;exact hd
   exact k1 (by decide) dx _ (same_hid he (Same.refl _) hd') (by rw[hid_ne ne,upd_ne ne,upd_same];rfl)
  ·walk_at "w"
   refine iteF ?_
   walk_at "w"
   refine iteF ?_
   walk_at "w"
   refine iteT ?_
   walk_at "w"
   unfold tRaiseE tMakeE
   walk_at "w"
   intro e he
   refine ⟨e,y,rfl,upd_same,fun dx hd ne=>⟨rfl,e,Z.a_TooMany,_,some dx,rfl,upd_same,he,T.xi_TooMany,?_⟩⟩
   have hd':H dx=none:=by rw[upd_ne ne] at hd;exact hd
   exact k1 (by decide) dx _ (same_hid he (Same.refl _) hd') (by rw[hid_ne ne,upd_ne ne,upd_same];rfl)
  ·walk_at "w"
   refine iteF ?_
   walk_at "w"
   refine iteF ?_
   walk_at "w"
   refine iteF ?_
   walk_at "w"
   refine iteT ?_
   walk_at "w"
   unfold tRaiseE tMakeE
   walk_at "w"
   intro e he
   refine ⟨e,y,rfl,upd_same,fun dx hd ne=>⟨rfl,e,Z.a_NotSteered,_,some dx,rfl,upd_same,he,T.xi_NotSteered,?_⟩⟩
   have hd':H dx=none:=by rw[upd_ne ne] at hd;exact hd
   exact k1 (by decide) dx _ (same_hid he (Same.refl _) hd') (by rw[hid_ne ne,upd_ne ne,upd_same];rfl)
  ·walk_at "w"
   refine iteF ?_
   walk_at "w"
   refine iteF ?_
   walk_at "w"
   refine iteF ?_
   walk_at "w"
   refine iteF ?_
   walk_at "w"
   refine iteT ?_
   walk_at "w"
   unfold tRaiseE tMakeE
   walk_at "w"
   intro e he
   refine ⟨e,y,rfl,upd_same,fun dx hd ne=>⟨rfl,e,Z.a_NotSeen,_,some dx,rfl,upd_same,he,T.xi_NotSeen,?_⟩⟩
   have hd':H dx=none:=by rw[upd_ne ne] at hd;exact hd
   exact k1 (by decide) dx _ (same_hid he (Same.refl _) hd') (by rw[hid_ne ne,upd_ne ne,upd_same];rfl)
  ·walk_at "w"
   refine iteF ?_
   walk_at "w"
   refine iteF ?_
   walk_at "w"
   refine iteF ?_
   walk_at "w"
   refine iteF ?_
   walk_at "w"
   refine iteF ?_
   walk_at "w"
   refine iteT ?_
   walk_at "w"
   unfold tRaiseE tMakeE
   walk_at "w"
   intro e he
   refine ⟨e,y,rfl,upd_same,fun dx hd ne=>⟨rfl,e,Z.a_NoName,_,some dx,rfl,upd_same,he,T.xi_NoName,?_⟩⟩
   have hd':H dx=none:=by rw[upd_ne ne] at hd;exact hd
   exact k1 (by decide) dx _ (same_hid he (Same.refl _) hd') (by rw[hid_ne ne,upd_ne ne,upd_same];rfl)
  ·walk_at "w"
   refine iteF ?_
   walk_at "w"
   refine iteF ?_
   walk_at "w"
   refine iteF ?_
   walk_at "w"
   refine iteF ?_
   walk_at "w"
   refine iteF ?_
   walk_at "w"
   refine iteF ?_
   walk_at "w"
   refine iteT ?_
   walk_at "w"
   unfold tRaiseE tMakeE
   walk_at "w"
   intro e he
   refine ⟨e,y,rfl,upd_same,fun dx hd ne=>⟨rfl,e,Z.a_Taken,_,some dx,rfl,upd_same,he,T.xi_Taken,?_⟩⟩
   have hd':H dx=none:=by rw[upd_ne ne] at hd;exact hd
   exact k1 (by decide) dx _ (same_hid he (Same.refl _) hd') (by rw[hid_ne ne,upd_ne ne,upd_same];rfl)
  ·walk_at "w"
   refine iteF ?_
   walk_at "w"
   refine iteF ?_
   walk_at "w"
   refine iteF ?_
   walk_at "w"
   refine iteF ?_
   walk_at "w"
   refine iteF ?_
   walk_at "w"
   refine iteF ?_
   walk_at "w"
   refine iteF ?_
   walk_at "w"
   refine iteT ?_
   walk_at "w"
   exact k2 (by decide)
  ·walk_at "w"
   refine iteF ?_
   walk_at "w"
   refine iteF ?_
   walk_at "w"
   refine iteF ?_
   walk_at "w"
   refine iteF ?_
   walk_at "w"
   refine iteF ?_
   walk_at "w"
   refine iteF ?_
   walk_at "w"
   refine iteF ?_
   walk_at "w"
   refine iteF ?_
   walk_at "w"
   refine iteT ?_
   walk_at "w"
   exact k2 (by decide)
  ·walk_at "w"
   refine iteF ?_
   walk_at "w"
   refine iteF ?_
   walk_at "w"
   refine iteF ?_
   walk_at "w"
   refine iteF ?_
   walk_at "w"
   refine iteF ?_
   walk_at "w"
   refine iteF ?_
   walk_at "w"
   refine iteF ?_
   walk_at "w"
   refine iteF ?_
   walk_at "w"
   refine iteF ?_
   walk_at "w"
   walk_at "w"
   exact k2 (by decide)
theorem sc__law_caught:FnScope ["_law_which","_law_held","_law_e"] ["_law_which","_law_held"] (defScope s__law_caught):=⟨rfl,rfl,rfl,by decide +kernel,rfl,by decide +kernel,by decide +kernel⟩
theorem ok__law_caught (T:Txt K mg Z):FnOk P w K mg base CX0 4 Z.a__law_caught Z.d__law_caught ["_law_which","_law_held"] (sp_caught17 [Z.a_Wrong,Z.a_NoThing,Z.a_TooMany,Z.a_NotSteered,Z.a_NotSeen,Z.a_NoName,Z.a_Taken,Z.a_NoNumber,Z.a_NoFit,Z.a_NoText]):=by
 have G__law_raised:=ok__law_raised (P:=P) (w:=w) (base:=base) T
 refine T.F__law_caught.ok sc__law_caught (fun vs H Q E h=>?_) (fun cdv A outer s H vs Q E hr h=>?_)
 ·obtain ⟨i,y,rfl,hi,k⟩:=h
  rfl
 ·obtain ⟨i,y,rfl,hi,k⟩:=h
  refine ⟨_,(pss_one (ps_try rfl rfl (fun _ _ _ hX=>(pss_one (ps_expr (pe_callX G__law_raised (hr.mono (by decide)) rfl T.mg__law_raised T.F__law_raised.kp T.b__law_raised .nil hX (pa_cons (pv 0) (pa_cons (pv 1) pa_nil))))))
   (hb_as (i:=2) rfl rfl T.mg_Wrong sc__law_caught.nd rfl rfl (fun _=>(pss_one (ps_ret (pe_tup (pa_cons pe_int (pa_cons (pe_fldE (pv 2) rfl) (pa_cons (pv 2) pa_nil))))))) (hb_as (i:=2) rfl rfl T.mg_NoThing sc__law_caught.nd rfl rfl (fun _=>(pss_one (ps_ret (pe_tup (pa_cons pe_int (pa_cons (pe_fldE (pv 2) rfl) (pa_cons (pv 2) pa_nil))))))) (hb_as (i:=2) rfl rfl T.mg_TooMany sc__law_caught.nd rfl rfl (fun _=>(pss_one (ps_ret (pe_tup (pa_cons pe_int (pa_cons (pe_fldE (pv 2) rfl) (pa_cons (pv 2) pa_nil))))))) (hb_as (i:=2) rfl rfl T.mg_NotSteered sc__law_caught.nd rfl rfl (fun _=>(pss_one (ps_ret (pe_tup (pa_cons pe_int (pa_cons (pe_fldE (pv 2) rfl) (pa_cons (pv 2) pa_nil))))))) (hb_as (i:=2) rfl rfl T.mg_NotSeen sc__law_caught.nd rfl rfl (fun _=>(pss_one (ps_ret (pe_tup (pa_cons pe_int (pa_cons (pe_fldE (pv 2) rfl) (pa_cons (pv 2) pa_nil))))))) (hb_as (i:=2) rfl rfl T.mg_NoName sc__law_caught.nd rfl rfl (fun _=>(pss_one (ps_ret (pe_tup (pa_cons pe_int (pa_cons (pe_fldE (pv 2) rfl) (pa_cons (pv 2) pa_nil))))))) (hb_as (i:=2) rfl rfl T.mg_Taken sc__law_caught.nd rfl rfl (fun _=>(pss_one (ps_ret (pe_tup (pa_cons pe_int (pa_cons (pe_fldE (pv 2) rfl) (pa_cons (pv 2) pa_nil))))))) (hb_as (i:=2) rfl rfl T.mg_NoNumber sc__law_caught.nd rfl rfl (fun _=>(pss_one (ps_ret (pe_tup (pa_cons pe_int (pa_cons (pv 1) (pa_cons (pv 2) pa_nil))))))) (hb_as (i:=2) rfl rfl T.mg_NoFit sc__law_caught.nd rfl rfl (fun _=>(pss_one (ps_ret (pe_tup (pa_cons pe_int (pa_cons (pv 1) (pa_cons (pv 2) pa_nil))))))) (hb_as (i:=2) rfl rfl T.mg_NoText sc__law_caught.nd rfl rfl (fun _=>(pss_one (ps_ret (pe_tup (pa_cons pe_int (pa_cons (pv 1) (pa_cons (pv 2) pa_nil))))))) hb_nil)))))))))))),?_⟩
  refine rd_start (σ:=[some (.int i),some y,none]) rfl ?_
  have i10:i=0∨i=1∨i=2∨i=3∨i=4∨i=5∨i=6∨i=7∨i=8∨i=9:=by lia
  rcases i10 with rfl | rfl | rfl | rfl | rfl | rfl | rfl | rfl | rfl | rfl
  ·walk_at "w"
   refine rd_try ?_
   walk_at "w"
   refine rd_callX ?_
   walk_at "w"
   refine ⟨0,y,rfl,by decide,fun _ dx H1 s1 hd=>?_,fun z=>absurd z (by decide)⟩
   refine .inl ⟨T.xm_Wrong_Wrong,fun ea hea=>?_⟩
   have se:Same H1 (upd H1 ea (exO ea (.ref ([Z.a_Wrong,Z.a_NoThing,Z.a_TooMany,Z.a_NotSteered,Z.a_NotSeen,Z.a_NoName,Z.a_Taken,Z.a_NoNumber,Z.a_NoFit,Z.a_NoText].getD 0 0)) (some dx))):=Same.new hea
   have ge:(upd H1 ea (exO ea (.ref ([Z.a_Wrong,Z.a_NoThing,Z.a_TooMany,Z.a_NotSteered,Z.a_NotSeen,Z.a_NoName,Z.a_Taken,Z.a_NoNumber,Z.a_NoFit,Z.a_NoText].getD 0 0)) (some dx))) ea=some (exO ea (.ref Z.a_Wrong) (some dx)):=upd_same
   have gd:(upd H1 ea (exO ea (.ref ([Z.a_Wrong,Z.a_NoThing,Z.a_TooMany,Z.a_NotSteered,Z.a_NotSeen,Z.a_NoName,Z.a_Taken,Z.a_NoNumber,Z.a_NoFit,Z.a_NoText].getD 0 0)) (some dx))) dx=some (.xd [("at",y)]):=by rw[upd_ne (fun z=>by rw[z,hea] at hd;cases hd)];exact hd
   generalize upd H1 ea (exO ea (.ref ([Z.a_Wrong,Z.a_NoThing,Z.a_TooMany,Z.a_NotSteered,Z.a_NotSeen,Z.a_NoName,Z.a_Taken,Z.a_NoNumber,Z.a_NoFit,Z.a_NoText].getD 0 0)) (some dx))=He at se ge gd ⊢
   walk_at "w"
   unfold tFldE
   walk_at "w"
   refine ⟨ea,Z.a_Wrong,dx,_,y,rfl,ge,gd,T.xc_Wrong,T.nt_Wrong,rfl,?_⟩
   walk_at "w"
   refine rd_newT fun r Hf sf gf=>?_
   exact k r ea (some dx) Hf ((s1.trans se).trans sf) gf (sf _ _ ge) (fun d hd1=>by cases hd1;exact ⟨_,sf _ _ gd⟩)
  ·walk_at "w"
   refine rd_try ?_
   walk_at "w"
   refine rd_callX ?_
   walk_at "w"
   refine ⟨1,y,rfl,by decide,fun _ dx H1 s1 hd=>?_,fun z=>absurd z (by decide)⟩
   refine .inr ⟨T.xm_NoThing_Wrong,.inl ⟨T.xm_NoThing_NoThing,fun ea hea=>?_⟩⟩
   have se:Same H1 (upd H1 ea (exO ea (.ref ([Z.a_Wrong,Z.a_NoThing,Z.a_TooMany,Z.a_NotSteered,Z.a_NotSeen,Z.a_NoName,Z.a_Taken,Z.a_NoNumber,Z.a_NoFit,Z.a_NoText].getD 1 0)) (some dx))):=Same.new hea
   have ge:(upd H1 ea (exO ea (.ref ([Z.a_Wrong,Z.a_NoThing,Z.a_TooMany,Z.a_NotSteered,Z.a_NotSeen,Z.a_NoName,Z.a_Taken,Z.a_NoNumber,Z.a_NoFit,Z.a_NoText].getD 1 0)) (some dx))) ea=some (exO ea (.ref Z.a_NoThing) (some dx)):=upd_same
   have gd:(upd H1 ea (exO ea (.ref ([Z.a_Wrong,Z.a_NoThing,Z.a_TooMany,Z.a_NotSteered,Z.a_NotSeen,Z.a_NoName,Z.a_Taken,Z.a_NoNumber,Z.a_NoFit,Z.a_NoText].getD 1 0)) (some dx))) dx=some (.xd [("at",y)]):=by rw[upd_ne (fun z=>by rw[z,hea] at hd;cases hd)];exact hd
   generalize upd H1 ea (exO ea (.ref ([Z.a_Wrong,Z.a_NoThing,Z.a_TooMany,Z.a_NotSteered,Z.a_NotSeen,Z.a_NoName,Z.a_Taken,Z.a_NoNumber,Z.a_NoFit,Z.a_NoText].getD 1 0)) (some dx))=He at se ge gd ⊢
   walk_at "w"
   unfold tFldE
   walk_at "w"
   refine ⟨ea,Z.a_NoThing,dx,_,y,rfl,ge,gd,T.xc_NoThing,T.nt_NoThing,rfl,?_⟩
   walk_at "w"
   refine rd_newT fun r Hf sf gf=>?_
   exact k r ea (some dx) Hf ((s1.trans se).trans sf) gf (sf _ _ ge) (fun d hd1=>by cases hd1;exact ⟨_,sf _ _ gd⟩)
  ·walk_at "w"
   refine rd_try ?_
   walk_at "w"
   refine rd_callX ?_
   walk_at "w"
   refine ⟨2,y,rfl,by decide,fun _ dx H1 s1 hd=>?_,fun z=>absurd z (by decide)⟩
   refine .inr ⟨T.xm_TooMany_Wrong,.inr ⟨T.xm_TooMany_NoThing,.inl ⟨T.xm_TooMany_TooMany,fun ea hea=>?_⟩⟩⟩
   have se:Same H1 (upd H1 ea (exO ea (.ref ([Z.a_Wrong,Z.a_NoThing,Z.a_TooMany,Z.a_NotSteered,Z.a_NotSeen,Z.a_NoName,Z.a_Taken,Z.a_NoNumber,Z.a_NoFit,Z.a_NoText].getD 2 0)) (some dx))):=Same.new hea
   have ge:(upd H1 ea (exO ea (.ref ([Z.a_Wrong,Z.a_NoThing,Z.a_TooMany,Z.a_NotSteered,Z.a_NotSeen,Z.a_NoName,Z.a_Taken,Z.a_NoNumber,Z.a_NoFit,Z.a_NoText].getD 2 0)) (some dx))) ea=some (exO ea (.ref Z.a_TooMany) (some dx)):=upd_same
   have gd:(upd H1 ea (exO ea (.ref ([Z.a_Wrong,Z.a_NoThing,Z.a_TooMany,Z.a_NotSteered,Z.a_NotSeen,Z.a_NoName,Z.a_Taken,Z.a_NoNumber,Z.a_NoFit,Z.a_NoText].getD 2 0)) (some dx))) dx=some (.xd [("most",y)]):=by rw[upd_ne (fun z=>by rw[z,hea] at hd;cases hd)];exact hd
   generalize upd H1 ea (exO ea (.ref ([Z.a_Wrong,Z.a_NoThing,Z.a_TooMany,Z.a_NotSteered,Z.a_NotSeen,Z.a_NoName,Z.a_Taken,Z.a_NoNumber,Z.a_NoFit,Z.a_NoText].getD 2 0)) (some dx))=He at se ge gd ⊢
   walk_at "w"
   unfold tFldE
   walk_at "w"
   refine ⟨ea,Z.a_TooMany,dx,_,y,rfl,ge,gd,T.xc_TooMany,T.nt_TooMany,rfl,?_⟩
   walk_at "w"
   refine rd_newT fun r Hf sf gf=>?_
   exact k r ea (some dx) Hf ((s1.trans se).trans sf) gf (sf _ _ ge) (fun d hd1=>by cases hd1;exact ⟨_,sf _ _ gd⟩)
  ·walk_at "w"
   refine rd_try ?_
   walk_at "w"
   refine rd_callX ?_
   walk_at "w"
   refine ⟨3,y,rfl,by decide,fun _ dx H1 s1 hd=>?_,fun z=>absurd z (by decide)⟩
   refine .inr ⟨T.xm_NotSteered_Wrong,.inr ⟨T.xm_NotSteered_NoThing,.inr ⟨T.xm_NotSteered_TooMany,.inl ⟨T.xm_NotSteered_NotSteered,fun ea hea=>?_⟩⟩⟩⟩
   have se:Same H1 (upd H1 ea (exO ea (.ref ([Z.a_Wrong,Z.a_NoThing,Z.a_TooMany,Z.a_NotSteered,Z.a_NotSeen,Z.a_NoName,Z.a_Taken,Z.a_NoNumber,Z.a_NoFit,Z.a_NoText].getD 3 0)) (some dx))):=Same.new hea
   have ge:(upd H1 ea (exO ea (.ref ([Z.a_Wrong,Z.a_NoThing,Z.a_TooMany,Z.a_NotSteered,Z.a_NotSeen,Z.a_NoName,Z.a_Taken,Z.a_NoNumber,Z.a_NoFit,Z.a_NoText].getD 3 0)) (some dx))) ea=some (exO ea (.ref Z.a_NotSteered) (some dx)):=upd_same
   have gd:(upd H1 ea (exO ea (.ref ([Z.a_Wrong,Z.a_NoThing,Z.a_TooMany,Z.a_NotSteered,Z.a_NotSeen,Z.a_NoName,Z.a_Taken,Z.a_NoNumber,Z.a_NoFit,Z.a_NoText].getD 3 0)) (some dx))) dx=some (.xd [("price",y)]):=by rw[upd_ne (fun z=>by rw[z,hea] at hd;cases hd)];exact hd
   generalize upd H1 ea (exO ea (.ref ([Z.a_Wrong,Z.a_NoThing,Z.a_TooMany,Z.a_NotSteered,Z.a_NotSeen,Z.a_NoName,Z.a_Taken,Z.a_NoNumber,Z.a_NoFit,Z.a_NoText].getD 3 0)) (some dx))=He at se ge gd ⊢
   walk_at "w"
   unfold tFldE
   walk_at "w"
   refine ⟨ea,Z.a_NotSteered,dx,_,y,rfl,ge,gd,T.xc_NotSteered,T.nt_NotSteered,rfl,?_⟩
   walk_at "w"
   refine rd_newT fun r Hf sf gf=>?_
   exact k r ea (some dx) Hf ((s1.trans se).trans sf) gf (sf _ _ ge) (fun d hd1=>by cases hd1;exact ⟨_,sf _ _ gd⟩)
  ·walk_at "w"
   refine rd_try ?_
   walk_at "w"
   refine rd_callX ?_
   walk_at "w"
   refine ⟨4,y,rfl,by decide,fun _ dx H1 s1 hd=>?_,fun z=>absurd z (by decide)⟩
   refine .inr ⟨T.xm_NotSeen_Wrong,.inr ⟨T.xm_NotSeen_NoThing,.inr ⟨T.xm_NotSeen_TooMany,.inr ⟨T.xm_NotSeen_NotSteered,.inl ⟨T.xm_NotSeen_NotSeen,fun ea hea=>?_⟩⟩⟩⟩⟩
   have se:Same H1 (upd H1 ea (exO ea (.ref ([Z.a_Wrong,Z.a_NoThing,Z.a_TooMany,Z.a_NotSteered,Z.a_NotSeen,Z.a_NoName,Z.a_Taken,Z.a_NoNumber,Z.a_NoFit,Z.a_NoText].getD 4 0)) (some dx))):=Same.new hea
   have ge:(upd H1 ea (exO ea (.ref ([Z.a_Wrong,Z.a_NoThing,Z.a_TooMany,Z.a_NotSteered,Z.a_NotSeen,Z.a_NoName,Z.a_Taken,Z.a_NoNumber,Z.a_NoFit,Z.a_NoText].getD 4 0)) (some dx))) ea=some (exO ea (.ref Z.a_NotSeen) (some dx)):=upd_same
   have gd:(upd H1 ea (exO ea (.ref ([Z.a_Wrong,Z.a_NoThing,Z.a_TooMany,Z.a_NotSteered,Z.a_NotSeen,Z.a_NoName,Z.a_Taken,Z.a_NoNumber,Z.a_NoFit,Z.a_NoText].getD 4 0)) (some dx))) dx=some (.xd [("state",y)]):=by rw[upd_ne (fun z=>by rw[z,hea] at hd;cases hd)];exact hd
   generalize upd H1 ea (exO ea (.ref ([Z.a_Wrong,Z.a_NoThing,Z.a_TooMany,Z.a_NotSteered,Z.a_NotSeen,Z.a_NoName,Z.a_Taken,Z.a_NoNumber,Z.a_NoFit,Z.a_NoText].getD 4 0)) (some dx))=He at se ge gd ⊢
   walk_at "w"
   unfold tFldE
   walk_at "w"
   refine ⟨ea,Z.a_NotSeen,dx,_,y,rfl,ge,gd,T.xc_NotSeen,T.nt_NotSeen,rfl,?_⟩
   walk_at "w"
   refine rd_newT fun r Hf sf gf=>?_
   exact k r ea (some dx) Hf ((s1.trans se).trans sf) gf (sf _ _ ge) (fun d hd1=>by cases hd1;exact ⟨_,sf _ _ gd⟩)
  ·walk_at "w"
   refine rd_try ?_
   walk_at "w"
   refine rd_callX ?_
   walk_at "w"
   refine ⟨5,y,rfl,by decide,fun _ dx H1 s1 hd=>?_,fun z=>absurd z (by decide)⟩
   refine .inr ⟨T.xm_NoName_Wrong,.inr ⟨T.xm_NoName_NoThing,.inr ⟨T.xm_NoName_TooMany,.inr ⟨T.xm_NoName_NotSteered,.inr ⟨T.xm_NoName_NotSeen,.inl ⟨T.xm_NoName_NoName,fun ea hea=>?_⟩⟩⟩⟩⟩⟩
   have se:Same H1 (upd H1 ea (exO ea (.ref ([Z.a_Wrong,Z.a_NoThing,Z.a_TooMany,Z.a_NotSteered,Z.a_NotSeen,Z.a_NoName,Z.a_Taken,Z.a_NoNumber,Z.a_NoFit,Z.a_NoText].getD 5 0)) (some dx))):=Same.new hea
   have ge:(upd H1 ea (exO ea (.ref ([Z.a_Wrong,Z.a_NoThing,Z.a_TooMany,Z.a_NotSteered,Z.a_NotSeen,Z.a_NoName,Z.a_Taken,Z.a_NoNumber,Z.a_NoFit,Z.a_NoText].getD 5 0)) (some dx))) ea=some (exO ea (.ref Z.a_NoName) (some dx)):=upd_same
   have gd:(upd H1 ea (exO ea (.ref ([Z.a_Wrong,Z.a_NoThing,Z.a_TooMany,Z.a_NotSteered,Z.a_NotSeen,Z.a_NoName,Z.a_Taken,Z.a_NoNumber,Z.a_NoFit,Z.a_NoText].getD 5 0)) (some dx))) dx=some (.xd [("name",y)]):=by rw[upd_ne (fun z=>by rw[z,hea] at hd;cases hd)];exact hd
   generalize upd H1 ea (exO ea (.ref ([Z.a_Wrong,Z.a_NoThing,Z.a_TooMany,Z.a_NotSteered,Z.a_NotSeen,Z.a_NoName,Z.a_Taken,Z.a_NoNumber,Z.a_NoFit,Z.a_NoText].getD 5 0)) (some dx))=He at se ge gd ⊢
   walk_at "w"
   unfold tFldE
   walk_at "w"
   refine ⟨ea,Z.a_NoName,dx,_,y,rfl,ge,gd,T.xc_NoName,T.nt_NoName,rfl,?_⟩
   walk_at "w"
   refine rd_newT fun r Hf sf gf=>?_
   exact k r ea (some dx) Hf ((s1.trans se).trans sf) gf (sf _ _ ge) (fun d hd1=>by cases hd1;exact ⟨_,sf _ _ gd⟩)
  ·walk_at "w"
   refine rd_try ?_
   walk_at "w"
   refine rd_callX ?_
   walk_at "w"
   refine ⟨6,y,rfl,by decide,fun _ dx H1 s1 hd=>?_,fun z=>absurd z (by decide)⟩
   refine .inr ⟨T.xm_Taken_Wrong,.inr ⟨T.xm_Taken_NoThing,.inr ⟨T.xm_Taken_TooMany,.inr ⟨T.xm_Taken_NotSteered,.inr ⟨T.xm_Taken_NotSeen,.inr ⟨T.xm_Taken_NoName,.inl ⟨T.xm_Taken_Taken,fun ea hea=>?_⟩⟩⟩⟩⟩⟩⟩
   have se:Same H1 (upd H1 ea (exO ea (.ref ([Z.a_Wrong,Z.a_NoThing,Z.a_TooMany,Z.a_NotSteered,Z.a_NotSeen,Z.a_NoName,Z.a_Taken,Z.a_NoNumber,Z.a_NoFit,Z.a_NoText].getD 6 0)) (some dx))):=Same.new hea
   have ge:(upd H1 ea (exO ea (.ref ([Z.a_Wrong,Z.a_NoThing,Z.a_TooMany,Z.a_NotSteered,Z.a_NotSeen,Z.a_NoName,Z.a_Taken,Z.a_NoNumber,Z.a_NoFit,Z.a_NoText].getD 6 0)) (some dx))) ea=some (exO ea (.ref Z.a_Taken) (some dx)):=upd_same
   have gd:(upd H1 ea (exO ea (.ref ([Z.a_Wrong,Z.a_NoThing,Z.a_TooMany,Z.a_NotSteered,Z.a_NotSeen,Z.a_NoName,Z.a_Taken,Z.a_NoNumber,Z.a_NoFit,Z.a_NoText].getD 6 0)) (some dx))) dx=some (.xd [("name",y)]):=by rw[upd_ne (fun z=>by rw[z,hea] at hd;cases hd)];exact hd
   generalize upd H1 ea (exO ea (.ref ([Z.a_Wrong,Z.a_NoThing,Z.a_TooMany,Z.a_NotSteered,Z.a_NotSeen,Z.a_NoName,Z.a_Taken,Z.a_NoNumber,Z.a_NoFit,Z.a_NoText].getD 6 0)) (some dx))=He at se ge gd ⊢
   walk_at "w"
   unfold tFldE
   walk_at "w"
   refine ⟨ea,Z.a_Taken,dx,_,y,rfl,ge,gd,T.xc_Taken,T.nt_Taken,rfl,?_⟩
   walk_at "w"
   refine rd_newT fun r Hf sf gf=>?_
   exact k r ea (some dx) Hf ((s1.trans se).trans sf) gf (sf _ _ ge) (fun d hd1=>by cases hd1;exact ⟨_,sf _ _ gd⟩)
  ·walk_at "w"
   refine rd_try ?_
   walk_at "w"
   refine rd_callX ?_
   walk_at "w"
   refine ⟨7,y,rfl,by decide,fun z=>absurd z (by decide),fun _=>?_⟩
   refine .inr ⟨T.xm_NoNumber_Wrong,.inr ⟨T.xm_NoNumber_NoThing,.inr ⟨T.xm_NoNumber_TooMany,.inr ⟨T.xm_NoNumber_NotSteered,.inr ⟨T.xm_NoNumber_NotSeen,.inr ⟨T.xm_NoNumber_NoName,.inr ⟨T.xm_NoNumber_Taken,.inl ⟨T.xm_NoNumber_NoNumber,fun ea hea=>?_⟩⟩⟩⟩⟩⟩⟩⟩
   have se:Same H (upd H ea (exO ea (.ref ([Z.a_Wrong,Z.a_NoThing,Z.a_TooMany,Z.a_NotSteered,Z.a_NotSeen,Z.a_NoName,Z.a_Taken,Z.a_NoNumber,Z.a_NoFit,Z.a_NoText].getD 7 0)) none)):=Same.new hea
   have ge:(upd H ea (exO ea (.ref ([Z.a_Wrong,Z.a_NoThing,Z.a_TooMany,Z.a_NotSteered,Z.a_NotSeen,Z.a_NoName,Z.a_Taken,Z.a_NoNumber,Z.a_NoFit,Z.a_NoText].getD 7 0)) none)) ea=some (exO ea (.ref Z.a_NoNumber) none):=upd_same
   generalize upd H ea (exO ea (.ref ([Z.a_Wrong,Z.a_NoThing,Z.a_TooMany,Z.a_NotSteered,Z.a_NotSeen,Z.a_NoName,Z.a_Taken,Z.a_NoNumber,Z.a_NoFit,Z.a_NoText].getD 7 0)) none)=He at se ge ⊢
   walk_at "w"
   refine rd_newT fun r Hf sf gf=>?_
   exact k r ea none Hf (se.trans sf) gf (sf _ _ ge) (fun d hd1=>nomatch hd1)
  ·walk_at "w"
   refine rd_try ?_
   walk_at "w"
   refine rd_callX ?_
   walk_at "w"
   refine ⟨8,y,rfl,by decide,fun z=>absurd z (by decide),fun _=>?_⟩
   refine .inr ⟨T.xm_NoFit_Wrong,.inr ⟨T.xm_NoFit_NoThing,.inr ⟨T.xm_NoFit_TooMany,.inr ⟨T.xm_NoFit_NotSteered,.inr ⟨T.xm_NoFit_NotSeen,.inr ⟨T.xm_NoFit_NoName,.inr ⟨T.xm_NoFit_Taken,.inr ⟨T.xm_NoFit_NoNumber,.inl ⟨T.xm_NoFit_NoFit,fun ea hea=>?_⟩⟩⟩⟩⟩⟩⟩⟩⟩
   have se:Same H (upd H ea (exO ea (.ref ([Z.a_Wrong,Z.a_NoThing,Z.a_TooMany,Z.a_NotSteered,Z.a_NotSeen,Z.a_NoName,Z.a_Taken,Z.a_NoNumber,Z.a_NoFit,Z.a_NoText].getD 8 0)) none)):=Same.new hea
   have ge:(upd H ea (exO ea (.ref ([Z.a_Wrong,Z.a_NoThing,Z.a_TooMany,Z.a_NotSteered,Z.a_NotSeen,Z.a_NoName,Z.a_Taken,Z.a_NoNumber,Z.a_NoFit,Z.a_NoText].getD 8 0)) none)) ea=some (exO ea (.ref Z.a_NoFit) none):=upd_same
   generalize upd H ea (exO ea (.ref ([Z.a_Wrong,Z.a_NoThing,Z.a_TooMany,Z.a_NotSteered,Z.a_NotSeen,Z.a_NoName,Z.a_Taken,Z.a_NoNumber,Z.a_NoFit,Z.a_NoText].getD 8 0)) none)=He at se ge ⊢
   walk_at "w"
   refine rd_newT fun r Hf sf gf=>?_
   exact k r ea none Hf (se.trans sf) gf (sf _ _ ge) (fun d hd1=>nomatch hd1)
  ·walk_at "w"
   refine rd_try ?_
   walk_at "w"
   refine rd_callX ?_
   walk_at "w"
   refine ⟨9,y,rfl,by decide,fun z=>absurd z (by decide),fun _=>?_⟩
   refine .inr ⟨T.xm_NoText_Wrong,.inr ⟨T.xm_NoText_NoThing,.inr ⟨T.xm_NoText_TooMany,.inr ⟨T.xm_NoText_NotSteered,.inr ⟨T.xm_NoText_NotSeen,.inr ⟨T.xm_NoText_NoName,.inr ⟨T.xm_NoText_Taken,.inr ⟨T.xm_NoText_NoNumber,.inr ⟨T.xm_NoText_NoFit,.inl ⟨T.xm_NoText_NoText,fun ea hea=>?_⟩⟩⟩⟩⟩⟩⟩⟩⟩⟩
   have se:Same H (upd H ea (exO ea (.ref ([Z.a_Wrong,Z.a_NoThing,Z.a_TooMany,Z.a_NotSteered,Z.a_NotSeen,Z.a_NoName,Z.a_Taken,Z.a_NoNumber,Z.a_NoFit,Z.a_NoText].getD 9 0)) none)):=Same.new hea
   have ge:(upd H ea (exO ea (.ref ([Z.a_Wrong,Z.a_NoThing,Z.a_TooMany,Z.a_NotSteered,Z.a_NotSeen,Z.a_NoName,Z.a_Taken,Z.a_NoNumber,Z.a_NoFit,Z.a_NoText].getD 9 0)) none)) ea=some (exO ea (.ref Z.a_NoText) none):=upd_same
   generalize upd H ea (exO ea (.ref ([Z.a_Wrong,Z.a_NoThing,Z.a_TooMany,Z.a_NotSteered,Z.a_NotSeen,Z.a_NoName,Z.a_Taken,Z.a_NoNumber,Z.a_NoFit,Z.a_NoText].getD 9 0)) none)=He at se ge ⊢
   walk_at "w"
   refine rd_newT fun r Hf sf gf=>?_
   exact k r ea none Hf (se.trans sf) gf (sf _ _ ge) (fun d hd1=>nomatch hd1)
theorem sc__law_kinds:FnScope ["_law_e","_law_one","_law_two"] ["_law_e"] (defScope s__law_kinds):=⟨rfl,rfl,rfl,by decide +kernel,rfl,by decide +kernel,by decide +kernel⟩
theorem ok__law_kinds (T:Txt K mg Z):FnOk P w K mg base CX0 1 Z.a__law_kinds Z.d__law_kinds ["_law_e"] (sp_kinds17 [Z.a_Wrong,Z.a_NoThing,Z.a_TooMany,Z.a_NotSteered,Z.a_NotSeen,Z.a_NoName,Z.a_Taken,Z.a_NoNumber,Z.a_NoFit,Z.a_NoText]):=by
 refine T.F__law_kinds.ok sc__law_kinds (fun vs H Q E h=>?_) (fun cdv A outer s H vs Q E hr h=>?_)
 ·obtain ⟨i,a,dx,rfl,hi,ha,hdx,k⟩:=h
  rfl
 ·obtain ⟨i,a,dx,rfl,hi,ha,hdx,k⟩:=h
  refine ⟨_,(pss_cons (ps_set (i:=1) sc__law_kinds.nd rfl (Or.inl rfl) (pe_lst (pa_cons (pe_callB (call_isX (cv:=.ref Z.a_Wrong) (c:=.ref Z.a_Wrong) (fun _ h=>h)) (by rfl) T.isinstance PyProof.Rows.boot_isinstance (pa_cons (pv 0) (pa_cons (pe_glob (v:=.ref Z.a_Wrong) rfl T.mg_Wrong rfl) pa_nil))) (pa_cons (pe_callB (call_isX (cv:=.ref Z.a_NoThing) (c:=.ref Z.a_NoThing) (fun _ h=>h)) (by rfl) T.isinstance PyProof.Rows.boot_isinstance (pa_cons (pv 0) (pa_cons (pe_glob (v:=.ref Z.a_NoThing) rfl T.mg_NoThing rfl) pa_nil))) (pa_cons (pe_callB (call_isX (cv:=.ref Z.a_TooMany) (c:=.ref Z.a_TooMany) (fun _ h=>h)) (by rfl) T.isinstance PyProof.Rows.boot_isinstance (pa_cons (pv 0) (pa_cons (pe_glob (v:=.ref Z.a_TooMany) rfl T.mg_TooMany rfl) pa_nil))) (pa_cons (pe_callB (call_isX (cv:=.ref Z.a_NotSteered) (c:=.ref Z.a_NotSteered) (fun _ h=>h)) (by rfl) T.isinstance PyProof.Rows.boot_isinstance (pa_cons (pv 0) (pa_cons (pe_glob (v:=.ref Z.a_NotSteered) rfl T.mg_NotSteered rfl) pa_nil))) pa_nil))))))
   (pss_cons (ps_set (i:=2) sc__law_kinds.nd rfl (Or.inl rfl) (pe_lst (pa_cons (pe_callB (call_isX (cv:=.ref Z.a_NotSeen) (c:=.ref Z.a_NotSeen) (fun _ h=>h)) (by rfl) T.isinstance PyProof.Rows.boot_isinstance (pa_cons (pv 0) (pa_cons (pe_glob (v:=.ref Z.a_NotSeen) rfl T.mg_NotSeen rfl) pa_nil))) (pa_cons (pe_callB (call_isX (cv:=.ref Z.a_NoName) (c:=.ref Z.a_NoName) (fun _ h=>h)) (by rfl) T.isinstance PyProof.Rows.boot_isinstance (pa_cons (pv 0) (pa_cons (pe_glob (v:=.ref Z.a_NoName) rfl T.mg_NoName rfl) pa_nil))) (pa_cons (pe_callB (call_isX (cv:=.ref Z.a_Taken) (c:=.ref Z.a_Taken) (fun _ h=>h)) (by rfl) T.isinstance PyProof.Rows.boot_isinstance (pa_cons (pv 0) (pa_cons (pe_glob (v:=.ref Z.a_Taken) rfl T.mg_Taken rfl) pa_nil))) (pa_cons (pe_callB (call_isX (cv:=.ref Z.a_NoNumber) (c:=.ref Z.a_NoNumber) (fun _ h=>h)) (by rfl) T.isinstance PyProof.Rows.boot_isinstance (pa_cons (pv 0) (pa_cons (pe_glob (v:=.ref Z.a_NoNumber) rfl T.mg_NoNumber rfl) pa_nil))) pa_nil))))))
   (pss_one (ps_ret (pe_op op_cat (pe_op op_cat (pv 1) (pv 2)) (pe_lst (pa_cons (pe_callB (call_isX (cv:=.ref Z.a_NoFit) (c:=.ref Z.a_NoFit) (fun _ h=>h)) (by rfl) T.isinstance PyProof.Rows.boot_isinstance (pa_cons (pv 0) (pa_cons (pe_glob (v:=.ref Z.a_NoFit) rfl T.mg_NoFit rfl) pa_nil))) (pa_cons (pe_callB (call_isX (cv:=.ref Z.a_NoText) (c:=.ref Z.a_NoText) (fun _ h=>h)) (by rfl) T.isinstance PyProof.Rows.boot_isinstance (pa_cons (pv 0) (pa_cons (pe_glob (v:=.ref Z.a_NoText) rfl T.mg_NoText rfl) pa_nil))) pa_nil)))))))),?_⟩
  refine rd_start (σ:=[some (.ref a),none,none]) rfl ?_
  have one:∀j:Nat,j < 10->PySem.W.kitOne K (.ref ([Z.a_Wrong,Z.a_NoThing,Z.a_TooMany,Z.a_NotSteered,Z.a_NotSeen,Z.a_NoName,Z.a_Taken,Z.a_NoNumber,Z.a_NoFit,Z.a_NoText].getD i 0)) (.ref ([Z.a_Wrong,Z.a_NoThing,Z.a_TooMany,Z.a_NotSteered,Z.a_NotSeen,Z.a_NoName,Z.a_Taken,Z.a_NoNumber,Z.a_NoFit,Z.a_NoText].getD j 0))=some (decide (j=i)):=by
   intro j hj
   have j10:j=0∨j=1∨j=2∨j=3∨j=4∨j=5∨j=6∨j=7∨j=8∨j=9:=by lia
   have i10:i=0∨i=1∨i=2∨i=3∨i=4∨i=5∨i=6∨i=7∨i=8∨i=9:=by lia
   rcases i10 with rfl | rfl | rfl | rfl | rfl | rfl | rfl | rfl | rfl | rfl
   ·rcases j10 with rfl | rfl | rfl | rfl | rfl | rfl | rfl | rfl | rfl | rfl
    ·exact T.ki_Wrong_Wrong
    ·exact T.ki_Wrong_NoThing
    ·exact T.ki_Wrong_TooMany
    ·exact T.ki_Wrong_NotSteered
    ·exact T.ki_Wrong_NotSeen
    ·exact T.ki_Wrong_NoName
    ·exact T.ki_Wrong_Taken
    ·exact T.ki_Wrong_NoNumber
    ·exact T.ki_Wrong_NoFit
    ·exact T.ki_Wrong_NoText
   ·rcases j10 with rfl | rfl | rfl | rfl | rfl | rfl | rfl | rfl | rfl | rfl
    ·exact T.ki_NoThing_Wrong
    ·exact T.ki_NoThing_NoThing
    ·exact T.ki_NoThing_TooMany
    ·exact T.ki_NoThing_NotSteered
    ·exact T.ki_NoThing_NotSeen
    ·exact T.ki_NoThing_NoName
    ·exact T.ki_NoThing_Taken
    ·exact T.ki_NoThing_NoNumber
    ·exact T.ki_NoThing_NoFit
    ·exact T.ki_NoThing_NoText
   ·rcases j10 with rfl | rfl | rfl | rfl | rfl | rfl | rfl | rfl | rfl | rfl
    ·exact T.ki_TooMany_Wrong
    ·exact T.ki_TooMany_NoThing
    ·exact T.ki_TooMany_TooMany
    ·exact T.ki_TooMany_NotSteered
    ·exact T.ki_TooMany_NotSeen
    ·exact T.ki_TooMany_NoName
    ·exact T.ki_TooMany_Taken
    ·exact T.ki_TooMany_NoNumber
    ·exact T.ki_TooMany_NoFit
    ·exact T.ki_TooMany_NoText
   ·rcases j10 with rfl | rfl | rfl | rfl | rfl | rfl | rfl | rfl | rfl | rfl
    ·exact T.ki_NotSteered_Wrong
    ·exact T.ki_NotSteered_NoThing
    ·exact T.ki_NotSteered_TooMany
    ·exact T.ki_NotSteered_NotSteered
    ·exact T.ki_NotSteered_NotSeen
    ·exact T.ki_NotSteered_NoName
    ·exact T.ki_NotSteered_Taken
    ·exact T.ki_NotSteered_NoNumber
    ·exact T.ki_NotSteered_NoFit
    ·exact T.ki_NotSteered_NoText
   ·rcases j10 with rfl | rfl | rfl | rfl | rfl | rfl | rfl | rfl | rfl | rfl
    ·exact T.ki_NotSeen_Wrong
    ·exact T.ki_NotSeen_NoThing
    ·exact T.ki_NotSeen_TooMany
    ·exact T.ki_NotSeen_NotSteered
    ·exact T.ki_NotSeen_NotSeen
    ·exact T.ki_NotSeen_NoName
    ·exact T.ki_NotSeen_Taken
    ·exact T.ki_NotSeen_NoNumber
    ·exact T.ki_NotSeen_NoFit
    ·exact T.ki_NotSeen_NoText
   ·rcases j10 with rfl | rfl | rfl | rfl | rfl | rfl | rfl | rfl | rfl | rfl
    ·exact T.ki_NoName_Wrong
    ·exact T.ki_NoName_NoThing
    ·exact T.ki_NoName_TooMany
    ·exact T.ki_NoName_NotSteered
    ·exact T.ki_NoName_NotSeen
    ·exact T.ki_NoName_NoName
    ·exact T.ki_NoName_Taken
    ·exact T.ki_NoName_NoNumber
    ·exact T.ki_NoName_NoFit
    ·exact T.ki_NoName_NoText
   ·rcases j10 with rfl | rfl | rfl | rfl | rfl | rfl | rfl | rfl | rfl | rfl
    ·exact T.ki_Taken_Wrong
    ·exact T.ki_Taken_NoThing
    ·exact T.ki_Taken_TooMany
    ·exact T.ki_Taken_NotSteered
    ·exact T.ki_Taken_NotSeen
    ·exact T.ki_Taken_NoName
    ·exact T.ki_Taken_Taken
    ·exact T.ki_Taken_NoNumber
    ·exact T.ki_Taken_NoFit
    ·exact T.ki_Taken_NoText
   ·rcases j10 with rfl | rfl | rfl | rfl | rfl | rfl | rfl | rfl | rfl | rfl
    ·exact T.ki_NoNumber_Wrong
    ·exact T.ki_NoNumber_NoThing
    ·exact T.ki_NoNumber_TooMany
    ·exact T.ki_NoNumber_NotSteered
    ·exact T.ki_NoNumber_NotSeen
    ·exact T.ki_NoNumber_NoName
    ·exact T.ki_NoNumber_Taken
    ·exact T.ki_NoNumber_NoNumber
    ·exact T.ki_NoNumber_NoFit
    ·exact T.ki_NoNumber_NoText
   ·rcases j10 with rfl | rfl | rfl | rfl | rfl | rfl | rfl | rfl | rfl | rfl
    ·exact T.ki_NoFit_Wrong
    ·exact T.ki_NoFit_NoThing
    ·exact T.ki_NoFit_TooMany
    ·exact T.ki_NoFit_NotSteered
    ·exact T.ki_NoFit_NotSeen
    ·exact T.ki_NoFit_NoName
    ·exact T.ki_NoFit_Taken
    ·exact T.ki_NoFit_NoNumber
    ·exact T.ki_NoFit_NoFit
    ·exact T.ki_NoFit_NoText
   ·rcases j10 with rfl | rfl | rfl | rfl | rfl | rfl | rfl | rfl | rfl | rfl
    ·exact T.ki_NoText_Wrong
    ·exact T.ki_NoText_NoThing
    ·exact T.ki_NoText_TooMany
    ·exact T.ki_NoText_NotSteered
    ·exact T.ki_NoText_NotSeen
    ·exact T.ki_NoText_NoName
    ·exact T.ki_NoText_Taken
    ·exact T.ki_NoText_NoNumber
    ·exact T.ki_NoText_NoFit
    ·exact T.ki_NoText_NoText
  have xc:ExC K ([Z.a_Wrong,Z.a_NoThing,Z.a_TooMany,Z.a_NotSteered,Z.a_NotSeen,Z.a_NoName,Z.a_Taken,Z.a_NoNumber,Z.a_NoFit,Z.a_NoText].getD i 0):=by
   have i10:i=0∨i=1∨i=2∨i=3∨i=4∨i=5∨i=6∨i=7∨i=8∨i=9:=by lia
   rcases i10 with rfl | rfl | rfl | rfl | rfl | rfl | rfl | rfl | rfl | rfl
   ·exact T.xc_Wrong
   ·exact T.xc_NoThing
   ·exact T.xc_TooMany
   ·exact T.xc_NotSteered
   ·exact T.xc_NotSeen
   ·exact T.xc_NoName
   ·exact T.xc_Taken
   ·exact T.xc_NoNumber
   ·exact T.xc_NoFit
   ·exact T.xc_NoText
  walk_at "w"
  refine ⟨a,_,dx,_,rfl,ha,hdx,xc,one 0 (by decide),?_⟩
  walk_at "w"
  refine ⟨a,_,dx,_,rfl,ha,hdx,xc,one 1 (by decide),?_⟩
  walk_at "w"
  refine ⟨a,_,dx,_,rfl,ha,hdx,xc,one 2 (by decide),?_⟩
  walk_at "w"
  refine ⟨a,_,dx,_,rfl,ha,hdx,xc,one 3 (by decide),?_⟩
  walk_at "w"
  refine rd_newL fun l1 H1 s1 n1 g1=>?_
  have ha1:=s1 _ _ ha
  have hd1:∀d,dx=some d->∃fs,H1 d=some (.xd fs):=fun d e=>by obtain ⟨fs,g⟩:=hdx d e;exact ⟨fs,s1 _ _ g⟩
  walk_at "w"
  refine ⟨a,_,dx,_,rfl,ha1,hd1,xc,one 4 (by decide),?_⟩
  walk_at "w"
  refine ⟨a,_,dx,_,rfl,ha1,hd1,xc,one 5 (by decide),?_⟩
  walk_at "w"
  refine ⟨a,_,dx,_,rfl,ha1,hd1,xc,one 6 (by decide),?_⟩
  walk_at "w"
  refine ⟨a,_,dx,_,rfl,ha1,hd1,xc,one 7 (by decide),?_⟩
  walk_at "w"
  refine rd_newL fun l2 H2 s2 n2 g2=>?_
  have ha2:=s2 _ _ ha1
  have hd2:∀d,dx=some d->∃fs,H2 d=some (.xd fs):=fun d e=>by obtain ⟨fs,g⟩:=hd1 d e;exact ⟨fs,s2 _ _ g⟩
  walk_at "w"
  refine rd_cat (s2 _ _ g1) g2 (by show 8<=sizeLine;decide) fun l3 H3 s3 n3 g3=>?_
  have ha3:=s3 _ _ ha2
  have hd3:∀d,dx=some d->∃fs,H3 d=some (.xd fs):=fun d e=>by obtain ⟨fs,g⟩:=hd2 d e;exact ⟨fs,s3 _ _ g⟩
  walk_at "w"
  refine ⟨a,_,dx,_,rfl,ha3,hd3,xc,one 8 (by decide),?_⟩
  walk_at "w"
  refine ⟨a,_,dx,_,rfl,ha3,hd3,xc,one 9 (by decide),?_⟩
  walk_at "w"
  refine rd_newL fun l4 H4 s4 n4 g4=>?_
  walk_at "w"
  refine rd_cat (s4 _ _ g3) g4 (by show 10<=sizeLine;decide) fun l5 H5 s5 n5 g5=>?_
  exact k l5 H5 ((((s1.trans s2).trans s3).trans s4).trans s5) g5
theorem bd_law:∃x1 x2 x3 x4 x5 x6 x7 x8 x9 x10:Expr,x1=(PySem.Expr.Name "_law_many" ⟨167,18,167,27⟩)∧x2=(PySem.Expr.Name "_law_many" ⟨167,29,167,38⟩)∧x3=(PySem.Expr.Name "_law_many" ⟨167,40,167,49⟩)∧x4=(PySem.Expr.Name "_law_row" ⟨167,51,167,59⟩)∧x5=(PySem.Expr.Name "_law_row" ⟨167,61,167,69⟩)∧x6=(PySem.Expr.Name "_law_name" ⟨167,71,167,80⟩)∧x7=(PySem.Expr.Name "_law_name" ⟨167,82,167,91⟩)∧x8=(PySem.Expr.Constant (PySem.Const.int 0) 0 ⟨167,93,167,94⟩)∧x9=(PySem.Expr.Constant (PySem.Const.int 0) 0 ⟨167,96,167,97⟩)∧x10=(PySem.Expr.Constant (PySem.Const.int 0) 0 ⟨167,99,167,100⟩)∧defBody s_law=[ (PySem.Stmt.Assign (targets:=[(PySem.Expr.Name "_law_bag_here" ⟨163,4,163,17⟩)]) (value:=(PySem.Expr.Call (func:=(PySem.Expr.Name "_law_bag" ⟨163,20,163,28⟩)) (args:=[(PySem.Expr.Name "_law_script" ⟨163,29,163,40⟩)]) (keywords:=[]) (pos:=⟨163,20,163,41⟩))) (pos:=⟨163,4,163,41⟩)),(PySem.Stmt.Assign (targets:=[(PySem.Expr.Name "_law_many" ⟨164,4,164,13⟩)]) (value:=(PySem.Expr.Call (func:=(PySem.Expr.Name "_law_take" ⟨164,16,164,25⟩)) (args:=[ (PySem.Expr.Name "_law_bag_here" ⟨164,26,164,39⟩),(PySem.Expr.Constant (PySem.Const.int 1000) 0 ⟨164,41,164,45⟩)]) (keywords:=[]) (pos:=⟨164,16,164,46⟩))) (pos:=⟨164,4,164,46⟩)),(PySem.Stmt.Assign (targets:=[(PySem.Expr.Name "_law_row" ⟨165,4,165,12⟩)]) (value:=(PySem.Expr.ListComp (elt:=(PySem.Expr.Call (func:=(PySem.Expr.Name "_law_any" ⟨165,16,165,24⟩)) (args:=[(PySem.Expr.Name "_law_bag_here" ⟨165,25,165,38⟩)]) (keywords:=[]) (pos:=⟨165,16,165,39⟩))) (generators:=[ { target:=(PySem.Expr.Name "_law_k" ⟨165,44,165,50⟩),iter:=(PySem.Expr.Call (func:=(PySem.Expr.Name "range" ⟨165,54,165,59⟩)) (args:=[ (PySem.Expr.Call (func:=(PySem.Expr.Name "_law_take" ⟨165,60,165,69⟩)) (args:=[ (PySem.Expr.Name "_law_bag_here" ⟨165,70,165,83⟩),(PySem.Expr.Constant (PySem.Const.int 4) 0 ⟨165,85,165,86⟩)]) (keywords:=[]) (pos:=⟨165,60,165,87⟩))]) (keywords:=[]) (pos:=⟨165,54,165,88⟩)),ifs:=[],is_async:=0:PySem.Comprehension }]) (scope:={ kind:=PySem.ScopeKind.function,names:=[ (PySem.Str.ofString ".0",PySem.NameKind.local),(PySem.Str.ofString "_law_k",PySem.NameKind.local),(PySem.Str.ofString "_law_any",PySem.NameKind.globalImplicit),(PySem.Str.ofString "_law_bag_here",PySem.NameKind.free)],isGenerator:=false,isCoroutine:=false,more:=[]:PySem.Scope }) (pos:=⟨165,15,165,89⟩))) (pos:=⟨165,4,165,89⟩)),(PySem.Stmt.Assign (targets:=[(PySem.Expr.Name "_law_name" ⟨166,4,166,13⟩)]) (value:=(PySem.Expr.Subscript (value:=(PySem.Expr.Constant (PySem.Const.str "abcdefgh") 0 ⟨166,16,166,26⟩)) (slice:=(PySem.Expr.Slice (lower:=none) (upper:=(some (PySem.Expr.BinOp (left:=(PySem.Expr.Constant (PySem.Const.int 1) 0 ⟨166,28,166,29⟩)) (op:=PySem.Operator.Add) (right:=(PySem.Expr.Call (func:=(PySem.Expr.Name "_law_take" ⟨166,32,166,41⟩)) (args:=[ (PySem.Expr.Name "_law_bag_here" ⟨166,42,166,55⟩),(PySem.Expr.Constant (PySem.Const.int 8) 0 ⟨166,57,166,58⟩)]) (keywords:=[]) (pos:=⟨166,32,166,59⟩))) (pos:=⟨166,28,166,59⟩)))) (step:=none) (pos:=⟨166,27,166,59⟩))) (pos:=⟨166,16,166,60⟩))) (pos:=⟨166,4,166,60⟩)),(PySem.Stmt.Assign (targets:=[(PySem.Expr.Name "_law_helds" ⟨167,4,167,14⟩)]) (value:=(PySem.Expr.List (elts:=[x1,x2,x3,x4,x5,x6,x7,x8,x9,x10]) (pos:=⟨167,17,167,101⟩))) (pos:=⟨167,4,167,101⟩)),(PySem.Stmt.For (target:=(PySem.Expr.Name "_law_which" ⟨168,8,168,18⟩)) (iter:=(PySem.Expr.Call (func:=(PySem.Expr.Name "range" ⟨168,22,168,27⟩)) (args:=[(PySem.Expr.Constant (PySem.Const.int 10) 0 ⟨168,28,168,30⟩)]) (keywords:=[]) (pos:=⟨168,22,168,31⟩))) (body:=[ (PySem.Stmt.Assign (targets:=[(PySem.Expr.Name "_law_found" ⟨169,8,169,18⟩)]) (value:=(PySem.Expr.Call (func:=(PySem.Expr.Name "_law_caught" ⟨169,21,169,32⟩)) (args:=[ (PySem.Expr.Name "_law_which" ⟨169,33,169,43⟩),(PySem.Expr.Subscript (value:=(PySem.Expr.Name "_law_helds" ⟨169,45,169,55⟩)) (slice:=(PySem.Expr.Name "_law_which" ⟨169,56,169,66⟩)) (pos:=⟨169,45,169,67⟩))]) (keywords:=[]) (pos:=⟨169,21,169,68⟩))) (pos:=⟨169,8,169,68⟩)),(PySem.Stmt.If (test:=(PySem.Expr.BoolOp (op:=PySem.BoolOp.Or) (values:=[ (PySem.Expr.Compare (left:=(PySem.Expr.Subscript (value:=(PySem.Expr.Name "_law_found" ⟨170,11,170,21⟩)) (slice:=(PySem.Expr.Constant (PySem.Const.int 0) 0 ⟨170,22,170,23⟩)) (pos:=⟨170,11,170,24⟩))) (ops:=[PySem.CmpOp.NotEq]) (comparators:=[(PySem.Expr.Name "_law_which" ⟨170,28,170,38⟩)]) (pos:=⟨170,11,170,38⟩)),(PySem.Expr.Compare (left:=(PySem.Expr.Subscript (value:=(PySem.Expr.Name "_law_found" ⟨170,42,170,52⟩)) (slice:=(PySem.Expr.Constant (PySem.Const.int 1) 0 ⟨170,53,170,54⟩)) (pos:=⟨170,42,170,55⟩))) (ops:=[PySem.CmpOp.NotEq]) (comparators:=[ (PySem.Expr.Subscript (value:=(PySem.Expr.Name "_law_helds" ⟨170,59,170,69⟩)) (slice:=(PySem.Expr.Name "_law_which" ⟨170,70,170,80⟩)) (pos:=⟨170,59,170,81⟩))]) (pos:=⟨170,42,170,81⟩))]) (pos:=⟨170,11,170,81⟩))) (body:=[ (PySem.Stmt.Return (value:=(some (PySem.Expr.Constant (PySem.Const.bool false) 0 ⟨171,19,171,24⟩))) (pos:=⟨171,12,171,24⟩))]) (orelse:=[]) (pos:=⟨170,8,171,24⟩)),(PySem.Stmt.If (test:=(PySem.Expr.BoolOp (op:=PySem.BoolOp.Or) (values:=[ (PySem.Expr.UnaryOp (op:=PySem.UnaryOp.Not) (operand:=(PySem.Expr.Call (func:=(PySem.Expr.Name "isinstance" ⟨172,15,172,25⟩)) (args:=[ (PySem.Expr.Subscript (value:=(PySem.Expr.Name "_law_found" ⟨172,26,172,36⟩)) (slice:=(PySem.Expr.Constant (PySem.Const.int 2) 0 ⟨172,37,172,38⟩)) (pos:=⟨172,26,172,39⟩)),(PySem.Expr.Name "SumError" ⟨172,41,172,49⟩)]) (keywords:=[]) (pos:=⟨172,15,172,50⟩))) (pos:=⟨172,11,172,50⟩)),(PySem.Expr.UnaryOp (op:=PySem.UnaryOp.Not) (operand:=(PySem.Expr.Call (func:=(PySem.Expr.Name "isinstance" ⟨172,58,172,68⟩)) (args:=[ (PySem.Expr.Subscript (value:=(PySem.Expr.Name "_law_found" ⟨172,69,172,79⟩)) (slice:=(PySem.Expr.Constant (PySem.Const.int 2) 0 ⟨172,80,172,81⟩)) (pos:=⟨172,69,172,82⟩)),(PySem.Expr.Name "ValueError" ⟨172,84,172,94⟩)]) (keywords:=[]) (pos:=⟨172,58,172,95⟩))) (pos:=⟨172,54,172,95⟩))]) (pos:=⟨172,11,172,95⟩))) (body:=[ (PySem.Stmt.Return (value:=(some (PySem.Expr.Constant (PySem.Const.bool false) 0 ⟨173,19,173,24⟩))) (pos:=⟨173,12,173,24⟩))]) (orelse:=[]) (pos:=⟨172,8,173,24⟩)),(PySem.Stmt.If (test:=(PySem.Expr.Compare (left:=(PySem.Expr.Call (func:=(PySem.Expr.Name "_law_kinds" ⟨174,11,174,21⟩)) (args:=[ (PySem.Expr.Subscript (value:=(PySem.Expr.Name "_law_found" ⟨174,22,174,32⟩)) (slice:=(PySem.Expr.Constant (PySem.Const.int 2) 0 ⟨174,33,174,34⟩)) (pos:=⟨174,22,174,35⟩))]) (keywords:=[]) (pos:=⟨174,11,174,36⟩))) (ops:=[PySem.CmpOp.NotEq]) (comparators:=[ (PySem.Expr.ListComp (elt:=(PySem.Expr.Compare (left:=(PySem.Expr.Name "_law_k" ⟨174,41,174,47⟩)) (ops:=[PySem.CmpOp.Eq]) (comparators:=[(PySem.Expr.Name "_law_which" ⟨174,51,174,61⟩)]) (pos:=⟨174,41,174,61⟩))) (generators:=[ { target:=(PySem.Expr.Name "_law_k" ⟨174,66,174,72⟩),iter:=(PySem.Expr.Call (func:=(PySem.Expr.Name "range" ⟨174,76,174,81⟩)) (args:=[(PySem.Expr.Constant (PySem.Const.int 10) 0 ⟨174,82,174,84⟩)]) (keywords:=[]) (pos:=⟨174,76,174,85⟩)),ifs:=[],is_async:=0:PySem.Comprehension }]) (scope:={ kind:=PySem.ScopeKind.function,names:=[ (PySem.Str.ofString ".0",PySem.NameKind.local),(PySem.Str.ofString "_law_k",PySem.NameKind.local),(PySem.Str.ofString "_law_which",PySem.NameKind.free)],isGenerator:=false,isCoroutine:=false,more:=[]:PySem.Scope }) (pos:=⟨174,40,174,86⟩))]) (pos:=⟨174,11,174,86⟩))) (body:=[ (PySem.Stmt.Return (value:=(some (PySem.Expr.Constant (PySem.Const.bool false) 0 ⟨175,19,175,24⟩))) (pos:=⟨175,12,175,24⟩))]) (orelse:=[]) (pos:=⟨174,8,175,24⟩))]) (orelse:=[]) (pos:=⟨168,4,175,24⟩)),(PySem.Stmt.Return (value:=(some (PySem.Expr.Constant (PySem.Const.bool true) 0 ⟨176,11,176,15⟩))) (pos:=⟨176,4,176,15⟩))]:=⟨_,_,_,_,_,_,_,_,_,_,rfl,rfl,rfl,rfl,rfl,rfl,rfl,rfl,rfl,rfl,by with_unfolding_all rfl⟩
theorem sc_law:FnScope ["_law_script","_law_bag_here","_law_many","_law_row","_law_name","_law_helds","_law_which","_law_found"] ["_law_script"] (defScope s_law):=⟨rfl,rfl,rfl,by decide +kernel,rfl,by decide +kernel,by decide +kernel⟩
theorem ok_law (T:Txt K mg Z):FnOk P w K mg base CX0 5 Z.a_law Z.d_law ["_law_script"] (sp_law K):=by
 have G__law_bag:=ok__law_bag (P:=P) (w:=w) (base:=base) T
 have G__law_take:=ok__law_take (P:=P) (w:=w) (base:=base) T
 have G__law_any:=ok__law_any (P:=P) (w:=w) (base:=base) T
 have G__law_caught:=ok__law_caught (P:=P) (w:=w) (base:=base) T
 have G__law_kinds:=ok__law_kinds (P:=P) (w:=w) (base:=base) T
 refine T.F_law.ok sc_law (fun vs H Q E h=>?_) (fun cdv A outer s H vs Q E hr h=>?_)
 ·obtain ⟨a,ns,rfl,hS,hlen,k⟩:=h
  rfl
 ·obtain ⟨a,ns,rfl,hS,hlen,k⟩:=h
  obtain ⟨x1,x2,x3,x4,x5,x6,x7,x8,x9,x10,hx1,hx2,hx3,hx4,hx5,hx6,hx7,hx8,hx9,hx10,hbd⟩:=bd_law
  rw[hbd]
  refine ⟨_,(pss_cons (ps_set (i:=1) sc_law.nd rfl (Or.inr rfl) (pe_call G__law_bag (hr.mono (by decide)) rfl T.mg__law_bag T.F__law_bag.kp T.b__law_bag .nil pass0 (pa_cons (pv 0) pa_nil)))
   (pss_cons (ps_set (i:=2) sc_law.nd rfl (Or.inl rfl) (pe_call G__law_take (hr.mono (by decide)) rfl T.mg__law_take T.F__law_take.kp T.b__law_take .nil pass0 (pa_cons (pv 1) (pa_cons pe_int pa_nil))))
   (pss_cons (ps_setC 3 ["_law_k"] ["_law_bag_here"] [1] sc_law.nd rfl rfl (pi_range1 rfl T.range (pa_cons (pe_call G__law_take (hr.mono (by decide)) rfl T.mg__law_take T.F__law_take.kp T.b__law_take .nil pass0 (pa_cons (pv 1) (pa_cons pe_int pa_nil))) pa_nil)) (fun _=>(pg_name (i:=0) (show List.Nodup (α:=PySem.Str) ["_law_k","_law_bag_here"] by decide +kernel) rfl (Or.inl rfl) (Or.inl rfl))) (fun _=>pf_nil) (fun _=>(pe_call G__law_any (hr.mono (by decide)) rfl T.mg__law_any T.F__law_any.kp T.b__law_any .nil pass0 (pa_cons (pv 1) pa_nil))))
   (pss_cons (ps_set (i:=4) sc_law.nd rfl (Or.inl rfl) (pe_slice sl_strA pe_str po_none (po_some (pe_op op_add pe_int (pe_call G__law_take (hr.mono (by decide)) rfl T.mg__law_take T.F__law_take.kp T.b__law_take .nil pass0 (pa_cons (pv 1) (pa_cons pe_int pa_nil)))))))
   (pss_cons (ps_set (i:=5) sc_law.nd rfl (Or.inl rfl) (pe_lst (pa_consE hx1 (pv 2) (pa_consE hx2 (pv 2) (pa_consE hx3 (pv 2) (pa_consE hx4 (pv 3) (pa_consE hx5 (pv 3) (pa_consE hx6 (pv 4) (pa_consE hx7 (pv 4) (pa_consE hx8 pe_int (pa_consE hx9 pe_int (pa_consE hx10 pe_int pa_nil))))))))))))
   (pss_cons (ps_for PassesOwn.never rfl (pi_range1 rfl T.range (pa_cons pe_int pa_nil)) (pg_name (i:=6) sc_law.nd rfl (Or.inr rfl) (Or.inl rfl))
    (pss_cons (ps_set (i:=7) sc_law.nd rfl (Or.inl rfl) (pe_call G__law_caught (hr.mono (by decide)) rfl T.mg__law_caught T.F__law_caught.kp T.b__law_caught .nil pass0 (pa_cons (pv 6) (pa_cons (pe_ix ix_list (pv 5) (pv 6) (by intro _ _;rfl)) pa_nil))))
   (pss_cons (ps_if (PW.pt (pw_or (pt_cmpR op_ne (pe_ix ix_tup (pv 7) pe_int (by intro _ _;rfl)) (pv 6) (nomark _)) (pw_or1 (pt_cmpR (op_neD (hu50 hr)) (pe_ix ix_tup (pv 7) pe_int (by intro _ _;rfl)) (pe_ix ix_list (pv 5) (pv 6) (by intro _ _;rfl)) (nomark _))))) (pss_one (ps_ret pe_bl)) pss_nil)
   (pss_cons (ps_if (PW.pt (pw_or (pt_not (pt_val (pe_callB (call_isX (cv:=.ref Z.a_SumError) (c:=.ref Z.a_SumError) (fun _ h=>h)) (by rfl) T.isinstance PyProof.Rows.boot_isinstance (pa_cons (pe_ix ix_tup (pv 7) pe_int (by intro _ _;rfl)) (pa_cons (pe_glob (v:=.ref Z.a_SumError) rfl T.mg_SumError rfl) pa_nil))))) (pw_or1 (pt_not (pt_val (pe_callB (call_isX (cv:=.ty "ValueError") (c:=.type "ValueError") (fun _ h=>h)) (by rfl) T.isinstance PyProof.Rows.boot_isinstance (pa_cons (pe_ix ix_tup (pv 7) pe_int (by intro _ _;rfl)) (pa_cons (pe_bltn (v:=.ty "ValueError") rfl T.ValueError PyProof.Rows.Boot.«ValueError» rfl) pa_nil)))))))) (pss_one (ps_ret pe_bl)) pss_nil)
   (pss_one (ps_if (pt_cmpR (op_neD (hu50 hr)) (pe_call G__law_kinds (hr.mono (by decide)) rfl T.mg__law_kinds T.F__law_kinds.kp T.b__law_kinds .nil pass0 (pa_cons (pe_ix ix_tup (pv 7) pe_int (by intro _ _;rfl)) pa_nil)) (pe_comp ["_law_k"] ["_law_which"] [6] (pi_range1 rfl T.range (pa_cons pe_int pa_nil)) (fun _=>(pg_name (i:=0) (show List.Nodup (α:=PySem.Str) ["_law_k","_law_which"] by decide +kernel) rfl (Or.inl rfl) (Or.inl rfl))) (fun _=>pf_nil) (fun _=>(pe_cmpR op_eq (pv 0) (pv 1) (nomark _)))) (nomark _)) (pss_one (ps_ret pe_bl)) pss_nil))))))
   (pss_one (ps_ret pe_bl)))))))),?_⟩
  refine rd_start (σ:=[some (.ref a),none,none,none,none,none,none,none]) rfl ?_
  have ten:∀i:Nat,i < 10->i=0∨i=1∨i=2∨i=3∨i=4∨i=5∨i=6∨i=7∨i=8∨i=9:=by lia
  have kS:∀i:Nat,i < 10->PySem.W.kitOne K (.ref ([Z.a_Wrong,Z.a_NoThing,Z.a_TooMany,Z.a_NotSteered,Z.a_NotSeen,Z.a_NoName,Z.a_Taken,Z.a_NoNumber,Z.a_NoFit,Z.a_NoText].getD i 0)) (.ref Z.a_SumError)=some true:=fun i hi=>by
   have i10:=ten i hi
   rcases i10 with rfl | rfl | rfl | rfl | rfl | rfl | rfl | rfl | rfl | rfl
   ·exact T.ki_Wrong_SumError
   ·exact T.ki_NoThing_SumError
   ·exact T.ki_TooMany_SumError
   ·exact T.ki_NotSteered_SumError
   ·exact T.ki_NotSeen_SumError
   ·exact T.ki_NoName_SumError
   ·exact T.ki_Taken_SumError
   ·exact T.ki_NoNumber_SumError
   ·exact T.ki_NoFit_SumError
   ·exact T.ki_NoText_SumError
  have kV:∀i:Nat,i < 10->PySem.W.kitOne K (.ref ([Z.a_Wrong,Z.a_NoThing,Z.a_TooMany,Z.a_NotSteered,Z.a_NotSeen,Z.a_NoName,Z.a_Taken,Z.a_NoNumber,Z.a_NoFit,Z.a_NoText].getD i 0)) (.type "ValueError")=some true:=fun i hi=>by
   have i10:=ten i hi
   rcases i10 with rfl | rfl | rfl | rfl | rfl | rfl | rfl | rfl | rfl | rfl
   ·exact T.ki_Wrong_ValueError
   ·exact T.ki_NoThing_ValueError
   ·exact T.ki_TooMany_ValueError
   ·exact T.ki_NotSteered_ValueError
   ·exact T.ki_NotSeen_ValueError
   ·exact T.ki_NoName_ValueError
   ·exact T.ki_Taken_ValueError
   ·exact T.ki_NoNumber_ValueError
   ·exact T.ki_NoFit_ValueError
   ·exact T.ki_NoText_ValueError
  have xc:∀i:Nat,i < 10->ExC K ([Z.a_Wrong,Z.a_NoThing,Z.a_TooMany,Z.a_NotSteered,Z.a_NotSeen,Z.a_NoName,Z.a_Taken,Z.a_NoNumber,Z.a_NoFit,Z.a_NoText].getD i 0):=fun i hi=>by
   have i10:=ten i hi
   rcases i10 with rfl | rfl | rfl | rfl | rfl | rfl | rfl | rfl | rfl | rfl
   ·exact T.xc_Wrong
   ·exact T.xc_NoThing
   ·exact T.xc_TooMany
   ·exact T.xc_NotSteered
   ·exact T.xc_NotSeen
   ·exact T.xc_NoName
   ·exact T.xc_Taken
   ·exact T.xc_NoNumber
   ·exact T.xc_NoFit
   ·exact T.xc_NoText
  clear ten
  walk_at "w"
  refine ⟨a,ns,rfl,hS,hlen,fun p H0 hp0 B0 s0=>?_⟩
  walk_at "w"
  refine ⟨p,1000,rfl,B0,by decide,by decide,fun m H1 m0 m1 B1 u1=>?_⟩
  walk_at "w"
  refine ⟨p,4,rfl,B1,by decide,by decide,fun w H2 w0 w1 B2 u2=>?_⟩
  walk_at "w"
  refine ⟨by lia,by lia,?_⟩
  refine comp_range (lo:=0) (n:=w.toNat) (fun i ys H'=>Bag H' p∧∃ms,Paired (NumH H') ms ys) (Nat.le_of_lt (small1000 (by lia))) ⟨B2,[],.nil⟩ ?_ ?_
  ·rintro i ys H' hi hy ⟨B',ms,hP⟩
   walk_at "w"
   refine ⟨p,rfl,B',fun r a b H3 hn g3 B3 u3=>⟨B3,ms++[(a,b)],?_⟩⟩
   exact (L2.Paired.imp' (fun _ x h=>NumH.upto h u3 B') hP).snoc ⟨r,rfl,g3⟩
  rintro ys H' hy ⟨B',ms,hP⟩ l hl
  have lp:l≠p:=fun z=>by obtain ⟨_,_,_,_,_,e,_⟩:=B';rw[← z,hl] at e;cases e
  have s1:Same H' (upd H' l (.lst ys)):=Same.new hl
  have gl:(upd H' l (.lst ys)) l=some (.lst ys):=upd_same
  generalize upd H' l (.lst ys)=H3 at s1 gl ⊢
  have R3:RowH H3 l ms:=⟨ys,gl,L2.Paired.imp' (fun _ _ z=>z.same s1) hP⟩
  have B3:=B'.same s1
  clear hP gl hy hl s1 B' B0 B1 B2 u1 u2 s0 hS hp0
  walk_at "w"
  refine ⟨p,8,rfl,B3,by decide,by decide,fun v H4 v0 v1 B4 u4=>?_⟩
  have R4:=R3.upto u4 B3 lp
  clear R3 u4
  walk_at "w"
  refine ⟨_,rfl,by decide,fun nm=>?_⟩
  walk_at "w"
  refine rd_newL fun L H5 s5 n5 g5=>?_
  have R5:=R4.same s5
  clear R4 n5 B3
  walk_at "w"
  refine ⟨by decide,by decide,?_⟩
  refine for_rangeN (fun i σ' H'=>Same H5 H'∧∃x y,σ'=[some (.ref a),some (.ref p),some (.int m),some (.ref l),some (.str nm),some (.ref L),x,y]) ⟨Same.refl _,none,none,rfl⟩ ?_ ?_
  ·rintro i σ' H6 hi ⟨s6,x0,y0,rfl⟩
   have hi:i < 10:=hi
   obtain ⟨v,ev,mv,_⟩:=atI_some (xs:=[V.int m,.int m,.int m,.ref l,.ref l,.str nm,.str nm,.int 0,.int 0,.int 0]) (i:=i) (by lia) (by show (i:Int) < 10;lia)
   have kk:∃(α:Type) (_:DecidableEq α) (k:Kind α) (z:α),k.d<=50∧∀H',Same H5 H'->k.R K H' v z:=by
    have ki:∀j:Int,∃(α:Type) (_:DecidableEq α) (k:Kind α) (z:α),k.d<=50∧∀H',Same H5 H'->k.R K H' (.int j) z:=fun j=>⟨_,_,kInt,j,by decide,fun _ _=>rfl⟩
    simp only[List.mem_cons,List.not_mem_nil,or_false] at mv
    rcases mv with rfl | rfl | rfl | rfl | rfl | rfl | rfl | rfl | rfl | rfl
    ·exact ki _
    ·exact ki _
    ·exact ki _
    ·exact ⟨_,_,kRow,ms,by decide,fun _ s=>(R5.same s).kind⟩
    ·exact ⟨_,_,kRow,ms,by decide,fun _ s=>(R5.same s).kind⟩
    ·exact ⟨_,_,kStr,nm,by decide,fun _ _=>rfl⟩
    ·exact ⟨_,_,kStr,nm,by decide,fun _ _=>rfl⟩
    ·exact ki _
    ·exact ki _
    ·exact ki _
   obtain ⟨α,dα,kd,z,hd,kz⟩:=kk
   walk_at "w"
   refine rd_ixL (SqL.of (s6 _ _ g5)) ev ?_
   walk_at "w"
   refine ⟨i,v,rfl,hi,fun r e dx H7 s7 g7 ge gd=>?_⟩
   have s67:=s6.trans s7
   walk_at "w"
   rw[show decide ((i:Int)=i)=true from decide_eq_true rfl]
   walk_at "w"
   refine rd_ixL (SqL.of (s67 _ _ g5)) ev ?_
   walk_at "w"
   refine ⟨α,dα,kd,z,z,hd,kz _ s67,kz _ s67,?_⟩
   rw[decide_eq_true rfl]
   walk_at "w"
   refine ⟨e,_,dx,_,rfl,ge,gd,xc i hi,kS i hi,?_⟩
   walk_at "w"
   refine ⟨e,_,dx,_,rfl,ge,gd,xc i hi,kV i hi,?_⟩
   walk_at "w"
   refine ⟨i,e,dx,rfl,hi,ge,gd,fun r2 H8 s8 g8=>?_⟩
   walk_at "w"
   refine ⟨by decide,by decide,?_⟩
   refine comp_range (lo:=0) (n:=10) (fun j ys H'=>Same H8 H'∧ys=(List.range j).map fun j=>V.bl (decide (j=i))) (by decide) ⟨Same.refl _,rfl⟩ ?_ ?_
   ·rintro j ys H' hj hy ⟨s9,rfl⟩
    walk_at "w"
    refine ⟨s9,?_⟩
    rw[List.range_succ,List.map_append,List.map_singleton,decide_eq_decide.mpr (show (0+(j:Int)=(i:Int))↔j=i by lia)]
   rintro ys H9 hy ⟨s9,rfl⟩ l3 hl3
   have sA:Same H9 (upd H9 l3 (.lst ((List.range 10).map fun j=>V.bl (decide (j=i))))):=Same.new hl3
   have gA:(upd H9 l3 (.lst ((List.range 10).map fun j=>V.bl (decide (j=i))))) l3=some (.lst ((List.range 10).map fun j=>V.bl (decide (j=i)))):=upd_same
   generalize upd H9 l3 (.lst ((List.range 10).map fun j=>V.bl (decide (j=i))))=HA at sA gA ⊢
   have s8A:=s9.trans sA
   walk_at "w"
   have pm:Paired (fun b x=>kBl.R K HA x b) ((List.range 10).map fun j=>decide (j=i)) ((List.range 10).map fun j=>V.bl (decide (j=i))):=paired_map fun _ _=>rfl
   refine ⟨_,_,kLst kBl,_,_,by decide,⟨r2,_,rfl,SqL.of (s8A _ _ g8),pm⟩,⟨l3,_,rfl,SqL.of gA,pm⟩,?_⟩
   rw[decide_eq_true rfl]
   walk_at "w"
   exact ⟨((s67.trans s8).trans s8A),_,_,rfl⟩
  ·rintro σ' H2 ⟨s,x1,y1,rfl⟩
   walk_at "w"
   exact k _
  
end
theorem ln1 {P:List Value->Prop} (h:∀x0,P [x0]):∀us:List Value,us.length=1->P us
 | [x0],_=>h x0
theorem ln2 {P:List Value->Prop} (h:∀x0 x1,P [x0,x1]):∀us:List Value,us.length=2->P us
 | [x0,x1],_=>h x0 x1
theorem all_mk {l:PySem.W.OpenLaw} {w:World} {K:PySem.W.Frag} {h:Heap} {mg:Str->Option Value} {fa:Addr} (X:K.In h) (G:h.Ns mainGlobals mg) (hfa:mg "law"=some (.ref fa))
  {f0:Addr} {od0 an0:Option Addr} {sl0:Array (Option Value)} {oc0 kV0 dc0 pm0 cd0 ct0:Value}
  (a0:PySem.W.nsIn K mainGlobals "_law_bag"=some (some (.ref f0))) (l0:K.lookup f0=some ⟨oc0,od0,.func (PySem.W.fnOf "_law_bag" "_law_bag" (defArgs s__law_bag) (defBody s__law_bag) (defScope s__law_bag) .none kV0 dc0 pm0 an0 cd0 ct0),sl0⟩) (c0:PySem.W.codeIn K cd0 "_law_bag"=true) (k0:PySem.W.keepIn K (.ref f0)=true)
  {f1:Addr} {od1 an1:Option Addr} {sl1:Array (Option Value)} {oc1 kV1 dc1 pm1 cd1 ct1:Value}
  (a1:PySem.W.nsIn K mainGlobals "_law_take"=some (some (.ref f1))) (l1:K.lookup f1=some ⟨oc1,od1,.func (PySem.W.fnOf "_law_take" "_law_take" (defArgs s__law_take) (defBody s__law_take) (defScope s__law_take) .none kV1 dc1 pm1 an1 cd1 ct1),sl1⟩) (c1:PySem.W.codeIn K cd1 "_law_take"=true) (k1:PySem.W.keepIn K (.ref f1)=true)
  {f2:Addr} {od2 an2:Option Addr} {sl2:Array (Option Value)} {oc2 kV2 dc2 pm2 cd2 ct2:Value}
  (a2:PySem.W.nsIn K mainGlobals "_law_low"=some (some (.ref f2))) (l2:K.lookup f2=some ⟨oc2,od2,.func (PySem.W.fnOf "_law_low" "_law_low" (defArgs s__law_low) (defBody s__law_low) (defScope s__law_low) .none kV2 dc2 pm2 an2 cd2 ct2),sl2⟩) (c2:PySem.W.codeIn K cd2 "_law_low"=true) (k2:PySem.W.keepIn K (.ref f2)=true)
  {f3:Addr} {od3 an3:Option Addr} {sl3:Array (Option Value)} {oc3 kV3 dc3 pm3 cd3 ct3:Value}
  (a3:PySem.W.nsIn K mainGlobals "_law_great"=some (some (.ref f3))) (l3:K.lookup f3=some ⟨oc3,od3,.func (PySem.W.fnOf "_law_great" "_law_great" (defArgs s__law_great) (defBody s__law_great) (defScope s__law_great) .none kV3 dc3 pm3 an3 cd3 ct3),sl3⟩) (c3:PySem.W.codeIn K cd3 "_law_great"=true) (k3:PySem.W.keepIn K (.ref f3)=true)
  {f4:Addr} {od4 an4:Option Addr} {sl4:Array (Option Value)} {oc4 kV4 dc4 pm4 cd4 ct4:Value}
  (a4:PySem.W.nsIn K mainGlobals "_law_top"=some (some (.ref f4))) (l4:K.lookup f4=some ⟨oc4,od4,.func (PySem.W.fnOf "_law_top" "_law_top" (defArgs s__law_top) (defBody s__law_top) (defScope s__law_top) .none kV4 dc4 pm4 an4 cd4 ct4),sl4⟩) (c4:PySem.W.codeIn K cd4 "_law_top"=true) (k4:PySem.W.keepIn K (.ref f4)=true)
  {f5:Addr} {od5 an5:Option Addr} {sl5:Array (Option Value)} {oc5 kV5 dc5 pm5 cd5 ct5:Value}
  (a5:PySem.W.nsIn K mainGlobals "_law_any"=some (some (.ref f5))) (l5:K.lookup f5=some ⟨oc5,od5,.func (PySem.W.fnOf "_law_any" "_law_any" (defArgs s__law_any) (defBody s__law_any) (defScope s__law_any) .none kV5 dc5 pm5 an5 cd5 ct5),sl5⟩) (c5:PySem.W.codeIn K cd5 "_law_any"=true) (k5:PySem.W.keepIn K (.ref f5)=true)
  {f6:Addr} {od6 an6:Option Addr} {sl6:Array (Option Value)} {oc6 kV6 dc6 pm6 cd6 ct6:Value}
  {x_Wrong:Addr} (xa_Wrong:PySem.W.nsIn K mainGlobals "Wrong"=some (some (.ref x_Wrong)))
  (a6:PySem.W.findIn K (.ref x_Wrong) "__init__"=some (some (.ref f6))) (i6:PySem.W.isFn K (.ref f6)=true) (l6:K.lookup f6=some ⟨oc6,od6,.func (PySem.W.fnOf "__init__" "Wrong.__init__" (defArgs s_Wrong___init__) (defBody s_Wrong___init__) (defScope s_Wrong___init__) .none kV6 dc6 pm6 an6 cd6 ct6),sl6⟩) (c6:PySem.W.codeIn K cd6 "Wrong.__init__"=true) (k6:PySem.W.keepIn K (.ref f6)=true)
  {f7:Addr} {od7 an7:Option Addr} {sl7:Array (Option Value)} {oc7 kV7 dc7 pm7 cd7 ct7:Value}
  {x_NoThing:Addr} (xa_NoThing:PySem.W.nsIn K mainGlobals "NoThing"=some (some (.ref x_NoThing)))
  (a7:PySem.W.findIn K (.ref x_NoThing) "__init__"=some (some (.ref f7))) (i7:PySem.W.isFn K (.ref f7)=true) (l7:K.lookup f7=some ⟨oc7,od7,.func (PySem.W.fnOf "__init__" "NoThing.__init__" (defArgs s_NoThing___init__) (defBody s_NoThing___init__) (defScope s_NoThing___init__) .none kV7 dc7 pm7 an7 cd7 ct7),sl7⟩) (c7:PySem.W.codeIn K cd7 "NoThing.__init__"=true) (k7:PySem.W.keepIn K (.ref f7)=true)
  {f8:Addr} {od8 an8:Option Addr} {sl8:Array (Option Value)} {oc8 kV8 dc8 pm8 cd8 ct8:Value}
  {x_TooMany:Addr} (xa_TooMany:PySem.W.nsIn K mainGlobals "TooMany"=some (some (.ref x_TooMany)))
  (a8:PySem.W.findIn K (.ref x_TooMany) "__init__"=some (some (.ref f8))) (i8:PySem.W.isFn K (.ref f8)=true) (l8:K.lookup f8=some ⟨oc8,od8,.func (PySem.W.fnOf "__init__" "TooMany.__init__" (defArgs s_TooMany___init__) (defBody s_TooMany___init__) (defScope s_TooMany___init__) .none kV8 dc8 pm8 an8 cd8 ct8),sl8⟩) (c8:PySem.W.codeIn K cd8 "TooMany.__init__"=true) (k8:PySem.W.keepIn K (.ref f8)=true)
  {f9:Addr} {od9 an9:Option Addr} {sl9:Array (Option Value)} {oc9 kV9 dc9 pm9 cd9 ct9:Value}
  {x_NotSteered:Addr} (xa_NotSteered:PySem.W.nsIn K mainGlobals "NotSteered"=some (some (.ref x_NotSteered)))
  (a9:PySem.W.findIn K (.ref x_NotSteered) "__init__"=some (some (.ref f9))) (i9:PySem.W.isFn K (.ref f9)=true) (l9:K.lookup f9=some ⟨oc9,od9,.func (PySem.W.fnOf "__init__" "NotSteered.__init__" (defArgs s_NotSteered___init__) (defBody s_NotSteered___init__) (defScope s_NotSteered___init__) .none kV9 dc9 pm9 an9 cd9 ct9),sl9⟩) (c9:PySem.W.codeIn K cd9 "NotSteered.__init__"=true) (k9:PySem.W.keepIn K (.ref f9)=true)
  {f10:Addr} {od10 an10:Option Addr} {sl10:Array (Option Value)} {oc10 kV10 dc10 pm10 cd10 ct10:Value}
  {x_NotSeen:Addr} (xa_NotSeen:PySem.W.nsIn K mainGlobals "NotSeen"=some (some (.ref x_NotSeen)))
  (a10:PySem.W.findIn K (.ref x_NotSeen) "__init__"=some (some (.ref f10))) (i10:PySem.W.isFn K (.ref f10)=true) (l10:K.lookup f10=some ⟨oc10,od10,.func (PySem.W.fnOf "__init__" "NotSeen.__init__" (defArgs s_NotSeen___init__) (defBody s_NotSeen___init__) (defScope s_NotSeen___init__) .none kV10 dc10 pm10 an10 cd10 ct10),sl10⟩) (c10:PySem.W.codeIn K cd10 "NotSeen.__init__"=true) (k10:PySem.W.keepIn K (.ref f10)=true)
  {f11:Addr} {od11 an11:Option Addr} {sl11:Array (Option Value)} {oc11 kV11 dc11 pm11 cd11 ct11:Value}
  {x_NoName:Addr} (xa_NoName:PySem.W.nsIn K mainGlobals "NoName"=some (some (.ref x_NoName)))
  (a11:PySem.W.findIn K (.ref x_NoName) "__init__"=some (some (.ref f11))) (i11:PySem.W.isFn K (.ref f11)=true) (l11:K.lookup f11=some ⟨oc11,od11,.func (PySem.W.fnOf "__init__" "NoName.__init__" (defArgs s_NoName___init__) (defBody s_NoName___init__) (defScope s_NoName___init__) .none kV11 dc11 pm11 an11 cd11 ct11),sl11⟩) (c11:PySem.W.codeIn K cd11 "NoName.__init__"=true) (k11:PySem.W.keepIn K (.ref f11)=true)
  {f12:Addr} {od12 an12:Option Addr} {sl12:Array (Option Value)} {oc12 kV12 dc12 pm12 cd12 ct12:Value}
  {x_Taken:Addr} (xa_Taken:PySem.W.nsIn K mainGlobals "Taken"=some (some (.ref x_Taken)))
  (a12:PySem.W.findIn K (.ref x_Taken) "__init__"=some (some (.ref f12))) (i12:PySem.W.isFn K (.ref f12)=true) (l12:K.lookup f12=some ⟨oc12,od12,.func (PySem.W.fnOf "__init__" "Taken.__init__" (defArgs s_Taken___init__) (defBody s_Taken___init__) (defScope s_Taken___init__) .none kV12 dc12 pm12 an12 cd12 ct12),sl12⟩) (c12:PySem.W.codeIn K cd12 "Taken.__init__"=true) (k12:PySem.W.keepIn K (.ref f12)=true)
  {f13:Addr} {od13 an13:Option Addr} {sl13:Array (Option Value)} {oc13 kV13 dc13 pm13 cd13 ct13:Value}
  (a13:PySem.W.nsIn K mainGlobals "_law_raised"=some (some (.ref f13))) (l13:K.lookup f13=some ⟨oc13,od13,.func (PySem.W.fnOf "_law_raised" "_law_raised" (defArgs s__law_raised) (defBody s__law_raised) (defScope s__law_raised) .none kV13 dc13 pm13 an13 cd13 ct13),sl13⟩) (c13:PySem.W.codeIn K cd13 "_law_raised"=true) (k13:PySem.W.keepIn K (.ref f13)=true)
  {f14:Addr} {od14 an14:Option Addr} {sl14:Array (Option Value)} {oc14 kV14 dc14 pm14 cd14 ct14:Value}
  (a14:PySem.W.nsIn K mainGlobals "_law_caught"=some (some (.ref f14))) (l14:K.lookup f14=some ⟨oc14,od14,.func (PySem.W.fnOf "_law_caught" "_law_caught" (defArgs s__law_caught) (defBody s__law_caught) (defScope s__law_caught) .none kV14 dc14 pm14 an14 cd14 ct14),sl14⟩) (c14:PySem.W.codeIn K cd14 "_law_caught"=true) (k14:PySem.W.keepIn K (.ref f14)=true)
  {f15:Addr} {od15 an15:Option Addr} {sl15:Array (Option Value)} {oc15 kV15 dc15 pm15 cd15 ct15:Value}
  (a15:PySem.W.nsIn K mainGlobals "_law_kinds"=some (some (.ref f15))) (l15:K.lookup f15=some ⟨oc15,od15,.func (PySem.W.fnOf "_law_kinds" "_law_kinds" (defArgs s__law_kinds) (defBody s__law_kinds) (defScope s__law_kinds) .none kV15 dc15 pm15 an15 cd15 ct15),sl15⟩) (c15:PySem.W.codeIn K cd15 "_law_kinds"=true) (k15:PySem.W.keepIn K (.ref f15)=true)
  {f16:Addr} {od16 an16:Option Addr} {sl16:Array (Option Value)} {oc16 kV16 dc16 pm16 cd16 ct16:Value}
  (a16:PySem.W.nsIn K mainGlobals "law"=some (some (.ref f16))) (l16:K.lookup f16=some ⟨oc16,od16,.func (PySem.W.fnOf "law" "law" (defArgs s_law) (defBody s_law) (defScope s_law) .none kV16 dc16 pm16 an16 cd16 ct16),sl16⟩) (c16:PySem.W.codeIn K cd16 "law"=true) (k16:PySem.W.keepIn K (.ref f16)=true)
  {x_SumError:Addr} (xa_SumError:PySem.W.nsIn K mainGlobals "SumError"=some (some (.ref x_SumError)))
  {x_NoNumber:Addr} (xa_NoNumber:PySem.W.nsIn K mainGlobals "NoNumber"=some (some (.ref x_NoNumber)))
  {x_NoFit:Addr} (xa_NoFit:PySem.W.nsIn K mainGlobals "NoFit"=some (some (.ref x_NoFit)))
  {x_NoText:Addr} (xa_NoText:PySem.W.nsIn K mainGlobals "NoText"=some (some (.ref x_NoText)))
  {dd_Wrong:Option Addr} {nm_Wrong qn_Wrong:Str} {bs_Wrong su_Wrong:List Value} {ns_Wrong:Addr} {hd_Wrong ab_Wrong:Bool} {sn_Wrong:List Str} {co_Wrong:Option Bool} {ka_Wrong kb_Wrong kc_Wrong kd_Wrong ke_Wrong:Option Value}
  (lx_Wrong:K.lookup x_Wrong=some ⟨.type "type",dd_Wrong,.cls ⟨nm_Wrong,bs_Wrong,[.ref x_Wrong,.ref x_SumError,.type "ValueError",.type "Exception",.type "BaseException",.type "object"],ns_Wrong,qn_Wrong,hd_Wrong,sn_Wrong,su_Wrong,ab_Wrong,co_Wrong,false⟩,#[ka_Wrong,kb_Wrong,kc_Wrong,kd_Wrong,some (.builtin "ValueError.__new__"),ke_Wrong]⟩)
  (sa_Wrong:PySem.W.findIn K (.ref x_Wrong) "__setattr__"=some (some (.builtin "object.__setattr__"))) (kp_Wrong:PySem.W.keepIn K (.ref x_Wrong)=true) (nt_Wrong:PySem.W.findIn K (.ref x_Wrong) "at"=some none)
  {dd_NoThing:Option Addr} {nm_NoThing qn_NoThing:Str} {bs_NoThing su_NoThing:List Value} {ns_NoThing:Addr} {hd_NoThing ab_NoThing:Bool} {sn_NoThing:List Str} {co_NoThing:Option Bool} {ka_NoThing kb_NoThing kc_NoThing kd_NoThing ke_NoThing:Option Value}
  (lx_NoThing:K.lookup x_NoThing=some ⟨.type "type",dd_NoThing,.cls ⟨nm_NoThing,bs_NoThing,[.ref x_NoThing,.ref x_SumError,.type "ValueError",.type "Exception",.type "BaseException",.type "object"],ns_NoThing,qn_NoThing,hd_NoThing,sn_NoThing,su_NoThing,ab_NoThing,co_NoThing,false⟩,#[ka_NoThing,kb_NoThing,kc_NoThing,kd_NoThing,some (.builtin "ValueError.__new__"),ke_NoThing]⟩)
  (sa_NoThing:PySem.W.findIn K (.ref x_NoThing) "__setattr__"=some (some (.builtin "object.__setattr__"))) (kp_NoThing:PySem.W.keepIn K (.ref x_NoThing)=true) (nt_NoThing:PySem.W.findIn K (.ref x_NoThing) "at"=some none)
  {dd_TooMany:Option Addr} {nm_TooMany qn_TooMany:Str} {bs_TooMany su_TooMany:List Value} {ns_TooMany:Addr} {hd_TooMany ab_TooMany:Bool} {sn_TooMany:List Str} {co_TooMany:Option Bool} {ka_TooMany kb_TooMany kc_TooMany kd_TooMany ke_TooMany:Option Value}
  (lx_TooMany:K.lookup x_TooMany=some ⟨.type "type",dd_TooMany,.cls ⟨nm_TooMany,bs_TooMany,[.ref x_TooMany,.ref x_SumError,.type "ValueError",.type "Exception",.type "BaseException",.type "object"],ns_TooMany,qn_TooMany,hd_TooMany,sn_TooMany,su_TooMany,ab_TooMany,co_TooMany,false⟩,#[ka_TooMany,kb_TooMany,kc_TooMany,kd_TooMany,some (.builtin "ValueError.__new__"),ke_TooMany]⟩)
  (sa_TooMany:PySem.W.findIn K (.ref x_TooMany) "__setattr__"=some (some (.builtin "object.__setattr__"))) (kp_TooMany:PySem.W.keepIn K (.ref x_TooMany)=true) (nt_TooMany:PySem.W.findIn K (.ref x_TooMany) "most"=some none)
  {dd_NotSteered:Option Addr} {nm_NotSteered qn_NotSteered:Str} {bs_NotSteered su_NotSteered:List Value} {ns_NotSteered:Addr} {hd_NotSteered ab_NotSteered:Bool} {sn_NotSteered:List Str} {co_NotSteered:Option Bool} {ka_NotSteered kb_NotSteered kc_NotSteered kd_NotSteered ke_NotSteered:Option Value}
  (lx_NotSteered:K.lookup x_NotSteered=some ⟨.type "type",dd_NotSteered,.cls ⟨nm_NotSteered,bs_NotSteered,[.ref x_NotSteered,.ref x_SumError,.type "ValueError",.type "Exception",.type "BaseException",.type "object"],ns_NotSteered,qn_NotSteered,hd_NotSteered,sn_NotSteered,su_NotSteered,ab_NotSteered,co_NotSteered,false⟩,#[ka_NotSteered,kb_NotSteered,kc_NotSteered,kd_NotSteered,some (.builtin "ValueError.__new__"),ke_NotSteered]⟩)
  (sa_NotSteered:PySem.W.findIn K (.ref x_NotSteered) "__setattr__"=some (some (.builtin "object.__setattr__"))) (kp_NotSteered:PySem.W.keepIn K (.ref x_NotSteered)=true) (nt_NotSteered:PySem.W.findIn K (.ref x_NotSteered) "price"=some none)
  {dd_NotSeen:Option Addr} {nm_NotSeen qn_NotSeen:Str} {bs_NotSeen su_NotSeen:List Value} {ns_NotSeen:Addr} {hd_NotSeen ab_NotSeen:Bool} {sn_NotSeen:List Str} {co_NotSeen:Option Bool} {ka_NotSeen kb_NotSeen kc_NotSeen kd_NotSeen ke_NotSeen:Option Value}
  (lx_NotSeen:K.lookup x_NotSeen=some ⟨.type "type",dd_NotSeen,.cls ⟨nm_NotSeen,bs_NotSeen,[.ref x_NotSeen,.ref x_SumError,.type "ValueError",.type "Exception",.type "BaseException",.type "object"],ns_NotSeen,qn_NotSeen,hd_NotSeen,sn_NotSeen,su_NotSeen,ab_NotSeen,co_NotSeen,false⟩,#[ka_NotSeen,kb_NotSeen,kc_NotSeen,kd_NotSeen,some (.builtin "ValueError.__new__"),ke_NotSeen]⟩)
  (sa_NotSeen:PySem.W.findIn K (.ref x_NotSeen) "__setattr__"=some (some (.builtin "object.__setattr__"))) (kp_NotSeen:PySem.W.keepIn K (.ref x_NotSeen)=true) (nt_NotSeen:PySem.W.findIn K (.ref x_NotSeen) "state"=some none)
  {dd_NoName:Option Addr} {nm_NoName qn_NoName:Str} {bs_NoName su_NoName:List Value} {ns_NoName:Addr} {hd_NoName ab_NoName:Bool} {sn_NoName:List Str} {co_NoName:Option Bool} {ka_NoName kb_NoName kc_NoName kd_NoName ke_NoName:Option Value}
  (lx_NoName:K.lookup x_NoName=some ⟨.type "type",dd_NoName,.cls ⟨nm_NoName,bs_NoName,[.ref x_NoName,.ref x_SumError,.type "ValueError",.type "Exception",.type "BaseException",.type "object"],ns_NoName,qn_NoName,hd_NoName,sn_NoName,su_NoName,ab_NoName,co_NoName,false⟩,#[ka_NoName,kb_NoName,kc_NoName,kd_NoName,some (.builtin "ValueError.__new__"),ke_NoName]⟩)
  (sa_NoName:PySem.W.findIn K (.ref x_NoName) "__setattr__"=some (some (.builtin "object.__setattr__"))) (kp_NoName:PySem.W.keepIn K (.ref x_NoName)=true) (nt_NoName:PySem.W.findIn K (.ref x_NoName) "name"=some none)
  {dd_Taken:Option Addr} {nm_Taken qn_Taken:Str} {bs_Taken su_Taken:List Value} {ns_Taken:Addr} {hd_Taken ab_Taken:Bool} {sn_Taken:List Str} {co_Taken:Option Bool} {ka_Taken kb_Taken kc_Taken kd_Taken ke_Taken:Option Value}
  (lx_Taken:K.lookup x_Taken=some ⟨.type "type",dd_Taken,.cls ⟨nm_Taken,bs_Taken,[.ref x_Taken,.ref x_SumError,.type "ValueError",.type "Exception",.type "BaseException",.type "object"],ns_Taken,qn_Taken,hd_Taken,sn_Taken,su_Taken,ab_Taken,co_Taken,false⟩,#[ka_Taken,kb_Taken,kc_Taken,kd_Taken,some (.builtin "ValueError.__new__"),ke_Taken]⟩)
  (sa_Taken:PySem.W.findIn K (.ref x_Taken) "__setattr__"=some (some (.builtin "object.__setattr__"))) (kp_Taken:PySem.W.keepIn K (.ref x_Taken)=true) (nt_Taken:PySem.W.findIn K (.ref x_Taken) "name"=some none)
  (xe_NoNumber:PySem.W.excIn K x_NoNumber vErr "ValueError.__new__"=true)
  (xe_NoFit:PySem.W.excIn K x_NoFit vErr "ValueError.__new__"=true)
  (xe_NoText:PySem.W.excIn K x_NoText vErr "ValueError.__new__"=true)
  (xe_SumError:PySem.W.excIn K x_SumError vErr "ValueError.__new__"=true)
  (xm_Wrong_Wrong:PySem.W.exmOne K (.ref x_Wrong) (.ref x_Wrong)=some true)
  (xm_Wrong_NoThing:PySem.W.exmOne K (.ref x_Wrong) (.ref x_NoThing)=some false)
  (xm_Wrong_TooMany:PySem.W.exmOne K (.ref x_Wrong) (.ref x_TooMany)=some false)
  (xm_Wrong_NoNumber:PySem.W.exmOne K (.ref x_Wrong) (.ref x_NoNumber)=some false)
  (xm_Wrong_NoFit:PySem.W.exmOne K (.ref x_Wrong) (.ref x_NoFit)=some false)
  (xm_Wrong_NotSteered:PySem.W.exmOne K (.ref x_Wrong) (.ref x_NotSteered)=some false)
  (xm_Wrong_NotSeen:PySem.W.exmOne K (.ref x_Wrong) (.ref x_NotSeen)=some false)
  (xm_Wrong_NoText:PySem.W.exmOne K (.ref x_Wrong) (.ref x_NoText)=some false)
  (xm_Wrong_NoName:PySem.W.exmOne K (.ref x_Wrong) (.ref x_NoName)=some false)
  (xm_Wrong_Taken:PySem.W.exmOne K (.ref x_Wrong) (.ref x_Taken)=some false)
  (xm_NoThing_Wrong:PySem.W.exmOne K (.ref x_NoThing) (.ref x_Wrong)=some false)
  (xm_NoThing_NoThing:PySem.W.exmOne K (.ref x_NoThing) (.ref x_NoThing)=some true)
  (xm_NoThing_TooMany:PySem.W.exmOne K (.ref x_NoThing) (.ref x_TooMany)=some false)
  (xm_NoThing_NoNumber:PySem.W.exmOne K (.ref x_NoThing) (.ref x_NoNumber)=some false)
  (xm_NoThing_NoFit:PySem.W.exmOne K (.ref x_NoThing) (.ref x_NoFit)=some false)
  (xm_NoThing_NotSteered:PySem.W.exmOne K (.ref x_NoThing) (.ref x_NotSteered)=some false)
  (xm_NoThing_NotSeen:PySem.W.exmOne K (.ref x_NoThing) (.ref x_NotSeen)=some false)
  (xm_NoThing_NoText:PySem.W.exmOne K (.ref x_NoThing) (.ref x_NoText)=some false)
  (xm_NoThing_NoName:PySem.W.exmOne K (.ref x_NoThing) (.ref x_NoName)=some false)
  (xm_NoThing_Taken:PySem.W.exmOne K (.ref x_NoThing) (.ref x_Taken)=some false)
  (xm_TooMany_Wrong:PySem.W.exmOne K (.ref x_TooMany) (.ref x_Wrong)=some false)
  (xm_TooMany_NoThing:PySem.W.exmOne K (.ref x_TooMany) (.ref x_NoThing)=some false)
  (xm_TooMany_TooMany:PySem.W.exmOne K (.ref x_TooMany) (.ref x_TooMany)=some true)
  (xm_TooMany_NoNumber:PySem.W.exmOne K (.ref x_TooMany) (.ref x_NoNumber)=some false)
  (xm_TooMany_NoFit:PySem.W.exmOne K (.ref x_TooMany) (.ref x_NoFit)=some false)
  (xm_TooMany_NotSteered:PySem.W.exmOne K (.ref x_TooMany) (.ref x_NotSteered)=some false)
  (xm_TooMany_NotSeen:PySem.W.exmOne K (.ref x_TooMany) (.ref x_NotSeen)=some false)
  (xm_TooMany_NoText:PySem.W.exmOne K (.ref x_TooMany) (.ref x_NoText)=some false)
  (xm_TooMany_NoName:PySem.W.exmOne K (.ref x_TooMany) (.ref x_NoName)=some false)
  (xm_TooMany_Taken:PySem.W.exmOne K (.ref x_TooMany) (.ref x_Taken)=some false)
  (xm_NoNumber_Wrong:PySem.W.exmOne K (.ref x_NoNumber) (.ref x_Wrong)=some false)
  (xm_NoNumber_NoThing:PySem.W.exmOne K (.ref x_NoNumber) (.ref x_NoThing)=some false)
  (xm_NoNumber_TooMany:PySem.W.exmOne K (.ref x_NoNumber) (.ref x_TooMany)=some false)
  (xm_NoNumber_NoNumber:PySem.W.exmOne K (.ref x_NoNumber) (.ref x_NoNumber)=some true)
  (xm_NoNumber_NoFit:PySem.W.exmOne K (.ref x_NoNumber) (.ref x_NoFit)=some false)
  (xm_NoNumber_NotSteered:PySem.W.exmOne K (.ref x_NoNumber) (.ref x_NotSteered)=some false)
  (xm_NoNumber_NotSeen:PySem.W.exmOne K (.ref x_NoNumber) (.ref x_NotSeen)=some false)
  (xm_NoNumber_NoText:PySem.W.exmOne K (.ref x_NoNumber) (.ref x_NoText)=some false)
  (xm_NoNumber_NoName:PySem.W.exmOne K (.ref x_NoNumber) (.ref x_NoName)=some false)
  (xm_NoNumber_Taken:PySem.W.exmOne K (.ref x_NoNumber) (.ref x_Taken)=some false)
  (xm_NoFit_Wrong:PySem.W.exmOne K (.ref x_NoFit) (.ref x_Wrong)=some false)
  (xm_NoFit_NoThing:PySem.W.exmOne K (.ref x_NoFit) (.ref x_NoThing)=some false)
  (xm_NoFit_TooMany:PySem.W.exmOne K (.ref x_NoFit) (.ref x_TooMany)=some false)
  (xm_NoFit_NoNumber:PySem.W.exmOne K (.ref x_NoFit) (.ref x_NoNumber)=some false)
  (xm_NoFit_NoFit:PySem.W.exmOne K (.ref x_NoFit) (.ref x_NoFit)=some true)
  (xm_NoFit_NotSteered:PySem.W.exmOne K (.ref x_NoFit) (.ref x_NotSteered)=some false)
  (xm_NoFit_NotSeen:PySem.W.exmOne K (.ref x_NoFit) (.ref x_NotSeen)=some false)
  (xm_NoFit_NoText:PySem.W.exmOne K (.ref x_NoFit) (.ref x_NoText)=some false)
  (xm_NoFit_NoName:PySem.W.exmOne K (.ref x_NoFit) (.ref x_NoName)=some false)
  (xm_NoFit_Taken:PySem.W.exmOne K (.ref x_NoFit) (.ref x_Taken)=some false)
  (xm_NotSteered_Wrong:PySem.W.exmOne K (.ref x_NotSteered) (.ref x_Wrong)=some false)
  (xm_NotSteered_NoThing:PySem.W.exmOne K (.ref x_NotSteered) (.ref x_NoThing)=some false)
  (xm_NotSteered_TooMany:PySem.W.exmOne K (.ref x_NotSteered) (.ref x_TooMany)=some false)
  (xm_NotSteered_NoNumber:PySem.W.exmOne K (.ref x_NotSteered) (.ref x_NoNumber)=some false)
  (xm_NotSteered_NoFit:PySem.W.exmOne K (.ref x_NotSteered) (.ref x_NoFit)=some false)
  (xm_NotSteered_NotSteered:PySem.W.exmOne K (.ref x_NotSteered) (.ref x_NotSteered)=some true)
  (xm_NotSteered_NotSeen:PySem.W.exmOne K (.ref x_NotSteered) (.ref x_NotSeen)=some false)
  (xm_NotSteered_NoText:PySem.W.exmOne K (.ref x_NotSteered) (.ref x_NoText)=some false)
  (xm_NotSteered_NoName:PySem.W.exmOne K (.ref x_NotSteered) (.ref x_NoName)=some false)
  (xm_NotSteered_Taken:PySem.W.exmOne K (.ref x_NotSteered) (.ref x_Taken)=some false)
  (xm_NotSeen_Wrong:PySem.W.exmOne K (.ref x_NotSeen) (.ref x_Wrong)=some false)
  (xm_NotSeen_NoThing:PySem.W.exmOne K (.ref x_NotSeen) (.ref x_NoThing)=some false)
  (xm_NotSeen_TooMany:PySem.W.exmOne K (.ref x_NotSeen) (.ref x_TooMany)=some false)
  (xm_NotSeen_NoNumber:PySem.W.exmOne K (.ref x_NotSeen) (.ref x_NoNumber)=some false)
  (xm_NotSeen_NoFit:PySem.W.exmOne K (.ref x_NotSeen) (.ref x_NoFit)=some false)
  (xm_NotSeen_NotSteered:PySem.W.exmOne K (.ref x_NotSeen) (.ref x_NotSteered)=some false)
  (xm_NotSeen_NotSeen:PySem.W.exmOne K (.ref x_NotSeen) (.ref x_NotSeen)=some true)
  (xm_NotSeen_NoText:PySem.W.exmOne K (.ref x_NotSeen) (.ref x_NoText)=some false)
  (xm_NotSeen_NoName:PySem.W.exmOne K (.ref x_NotSeen) (.ref x_NoName)=some false)
  (xm_NotSeen_Taken:PySem.W.exmOne K (.ref x_NotSeen) (.ref x_Taken)=some false)
  (xm_NoText_Wrong:PySem.W.exmOne K (.ref x_NoText) (.ref x_Wrong)=some false)
  (xm_NoText_NoThing:PySem.W.exmOne K (.ref x_NoText) (.ref x_NoThing)=some false)
  (xm_NoText_TooMany:PySem.W.exmOne K (.ref x_NoText) (.ref x_TooMany)=some false)
  (xm_NoText_NoNumber:PySem.W.exmOne K (.ref x_NoText) (.ref x_NoNumber)=some false)
  (xm_NoText_NoFit:PySem.W.exmOne K (.ref x_NoText) (.ref x_NoFit)=some false)
  (xm_NoText_NotSteered:PySem.W.exmOne K (.ref x_NoText) (.ref x_NotSteered)=some false)
  (xm_NoText_NotSeen:PySem.W.exmOne K (.ref x_NoText) (.ref x_NotSeen)=some false)
  (xm_NoText_NoText:PySem.W.exmOne K (.ref x_NoText) (.ref x_NoText)=some true)
  (xm_NoText_NoName:PySem.W.exmOne K (.ref x_NoText) (.ref x_NoName)=some false)
  (xm_NoText_Taken:PySem.W.exmOne K (.ref x_NoText) (.ref x_Taken)=some false)
  (xm_NoName_Wrong:PySem.W.exmOne K (.ref x_NoName) (.ref x_Wrong)=some false)
  (xm_NoName_NoThing:PySem.W.exmOne K (.ref x_NoName) (.ref x_NoThing)=some false)
  (xm_NoName_TooMany:PySem.W.exmOne K (.ref x_NoName) (.ref x_TooMany)=some false)
  (xm_NoName_NoNumber:PySem.W.exmOne K (.ref x_NoName) (.ref x_NoNumber)=some false)
  (xm_NoName_NoFit:PySem.W.exmOne K (.ref x_NoName) (.ref x_NoFit)=some false)
  (xm_NoName_NotSteered:PySem.W.exmOne K (.ref x_NoName) (.ref x_NotSteered)=some false)
  (xm_NoName_NotSeen:PySem.W.exmOne K (.ref x_NoName) (.ref x_NotSeen)=some false)
  (xm_NoName_NoText:PySem.W.exmOne K (.ref x_NoName) (.ref x_NoText)=some false)
  (xm_NoName_NoName:PySem.W.exmOne K (.ref x_NoName) (.ref x_NoName)=some true)
  (xm_NoName_Taken:PySem.W.exmOne K (.ref x_NoName) (.ref x_Taken)=some false)
  (xm_Taken_Wrong:PySem.W.exmOne K (.ref x_Taken) (.ref x_Wrong)=some false)
  (xm_Taken_NoThing:PySem.W.exmOne K (.ref x_Taken) (.ref x_NoThing)=some false)
  (xm_Taken_TooMany:PySem.W.exmOne K (.ref x_Taken) (.ref x_TooMany)=some false)
  (xm_Taken_NoNumber:PySem.W.exmOne K (.ref x_Taken) (.ref x_NoNumber)=some false)
  (xm_Taken_NoFit:PySem.W.exmOne K (.ref x_Taken) (.ref x_NoFit)=some false)
  (xm_Taken_NotSteered:PySem.W.exmOne K (.ref x_Taken) (.ref x_NotSteered)=some false)
  (xm_Taken_NotSeen:PySem.W.exmOne K (.ref x_Taken) (.ref x_NotSeen)=some false)
  (xm_Taken_NoText:PySem.W.exmOne K (.ref x_Taken) (.ref x_NoText)=some false)
  (xm_Taken_NoName:PySem.W.exmOne K (.ref x_Taken) (.ref x_NoName)=some false)
  (xm_Taken_Taken:PySem.W.exmOne K (.ref x_Taken) (.ref x_Taken)=some true)
  (ki_Wrong_SumError:PySem.W.kitOne K (.ref x_Wrong) (.ref x_SumError)=some true)
  (ki_Wrong_Wrong:PySem.W.kitOne K (.ref x_Wrong) (.ref x_Wrong)=some true)
  (ki_Wrong_NoThing:PySem.W.kitOne K (.ref x_Wrong) (.ref x_NoThing)=some false)
  (ki_Wrong_TooMany:PySem.W.kitOne K (.ref x_Wrong) (.ref x_TooMany)=some false)
  (ki_Wrong_NoNumber:PySem.W.kitOne K (.ref x_Wrong) (.ref x_NoNumber)=some false)
  (ki_Wrong_NoFit:PySem.W.kitOne K (.ref x_Wrong) (.ref x_NoFit)=some false)
  (ki_Wrong_NotSteered:PySem.W.kitOne K (.ref x_Wrong) (.ref x_NotSteered)=some false)
  (ki_Wrong_NotSeen:PySem.W.kitOne K (.ref x_Wrong) (.ref x_NotSeen)=some false)
  (ki_Wrong_NoText:PySem.W.kitOne K (.ref x_Wrong) (.ref x_NoText)=some false)
  (ki_Wrong_NoName:PySem.W.kitOne K (.ref x_Wrong) (.ref x_NoName)=some false)
  (ki_Wrong_Taken:PySem.W.kitOne K (.ref x_Wrong) (.ref x_Taken)=some false)
  (ki_Wrong_ValueError:PySem.W.kitOne K (.ref x_Wrong) (.type "ValueError")=some true)
  (ki_NoThing_SumError:PySem.W.kitOne K (.ref x_NoThing) (.ref x_SumError)=some true)
  (ki_NoThing_Wrong:PySem.W.kitOne K (.ref x_NoThing) (.ref x_Wrong)=some false)
  (ki_NoThing_NoThing:PySem.W.kitOne K (.ref x_NoThing) (.ref x_NoThing)=some true)
  (ki_NoThing_TooMany:PySem.W.kitOne K (.ref x_NoThing) (.ref x_TooMany)=some false)
  (ki_NoThing_NoNumber:PySem.W.kitOne K (.ref x_NoThing) (.ref x_NoNumber)=some false)
  (ki_NoThing_NoFit:PySem.W.kitOne K (.ref x_NoThing) (.ref x_NoFit)=some false)
  (ki_NoThing_NotSteered:PySem.W.kitOne K (.ref x_NoThing) (.ref x_NotSteered)=some false)
  (ki_NoThing_NotSeen:PySem.W.kitOne K (.ref x_NoThing) (.ref x_NotSeen)=some false)
  (ki_NoThing_NoText:PySem.W.kitOne K (.ref x_NoThing) (.ref x_NoText)=some false)
  (ki_NoThing_NoName:PySem.W.kitOne K (.ref x_NoThing) (.ref x_NoName)=some false)
  (ki_NoThing_Taken:PySem.W.kitOne K (.ref x_NoThing) (.ref x_Taken)=some false)
  (ki_NoThing_ValueError:PySem.W.kitOne K (.ref x_NoThing) (.type "ValueError")=some true)
  (ki_TooMany_SumError:PySem.W.kitOne K (.ref x_TooMany) (.ref x_SumError)=some true)
  (ki_TooMany_Wrong:PySem.W.kitOne K (.ref x_TooMany) (.ref x_Wrong)=some false)
  (ki_TooMany_NoThing:PySem.W.kitOne K (.ref x_TooMany) (.ref x_NoThing)=some false)
  (ki_TooMany_TooMany:PySem.W.kitOne K (.ref x_TooMany) (.ref x_TooMany)=some true)
  (ki_TooMany_NoNumber:PySem.W.kitOne K (.ref x_TooMany) (.ref x_NoNumber)=some false)
  (ki_TooMany_NoFit:PySem.W.kitOne K (.ref x_TooMany) (.ref x_NoFit)=some false)
  (ki_TooMany_NotSteered:PySem.W.kitOne K (.ref x_TooMany) (.ref x_NotSteered)=some false)
  (ki_TooMany_NotSeen:PySem.W.kitOne K (.ref x_TooMany) (.ref x_NotSeen)=some false)
  (ki_TooMany_NoText:PySem.W.kitOne K (.ref x_TooMany) (.ref x_NoText)=some false)
  (ki_TooMany_NoName:PySem.W.kitOne K (.ref x_TooMany) (.ref x_NoName)=some false)
  (ki_TooMany_Taken:PySem.W.kitOne K (.ref x_TooMany) (.ref x_Taken)=some false)
  (ki_TooMany_ValueError:PySem.W.kitOne K (.ref x_TooMany) (.type "ValueError")=some true)
  (ki_NoNumber_SumError:PySem.W.kitOne K (.ref x_NoNumber) (.ref x_SumError)=some true)
  (ki_NoNumber_Wrong:PySem.W.kitOne K (.ref x_NoNumber) (.ref x_Wrong)=some false)
  (ki_NoNumber_NoThing:PySem.W.kitOne K (.ref x_NoNumber) (.ref x_NoThing)=some false)
  (ki_NoNumber_TooMany:PySem.W.kitOne K (.ref x_NoNumber) (.ref x_TooMany)=some false)
  (ki_NoNumber_NoNumber:PySem.W.kitOne K (.ref x_NoNumber) (.ref x_NoNumber)=some true)
  (ki_NoNumber_NoFit:PySem.W.kitOne K (.ref x_NoNumber) (.ref x_NoFit)=some false)
  (ki_NoNumber_NotSteered:PySem.W.kitOne K (.ref x_NoNumber) (.ref x_NotSteered)=some false)
  (ki_NoNumber_NotSeen:PySem.W.kitOne K (.ref x_NoNumber) (.ref x_NotSeen)=some false)
  (ki_NoNumber_NoText:PySem.W.kitOne K (.ref x_NoNumber) (.ref x_NoText)=some false)
  (ki_NoNumber_NoName:PySem.W.kitOne K (.ref x_NoNumber) (.ref x_NoName)=some false)
  (ki_NoNumber_Taken:PySem.W.kitOne K (.ref x_NoNumber) (.ref x_Taken)=some false)
  (ki_NoNumber_ValueError:PySem.W.kitOne K (.ref x_NoNumber) (.type "ValueError")=some true)
  (ki_NoFit_SumError:PySem.W.kitOne K (.ref x_NoFit) (.ref x_SumError)=some true)
  (ki_NoFit_Wrong:PySem.W.kitOne K (.ref x_NoFit) (.ref x_Wrong)=some false)
  (ki_NoFit_NoThing:PySem.W.kitOne K (.ref x_NoFit) (.ref x_NoThing)=some false)
  (ki_NoFit_TooMany:PySem.W.kitOne K (.ref x_NoFit) (.ref x_TooMany)=some false)
  (ki_NoFit_NoNumber:PySem.W.kitOne K (.ref x_NoFit) (.ref x_NoNumber)=some false)
  (ki_NoFit_NoFit:PySem.W.kitOne K (.ref x_NoFit) (.ref x_NoFit)=some true)
  (ki_NoFit_NotSteered:PySem.W.kitOne K (.ref x_NoFit) (.ref x_NotSteered)=some false)
  (ki_NoFit_NotSeen:PySem.W.kitOne K (.ref x_NoFit) (.ref x_NotSeen)=some false)
  (ki_NoFit_NoText:PySem.W.kitOne K (.ref x_NoFit) (.ref x_NoText)=some false)
  (ki_NoFit_NoName:PySem.W.kitOne K (.ref x_NoFit) (.ref x_NoName)=some false)
  (ki_NoFit_Taken:PySem.W.kitOne K (.ref x_NoFit) (.ref x_Taken)=some false)
  (ki_NoFit_ValueError:PySem.W.kitOne K (.ref x_NoFit) (.type "ValueError")=some true)
  (ki_NotSteered_SumError:PySem.W.kitOne K (.ref x_NotSteered) (.ref x_SumError)=some true)
  (ki_NotSteered_Wrong:PySem.W.kitOne K (.ref x_NotSteered) (.ref x_Wrong)=some false)
  (ki_NotSteered_NoThing:PySem.W.kitOne K (.ref x_NotSteered) (.ref x_NoThing)=some false)
  (ki_NotSteered_TooMany:PySem.W.kitOne K (.ref x_NotSteered) (.ref x_TooMany)=some false)
  (ki_NotSteered_NoNumber:PySem.W.kitOne K (.ref x_NotSteered) (.ref x_NoNumber)=some false)
  (ki_NotSteered_NoFit:PySem.W.kitOne K (.ref x_NotSteered) (.ref x_NoFit)=some false)
  (ki_NotSteered_NotSteered:PySem.W.kitOne K (.ref x_NotSteered) (.ref x_NotSteered)=some true)
  (ki_NotSteered_NotSeen:PySem.W.kitOne K (.ref x_NotSteered) (.ref x_NotSeen)=some false)
  (ki_NotSteered_NoText:PySem.W.kitOne K (.ref x_NotSteered) (.ref x_NoText)=some false)
  (ki_NotSteered_NoName:PySem.W.kitOne K (.ref x_NotSteered) (.ref x_NoName)=some false)
  (ki_NotSteered_Taken:PySem.W.kitOne K (.ref x_NotSteered) (.ref x_Taken)=some false)
  (ki_NotSteered_ValueError:PySem.W.kitOne K (.ref x_NotSteered) (.type "ValueError")=some true)
  (ki_NotSeen_SumError:PySem.W.kitOne K (.ref x_NotSeen) (.ref x_SumError)=some true)
  (ki_NotSeen_Wrong:PySem.W.kitOne K (.ref x_NotSeen) (.ref x_Wrong)=some false)
  (ki_NotSeen_NoThing:PySem.W.kitOne K (.ref x_NotSeen) (.ref x_NoThing)=some false)
  (ki_NotSeen_TooMany:PySem.W.kitOne K (.ref x_NotSeen) (.ref x_TooMany)=some false)
  (ki_NotSeen_NoNumber:PySem.W.kitOne K (.ref x_NotSeen) (.ref x_NoNumber)=some false)
  (ki_NotSeen_NoFit:PySem.W.kitOne K (.ref x_NotSeen) (.ref x_NoFit)=some false)
  (ki_NotSeen_NotSteered:PySem.W.kitOne K (.ref x_NotSeen) (.ref x_NotSteered)=some false)
  (ki_NotSeen_NotSeen:PySem.W.kitOne K (.ref x_NotSeen) (.ref x_NotSeen)=some true)
  (ki_NotSeen_NoText:PySem.W.kitOne K (.ref x_NotSeen) (.ref x_NoText)=some false)
  (ki_NotSeen_NoName:PySem.W.kitOne K (.ref x_NotSeen) (.ref x_NoName)=some false)
  (ki_NotSeen_Taken:PySem.W.kitOne K (.ref x_NotSeen) (.ref x_Taken)=some false)
  (ki_NotSeen_ValueError:PySem.W.kitOne K (.ref x_NotSeen) (.type "ValueError")=some true)
  (ki_NoText_SumError:PySem.W.kitOne K (.ref x_NoText) (.ref x_SumError)=some true)
  (ki_NoText_Wrong:PySem.W.kitOne K (.ref x_NoText) (.ref x_Wrong)=some false)
  (ki_NoText_NoThing:PySem.W.kitOne K (.ref x_NoText) (.ref x_NoThing)=some false)
  (ki_NoText_TooMany:PySem.W.kitOne K (.ref x_NoText) (.ref x_TooMany)=some false)
  (ki_NoText_NoNumber:PySem.W.kitOne K (.ref x_NoText) (.ref x_NoNumber)=some false)
  (ki_NoText_NoFit:PySem.W.kitOne K (.ref x_NoText) (.ref x_NoFit)=some false)
  (ki_NoText_NotSteered:PySem.W.kitOne K (.ref x_NoText) (.ref x_NotSteered)=some false)
  (ki_NoText_NotSeen:PySem.W.kitOne K (.ref x_NoText) (.ref x_NotSeen)=some false)
  (ki_NoText_NoText:PySem.W.kitOne K (.ref x_NoText) (.ref x_NoText)=some true)
  (ki_NoText_NoName:PySem.W.kitOne K (.ref x_NoText) (.ref x_NoName)=some false)
  (ki_NoText_Taken:PySem.W.kitOne K (.ref x_NoText) (.ref x_Taken)=some false)
  (ki_NoText_ValueError:PySem.W.kitOne K (.ref x_NoText) (.type "ValueError")=some true)
  (ki_NoName_SumError:PySem.W.kitOne K (.ref x_NoName) (.ref x_SumError)=some true)
  (ki_NoName_Wrong:PySem.W.kitOne K (.ref x_NoName) (.ref x_Wrong)=some false)
  (ki_NoName_NoThing:PySem.W.kitOne K (.ref x_NoName) (.ref x_NoThing)=some false)
  (ki_NoName_TooMany:PySem.W.kitOne K (.ref x_NoName) (.ref x_TooMany)=some false)
  (ki_NoName_NoNumber:PySem.W.kitOne K (.ref x_NoName) (.ref x_NoNumber)=some false)
  (ki_NoName_NoFit:PySem.W.kitOne K (.ref x_NoName) (.ref x_NoFit)=some false)
  (ki_NoName_NotSteered:PySem.W.kitOne K (.ref x_NoName) (.ref x_NotSteered)=some false)
  (ki_NoName_NotSeen:PySem.W.kitOne K (.ref x_NoName) (.ref x_NotSeen)=some false)
  (ki_NoName_NoText:PySem.W.kitOne K (.ref x_NoName) (.ref x_NoText)=some false)
  (ki_NoName_NoName:PySem.W.kitOne K (.ref x_NoName) (.ref x_NoName)=some true)
  (ki_NoName_Taken:PySem.W.kitOne K (.ref x_NoName) (.ref x_Taken)=some false)
  (ki_NoName_ValueError:PySem.W.kitOne K (.ref x_NoName) (.type "ValueError")=some true)
  (ki_Taken_SumError:PySem.W.kitOne K (.ref x_Taken) (.ref x_SumError)=some true)
  (ki_Taken_Wrong:PySem.W.kitOne K (.ref x_Taken) (.ref x_Wrong)=some false)
  (ki_Taken_NoThing:PySem.W.kitOne K (.ref x_Taken) (.ref x_NoThing)=some false)
  (ki_Taken_TooMany:PySem.W.kitOne K (.ref x_Taken) (.ref x_TooMany)=some false)
  (ki_Taken_NoNumber:PySem.W.kitOne K (.ref x_Taken) (.ref x_NoNumber)=some false)
  (ki_Taken_NoFit:PySem.W.kitOne K (.ref x_Taken) (.ref x_NoFit)=some false)
  (ki_Taken_NotSteered:PySem.W.kitOne K (.ref x_Taken) (.ref x_NotSteered)=some false)
  (ki_Taken_NotSeen:PySem.W.kitOne K (.ref x_Taken) (.ref x_NotSeen)=some false)
  (ki_Taken_NoText:PySem.W.kitOne K (.ref x_Taken) (.ref x_NoText)=some false)
  (ki_Taken_NoName:PySem.W.kitOne K (.ref x_Taken) (.ref x_NoName)=some false)
  (ki_Taken_Taken:PySem.W.kitOne K (.ref x_Taken) (.ref x_Taken)=some true)
  (ki_Taken_ValueError:PySem.W.kitOne K (.ref x_Taken) (.type "ValueError")=some true)
  (ga_Wrong:PySem.W.findIn K (.ref x_Wrong) "__getattribute__"=some (some (.builtin "BaseException.__getattribute__")))
  (gt_Wrong:PySem.W.findIn K (.ref x_Wrong) "__getattr__"=some none)
  (mb_Wrong:PySem.W.mroIn K x_Wrong (.type "BaseException")=some true)
  (mo_Wrong:PySem.W.mroIn K x_Wrong (.type "object")=some true)
  (hd_Wrong:PySem.W.hasDictIn K x_Wrong=true)
  (ca_Wrong:PySem.W.findIn K (.ref x_Wrong) "__class__"=some (some (.builtin "object.__class__")))
  (ga_NoThing:PySem.W.findIn K (.ref x_NoThing) "__getattribute__"=some (some (.builtin "BaseException.__getattribute__")))
  (gt_NoThing:PySem.W.findIn K (.ref x_NoThing) "__getattr__"=some none)
  (mb_NoThing:PySem.W.mroIn K x_NoThing (.type "BaseException")=some true)
  (mo_NoThing:PySem.W.mroIn K x_NoThing (.type "object")=some true)
  (hd_NoThing:PySem.W.hasDictIn K x_NoThing=true)
  (ca_NoThing:PySem.W.findIn K (.ref x_NoThing) "__class__"=some (some (.builtin "object.__class__")))
  (ga_TooMany:PySem.W.findIn K (.ref x_TooMany) "__getattribute__"=some (some (.builtin "BaseException.__getattribute__")))
  (gt_TooMany:PySem.W.findIn K (.ref x_TooMany) "__getattr__"=some none)
  (mb_TooMany:PySem.W.mroIn K x_TooMany (.type "BaseException")=some true)
  (mo_TooMany:PySem.W.mroIn K x_TooMany (.type "object")=some true)
  (hd_TooMany:PySem.W.hasDictIn K x_TooMany=true)
  (ca_TooMany:PySem.W.findIn K (.ref x_TooMany) "__class__"=some (some (.builtin "object.__class__")))
  (ga_NoNumber:PySem.W.findIn K (.ref x_NoNumber) "__getattribute__"=some (some (.builtin "BaseException.__getattribute__")))
  (gt_NoNumber:PySem.W.findIn K (.ref x_NoNumber) "__getattr__"=some none)
  (mb_NoNumber:PySem.W.mroIn K x_NoNumber (.type "BaseException")=some true)
  (mo_NoNumber:PySem.W.mroIn K x_NoNumber (.type "object")=some true)
  (hd_NoNumber:PySem.W.hasDictIn K x_NoNumber=true)
  (ca_NoNumber:PySem.W.findIn K (.ref x_NoNumber) "__class__"=some (some (.builtin "object.__class__")))
  (ga_NoFit:PySem.W.findIn K (.ref x_NoFit) "__getattribute__"=some (some (.builtin "BaseException.__getattribute__")))
  (gt_NoFit:PySem.W.findIn K (.ref x_NoFit) "__getattr__"=some none)
  (mb_NoFit:PySem.W.mroIn K x_NoFit (.type "BaseException")=some true)
  (mo_NoFit:PySem.W.mroIn K x_NoFit (.type "object")=some true)
  (hd_NoFit:PySem.W.hasDictIn K x_NoFit=true)
  (ca_NoFit:PySem.W.findIn K (.ref x_NoFit) "__class__"=some (some (.builtin "object.__class__")))
  (ga_NotSteered:PySem.W.findIn K (.ref x_NotSteered) "__getattribute__"=some (some (.builtin "BaseException.__getattribute__")))
  (gt_NotSteered:PySem.W.findIn K (.ref x_NotSteered) "__getattr__"=some none)
  (mb_NotSteered:PySem.W.mroIn K x_NotSteered (.type "BaseException")=some true)
  (mo_NotSteered:PySem.W.mroIn K x_NotSteered (.type "object")=some true)
  (hd_NotSteered:PySem.W.hasDictIn K x_NotSteered=true)
  (ca_NotSteered:PySem.W.findIn K (.ref x_NotSteered) "__class__"=some (some (.builtin "object.__class__")))
  (ga_NotSeen:PySem.W.findIn K (.ref x_NotSeen) "__getattribute__"=some (some (.builtin "BaseException.__getattribute__")))
  (gt_NotSeen:PySem.W.findIn K (.ref x_NotSeen) "__getattr__"=some none)
  (mb_NotSeen:PySem.W.mroIn K x_NotSeen (.type "BaseException")=some true)
  (mo_NotSeen:PySem.W.mroIn K x_NotSeen (.type "object")=some true)
  (hd_NotSeen:PySem.W.hasDictIn K x_NotSeen=true)
  (ca_NotSeen:PySem.W.findIn K (.ref x_NotSeen) "__class__"=some (some (.builtin "object.__class__")))
  (ga_NoText:PySem.W.findIn K (.ref x_NoText) "__getattribute__"=some (some (.builtin "BaseException.__getattribute__")))
  (gt_NoText:PySem.W.findIn K (.ref x_NoText) "__getattr__"=some none)
  (mb_NoText:PySem.W.mroIn K x_NoText (.type "BaseException")=some true)
  (mo_NoText:PySem.W.mroIn K x_NoText (.type "object")=some true)
  (hd_NoText:PySem.W.hasDictIn K x_NoText=true)
  (ca_NoText:PySem.W.findIn K (.ref x_NoText) "__class__"=some (some (.builtin "object.__class__")))
  (ga_NoName:PySem.W.findIn K (.ref x_NoName) "__getattribute__"=some (some (.builtin "BaseException.__getattribute__")))
  (gt_NoName:PySem.W.findIn K (.ref x_NoName) "__getattr__"=some none)
  (mb_NoName:PySem.W.mroIn K x_NoName (.type "BaseException")=some true)
  (mo_NoName:PySem.W.mroIn K x_NoName (.type "object")=some true)
  (hd_NoName:PySem.W.hasDictIn K x_NoName=true)
  (ca_NoName:PySem.W.findIn K (.ref x_NoName) "__class__"=some (some (.builtin "object.__class__")))
  (ga_Taken:PySem.W.findIn K (.ref x_Taken) "__getattribute__"=some (some (.builtin "BaseException.__getattribute__")))
  (gt_Taken:PySem.W.findIn K (.ref x_Taken) "__getattr__"=some none)
  (mb_Taken:PySem.W.mroIn K x_Taken (.type "BaseException")=some true)
  (mo_Taken:PySem.W.mroIn K x_Taken (.type "object")=some true)
  (hd_Taken:PySem.W.hasDictIn K x_Taken=true)
  (ca_Taken:PySem.W.findIn K (.ref x_Taken) "__class__"=some (some (.builtin "object.__class__")))
  (sg_:PySem.W.specialIn K (.builtin "object.__class__") "__get__"=some (some (.builtin "getset_descriptor.__get__")))
  (tk_:PySem.W.takesIn K (.builtin "object.__class__")=some true)
  (z_abs:PySem.W.nsIn K mainGlobals "abs"=some none)
  (z_len:PySem.W.nsIn K mainGlobals "len"=some none)
  (z_range:PySem.W.nsIn K mainGlobals "range"=some none)
  (z_max:PySem.W.nsIn K mainGlobals "max"=some none)
  (z_isinstance:PySem.W.nsIn K mainGlobals "isinstance"=some none)
  (z_ValueError:PySem.W.nsIn K mainGlobals "ValueError"=some none)
  : ∃fd:FuncData,(∀(s:Shared) (v:Value),BindsTo s fd ⟨[v],[]⟩ [("_law_script",v)])∧∀base:Heap,K.In base->base.Ns mainGlobals mg->FnOk l.prog w K mg base CX0 5 fa fd ["_law_script"] (sp_law K):=by
 have e:=hfa.symm.trans (PySem.W.mg_of X G a16)
 cases e
 have F0:=fun_mk (st:=s__law_bag) l0 c0 k0
 have F1:=fun_mk (st:=s__law_take) l1 c1 k1
 have F2:=fun_mk (st:=s__law_low) l2 c2 k2
 have F3:=fun_mk (st:=s__law_great) l3 c3 k3
 have F4:=fun_mk (st:=s__law_top) l4 c4 k4
 have F5:=fun_mk (st:=s__law_any) l5 c5 k5
 have F6:=fun_mk (st:=s_Wrong___init__) l6 c6 k6
 have F7:=fun_mk (st:=s_NoThing___init__) l7 c7 k7
 have F8:=fun_mk (st:=s_TooMany___init__) l8 c8 k8
 have F9:=fun_mk (st:=s_NotSteered___init__) l9 c9 k9
 have F10:=fun_mk (st:=s_NotSeen___init__) l10 c10 k10
 have F11:=fun_mk (st:=s_NoName___init__) l11 c11 k11
 have F12:=fun_mk (st:=s_Taken___init__) l12 c12 k12
 have F13:=fun_mk (st:=s__law_raised) l13 c13 k13
 have F14:=fun_mk (st:=s__law_caught) l14 c14 k14
 have F15:=fun_mk (st:=s__law_kinds) l15 c15 k15
 have F16:=fun_mk (st:=s_law) l16 c16 k16
 have T:Txt K mg { a__law_bag:=f0,d__law_bag:=_,a__law_take:=f1,d__law_take:=_,a__law_low:=f2,d__law_low:=_,a__law_great:=f3,d__law_great:=_,a__law_top:=f4,d__law_top:=_,a__law_any:=f5,d__law_any:=_,a_Wrong___init__:=f6,d_Wrong___init__:=_,a_NoThing___init__:=f7,d_NoThing___init__:=_,a_TooMany___init__:=f8,d_TooMany___init__:=_,a_NotSteered___init__:=f9,d_NotSteered___init__:=_,a_NotSeen___init__:=f10,d_NotSeen___init__:=_,a_NoName___init__:=f11,d_NoName___init__:=_,a_Taken___init__:=f12,d_Taken___init__:=_,a__law_raised:=f13,d__law_raised:=_,a__law_caught:=f14,d__law_caught:=_,a__law_kinds:=f15,d__law_kinds:=_,a_law:=fa,d_law:=_,a_SumError:=x_SumError,a_Wrong:=x_Wrong,a_NoThing:=x_NoThing,a_TooMany:=x_TooMany,a_NoNumber:=x_NoNumber,a_NoFit:=x_NoFit,a_NotSteered:=x_NotSteered,a_NotSeen:=x_NotSeen,a_NoText:=x_NoText,a_NoName:=x_NoName,a_Taken:=x_Taken }:={
  mg__law_bag:=PySem.W.mg_of X G a0
  b__law_bag:=F0.binds (ps:=["_law_script"]) fun _ _ _ _ _ _=>by refine ln1 ?_;intros;rfl
  F__law_bag:=F0
  mg__law_take:=PySem.W.mg_of X G a1
  b__law_take:=F1.binds (ps:=["_law_bag_here","_law_many"]) fun _ _ _ _ _ _=>by refine ln2 ?_;intros;rfl
  F__law_take:=F1
  mg__law_low:=PySem.W.mg_of X G a2
  b__law_low:=F2.binds (ps:=["_law_top_here","_law_bottom"]) fun _ _ _ _ _ _=>by refine ln2 ?_;intros;rfl
  F__law_low:=F2
  mg__law_great:=PySem.W.mg_of X G a3
  b__law_great:=F3.binds (ps:=["_law_bag_here"]) fun _ _ _ _ _ _=>by refine ln1 ?_;intros;rfl
  F__law_great:=F3
  mg__law_top:=PySem.W.mg_of X G a4
  b__law_top:=F4.binds (ps:=["_law_bag_here"]) fun _ _ _ _ _ _=>by refine ln1 ?_;intros;rfl
  F__law_top:=F4
  mg__law_any:=PySem.W.mg_of X G a5
  b__law_any:=F5.binds (ps:=["_law_bag_here"]) fun _ _ _ _ _ _=>by refine ln1 ?_;intros;rfl
  F__law_any:=F5
  b_Wrong___init__:=F6.binds (ps:=["self","at"]) fun _ _ _ _ _ _=>by refine ln2 ?_;intros;rfl
  F_Wrong___init__:=F6
  b_NoThing___init__:=F7.binds (ps:=["self","at"]) fun _ _ _ _ _ _=>by refine ln2 ?_;intros;rfl
  F_NoThing___init__:=F7
  b_TooMany___init__:=F8.binds (ps:=["self","most"]) fun _ _ _ _ _ _=>by refine ln2 ?_;intros;rfl
  F_TooMany___init__:=F8
  b_NotSteered___init__:=F9.binds (ps:=["self","price"]) fun _ _ _ _ _ _=>by refine ln2 ?_;intros;rfl
  F_NotSteered___init__:=F9
  b_NotSeen___init__:=F10.binds (ps:=["self","state"]) fun _ _ _ _ _ _=>by refine ln2 ?_;intros;rfl
  F_NotSeen___init__:=F10
  b_NoName___init__:=F11.binds (ps:=["self","name"]) fun _ _ _ _ _ _=>by refine ln2 ?_;intros;rfl
  F_NoName___init__:=F11
  b_Taken___init__:=F12.binds (ps:=["self","name"]) fun _ _ _ _ _ _=>by refine ln2 ?_;intros;rfl
  F_Taken___init__:=F12
  mg__law_raised:=PySem.W.mg_of X G a13
  b__law_raised:=F13.binds (ps:=["_law_which","_law_held"]) fun _ _ _ _ _ _=>by refine ln2 ?_;intros;rfl
  F__law_raised:=F13
  mg__law_caught:=PySem.W.mg_of X G a14
  b__law_caught:=F14.binds (ps:=["_law_which","_law_held"]) fun _ _ _ _ _ _=>by refine ln2 ?_;intros;rfl
  F__law_caught:=F14
  mg__law_kinds:=PySem.W.mg_of X G a15
  b__law_kinds:=F15.binds (ps:=["_law_e"]) fun _ _ _ _ _ _=>by refine ln1 ?_;intros;rfl
  F__law_kinds:=F15
  F_law:=F16
  abs:=PySem.W.mg_none_of X G z_abs
  len:=PySem.W.mg_none_of X G z_len
  range:=PySem.W.mg_none_of X G z_range
  max:=PySem.W.mg_none_of X G z_max
  isinstance:=PySem.W.mg_none_of X G z_isinstance
  ValueError:=PySem.W.mg_none_of X G z_ValueError
  mg_SumError:=PySem.W.mg_of X G xa_SumError
  mg_Wrong:=PySem.W.mg_of X G xa_Wrong
  mg_NoThing:=PySem.W.mg_of X G xa_NoThing
  mg_TooMany:=PySem.W.mg_of X G xa_TooMany
  mg_NoNumber:=PySem.W.mg_of X G xa_NoNumber
  mg_NoFit:=PySem.W.mg_of X G xa_NoFit
  mg_NotSteered:=PySem.W.mg_of X G xa_NotSteered
  mg_NotSeen:=PySem.W.mg_of X G xa_NotSeen
  mg_NoText:=PySem.W.mg_of X G xa_NoText
  mg_NoName:=PySem.W.mg_of X G xa_NoName
  mg_Taken:=PySem.W.mg_of X G xa_Taken
  ex_NoNumber:=xe_NoNumber
  ex_NoFit:=xe_NoFit
  ex_NoText:=xe_NoText
  ex_SumError:=xe_SumError
  xm_Wrong_Wrong:=xm_Wrong_Wrong
  xm_Wrong_NoThing:=xm_Wrong_NoThing
  xm_Wrong_TooMany:=xm_Wrong_TooMany
  xm_Wrong_NoNumber:=xm_Wrong_NoNumber
  xm_Wrong_NoFit:=xm_Wrong_NoFit
  xm_Wrong_NotSteered:=xm_Wrong_NotSteered
  xm_Wrong_NotSeen:=xm_Wrong_NotSeen
  xm_Wrong_NoText:=xm_Wrong_NoText
  xm_Wrong_NoName:=xm_Wrong_NoName
  xm_Wrong_Taken:=xm_Wrong_Taken
  xm_NoThing_Wrong:=xm_NoThing_Wrong
  xm_NoThing_NoThing:=xm_NoThing_NoThing
  xm_NoThing_TooMany:=xm_NoThing_TooMany
  xm_NoThing_NoNumber:=xm_NoThing_NoNumber
  xm_NoThing_NoFit:=xm_NoThing_NoFit
  xm_NoThing_NotSteered:=xm_NoThing_NotSteered
  xm_NoThing_NotSeen:=xm_NoThing_NotSeen
  xm_NoThing_NoText:=xm_NoThing_NoText
  xm_NoThing_NoName:=xm_NoThing_NoName
  xm_NoThing_Taken:=xm_NoThing_Taken
  xm_TooMany_Wrong:=xm_TooMany_Wrong
  xm_TooMany_NoThing:=xm_TooMany_NoThing
  xm_TooMany_TooMany:=xm_TooMany_TooMany
  xm_TooMany_NoNumber:=xm_TooMany_NoNumber
  xm_TooMany_NoFit:=xm_TooMany_NoFit
  xm_TooMany_NotSteered:=xm_TooMany_NotSteered
  xm_TooMany_NotSeen:=xm_TooMany_NotSeen
  xm_TooMany_NoText:=xm_TooMany_NoText
  xm_TooMany_NoName:=xm_TooMany_NoName
  xm_TooMany_Taken:=xm_TooMany_Taken
  xm_NoNumber_Wrong:=xm_NoNumber_Wrong
  xm_NoNumber_NoThing:=xm_NoNumber_NoThing
  xm_NoNumber_TooMany:=xm_NoNumber_TooMany
  xm_NoNumber_NoNumber:=xm_NoNumber_NoNumber
  xm_NoNumber_NoFit:=xm_NoNumber_NoFit
  xm_NoNumber_NotSteered:=xm_NoNumber_NotSteered
  xm_NoNumber_NotSeen:=xm_NoNumber_NotSeen
  xm_NoNumber_NoText:=xm_NoNumber_NoText
  xm_NoNumber_NoName:=xm_NoNumber_NoName
  xm_NoNumber_Taken:=xm_NoNumber_Taken
  xm_NoFit_Wrong:=xm_NoFit_Wrong
  xm_NoFit_NoThing:=xm_NoFit_NoThing
  xm_NoFit_TooMany:=xm_NoFit_TooMany
  xm_NoFit_NoNumber:=xm_NoFit_NoNumber
  xm_NoFit_NoFit:=xm_NoFit_NoFit
  xm_NoFit_NotSteered:=xm_NoFit_NotSteered
  xm_NoFit_NotSeen:=xm_NoFit_NotSeen
  xm_NoFit_NoText:=xm_NoFit_NoText
  xm_NoFit_NoName:=xm_NoFit_NoName
  xm_NoFit_Taken:=xm_NoFit_Taken
  xm_NotSteered_Wrong:=xm_NotSteered_Wrong
  xm_NotSteered_NoThing:=xm_NotSteered_NoThing
  xm_NotSteered_TooMany:=xm_NotSteered_TooMany
  xm_NotSteered_NoNumber:=xm_NotSteered_NoNumber
  xm_NotSteered_NoFit:=xm_NotSteered_NoFit
  xm_NotSteered_NotSteered:=xm_NotSteered_NotSteered
  xm_NotSteered_NotSeen:=xm_NotSteered_NotSeen
  xm_NotSteered_NoText:=xm_NotSteered_NoText
  xm_NotSteered_NoName:=xm_NotSteered_NoName
  xm_NotSteered_Taken:=xm_NotSteered_Taken
  xm_NotSeen_Wrong:=xm_NotSeen_Wrong
  xm_NotSeen_NoThing:=xm_NotSeen_NoThing
  xm_NotSeen_TooMany:=xm_NotSeen_TooMany
  xm_NotSeen_NoNumber:=xm_NotSeen_NoNumber
  xm_NotSeen_NoFit:=xm_NotSeen_NoFit
  xm_NotSeen_NotSteered:=xm_NotSeen_NotSteered
  xm_NotSeen_NotSeen:=xm_NotSeen_NotSeen
  xm_NotSeen_NoText:=xm_NotSeen_NoText
  xm_NotSeen_NoName:=xm_NotSeen_NoName
  xm_NotSeen_Taken:=xm_NotSeen_Taken
  xm_NoText_Wrong:=xm_NoText_Wrong
  xm_NoText_NoThing:=xm_NoText_NoThing
  xm_NoText_TooMany:=xm_NoText_TooMany
  xm_NoText_NoNumber:=xm_NoText_NoNumber
  xm_NoText_NoFit:=xm_NoText_NoFit
  xm_NoText_NotSteered:=xm_NoText_NotSteered
  xm_NoText_NotSeen:=xm_NoText_NotSeen
  xm_NoText_NoText:=xm_NoText_NoText
  xm_NoText_NoName:=xm_NoText_NoName
  xm_NoText_Taken:=xm_NoText_Taken
  xm_NoName_Wrong:=xm_NoName_Wrong
  xm_NoName_NoThing:=xm_NoName_NoThing
  xm_NoName_TooMany:=xm_NoName_TooMany
  xm_NoName_NoNumber:=xm_NoName_NoNumber
  xm_NoName_NoFit:=xm_NoName_NoFit
  xm_NoName_NotSteered:=xm_NoName_NotSteered
  xm_NoName_NotSeen:=xm_NoName_NotSeen
  xm_NoName_NoText:=xm_NoName_NoText
  xm_NoName_NoName:=xm_NoName_NoName
  xm_NoName_Taken:=xm_NoName_Taken
  xm_Taken_Wrong:=xm_Taken_Wrong
  xm_Taken_NoThing:=xm_Taken_NoThing
  xm_Taken_TooMany:=xm_Taken_TooMany
  xm_Taken_NoNumber:=xm_Taken_NoNumber
  xm_Taken_NoFit:=xm_Taken_NoFit
  xm_Taken_NotSteered:=xm_Taken_NotSteered
  xm_Taken_NotSeen:=xm_Taken_NotSeen
  xm_Taken_NoText:=xm_Taken_NoText
  xm_Taken_NoName:=xm_Taken_NoName
  xm_Taken_Taken:=xm_Taken_Taken
  ki_Wrong_SumError:=ki_Wrong_SumError
  ki_Wrong_Wrong:=ki_Wrong_Wrong
  ki_Wrong_NoThing:=ki_Wrong_NoThing
  ki_Wrong_TooMany:=ki_Wrong_TooMany
  ki_Wrong_NoNumber:=ki_Wrong_NoNumber
  ki_Wrong_NoFit:=ki_Wrong_NoFit
  ki_Wrong_NotSteered:=ki_Wrong_NotSteered
  ki_Wrong_NotSeen:=ki_Wrong_NotSeen
  ki_Wrong_NoText:=ki_Wrong_NoText
  ki_Wrong_NoName:=ki_Wrong_NoName
  ki_Wrong_Taken:=ki_Wrong_Taken
  ki_Wrong_ValueError:=ki_Wrong_ValueError
  ki_NoThing_SumError:=ki_NoThing_SumError
  ki_NoThing_Wrong:=ki_NoThing_Wrong
  ki_NoThing_NoThing:=ki_NoThing_NoThing
  ki_NoThing_TooMany:=ki_NoThing_TooMany
  ki_NoThing_NoNumber:=ki_NoThing_NoNumber
  ki_NoThing_NoFit:=ki_NoThing_NoFit
  ki_NoThing_NotSteered:=ki_NoThing_NotSteered
  ki_NoThing_NotSeen:=ki_NoThing_NotSeen
  ki_NoThing_NoText:=ki_NoThing_NoText
  ki_NoThing_NoName:=ki_NoThing_NoName
  ki_NoThing_Taken:=ki_NoThing_Taken
  ki_NoThing_ValueError:=ki_NoThing_ValueError
  ki_TooMany_SumError:=ki_TooMany_SumError
  ki_TooMany_Wrong:=ki_TooMany_Wrong
  ki_TooMany_NoThing:=ki_TooMany_NoThing
  ki_TooMany_TooMany:=ki_TooMany_TooMany
  ki_TooMany_NoNumber:=ki_TooMany_NoNumber
  ki_TooMany_NoFit:=ki_TooMany_NoFit
  ki_TooMany_NotSteered:=ki_TooMany_NotSteered
  ki_TooMany_NotSeen:=ki_TooMany_NotSeen
  ki_TooMany_NoText:=ki_TooMany_NoText
  ki_TooMany_NoName:=ki_TooMany_NoName
  ki_TooMany_Taken:=ki_TooMany_Taken
  ki_TooMany_ValueError:=ki_TooMany_ValueError
  ki_NoNumber_SumError:=ki_NoNumber_SumError
  ki_NoNumber_Wrong:=ki_NoNumber_Wrong
  ki_NoNumber_NoThing:=ki_NoNumber_NoThing
  ki_NoNumber_TooMany:=ki_NoNumber_TooMany
  ki_NoNumber_NoNumber:=ki_NoNumber_NoNumber
  ki_NoNumber_NoFit:=ki_NoNumber_NoFit
  ki_NoNumber_NotSteered:=ki_NoNumber_NotSteered
  ki_NoNumber_NotSeen:=ki_NoNumber_NotSeen
  ki_NoNumber_NoText:=ki_NoNumber_NoText
  ki_NoNumber_NoName:=ki_NoNumber_NoName
  ki_NoNumber_Taken:=ki_NoNumber_Taken
  ki_NoNumber_ValueError:=ki_NoNumber_ValueError
  ki_NoFit_SumError:=ki_NoFit_SumError
  ki_NoFit_Wrong:=ki_NoFit_Wrong
  ki_NoFit_NoThing:=ki_NoFit_NoThing
  ki_NoFit_TooMany:=ki_NoFit_TooMany
  ki_NoFit_NoNumber:=ki_NoFit_NoNumber
  ki_NoFit_NoFit:=ki_NoFit_NoFit
  ki_NoFit_NotSteered:=ki_NoFit_NotSteered
  ki_NoFit_NotSeen:=ki_NoFit_NotSeen
  ki_NoFit_NoText:=ki_NoFit_NoText
  ki_NoFit_NoName:=ki_NoFit_NoName
  ki_NoFit_Taken:=ki_NoFit_Taken
  ki_NoFit_ValueError:=ki_NoFit_ValueError
  ki_NotSteered_SumError:=ki_NotSteered_SumError
  ki_NotSteered_Wrong:=ki_NotSteered_Wrong
  ki_NotSteered_NoThing:=ki_NotSteered_NoThing
  ki_NotSteered_TooMany:=ki_NotSteered_TooMany
  ki_NotSteered_NoNumber:=ki_NotSteered_NoNumber
  ki_NotSteered_NoFit:=ki_NotSteered_NoFit
  ki_NotSteered_NotSteered:=ki_NotSteered_NotSteered
  ki_NotSteered_NotSeen:=ki_NotSteered_NotSeen
  ki_NotSteered_NoText:=ki_NotSteered_NoText
  ki_NotSteered_NoName:=ki_NotSteered_NoName
  ki_NotSteered_Taken:=ki_NotSteered_Taken
  ki_NotSteered_ValueError:=ki_NotSteered_ValueError
  ki_NotSeen_SumError:=ki_NotSeen_SumError
  ki_NotSeen_Wrong:=ki_NotSeen_Wrong
  ki_NotSeen_NoThing:=ki_NotSeen_NoThing
  ki_NotSeen_TooMany:=ki_NotSeen_TooMany
  ki_NotSeen_NoNumber:=ki_NotSeen_NoNumber
  ki_NotSeen_NoFit:=ki_NotSeen_NoFit
  ki_NotSeen_NotSteered:=ki_NotSeen_NotSteered
  ki_NotSeen_NotSeen:=ki_NotSeen_NotSeen
  ki_NotSeen_NoText:=ki_NotSeen_NoText
  ki_NotSeen_NoName:=ki_NotSeen_NoName
  ki_NotSeen_Taken:=ki_NotSeen_Taken
  ki_NotSeen_ValueError:=ki_NotSeen_ValueError
  ki_NoText_SumError:=ki_NoText_SumError
  ki_NoText_Wrong:=ki_NoText_Wrong
  ki_NoText_NoThing:=ki_NoText_NoThing
  ki_NoText_TooMany:=ki_NoText_TooMany
  ki_NoText_NoNumber:=ki_NoText_NoNumber
  ki_NoText_NoFit:=ki_NoText_NoFit
  ki_NoText_NotSteered:=ki_NoText_NotSteered
  ki_NoText_NotSeen:=ki_NoText_NotSeen
  ki_NoText_NoText:=ki_NoText_NoText
  ki_NoText_NoName:=ki_NoText_NoName
  ki_NoText_Taken:=ki_NoText_Taken
  ki_NoText_ValueError:=ki_NoText_ValueError
  ki_NoName_SumError:=ki_NoName_SumError
  ki_NoName_Wrong:=ki_NoName_Wrong
  ki_NoName_NoThing:=ki_NoName_NoThing
  ki_NoName_TooMany:=ki_NoName_TooMany
  ki_NoName_NoNumber:=ki_NoName_NoNumber
  ki_NoName_NoFit:=ki_NoName_NoFit
  ki_NoName_NotSteered:=ki_NoName_NotSteered
  ki_NoName_NotSeen:=ki_NoName_NotSeen
  ki_NoName_NoText:=ki_NoName_NoText
  ki_NoName_NoName:=ki_NoName_NoName
  ki_NoName_Taken:=ki_NoName_Taken
  ki_NoName_ValueError:=ki_NoName_ValueError
  ki_Taken_SumError:=ki_Taken_SumError
  ki_Taken_Wrong:=ki_Taken_Wrong
  ki_Taken_NoThing:=ki_Taken_NoThing
  ki_Taken_TooMany:=ki_Taken_TooMany
  ki_Taken_NoNumber:=ki_Taken_NoNumber
  ki_Taken_NoFit:=ki_Taken_NoFit
  ki_Taken_NotSteered:=ki_Taken_NotSteered
  ki_Taken_NotSeen:=ki_Taken_NotSeen
  ki_Taken_NoText:=ki_Taken_NoText
  ki_Taken_NoName:=ki_Taken_NoName
  ki_Taken_Taken:=ki_Taken_Taken
  ki_Taken_ValueError:=ki_Taken_ValueError
  xi_Wrong:=⟨⟨_,_,_,_,_,_,_,lx_Wrong,rfl,rfl⟩,xe_SumError,sa_Wrong,⟨ga_Wrong,gt_Wrong,mb_Wrong,mo_Wrong,hd_Wrong,ca_Wrong,sg_,tk_⟩⟩
  in_Wrong:=a6
  fn_Wrong:=beq_iff_eq.mp i6
  kp_Wrong:=kp_Wrong
  nt_Wrong:=nt_Wrong
  xi_NoThing:=⟨⟨_,_,_,_,_,_,_,lx_NoThing,rfl,rfl⟩,xe_SumError,sa_NoThing,⟨ga_NoThing,gt_NoThing,mb_NoThing,mo_NoThing,hd_NoThing,ca_NoThing,sg_,tk_⟩⟩
  in_NoThing:=a7
  fn_NoThing:=beq_iff_eq.mp i7
  kp_NoThing:=kp_NoThing
  nt_NoThing:=nt_NoThing
  xi_TooMany:=⟨⟨_,_,_,_,_,_,_,lx_TooMany,rfl,rfl⟩,xe_SumError,sa_TooMany,⟨ga_TooMany,gt_TooMany,mb_TooMany,mo_TooMany,hd_TooMany,ca_TooMany,sg_,tk_⟩⟩
  in_TooMany:=a8
  fn_TooMany:=beq_iff_eq.mp i8
  kp_TooMany:=kp_TooMany
  nt_TooMany:=nt_TooMany
  xi_NotSteered:=⟨⟨_,_,_,_,_,_,_,lx_NotSteered,rfl,rfl⟩,xe_SumError,sa_NotSteered,⟨ga_NotSteered,gt_NotSteered,mb_NotSteered,mo_NotSteered,hd_NotSteered,ca_NotSteered,sg_,tk_⟩⟩
  in_NotSteered:=a9
  fn_NotSteered:=beq_iff_eq.mp i9
  kp_NotSteered:=kp_NotSteered
  nt_NotSteered:=nt_NotSteered
  xi_NotSeen:=⟨⟨_,_,_,_,_,_,_,lx_NotSeen,rfl,rfl⟩,xe_SumError,sa_NotSeen,⟨ga_NotSeen,gt_NotSeen,mb_NotSeen,mo_NotSeen,hd_NotSeen,ca_NotSeen,sg_,tk_⟩⟩
  in_NotSeen:=a10
  fn_NotSeen:=beq_iff_eq.mp i10
  kp_NotSeen:=kp_NotSeen
  nt_NotSeen:=nt_NotSeen
  xi_NoName:=⟨⟨_,_,_,_,_,_,_,lx_NoName,rfl,rfl⟩,xe_SumError,sa_NoName,⟨ga_NoName,gt_NoName,mb_NoName,mo_NoName,hd_NoName,ca_NoName,sg_,tk_⟩⟩
  in_NoName:=a11
  fn_NoName:=beq_iff_eq.mp i11
  kp_NoName:=kp_NoName
  nt_NoName:=nt_NoName
  xi_Taken:=⟨⟨_,_,_,_,_,_,_,lx_Taken,rfl,rfl⟩,xe_SumError,sa_Taken,⟨ga_Taken,gt_Taken,mb_Taken,mo_Taken,hd_Taken,ca_Taken,sg_,tk_⟩⟩
  in_Taken:=a12
  fn_Taken:=beq_iff_eq.mp i12
  kp_Taken:=kp_Taken
  nt_Taken:=nt_Taken
  xc_Wrong:=⟨ga_Wrong,gt_Wrong,mb_Wrong,mo_Wrong,hd_Wrong,ca_Wrong,sg_,tk_⟩
  xc_NoThing:=⟨ga_NoThing,gt_NoThing,mb_NoThing,mo_NoThing,hd_NoThing,ca_NoThing,sg_,tk_⟩
  xc_TooMany:=⟨ga_TooMany,gt_TooMany,mb_TooMany,mo_TooMany,hd_TooMany,ca_TooMany,sg_,tk_⟩
  xc_NoNumber:=⟨ga_NoNumber,gt_NoNumber,mb_NoNumber,mo_NoNumber,hd_NoNumber,ca_NoNumber,sg_,tk_⟩
  xc_NoFit:=⟨ga_NoFit,gt_NoFit,mb_NoFit,mo_NoFit,hd_NoFit,ca_NoFit,sg_,tk_⟩
  xc_NotSteered:=⟨ga_NotSteered,gt_NotSteered,mb_NotSteered,mo_NotSteered,hd_NotSteered,ca_NotSteered,sg_,tk_⟩
  xc_NotSeen:=⟨ga_NotSeen,gt_NotSeen,mb_NotSeen,mo_NotSeen,hd_NotSeen,ca_NotSeen,sg_,tk_⟩
  xc_NoText:=⟨ga_NoText,gt_NoText,mb_NoText,mo_NoText,hd_NoText,ca_NoText,sg_,tk_⟩
  xc_NoName:=⟨ga_NoName,gt_NoName,mb_NoName,mo_NoName,hd_NoName,ca_NoName,sg_,tk_⟩
  xc_Taken:=⟨ga_Taken,gt_Taken,mb_Taken,mo_Taken,hd_Taken,ca_Taken,sg_,tk_⟩ }
 exact ⟨_,fun s v=>.of_eq rfl,fun base _ _=>ok_law T⟩
theorem walk {l:PySem.W.OpenLaw} {q:Program} {loose:List Str} {XP:(Str->Option Value)->Heap->Prop} {YP:World->Heap->Prop} {d:DefRec} {K:Params->PySem.W.Frag} (hn:l.most=some 63) (hdf:d.params.defaults=[])
  (hY:∀(w:World) (h:Heap),YP w h->(K w.params).In h)
  (F:∀(w:World) (mg:Str->Option Value) (fa:Addr) (h:Heap),(K w.params).In h->h.Ns mainGlobals mg->mg d.name=some (.ref fa) →
   ∃fd:FuncData,(∀(s:Shared) (u:Value),BindsTo s fd ⟨[u],[]⟩ [("_law_script",u)])∧∀base:Heap,(K w.params).In base->base.Ns mainGlobals mg->FnOk l.prog w (K w.params) mg base CX0 5 fa fd ["_law_script"] (sp_law (K w.params))) :
  PySem.W.WalkO q loose XP YP l.row.toRowW d [] (fun f vs=>PySem.call f vs) :=
 L2.walk_of (n:=63) (k:=5) (x:="_law_script") (CX:=fun _=>CX0) (sp:=fun w=>sp_law (K w.params)) hn (by decide) hdf ⟨rfl,by decide,by decide⟩ hY F (fun _ _ a ns hl _ hS=>⟨a,ns,rfl,hS,hl,fun _=>rfl⟩) fun _ _ _ _ _ z=>z
end Lw
namespace PySem.W.Fast
def tw13443760834603610108:=()
def tw6492872086881336398:=()
def tw9890739936456710931:=()
def tw17099702098872859433:=()
def tw15327312884948807297:=()
def tw12864473335752802009:=()
def tw1966193566202245905:=()
def tw14801152502515878415:=()
def tw3768151162569750225:=()
def tw6659947174399152813:=()
def tw8745102087104936550:=()
def tw6370198818269473876:=()
def tw10319815499280950511:=()
def tw12791458065850376459:=()
def tw6304715447464038727:=()
def tw8267864445078910851:=()
def tw14161285873474254042:=()
def tw15906104126094481160:=()
def tw3187205398671740508:=()
def tw16099610368935775868:=()
def tw4599123976854633259:=()
def tw7053059186907180421:=()
def tw332694766162652535:=()
def tw4997813869008951843:=()
def tw395489894310304614:=()
def tw9916532960546575416:=()
def tw12403169462162185208:=()
def tw9051890091614393458:=()
def tw7699692175124013751:=()
def tw9941594699285433200:=()
def tw14713673126254640305:=()
def tw8402837858562705567:=()
def tw4639175340748021223:=()
def tw14092585429506058259:=()
def tw9813755746490954510:=()
def tw10217113742987964020:=()
def tw7966341671844022892:=()
def tw9667366955697683531:=()
def tw12429516717170051020:=()
def tw17169816025544935409:=()
def tw12629465044212146353:=()
def tw10949721669636001640:=()
def tw14322585516219073169:=()
def tw15282443435010368119:=()
def tw3477136437921118359:=()
def tw15871371885396415534:=()
def tw2631552612979518888:=()
def tw5829373149654318200:=()
def tw7140787328679535379:=()
def tw3757849686549164355:=()
def tw1081264899996093147:=()
def tw2590377928682592586:=()
def tw10809971017359551035:=()
def tw3771125569616733971:=()
def tw11146951128169691532:=()
def tw14395962008493698065:=()
def tw15917136971467933053:=()
def tw8913946138159194024:=()
def tw9856645103742352826:=()
def tw4065715089768236640:=()
def tw15432321677735497752:=()
def tw280480847686744748:=()
def tw7940490820128929046:=()
def tw6833677213730224781:=()
def tw17684296744590804527:=()
def tw5260233127202745198:=()
def tw16649665701814076712:=()
def tw1975113419656244928:=()
def tw14428822961541332488:=()
def tw16226059867463001976:=()
def tw1600054708507437256:=()
def tw1601271210796220109:=()
def tw524038496941567759:=()
def tw13301061956967669099:=()
def tw9375873814199417376:=()
def tw14644349177387931143:=()
def tw10533587918530249152:=()
def tw8245090115613165534:=()
def tw17715018294721366173:=()
def tw14461024510882005239:=()
def tw10042025328342044889:=()
def tw10037514846594613003:=()
def tw8826787048835390889:=()
def tw18377463726168381164:=()
def tw1772736555392382777:=()
def tw2973143830134415217:=()
def tw5264230663364143837:=()
def tw10463948886409119566:=()
def tw1468009488448785611:=()
def tw5970882443760603033:=()
def tw5998353811608804555:=()
def tw17813149237543917105:=()
def tw12198600644765683357:=()
def tw131417258206641927:=()
def tw1292505131453822076:=()
def tw13351549678930879012:=()
def tw9495480726673928007:=()
def tw8916526943938627319:=()
def tw15651218702756173847:=()
def tw4902602398371019057:=()
def tw17519336220746895127:=()
def tw6148117597637686141:=()
def tw11601558566928281450:=()
def tw3564935308479459594:=()
def tw5036087546151727985:=()
def tw15715230726788134291:=()
def tw18250452497784881814:=()
def tw9952600849680107754:=()
def tw9585963851323117501:=()
def tw12790203103673350663:=()
def tw10473495707850546506:=()
def tw5840354864456593920:=()
def tw147563860101927876:=()
def tw13806383178876497117:=()
def tw4328675975954789306:=()
def tw14127008869215444924:=()
def tw16603740988735505996:=()
def tw14566322309182133392:=()
def tw18094097387577115196:=()
def tw10793904937578647441:=()
def tw15383281681881544829:=()
def tw16366088895374547759:=()
def tw5258437685959933792:=()
def tw4697350292854170577:=()
def tw4426048838739352549:=()
def tw1709411092065007700:=()
def tw16486820537104253665:=()
def tw11397735731782603133:=()
def tw888052247311643703:=()
def tw2453878638220202557:=()
def tw13707358310584856704:=()
def tw16872580554889450663:=()
def tw15688737088478913081:=()
def tw6593756572672129321:=()
def tw14376868961081801527:=()
def tw5043316391617230954:=()
def tw858429279968966275:=()
def tw7284086955809958382:=()
def tw103910780492824593:=()
def tw10125964760963090662:=()
def tw10246816321776316009:=()
def tw13060854186381276347:=()
def tw6424665720771132611:=()
def tw247355468647153026:=()
def tw896378880663591954:=()
def tw6684236566893934997:=()
def tw16132941895970525899:=()
def tw17214190728213231205:=()
def tw10536646475969998963:=()
def tw658410875940130518:=()
def tw2046226473009778089:=()
def tw52237856138320568:=()
def tw4166754564544628916:=()
def tw4385924499759713409:=()
def tw18312734486919275139:=()
def tw5451945802496989891:=()
def tw7809307420781151600:=()
def tw9350495137354087894:=()
def tw10717078565491274496:=()
def tw8123287313335119672:=()
def tw2580486327529750009:=()
def tw15041603784059006903:=()
def tw15160266971019640510:=()
def tw723476450308095770:=()
def tw14914358366559571363:=()
def tw13793974418408514483:=()
def tw868583874714028306:=()
def tw13528873787355800035:=()
def tw4636816772936201406:=()
def tw10126032389797416542:=()
def tw18027266160812045706:=()
def tw304383647051017916:=()
def tw16714323635806998428:=()
def tw1422285954357020458:=()
def tw7653369452299544281:=()
def tw16266931702681336872:=()
def tw9348716675705731730:=()
def tw15900637188598546354:=()
def tw15385129768319852736:=()
def tw691656218043406984:=()
def tw6132206379324515725:=()
def tw11311479743823767036:=()
def tw12200115546157407284:=()
def tw9797016695027075180:=()
def tw3821114195067018129:=()
def tw1787915822282899154:=()
def tw18185204188822414532:=()
def tw10858990455631133221:=()
def tw12734417913282497807:=()
def tw17936360251244832128:=()
def tw9182827238867736234:=()
def tw142079765705858401:=()
def tw548798877131176080:=()
def tw14208145764338403958:=()
def tw6231819996677861663:=()
def tw14679284786476187110:=()
def tw14893911179192962133:=()
def tw15309167798670911332:=()
def tw13188940583802753641:=()
def tw8133407184608458367:=()
def tw18166452526975427213:=()
def tw9435908398613010998:=()
def tw6976641895734235738:=()
def tw769237491413996910:=()
def tw14916934304071179329:=()
def tw5205588659515452315:=()
def tw3363482706965514346:=()
def tw16437072866979762073:=()
def tw17918937758997078851:=()
def tw8740492760962970770:=()
def tw1557991183908851056:=()
def tw15297853075927322612:=()
def tw16320033848370722324:=()
def tw12119895422150430302:=()
def tw6575643771379289777:=()
def tw240857101183613297:=()
def tw12284114280006167487:=()
def tw759415205948130205:=()
def tw8176717684569462830:=()
def tw8337654013517059490:=()
def tw7309970278523183211:=()
def tw10520489844092251486:=()
def tw14336968923348579020:=()
def tw7397565119821909559:=()
def tw7543762506905503496:=()
def tw4751910632571518664:=()
def tw5104140985628001353:=()
def tw12680134347439621362:=()
def tw17664714029794372336:=()
def tw1246283327850926818:=()
def tw13244950855674568784:=()
def tw9700707593829130538:=()
def tw18201580016901295090:=()
def tw597977374487168044:=()
def tw9006740830299241749:=()
def tw15763532949259351090:=()
def tw16262295722813952642:=()
def tw13973553054402027801:=()
def tw14003893272625589200:=()
def tw4688273038049356156:=()
def tw5768057929073211511:=()
def tw5231972771049795759:=()
def tw11723078739551154957:=()
def tw3813360246632638784:=()
def tw6155714184432310035:=()
def tw1056954331876072312:=()
def tw4673474905928574973:=()
def tw4779937825851705442:=()
def tw9870999438270884833:=()
def tw12084493357253735539:=()
def tw18219336521743930632:=()
def tw9210682634537211642:=()
def tw7702423588156853208:=()
def tw1542526618455537399:=()
def tw9047782872558137328:=()
def tw14810480499837668325:=()
def tw11628604693730832975:=()
def tw8744087732701892393:=()
def tw14334707867185080546:=()
def tw14527637726022953451:=()
def tw13961334655370505830:=()
def tw9258190459291797361:=()
def tw13908642094226002853:=()
def tw13150400559181050263:=()
def tw16416819915528168445:=()
def tw16968280553263976347:=()
def tw802464229063137568:=()
def tw7464593390112433436:=()
def tw14088440621652103414:=()
def tw10429766186079748934:=()
def tw4403826918354137076:=()
def tw10593552401679880048:=()
def tw14303409930109360686:=()
def tw16526192140521781880:=()
def tw10238143363439535244:=()
def tw741067398110833734:=()
def tw7873223919176936519:=()
def tw11236558190871294153:=()
def tw4971410739356945963:=()
def tw11957562427089629842:=()
def tw390025773379249568:=()
def tw4047723559112769295:=()
def tw911664583741126766:=()
def tw2096210108229852481:=()
def tw11786776045497817682:=()
def tw13120356271865670273:=()
def tw6131125901560246601:=()
def tw10476752209715146353:=()
def tw7793158951133574705:=()
def tw6113347442094640532:=()
def tw450546439017692056:=()
theorem te13443760834603610108:True:=trivial
end PySem.W.Fast
open PySem PySem.W PyProof.Rows
set_option maxRecDepth 100000 in
set_option maxHeartbeats 0 in
theorem PySem.Challenge.cw_helmsum_k17_refusals_apart_holds : PySem.Challenge.rw_helmsum_k17_refusals_apart.Holds := by
 w_on;o_law;k_head;(case hw=>w_witness2)
 k_fill
 refine Lw.walk (l:=PySem.Challenge.rw_helmsum_k17_refusals_apart) rfl rfl (fun w h Y=>PySem.W.kIn_of Y) ?F
 case F =>
  intro w mg fa h KX G hmg
  refine' Lw.all_mk KX G hmg ?a0 ?l0 ?c0 ?k0 ?a1 ?l1 ?c1 ?k1 ?a2 ?l2 ?c2 ?k2 ?a3 ?l3 ?c3 ?k3 ?a4 ?l4 ?c4 ?k4 ?a5 ?l5 ?c5 ?k5 ?xa_Wrong ?a6 ?i6 ?l6 ?c6 ?k6 ?xa_NoThing ?a7 ?i7 ?l7 ?c7 ?k7 ?xa_TooMany ?a8 ?i8 ?l8 ?c8 ?k8 ?xa_NotSteered ?a9 ?i9 ?l9 ?c9 ?k9 ?xa_NotSeen ?a10 ?i10 ?l10 ?c10 ?k10 ?xa_NoName ?a11 ?i11 ?l11 ?c11 ?k11 ?xa_Taken ?a12 ?i12 ?l12 ?c12 ?k12 ?a13 ?l13 ?c13 ?k13 ?a14 ?l14 ?c14 ?k14 ?a15 ?l15 ?c15 ?k15 ?a16 ?l16 ?c16 ?k16 ?xa_SumError ?xa_NoNumber ?xa_NoFit ?xa_NoText ?lx_Wrong ?sa_Wrong ?kp_Wrong ?nt_Wrong ?lx_NoThing ?sa_NoThing ?kp_NoThing ?nt_NoThing ?lx_TooMany ?sa_TooMany ?kp_TooMany ?nt_TooMany ?lx_NotSteered ?sa_NotSteered ?kp_NotSteered ?nt_NotSteered ?lx_NotSeen ?sa_NotSeen ?kp_NotSeen ?nt_NotSeen ?lx_NoName ?sa_NoName ?kp_NoName ?nt_NoName ?lx_Taken ?sa_Taken ?kp_Taken ?nt_Taken ?xe_NoNumber ?xe_NoFit ?xe_NoText ?xe_SumError ?xm_Wrong_Wrong ?xm_Wrong_NoThing ?xm_Wrong_TooMany ?xm_Wrong_NoNumber ?xm_Wrong_NoFit ?xm_Wrong_NotSteered ?xm_Wrong_NotSeen ?xm_Wrong_NoText ?xm_Wrong_NoName ?xm_Wrong_Taken ?xm_NoThing_Wrong ?xm_NoThing_NoThing ?xm_NoThing_TooMany ?xm_NoThing_NoNumber ?xm_NoThing_NoFit ?xm_NoThing_NotSteered ?xm_NoThing_NotSeen ?xm_NoThing_NoText ?xm_NoThing_NoName ?xm_NoThing_Taken ?xm_TooMany_Wrong ?xm_TooMany_NoThing ?xm_TooMany_TooMany ?xm_TooMany_NoNumber ?xm_TooMany_NoFit ?xm_TooMany_NotSteered ?xm_TooMany_NotSeen ?xm_TooMany_NoText ?xm_TooMany_NoName ?xm_TooMany_Taken ?xm_NoNumber_Wrong ?xm_NoNumber_NoThing ?xm_NoNumber_TooMany ?xm_NoNumber_NoNumber ?xm_NoNumber_NoFit ?xm_NoNumber_NotSteered ?xm_NoNumber_NotSeen ?xm_NoNumber_NoText ?xm_NoNumber_NoName ?xm_NoNumber_Taken ?xm_NoFit_Wrong ?xm_NoFit_NoThing ?xm_NoFit_TooMany ?xm_NoFit_NoNumber ?xm_NoFit_NoFit ?xm_NoFit_NotSteered ?xm_NoFit_NotSeen ?xm_NoFit_NoText ?xm_NoFit_NoName ?xm_NoFit_Taken ?xm_NotSteered_Wrong ?xm_NotSteered_NoThing ?xm_NotSteered_TooMany ?xm_NotSteered_NoNumber ?xm_NotSteered_NoFit ?xm_NotSteered_NotSteered ?xm_NotSteered_NotSeen ?xm_NotSteered_NoText ?xm_NotSteered_NoName ?xm_NotSteered_Taken ?xm_NotSeen_Wrong ?xm_NotSeen_NoThing ?xm_NotSeen_TooMany ?xm_NotSeen_NoNumber ?xm_NotSeen_NoFit ?xm_NotSeen_NotSteered ?xm_NotSeen_NotSeen ?xm_NotSeen_NoText ?xm_NotSeen_NoName ?xm_NotSeen_Taken ?xm_NoText_Wrong ?xm_NoText_NoThing ?xm_NoText_TooMany ?xm_NoText_NoNumber ?xm_NoText_NoFit ?xm_NoText_NotSteered ?xm_NoText_NotSeen ?xm_NoText_NoText ?xm_NoText_NoName ?xm_NoText_Taken ?xm_NoName_Wrong ?xm_NoName_NoThing ?xm_NoName_TooMany ?xm_NoName_NoNumber ?xm_NoName_NoFit ?xm_NoName_NotSteered ?xm_NoName_NotSeen ?xm_NoName_NoText ?xm_NoName_NoName ?xm_NoName_Taken ?xm_Taken_Wrong ?xm_Taken_NoThing ?xm_Taken_TooMany ?xm_Taken_NoNumber ?xm_Taken_NoFit ?xm_Taken_NotSteered ?xm_Taken_NotSeen ?xm_Taken_NoText ?xm_Taken_NoName ?xm_Taken_Taken ?ki_Wrong_SumError ?ki_Wrong_Wrong ?ki_Wrong_NoThing ?ki_Wrong_TooMany ?ki_Wrong_NoNumber ?ki_Wrong_NoFit ?ki_Wrong_NotSteered ?ki_Wrong_NotSeen ?ki_Wrong_NoText ?ki_Wrong_NoName ?ki_Wrong_Taken ?ki_Wrong_ValueError ?ki_NoThing_SumError ?ki_NoThing_Wrong ?ki_NoThing_NoThing ?ki_NoThing_TooMany ?ki_NoThing_NoNumber ?ki_NoThing_NoFit ?ki_NoThing_NotSteered ?ki_NoThing_NotSeen ?ki_NoThing_NoText ?ki_NoThing_NoName ?ki_NoThing_Taken ?ki_NoThing_ValueError ?ki_TooMany_SumError ?ki_TooMany_Wrong ?ki_TooMany_NoThing ?ki_TooMany_TooMany ?ki_TooMany_NoNumber ?ki_TooMany_NoFit ?ki_TooMany_NotSteered ?ki_TooMany_NotSeen ?ki_TooMany_NoText ?ki_TooMany_NoName ?ki_TooMany_Taken ?ki_TooMany_ValueError ?ki_NoNumber_SumError ?ki_NoNumber_Wrong ?ki_NoNumber_NoThing ?ki_NoNumber_TooMany ?ki_NoNumber_NoNumber ?ki_NoNumber_NoFit ?ki_NoNumber_NotSteered ?ki_NoNumber_NotSeen ?ki_NoNumber_NoText ?ki_NoNumber_NoName ?ki_NoNumber_Taken ?ki_NoNumber_ValueError ?ki_NoFit_SumError ?ki_NoFit_Wrong ?ki_NoFit_NoThing ?ki_NoFit_TooMany ?ki_NoFit_NoNumber ?ki_NoFit_NoFit ?ki_NoFit_NotSteered ?ki_NoFit_NotSeen ?ki_NoFit_NoText ?ki_NoFit_NoName ?ki_NoFit_Taken ?ki_NoFit_ValueError ?ki_NotSteered_SumError ?ki_NotSteered_Wrong ?ki_NotSteered_NoThing ?ki_NotSteered_TooMany ?ki_NotSteered_NoNumber ?ki_NotSteered_NoFit ?ki_NotSteered_NotSteered ?ki_NotSteered_NotSeen ?ki_NotSteered_NoText ?ki_NotSteered_NoName ?ki_NotSteered_Taken ?ki_NotSteered_ValueError ?ki_NotSeen_SumError ?ki_NotSeen_Wrong ?ki_NotSeen_NoThing ?ki_NotSeen_TooMany ?ki_NotSeen_NoNumber ?ki_NotSeen_NoFit ?ki_NotSeen_NotSteered ?ki_NotSeen_NotSeen ?ki_NotSeen_NoText ?ki_NotSeen_NoName ?ki_NotSeen_Taken ?ki_NotSeen_ValueError ?ki_NoText_SumError ?ki_NoText_Wrong ?ki_NoText_NoThing ?ki_NoText_TooMany ?ki_NoText_NoNumber ?ki_NoText_NoFit ?ki_NoText_NotSteered ?ki_NoText_NotSeen ?ki_NoText_NoText ?ki_NoText_NoName ?ki_NoText_Taken ?ki_NoText_ValueError ?ki_NoName_SumError ?ki_NoName_Wrong ?ki_NoName_NoThing ?ki_NoName_TooMany ?ki_NoName_NoNumber ?ki_NoName_NoFit ?ki_NoName_NotSteered ?ki_NoName_NotSeen ?ki_NoName_NoText ?ki_NoName_NoName ?ki_NoName_Taken ?ki_NoName_ValueError ?ki_Taken_SumError ?ki_Taken_Wrong ?ki_Taken_NoThing ?ki_Taken_TooMany ?ki_Taken_NoNumber ?ki_Taken_NoFit ?ki_Taken_NotSteered ?ki_Taken_NotSeen ?ki_Taken_NoText ?ki_Taken_NoName ?ki_Taken_Taken ?ki_Taken_ValueError ?ga_Wrong ?gt_Wrong ?mb_Wrong ?mo_Wrong ?hd_Wrong ?ca_Wrong ?ga_NoThing ?gt_NoThing ?mb_NoThing ?mo_NoThing ?hd_NoThing ?ca_NoThing ?ga_TooMany ?gt_TooMany ?mb_TooMany ?mo_TooMany ?hd_TooMany ?ca_TooMany ?ga_NoNumber ?gt_NoNumber ?mb_NoNumber ?mo_NoNumber ?hd_NoNumber ?ca_NoNumber ?ga_NoFit ?gt_NoFit ?mb_NoFit ?mo_NoFit ?hd_NoFit ?ca_NoFit ?ga_NotSteered ?gt_NotSteered ?mb_NotSteered ?mo_NotSteered ?hd_NotSteered ?ca_NotSteered ?ga_NotSeen ?gt_NotSeen ?mb_NotSeen ?mo_NotSeen ?hd_NotSeen ?ca_NotSeen ?ga_NoText ?gt_NoText ?mb_NoText ?mo_NoText ?hd_NoText ?ca_NoText ?ga_NoName ?gt_NoName ?mb_NoName ?mo_NoName ?hd_NoName ?ca_NoName ?ga_Taken ?gt_Taken ?mb_Taken ?mo_Taken ?hd_Taken ?ca_Taken ?sg_ ?tk_ ?z_abs ?z_len ?z_range ?z_max ?z_isinstance ?z_ValueError
  (case a0=>k_is)
  (case l0=>k_is)
  (case c0=>k_is)
  (case k0=>k_is)
  (case a1=>k_is)
  (case l1=>k_is)
  (case c1=>k_is)
  (case k1=>k_is)
  (case a2=>k_is)
  (case l2=>k_is)
  (case c2=>k_is)
  (case k2=>k_is)
  (case a3=>k_is)
  (case l3=>k_is)
  (case c3=>k_is)
  (case k3=>k_is)
  (case a4=>k_is)
  (case l4=>k_is)
  (case c4=>k_is)
  (case k4=>k_is)
  (case a5=>k_is)
  (case l5=>k_is)
  (case c5=>k_is)
  (case k5=>k_is)
  (case xa_Wrong=>k_is)
  (case a6=>k_is)
  (case i6=>k_is)
  (case l6=>k_is)
  (case c6=>k_is)
  (case k6=>k_is)
  (case xa_NoThing=>k_is)
  (case a7=>k_is)
  (case i7=>k_is)
  (case l7=>k_is)
  (case c7=>k_is)
  (case k7=>k_is)
  (case xa_TooMany=>k_is)
  (case a8=>k_is)
  (case i8=>k_is)
  (case l8=>k_is)
  (case c8=>k_is)
  (case k8=>k_is)
  (case xa_NotSteered=>k_is)
  (case a9=>k_is)
  (case i9=>k_is)
  (case l9=>k_is)
  (case c9=>k_is)
  (case k9=>k_is)
  (case xa_NotSeen=>k_is)
  (case a10=>k_is)
  (case i10=>k_is)
  (case l10=>k_is)
  (case c10=>k_is)
  (case k10=>k_is)
  (case xa_NoName=>k_is)
  (case a11=>k_is)
  (case i11=>k_is)
  (case l11=>k_is)
  (case c11=>k_is)
  (case k11=>k_is)
  (case xa_Taken=>k_is)
  (case a12=>k_is)
  (case i12=>k_is)
  (case l12=>k_is)
  (case c12=>k_is)
  (case k12=>k_is)
  (case a13=>k_is)
  (case l13=>k_is)
  (case c13=>k_is)
  (case k13=>k_is)
  (case a14=>k_is)
  (case l14=>k_is)
  (case c14=>k_is)
  (case k14=>k_is)
  (case a15=>k_is)
  (case l15=>k_is)
  (case c15=>k_is)
  (case k15=>k_is)
  (case a16=>k_is)
  (case l16=>k_is)
  (case c16=>k_is)
  (case k16=>k_is)
  (case xa_SumError=>k_is)
  (case xa_NoNumber=>k_is)
  (case xa_NoFit=>k_is)
  (case xa_NoText=>k_is)
  (case lx_Wrong=>k_is)
  (case sa_Wrong=>k_is)
  (case kp_Wrong=>k_is)
  (case nt_Wrong=>k_is)
  (case lx_NoThing=>k_is)
  (case sa_NoThing=>k_is)
  (case kp_NoThing=>k_is)
  (case nt_NoThing=>k_is)
  (case lx_TooMany=>k_is)
  (case sa_TooMany=>k_is)
  (case kp_TooMany=>k_is)
  (case nt_TooMany=>k_is)
  (case lx_NotSteered=>k_is)
  (case sa_NotSteered=>k_is)
  (case kp_NotSteered=>k_is)
  (case nt_NotSteered=>k_is)
  (case lx_NotSeen=>k_is)
  (case sa_NotSeen=>k_is)
  (case kp_NotSeen=>k_is)
  (case nt_NotSeen=>k_is)
  (case lx_NoName=>k_is)
  (case sa_NoName=>k_is)
  (case kp_NoName=>k_is)
  (case nt_NoName=>k_is)
  (case lx_Taken=>k_is)
  (case sa_Taken=>k_is)
  (case kp_Taken=>k_is)
  (case nt_Taken=>k_is)
  (case xe_NoNumber=>k_exc)
  (case xe_NoFit=>k_exc)
  (case xe_NoText=>k_exc)
  (case xe_SumError=>k_exc)
  (case xm_Wrong_Wrong=>kts_exm)
  (case xm_Wrong_NoThing=>kts_exm)
  (case xm_Wrong_TooMany=>kts_exm)
  (case xm_Wrong_NoNumber=>kts_exm)
  (case xm_Wrong_NoFit=>kts_exm)
  (case xm_Wrong_NotSteered=>kts_exm)
  (case xm_Wrong_NotSeen=>kts_exm)
  (case xm_Wrong_NoText=>kts_exm)
  (case xm_Wrong_NoName=>kts_exm)
  (case xm_Wrong_Taken=>kts_exm)
  (case xm_NoThing_Wrong=>kts_exm)
  (case xm_NoThing_NoThing=>kts_exm)
  (case xm_NoThing_TooMany=>kts_exm)
  (case xm_NoThing_NoNumber=>kts_exm)
  (case xm_NoThing_NoFit=>kts_exm)
  (case xm_NoThing_NotSteered=>kts_exm)
  (case xm_NoThing_NotSeen=>kts_exm)
  (case xm_NoThing_NoText=>kts_exm)
  (case xm_NoThing_NoName=>kts_exm)
  (case xm_NoThing_Taken=>kts_exm)
  (case xm_TooMany_Wrong=>kts_exm)
  (case xm_TooMany_NoThing=>kts_exm)
  (case xm_TooMany_TooMany=>kts_exm)
  (case xm_TooMany_NoNumber=>kts_exm)
  (case xm_TooMany_NoFit=>kts_exm)
  (case xm_TooMany_NotSteered=>kts_exm)
  (case xm_TooMany_NotSeen=>kts_exm)
  (case xm_TooMany_NoText=>kts_exm)
  (case xm_TooMany_NoName=>kts_exm)
  (case xm_TooMany_Taken=>kts_exm)
  (case xm_NoNumber_Wrong=>kts_exm)
  (case xm_NoNumber_NoThing=>kts_exm)
  (case xm_NoNumber_TooMany=>kts_exm)
  (case xm_NoNumber_NoNumber=>kts_exm)
  (case xm_NoNumber_NoFit=>kts_exm)
  (case xm_NoNumber_NotSteered=>kts_exm)
  (case xm_NoNumber_NotSeen=>kts_exm)
  (case xm_NoNumber_NoText=>kts_exm)
  (case xm_NoNumber_NoName=>kts_exm)
  (case xm_NoNumber_Taken=>kts_exm)
  (case xm_NoFit_Wrong=>kts_exm)
  (case xm_NoFit_NoThing=>kts_exm)
  (case xm_NoFit_TooMany=>kts_exm)
  (case xm_NoFit_NoNumber=>kts_exm)
  (case xm_NoFit_NoFit=>kts_exm)
  (case xm_NoFit_NotSteered=>kts_exm)
  (case xm_NoFit_NotSeen=>kts_exm)
  (case xm_NoFit_NoText=>kts_exm)
  (case xm_NoFit_NoName=>kts_exm)
  (case xm_NoFit_Taken=>kts_exm)
  (case xm_NotSteered_Wrong=>kts_exm)
  (case xm_NotSteered_NoThing=>kts_exm)
  (case xm_NotSteered_TooMany=>kts_exm)
  (case xm_NotSteered_NoNumber=>kts_exm)
  (case xm_NotSteered_NoFit=>kts_exm)
  (case xm_NotSteered_NotSteered=>kts_exm)
  (case xm_NotSteered_NotSeen=>kts_exm)
  (case xm_NotSteered_NoText=>kts_exm)
  (case xm_NotSteered_NoName=>kts_exm)
  (case xm_NotSteered_Taken=>kts_exm)
  (case xm_NotSeen_Wrong=>kts_exm)
  (case xm_NotSeen_NoThing=>kts_exm)
  (case xm_NotSeen_TooMany=>kts_exm)
  (case xm_NotSeen_NoNumber=>kts_exm)
  (case xm_NotSeen_NoFit=>kts_exm)
  (case xm_NotSeen_NotSteered=>kts_exm)
  (case xm_NotSeen_NotSeen=>kts_exm)
  (case xm_NotSeen_NoText=>kts_exm)
  (case xm_NotSeen_NoName=>kts_exm)
  (case xm_NotSeen_Taken=>kts_exm)
  (case xm_NoText_Wrong=>kts_exm)
  (case xm_NoText_NoThing=>kts_exm)
  (case xm_NoText_TooMany=>kts_exm)
  (case xm_NoText_NoNumber=>kts_exm)
  (case xm_NoText_NoFit=>kts_exm)
  (case xm_NoText_NotSteered=>kts_exm)
  (case xm_NoText_NotSeen=>kts_exm)
  (case xm_NoText_NoText=>kts_exm)
  (case xm_NoText_NoName=>kts_exm)
  (case xm_NoText_Taken=>kts_exm)
  (case xm_NoName_Wrong=>kts_exm)
  (case xm_NoName_NoThing=>kts_exm)
  (case xm_NoName_TooMany=>kts_exm)
  (case xm_NoName_NoNumber=>kts_exm)
  (case xm_NoName_NoFit=>kts_exm)
  (case xm_NoName_NotSteered=>kts_exm)
  (case xm_NoName_NotSeen=>kts_exm)
  (case xm_NoName_NoText=>kts_exm)
  (case xm_NoName_NoName=>kts_exm)
  (case xm_NoName_Taken=>kts_exm)
  (case xm_Taken_Wrong=>kts_exm)
  (case xm_Taken_NoThing=>kts_exm)
  (case xm_Taken_TooMany=>kts_exm)
  (case xm_Taken_NoNumber=>kts_exm)
  (case xm_Taken_NoFit=>kts_exm)
  (case xm_Taken_NotSteered=>kts_exm)
  (case xm_Taken_NotSeen=>kts_exm)
  (case xm_Taken_NoText=>kts_exm)
  (case xm_Taken_NoName=>kts_exm)
  (case xm_Taken_Taken=>kts_exm)
  (case ki_Wrong_SumError=>kit_is)
  (case ki_Wrong_Wrong=>kit_is)
  (case ki_Wrong_NoThing=>kit_is)
  (case ki_Wrong_TooMany=>kit_is)
  (case ki_Wrong_NoNumber=>kit_is)
  (case ki_Wrong_NoFit=>kit_is)
  (case ki_Wrong_NotSteered=>kit_is)
  (case ki_Wrong_NotSeen=>kit_is)
  (case ki_Wrong_NoText=>kit_is)
  (case ki_Wrong_NoName=>kit_is)
  (case ki_Wrong_Taken=>kit_is)
  (case ki_Wrong_ValueError=>kit_is)
  (case ki_NoThing_SumError=>kit_is)
  (case ki_NoThing_Wrong=>kit_is)
  (case ki_NoThing_NoThing=>kit_is)
  (case ki_NoThing_TooMany=>kit_is)
  (case ki_NoThing_NoNumber=>kit_is)
  (case ki_NoThing_NoFit=>kit_is)
  (case ki_NoThing_NotSteered=>kit_is)
  (case ki_NoThing_NotSeen=>kit_is)
  (case ki_NoThing_NoText=>kit_is)
  (case ki_NoThing_NoName=>kit_is)
  (case ki_NoThing_Taken=>kit_is)
  (case ki_NoThing_ValueError=>kit_is)
  (case ki_TooMany_SumError=>kit_is)
  (case ki_TooMany_Wrong=>kit_is)
  (case ki_TooMany_NoThing=>kit_is)
  (case ki_TooMany_TooMany=>kit_is)
  (case ki_TooMany_NoNumber=>kit_is)
  (case ki_TooMany_NoFit=>kit_is)
  (case ki_TooMany_NotSteered=>kit_is)
  (case ki_TooMany_NotSeen=>kit_is)
  (case ki_TooMany_NoText=>kit_is)
  (case ki_TooMany_NoName=>kit_is)
  (case ki_TooMany_Taken=>kit_is)
  (case ki_TooMany_ValueError=>kit_is)
  (case ki_NoNumber_SumError=>kit_is)
  (case ki_NoNumber_Wrong=>kit_is)
  (case ki_NoNumber_NoThing=>kit_is)
  (case ki_NoNumber_TooMany=>kit_is)
  (case ki_NoNumber_NoNumber=>kit_is)
  (case ki_NoNumber_NoFit=>kit_is)
  (case ki_NoNumber_NotSteered=>kit_is)
  (case ki_NoNumber_NotSeen=>kit_is)
  (case ki_NoNumber_NoText=>kit_is)
  (case ki_NoNumber_NoName=>kit_is)
  (case ki_NoNumber_Taken=>kit_is)
  (case ki_NoNumber_ValueError=>kit_is)
  (case ki_NoFit_SumError=>kit_is)
  (case ki_NoFit_Wrong=>kit_is)
  (case ki_NoFit_NoThing=>kit_is)
  (case ki_NoFit_TooMany=>kit_is)
  (case ki_NoFit_NoNumber=>kit_is)
  (case ki_NoFit_NoFit=>kit_is)
  (case ki_NoFit_NotSteered=>kit_is)
  (case ki_NoFit_NotSeen=>kit_is)
  (case ki_NoFit_NoText=>kit_is)
  (case ki_NoFit_NoName=>kit_is)
  (case ki_NoFit_Taken=>kit_is)
  (case ki_NoFit_ValueError=>kit_is)
  (case ki_NotSteered_SumError=>kit_is)
  (case ki_NotSteered_Wrong=>kit_is)
  (case ki_NotSteered_NoThing=>kit_is)
  (case ki_NotSteered_TooMany=>kit_is)
  (case ki_NotSteered_NoNumber=>kit_is)
  (case ki_NotSteered_NoFit=>kit_is)
  (case ki_NotSteered_NotSteered=>kit_is)
  (case ki_NotSteered_NotSeen=>kit_is)
  (case ki_NotSteered_NoText=>kit_is)
  (case ki_NotSteered_NoName=>kit_is)
  (case ki_NotSteered_Taken=>kit_is)
  (case ki_NotSteered_ValueError=>kit_is)
  (case ki_NotSeen_SumError=>kit_is)
  (case ki_NotSeen_Wrong=>kit_is)
  (case ki_NotSeen_NoThing=>kit_is)
  (case ki_NotSeen_TooMany=>kit_is)
  (case ki_NotSeen_NoNumber=>kit_is)
  (case ki_NotSeen_NoFit=>kit_is)
  (case ki_NotSeen_NotSteered=>kit_is)
  (case ki_NotSeen_NotSeen=>kit_is)
  (case ki_NotSeen_NoText=>kit_is)
  (case ki_NotSeen_NoName=>kit_is)
  (case ki_NotSeen_Taken=>kit_is)
  (case ki_NotSeen_ValueError=>kit_is)
  (case ki_NoText_SumError=>kit_is)
  (case ki_NoText_Wrong=>kit_is)
  (case ki_NoText_NoThing=>kit_is)
  (case ki_NoText_TooMany=>kit_is)
  (case ki_NoText_NoNumber=>kit_is)
  (case ki_NoText_NoFit=>kit_is)
  (case ki_NoText_NotSteered=>kit_is)
  (case ki_NoText_NotSeen=>kit_is)
  (case ki_NoText_NoText=>kit_is)
  (case ki_NoText_NoName=>kit_is)
  (case ki_NoText_Taken=>kit_is)
  (case ki_NoText_ValueError=>kit_is)
  (case ki_NoName_SumError=>kit_is)
  (case ki_NoName_Wrong=>kit_is)
  (case ki_NoName_NoThing=>kit_is)
  (case ki_NoName_TooMany=>kit_is)
  (case ki_NoName_NoNumber=>kit_is)
  (case ki_NoName_NoFit=>kit_is)
  (case ki_NoName_NotSteered=>kit_is)
  (case ki_NoName_NotSeen=>kit_is)
  (case ki_NoName_NoText=>kit_is)
  (case ki_NoName_NoName=>kit_is)
  (case ki_NoName_Taken=>kit_is)
  (case ki_NoName_ValueError=>kit_is)
  (case ki_Taken_SumError=>kit_is)
  (case ki_Taken_Wrong=>kit_is)
  (case ki_Taken_NoThing=>kit_is)
  (case ki_Taken_TooMany=>kit_is)
  (case ki_Taken_NoNumber=>kit_is)
  (case ki_Taken_NoFit=>kit_is)
  (case ki_Taken_NotSteered=>kit_is)
  (case ki_Taken_NotSeen=>kit_is)
  (case ki_Taken_NoText=>kit_is)
  (case ki_Taken_NoName=>kit_is)
  (case ki_Taken_Taken=>kit_is)
  (case ki_Taken_ValueError=>kit_is)
  (case ga_Wrong=>k_is)
  (case gt_Wrong=>k_is)
  (case mb_Wrong=>k_is)
  (case mo_Wrong=>k_is)
  (case hd_Wrong=>k_is)
  (case ca_Wrong=>k_is)
  (case ga_NoThing=>k_is)
  (case gt_NoThing=>k_is)
  (case mb_NoThing=>k_is)
  (case mo_NoThing=>k_is)
  (case hd_NoThing=>k_is)
  (case ca_NoThing=>k_is)
  (case ga_TooMany=>k_is)
  (case gt_TooMany=>k_is)
  (case mb_TooMany=>k_is)
  (case mo_TooMany=>k_is)
  (case hd_TooMany=>k_is)
  (case ca_TooMany=>k_is)
  (case ga_NoNumber=>k_is)
  (case gt_NoNumber=>k_is)
  (case mb_NoNumber=>k_is)
  (case mo_NoNumber=>k_is)
  (case hd_NoNumber=>k_is)
  (case ca_NoNumber=>k_is)
  (case ga_NoFit=>k_is)
  (case gt_NoFit=>k_is)
  (case mb_NoFit=>k_is)
  (case mo_NoFit=>k_is)
  (case hd_NoFit=>k_is)
  (case ca_NoFit=>k_is)
  (case ga_NotSteered=>k_is)
  (case gt_NotSteered=>k_is)
  (case mb_NotSteered=>k_is)
  (case mo_NotSteered=>k_is)
  (case hd_NotSteered=>k_is)
  (case ca_NotSteered=>k_is)
  (case ga_NotSeen=>k_is)
  (case gt_NotSeen=>k_is)
  (case mb_NotSeen=>k_is)
  (case mo_NotSeen=>k_is)
  (case hd_NotSeen=>k_is)
  (case ca_NotSeen=>k_is)
  (case ga_NoText=>k_is)
  (case gt_NoText=>k_is)
  (case mb_NoText=>k_is)
  (case mo_NoText=>k_is)
  (case hd_NoText=>k_is)
  (case ca_NoText=>k_is)
  (case ga_NoName=>k_is)
  (case gt_NoName=>k_is)
  (case mb_NoName=>k_is)
  (case mo_NoName=>k_is)
  (case hd_NoName=>k_is)
  (case ca_NoName=>k_is)
  (case ga_Taken=>k_is)
  (case gt_Taken=>k_is)
  (case mb_Taken=>k_is)
  (case mo_Taken=>k_is)
  (case hd_Taken=>k_is)
  (case ca_Taken=>k_is)
  (case sg_=>k_is)
  (case tk_=>k_is)
  (case z_abs=>k_is)
  (case z_len=>k_is)
  (case z_range=>k_is)
  (case z_max=>k_is)
  (case z_isinstance=>k_is)
  (case z_ValueError=>k_is)