import PyProof.Rows.All
import Wide.All
import OpenK.AllK
import Wide.FinOn
import Lean
import PyProof.EqAt
import PyProof.EqKinds
import PyProof.TupleCall
import PyProof.NeKinds
import KE.KIntText
import PySem.Challenge.RW_helmsum_k93_texts_refused
set_option Elab.async false
set_option linter.all false
set_option maxRecDepth 100000
namespace L2
open PySem PySem.Spec PyProof.Rows
abbrev Key:=Sum Int Str
def keyIs:Key->Value->Bool
 | .inl k,v=>Value.isInt k v
 | .inr x,v=>Value.isStrOf x v
def keyH (w:World):Key->Int
 | .inl k=>hashInt k
 | .inr x=>hashStr w x
theorem keyIs_shape:∀{k:Key} {v:Value},keyIs k v=true->(∃i t,k=Sum.inl i∧v=Value.int i t)∨(∃x t,k=Sum.inr x∧v=Value.str x t)
 | .inl i,v,h=>by
  obtain ⟨t,e⟩:=Value.isInt_shape (k:=i) (v:=v) h
  exact .inl ⟨i,t,rfl,e⟩
 | .inr x,v,h=>by
  obtain ⟨t,e⟩:=Value.isStrOf_shape (x:=x) (v:=v) h
  exact .inr ⟨x,t,rfl,e⟩
theorem keyIs_int (i:Int) (t:Tok):keyIs (.inl i) (.int i t)=true:=by simp [keyIs,Value.isInt]
theorem keyIs_str (x:Str) (t:Tok):keyIs (.inr x) (.str x t)=true:=by simp [keyIs,Value.isStrOf]
theorem key_ll (a b:Int):decide ((Sum.inl a:Key)=Sum.inl b)=(a == b):=by
 by_cases e:a=b
 ·subst e;simp
 ·have h:¬(Sum.inl a:Key)=Sum.inl b:=fun q=>e (Sum.inl.inj q)
  rw[decide_eq_false h]
  exact (beq_eq_false_iff_ne.mpr e).symm
theorem key_rr (a b:Str):decide ((Sum.inr a:Key)=Sum.inr b)=decide (a=b):=by
 by_cases e:a=b
 ·subst e;simp
 ·have h:¬(Sum.inr a:Key)=Sum.inr b:=fun q=>e (Sum.inr.inj q)
  rw[decide_eq_false h,decide_eq_false e]
theorem key_lr (a:Int) (b:Str):decide ((Sum.inl a:Key)=Sum.inr b)=false:=decide_eq_false (fun q=>nomatch q)
theorem key_rl (a:Str) (b:Int):decide ((Sum.inr a:Key)=Sum.inl b)=false:=decide_eq_false (fun q=>nomatch q)
def mixKind (prog:Program) (w:World):PySem.KeyKind prog w Key where
 is:=keyIs
 hash:=keyH w
 inj:=fun v a b ha hb=>by
  rcases keyIs_shape ha with ⟨i,t,rfl,rfl⟩ | ⟨x,t,rfl,rfl⟩
  ·rcases keyIs_shape hb with ⟨j,u,rfl,e⟩ | ⟨y,u,rfl,e⟩
   ·injection e with e1 _;rw[e1]
   ·exact nomatch e
  ·rcases keyIs_shape hb with ⟨j,u,rfl,e⟩ | ⟨y,u,rfl,e⟩
   ·exact nomatch e
   ·injection e with e1 _;rw[e1]
 byValue:=fun k v h=>by
  rcases keyIs_shape h with ⟨i,t,rfl,rfl⟩ | ⟨x,t,rfl,rfl⟩ <;> rfl
 pyHash:=fun hv h=>by
  rcases keyIs_shape hv with ⟨i,t,rfl,rfl⟩ | ⟨x,t,rfl,rfl⟩
  ·exact wpAny_pyHash_int h
  ·exact wpAny_pyHash_str h
 eqBool:=fun hu hv h=>by
  rcases keyIs_shape hu with ⟨i,t,rfl,rfl⟩ | ⟨x,t,rfl,rfl⟩
  ·rcases keyIs_shape hv with ⟨j,u,rfl,rfl⟩ | ⟨y,u,rfl,rfl⟩
   ·rw[key_ll] at h;exact wpAny_eqBool_int h
   ·rw[key_lr] at h;exact SeqAt.EqAt.int_str i t y u _ _ _ _ h
  ·rcases keyIs_shape hv with ⟨j,u,rfl,rfl⟩ | ⟨y,u,rfl,rfl⟩
   ·rw[key_rl] at h;exact SeqAt.EqAt.str_int x t j u _ _ _ _ h
   ·rw[key_rr] at h;exact wpAny_eqBool_str h
 «strs»:=fun k x t v h=>by
  rcases keyIs_shape h with ⟨i,u,rfl,e⟩ | ⟨y,u,rfl,e⟩
  ·exact nomatch e
  ·injection e with e1 _
   subst e1
   cases v <;> rfl
theorem mixKind_int (prog:Program) (w:World) (i:Int) (t:Tok):(mixKind prog w).is (.inl i) (.int i t)=true:=keyIs_int i t
theorem mixKind_str (prog:Program) (w:World) (x:Str) (t:Tok):(mixKind prog w).is (.inr x) (.str x t)=true:=keyIs_str x t
end L2
namespace L2
open PySem PySem.Spec PyProof.Rows
inductive V where
  | non | bl (b : Bool) | int (i : Int) | str (x : Str) | byt (b : Array UInt8) | flt (b : UInt64) | ref (a : Addr) | ty (n : String)
  deriving DecidableEq

def RelV:V->Value->Prop
 | .non,u=>u=Value.none
 | .bl b,u=>u=Value.bool b
 | .int i,u=>∃t,u=Value.int i t
 | .str x,u=>∃t,u=Value.str x t
 | .byt b,u=>∃t,u=Value.bytes b t
 | .flt b,u=>∃t,u=Value.float b t
 | .ref a,u=>u=Value.ref a
 | .ty n,u=>u=Value.type n
abbrev Vals:List V->List Value->Prop:=Paired RelV
theorem Vals.length {xs:List V} {us:List Value} (r:Vals xs us):xs.length=us.length:=Paired.length r
theorem Vals.get:∀{xs:List V} {us:List Value} {i:Nat} {x:V},Vals xs us->xs[i]?=some x->∃u,us[i]?=some u∧RelV x u
 | _,_,_,_,.nil,e=>by simp at e
 | _,_,0,_,.cons r _,e=>by simp at e;subst e;exact ⟨_,rfl,r⟩
 | _,_,i+1,x,.cons _ t,e=>by
  obtain ⟨u,h1,h2⟩:=Vals.get (i:=i) (x:=x) t (by simpa using e)
  exact ⟨u,by simpa using h1,h2⟩
theorem Vals.set {x:V} {u:Value} (r:RelV x u):∀{xs:List V} {us:List Value} (i:Nat),Vals xs us->Vals (xs.set i x) (us.set i u)
 | _,_,_,.nil=>.nil
 | _,_,0,.cons _ t=>.cons r t
 | _,_,i+1,.cons q t=>.cons q (Vals.set r i t)
theorem Vals.append:∀{xs ys:List V} {us ws:List Value},Vals xs us->Vals ys ws->Vals (xs++ys) (us++ws)
 | _,_,_,_,.nil,s=>s
 | _,_,_,_,.cons r t,s=>.cons r (Vals.append t s)
theorem Vals.take:∀{xs:List V} {us:List Value} (n:Nat),Vals xs us->Vals (xs.take n) (us.take n)
 | _,_,0,_=>.nil
 | _,_,_+1,.nil=>.nil
 | _,_,n+1,.cons r t=>.cons r (Vals.take n t)
theorem Vals.drop:∀{xs:List V} {us:List Value} (n:Nat),Vals xs us->Vals (xs.drop n) (us.drop n)
 | _,_,0,r=>r
 | _,_,_+1,.nil=>.nil
 | _,_,n+1,.cons _ t=>Vals.drop n t
def RelO:Option V->Option Value->Prop
 | some v,some u=>RelV v u
 | none,none=>True
 | _,_=>False
def KV {κ:Type}:List (κ×V)->List (κ×Value)->Prop:=Paired fun (p:κ×V) (q:κ×Value)=>p.1=q.1∧RelV p.2 q.2
def kV:Key->V
 | .inl i=>.int i
 | .inr x=>.str x
inductive HO where
 | lst (xs:List V)
 | tup (xs:List V)
 | dK (kvs:List (Key×V)) | dT (kvs:List (List Key×V))
 | set (S:Int->Bool) (n:Nat)
 | ins (C dx:Addr) (fs:List (Str×V))
 | own (x:Addr)
 | xd (fs:List (Str×V))
 | met (f x:Addr)
 | rng (lo hi:Int)
 | frz (o:Obj) (u:HO)
 | tbl (ps:Array Value)
 | ext (φ:Heap->Prop)
abbrev Hp:=Addr->Option HO
def upd (H:Hp) (a:Addr) (o:HO):Hp:=fun b=>if b=a then some o else H b
theorem upd_same {H:Hp} {a:Addr} {o:HO}:upd H a o a=some o:=by unfold upd;rw[if_pos rfl]
theorem upd_ne {H:Hp} {a b:Addr} {o:HO} (h:b≠a):upd H a o b=H b:=by unfold upd;rw[if_neg h]
theorem upd_upd {H:Hp} {a:Addr} {o u:HO}:upd (upd H a o) a u=upd H a u:=by
 funext b;unfold upd;split <;> rfl
theorem ne_of_none {H:Hp} {a b:Addr} {o:HO} (h:H a=some o) (h':H b=none):a≠b:=by
 intro e;subst e;rw[h] at h';cases h'
section
variable (P:Program) (w:World)
def ObjOk (H:Hp) (h:Heap) (a:Addr):HO->Prop
 | .lst xs=>xs.length<=sizeLine∧∃(its:List Value) (n:Nat),Vals xs its∧h.get? a=some { cls:=.type "list",data:=.seq its.toArray n }
 | .tup xs=>xs.length<=sizeLine∧∃its:List Value,Vals xs its∧IsTup h a its.toArray
 | .dK kvs=>kvs.length<=sizeLine∧(a == sysModules)=false∧∃vs,KV kvs vs∧h.DictOf (mixKind P w) a vs
 | .dT kvs=>kvs.length<=sizeLine∧(a == sysModules)=false∧∃xs:List (List Key×Addr×Value),
   Paired (fun (p:List Key×V) (q:List Key×Addr×Value)=>p.1=q.1∧H q.2.1=some (.tup (p.1.map kV))∧RelV p.2 q.2.2) kvs xs ∧
   ∃o es ep,h.get? a=some o∧o.ExactDict∧o.data=.dict es ep∧es.toList=xs.map (entryOfKey (tupleKind (mixKind P w)))∧(xs.map (·.1)).Nodup
 | .set S n=>h.SetOf (intKind P w) a S n
 | .ins C dx fs=>H dx=some (.own a)∧fs.length<=1000∧dx≠a∧h.get? a=some (PySem.W.instObj C dx) ∧
   ∃mA,h.Ns1 dx mA∧(∀f,RelO (fs.lookup f) (mA f))∧PySem.Within mA (fs.map (·.1))
 | .own _=>∃o,h.get? a=some o
 | .xd fs=>∃mA,h.Ns1 a mA∧∀f,RelO (fs.lookup f) (mA f)
 | .rng lo hi=>∃t u v,h.get? a=some { cls:=.type "range",data:=.fields #[.int lo t,.int hi u,.int 1 v] }
 | .frz o u=>h.get? a=some o∧ObjOk H h a u
 | .tbl ps=>h.get? a=some { cls:=.none,data:=.fields ps }
 | .met f x=>h.get? a=some (PySem.W.methodObj (.ref f) (.ref x))
 | .ext φ=>φ h∧(∃o,h.get? a=some o)∧∀h1 h2:Heap,φ h1->(∀o,h1.get? a=some o->h2.get? a=some o)->φ h2
def HOk (H:Hp) (h:Heap):Prop:=∀a o,H a=some o->ObjOk P w H h a o
end
section
variable {P:Program} {w:World} {H H':Hp} {h h':Heap} {a:Addr} {o:HO}
theorem ObjOk.lt (x:ObjOk P w H h a o):a < h.objs.size:=by
 cases o with
 | lst xs=>obtain ⟨_,_,_,_,e⟩:=x;exact Heap.lt_size e
 | tup xs=>obtain ⟨_,_,_,p⟩:=x;exact p.lt
 | dK kvs=>obtain ⟨_,_,_,_,o,_,_,e,_⟩:=x;exact Heap.lt_size e
 | dT kvs=>obtain ⟨_,_,_,_,o,_,_,e,_⟩:=x;exact Heap.lt_size e
 | set S n=>obtain ⟨o,_,_,_,e,_⟩:=x;exact Heap.lt_size e
 | ins C dx fs=>obtain ⟨_,_,_,e,_⟩:=x;exact Heap.lt_size e
 | own y=>obtain ⟨_,e⟩:=x;exact Heap.lt_size e
 | xd fs=>obtain ⟨_,⟨_,_,_,e,_⟩,_⟩:=x;exact Heap.lt_size e
 | rng lo hi=>obtain ⟨_,_,_,e⟩:=x;exact Heap.lt_size e
 | frz ob u=>obtain ⟨e,_⟩:=x;exact Heap.lt_size e
 | tbl ps=>exact Heap.lt_size (show h.get? a=some _ from x)
 | met f y=>exact Heap.lt_size (show h.get? a=some _ from x)
 | ext φ=>obtain ⟨_,⟨_,e⟩,_⟩:=x;exact Heap.lt_size e
theorem Paired.mapP {α β:Type} {F G:α->β->Prop}:∀{l₁:List α} {l₂:List β},Paired F l₁ l₂->(∀a b,F a b->G a b)->Paired G l₁ l₂
 | _,_,.nil,_=>.nil
 | _,_,.cons r t,f=>.cons (f _ _ r) (Paired.mapP t f)
theorem Paired.imp' {α β:Type} {F G:α->β->Prop} (f:∀a b,F a b->G a b) {l₁:List α} {l₂:List β} (r:Paired F l₁ l₂):Paired G l₁ l₂:=Paired.mapP r f
theorem ObjOk.stay (x:ObjOk P w H h a o) (k:∀b u,(b=a∨H b=some (.own a))->h.get? b=some u->h'.get? b=some u)
  (ho:∀b,H b=some (.own a)->H' b=some (.own a)) (ht:∀b xs,H b=some (.tup xs)->H' b=some (.tup xs)):ObjOk P w H' h' a o:=by
 induction o with
 | lst xs=>obtain ⟨z,its,n,r,e⟩:=x;exact ⟨z,its,n,r,k _ _ (.inl rfl) e⟩
 | tup xs=>obtain ⟨z,its,r,ob,e,c⟩:=x;exact ⟨z,its,r,ob,k _ _ (.inl rfl) e,c⟩
 | dK kvs=>obtain ⟨z,y,vs,r,ob,es,ep,e,c⟩:=x;exact ⟨z,y,vs,r,ob,es,ep,k _ _ (.inl rfl) e,c⟩
 | dT kvs =>
  obtain ⟨z,y,xs,r,ob,es,ep,e,c⟩:=x
  exact ⟨z,y,xs,Paired.mapP r fun p q z=>⟨z.1,ht _ _ z.2.1,z.2.2⟩,ob,es,ep,k _ _ (.inl rfl) e,c⟩
 | set S n=>obtain ⟨ob,es,ep,t,e,c⟩:=x;exact ⟨ob,es,ep,t,k _ _ (.inl rfl) e,c⟩
 | ins C dx fs =>
  obtain ⟨d,z,ne,e,mA,⟨od,es,ep,e2,c⟩,r⟩:=x
  exact ⟨ho _ d,z,ne,k _ _ (.inl rfl) e,mA,⟨od,es,ep,k _ _ (.inr d) e2,c⟩,r⟩
 | own y=>obtain ⟨ob,e⟩:=x;exact ⟨ob,k _ _ (.inl rfl) e⟩
 | xd fs=>obtain ⟨mA,⟨od,es,ep,e,c⟩,r⟩:=x;exact ⟨mA,⟨od,es,ep,k _ _ (.inl rfl) e,c⟩,r⟩
 | rng lo hi=>obtain ⟨t,u,v,e⟩:=x;exact ⟨t,u,v,k _ _ (.inl rfl) e⟩
 | frz ob u ih=>obtain ⟨e,q⟩:=x;exact ⟨k _ _ (.inl rfl) e,ih q⟩
 | tbl ps =>
  have e:h.get? a=some { cls:=.none,data:=.fields ps }:=x
  show h'.get? a=some { cls:=.none,data:=.fields ps }
  exact k a _ (.inl rfl) e
 | met f y =>
  have e:h.get? a=some (PySem.W.methodObj (.ref f) (.ref y)):=x
  show h'.get? a=some (PySem.W.methodObj (.ref f) (.ref y))
  exact k a _ (.inl rfl) e
 | ext φ=>obtain ⟨p,⟨o,e⟩,st⟩:=x;exact ⟨st _ _ p fun o q=>k _ _ (.inl rfl) q,⟨o,k _ _ (.inl rfl) e⟩,st⟩
theorem HOk.lt (x:HOk P w H h) (e:H a=some o):a < h.objs.size:=(x a o e).lt
theorem HOk.fresh (x:HOk P w H h) (e:h.objs.size<=a):H a=none:=by
 cases q:H a with
 | none=>rfl
 | some u=>exact absurd (Nat.lt_of_lt_of_le (x.lt q) e) (Nat.lt_irrefl _)
theorem HOk.kept (x:HOk P w H h) (k:∀b u,h.get? b=some u->h'.get? b=some u):HOk P w H h':=fun a o e =>
 (x a o e).stay (fun b u _ q=>k b u q) (fun _ q=>q) fun _ _ q=>q
theorem HOk.laid (x:HOk P w H h) (k:∀b u,h.get? b=some u->h'.get? b=some u) (hp:h.objs.size<=a) (new:ObjOk P w (upd H a o) h' a o):HOk P w (upd H a o) h':=fun b u e=>by
 have hn:=x.fresh hp
 by_cases hb:b=a
 ·subst hb;rw[upd_same] at e;cases e;exact new
 ·rw[upd_ne hb] at e
  exact (x b u e).stay (fun c v _ q=>k c v q) (fun c q=>by rw[upd_ne (ne_of_none q hn)];exact q) fun c xs q=>by rw[upd_ne (ne_of_none q hn)];exact q
end
def Rd (H:Hp) (a:Addr) (u:HO):Prop:=H a=some u∨∃o,H a=some (.frz o u)
theorem Rd.ok {P:Program} {w:World} {H:Hp} {h:Heap} {a:Addr} {u:HO} (r:Rd H a u) (x:HOk P w H h):ObjOk P w H h a u:=by
 rcases r with r | ⟨o,r⟩
 ·exact x a u r
 ·obtain ⟨_,q⟩:=x a _ r
  exact q
def Mut:Option HO->Prop
 | some (.lst _)=>True
 | some (.dK _)=>True
 | some (.dT _)=>True
 | some (.set _ _)=>True
 | some (.ins _ _ _)=>True
 | some (.ext _)=>True
 | _=>False
section
variable {P:Program} {w:World} {H:Hp} {h h':Heap} {x e:Addr} {o':HO}
theorem HOk.write (ok:HOk P w H h) (mu:Mut (H x)) (he:e=x∨H e=some (.own x)) (k:∀b u,b≠e->h.get? b=some u->h'.get? b=some u) (heo:∃u,h'.get? e=some u)
  (new:ObjOk P w (upd H x o') h' x o'):HOk P w (upd H x o') h':=fun b u q=>by
 have nown:∀c y,H c=some (.own y)->c≠x:=fun c y r z=>by subst z;rw[r] at mu;exact mu
 have ntup:∀c xs,H c=some (.tup xs)->c≠x:=fun c xs r z=>by subst z;rw[r] at mu;exact mu
 by_cases hb:b=x
 ·subst hb;rw[upd_same] at q;cases q;exact new
 ·rw[upd_ne hb] at q
  by_cases hbe:b=e
  ·have q':H b=some (.own x):=by
    rcases he with z | z
    ·exact absurd (hbe.trans z) hb
    ·rw[hbe];exact z
   rw[q] at q';cases q'
   obtain ⟨v,hv⟩:=heo
   exact ⟨v,by rw[hbe];exact hv⟩
  ·refine (ok b u q).stay (fun c v hc r=>k c v ?_ r) (fun c r=>by rw[upd_ne (nown c b r)];exact r) fun c xs r=>by rw[upd_ne (ntup c xs r)];exact r
   rcases hc with rfl | hc
   ·exact hbe
   ·rintro rfl
    rcases he with z | z
    ·exact nown c b hc z
    ·rw[hc] at z;cases z;exact hb rfl
end
structure Un (fs ex:List Addr) (H H':Hp) (h h':Heap):Prop where
 keep:∀b o,h.get? b=some o->H b=none->b∉fs->b∉ex->h'.get? b=some o
 slot:∀b o,h.get? b=some o->H b=none->b∈fs->b∉ex->∃sl,h'.get? b=some { o with slots:=sl }
 free:∀b o,h.get? b=some o->H b=none->b∉ex->H' b=none
 there:∀b o,h.get? b=some o->b∉ex->∃o',h'.get? b=some o'
 tups:∀b xs,H b=some (.tup xs)->H' b=some (.tup xs)
 frzs:∀b o u,H b=some (.frz o u)->H' b=some (.frz o u)
 tbls:∀b ps,H b=some (.tbl ps)->∃more,H' b=some (.tbl (ps++more))
section
variable {fs fs' ex ex':List Addr} {H H1 H2:Hp} {h h1 h2 h':Heap} {a x e:Addr} {o:HO}
theorem Un.any (u:Un fs ex H H1 h h1) {b:Addr} {ob:Obj} (q:h.get? b=some ob) (n:H b=none) (hx:b∉ex):∃sl,h1.get? b=some { ob with slots:=sl }:=by
 by_cases hb:b∈fs
 ·exact u.slot b ob q n hb hx
 ·exact ⟨ob.slots,u.keep b ob q n hb hx⟩
theorem Un.kept (k:∀b u,h.get? b=some u->h'.get? b=some u):Un fs ex H H h h' :=
 ⟨fun b ob q _ _ _=>k b ob q,fun b ob q _ _ _=>⟨ob.slots,k b ob q⟩,fun _ _ _ n _=>n,fun b ob q _=>⟨ob,k b ob q⟩,fun _ _ q=>q,fun _ _ _ q=>q,fun _ ps q=>⟨#[],by rw[q];simp⟩⟩
theorem Un.refl:Un fs ex H H h h:=Un.kept fun _ _ q=>q
theorem Un.laid (k:∀b u,h.get? b=some u->h'.get? b=some u) (hp:h.objs.size<=a) (hn:H a=none):Un fs ex H (upd H a o) h h' where
 keep:=fun b u q _ _ _=>k b u q
 slot:=fun b u q _ _ _=>⟨u.slots,k b u q⟩
 free:=fun b u q n _=>by rw[upd_ne (Nat.ne_of_lt (Nat.lt_of_lt_of_le (Heap.lt_size q) hp))];exact n
 there:=fun b u q _=>⟨u,k b u q⟩
 tups:=fun b xs q=>by rw[upd_ne (ne_of_none q hn)];exact q
 frzs:=fun b u xs q=>by rw[upd_ne (ne_of_none q hn)];exact q
 tbls:=fun b ps q=>⟨#[],by rw[upd_ne (ne_of_none q hn),q];simp⟩
theorem Un.write (mu:Mut (H x)) (he:e=x∨H e=some (.own x)) (k:∀b u,b≠e->h.get? b=some u->h'.get? b=some u) (heo:∃u,h'.get? e=some u):Un fs ex H (upd H x o) h h':=by
 have hx:∀b,H b=none->b≠x:=fun b n z=>by subst z;rw[n] at mu;exact mu
 have hb:∀b,H b=none->b≠e:=fun b n z=>by
  subst z
  rcases he with r | r
  ·exact hx b n r
  ·rw[n] at r;cases r
 have hm:∀b u,H b=some u->¬Mut (some u)->b≠x:=fun b u q nm z=>by subst z;rw[q] at mu;exact nm mu
 refine ⟨fun b u q n _ _=>k b u (hb b n) q,fun b u q n _ _=>⟨u.slots,k b u (hb b n) q⟩,fun b u q n _=>by rw[upd_ne (hx b n)];exact n,fun b u q _=>?_,
  fun b xs q=>by rw[upd_ne (hm b _ q fun z=>z)];exact q,fun b u xs q=>by rw[upd_ne (hm b _ q fun z=>z)];exact q,fun b ps q=>⟨#[],by rw[upd_ne (hm b _ q fun z=>z),q];simp⟩⟩
 by_cases hbe:b=e
 ·subst hbe;exact heo
 ·exact ⟨u,k b u hbe q⟩
end
def trk (h:Heap) (H:Hp):List Addr:=(List.range h.objs.size).filter fun a=>(H a).isSome
def hidT (h:Heap) (H:Hp):Heap:=PySem.W.hideAll h (trk h H)
theorem hidT_size (h:Heap) (H:Hp):(hidT h H).objs.size=h.objs.size:=PySem.W.hideAll_size _ _
theorem hidT_get {h:Heap} {H:Hp} {b:Addr} {o:Obj} (e:h.get? b=some o) (n:H b=none):(hidT h H).get? b=some o :=
 PySem.W.hideAll_get _ e fun hm=>by
  have q:(H b).isSome=true:=(List.mem_filter.mp hm).2
  rw[n] at q;simp at q
theorem of_hidT {h:Heap} {H:Hp} {b:Addr} {o:Obj} (e:(hidT h H).get? b=some o):h.get? b=some o∧H b=none:=by
 have e':h.get? b=some o:=PySem.W.of_hideAll (trk h H) e
 refine ⟨e',?_⟩
 cases q:H b with
 | none=>rfl
 | some x =>
  have hm:b∈trk h H:=List.mem_filter.mpr ⟨List.mem_range.mpr (Heap.lt_size e'),by simp [q]⟩
  have z:(hidT h H).get? b=none:=PySem.W.hideAll_none (trk h H) hm
  rw[z] at e;cases e
end L2
namespace L2
open PySem PySem.Spec PyProof.Rows
structure Mod (K:PySem.W.Frag) (mg:Str->Option Value) (base:Heap):Prop where
 kin:K.In base
 glob:base.Ns mainGlobals mg
 blt:∃mb,base.Ns builtinsNs mb∧∀x:Str,x≠"__name__"->mb x=bootBuiltins x
 nolimit:base.NoLimit
 nodig:base.NoDigits
structure Cx where
 prog:Program
 w:World
 K:PySem.W.Frag
 mg:Str->Option Value
 base:Heap
 A:Around
 N:List Str
 s₀:Shared
 H₀:Hp
 env:Env
 outer:List Env
 stack:List Env
 ex:List Addr
 fn:Str->Bool
 calm:Bool
 pn:List (Addr×Obj)
 xe:Value->Shared->Prop
def frs (l:List Env):List Addr:=l.filterMap (·.frame)
abbrev Cx.fs (X:Cx):List Addr:=frs X.outer
def Vis (sc:Scope) (x:Str):Prop:=sc.names.lookup x=some .local∨sc.names.lookup x=some .cell∨sc.names.lookup x=some .free
def Loc (sc:Scope) (x:Str):Prop:=sc.names.lookup x=some .local∨sc.names.lookup x=some .cell
def Look (env:Env) (h:Heap) (m:Str->Option Value) (x:Str) (u:Value):Prop :=
 (env.kindOf x=some .local∧m x=some u)∨((env.kindOf x=some .cell∨env.kindOf x=some .free)∧∃c,env.cells.lookup x=some c∧h.IsCell c (some u))
structure Cx.Ok (X:Cx):Prop where
 mod:Mod X.K X.mg X.base
 kind:X.env.scope.kind=.function
 glob:X.env.globals=mainGlobals
 blt:X.env.builtins=builtinsNs
 above:X.s₀.heap.objs.size<=X.env.locals
 inj:∀x y c,X.env.cells.lookup x=some c->X.env.cells.lookup y=some c->x=y
 has:∀x,(X.env.kindOf x=some .cell∨X.env.kindOf x=some .free)->∃c,X.env.cells.lookup x=some c
 cab:∀x c,X.fn x=true->X.env.cells.lookup x=some c->X.s₀.heap.objs.size<=c
 hd:X.calm=true->X.A.handled=none
 frames:X.A.frames=some X.stack
 stk:X.stack=X.outer∨(X.stack=X.env :: X.outer∧X.env.frame=some X.env.locals)
 exf:∀b∈X.ex,b≠X.env.locals∧∀x c,X.env.cells.lookup x=some c->c≠b
 bs:∀b o,X.base.get? b=some o->X.s₀.heap.get? b=some o∧X.H₀ b=none
 bsz:X.base.objs.size<=X.s₀.heap.objs.size
 noex:∀b o,X.base.get? b=some o->b∉X.ex
 exfs:∀b∈X.ex,b∉X.fs
 funs:X.s₀.heap.FunFrames X.base X.outer
 frf:∀b∈X.fs,X.H₀ b=none
structure Inv (X:Cx) (pins:List (Addr×Obj)) (σ:List (Option V)) (H:Hp) (s:Shared):Prop where
 ok:X.Ok
 os:s.os=X.s₀.os
 bare:AllBare s.gens
 base:Un X.fs X.ex X.H₀ H X.s₀.heap s.heap
 loc:∃m,s.heap.Ns X.env.locals m∧∀(i:Nat) (x:Str) (v:V),X.N[i]?=some x->σ[i]?=some (some v)->Vis X.env.scope x->∃u,RelV v u∧Look X.env s.heap m x u
 cell:∀x c,X.env.cells.lookup x=some c->∃v,s.heap.IsCell c v
 free:H X.env.locals=none
 freeC:∀x c,X.env.cells.lookup x=some c->H c=none
 pin:∀p∈X.pn++pins,s.heap.get? p.1=some p.2∧H p.1=none∧p.1≠X.env.locals∧p.1∉X.fs∧∀v,p.2.data≠.cell v
 hok:HOk X.prog X.w H s.heap
 len:σ.length=X.N.length
section
variable {X:Cx} {pins:List (Addr×Obj)} {σ:List (Option V)} {H H':Hp} {s:Shared} {h':Heap}
theorem Cx.Ok.nofr (ok:X.Ok) {b:Addr} {o:Obj} (e:X.base.get? b=some o):b∉X.fs:=fun hb=>by
 have:=(ok.funs.mem hb).1
 rw[e] at this;cases this
theorem Inv.bs (I:Inv X pins σ H s):∀b o,X.base.get? b=some o->s.heap.get? b=some o∧H b=none:=fun b o e =>
 ⟨I.base.keep b o (I.ok.bs b o e).1 (I.ok.bs b o e).2 (I.ok.nofr e) (I.ok.noex b o e),I.base.free b o (I.ok.bs b o e).1 (I.ok.bs b o e).2 (I.ok.noex b o e)⟩
theorem Inv.bk (I:Inv X pins σ H s):∀b o,X.base.get? b=some o->s.heap.get? b=some o:=fun b o e=>(I.bs b o e).1
theorem Inv.mod (I:Inv X pins σ H s):Mod X.K X.mg X.base:=I.ok.mod
theorem Inv.kIn (I:Inv X pins σ H s):X.K.In s.heap:=I.ok.mod.kin.keeps I.bk
theorem Inv.lt (I:Inv X pins σ H s):X.env.locals < s.heap.objs.size:=let ⟨_,hn,_⟩:=I.loc;hn.lt
theorem Inv.sz (I:Inv X pins σ H s):X.s₀.heap.objs.size<=s.heap.objs.size:=Nat.le_trans I.ok.above (Nat.le_of_lt I.lt)
theorem Inv.nofs (I:Inv X pins σ H s) {a:Addr} (h:s.heap.objs.size<=a):a∉X.fs:=fun hb=>by
 obtain ⟨_,o,ho,_⟩:=I.ok.funs.mem hb
 exact absurd (Nat.lt_of_lt_of_le (Heap.lt_size ho) (Nat.le_trans I.sz h)) (Nat.lt_irrefl _)
theorem Inv.cne (I:Inv X pins σ H s):∀x c,X.env.cells.lookup x=some c->c≠X.env.locals:=fun x c e z=>by
 obtain ⟨v,o,ho,hd⟩:=I.cell x c e
 obtain ⟨m,⟨o',es,ep,ho',hd',_⟩,_⟩:=I.loc
 rw[z,ho'] at ho;cases ho;rw[hd'] at hd;cases hd
theorem Inv.funs (I:Inv X pins σ H s):s.heap.FunFrames X.base X.outer:=by
 have all:∀(l:List Env),(∀b∈frs l,b∈X.fs)->X.s₀.heap.FunFrames X.base l->s.heap.FunFrames X.base l:=by
  intro l
  induction l with
  | nil=>intro _ _;trivial
  | cons env r ih =>
   intro hs hl
   obtain ⟨hk,⟨L,o,hf,hn,ho,hd⟩,hr⟩:=hl
   have hL:L∈X.fs:=hs L (by unfold frs;rw[List.filterMap_cons,hf];exact List.mem_cons_self)
   obtain ⟨sl,e⟩:=I.base.slot L o ho (I.ok.frf L hL) hL fun z=>I.ok.exfs L z hL
   exact ⟨hk,⟨L,_,hf,hn,e,hd⟩,ih (fun b hb=>hs b (by unfold frs;rw[List.filterMap_cons,hf];exact List.mem_cons_of_mem _ hb)) hr⟩
 exact all X.outer (fun _ hb=>hb) I.ok.funs
theorem Inv.stack (I:Inv X pins σ H s):s.heap.FunFrames X.base X.stack:=by
 rcases I.ok.stk with e | ⟨e,hf⟩
 ·rw[e];exact I.funs
 ·rw[e]
  obtain ⟨m,hn,_⟩:=I.loc
  refine .cons (by rw[I.ok.kind];decide) hf hn ?_ I.funs
  exact Heap.get?_none_of_le (Nat.le_trans I.ok.bsz I.ok.above)
theorem Inv.stkSub (I:Inv X pins σ H s):∀b∈frs X.stack,b∈X.env.locals :: X.fs:=fun b hb=>by
 rcases I.ok.stk with e | ⟨e,hf⟩
 ·rw[e] at hb;exact List.mem_cons_of_mem _ hb
 ·rw[e] at hb
  unfold frs at hb
  rw[List.filterMap_cons,hf] at hb
  exact hb
theorem Inv.stkFree (I:Inv X pins σ H s):∀b∈frs X.stack,H b=none:=fun b hb=>by
 rcases List.mem_cons.mp (I.stkSub b hb) with e | hb
 ·rw[e];exact I.free
 ·obtain ⟨_,o,ho,_⟩:=I.ok.funs.mem hb
  exact I.base.free b o ho (I.ok.frf b hb) fun z=>I.ok.exfs b z hb
theorem Inv.step {g':Array GenState} {t':Nat} {d':Drawn} {ch:List Addr} (I:Inv X pins σ H s)
  (hch:∀b∈ch,(b∈X.ex∨X.s₀.heap.objs.size<=b)∧b≠X.env.locals∧(∀x c,X.env.cells.lookup x=some c->c≠b)∧∀p∈X.pn++pins,p.1≠b)
  (keep:∀b o,b≠X.env.locals->b∉X.fs->b∉ch->s.heap.get? b=some o->H b=none->h'.get? b=some o)
  (slot:∀b o,b≠X.env.locals->b∈X.fs->b∉ch->s.heap.get? b=some o->H b=none->∃sl,h'.get? b=some { o with slots:=sl }) (free:∀b o,b∉ch->s.heap.get? b=some o->H b=none->H' b=none)
  (there:∀b o,b∉ch->s.heap.get? b=some o->∃o',h'.get? b=some o')
  (tups:∀b xs,H b=some (.tup xs)->H' b=some (.tup xs)) (frzs:∀b o u,H b=some (.frz o u)->H' b=some (.frz o u)) (tbls:∀b ps,H b=some (.tbl ps)->∃more,H' b=some (.tbl (ps++more)))
  (ns:∀m,s.heap.Ns X.env.locals m->h'.Ns X.env.locals m) (hok:HOk X.prog X.w H' h') (hg:AllBare g') :
  Inv X pins σ H' { s with heap:=h',gens:=g',drawn:=d',toks:=t' }:=by
 have neL:∀b o,X.s₀.heap.get? b=some o->b≠X.env.locals:=fun b o e=>Nat.ne_of_lt (Nat.lt_of_lt_of_le (Heap.lt_size e) I.ok.above)
 have neC:∀b o,X.s₀.heap.get? b=some o->b∉X.ex->b∉ch:=fun b o e hx hb=>by
  rcases (hch b hb).1 with z | z
  ·exact hx z
  ·exact absurd (Nat.lt_of_lt_of_le (Heap.lt_size e) z) (Nat.lt_irrefl _)
 have cellK:∀x c,X.env.cells.lookup x=some c->∀v,s.heap.IsCell c v->h'.IsCell c v:=fun x c e v ⟨o,ho,hd⟩=>by
  have nch:c∉ch:=fun z=>(hch c z).2.2.1 x c e rfl
  by_cases hc:c∈X.fs
  ·obtain ⟨sl,q⟩:=slot c o (I.cne x c e) hc nch ho (I.freeC x c e)
   exact ⟨_,q,hd⟩
  ·exact ⟨o,keep c o (I.cne x c e) hc nch ho (I.freeC x c e),hd⟩
 refine ⟨I.ok,I.os,hg,⟨fun b o e n hb hx=>?_,fun b o e n hb hx=>?_,fun b o e n hx=>?_,fun b o e hx=>?_,fun b xs e=>tups b xs (I.base.tups b xs e),fun b o xs e=>frzs b o xs (I.base.frzs b o xs e),fun b ps e=>?_⟩,?_,fun x c e=>?_,?_,fun x c e=>?_,fun p hp=>?_,hok,I.len⟩
 ·exact keep b o (neL b o e) hb (neC b o e hx) (I.base.keep b o e n hb hx) (I.base.free b o e n hx)
 ·obtain ⟨sl,e1⟩:=I.base.slot b o e n hb hx
  obtain ⟨sl',e2⟩:=slot b _ (neL b o e) hb (neC b o e hx) e1 (I.base.free b o e n hx)
  exact ⟨sl',e2⟩
 ·obtain ⟨o',e1⟩:=I.base.there b o e hx
  exact free b o' (neC b o e hx) e1 (I.base.free b o e n hx)
 ·obtain ⟨o',e1⟩:=I.base.there b o e hx
  exact there b o' (neC b o e hx) e1
 ·obtain ⟨m1,e1⟩:=I.base.tbls b ps e
  obtain ⟨m2,e2⟩:=tbls b _ e1
  exact ⟨m1++m2,by rw[e2,Array.append_assoc]⟩
 ·obtain ⟨m,hn,hl⟩:=I.loc
  refine ⟨m,ns m hn,fun i x v e1 e2 e3=>?_⟩
  obtain ⟨u,r,l⟩:=hl i x v e1 e2 e3
  refine ⟨u,r,?_⟩
  rcases l with l | ⟨k,c,e,z⟩
  ·exact .inl l
  ·exact .inr ⟨k,c,e,cellK x c e _ z⟩
 ·obtain ⟨v,z⟩:=I.cell x c e
  exact ⟨v,cellK x c e v z⟩
 ·obtain ⟨m,⟨o,_,_,ho,_⟩,_⟩:=I.loc
  exact free _ o (fun z=>(hch _ z).2.1 rfl) ho I.free
 ·obtain ⟨v,o,ho,hd⟩:=I.cell x c e
  exact free c o (fun z=>(hch c z).2.2.1 x c e rfl) ho (I.freeC x c e)
 ·obtain ⟨e,n,ne,nf,d⟩:=I.pin p hp
  have nch:p.1∉ch:=fun z=>(hch p.1 z).2.2.2 p hp rfl
  exact ⟨keep p.1 p.2 ne nf nch e n,free p.1 p.2 nch e n,ne,nf,d⟩
theorem Inv.un {t':Nat} (I:Inv X pins σ H s) (u:Un X.fs [] H H' s.heap h') (hok:HOk X.prog X.w H' h'):Inv X pins σ H' { s with heap:=h',toks:=t' }:=by
 obtain ⟨m,⟨o,es,ep,ho,r⟩,_⟩:=id I.loc
 obtain ⟨sl,hL⟩:=u.any ho I.free (by simp)
 exact I.step (g':=s.gens) (d':=s.drawn) (ch:=[]) (fun _ z=>nomatch z) (fun b o _ hb _ e n=>u.keep b o e n hb (by simp)) (fun b o _ hb _ e n=>u.slot b o e n hb (by simp)) (fun b o _ e n=>u.free b o e n (by simp)) (fun b o _ e=>u.there b o e (by simp)) u.tups u.frzs u.tbls (fun m' hm=>by
  obtain ⟨o',es',ep',ho',r'⟩:=hm
  rw[ho] at ho';cases ho'
  exact ⟨_,es',ep',hL,r'⟩) hok I.bare
theorem Inv.call {g':Array GenState} {t':Nat} {d':Drawn} {ch:List Addr} (I:Inv X pins σ H s) (u:Un (frs X.stack) ch H H' s.heap h') (hok:HOk X.prog X.w H' h') (hg:AllBare g')
  (hch:∀b∈ch,(b∈X.ex∨X.s₀.heap.objs.size<=b)∧b≠X.env.locals∧(∀x c,X.env.cells.lookup x=some c->c≠b)∧∀p∈X.pn++pins,p.1≠b) :
  Inv X pins σ H' { s with heap:=h',gens:=g',drawn:=d',toks:=t' }:=by
 obtain ⟨m,⟨o,es,ep,ho,r⟩,_⟩:=id I.loc
 obtain ⟨sl,hL⟩:=u.any ho I.free fun z=>(hch _ z).2.1 rfl
 exact I.step (ch:=ch) hch (fun b o hL hb hc e n=>u.keep b o e n (fun z=>(List.mem_cons.mp (I.stkSub b z)).elim hL hb) hc) (fun b o _ _ hc e n=>u.any e n hc) (fun b o hc e n=>u.free b o e n hc) (fun b o hc e=>u.there b o e hc) u.tups u.frzs u.tbls (fun m' hm=>by
  obtain ⟨o',es',ep',ho',r'⟩:=hm
  rw[ho] at ho';cases ho'
  exact ⟨_,es',ep',hL,r'⟩) hok hg
theorem Inv.turned {t':Nat} {it:Addr} (I:Inv X pins σ H s) (k:∀b o,b≠it->s.heap.get? b=some o->h'.get? b=some o) (hn:H it=none) (hL:it≠X.env.locals)
  (h1:it∈X.ex∨X.s₀.heap.objs.size<=it) (h2:∀x c,X.env.cells.lookup x=some c->c≠it) (h3:∀p∈X.pn++pins,p.1≠it):Inv X pins σ H { s with heap:=h',toks:=t' }:=by
 have nit:∀b u,H b=some u->b≠it:=fun b u e z=>by rw[z,hn] at e;cases e
 refine I.step (g':=s.gens) (d':=s.drawn) (ch:=[it]) (fun b hb=>?_) (fun b o _ _ hc e _=>k b o (fun z=>hc (by simp [z])) e) (fun b o _ _ hc e _=>⟨o.slots,k b o (fun z=>hc (by simp [z])) e⟩) (fun _ _ _ _ n=>n)
  (fun b o hc e=>⟨o,k b o (fun z=>hc (by simp [z])) e⟩) (fun _ _ e=>e) (fun _ _ _ e=>e) (fun b ps e=>⟨#[],by rw[e];simp⟩) (fun m hm=>?_) (fun b u e=>?_) I.bare
 ·have e:b=it:=by simpa using hb
  subst e
  exact ⟨h1,hL,h2,h3⟩
 ·obtain ⟨o,es,ep,ho,r⟩:=hm
  exact ⟨o,es,ep,k _ o (Ne.symm hL) ho,r⟩
 ·refine (I.hok b u e).stay (fun c v hc q=>k c v ?_ q) (fun _ q=>q) fun _ _ q=>q
  rcases hc with z | z
  ·rw[z];exact nit b u e
  ·exact nit c _ z
theorem Inv.tok (I:Inv X pins σ H s) (t:Nat):Inv X pins σ H { s with toks:=t }:=I.un (h':=s.heap) (t':=t) Un.refl I.hok
theorem Inv.kept {t':Nat} (I:Inv X pins σ H s) (k:∀b u,s.heap.get? b=some u->h'.get? b=some u):Inv X pins σ H { s with heap:=h',toks:=t' }:=I.un (Un.kept k) (I.hok.kept k)
theorem Inv.laid {a:Addr} {o:HO} {t':Nat} (I:Inv X pins σ H s) (k:∀b u,s.heap.get? b=some u->h'.get? b=some u) (hp:s.heap.objs.size<=a) (new:ObjOk X.prog X.w (upd H a o) h' a o) :
  Inv X pins σ (upd H a o) { s with heap:=h',toks:=t' }:=I.un (Un.laid k hp (I.hok.fresh hp)) (I.hok.laid k hp new)
theorem Inv.write {x e:Addr} {o:HO} {t':Nat} (I:Inv X pins σ H s) (mu:Mut (H x)) (he:e=x∨H e=some (.own x)) (k:∀b u,b≠e->s.heap.get? b=some u->h'.get? b=some u) (heo:∃u,h'.get? e=some u)
  (new:ObjOk X.prog X.w (upd H x o) h' x o):Inv X pins σ (upd H x o) { s with heap:=h',toks:=t' }:=I.un (Un.write mu he k heo) (I.hok.write mu he k heo new)
theorem Inv.pins_of {pins':List (Addr×Obj)} (I:Inv X pins σ H s) (h:∀p∈pins',s.heap.get? p.1=some p.2∧H p.1=none∧p.1≠X.env.locals∧p.1∉X.fs∧∀v,p.2.data≠.cell v):Inv X pins' σ H s :=
 ⟨I.ok,I.os,I.bare,I.base,I.loc,I.cell,I.free,I.freeC,fun p hp=>(List.mem_append.mp hp).elim (fun z=>I.pin p (List.mem_append_left _ z)) (h p),I.hok,I.len⟩
theorem nodup_ix {N:List Str} (hN:N.Nodup) {i j:Nat} {x:Str} (a:N[i]?=some x) (b:N[j]?=some x):i=j:=by
 obtain ⟨h1,e1⟩:=List.getElem?_eq_some_iff.mp a
 obtain ⟨h2,e2⟩:=List.getElem?_eq_some_iff.mp b
 exact (List.getElem_inj hN).mp (e1.trans e2.symm)
theorem store_ok2 {M:Model} {A:Around} {E:Value->Shared->Prop} {i:Nat} {x:Str} {v:V} {u:Value} {Q:Unit->Shared->Prop} (I:Inv X pins σ H s) (hN:X.N.Nodup) (hi:X.N[i]?=some x) (hx:Loc X.env.scope x) (r:RelV v u)
  (h:∀s',Inv X pins (σ.set i (some v)) H s'->(∃a,Heap.SameBut a s.heap s'.heap∧(a=X.env.locals∨X.env.cells.lookup x=some a))->Q () s') (hf:X.fn x=true∨X.env.scope.names.lookup x=some .local:=by first | exact .inl rfl | exact .inr rfl | assumption):wpAny M A (storeName X.env x u) Q E s:=by
 obtain ⟨m,hn,hl⟩:=id I.loc
 have hcls:(X.env.scope.kind == .class || (X.env.scope.kind == .module && X.env.locals != X.env.globals))=false:=by rw[I.ok.kind];rfl
 have hiσ:i < σ.length:=by rw[I.len];exact (List.getElem?_eq_some_iff.mp hi).1
 have cne:=I.cne
 have tracked:∀{a:Addr} {h':Heap},(∃o,s.heap.get? a=some o∧H a=none)->Heap.SameBut a s.heap h'->HOk X.prog X.w H h':=fun {a h'} ha hs b ob e=>by
  obtain ⟨_,_,hfree⟩:=ha
  refine (I.hok b ob e).stay (fun c w' hc q=>(hs.2 c ?_).trans q) (fun _ q=>q) fun _ _ q=>q
  rintro rfl
  rcases hc with rfl | hc
  ·rw[hfree] at e;cases e
  ·rw[hfree] at hc;cases hc
 rcases hx with hk | hk
 ·refine wpAny_storeName_local hk hn (fun h' hn' hs=>?_) hcls
  obtain ⟨oL,_,_,hoL,_⟩:=id hn
  refine h _ ⟨I.ok,I.os,I.bare,⟨fun b o e n hb hx=>?_,fun b o e n hb hx=>?_,I.base.free,fun b o e hx=>?_,I.base.tups,I.base.frzs,I.base.tbls⟩,⟨_,hn',fun j y v' e1 e2 e3=>?_⟩,fun y c e=>?_,I.free,I.freeC,fun p hp=>?_,tracked ⟨oL,hoL,I.free⟩ hs,by simpa using I.len⟩ ⟨_,hs,.inl rfl⟩
  ·exact (hs.2 b (Nat.ne_of_lt (Nat.lt_of_lt_of_le (Heap.lt_size e) I.ok.above))).trans (I.base.keep b o e n hb hx)
  ·obtain ⟨sl,e1⟩:=I.base.slot b o e n hb hx
   exact ⟨sl,(hs.2 b (Nat.ne_of_lt (Nat.lt_of_lt_of_le (Heap.lt_size e) I.ok.above))).trans e1⟩
  ·obtain ⟨o',e1⟩:=I.base.there b o e hx
   exact ⟨o',(hs.2 b (Nat.ne_of_lt (Nat.lt_of_lt_of_le (Heap.lt_size e) I.ok.above))).trans e1⟩
  ·by_cases hj:j=i
   ·subst hj
    rw[hi] at e1;cases e1
    rw[List.getElem?_set_self hiσ] at e2
    cases e2
    exact ⟨u,r,.inl ⟨hk,by simp⟩⟩
   ·rw[List.getElem?_set_ne (Ne.symm hj)] at e2
    obtain ⟨u',r',q⟩:=hl j y v' e1 e2 e3
    refine ⟨u',r',?_⟩
    rcases q with ⟨k,e⟩ | ⟨k,c,e,z⟩
    ·refine .inl ⟨k,?_⟩
     have:y≠x:=fun e=>hj (nodup_ix hN e1 (e ▸ hi))
     simp [this,e]
    ·exact .inr ⟨k,c,e,z.sameBut hs (cne y c e)⟩
  ·obtain ⟨w',z⟩:=I.cell y c e
   exact ⟨w',z.sameBut hs (cne y c e)⟩
  ·obtain ⟨e,n,ne,nf,d⟩:=I.pin p hp
   exact ⟨(hs.2 p.1 ne).trans e,n,ne,nf,d⟩
 ·have hfn:X.fn x=true:=by
   rcases hf with z | z
   ·exact z
   ·rw[z] at hk;cases hk
  obtain ⟨c,hc⟩:=I.ok.has x (.inl hk)
  obtain ⟨w',z⟩:=I.cell x c hc
  refine wpAny_storeName_cell I.ok.kind hk hc z (fun h' hc' hs=>?_)
  obtain ⟨oc,hoc,hocd⟩:=id z
  refine h { s with heap:=h' } ⟨I.ok,I.os,I.bare,⟨fun b o e n hb hx=>?_,fun b o e n hb hx=>?_,I.base.free,fun b o e hx=>?_,I.base.tups,I.base.frzs,I.base.tbls⟩,⟨m,hn.sameBut hs (Ne.symm (cne x c hc)),fun j y v' e1 e2 e3=>?_⟩,fun y c' e=>?_,I.free,I.freeC,fun p hp=>?_,tracked ⟨oc,hoc,I.freeC x c hc⟩ hs,by simpa using I.len⟩ ⟨c,hs,.inr hc⟩
  ·exact (hs.2 b (Nat.ne_of_lt (Nat.lt_of_lt_of_le (Heap.lt_size e) (I.ok.cab x c hfn hc)))).trans (I.base.keep b o e n hb hx)
  ·obtain ⟨sl,e1⟩:=I.base.slot b o e n hb hx
   exact ⟨sl,(hs.2 b (Nat.ne_of_lt (Nat.lt_of_lt_of_le (Heap.lt_size e) (I.ok.cab x c hfn hc)))).trans e1⟩
  ·obtain ⟨o',e1⟩:=I.base.there b o e hx
   exact ⟨o',(hs.2 b (Nat.ne_of_lt (Nat.lt_of_lt_of_le (Heap.lt_size e) (I.ok.cab x c hfn hc)))).trans e1⟩
  ·by_cases hj:j=i
   ·subst hj
    rw[hi] at e1;cases e1
    rw[List.getElem?_set_self hiσ] at e2
    cases e2
    exact ⟨u,r,.inr ⟨.inl hk,c,hc,hc'⟩⟩
   ·rw[List.getElem?_set_ne (Ne.symm hj)] at e2
    obtain ⟨u',r',q⟩:=hl j y v' e1 e2 e3
    refine ⟨u',r',?_⟩
    rcases q with q | ⟨k,c',e,z'⟩
    ·exact .inl q
    ·refine .inr ⟨k,c',e,z'.sameBut hs ?_⟩
     rintro rfl
     exact hj (nodup_ix hN e1 (I.ok.inj _ _ _ e hc ▸ hi))
  ·by_cases hcc:c'=c
   ·subst hcc;exact ⟨_,hc'⟩
   ·obtain ⟨w2,z2⟩:=I.cell y c' e
    exact ⟨w2,z2.sameBut hs hcc⟩
  ·obtain ⟨e,n,ne,nf,d⟩:=I.pin p hp
   refine ⟨(hs.2 p.1 ?_).trans e,n,ne,nf,d⟩
   intro q
   rw[q,hoc] at e
   have q':oc=p.2:=Option.some.inj e
   exact d w' (by rw[← q'];exact hocd)
theorem store_ok {M:Model} {A:Around} {E:Value->Shared->Prop} {i:Nat} {x:Str} {v:V} {u:Value} {Q:Unit->Shared->Prop} (I:Inv X pins σ H s) (hN:X.N.Nodup) (hi:X.N[i]?=some x) (hx:Loc X.env.scope x) (r:RelV v u)
  (h:∀s',Inv X pins (σ.set i (some v)) H s'->Q () s') (hf:X.fn x=true∨X.env.scope.names.lookup x=some .local:=by first | exact .inl rfl | exact .inr rfl | assumption):wpAny M A (storeName X.env x u) Q E s :=
 store_ok2 I hN hi hx r (fun s' I' _=>h s' I') hf
theorem Inv.call' {s':Shared} {ch:List Addr} (I:Inv X pins σ H s) (ho:s'.os=s.os) (u:Un (frs X.stack) ch H H' s.heap s'.heap) (hok:HOk X.prog X.w H' s'.heap) (hg:AllBare s'.gens)
  (hch:∀b∈ch,(b∈X.ex∨X.s₀.heap.objs.size<=b)∧b≠X.env.locals∧(∀x c,X.env.cells.lookup x=some c->c≠b)∧∀p∈X.pn++pins,p.1≠b):Inv X pins σ H' s':=by
 obtain ⟨h',g',d',t',o'⟩:=s'
 have e:o'=s.os:=ho
 subst e
 exact I.call (g':=g') (t':=t') (d':=d') u hok hg hch
end
abbrev XK:=Value->Option Addr->Hp->Prop
abbrev St:=List (Option V)
abbrev VK:=V->Hp->Prop
abbrev TE:=St->Hp->VK->Prop
abbrev TT:=St->Hp->(Bool->Hp->Prop)->Prop
abbrev TA:=St->Hp->(List V->Hp->Prop)->Prop
structure Ends where
 nx:St->Hp->Prop
 rt:VK
 bk:St->Hp->Prop:=fun _ _=>False
 ct:St->Hp->Prop:=fun _ _=>False
abbrev TS:=Ends->St->Hp->Prop
def EP (X:Cx) (pins:List (Addr×Obj)) (σ:St) (Q:VK) (u:Value) (s':Shared):Prop:=∃v H',Inv X pins σ H' s'∧RelV v u∧Q v H'
def TP (X:Cx) (pins:List (Addr×Obj)) (σ:St) (Q:Bool->Hp->Prop) (b:Bool) (s':Shared):Prop:=∃H',Inv X pins σ H' s'∧Q b H'
def AP (X:Cx) (pins:List (Addr×Obj)) (σ:St) (Q:List V->Hp->Prop) (us:List Value) (s':Shared):Prop:=∃vs H',Inv X pins σ H' s'∧Vals vs us∧Q vs H'
def SP (X:Cx) (pins:List (Addr×Obj)) (D:Ends) (f:Flow) (s':Shared):Prop :=
 match f with
 | .next=>∃σ' H',Inv X pins σ' H' s'∧D.nx σ' H'
 | .brk=>∃σ' H',Inv X pins σ' H' s'∧D.bk σ' H'
 | .cont=>∃σ' H',Inv X pins σ' H' s'∧D.ct σ' H'
 | .ret u=>∃v σ' H',Inv X pins σ' H' s'∧RelV v u∧D.rt v H'
def PE (X:Cx) (e:Expr) (t:TE):Prop :=
 ∀(pins:List (Addr×Obj)) (s:Shared) (σ:St) (H:Hp) (Q:VK),Inv X pins σ H s->t σ H Q->wpAny (model X.prog X.w) X.A (eval e X.env) (EP X pins σ Q) X.xe s
def PT (X:Cx) (e:Expr) (t:TT):Prop :=
 ∀(pins:List (Addr×Obj)) (s:Shared) (σ:St) (H:Hp) (Q:Bool->Hp->Prop),Inv X pins σ H s->t σ H Q->wpAny (model X.prog X.w) X.A (isTrue e X.env (eval e X.env)) (TP X pins σ Q) X.xe s
def PW (X:Cx) (e:Expr) (t:TT):Prop :=
 ∀(whole:Sem Value) (pins:List (Addr×Obj)) (s:Shared) (σ:St) (H:Hp) (Q:Bool->Hp->Prop),Inv X pins σ H s->t σ H Q->wpAny (model X.prog X.w) X.A (isTrue e X.env whole) (TP X pins σ Q) X.xe s
theorem PW.pt {X:Cx} {e:Expr} {t:TT} (h:PW X e t):PT X e t:=h _
def PA (X:Cx) (es:List Expr) (t:TA):Prop :=
 ∀(pos:Pos) (pins:List (Addr×Obj)) (s:Shared) (σ:St) (H:Hp) (Q:List V->Hp->Prop),Inv X pins σ H s->t σ H Q->wpAny (model X.prog X.w) X.A (spliced (backTo pos (starEach es X.env))) (AP X pins σ Q) X.xe s
def PS (X:Cx) (st:Stmt) (t:TS):Prop :=
 ∀(pins:List (Addr×Obj)) (s:Shared) (σ:St) (H:Hp) (D:Ends),Inv X pins σ H s->t D σ H->wpAny (model X.prog X.w) X.A (exec st X.env) (SP X pins D) X.xe s
def PSs (X:Cx) (st:List Stmt) (t:TS):Prop :=
 ∀(pins:List (Addr×Obj)) (s:Shared) (σ:St) (H:Hp) (D:Ends),Inv X pins σ H s->t D σ H->wpAny (model X.prog X.w) X.A (execs st X.env) (SP X pins D) X.xe s
theorem thn {α:Type} {t:Sem α} {Q Q':α->Shared->Prop} {M:Model} {A:Around} {E:Value->Shared->Prop} {s:Shared} (h:wpAny M A t Q E s) (hQ:∀a s,Q a s->Q' a s):wpAny M A t Q' E s:=wpAny_mono h hQ fun _ _ x=>x
end L2
namespace L2
open PySem PySem.Spec PyProof.Rows
section
variable {X:Cx}
def tVar (i:Nat):TE:=fun σ H Q=>∃v,σ[i]?=some (some v)∧Q v H
def tC (v:V):TE:=fun _ H Q=>Q v H
theorem pe_var {i:Nat} {x:Str} {pos:Pos} (hN:X.N[i]?=some x) (hv:Vis X.env.scope x) (hd:(x == ("__debug__":Str))=false:=by decide) (hcd:(x == ("__classdict__":Str))=false:=by decide):PE X (.Name x pos) (tVar i):=by
 intro pins s σ H Q I h
 obtain ⟨v,e,h⟩:=h
 obtain ⟨m,hn,hl⟩:=I.loc
 obtain ⟨u,r,l⟩:=hl i x v hN e hv
 have fin:EP X pins σ Q u s:=⟨v,H,I,r,h⟩
 rcases l with ⟨hk,hm⟩ | ⟨hk,c,hc,hcell⟩
 ·exact wpAny_Name (wpAny_loadName_local I.ok.kind hk hn hm fin) hd
 ·rcases hk with hk | hk
  ·exact wpAny_Name (wpAny_loadName_cell I.ok.kind hk hc hcell fin) hd
  ·exact wpAny_Name (wpAny_loadName_free I.ok.kind hk hc hcell fin hcd) hd
theorem pe_int {i j pos}:PE X (.Constant (.int i) j pos) (tC (.int i)):=fun _ _ _ H _ I h=>wpAny_Constant_int ⟨.int i,H,I.tok _,⟨_,rfl⟩,h⟩
theorem pe_bl {b j pos}:PE X (.Constant (.bool b) j pos) (tC (.bl b)):=fun _ _ _ H _ I h=>Constant_bool ⟨.bl b,H,I,rfl,h⟩
theorem pe_non {j pos}:PE X (.Constant .none j pos) (tC .non):=fun _ _ _ H _ I h=>Constant_none ⟨.non,H,I,rfl,h⟩
theorem pe_str {x j pos}:PE X (.Constant (.str x) j pos) (tC (.str x)):=fun _ _ _ H _ I h=>Calls.Constant_str ⟨.str x,H,I.tok _,⟨_,rfl⟩,h⟩
def Gl (X:Cx) (x:Str):Prop:=X.env.kindOf x=some .globalImplicit
theorem ld_glob {E:Value->Shared->Prop} {pins:List (Addr×Obj)} {s:Shared} {σ:St} {H:Hp} {x:Str} {u:Value} {pos:Pos} {Q:Value->Shared->Prop} (I:Inv X pins σ H s) (hg:Gl X x) (hm:X.mg x=some u) (h:Q u s)
  (hd:(x == ("__debug__":Str))=false:=by decide):wpAny (model X.prog X.w) X.A (eval (.Name x pos) X.env) Q E s :=
 Calls.Name_function_global I.ok.kind hg (Calls.loadGlobal_global (by rw[I.ok.glob];exact I.mod.glob.keeps I.bk) hm h) hd
theorem ld_blt {E:Value->Shared->Prop} {pins:List (Addr×Obj)} {s:Shared} {σ:St} {H:Hp} {x:Str} {u:Value} {pos:Pos} {Q:Value->Shared->Prop} (I:Inv X pins σ H s) (hg:Gl X x) (hm:X.mg x=none) (hv:bootBuiltins x=some u) (h:Q u s)
  (hn:x≠"__name__":=by decide) (hd:(x == ("__debug__":Str))=false:=by decide):wpAny (model X.prog X.w) X.A (eval (.Name x pos) X.env) Q E s:=by
 obtain ⟨mb,h1,h2⟩:=I.mod.blt
 exact Calls.Name_function_global I.ok.kind hg (Calls.loadGlobal_builtin (by rw[I.ok.glob];exact I.mod.glob.keeps I.bk) hm (by rw[I.ok.blt];exact h1.keeps I.bk) ((h2 x hn).trans hv) h) hd
theorem pe_glob {x:Str} {v:V} {u:Value} {pos:Pos} (hg:Gl X x) (hm:X.mg x=some u) (r:RelV v u) (hd:(x == ("__debug__":Str))=false:=by decide):PE X (.Name x pos) (tC v) :=
 fun _ _ _ H _ I h=>ld_glob I hg hm ⟨v,H,I,r,h⟩ hd
theorem pe_bltn {x:Str} {v:V} {u:Value} {pos:Pos} (hg:Gl X x) (hm:X.mg x=none) (hv:bootBuiltins x=some u) (r:RelV v u) (hn:x≠"__name__":=by decide) (hd:(x == ("__debug__":Str))=false:=by decide):PE X (.Name x pos) (tC v) :=
 fun _ _ _ H _ I h=>ld_blt I hg hm hv ⟨v,H,I,r,h⟩ hn hd
variable {a b:Expr} {ta tb:TE} {pos:Pos}
def tB (t:TE):TT:=fun σ H Q=>t σ H fun x H1=>∃c,x=.bl c∧Q c H1
theorem pt_val {e:Expr} {t:TE} (h:PE X e t) (he:∀whole,isTrue e X.env whole=(do let v ← whole;standAt e.pos;holding [v] (truthy v)):=by intro _;rfl):PT X e (tB t):=by
 intro pins s σ H Q I hw
 refine isTrue_plain (thn (h pins s σ H _ I hw) fun v s1 ⟨x,H1,I1,r1,q1⟩=>?_) (he _)
 obtain ⟨d,rfl,q⟩:=q1
 cases r1
 exact wpAny_truthy_bool ⟨H1,I1,q⟩
variable {tA tB':TT} {rest:List Expr}
def tAnd (t u:TT):TT:=fun σ H Q=>t σ H fun c H1=>if c=true then u σ H1 Q else Q false H1
def tOr (t u:TT):TT:=fun σ H Q=>t σ H fun c H1=>if c=true then Q true H1 else u σ H1 Q
def tNot (t:TT):TT:=fun σ H Q=>t σ H fun c H1=>Q (!c) H1
theorem pw_and1 (ha:PT X a tA):PW X (.BoolOp .And [a] pos) tA:=by
 intro wh pins s σ H Q I h
 refine isTrue_and (thn (ha pins s σ H Q I h) fun c s1 e=>?_)
 cases c with
 | true=>exact isTrue_and_nil e
 | false=>exact e
theorem pw_or1 (ha:PT X a tA):PW X (.BoolOp .Or [a] pos) tA:=by
 intro wh pins s σ H Q I h
 refine isTrue_or (thn (ha pins s σ H Q I h) fun c s1 e=>?_)
 cases c with
 | false=>exact isTrue_or_nil e
 | true=>exact e
theorem pw_and (ha:PT X a tA) (hb:PW X (.BoolOp .And (b :: rest) pos) tB'):PW X (.BoolOp .And (a :: b :: rest) pos) (tAnd tA tB'):=by
 intro wh pins s σ H Q I h
 refine isTrue_and (thn (ha pins s σ H _ I h) fun c s1 ⟨H1,I1,q1⟩=>?_)
 cases c with
 | true=>exact hb wh pins s1 σ H1 Q I1 q1
 | false=>exact ⟨H1,I1,q1⟩
theorem pw_or (ha:PT X a tA) (hb:PW X (.BoolOp .Or (b :: rest) pos) tB'):PW X (.BoolOp .Or (a :: b :: rest) pos) (tOr tA tB'):=by
 intro wh pins s σ H Q I h
 refine isTrue_or (thn (ha pins s σ H _ I h) fun c s1 ⟨H1,I1,q1⟩=>?_)
 cases c with
 | true=>exact ⟨H1,I1,q1⟩
 | false=>exact hb wh pins s1 σ H1 Q I1 q1
theorem pt_not (ha:PT X a tA):PT X (.UnaryOp .Not a pos) (tNot tA):=by
 intro pins s σ H Q I h
 exact isTrue_not (ha pins s σ H (fun c H1=>Q (!c) H1) I h)
def tAndV (ta tb:TE):TE:=fun σ H Q=>ta σ H fun x H1=>∃c,x=.bl c∧if c=true then tb σ H1 Q else Q (.bl false) H1
def tOrV (ta tb:TE):TE:=fun σ H Q=>ta σ H fun x H1=>∃c,x=.bl c∧if c=true then Q (.bl true) H1 else tb σ H1 Q
def tNotV (ta:TE):TE:=fun σ H Q=>ta σ H fun x H1=>∃c,x=.bl c∧Q (.bl (!c)) H1
theorem pe_one {op} {t:TE} (h:PE X a t):PE X (.BoolOp op [a] pos) t:=fun pins s σ H Q I hw=>BoolOp_one (h pins s σ H Q I hw)
theorem pe_and (ha:PE X a ta) (hb:PE X (.BoolOp .And (b :: rest) pos) tb):PE X (.BoolOp .And (a :: b :: rest) pos) (tAndV ta tb):=by
 intro pins s σ H Q I h
 refine BoolOp_and (thn (ha pins s σ H _ I h) fun v s1 ⟨x,H1,I1,r1,q1⟩=>?_)
 obtain ⟨c,rfl,q1⟩:=q1
 cases r1
 refine wpAny_truthy_bool ?_
 cases c with
 | true=>exact hb pins s1 σ H1 Q I1 q1
 | false=>exact ⟨.bl false,H1,I1,rfl,q1⟩
theorem pe_or (ha:PE X a ta) (hb:PE X (.BoolOp .Or (b :: rest) pos) tb):PE X (.BoolOp .Or (a :: b :: rest) pos) (tOrV ta tb):=by
 intro pins s σ H Q I h
 refine BoolOp_or (thn (ha pins s σ H _ I h) fun v s1 ⟨x,H1,I1,r1,q1⟩=>?_)
 obtain ⟨c,rfl,q1⟩:=q1
 cases r1
 refine wpAny_truthy_bool ?_
 cases c with
 | false=>exact hb pins s1 σ H1 Q I1 q1
 | true=>exact ⟨.bl true,H1,I1,rfl,q1⟩
theorem pe_not (ha:PE X a ta):PE X (.UnaryOp .Not a pos) (tNotV ta):=by
 intro pins s σ H Q I h
 refine UnaryOp_ (thn (ha pins s σ H _ I h) fun v s1 ⟨x,H1,I1,r1,q1⟩=>?_)
 obtain ⟨c,rfl,q1⟩:=q1
 cases r1
 exact not_of (wpAny_truthy_bool ⟨.bl (!c),H1,I1,rfl,q1⟩)
end
end L2
namespace L2
open PySem PySem.Spec PyProof.Rows
def SqL (K:PySem.W.Frag) (H:Hp) (a:Addr) (xs:List V):Prop :=
 Rd H a (.lst xs) ∨
  ∃(o:Obj) (its:Array Value) (n:Nat),K.lookup a=some o∧o.cls=.type "list"∧o.dict=none∧o.data=.seq its n∧its.size<=sizeLine∧Vals xs its.toList
def SqT (K:PySem.W.Frag) (H:Hp) (a:Addr) (xs:List V):Prop :=
 Rd H a (.tup xs) ∨
  ∃(o:Obj) (its:Array Value) (n:Nat),K.lookup a=some o∧o.cls=.type "tuple"∧o.data=.seq its n∧its.size<=sizeLine∧Vals xs its.toList
def absV:Value->Option V
 | .none=>some .non
 | .bool b=>some (.bl b)
 | .int i _=>some (.int i)
 | .str x _=>some (.str x)
 | .bytes b _=>some (.byt b)
 | .float b _=>some (.flt b)
 | .ref a=>some (.ref a)
 | .type n=>some (.ty n)
 | _=>none
theorem RelV.abs {x:V} {u:Value} (r:RelV x u):absV u=some x:=by
 cases x with
 | non=>cases r;rfl
 | bl _=>cases r;rfl
 | int _=>obtain ⟨t,rfl⟩:=r;rfl
 | str _=>obtain ⟨t,rfl⟩:=r;rfl
 | byt _=>obtain ⟨t,rfl⟩:=r;rfl
 | flt _=>obtain ⟨t,rfl⟩:=r;rfl
 | ref _=>cases r;rfl
 | ty _=>cases r;rfl
theorem RelV.inj {x y:V} {u:Value} (r:RelV x u) (q:RelV y u):x=y:=Option.some.inj (r.abs.symm.trans q.abs)
theorem Vals.inj:∀{xs ys:List V} {us:List Value},Vals xs us->Vals ys us->xs=ys
 | _,_,_,.nil,.nil=>rfl
 | _,_,_,.cons r t,.cons r' t'=>by rw[r.inj r',Vals.inj t t']
section
variable {X:Cx} {pins:List (Addr×Obj)} {σ:St} {H:Hp} {s:Shared} {a:Addr} {xs ys:List V}
theorem SqL.of {K:PySem.W.Frag} (h:H a=some (.lst xs)):SqL K H a xs:=.inl (.inl h)
theorem SqT.of {K:PySem.W.Frag} (h:H a=some (.tup xs)):SqT K H a xs:=.inl (.inl h)
theorem Inv.list (I:Inv X pins σ H s) (h:SqL X.K H a xs):∃its:List Value,Vals xs its∧PlainL s.heap a its.toArray∧xs.length<=sizeLine:=by
 rcases h with h | ⟨o,its,n,hk,hc,hd,hs,hz,r⟩
 ·obtain ⟨z,its,n,r,e⟩:=h.ok I.hok
  exact ⟨its,r,⟨_,n,e,rfl,rfl,rfl⟩,z⟩
 ·refine ⟨its.toList,r,⟨o,n,I.kIn a o hk,hc,hd,by simpa using hs⟩,?_⟩
  have e:=r.length
  simp only[Array.length_toList] at e
  lia
theorem Inv.tuple (I:Inv X pins σ H s) (h:SqT X.K H a xs):∃its:List Value,Vals xs its∧IsTup s.heap a its.toArray∧xs.length<=sizeLine:=by
 rcases h with h | ⟨o,its,n,hk,hc,hs,hz,r⟩
 ·obtain ⟨z,its,r,p⟩:=h.ok I.hok
  exact ⟨its,r,p,z⟩
 ·refine ⟨its.toList,r,⟨o,I.kIn a o hk,hc,n,by simpa using hs⟩,?_⟩
  have e:=r.length
  simp only[Array.length_toList] at e
  lia
theorem Inv.list_inj (I:Inv X pins σ H s) (h:SqL X.K H a xs) (h':SqL X.K H a ys):xs=ys:=by
 obtain ⟨its,r,⟨o,n,e,_,_,d⟩,_⟩:=I.list h
 obtain ⟨its',r',⟨o',n',e',_,_,d'⟩,_⟩:=I.list h'
 rw[e] at e';cases e'
 rw[d] at d'
 injection d' with d1 _
 have:its=its':=by simpa using congrArg Array.toList d1
 subst this
 exact r.inj r'
theorem Inv.tuple_inj (I:Inv X pins σ H s) (h:SqT X.K H a xs) (h':SqT X.K H a ys):xs=ys:=by
 obtain ⟨its,r,⟨o,e,_,n,d⟩,_⟩:=I.tuple h
 obtain ⟨its',r',⟨o',e',_,n',d'⟩,_⟩:=I.tuple h'
 rw[e] at e';cases e'
 rw[d] at d'
 injection d' with d1 _
 have:its=its':=by simpa using congrArg Array.toList d1
 subst this
 exact r.inj r'
end
abbrev Cx.wish (X:Cx) (E:Value->Shared->Prop):Cx:={ X with xe:=E }
abbrev Cx.nox (X:Cx):Cx:=X.wish fun _ _=>False
theorem Cx.Ok.wish {X:Cx} (ok:X.Ok) (E:Value->Shared->Prop):(X.wish E).Ok :=
 ⟨ok.mod,ok.kind,ok.glob,ok.blt,ok.above,ok.inj,ok.has,ok.cab,ok.hd,ok.frames,ok.stk,ok.exf,ok.bs,ok.bsz,ok.noex,ok.exfs,ok.funs,ok.frf⟩
theorem Cx.Ok.unwish {X:Cx} {E:Value->Shared->Prop} (ok:(X.wish E).Ok):X.Ok :=
 ⟨ok.mod,ok.kind,ok.glob,ok.blt,ok.above,ok.inj,ok.has,ok.cab,ok.hd,ok.frames,ok.stk,ok.exf,ok.bs,ok.bsz,ok.noex,ok.exfs,ok.funs,ok.frf⟩
section
variable {X:Cx} {pins:List (Addr×Obj)} {σ:St} {H:Hp} {s:Shared} {E:Value->Shared->Prop}
theorem Inv.wish (I:Inv X pins σ H s) (E:Value->Shared->Prop):Inv (X.wish E) pins σ H s:=⟨I.ok.wish E,I.os,I.bare,I.base,I.loc,I.cell,I.free,I.freeC,I.pin,I.hok,I.len⟩
theorem Inv.unwish (I:Inv (X.wish E) pins σ H s):Inv X pins σ H s:=⟨I.ok.unwish,I.os,I.bare,I.base,I.loc,I.cell,I.free,I.freeC,I.pin,I.hok,I.len⟩
theorem SP.unwish {D:Ends} {f:Flow} {s':Shared} (h:SP (X.wish E) pins D f s'):SP X pins D f s':=by
 cases f with
 | next=>obtain ⟨σ',H',I,q⟩:=h;exact ⟨σ',H',I.unwish,q⟩
 | brk=>obtain ⟨σ',H',I,q⟩:=h;exact ⟨σ',H',I.unwish,q⟩
 | cont=>obtain ⟨σ',H',I,q⟩:=h;exact ⟨σ',H',I.unwish,q⟩
 | ret u=>obtain ⟨v,σ',H',I,r,q⟩:=h;exact ⟨v,σ',H',I.unwish,r,q⟩
theorem PSs.nox {st:List Stmt} {t:TS} (h:PSs X.nox st t):PSs X st t:=fun pins s σ H D I hw =>
 wpAny_mono (h pins s σ H D (I.wish _) hw) (fun _ _ q=>q.unwish) fun _ _ z=>False.elim z
end
section
variable {X:Cx} {st:Stmt} {rest:List Stmt} {t u:TS} {e:Expr} {te:TE} {pos:Pos}
def tNext:TS:=fun D σ H=>D.nx σ H
def tSeq (t u:TS):TS:=fun D σ H=>t { D with nx:=u D } σ H
theorem pss_nil:PSs X [] tNext:=fun _ _ σ H _ I h=>wpAny_execs_nil ⟨σ,H,I,h⟩
theorem pss_cons (h1:PS X st t) (h2:PSs X rest u):PSs X (st :: rest) (tSeq t u):=by
 intro pins s σ H D I h
 refine wpAny_execs_cons (thn (h1 pins s σ H { D with nx:=u D } I h) fun f s1 q=>?_)
 cases f with
 | next =>
  obtain ⟨σ',H',I',q⟩:=q
  exact h2 pins s1 σ' H' D I' q
 | ret v=>exact q
 | brk=>exact q
 | cont=>exact q
theorem pss_one (h1:PS X st t):PSs X [st] t:=by
 intro pins s σ H D I h
 refine wpAny_execs_cons (thn (h1 pins s σ H D I h) fun f s1 q=>?_)
 cases f with
 | next=>exact wpAny_execs_nil q
 | ret v=>exact q
 | brk=>exact q
 | cont=>exact q
theorem Inv.quiet {pins:List (Addr×Obj)} {σ:St} {H:Hp} {s:Shared} (I:Inv X pins σ H s):interactive X.env=false:=by simp [interactive,I.ok.kind]
def tDrop (te:TE):TS:=fun D σ H=>te σ H fun _ H1=>D.nx σ H1
theorem ps_expr (he:PE X e te) (hs:swapsWith e none pos.line X.env=pure false:=by rfl):PS X (.Expr e pos) (tDrop te):=by
 intro pins s σ H D I h
 exact wpAny_Expr_any (thn (he pins s σ H _ I h) fun v s1 ⟨x,H1,I1,r1,q1⟩=>⟨σ,H1,I1,q1⟩) I.quiet hs
def tRet (te:TE):TS:=fun D σ H=>te σ H D.rt
theorem ps_ret (he:PE X e te):PS X (.Return (some e) pos) (tRet te):=by
 intro pins s σ H D I h
 exact wpAny_Return_some (thn (he pins s σ H _ I h) fun v s1 ⟨x,H1,I1,r1,q1⟩=>⟨x,σ,H1,I1,r1,q1⟩)
def tIfS (c:TT) (t u:TS):TS:=fun D σ H=>c σ H fun b H1=>if b=true then t D σ H1 else u D σ H1
theorem ps_if {c:Expr} {a b:List Stmt} {tc:TT} (hc:PT X c tc) (ha:PSs X a t) (hb:PSs X b u):PS X (.If c a b pos) (tIfS tc t u):=by
 intro pins s σ H D I h
 refine wpAny_If (thn (hc pins s σ H _ I h) fun d s1 ⟨H1,I1,q1⟩=>?_)
 cases d with
 | true=>exact ha pins s1 σ H1 D I1 q1
 | false=>exact hb pins s1 σ H1 D I1 q1
end
abbrev TG:=V->St->Hp->(St->Hp->Prop)->Prop
abbrev TGs:=List V->St->Hp->(St->Hp->Prop)->Prop
def PG (X:Cx) (target:Expr) (t:TG):Prop :=
 ∀(pins:List (Addr×Obj)) (s:Shared) (σ:St) (H:Hp) (v:V) (u:Value) (Q:St->Hp->Prop),Inv X pins σ H s->RelV v u->t v σ H Q →
  wpAny (model X.prog X.w) X.A (assign target X.env u) (fun _ s'=>∃σ' H',Inv X pins σ' H' s'∧Q σ' H') X.xe s
def PGs (X:Cx) (ts:List Expr) (t:TGs):Prop :=
 ∀(pins:List (Addr×Obj)) (s:Shared) (σ:St) (H:Hp) (vs:List V) (us:List Value) (Q:St->Hp->Prop),Inv X pins σ H s->Vals vs us->t vs σ H Q →
  wpAny (model X.prog X.w) X.A (assignInOrder ((assignEach ts X.env).map (·.2)) us) (fun _ s'=>∃σ' H',Inv X pins σ' H' s'∧Q σ' H') X.xe s
abbrev TSet:=V->V->V->Hp->(Hp->Prop)->Prop
def PSet (X:Cx) (t:TSet):Prop :=
 ∀(pins:List (Addr×Obj)) (s:Shared) (σ:St) (H:Hp) (o i v:V) (ov iv u:Value) (Q:Hp->Prop),Inv X pins σ H s->RelV o ov->RelV i iv->RelV v u->t o i v H Q →
  wpAny (model X.prog X.w) X.A (setItem ov iv u) (fun _ s'=>∃H',Inv X pins σ H' s'∧Q H') X.xe s
abbrev TIp:=V->V->Hp->VK->Prop
def PIp (X:Cx) (op:Operator) (t:TIp):Prop :=
 ∀(pins:List (Addr×Obj)) (s:Shared) (σ:St) (H:Hp) (x y:V) (v u:Value) (Q:VK),Inv X pins σ H s->RelV x v->RelV y u->t x y H Q →
  wpAny (model X.prog X.w) X.A (inplaceOp op v u) (EP X pins σ Q) X.xe s
section
variable {X:Cx} {pos:Pos}
def gName (i:Nat):TG:=fun v σ H Q=>Q (σ.set i (some v)) H
theorem pg_name {i:Nat} {x:Str} (hN:X.N.Nodup) (hi:X.N[i]?=some x) (hx:Loc X.env.scope x) (hf:X.fn x=true∨X.env.scope.names.lookup x=some .local:=by first | exact .inl rfl | exact .inr rfl | assumption):PG X (.Name x pos) (gName i):=by
 intro pins s σ H v u Q I r h
 exact wpAny_assign_Name (store_ok I hN hi hx r (fun s' I'=>⟨_,H,I',h⟩) hf)
def gNil:TGs:=fun vs σ H Q=>vs=[]∧Q σ H
def gCons (t:TG) (u:TGs):TGs:=fun vs σ H Q=>∃v r,vs=v :: r∧t v σ H fun σ' H'=>u r σ' H' Q
theorem pgs_nil:PGs X [] gNil:=by
 intro pins s σ H vs us Q I r h
 obtain ⟨e,h⟩:=h
 subst e
 cases r
 exact assignInOrder_nil ⟨σ,H,I,h⟩
theorem pgs_cons {e:Expr} {es:List Expr} {t:TG} {u:TGs} (h1:PG X e t) (h2:PGs X es u)
  (hs:(assignEach (e :: es) X.env).map (·.2)=assign e X.env :: (assignEach es X.env).map (·.2):=by rfl):PGs X (e :: es) (gCons t u):=by
 intro pins s σ H vs us Q I r h
 obtain ⟨v,vr,e1,h⟩:=h
 subst e1
 cases r with
 | cons r rr =>
  rw[hs]
  refine assignInOrder_cons (thn (h1 pins s σ H _ _ _ I r h) fun _ s1 ⟨σ1,H1,I1,q1⟩=>?_)
  exact h2 pins s1 σ1 H1 _ _ Q I1 rr q1
def gTup (K:PySem.W.Frag) (n:Nat) (t:TGs):TG:=fun v σ H Q=>∃a xs,v=.ref a∧SqT K H a xs∧xs.length=n∧t xs σ H Q
theorem pg_tup {es:List Expr} {k:Nat} {t:TGs} {n:Nat} (hc:X.calm=true) (h:PGs X es t)
  (hn:(assignEach es X.env).length=n:=by rfl) (hst:(assignEach es X.env).findIdx? (·.1)=none:=by rfl):PG X (.Tuple es k pos) (gTup X.K n t):=by
 intro pins s σ H v u Q I r hw
 obtain ⟨a,xs,e1,hq,hl,hw⟩:=hw
 subst e1
 cases r
 obtain ⟨its,rv,ht,hz⟩:=I.tuple hq
 refine assign_Tuple_tuple (I.ok.hd hc) ht (by simp [hn,← hl,rv.length]) hst fun h' hx=>?_
 have I1:Inv X pins σ H { s with heap:=h' }:=I.kept (t':=s.toks) fun b o e=>hx b o (Nat.ne_of_lt (Heap.lt_size e)) e
 exact h pins _ σ H xs _ Q I1 (by simpa using rv) hw
def gSub (to ti:TE) (t:TSet):TG:=fun v σ H Q=>to σ H fun o H1=>ti σ H1 fun i H2=>t o i v H2 fun H3=>Q σ H3
theorem pg_sub {o i : Expr} {to ti : TE} {t : TSet} (ho : PE X o to) (hi : PE X i ti) (hs : PSet X t)
    (ha : ∀ v, assign (.Subscript o i pos) X.env v = (do
      let ov ← holding [v] (eval o X.env)
      let iv ← holding [v, ov] (eval i X.env)
      standAt pos
      holding [v, ov, iv] (setItem ov iv v)
      release [v, ov, iv] []) := by intro _; rfl) : PG X (.Subscript o i pos) (gSub to ti t) := by
  intro pins s σ H v u Q I r h
  rw [ha]
  refine wpAny_bind (wpAny_holding (thn (ho pins s σ H _ I h) fun ov s1 ⟨x, H1, I1, r1, q1⟩ => ?_))
  refine wpAny_bind (wpAny_holding (thn (hi pins s1 σ H1 _ I1 q1) fun iv s2 ⟨y, H2, I2, r2, q2⟩ => ?_))
  refine wpAny_bind (wpAny_standAt (wpAny_bind (wpAny_holding (thn (hs pins s2 σ H2 x y v ov iv u _ I2 r1 r2 r q2) fun _ s3 ⟨H3, I3, q3⟩ => ?_))))
  exact wpAny_release ⟨σ, H3, I3, q3⟩
def tAsg (te:TE) (g:TG):TS:=fun D σ H=>te σ H fun x H1=>g x σ H1 D.nx
theorem ps_asg {tg e:Expr} {te:TE} {g:TG} (he:PE X e te) (hg:PG X tg g) (hs:swapsWithSole [tg] e pos.line X.env=pure false:=by rfl) (hw:swappedStores [tg] e X.env=pure none:=by rfl)
  (h1:(assignEach [tg] X.env).map (·.2)=[assign tg X.env]:=by rfl):PS X (.Assign [tg] e pos) (tAsg te g):=by
 intro pins s σ H D I h
 refine wpAny_Assign_stores (thn (he pins s σ H _ I h) fun v s1 ⟨x,H1,I1,r1,q1⟩=>?_) hs hw
 rw[h1]
 exact thn (hg pins s1 σ H1 x v _ I1 r1 q1) fun _ s2 q=>q
theorem ps_set {i:Nat} {x:Str} {e:Expr} {te:TE} {pos':Pos} (hN:X.N.Nodup) (hi:X.N[i]?=some x) (hx:Loc X.env.scope x) (he:PE X e te) (hs:swapsWith e (some (.Name x pos')) pos.line X.env=pure false:=by rfl) (hf:X.fn x=true∨X.env.scope.names.lookup x=some .local:=by first | exact .inl rfl | exact .inr rfl | assumption) :
  PS X (.Assign [.Name x pos'] e pos) (tAsg te (gName i)):=by
 intro pins s σ H D I h
 refine wpAny_Assign_Name (thn (he pins s σ H _ I h) fun v s1 ⟨y,H1,I1,r1,q1⟩=>?_) hs
 exact store_ok I1 hN hi hx r1 (fun s2 I2=>⟨_,H1,I2,q1⟩) hf
def tPar (i j:Nat) (ta:TA):TS:=fun D σ H=>ta σ H fun vs H1=>∃v w,vs=[v,w]∧D.nx ((σ.set i (some v)).set j (some w)) H1
theorem ps_par {i j:Nat} {x y:Str} {a b:Expr} {ta:TA} {px py pt:Pos} {kt k2 pt2} (hc:X.calm=true) (hN:X.N.Nodup) (hi:X.N[i]?=some x) (hj:X.N[j]?=some y) (hij:i≠j)
  (hx:X.env.scope.names.lookup x=some .local) (hy:X.env.scope.names.lookup y=some .local) (ha:PA X [a,b] ta)
  (hw:swappedStores [.Tuple [.Name x px,.Name y py] kt pt] (.Tuple [a,b] k2 pt2) X.env=pure (some [x,y]))
  (hs:swapsWithSole [.Tuple [.Name x px,.Name y py] kt pt] (.Tuple [a,b] k2 pt2) pos.line X.env=pure false:=by rfl) :
  PS X (.Assign [.Tuple [.Name x px,.Name y py] kt pt] (.Tuple [a,b] k2 pt2) pos) (tPar i j ta):=by
 intro pins s σ H D I h
 rw[exec_Assign_arm]
 refine wpAny_bind (wpAny_standAt ?_)
 rw[hs]
 refine wpAny_bind (wpAny_pure ?_)
 rw[if_neg (by decide)]
 refine wpAny_bind (Tuple_ (thn (ha _ pins s σ H _ I h) fun us s1 ⟨vs,H1,I1,r1,q1⟩=>?_))
 obtain ⟨v,w,e1,q1⟩:=q1
 subst e1
 obtain ⟨u1,u2,rfl,rv,rw'⟩:∃u1 u2,us=[u1,u2]∧RelV v u1∧RelV w u2:=by
  cases r1 with
  | cons p q =>
   cases q with
   | cons p' q' =>
    cases q'
    exact ⟨_,_,rfl,p,p'⟩
 refine wpAny_newObj_type ?_ (by show 2<=sizeLine;decide)
 have I2:Inv X pins σ H1 { s1 with heap:=s1.heap.push { cls:=.type "tuple",data:=.seq [u1,u2].toArray } }:=I1.kept (t':=s1.toks) fun b o e=>Heap.get?_push_of_some _ e
 rw[hw]
 refine wpAny_bind (wpAny_pure ?_)
 show wpAny (model X.prog X.w) X.A (do rule "assign.swapped-stores";let items ← unpackItems (.ref s1.heap.objs.size) 2 none;assignInOrder [fun v=>bindName X.env y v,fun v=>bindName X.env x v] items.reverse;pure Flow.next) _ _ _
 refine wpAny_bind (wpAny_rule (wpAny_bind (unpackItems_tuple (items:=#[u1,u2]) (I.ok.hd hc) (IsTup.new s1.heap _) fun h' hx'=>?_)))
 have I3:=I2.kept (h':=h') (t':=s1.toks) fun b o e=>hx' b o (Nat.ne_of_lt (Heap.lt_size e)) e
 show wpAny _ _ (assignInOrder [fun v=>bindName X.env y v,fun v=>bindName X.env x v] [u2,u1] >>= fun _=>pure Flow.next) _ _ _
 refine wpAny_bind (assignInOrder_cons (wpAny_bindName (store_ok I3 hN hj (.inl hy) rw' (fun s2 I4=>?_) (.inr hy))))
 refine assignInOrder_cons (wpAny_bindName (store_ok I4 hN hi (.inl hx) rv (fun s3 I5=>assignInOrder_nil (wpAny_pure ?_)) (.inr hx)))
 rw[List.set_comm _ _ (Ne.symm hij)] at I5
 exact ⟨_,H1,I5,q1⟩
def tAugS (to ti te:TE) (tget:V->V->Hp->VK->Prop) (tip:TIp) (tset:TSet):TS:=fun D σ H=>to σ H fun o H1=>ti σ H1 fun i H2=>tget o i H2 fun x H3=>te σ H3 fun y H4=>tip x y H4 fun z H5=>tset o i z H5 fun H6=>D.nx σ H6
def PGet (X:Cx) (t:V->V->Hp->VK->Prop):Prop :=
 ∀(pins:List (Addr×Obj)) (s:Shared) (σ:St) (H:Hp) (o i:V) (ov iv:Value) (Q:VK),Inv X pins σ H s->RelV o ov->RelV i iv->t o i H Q →
  wpAny (model X.prog X.w) X.A (getItem ov iv) (EP X pins σ Q) X.xe s
theorem ps_augS {o i e:Expr} {to ti te:TE} {tget:V->V->Hp->VK->Prop} {tip:TIp} {tset:TSet} {op:Operator} {tpos:Pos} (ho:PE X o to) (hi:PE X i ti) (hg:PGet X tget) (he:PE X e te) (hp:PIp X op tip) (hs:PSet X tset)
  (ha:∀ov iv new,augStore i ov iv new=(do holding [new,ov,iv] (setItem ov iv new);release [new,ov,iv] [];pure .next):=by intros;rfl):PS X (.AugAssign (.Subscript o i tpos) op e pos) (tAugS to ti te tget tip tset):=by
 intro pins s σ H D I h
 refine wpAny_AugAssign_SubscriptAny (thn (ho pins s σ H _ I h) fun ov s1 ⟨x1,H1,I1,r1,q1⟩=>?_) ha
 refine thn (hi pins s1 σ H1 _ I1 q1) fun iv s2 ⟨x2,H2,I2,r2,q2⟩=>?_
 refine thn (hg pins s2 σ H2 x1 x2 ov iv _ I2 r1 r2 q2) fun old s3 ⟨x3,H3,I3,r3,q3⟩=>?_
 refine thn (he pins s3 σ H3 _ I3 q3) fun v s4 ⟨x4,H4,I4,r4,q4⟩=>?_
 refine thn (hp pins s4 σ H4 x3 x4 old v _ I4 r3 r4 q4) fun new s5 ⟨x5,H5,I5,r5,q5⟩=>?_
 exact thn (hs pins s5 σ H5 x1 x2 x5 ov iv new _ I5 r1 r2 r5 q5) fun _ s6 ⟨H6,I6,q6⟩=>⟨σ,H6,I6,q6⟩
def ipI (f:Int->Int->Int):TIp:=fun x y H Q=>∃i j,x=.int i∧y=.int j∧Q (.int (f i j)) H
theorem ip_add:PIp X .Add (ipI fun i j=>i+j):=by
 intro pins s σ H x y v u Q I r1 r2 h
 obtain ⟨i,j,e1,e2,q⟩:=h
 subst e1;subst e2
 obtain ⟨t,rfl⟩:=r1
 obtain ⟨t',rfl⟩:=r2
 exact iadd_int ⟨.int _,H,I.tok _,⟨_,rfl⟩,q⟩
end
section
variable {X:Cx} {pos:Pos}
def tWhile (c:TT) (tb:TS):TS:=fun D σ H=>∃W:Nat->St->Hp->Prop,(∃m,W m σ H)∧∀m σ H,W m σ H →
 c σ H fun b H1=>if b=true then ∃N:St->Hp->Prop,(∀σ' H',N σ' H'->∃m',m' < m∧W m' σ' H')∧tb { D with nx:=N,ct:=N,bk:=D.nx } σ H1 else D.nx σ H1
theorem ps_while {c:Expr} {body:List Stmt} {tc:TT} {tb:TS} (hp:PassesOwn (model X.prog X.w) X.A X.env X.xe) (hc:PT X c tc) (hb:PSs X body tb):PS X (.While c body [] pos) (tWhile tc tb):=by
 intro pins s σ H D I h
 obtain ⟨W,⟨m0,w0⟩,turn⟩:=h
 refine wpAny_While (codeAny_whileLoop (fun n s'=>∃σ' H',Inv X pins σ' H' s'∧W n σ' H') ?_ m0 ⟨σ,H,I,w0⟩)
 rintro n s1 ⟨σ1,H1,I1,w1⟩
 refine wpAny_passesOwn hp (thn (hc pins s1 σ1 H1 _ I1 (turn n σ1 H1 w1)) fun b s2 ⟨H2,I2,q2⟩=>?_)
 cases b with
 | true =>
  obtain ⟨N,hN,q2⟩:=q2
  rw[if_pos rfl]
  refine wpAny_passesOwn hp (thn (hb pins s2 σ1 H2 _ I2 q2) fun f s3 q3=>?_)
  cases f with
  | next =>
   obtain ⟨σ3,H3,I3,n3⟩:=q3
   obtain ⟨m',hm,w3⟩:=hN σ3 H3 n3
   exact ⟨m',hm,σ3,H3,I3,w3⟩
  | cont =>
   obtain ⟨σ3,H3,I3,n3⟩:=q3
   obtain ⟨m',hm,w3⟩:=hN σ3 H3 n3
   exact ⟨m',hm,σ3,H3,I3,w3⟩
  | brk=>exact q3
  | ret v=>exact q3
 | false =>
  rw[if_neg Bool.false_ne_true]
  exact wpAny_execs_nil ⟨σ1,H2,I2,q2⟩
end
structure It where
 go:Nat->Hp->Prop
 yld:Nat->Hp->V->Hp->Prop
 stop:Nat->Hp->Prop
def FpOk (X:Cx) (pins:List (Addr×Obj)) (H:Hp) (b:Addr):Prop :=
 H b=none∧b≠X.env.locals∧b∉X.fs∧(b∈X.ex∨X.s₀.heap.objs.size<=b)∧(∀x c,X.env.cells.lookup x=some c->c≠b)∧∀p∈X.pn++pins,p.1≠b
theorem Inv.fpOk {X:Cx} {pins:List (Addr×Obj)} {σ:St} {H H':Hp} {s:Shared} {b:Addr} (I:Inv X pins σ H s) (hb:s.heap.objs.size<=b) (hn:H' b=none):FpOk X pins H' b:=by
 refine ⟨hn,Nat.ne_of_gt (Nat.lt_of_lt_of_le I.lt hb),I.nofs hb,.inr (Nat.le_trans I.sz hb),fun x c e z=>?_,fun p hp z=>?_⟩
 ·obtain ⟨v,q⟩:=I.cell x c e
  exact absurd (Nat.lt_of_lt_of_le q.lt (by rw[z];exact hb)) (Nat.lt_irrefl _)
 ·exact absurd (Nat.lt_of_lt_of_le (Heap.lt_size (I.pin p hp).1) (by rw[z];exact hb)) (Nat.lt_irrefl _)
structure Turn (P:Program) (w:World) (K:PySem.W.Frag) (tg:Expr) (J:It) (fp:List Addr) (it:Addr) (tn:Nat->Heap->Prop):Prop where
 mem:it∈fp
 obj:∀i h,tn i h->∀b∈fp,∃o,h.get? b=some o∧∀v,o.data≠.cell v
 keep:∀i h h',tn i h->(∀b∈fp,∀o,h.get? b=some o->h'.get? b=some o)->tn i h'
 item:∀(X:Cx),X.prog=P->X.w=w->X.K=K->X.calm=true->∀(i:Nat) (pins:List (Addr×Obj)) (s:Shared) (σ:St) (H:Hp) (E:Value->Shared->Prop),Inv X pins σ H s->(∀b∈fp,FpOk X pins H b)->tn i s.heap->J.go i H →
  wpAny (model P w) X.A (pyNext (.ref it)) (fun r s1=>∃u,r=some u ∧
   wpAny (model P w) X.A (letOwnedTupleGo tg (.ref it) u) (fun _ s2=>∃x H',Inv X pins σ H' s2∧RelV x u∧J.yld i H x H'∧tn (i+1) s2.heap∧∀b∈fp,H' b=none) E s1) E s
 done:∀(X:Cx),X.prog=P->X.w=w->X.K=K->X.calm=true->∀(i:Nat) (pins:List (Addr×Obj)) (s:Shared) (σ:St) (H:Hp) (E:Value->Shared->Prop),Inv X pins σ H s->(∀b∈fp,FpOk X pins H b)->tn i s.heap->J.stop i H →
  wpAny (model P w) X.A (pyNext (.ref it)) (fun r s1=>r=none∧Inv X pins σ H s1) E s
 self:∀(A:Around) (i:Nat) (s:Shared) (Q:Value->Shared->Prop) (E:Value->Shared->Prop),tn i s.heap->Q (.ref it) s->wpAny (model P w) A (pyIter (.ref it)) Q E s
abbrev TI:=St->Hp->(It->Hp->Prop)->Prop
def PIE (X:Cx) (pins:List (Addr×Obj)) (σ:St) (tg:Expr) (R:It->Hp->Prop) (itv:Value) (s2:Shared):Prop :=
 ∃(it:Addr) (fp:List Addr) (tn:Nat->Heap->Prop) (J:It) (H':Hp),itv=.ref it∧Inv X pins σ H' s2∧Turn X.prog X.w X.K tg J fp it tn∧tn 0 s2.heap∧(∀b∈fp,FpOk X pins H' b)∧R J H'
def PI (X:Cx) (tg iter:Expr) (wi:TI):Prop :=
 ∀(pins:List (Addr×Obj)) (s:Shared) (σ:St) (H:Hp) (R:It->Hp->Prop),Inv X pins σ H s->wi σ H R →
  wpAny (model X.prog X.w) X.A (eval iter X.env) (fun v s1=>wpAny (model X.prog X.w) X.A (pyIter v) (PIE X pins σ tg R) X.xe s1) X.xe s
theorem go_of {M : Model} {A : Around} {E : Value → Shared → Prop} {s : Shared} {tg : Expr} {it : Addr} {u : Value} {o : Obj} {n : String} {vs : Array Value} {Q : Unit → Shared → Prop} (ho : s.heap.get? it = some o) (hc : o.cls = .type n) (hd : o.data = .fields vs)
    (hn : ["enumerate", "zip", "dict_itemiterator", "dict_reverseitemiterator", "odict_iterator", "itertools.zip_longest", "itertools.pairwise"].contains n = false) (hQ : Q () s) : wpAny M A (letOwnedTupleGo tg (.ref it) u) Q E s := by
  unfold letOwnedTupleGo
  cases tg <;> first
    | exact wpAny_pure hQ
    | (cases u <;> first
        | exact wpAny_pure hQ
        | (refine wpAny_bind (wpAny_load ho ?_)
           rw [hc, hd]
           show wpAny M A (if (["enumerate", "zip", "dict_itemiterator", "dict_reverseitemiterator", "odict_iterator", "itertools.zip_longest", "itertools.pairwise"].contains n && vs[0]? == some (rawInt _)) = true then _ else _) Q E s
           rw [if_neg (by intro h; rw [hn, Bool.false_and] at h; cases h)]
           exact wpAny_pure hQ))

def Itl (K:PySem.W.Frag) (a:Addr):It :=
 ⟨fun i H=>∃xs x,SqL K H a xs∧xs[i]?=some x,fun i H x H'=>H'=H∧∀xs,SqL K H a xs->xs[i]?=some x,fun i H=>∃xs,SqL K H a xs∧xs.length<=i⟩
def Itt (K:PySem.W.Frag) (a:Addr):It :=
 ⟨fun i H=>∃xs x,SqT K H a xs∧xs[i]?=some x,fun i H x H'=>H'=H∧∀xs,SqT K H a xs->xs[i]?=some x,fun i H=>∃xs,SqT K H a xs∧xs.length<=i⟩
def Itr (lo:Int) (n:Nat):It:=⟨fun i _=>i < n,fun i H x H'=>H'=H∧x=.int (lo+i),fun i _=>n<=i⟩
theorem turn_list {P:Program} {w:World} {K:PySem.W.Frag} {tg:Expr} (a it:Addr):Turn P w K tg (Itl K a) [it] it (fun i h=>h.IsListIter it a i) where
 mem:=by simp
 obj:=fun i h st b hb=>by
  have e:b=it:=by simpa using hb
  subst e
  obtain ⟨o,e,c,d⟩:=st
  exact ⟨o,e,fun v z=>by rw[d] at z;cases z⟩
 keep:=fun i h h' st k=>st.at fun o e=>k it (by simp) o e
 item:=by
  intro X hP hw hK hc i pins s σ H E I hf st hg
  subst hP hw hK
  obtain ⟨xs,x,hq,hx⟩:=hg
  obtain ⟨its,rv,p,hz⟩:=I.list hq
  obtain ⟨u,hu,ru⟩:=rv.get hx
  obtain ⟨f0,f1,f2,f3,f4,f5⟩:=hf it (by simp)
  refine wpAny_pyNext_list_item st p.isList (x:=u) (by simpa using hu) fun h' st' sb=>?_
  have I1:Inv X pins σ H { s with heap:=h' }:=I.turned (t':=s.toks) (fun b o hb e=>(sb.2 b hb).trans e) f0 f1 f3 f4 f5
  obtain ⟨o,e,c,d⟩:=id st'
  exact ⟨u,rfl,go_of (s:={ s with heap:=h' }) e c d (by decide) ⟨x,H,I1,ru,⟨rfl,fun ys hy=>by rw[I.list_inj hy hq];exact hx⟩,st',fun b hb=>(hf b hb).1⟩⟩
 done:=by
  intro X hP hw hK hc i pins s σ H E I hf st hg
  subst hP hw hK
  obtain ⟨xs,hq,hx⟩:=hg
  obtain ⟨its,rv,p,hz⟩:=I.list hq
  obtain ⟨f0,f1,f2,f3,f4,f5⟩:=hf it (by simp)
  have hl:=rv.length
  exact wpAny_pyNext_list_end (I.ok.hd hc) st p.isList (by simp;lia) fun h' eb=>⟨rfl,I.turned (t':=s.toks) (fun b o hb e=>eb b o hb e) f0 f1 f3 f4 f5⟩
 self:=fun _ _ _ _ _ st h=>wpAny_pyIter_listiter st h
theorem turn_tuple {P:Program} {w:World} {K:PySem.W.Frag} {tg:Expr} (a it:Addr):Turn P w K tg (Itt K a) [it] it (fun i h=>h.IsTupleIter it a i) where
 mem:=by simp
 obj:=fun i h st b hb=>by
  have e:b=it:=by simpa using hb
  subst e
  obtain ⟨o,e,c,d⟩:=st
  exact ⟨o,e,fun v z=>by rw[d] at z;cases z⟩
 keep:=fun i h h' st k=>st.at fun o e=>k it (by simp) o e
 item:=by
  intro X hP hw hK hc i pins s σ H E I hf st hg
  subst hP hw hK
  obtain ⟨xs,x,hq,hx⟩:=hg
  obtain ⟨its,rv,p,hz⟩:=I.tuple hq
  obtain ⟨u,hu,ru⟩:=rv.get hx
  obtain ⟨f0,f1,f2,f3,f4,f5⟩:=hf it (by simp)
  refine wpAny_pyNext_tuple_item st (show s.heap.IsTuple a its.toArray from p) (x:=u) (by simpa using hu) fun h' st' sb=>?_
  have I1:Inv X pins σ H { s with heap:=h' }:=I.turned (t':=s.toks) (fun b o hb e=>(sb.2 b hb).trans e) f0 f1 f3 f4 f5
  obtain ⟨o,e,c,d⟩:=id st'
  exact ⟨u,rfl,go_of (s:={ s with heap:=h' }) e c d (by decide) ⟨x,H,I1,ru,⟨rfl,fun ys hy=>by rw[I.tuple_inj hy hq];exact hx⟩,st',fun b hb=>(hf b hb).1⟩⟩
 done:=by
  intro X hP hw hK hc i pins s σ H E I hf st hg
  subst hP hw hK
  obtain ⟨xs,hq,hx⟩:=hg
  obtain ⟨its,rv,p,hz⟩:=I.tuple hq
  obtain ⟨f0,f1,f2,f3,f4,f5⟩:=hf it (by simp)
  have hl:=rv.length
  exact wpAny_pyNext_tuple_end (I.ok.hd hc) st (show s.heap.IsTuple a its.toArray from p) (by simp;lia) fun h' eb=>⟨rfl,I.turned (t':=s.toks) (fun b o hb e=>eb b o hb e) f0 f1 f3 f4 f5⟩
 self:=fun _ _ _ _ _ st h=>wpAny_pyIter_tupleiter st h
theorem turn_range {P:Program} {w:World} {K:PySem.W.Frag} {tg:Expr} (it:Addr) (lo:Int) (n:Nat):Turn P w K tg (Itr lo n) [it] it (fun i h=>IsRangeIter h it (lo+(i:Nat)*1) ((n:Int) - (i:Nat)) 1) where
 mem:=by simp
 obj:=fun i h st b hb=>by
  have e:b=it:=by simpa using hb
  subst e
  exact ⟨_,st,fun v z=>by
   have z':Data.fields _=Data.cell v:=z
   cases z'⟩
 keep:=fun i h h' st k=>k it (by simp) _ st
 item:=by
  intro X hP hw hK hc i pins s σ H E I hf st hg
  subst hP hw hK
  obtain ⟨f0,f1,f2,f3,f4,f5⟩:=hf it (by simp)
  have W:=Walks.range (prog:=X.prog) (w:=X.w) (I.ok.hd hc) it lo 1 n
  refine W.item i s _ _ hg st fun v h' tk hv st' kk=>?_
  obtain ⟨t,rfl⟩:=hv
  have I1:Inv X pins σ H { s with heap:=h',toks:=tk }:=I.turned (fun b o hb e=>kk b o (by simpa using hb) e) f0 f1 f3 f4 f5
  refine ⟨_,rfl,go_of (s:={ s with heap:=h',toks:=tk }) (n:="range_iterator") st' rfl rfl (by decide) ⟨.int (lo+i),H,I1,⟨t,?_⟩,⟨rfl,rfl⟩,st',fun b hb=>(hf b hb).1⟩⟩
  rw[Int.mul_one]
 done:=by
  intro X hP hw hK hc i pins s σ H E I hf st hg
  subst hP hw hK
  obtain ⟨f0,f1,f2,f3,f4,f5⟩:=hf it (by simp)
  exact wpAny_pyNext_range_end (I.ok.hd hc) st (by have:n<=i:=hg;lia) fun h' eb=>⟨rfl,I.turned (t':=s.toks) (fun b o hb e=>eb b o hb e) f0 f1 f3 f4 f5⟩
 self:=fun _ _ _ _ _ st h=>wpAny_pyIter_rangeiter st h
end L2
namespace L2
open PySem PySem.Spec PyProof.Rows
section
variable {X:Cx} {tg:Expr}
def iList (K:PySem.W.Frag) (tl:TE):TI:=fun σ H R=>tl σ H fun x H1=>∃a,x=.ref a∧(∃xs,SqL K H1 a xs)∧R (Itl K a) H1
def iTup (K:PySem.W.Frag) (tl:TE):TI:=fun σ H R=>tl σ H fun x H1=>∃a,x=.ref a∧(∃xs,SqT K H1 a xs)∧R (Itt K a) H1
theorem pi_list {l:Expr} {tl:TE} (hl:PE X l tl):PI X tg l (iList X.K tl):=by
 intro pins s σ H R I h
 refine thn (hl pins s σ H _ I h) fun v s1 ⟨x,H1,I1,r1,q1⟩=>?_
 obtain ⟨a,e,⟨xs,hq⟩,q⟩:=q1
 subst e
 cases r1
 obtain ⟨its,rv,p,hz⟩:=I1.list hq
 refine wpAny_pyIter_list p.isList ?_
 refine ⟨s1.heap.objs.size,[s1.heap.objs.size],_,_,H1,rfl,I1.kept (t':=s1.toks) fun b o e=>Heap.get?_push_of_some _ e,turn_list a _,⟨_,Heap.get?_push_size _ rfl,rfl,rfl⟩,fun b hb=>?_,q⟩
 have e:b=s1.heap.objs.size:=by simpa using hb
 subst e
 exact I1.fpOk (Nat.le_refl _) (I1.hok.fresh (Nat.le_refl _))
theorem pi_tup {l:Expr} {tl:TE} (hl:PE X l tl):PI X tg l (iTup X.K tl):=by
 intro pins s σ H R I h
 refine thn (hl pins s σ H _ I h) fun v s1 ⟨x,H1,I1,r1,q1⟩=>?_
 obtain ⟨a,e,⟨xs,hq⟩,q⟩:=q1
 subst e
 cases r1
 obtain ⟨its,rv,p,hz⟩:=I1.tuple hq
 refine wpAny_pyIter_tuple (show s1.heap.IsTuple a its.toArray from p) ?_
 refine ⟨s1.heap.objs.size,[s1.heap.objs.size],_,_,H1,rfl,I1.kept (t':=s1.toks) fun b o e=>Heap.get?_push_of_some _ e,turn_tuple a _,⟨_,Heap.get?_push_size _ rfl,rfl,rfl⟩,fun b hb=>?_,q⟩
 have e:b=s1.heap.objs.size:=by simpa using hb
 subst e
 exact I1.fpOk (Nat.le_refl _) (I1.hok.fresh (Nat.le_refl _))
theorem range_it {pins:List (Addr×Obj)} {σ:St} {H:Hp} {s:Shared} {R:It->Hp->Prop} {E:Value->Shared->Prop} {lo hi:Int} {t u v:Tok} {tk:Nat} (I:Inv X pins σ H s) (h1:-(2^62)<=lo) (h2:lo < 2^62) (h3:-(2^62)<=hi) (h4:hi < 2^62)
  (q:R (Itr lo (hi - lo).toNat) H):wpAny (model X.prog X.w) X.A (pyIter (.ref s.heap.objs.size)) (PIE X pins σ tg R) E { s with heap:=s.heap.push { cls:=.type "range",data:=.fields #[.int lo t,.int hi u,.int 1 v] },toks:=tk }:=by
 refine wpAny_pyIter_range (IsRange.new ..) (small_one h1 h2 h3 h4) ?_
 have I1:Inv X pins σ H { s with heap:=s.heap.push { cls:=.type "range",data:=.fields #[.int lo t,.int hi u,.int 1 v] },toks:=tk }:=I.kept fun b o e=>Heap.get?_push_of_some _ e
 refine ⟨(s.heap.push { cls:=.type "range",data:=.fields #[.int lo t,.int hi u,.int 1 v] }).objs.size,[(s.heap.push { cls:=.type "range",data:=.fields #[.int lo t,.int hi u,.int 1 v] }).objs.size],_,_,H,rfl,
  I1.kept (t':=tk) fun b o e=>Heap.get?_push_of_some _ e,turn_range _ lo (hi - lo).toNat,?_,fun b hb=>?_,q⟩
 ·have e1:lo+((0:Nat):Int)*1=lo:=by simp
  have e2:(((hi - lo).toNat:Nat):Int) - ((0:Nat):Int)=Builtin.Range.rangeSize lo hi 1:=by rw[rangeSize_one];split <;> lia
  show IsRangeIter _ _ (lo+((0:Nat):Int)*1) ((((hi - lo).toNat:Nat):Int) - ((0:Nat):Int)) 1
  rw[e1,e2]
  exact Heap.get?_push_size _ rfl
 ·have e:b=(s.heap.push { cls:=.type "range",data:=.fields #[.int lo t,.int hi u,.int 1 v] }).objs.size:=by simpa using hb
  subst e
  exact I1.fpOk (Nat.le_refl _) (I1.hok.fresh (Nat.le_refl _))
def iRng1 (ta:TA):TI:=fun σ H R=>ta σ H fun vs H1=>∃j:Int,vs=[.int j]∧-(2^62)<=j∧j < 2^62∧R (Itr 0 j.toNat) H1
theorem pi_range1 {a:Expr} {ta:TA} {p pos:Pos} (hg:Gl X "range") (hm:X.mg "range"=none) (ha:PA X [a] ta) (hs:starEach [a] X.env=[(false,eval a X.env)]:=by rfl):PI X tg (.Call (.Name "range" p) [a] [] pos) (iRng1 ta):=by
 intro pins s σ H R I h
 refine Call_ (ld_blt I hg hm boot_range (PyProof.Rows.callWith_type1 (thn (ha pos pins s σ H _ I h) fun us s1 ⟨vs,H1,I1,r1,q1⟩=>?_) hs rfl))
 obtain ⟨j,e,q1,q2,q⟩:=q1
 subst e
 cases r1 with
 | cons r rr =>
  cases rr
  obtain ⟨t,rfl⟩:=r
  exact call_range_1 (range_it I1 (by lia) (by lia) q1 q2 (by simpa using q))
def tFor (wi:TI) (g:TG) (tb:TS):TS:=fun D σ H=>wi σ H fun J H1=>∃W:Nat->Nat->St->Hp->Prop,(∃m,W 0 m σ H1)∧∀i m σ H,W i m σ H →
 (J.stop i H∧D.nx σ H)∨(J.go i H∧∃N:St->Hp->Prop,(∀σ' H',N σ' H'->∃m',m' < m∧W (i+1) m' σ' H')∧∀x H',J.yld i H x H'->g x σ H' fun σ2 H2=>tb { D with nx:=N,ct:=N,bk:=D.nx } σ2 H2)
def pinsAt (fp:List Addr) (h:Heap):List (Addr×Obj):=fp.filterMap fun b=>(h.get? b).map fun o=>(b,o)
theorem mem_pinsAt {fp:List Addr} {h:Heap} {b:Addr} {o:Obj} (hb:b∈fp) (e:h.get? b=some o):(b,o)∈pinsAt fp h:=List.mem_filterMap.mpr ⟨b,hb,by rw[e];rfl⟩
theorem of_pinsAt {fp:List Addr} {h:Heap} {p:Addr×Obj} (hp:p∈pinsAt fp h):p.1∈fp∧h.get? p.1=some p.2:=by
 obtain ⟨b,hb,e⟩:=List.mem_filterMap.mp hp
 cases q:h.get? b with
 | none=>rw[q] at e;cases e
 | some o =>
  rw[q] at e
  have e':(b,o)=p:=Option.some.inj e
  subst e'
  exact ⟨hb,q⟩
theorem Inv.pinned {pins:List (Addr×Obj)} {σ:St} {H:Hp} {s:Shared} {fp:List Addr} (I:Inv X pins σ H s) (hf:∀b∈fp,FpOk X pins H b) (ho:∀b∈fp,∃o,s.heap.get? b=some o∧∀v,o.data≠.cell v):Inv X (pins++pinsAt fp s.heap) σ H s :=
 I.pins_of fun p hp=>(List.mem_append.mp hp).elim (fun z=>I.pin p (List.mem_append_right _ z)) fun z=>by
  obtain ⟨hb,e⟩:=of_pinsAt z
  obtain ⟨f0,f1,f2,_⟩:=hf p.1 hb
  obtain ⟨o,e',d⟩:=ho p.1 hb
  rw[e] at e';cases e'
  exact ⟨e,f0,f1,f2,d⟩
theorem Inv.unpinned {pins pl:List (Addr×Obj)} {σ:St} {H:Hp} {s:Shared} (I:Inv X (pins++pl) σ H s):Inv X pins σ H s:=I.pins_of fun p hp=>I.pin p (List.mem_append_right _ (List.mem_append_left _ hp))
theorem ps_for {iter : Expr} {body : List Stmt} {wi : TI} {g : TG} {tb : TS} {pos : Pos} (hp : PassesOwn (model X.prog X.w) X.A X.env X.xe) (hc : X.calm = true) (hi : PI X tg iter wi) (hg : PG X tg g) (hb : PSs X body tb)
    (hs : ∀ x, foldedSetIterable iter X.env x = pure x := by intro _; rfl) : PS X (.For tg iter body [] pos) (tFor wi g tb) := by
  intro pins s σ H D I h
  refine wpAny_For (thn (hi pins s σ H _ I h) fun v s1 h1 => thn h1 fun itv s2 h2 => ?_) hs
  obtain ⟨it, fp, tn, J, H2, e, I2, T, st2, f2, W, ⟨m0, w0⟩, turn⟩ := h2
  subst e
  -- what stays true of the iterator's objects through the loop
  have stat : ∀ {H' : Hp}, (∀ b ∈ fp, H' b = none) → ∀ b ∈ fp, FpOk X pins H' b := fun hn b hb => ⟨hn b hb, (f2 b hb).2⟩
  refine codeAny_forLoop_any (fun n s' => ∃ i σ' H', Inv X pins σ' H' s' ∧ tn i s'.heap ∧ (∀ b ∈ fp, H' b = none) ∧ W i n σ' H') ?_ m0 ⟨0, σ, H2, I2, st2, fun b hb => (f2 b hb).1, w0⟩
  rintro n s3 ⟨i, σ3, H3, I3, st3, fr3, w3⟩
  rcases turn i n σ3 H3 w3 with ⟨stop, qn⟩ | ⟨go, N, hN, step⟩
  · refine wpAny_passesOwn hp (thn (T.done X rfl rfl rfl hc i pins s3 σ3 H3 X.xe I3 (stat fr3) st3 stop) fun r s4 ⟨hr, I4⟩ => ?_)
    subst hr
    exact wpAny_execs_nil ⟨σ3, H3, I4, qn⟩
  · refine wpAny_passesOwn hp (thn (T.item X rfl rfl rfl hc i pins s3 σ3 H3 X.xe I3 (stat fr3) st3 go) fun r s4 ⟨u, hr, h4⟩ => ?_)
    subst hr
    refine wpAny_passesOwn hp (thn h4 fun _ s5 ⟨x, H5, I5, r5, y5, st5, fr5⟩ => ?_)
    have I5' := I5.pinned (stat fr5) (T.obj _ _ st5)
    refine wpAny_passesOwn hp (thn (hg _ s5 σ3 H5 x u _ I5' r5 (step x H5 y5)) fun _ s6 ⟨σ6, H6, I6, q6⟩ => ?_)
    refine wpAny_passesOwn hp (thn (hb _ s6 σ6 H6 _ I6 q6) fun f s7 q7 => ?_)
    have again : ∀ {σ7 : St} {H7 : Hp}, Inv X (pins ++ pinsAt fp s5.heap) σ7 H7 s7 → N σ7 H7 → ∃ m, m < n ∧ ∃ i σ' H', Inv X pins σ' H' s7 ∧ tn i s7.heap ∧ (∀ b ∈ fp, H' b = none) ∧ W i m σ' H' := fun {σ7 H7} I7 n7 => by
      obtain ⟨m', hm, w7⟩ := hN σ7 H7 n7
      refine ⟨m', hm, i + 1, σ7, H7, I7.unpinned, T.keep _ _ _ st5 fun b hb o e => (I7.pin (b, o) (List.mem_append_right _ (List.mem_append_right _ (mem_pinsAt hb e)))).1, fun b hb => ?_, w7⟩
      obtain ⟨o, e, d⟩ := T.obj _ _ st5 b hb
      exact (I7.pin (b, o) (List.mem_append_right _ (List.mem_append_right _ (mem_pinsAt hb e)))).2.1
    cases f with
    | next => obtain ⟨σ7, H7, I7, n7⟩ := q7; exact again I7 n7
    | cont => obtain ⟨σ7, H7, I7, n7⟩ := q7; exact again I7 n7
    | brk => obtain ⟨σ7, H7, I7, q7⟩ := q7; exact ⟨σ7, H7, I7.unpinned, q7⟩
    | ret v => obtain ⟨x7, σ7, H7, I7, r7, q7⟩ := q7; exact ⟨x7, σ7, H7, I7.unpinned, r7, q7⟩
end
theorem for_list {K:PySem.W.Frag} {a:Addr} {xs:List V} {g:TG} {tb:TS} {D:Ends} {σ:St} {H:Hp} (Pv:Nat->St->Hp->Prop) (h0:Pv 0 σ H) (hl:∀i σ H,i<=xs.length->Pv i σ H->SqL K H a xs)
  (hs:∀i x σ H,xs[i]?=some x->Pv i σ H->g x σ H fun σ2 H2=>tb { D with nx:=Pv (i+1),ct:=Pv (i+1),bk:=D.nx } σ2 H2) (hd:∀σ H,Pv xs.length σ H->D.nx σ H) :
  ∃W:Nat->Nat->St->Hp->Prop,(∃m,W 0 m σ H)∧∀i m σ H,W i m σ H →
   ((Itl K a).stop i H∧D.nx σ H)∨((Itl K a).go i H∧∃N:St->Hp->Prop,(∀σ' H',N σ' H'->∃m',m' < m∧W (i+1) m' σ' H')∧∀x H',(Itl K a).yld i H x H'->g x σ H' fun σ2 H2=>tb { D with nx:=N,ct:=N,bk:=D.nx } σ2 H2):=by
 refine ⟨fun i m σ H=>m=xs.length - i∧i<=xs.length∧Pv i σ H,⟨xs.length,by simp,Nat.zero_le _,h0⟩,?_⟩
 rintro i m σ H ⟨rfl,hi,p⟩
 have q:=hl i σ H hi p
 by_cases hlt:i < xs.length
 ·refine .inr ⟨⟨xs,xs[i],q,by simp [hlt]⟩,Pv (i+1),fun σ' H' p'=>⟨xs.length - (i+1),by lia,rfl,hlt,p'⟩,fun x H' y=>?_⟩
  obtain ⟨e,y⟩:=y
  subst e
  exact hs i x σ _ (y xs q) p
 ·have e:i=xs.length:=by lia
  subst e
  exact .inl ⟨⟨xs,q,Nat.le_refl _⟩,hd σ H p⟩
theorem for_tup {K:PySem.W.Frag} {a:Addr} {xs:List V} {g:TG} {tb:TS} {D:Ends} {σ:St} {H:Hp} (Pv:Nat->St->Hp->Prop) (h0:Pv 0 σ H) (hl:∀i σ H,i<=xs.length->Pv i σ H->SqT K H a xs)
  (hs:∀i x σ H,xs[i]?=some x->Pv i σ H->g x σ H fun σ2 H2=>tb { D with nx:=Pv (i+1),ct:=Pv (i+1),bk:=D.nx } σ2 H2) (hd:∀σ H,Pv xs.length σ H->D.nx σ H) :
  ∃W:Nat->Nat->St->Hp->Prop,(∃m,W 0 m σ H)∧∀i m σ H,W i m σ H →
   ((Itt K a).stop i H∧D.nx σ H)∨((Itt K a).go i H∧∃N:St->Hp->Prop,(∀σ' H',N σ' H'->∃m',m' < m∧W (i+1) m' σ' H')∧∀x H',(Itt K a).yld i H x H'->g x σ H' fun σ2 H2=>tb { D with nx:=N,ct:=N,bk:=D.nx } σ2 H2):=by
 refine ⟨fun i m σ H=>m=xs.length - i∧i<=xs.length∧Pv i σ H,⟨xs.length,by simp,Nat.zero_le _,h0⟩,?_⟩
 rintro i m σ H ⟨rfl,hi,p⟩
 have q:=hl i σ H hi p
 by_cases hlt:i < xs.length
 ·refine .inr ⟨⟨xs,xs[i],q,by simp [hlt]⟩,Pv (i+1),fun σ' H' p'=>⟨xs.length - (i+1),by lia,rfl,hlt,p'⟩,fun x H' y=>?_⟩
  obtain ⟨e,y⟩:=y
  subst e
  exact hs i x σ _ (y xs q) p
 ·have e:i=xs.length:=by lia
  subst e
  exact .inl ⟨⟨xs,q,Nat.le_refl _⟩,hd σ H p⟩
theorem for_range {lo:Int} {n:Nat} {g:TG} {tb:TS} {D:Ends} {σ:St} {H:Hp} (Pv:Nat->St->Hp->Prop) (h0:Pv 0 σ H)
  (hs:∀i σ H,i < n->Pv i σ H->g (.int (lo+i)) σ H fun σ2 H2=>tb { D with nx:=Pv (i+1),ct:=Pv (i+1),bk:=D.nx } σ2 H2) (hd:∀σ H,Pv n σ H->D.nx σ H) :
  ∃W:Nat->Nat->St->Hp->Prop,(∃m,W 0 m σ H)∧∀i m σ H,W i m σ H →
   ((Itr lo n).stop i H∧D.nx σ H)∨((Itr lo n).go i H∧∃N:St->Hp->Prop,(∀σ' H',N σ' H'->∃m',m' < m∧W (i+1) m' σ' H')∧∀x H',(Itr lo n).yld i H x H'->g x σ H' fun σ2 H2=>tb { D with nx:=N,ct:=N,bk:=D.nx } σ2 H2):=by
 refine ⟨fun i m σ H=>m=n - i∧i<=n∧Pv i σ H,⟨n,by simp,Nat.zero_le _,h0⟩,?_⟩
 rintro i m σ H ⟨rfl,hi,p⟩
 by_cases hlt:i < n
 ·refine .inr ⟨hlt,Pv (i+1),fun σ' H' p'=>⟨n - (i+1),by lia,rfl,hlt,p'⟩,fun x H' y=>?_⟩
  obtain ⟨e,y⟩:=y
  subst e y
  exact hs i σ _ hlt p
 ·have e:i=n:=by lia
  subst e
  exact .inl ⟨Nat.le_refl _,hd σ H p⟩
end L2
namespace L2
open PySem PySem.Spec PyProof.Rows
abbrev R2:=V->V->Hp->VK->Prop
def OpR (X:Cx) (f:Value->Value->Sem Value) (r:R2):Prop :=
 ∀(pins:List (Addr×Obj)) (s:Shared) (σ:St) (H:Hp) (x y:V) (v u:Value) (Q:VK),Inv X pins σ H s->RelV x v->RelV y u->r x y H Q →
  wpAny (model X.prog X.w) X.A (f v u) (EP X pins σ Q) X.xe s
def UnR (X:Cx) (f:Value->Sem Value) (r:V->Hp->VK->Prop):Prop :=
 ∀(pins:List (Addr×Obj)) (s:Shared) (σ:St) (H:Hp) (x:V) (v:Value) (Q:VK),Inv X pins σ H s->RelV x v->r x H Q →
  wpAny (model X.prog X.w) X.A (f v) (EP X pins σ Q) X.xe s
def CallR (X:Cx) (f:Value) (r:List V->Hp->VK->Prop):Prop :=
 ∀(pins:List (Addr×Obj)) (s:Shared) (σ:St) (H:Hp) (xs:List V) (us:List Value) (Q:VK),Inv X pins σ H s->Vals xs us->r xs H Q →
  wpAny (model X.prog X.w) X.A (call f us) (EP X pins σ Q) X.xe s
def tOp (r:R2) (ta tb:TE):TE:=fun σ H Q=>ta σ H fun x H1=>tb σ H1 fun y H2=>r x y H2 Q
def tUn (r:V->Hp->VK->Prop) (ta:TE):TE:=fun σ H Q=>ta σ H fun x H1=>r x H1 Q
def rI (C:Int->Int->Prop) (g:Int->Int->V):R2:=fun x y H Q=>∃i j,x=.int i∧y=.int j∧C i j∧Q (g i j) H
def rI0 (g:Int->Int->V):R2:=fun x y H Q=>∃i j,x=.int i∧y=.int j∧Q (g i j) H
def rU (g:Int->V):V->Hp->VK->Prop:=fun x H Q=>∃i,x=.int i∧Q (g i) H
section
variable {X:Cx} {a b c:Expr} {ta tb tc:TE} {pos:Pos}
theorem binT (ha:PE X a ta) (hb:PE X b tb) {pins:List (Addr×Obj)} {s:Shared} {σ:St} {H:Hp} {R:V->V->Hp->Prop} (I:Inv X pins σ H s)
  (h:ta σ H fun x H1=>tb σ H1 fun y H2=>R x y H2) {Q:Value->Shared->Prop} {f:Value->Value->Sem Value}
  (hf:∀v u s2 x y H2,Inv X pins σ H2 s2->RelV x v->RelV y u->R x y H2->wpAny (model X.prog X.w) X.A (f v u) Q X.xe s2) :
  wpAny (model X.prog X.w) X.A (eval a X.env) (fun v s₁=>wpAny (model X.prog X.w) X.A (eval b X.env) (fun u s₂=>wpAny (model X.prog X.w) X.A (f v u) Q X.xe s₂) X.xe s₁) X.xe s:=by
 refine thn (ha pins s σ H _ I h) fun v s1 ⟨x,H1,I1,r1,q1⟩=>?_
 refine thn (hb pins s1 σ H1 _ I1 q1) fun u s2 ⟨y,H2,I2,r2,q2⟩=>?_
 exact hf v u s2 x y H2 I2 r1 r2 q2
theorem pe_op {op:Operator} {r:R2} (ho:OpR X (binaryOp op) r) (ha:PE X a ta) (hb:PE X b tb):PE X (.BinOp a op b pos) (tOp r ta tb):=by
 intro pins s σ H Q I h
 exact wpAny_BinOp (binT ha hb I h fun v u s2 x y H2 I2 rx ry q=>ho pins s2 σ H2 x y v u Q I2 rx ry q)
theorem pe_un {op:UnaryOp} {r:V->Hp->VK->Prop} (ho:UnR X (unaryOp op) r) (ha:PE X a ta):PE X (.UnaryOp op a pos) (tUn r ta):=by
 intro pins s σ H Q I h
 exact UnaryOp_ (thn (ha pins s σ H _ I h) fun v s1 ⟨x,H1,I1,r1,q1⟩=>ho pins s1 σ H1 x v Q I1 r1 q1)
theorem opI {f:Value->Value->Sem Value} {C:Int->Int->Prop} {g:Int->Int->Int}
  (rule:∀(i j:Int) (t u:Tok) (s:Shared) (Q:Value->Shared->Prop) (E:Value->Shared->Prop),C i j->Q (.int (g i j) s.toks) { s with toks:=s.toks+1 }->wpAny (model X.prog X.w) X.A (f (.int i t) (.int j u)) Q E s) :
  OpR X f (rI C fun i j=>.int (g i j)):=by
 intro pins s σ H x y v u Q I rx ry h
 obtain ⟨i,j,rfl,rfl,hc,q⟩:=h
 obtain ⟨t,rfl⟩:=rx
 obtain ⟨t',rfl⟩:=ry
 exact rule i j t t' s _ _ hc ⟨.int (g i j),H,I.tok _,⟨_,rfl⟩,q⟩
theorem opI0 {f:Value->Value->Sem Value} {g:Int->Int->Int}
  (rule:∀(i j:Int) (t u:Tok) (s:Shared) (Q:Value->Shared->Prop) (E:Value->Shared->Prop),Q (.int (g i j) s.toks) { s with toks:=s.toks+1 }->wpAny (model X.prog X.w) X.A (f (.int i t) (.int j u)) Q E s) :
  OpR X f (rI0 fun i j=>.int (g i j)):=by
 intro pins s σ H x y v u Q I rx ry h
 obtain ⟨i,j,rfl,rfl,q⟩:=h
 obtain ⟨t,rfl⟩:=rx
 obtain ⟨t',rfl⟩:=ry
 exact rule i j t t' s _ _ ⟨.int (g i j),H,I.tok _,⟨_,rfl⟩,q⟩
theorem opB0 {f:Value->Value->Sem Value} {g:Int->Int->Bool}
  (rule:∀(i j:Int) (t u:Tok) (s:Shared) (Q:Value->Shared->Prop) (E:Value->Shared->Prop),Q (.bool (g i j)) s->wpAny (model X.prog X.w) X.A (f (.int i t) (.int j u)) Q E s) :
  OpR X f (rI0 fun i j=>.bl (g i j)):=by
 intro pins s σ H x y v u Q I rx ry h
 obtain ⟨i,j,rfl,rfl,q⟩:=h
 obtain ⟨t,rfl⟩:=rx
 obtain ⟨t',rfl⟩:=ry
 exact rule i j t t' s _ _ ⟨.bl (g i j),H,I,rfl,q⟩
def CPow (i j:Int):Prop:=0<=j∧j<=1000000∧i.natAbs < 2^64
def CMul (i j:Int):Prop:=(-(2^64) < i∧i < 2^64)∨(-(2^64) < j∧j < 2^64)
theorem CMul.ok {i j:Int} (h:CMul i j):IntMulOk i j:=by
 rcases h with ⟨h1,h2⟩ | ⟨h1,h2⟩
 ·exact .of_left (intBits_le_64 h1 h2)
 ·exact .of_right (intBits_le_64 h1 h2)
theorem op_add:OpR X (binaryOp .Add) (rI0 fun i j=>.int (i+j)):=opI0 fun _ _ _ _ _ _ _ q=>add_int q
theorem op_sub:OpR X (binaryOp .Sub) (rI0 fun i j=>.int (i - j)):=opI0 fun _ _ _ _ _ _ _ q=>sub_int q
theorem op_mod:OpR X (binaryOp .Mod) (rI (fun _ j=>0 < j) fun i j=>.int (i % j)):=opI fun i j _ _ _ _ _ hc q=>by
 have h1:(0:Int) < j:=hc
 exact mod_int' (by lia) (by rw[Int.fmod_eq_emod_of_nonneg i (by lia)];exact q)
theorem op_modN:OpR X (binaryOp .Mod) (rI (fun _ j=>j≠0) fun i j=>.int (i.fmod j)):=opI fun _ _ _ _ _ _ _ hc q=>mod_int' hc q
theorem op_pow:OpR X (binaryOp .Pow) (rI CPow fun i j=>.int (i^j.toNat)):=opI fun _ _ _ _ _ _ _ hc q=>pow_int_small hc.1 hc.2.1 hc.2.2 q
theorem unI {f:Value->Sem Value} {g:Int->Int}
  (rule:∀(i:Int) (t:Tok) (s:Shared) (Q:Value->Shared->Prop) (E:Value->Shared->Prop),Q (.int (g i) s.toks) { s with toks:=s.toks+1 }->wpAny (model X.prog X.w) X.A (f (.int i t)) Q E s) :
  UnR X f (rU fun i=>.int (g i)):=by
 intro pins s σ H x v Q I rx h
 obtain ⟨i,rfl,q⟩:=h
 obtain ⟨t,rfl⟩:=rx
 exact rule i t s _ _ ⟨.int (g i),H,I.tok _,⟨_,rfl⟩,q⟩
theorem un_neg:UnR X (unaryOp .USub) (rU fun i=>.int (-i)):=unI fun _ _ _ _ _ q=>neg_int q
end
def scal:V->V->Bool
 | .non,.non=>true | .non,.int _=>true | .int _,.non=>true | .non,.bl _=>true | .bl _,.non=>true | .non,.str _=>true | .str _,.non=>true
 | .int _,.int _=>true | .bl _,.bl _=>true | .str _,.str _=>true | .byt _,.byt _=>true
 | .int _,.str _=>true | .str _,.int _=>true | .bl _,.str _=>true | .str _,.bl _=>true
 | _,_=>false
def rEq:R2:=fun x y H Q=>scal x y=true∧Q (.bl (decide (x=y))) H
def rNe:R2:=fun x y H Q=>scal x y=true∧Q (.bl (!decide (x=y))) H
theorem dec_int {i j:Int}:decide (V.int i=V.int j)=(i == j):=by
 rw[Bool.eq_iff_iff]
 simp
theorem dec_bl {i j:Bool}:decide (V.bl i=V.bl j)=(i == j):=by
 rw[Bool.eq_iff_iff]
 simp
theorem dec_str {i j:Str}:decide (V.str i=V.str j)=(i == j):=by
 rw[Bool.eq_iff_iff]
 simp
theorem dec_byt {i j:Array UInt8}:decide (V.byt i=V.byt j)=(i.toList == j.toList):=by
 rw[Bool.eq_iff_iff]
 cases i
 cases j
 simp
section
variable {X:Cx} {a b c:Expr} {ta tb tc:TE} {pos:Pos}
theorem fin_bl {pins:List (Addr×Obj)} {σ:St} {H:Hp} {s:Shared} {Q:VK} {k k':Bool} (I:Inv X pins σ H s) (q:Q (.bl k) H) (e:k=k'):EP X pins σ Q (.bool k') s:=by
 subst e
 exact ⟨.bl k,H,I,rfl,q⟩
theorem op_eq:OpR X (compareOp .Eq) rEq:=by
 intro pins s σ H x y v u Q I rx ry h
 obtain ⟨hs,q⟩:=h
 cases x with
 | non =>
  cases rx
  cases y with
  | non=>cases ry;exact PySem.EqNone.eq_none_none (fin_bl I q (by simp))
  | bl j=>cases ry;exact PySem.EqNone.eq_none_bool (fin_bl I q (by simp))
  | int j=>obtain ⟨t',rfl⟩:=ry;exact PySem.EqNone.eq_none_int (fin_bl I q (by simp))
  | str j=>obtain ⟨t',rfl⟩:=ry;exact PySem.EqNone.eq_none_str (fin_bl I q (by simp))
  | _=>exact absurd (show false=true from hs) Bool.false_ne_true
 | bl i =>
  cases rx
  cases y with
  | non=>cases ry;exact PySem.EqNone.eq_bool_none (fin_bl I q (by simp))
  | bl j=>cases ry;exact eq_bool (fin_bl I q dec_bl)
  | str j=>obtain ⟨t',rfl⟩:=ry;exact PySem.EqMixed.eq_bool_str (fin_bl I q (by simp))
  | _=>exact absurd (show false=true from hs) Bool.false_ne_true
 | int i =>
  obtain ⟨t,rfl⟩:=rx
  cases y with
  | non=>cases ry;exact PySem.EqNone.eq_int_none (fin_bl I q (by simp))
  | int j=>obtain ⟨t',rfl⟩:=ry;exact eq_int (fin_bl I q dec_int)
  | str j=>obtain ⟨t',rfl⟩:=ry;exact PySem.EqMixed.eq_int_str (fin_bl I q (by simp))
  | _=>exact absurd (show false=true from hs) Bool.false_ne_true
 | str i =>
  obtain ⟨t,rfl⟩:=rx
  cases y with
  | non=>cases ry;exact PySem.EqNone.eq_str_none (fin_bl I q (by simp))
  | bl j=>cases ry;exact PySem.EqMixed.eq_str_bool (fin_bl I q (by simp))
  | int j=>obtain ⟨t',rfl⟩:=ry;exact PySem.EqMixed.eq_str_int (fin_bl I q (by simp))
  | str j=>obtain ⟨t',rfl⟩:=ry;exact eq_str (fin_bl I q dec_str)
  | _=>exact absurd (show false=true from hs) Bool.false_ne_true
 | byt i =>
  obtain ⟨t,rfl⟩:=rx
  cases y with
  | byt j=>obtain ⟨t',rfl⟩:=ry;exact PySem.W.eq_bytes (fin_bl I q dec_byt)
  | _=>exact absurd (show false=true from hs) Bool.false_ne_true
 | _=>cases y <;> exact absurd (show false=true from hs) Bool.false_ne_true
theorem op_ne:OpR X (compareOp .NotEq) rNe:=by
 intro pins s σ H x y v u Q I rx ry h
 obtain ⟨hs,q⟩:=h
 cases x with
 | non =>
  cases rx
  cases y with
  | non=>cases ry;exact PySem.EqNone.ne_none_none (fin_bl I q (by simp))
  | bl j=>cases ry;exact PySem.EqNone.ne_none_bool (fin_bl I q (by simp))
  | int j=>obtain ⟨t',rfl⟩:=ry;exact PySem.EqNone.ne_none_int (fin_bl I q (by simp))
  | str j=>obtain ⟨t',rfl⟩:=ry;exact PySem.EqNone.ne_none_str (fin_bl I q (by simp))
  | _=>exact absurd (show false=true from hs) Bool.false_ne_true
 | bl i =>
  cases rx
  cases y with
  | non=>cases ry;exact PySem.EqNone.ne_bool_none (fin_bl I q (by simp))
  | bl j=>cases ry;exact ne_bool (fin_bl I q (congrArg not dec_bl))
  | str j=>obtain ⟨t',rfl⟩:=ry;exact PySem.EqMixed.ne_bool_str (fin_bl I q (by simp))
  | _=>exact absurd (show false=true from hs) Bool.false_ne_true
 | int i =>
  obtain ⟨t,rfl⟩:=rx
  cases y with
  | non=>cases ry;exact PySem.EqNone.ne_int_none (fin_bl I q (by simp))
  | int j=>obtain ⟨t',rfl⟩:=ry;exact ne_int (fin_bl I q (congrArg not dec_int))
  | str j=>obtain ⟨t',rfl⟩:=ry;exact PySem.EqMixed.ne_int_str (fin_bl I q (by simp))
  | _=>exact absurd (show false=true from hs) Bool.false_ne_true
 | str i =>
  obtain ⟨t,rfl⟩:=rx
  cases y with
  | non=>cases ry;exact PySem.EqNone.ne_str_none (fin_bl I q (by simp))
  | bl j=>cases ry;exact PySem.EqMixed.ne_str_bool (fin_bl I q (by simp))
  | int j=>obtain ⟨t',rfl⟩:=ry;exact PySem.EqMixed.ne_str_int (fin_bl I q (by simp))
  | str j=>obtain ⟨t',rfl⟩:=ry;exact ne_str (fin_bl I q (congrArg not dec_str))
  | _=>exact absurd (show false=true from hs) Bool.false_ne_true
 | byt i =>
  obtain ⟨t,rfl⟩:=rx
  cases y with
  | byt j=>obtain ⟨t',rfl⟩:=ry;exact PySem.W.ne_bytes (fin_bl I q (congrArg not dec_byt))
  | _=>exact absurd (show false=true from hs) Bool.false_ne_true
 | _=>cases y <;> exact absurd (show false=true from hs) Bool.false_ne_true
theorem op_lt:OpR X (compareOp .Lt) (rI0 fun i j=>.bl (decide (i < j))):=opB0 fun _ _ _ _ _ _ _ q=>lt_int q
theorem op_gt:OpR X (compareOp .Gt) (rI0 fun i j=>.bl (decide (j < i))):=opB0 fun _ _ _ _ _ _ _ q=>gt_int q
theorem op_ge:OpR X (compareOp .GtE) (rI0 fun i j=>.bl (decide (j<=i))):=opB0 fun _ _ _ _ _ _ _ q=>ge_int q
theorem op_in_str:OpR X (compareOp .In) (fun x y H Q=>∃i j,x=.str i∧y=.str j∧Q (.bl (!(Builtin.Str.occurrences j i 0 j.length 1).isEmpty)) H):=by
 intro pins s σ H x y v u Q I rx ry h
 obtain ⟨i,j,rfl,rfl,q⟩:=h
 obtain ⟨t,rfl⟩:=rx
 obtain ⟨t',rfl⟩:=ry
 exact in_str (fin_bl I q rfl)
theorem nomark (b:Expr) {op:CmpOp} (h:op≠.In:=by decide) (h2:op≠.NotIn:=by decide):behindInMarks op b=false:=by
 have e1:(op == CmpOp.In)=false:=by cases op <;> first | rfl | exact absurd rfl h
 have e2:(op == CmpOp.NotIn)=false:=by cases op <;> first | rfl | exact absurd rfl h2
 cases b <;> simp [behindInMarks,e1,e2]
theorem pe_cmpR {op:CmpOp} {r:R2} (ho:OpR X (compareOp op) r) (ha:PE X a ta) (hb:PE X b tb) (hm:behindInMarks op b=false):PE X (.Compare a [op] [b] pos) (tOp r ta tb):=by
 intro pins s σ H Q I h
 exact wpAny_Compare1 (binT ha hb I h fun v u s2 x y H2 I2 rx ry q=>ho pins s2 σ H2 x y v u Q I2 rx ry q) hm
def tTest (t:TE):TT:=fun σ H Q=>t σ H fun x H'=>∃k,x=.bl k∧Q k H'
theorem pt_cmpR {op:CmpOp} {r:R2} (ho:OpR X (compareOp op) r) (ha:PE X a ta) (hb:PE X b tb) (hm:behindInMarks op b=false):PT X (.Compare a [op] [b] pos) (tTest (tOp r ta tb)):=by
 intro pins s σ H Q I h
 refine wpAny_isTrue_Compare1 (thn (ha pins s σ H _ I h) fun v s1 ⟨x,H1,I1,r1,q1⟩=>thn (hb pins s1 σ H1 _ I1 q1) fun u s2 ⟨y,H2,I2,r2,q2⟩ =>
  thn (ho pins s2 σ H2 x y v u _ I2 r1 r2 q2) fun c s3 ⟨z,H3,I3,r3,k,e,q3⟩=>?_) hm
 subst e
 cases r3
 exact wpAny_truthy_bool ⟨H3,I3,q3⟩
theorem line63:(sizeLine:Nat) < 2^63:=by rw[sizeLine_eq];decide
theorem op_add_str:OpR X (binaryOp .Add) (fun x y H Q=>∃i j,x=.str i∧y=.str j∧i.length+j.length<=sizeLine∧Q (.str (i++j)) H):=by
 intro pins s σ H x y v u Q I rx ry h
 obtain ⟨i,j,rfl,rfl,hz,q⟩:=h
 obtain ⟨t,rfl⟩:=rx
 obtain ⟨t',rfl⟩:=ry
 exact add_str (fun t' tk=>⟨.str (i++j),H,I.tok _,⟨_,rfl⟩,q⟩) hz
theorem vals1 {x:V} {us:List Value} (r:Vals [x] us):∃u,us=[u]∧RelV x u:=by
 cases r with
 | cons r1 r2=>cases r2;exact ⟨_,rfl,r1⟩
theorem vals2 {x y:V} {us:List Value} (r:Vals [x,y] us):∃u w',us=[u,w']∧RelV x u∧RelV y w':=by
 cases r with
 | cons r1 r2 =>
  cases r2 with
  | cons r3 r4=>cases r4;exact ⟨_,_,rfl,r1,r3⟩
theorem call_abs:CallR X (.builtin "abs") (fun xs H Q=>∃i,xs=[.int i]∧Q (.int (if i < 0 then -i else i)) H):=by
 intro pins s σ H xs us Q I r h
 obtain ⟨i,rfl,q⟩:=h
 obtain ⟨u,rfl,t,rfl⟩:=vals1 r
 exact call_abs_int fun u tk=>⟨.int (if i < 0 then -i else i),H,I.tok _,⟨_,rfl⟩,q⟩
theorem call_min2 (hc:X.calm=true):CallR X (.builtin "min") (fun xs H Q=>∃i j,xs=[.int i,.int j]∧Q (.int (if j < i then j else i)) H):=by
 intro pins s σ H xs us Q I r h
 obtain ⟨i,j,rfl,q⟩:=h
 obtain ⟨u,w',rfl,⟨t,rfl⟩,⟨t',rfl⟩⟩:=vals2 r
 refine min_two_ints (I.ok.hd hc) fun h' tk k=>⟨_,H,I.kept k,?_,q⟩
 by_cases hj:j < i
 ·rw[if_pos hj,if_pos hj];exact ⟨_,rfl⟩
 ·rw[if_neg hj,if_neg hj];exact ⟨_,rfl⟩
end
end L2
namespace L2
open PySem PySem.Spec PyProof.Rows
structure ObjM (h:Heap) (x dx C:Addr) (mA:Str->Option Value):Prop where
 obj:h.get? x=some (PySem.W.instObj C dx)
 ns:h.Ns1 dx mA
 ne:dx≠x
theorem lookIn_ns {h:Heap} {dx:Addr} {mA:Str->Option Value} (n:h.Ns1 dx mA):∃od,h.get? dx=some od∧∀name,PySem.W.lookIn name od=some (mA name):=by
 obtain ⟨o,es,ep,ho,hd,hk,_,hm⟩:=n
 refine ⟨o,ho,fun name=>?_⟩
 have e:=hm name
 unfold nsFind findBy at e
 rw[← Array.find?_toList] at e
 unfold PySem.W.lookIn
 rw[hd]
 dsimp only
 split
 ·rename_i y q
  rw[q] at e
  exact congrArg some e
 ·rename_i q
  rw[q] at e
  have a:es.toList.any (·.refKey)=false:=by
   rw[List.any_eq_false]
   intro y hy
   obtain ⟨z,t,hkey⟩:=hk y (Array.mem_toList_iff.mp hy)
   simp [DictEntry.refKey,hkey]
  have a':¬es.toList.any (·.refKey)=true:=by rw[a];exact Bool.false_ne_true
  rw[if_neg a']
  exact congrArg some e
theorem ObjM.look {h:Heap} {x dx C:Addr} {mA:Str->Option Value} (I:ObjM h x dx C mA):∃od,PySem.W.InstAt h x (PySem.W.instObj C dx) C (some od)∧∀name,PySem.W.lookIn name od=some (mA name) :=
 let ⟨od,ho,hl⟩:=lookIn_ns I.ns
 ⟨od,⟨I.obj,rfl,rfl,ho⟩,hl⟩
section
variable {prog:Program} {w:World} {A:Around} {E:Value->Shared->Prop} {s:Shared} {K:PySem.W.Frag} {x dx C f:Addr} {mA:Str->Option Value} {name:Str} {v:Value}
theorem get_map {expr:Bool} {Q:Value->Shared->Prop} (X:K.In s.heap) (I:ObjM s.heap x dx C mA) (hg:PySem.W.plainGet K C name=true) (hh:PySem.W.hasDictIn K C=true)
  (ha:PySem.W.findIn K (.ref C) name=some none) (hv:mA name=some v) (hv':PySem.W.handedIn v=true) (h:Q v { s with toks:=s.toks+1 }) :
  wpAny (model prog w) A (getAttr (.ref x) name expr) Q E s:=by
 obtain ⟨od,J,hl⟩:=I.look
 exact PySem.W.get_value X J (PySem.W.plainGet_of hg).1 (PySem.W.findObj_own hh ha rfl (by rw[hl,hv])) hv' h
theorem set_map {ns:List Str} {Q:Unit->Shared->Prop} (X:K.In s.heap) (I:ObjM s.heap x dx C mA)
  (hs:PySem.W.findIn K (.ref C) "__setattr__"=some (some (.builtin "object.__setattr__"))) (hp:PySem.W.plainOver K C=true) (ht:PySem.W.takerIn K C name=some none) (hh:PySem.W.hasDictIn K C=true)
  (hw:PySem.Within mA ns) (hsz:ns.length<=sizeLine)
  (h:∀h',ObjM h' x dx C (fun y=>if y=name then some v else mA y)->Heap.SameBut dx s.heap h'->Q () { s with heap:=h',toks:=s.toks+2 }) :
  wpAny (model prog w) A (setAttr (.ref x) name v) Q E s:=by
 obtain ⟨od,J,hl⟩:=I.look
 refine PySem.W.set_plain X J hs (PySem.W.osa_open (s:={ s with toks:=s.toks+1 }) (r:=none) X J hp ht fun b=>?_)
 obtain ⟨cd,hc,hd'⟩:=PySem.W.any_some hh
 have hx:s.heap.get? x=some ⟨.ref C,some dx,.plain,#[]⟩:=I.obj
 refine wpAny_bind (wpAny_pure (wpAny_bind (wpAny_bind (wpAny_loadPart hx (wpAny_bind (PySem.W.Looks.here (s:={ s with toks:=s.toks+1 }) (PySem.W.looks_clsIn X hc) ?_))))))
 rw[hd']
 refine wpAny_pure (a:=some dx) (wpAny_bind (wpAny_pure (wpAny_bind ?_)))
 refine wpAny_nsSet1 (s:={ s with toks:=s.toks+1 }) I.ns fun h' hn2 hs2=>?_
 obtain ⟨oD,esD,epD,hoD,hdD,hcD⟩:=hn2.count (PySem.Within.cons name v hw)
 refine wpAny_bind (wpAny_lookBehind hoD (by rw[hdD];exact pastItsLine_dict (Nat.le_trans hcD (by rw[List.length_cons];lia))) ?_)
 exact wpAny_pure (h _ ⟨(hs2.2 _ (Ne.symm I.ne)).trans I.obj,hn2,I.ne⟩ hs2)
theorem make_map {R:Result->Shared->Prop} {vs:List Value} {kw:List (Str×Value)} (X:K.In s.heap) (hm:PySem.W.makesIn K C=true)
  (hi:PySem.W.findIn K (.ref C) "__init__"=some (some (.ref f))) (hf:PySem.W.typeIn K (.ref f)=some (.type "function"))
  (h:codeAny (model prog w) (A.under (.builtin "type.__call__" ⟨.ref C :: vs,kw⟩)) (.call (.ref f) ⟨.ref (s.heap.objs.size+1) :: vs,kw⟩) (PySem.W.InitBack (s.heap.objs.size+1) R)
   { s with heap:=(s.heap.push PySem.W.emptyDict).push (PySem.W.instObj C s.heap.objs.size) }) :
  codeAny (model prog w) A (.call (.ref C) ⟨vs,kw⟩) R s:=by
 obtain ⟨hh,g,d,t,os⟩:=s
 exact PySem.W.make_core (PySem.W.makes_of X hm) (PySem.W.looks_findIn X hi) (fun self=>PySem.W.bind_fn X self hf) (.inl rfl) h
end
def putF (f:Str) (v:V):List (Str×V)->List (Str×V)
 | []=>[(f,v)]
 | (g,x) :: r=>if g=f then (g,v) :: r else (g,x) :: putF f v r
theorem lookup_putF (f g:Str) (v:V):∀fs:List (Str×V),(putF f v fs).lookup g=if g=f then some v else fs.lookup g
 | []=>by
  show List.lookup g [(f,v)]=_
  by_cases h:g=f
  ·have hb:(g == f)=true:=beq_iff_eq.mpr h
   simp only[List.lookup,hb,if_pos h]
  ·have hb:(g == f)=false:=beq_eq_false_iff_ne.mpr h
   simp only[List.lookup,hb,if_neg h]
 | (k,x) :: r=>by
  have ih:=lookup_putF f g v r
  rw[show putF f v ((k,x) :: r)=(if k=f then (k,v) :: r else (k,x) :: putF f v r) from rfl]
  by_cases hk:k=f
  ·rw[if_pos hk]
   by_cases h:g=k
   ·have hb:(g == k)=true:=beq_iff_eq.mpr h
    simp only[List.lookup,hb,if_pos (h.trans hk)]
   ·have hb:(g == k)=false:=beq_eq_false_iff_ne.mpr h
    simp only[List.lookup,hb,if_neg (fun e:g=f=>h (e.trans hk.symm))]
  ·rw[if_neg hk]
   by_cases h:g=k
   ·have hb:(g == k)=true:=beq_iff_eq.mpr h
    simp only[List.lookup,hb,if_neg (fun e:g=f=>hk (h.symm.trans e))]
   ·have hb:(g == k)=false:=beq_eq_false_iff_ne.mpr h
    simp only[List.lookup,hb]
    exact ih
theorem keys_putF (f:Str) (v:V):∀fs:List (Str×V),f∈(putF f v fs).map (·.1)∧∀g,g∈fs.map (·.1)->g∈(putF f v fs).map (·.1)
 | []=>⟨by simp [putF],fun g h=>by simp at h⟩
 | (k,x) :: r=>by
  obtain ⟨i1,i2⟩:=keys_putF f v r
  rw[show putF f v ((k,x) :: r)=(if k=f then (k,v) :: r else (k,x) :: putF f v r) from rfl]
  by_cases hk:k=f
  ·rw[if_pos hk]
   subst hk
   exact ⟨by simp,fun g h=>by simpa using h⟩
  ·rw[if_neg hk]
   refine ⟨?_,fun g h=>?_⟩
   ·rw[List.map_cons]
    exact List.mem_cons_of_mem _ i1
   ·rw[List.map_cons] at h ⊢
    rcases List.mem_cons.mp h with e | e
    ·exact List.mem_cons.mpr (.inl e)
    ·exact List.mem_cons_of_mem _ (i2 g e)
theorem length_putF (f:Str) (v:V):∀fs:List (Str×V),(putF f v fs).length<=fs.length+1
 | []=>by simp [putF]
 | (k,x) :: r=>by
  have ih:=length_putF f v r
  rw[show putF f v ((k,x) :: r)=(if k=f then (k,v) :: r else (k,x) :: putF f v r) from rfl]
  by_cases hk:k=f
  ·rw[if_pos hk,List.length_cons,List.length_cons];lia
  ·rw[if_neg hk,List.length_cons,List.length_cons];lia
theorem RelO.some_of {v:V} {o:Option Value} (r:RelO (some v) o):∃u,o=some u∧RelV v u:=by
 cases o with
 | none=>exact (show False from r).elim
 | some u=>exact ⟨u,rfl,r⟩
theorem handed_of {v:V} {u:Value} (r:RelV v u):PySem.W.handedIn u=true:=by
 cases v with
 | non=>cases (show u=Value.none from r);rfl
 | bl b=>cases (show u=Value.bool b from r);rfl
 | int i=>obtain ⟨t,e⟩:=(show ∃t,u=Value.int i t from r);cases e;rfl
 | str x=>obtain ⟨t,e⟩:=(show ∃t,u=Value.str x t from r);cases e;rfl
 | byt b=>obtain ⟨t,e⟩:=(show ∃t,u=Value.bytes b t from r);cases e;rfl
 | flt b=>obtain ⟨t,e⟩:=(show ∃t,u=Value.float b t from r);cases e;rfl
 | ref a=>cases (show u=Value.ref a from r);rfl
 | ty n=>cases (show u=Value.type n from r);rfl
section
variable {P:Program} {w:World} {H H':Hp} {h h':Heap} {a C dx:Addr} {fs fs':List (Str×V)}
theorem ins_get (hok:HOk P w H h) (e:H a=some (.ins C dx fs)):∃mA,ObjM h a dx C mA∧(∀f,RelO (fs.lookup f) (mA f))∧PySem.Within mA (fs.map (·.1))∧fs.length<=1000∧H dx=some (.own a):=by
 obtain ⟨d,z,ne,ob,mA,n,r,q⟩:=(show ObjOk P w H h a (.ins C dx fs) from hok a _ e)
 exact ⟨mA,⟨ob,n,ne⟩,r,q,z,d⟩
end
structure Cls (K:PySem.W.Frag) (C:Addr):Prop where
 pg:PySem.W.plainGet K C Str.empty=true
 hd:PySem.W.hasDictIn K C=true
 po:PySem.W.plainOver K C=true
 sa:PySem.W.findIn K (.ref C) "__setattr__"=some (some (.builtin "object.__setattr__"))
theorem Cls.get {K:PySem.W.Frag} {C:Addr} (c:Cls K C) (f:Str):PySem.W.plainGet K C f=true:=c.pg
def NoAttr (K:PySem.W.Frag) (C:Addr) (f:Str):Prop:=PySem.W.findIn K (.ref C) f=some none
theorem NoAttr.taker {K:PySem.W.Frag} {C:Addr} {f:Str} (n:NoAttr K C f):PySem.W.takerIn K C f=some none:=by
 unfold PySem.W.takerIn
 rw[show PySem.W.findIn K (.ref C) f=some none from n]
 rfl
section
variable {X:Cx} {pins:List (Addr×Obj)} {σ:St} {H:Hp} {s:Shared} {a C dx:Addr} {fs:List (Str×V)} {f:Str} {v:V} {A:Around} {E:Value->Shared->Prop}
theorem getattr_ok {b:Bool} {Q:Value->Shared->Prop} (I:Inv X pins σ H s) (e:H a=some (.ins C dx fs)) (c:Cls X.K C) (n:NoAttr X.K C f) (l:fs.lookup f=some v)
  (h:∀u s',Inv X pins σ H s'->RelV v u->Q u s'):wpAny (model X.prog X.w) A (getAttr (.ref a) f b) Q E s:=by
 obtain ⟨mA,O,r,_,_,_⟩:=ins_get I.hok e
 obtain ⟨u,hu,ru⟩:=RelO.some_of (v:=v) (o:=mA f) (by rw[← l];exact r f)
 exact get_map I.kIn O (c.get f) c.hd n hu (handed_of ru) (h u _ (I.tok _) ru)
theorem setattr_ok {y:V} {u:Value} {Q:Unit->Shared->Prop} (I:Inv X pins σ H s) (e:H a=some (.ins C dx fs)) (c:Cls X.K C) (n:NoAttr X.K C f) (hl:fs.length < 1000) (ry:RelV y u)
  (h:∀s',Inv X pins σ (upd H a (.ins C dx (putF f y fs))) s'->Q () s'):wpAny (model X.prog X.w) A (setAttr (.ref a) f u) Q E s:=by
 obtain ⟨mA,O,r,wi,_,ho⟩:=ins_get I.hok e
 have hz:(fs.map (·.1)).length<=sizeLine:=by rw[List.length_map,sizeLine_eq];lia
 refine set_map I.kIn O c.sa c.po n.taker c.hd wi hz fun h' O' sb=>h _ ?_
 have hd:∃o,h'.get? dx=some o:=let ⟨o,_,_,e',_⟩:=O'.ns;⟨o,e'⟩
 refine I.write (x:=a) (e:=dx) (by rw[e];exact True.intro) (.inr ho) (fun b q hb z=>(sb.2 b hb).trans z) hd ?_
 refine ⟨by rw[upd_ne O.ne];exact ho,?_,O.ne,O'.obj,_,O'.ns,fun g=>?_,fun g hg=>?_⟩
 ·have:=length_putF f y fs;lia
 ·show RelO ((putF f y fs).lookup g) (if g=f then some u else mA g)
  rw[lookup_putF]
  by_cases q:g=f
  ·rw[if_pos q,if_pos q];exact ry
  ·rw[if_neg q,if_neg q];exact r g
 ·by_cases q:g=f
  ·rw[q];exact (keys_putF f y fs).1
  ·refine (keys_putF f y fs).2 g (wi g fun z=>hg ?_)
   show (if g=f then some u else mA g)=none
   rw[if_neg q];exact z
theorem Inv.made (I:Inv X pins σ H s):Inv X pins σ (upd (upd H s.heap.objs.size (.own (s.heap.objs.size+1))) (s.heap.objs.size+1) (.ins C s.heap.objs.size []))
  { s with heap:=(s.heap.push PySem.W.emptyDict).push (PySem.W.instObj C s.heap.objs.size) }:=by
 have e1:(s.heap.push PySem.W.emptyDict).get? s.heap.objs.size=some PySem.W.emptyDict:=Heap.get?_push_size s.heap rfl
 have e2:((s.heap.push PySem.W.emptyDict).push (PySem.W.instObj C s.heap.objs.size)).get? (s.heap.objs.size+1)=some (PySem.W.instObj C s.heap.objs.size):=by
  have:=Heap.get?_push_size (s.heap.push PySem.W.emptyDict) (o:=PySem.W.instObj C s.heap.objs.size) rfl
  rwa [Heap.size_push] at this
 have e3:(s.heap.push PySem.W.emptyDict).Ns s.heap.objs.size (fun _=>none):=⟨PySem.W.emptyDict,#[],_,e1,rfl,(fun e he=>absurd he (by simp)),fun _=>rfl⟩
 have I1:=I.laid (a:=s.heap.objs.size) (o:=.own (s.heap.objs.size+1)) (h':=s.heap.push PySem.W.emptyDict) (t':=s.toks) (fun b u q=>Heap.get?_push_of_some _ q) (Nat.le_refl _) ⟨_,e1⟩
 refine I1.laid (a:=s.heap.objs.size+1) (o:=.ins C s.heap.objs.size []) (t':=s.toks) (fun b u q=>Heap.get?_push_of_some _ q) (Nat.le_of_eq (Heap.size_push _ _)) ?_
 have ne:s.heap.objs.size≠s.heap.objs.size+1:=Nat.ne_of_lt (Nat.lt_succ_self _)
 refine ⟨by rw[upd_ne ne,upd_same],Nat.zero_le _,ne,e2,fun _=>none,(Heap.Ns1.of_empty e3).at fun o q=>Heap.get?_push_of_some _ q,fun _=>True.intro,fun y hy=>absurd rfl hy⟩
theorem attr_of {prog:Program} {w:World} {env:Env} {e:Expr} {f:Str} {pos:Pos} {s:Shared} {Q:Value->Shared->Prop} (hb:attributeBase e f env (eval e env)=eval e env)
  (h:wpAny (model prog w) A (eval e env) (fun o s₁=>wpAny (model prog w) A (getAttr o f true) Q E s₁) E s):wpAny (model prog w) A (eval (.Attribute e f pos) env) Q E s :=
 Attribute_any_ h (by rw[arm_eval_Attribute,hb])
end
def tFld (K:PySem.W.Frag) (ta:TE) (f:Str):TE:=fun σ H Q=>ta σ H fun x H1=>∃a C dx fs v,x=.ref a∧H1 a=some (.ins C dx fs)∧Cls K C∧NoAttr K C f∧fs.lookup f=some v∧Q v H1
def sFld (K:PySem.W.Frag) (ta tv:TE) (f:Str):TS:=fun D σ H=>tv σ H fun y H1=>ta σ H1 fun x H2=>∃a C dx fs,x=.ref a∧H2 a=some (.ins C dx fs)∧Cls K C∧NoAttr K C f∧fs.length < 1000 ∧
 D.nx σ (upd H2 a (.ins C dx (putF f y fs)))
section
variable {X:Cx} {o e value:Expr} {f:Str} {pos pos' tpos:Pos} {ta tv:TE}
theorem pe_fld (he:PE X e ta) (hb:attributeBase e f X.env (eval e X.env)=eval e X.env):PE X (.Attribute e f pos) (tFld X.K ta f):=by
 intro pins s σ H Q I h
 refine attr_of hb (thn (he pins s σ H _ I h) fun u s1 ⟨x,H1,I1,rx,a,C,dx,fs,v,ex,ea,c,n,l,q⟩=>?_)
 subst ex
 obtain rfl:u=Value.ref a:=rx
 exact getattr_ok I1 ea c n l fun u' s2 I2 ru=>⟨v,H1,I2,ru,q⟩
theorem ps_fld (ha:PE X o ta) (hv:PE X value tv) (hs:swapsWith value (some (.Attribute o f pos')) pos.line X.env=pure false):PS X (.Assign [.Attribute o f pos'] value pos) (sFld X.K ta tv f):=by
 intro pins s σ H D I h
 refine plainObj_wpAny_Assign_Attribute (thn (hv pins s σ H _ I h) fun u s1 ⟨y,H1,I1,ry,q⟩=>thn (ha pins s1 σ H1 _ I1 q) fun ov s2 ⟨x,H2,I2,rx,a,C,dx,fs,ex,ea,c,n,l,q2⟩=>?_) hs
 subst ex
 obtain rfl:ov=Value.ref a:=rx
 exact setattr_ok I2 ea c n l ry fun s3 I3=>⟨σ,_,I3,q2⟩
end
section
variable {X:Cx} {pins:List (Addr×Obj)} {σ:St} {H:Hp} {s:Shared} {A:Around} {E:Value->Shared->Prop} {Q:Value->Shared->Prop} {c:Value} {b:Bool}
inductive TyOf (K:PySem.W.Frag) (H:Hp):V->Value->Prop where
 | non:TyOf K H .non (.type "NoneType")
 | bl (x:Bool):TyOf K H (.bl x) (.type "bool")
 | int (i:Int):TyOf K H (.int i) (.type "int")
 | str (x:Str):TyOf K H (.str x) (.type "str")
 | flt (x:UInt64):TyOf K H (.flt x) (.type "float")
 | lst {a:Addr} {xs:List V} (e:H a=some (.lst xs)):TyOf K H (.ref a) (.type "list")
 | frz {a:Addr} {o:Obj} {xs:List V} (e:H a=some (.frz o (.lst xs))):TyOf K H (.ref a) (.type "list")
 | tup {a:Addr} {xs:List V} (e:H a=some (.tup xs)):TyOf K H (.ref a) (.type "tuple")
 | dK {a:Addr} {kvs:List (Key×V)} (e:H a=some (.dK kvs)):TyOf K H (.ref a) (.type "dict")
 | dT {a:Addr} {kvs:List (List Key×V)} (e:H a=some (.dT kvs)):TyOf K H (.ref a) (.type "dict")
 | ins {a C dx:Addr} {fs:List (Str×V)} (e:H a=some (.ins C dx fs)) (cl:Cls K C) (ha:PySem.W.findIn K (.ref C) "__class__"=some (some (.builtin "object.__class__")))
   (hn:PySem.W.specialIn K (.builtin "object.__class__") "__get__"=some (some (.builtin "getset_descriptor.__get__"))) (htk:PySem.W.takesIn K (.builtin "object.__class__")=some true)
   (hm:PySem.W.mroIn K C (.type "object")=some true):TyOf K H (.ref a) (.ref C)
theorem isinst_ok {x:V} {u t:Value} (I:Inv X pins σ H s) (rx:RelV x u) (ty:TyOf X.K H x t) (e:PySem.W.kitOne X.K t c=some b) (h:∀tk,Q (.bool b) { s with toks:=tk }) :
  wpAny (model X.prog X.w) A (call (.builtin "isinstance") [u,c]) Q E s:=by
 cases ty with
 | non=>cases (show u=Value.none from rx);exact PySem.W.kia_one PySem.W.kitx_none I.kIn True.intro e (fun z=>nomatch z) h
 | bl y=>cases (show u=Value.bool y from rx);exact PySem.W.kia_one PySem.W.kitx_bool I.kIn True.intro e (fun z=>nomatch z) h
 | int i=>obtain ⟨t,q⟩:=(show ∃t,u=Value.int i t from rx);cases q;exact PySem.W.kia_one PySem.W.kitx_int I.kIn True.intro e (fun z=>nomatch z) h
 | str y=>obtain ⟨t,q⟩:=(show ∃t,u=Value.str y t from rx);cases q;exact PySem.W.kia_one PySem.W.kitx_str I.kIn True.intro e (fun z=>nomatch z) h
 | flt y=>obtain ⟨t,q⟩:=(show ∃t,u=Value.float y t from rx);cases q;exact PySem.W.kia_one PySem.W.kitx_float I.kIn True.intro e (fun z=>nomatch z) h
 | @lst a xs ea =>
  cases (show u=Value.ref a from rx)
  obtain ⟨_,_,n,_,h1⟩:=(show ObjOk X.prog X.w H s.heap a (.lst xs) from I.hok a _ ea)
  exact PySem.W.kia_one PySem.W.kitx_list I.kIn ⟨_,h1,rfl⟩ e (fun z=>nomatch z) h
 | @frz a ob xs ea =>
  cases (show u=Value.ref a from rx)
  obtain ⟨_,_,_,n,_,h1⟩:=(show ObjOk X.prog X.w H s.heap a (.frz ob (.lst xs)) from I.hok a _ ea)
  exact PySem.W.kia_one PySem.W.kitx_list I.kIn ⟨_,h1,rfl⟩ e (fun z=>nomatch z) h
 | @tup a xs ea =>
  cases (show u=Value.ref a from rx)
  obtain ⟨_,_,_,p⟩:=(show ObjOk X.prog X.w H s.heap a (.tup xs) from I.hok a _ ea)
  obtain ⟨o,h1,h2,_⟩:=p
  exact PySem.W.kia_one PySem.W.kitx_tuple I.kIn ⟨o,h1,h2⟩ e (fun z=>nomatch z) h
 | @dK a kvs ea =>
  cases (show u=Value.ref a from rx)
  obtain ⟨_,_,vs,_,p⟩:=(show ObjOk X.prog X.w H s.heap a (.dK kvs) from I.hok a _ ea)
  obtain ⟨o,es,ep,h1,h2,_⟩:=p
  exact PySem.W.kia_one PySem.W.kitx_dict I.kIn ⟨o,h1,h2.1⟩ e (fun z=>nomatch z) h
 | @dT a kvs ea =>
  cases (show u=Value.ref a from rx)
  obtain ⟨_,_,xs,_,o,es,ep,h1,h2,_⟩:=(show ObjOk X.prog X.w H s.heap a (.dT kvs) from I.hok a _ ea)
  exact PySem.W.kia_one PySem.W.kitx_dict I.kIn ⟨o,h1,h2.1⟩ e (fun z=>nomatch z) h
 | @ins a C dx fs ea cl ha hn htk hm =>
  cases (show u=Value.ref a from rx)
  obtain ⟨mA,O,_⟩:=ins_get I.hok ea
  obtain ⟨od,J,_⟩:=O.look
  exact PySem.W.kia_one (PySem.W.kitx_own (cl.get _) cl.hd ha hn htk hm) I.kIn J e (fun z=>nomatch z) h
end
end L2
namespace L2
open PySem PySem.Spec PyProof.Rows
structure Room (k:Nat) (A:Around):Prop where
 hd:A.handled=none
 dp:A.depth+3*k+5 < recursionLimit
 un:A.units+16*k+200 < cLine
theorem Room.mono {j k:Nat} {A:Around} (r:Room k A) (h:j<=k):Room j A:=⟨r.hd,by have:=r.dp;lia,by have:=r.un;lia⟩
theorem Room.deeper {k:Nat} {A:Around} (r:Room (k+1) A) (env:Env):Room k (A.deeper env) :=
 ⟨r.hd,by have:=r.dp;show A.depth+1+3*k+5 < _;lia,by have:=r.un;show A.units+3+16*k+200 < _;lia⟩
theorem make_depth {A:Around} {C:Addr} {us:List Value} {kw:List (Str×Value)}:(A.under (.builtin "type.__call__" ⟨.ref C :: us,kw⟩)).depth=A.depth+1:=by
 first | rfl | simp [Around.under,Code.weight,Code.isCreation,Code.isGuard,Code.isCaller,Code.frames,Code.isFrame,guardIds]
theorem make_units {A:Around} {C:Addr} {us:List Value} {kw:List (Str×Value)}:(A.under (.builtin "type.__call__" ⟨.ref C :: us,kw⟩)).units=A.units+1:=by
 first | rfl | simp [Around.under,Code.cUnits,Code.frames,Code.isFrame]
theorem Room.make {k:Nat} {A:Around} (r:Room (k+1) A) (C:Addr) (us:List Value) (kw:List (Str×Value)):Room k (A.under (.builtin "type.__call__" ⟨.ref C :: us,kw⟩)) :=
 ⟨r.hd,by have:=r.dp;rw[make_depth];lia,by have:=r.un;rw[make_units];lia⟩
theorem Room.depth {k:Nat} {A:Around} (r:Room k A):A.depth < recursionLimit:=by have:=r.dp;lia
theorem Room.units {k:Nat} {A:Around} (r:Room k A):A.units+64 < cLine:=by have:=r.un;lia
def tNil:TA:=fun _ H Q=>Q [] H
def tCons (ta:TE) (tr:TA):TA:=fun σ H Q=>ta σ H fun x H1=>tr σ H1 fun xs H2=>Q (x :: xs) H2
section
variable {X:Cx} {e:Expr} {es:List Expr} {te:TE} {t:TA} {pos:Pos}
theorem pa_nil:PA X [] tNil:=fun _ _ _ _ H Q I h=>Calls.spliced_nil ⟨[],H,I,.nil,h⟩
theorem pa_cons (ha:PE X e te) (hr:PA X es t) (hs:starEach (e :: es) X.env=(false,eval e X.env) :: starEach es X.env:=by rfl):PA X (e :: es) (tCons te t):=by
 intro pos pins s σ H Q I h
 rw[hs]
 show wpAny _ _ (spliced ((false,eval e X.env) :: backTo pos (starEach es X.env))) _ _ s
 refine Calls.spliced_cons (thn (ha pins s σ H _ I h) fun u s1 ⟨x,H1,I1,r1,q1⟩=>?_)
 exact thn (hr pos pins s1 σ H1 _ I1 q1) fun us s2 ⟨xs,H2,I2,r2,q2⟩=>⟨x :: xs,H2,I2,.cons r1 r2,q2⟩
def tTup (t:TA):TE:=fun σ H Q=>t σ H fun xs H1=>xs.length<=sizeLine∧∀p,H1 p=none->Q (.ref p) (upd H1 p (.tup xs))
def tLst (t:TA):TE:=fun σ H Q=>t σ H fun xs H1=>xs.length<=sizeLine∧∀p,H1 p=none->Q (.ref p) (upd H1 p (.lst xs))
theorem pe_tup {x1} (h:PA X es t):PE X (.Tuple es x1 pos) (tTup t):=by
 intro pins s σ H Q I hq
 refine wpAny_Tuple_spliced (thn (h pos pins s σ H _ I hq) fun us s1 ⟨xs,H1,I1,r,z,q⟩=>⟨by rw[← r.length];exact z,?_⟩)
 have hf:H1 s1.heap.objs.size=none:=I1.hok.fresh (Nat.le_refl _)
 refine ⟨.ref s1.heap.objs.size,upd H1 s1.heap.objs.size (.tup xs),I1.laid (t':=s1.toks) (fun b u e=>Heap.get?_push_of_some _ e) (Nat.le_refl _) ?_,rfl,q _ hf⟩
 exact ⟨z,us,r,⟨_,Heap.get?_push_size _ rfl,rfl,_,rfl⟩⟩
theorem pe_lst (h:PA X es t):PE X (.List es pos) (tLst t):=by
 intro pins s σ H Q I hq
 refine wpAny_List_spliced (thn (h pos pins s σ H _ I hq) fun us s1 ⟨xs,H1,I1,r,z,q⟩=>⟨by rw[← r.length];exact z,?_⟩)
 have hf:H1 s1.heap.objs.size=none:=I1.hok.fresh (Nat.le_refl _)
 refine ⟨.ref s1.heap.objs.size,upd H1 s1.heap.objs.size (.lst xs),I1.laid (t':=s1.toks) (fun b u e=>Heap.get?_push_of_some _ e) (Nat.le_refl _) ?_,rfl,q _ hf⟩
 exact ⟨z,us,0,r,Heap.get?_push_size _ rfl⟩
end
abbrev Sp:=List V->Hp->VK->XK->Prop
abbrev CXT:=List Env->Hp->Shared->XK->Value->Shared->Prop
structure Env0 (P:Program) (w:World) (K:PySem.W.Frag) (mg:Str->Option Value) (base:Heap) (A:Around) (outer:List Env) (s:Shared) (H:Hp):Prop where
 frames:A.frames=some outer
 mod:Mod K mg base
 bs:∀b o,base.get? b=some o->s.heap.get? b=some o∧H b=none
 bsz:base.objs.size<=s.heap.objs.size
 funs:s.heap.FunFrames base outer
 frf:∀b∈frs outer,H b=none
 hok:HOk P w H s.heap
 bare:AllBare s.gens
def CE (outer:List Env) (P:Program) (w:World) (H:Hp) (s:Shared) (Q:VK) (u:Value) (s':Shared):Prop :=
 ∃v H',s'.os=s.os∧AllBare s'.gens∧Un (frs outer) [] H H' s.heap s'.heap∧HOk P w H' s'.heap∧RelV v u∧Q v H'
def CR (CX:CXT) (outer:List Env) (P:Program) (w:World) (H:Hp) (s:Shared) (Q:VK) (E:XK) (r:Result) (s':Shared):Prop :=
 match r with
 | .ok (.ret u)=>CE outer P w H s Q u s'
 | .ok _=>False
 | .error e=>CX outer H s E e s'
structure FnOk (P:Program) (w:World) (K:PySem.W.Frag) (mg:Str->Option Value) (base:Heap) (CX:CXT) (k:Nat) (f:Addr) (fd:FuncData) (ps:List Str) (sp:Sp):Prop where
 len:∀vs H Q E,sp vs H Q E->vs.length=ps.length
 run:∀(A:Around) (outer:List Env) (s:Shared) (H:Hp) (args:Args) (us:List Value) (vs:List V) (Q:VK) (E:XK),Room k A->Env0 P w K mg base A outer s H->BindsTo s fd args (ps.zip us)->Vals vs us->sp vs H Q E →
  codeAny (model P w) A (.call (.ref f) args) (CR CX outer P w H s Q E) s
theorem Env0.make {P:Program} {w:World} {K:PySem.W.Frag} {mg:Str->Option Value} {base:Heap} {A:Around} {outer:List Env} {s:Shared} {H:Hp} (e:Env0 P w K mg base A outer s H) (C:Addr) (us:List Value) (kw:List (Str×Value)) :
  Env0 P w K mg base (A.under (.builtin "type.__call__" ⟨.ref C :: us,kw⟩)) outer s H:=⟨by first | exact e.frames | (simpa [Around.under,Code.envs,Code.isFrame,pushEnvs] using e.frames),e.mod,e.bs,e.bsz,e.funs,e.frf,e.hok,e.bare⟩
section
variable {X:Cx} {pins:List (Addr×Obj)} {σ:St} {H:Hp} {s s':Shared}
theorem Inv.env0 (I:Inv X pins σ H s):Env0 X.prog X.w X.K X.mg X.base X.A X.stack s H :=
 ⟨I.ok.frames,I.ok.mod,I.bs,Nat.le_trans I.ok.bsz I.sz,I.stack,I.stkFree,I.hok,I.bare⟩
theorem Inv.after {Q:VK} {u:Value} (I:Inv X pins σ H s) (h:CE X.stack X.prog X.w H s Q u s'):EP X pins σ Q u s':=by
 obtain ⟨v,H',os,bare,un,hok,r,q⟩:=h
 obtain ⟨hh,g,d,t,os'⟩:=s'
 obtain rfl:os'=s.os:=os
 exact ⟨v,H',I.call (h':=hh) (g':=g) (d':=d) (t':=t) (ch:=[]) un hok bare (fun b z=>absurd z (by simp)),r,q⟩
end
def tCall (sp:Sp) (dvs:List V) (E:XK) (t:TA):TE:=fun σ H Q=>t σ H fun vs H1=>sp (vs++dvs) H1 Q E
def tMake (C:Addr) (sp:Sp) (dvs:List V) (E:XK) (t:TA):TE:=fun σ H Q=>t σ H fun vs H1=>∀x dx,H1 x=none->H1 dx=none->dx≠x →
 sp (.ref x :: (vs++dvs)) (upd (upd H1 dx (.own x)) x (.ins C dx [])) (fun v H2=>v=.non∧Q (.ref x) H2) E
def Binds (K:PySem.W.Frag) (fd:FuncData) (ps:List Str) (ds:List Value):Prop :=
 ∀(s:Shared) (us:List Value),K.In s.heap->(us++ds).length=ps.length->BindsTo s fd ⟨us,[]⟩ (ps.zip (us++ds))
theorem Binds.all {K:PySem.W.Frag} {fd:FuncData} {ps:List Str} (h:∀us:List Value,us.length=ps.length->bindArgs fd ⟨us,[]⟩=pure (ps.zip us)):Binds K fd ps []:=fun s us _ hl=>by
 rw[List.append_nil] at hl ⊢
 exact .of_eq (h us hl)
def Passes (CX:CXT) (X:Cx) (E:XK):Prop:=∀(pins:List (Addr×Obj)) (σ:St) (H:Hp) (s:Shared) (e:Value) (s':Shared),Inv X pins σ H s->CX X.stack H s E e s'->X.xe e s'
section
variable {X:Cx} {CX:CXT} {k:Nat} {f C:Addr} {fd:FuncData} {ps:List Str} {sp:Sp} {dvs:List V} {ds:List Value} {E:XK} {x m:Str} {p pos apos:Pos} {e o:Expr} {es:List Expr} {ta:TE} {t:TA}
theorem run_fn {pins:List (Addr×Obj)} {σ:St} {H:Hp} {s:Shared} {Q:VK} {us:List Value} {vs:List V} (F:FnOk X.prog X.w X.K X.mg X.base CX k f fd ps sp) (hr:Room k X.A) (hb:Binds X.K fd ps ds) (hd:Vals dvs ds) (hx:Passes CX X E)
  (I:Inv X pins σ H s) (r:Vals vs us) (h:sp (vs++dvs) H Q E):wpAny (model X.prog X.w) X.A (call (.ref f) us) (EP X pins σ Q) X.xe s:=by
 have r2:Vals (vs++dvs) (us++ds):=r.append hd
 have hl:(us++ds).length=ps.length:=by rw[← r2.length];exact F.len _ _ _ _ h
 refine wpAny_call (codeAny_mono (F.run X.A X.stack s H ⟨us,[]⟩ (us++ds) (vs++dvs) Q E hr I.env0 (hb s us I.kIn hl) r2 h) fun r s' hq=>?_)
 cases r with
 | error e=>exact hx pins σ H s e s' I hq
 | ok fl =>
  cases fl with
  | ret u=>exact I.after hq
  | next=>exact False.elim hq
  | brk=>exact False.elim hq
  | cont=>exact False.elim hq
theorem pe_call (F:FnOk X.prog X.w X.K X.mg X.base CX k f fd ps sp) (hr:Room k X.A) (hg:Gl X x) (hm:X.mg x=some (.ref f)) (hk:PySem.W.keepIn X.K (.ref f)=true) (hb:Binds X.K fd ps ds) (hd:Vals dvs ds) (hx:Passes CX X E)
  (ha:PA X (e :: es) t) (hdb:(x == ("__debug__":Str))=false:=by decide) (he:starEach (e :: es) X.env=(false,eval e X.env) :: starEach es X.env:=by rfl) (hpl:(backTo pos (starEach es X.env)).any (·.1)=false:=by rfl) :
  PE X (.Call (.Name x p) (e :: es) [] pos) (tCall sp dvs E t):=by
 intro pins s σ H Q I h
 refine wpAny_Call_Name_kw (ld_glob I hg hm ?_ hdb)
 refine PySem.W.callWith_K (h₀:=X.base) I.ok.mod.kin hk (thn (ha pos pins s σ H _ I h) fun us s1 ⟨vs,H1,I1,r,q⟩=>⟨I1.kIn,?_⟩) he hpl
 exact run_fn F hr hb hd hx I1 r q
structure Mk (K:PySem.W.Frag) (C f:Addr):Prop where
 makes:PySem.W.makesIn K C=true
 init:PySem.W.findIn K (.ref C) "__init__"=some (some (.ref f))
 fn:PySem.W.isFn K (.ref f)=true
 kp:PySem.W.keepIn K (.ref C)=true
theorem run_make {pins:List (Addr×Obj)} {σ:St} {H:Hp} {s:Shared} {Q:VK} {us:List Value} {vs:List V} (M:Mk X.K C f) (F:FnOk X.prog X.w X.K X.mg X.base CX k f fd ps sp) (hr:Room (k+1) X.A) (hb:Binds X.K fd ps ds) (hd:Vals dvs ds)
  (hx:Passes CX X E) (I:Inv X pins σ H s) (r:Vals vs us)
  (h:∀x dx,H x=none->H dx=none->dx≠x->sp (.ref x :: (vs++dvs)) (upd (upd H dx (.own x)) x (.ins C dx [])) (fun v H2=>v=.non∧Q (.ref x) H2) E) :
  wpAny (model X.prog X.w) X.A (call (.ref C) us) (EP X pins σ Q) X.xe s:=by
 have hq:=h (s.heap.objs.size+1) s.heap.objs.size (I.hok.fresh (Nat.le_succ _)) (I.hok.fresh (Nat.le_refl _)) (Nat.ne_of_lt (Nat.lt_succ_self _))
 have I2:=Inv.made (C:=C) I
 have r2:Vals (V.ref (s.heap.objs.size+1) :: (vs++dvs)) (Value.ref (s.heap.objs.size+1) :: (us++ds)):=.cons rfl (r.append hd)
 have hl:(Value.ref (s.heap.objs.size+1) :: us++ds).length=ps.length:=by
  have e:=r2.length
  rw[F.len _ _ _ _ hq] at e
  exact e.symm
 refine wpAny_call (make_map (f:=f) I.kIn M.makes M.init (beq_iff_eq.mp M.fn) (codeAny_mono (F.run _ X.stack _ _ ⟨Value.ref (s.heap.objs.size+1) :: us,[]⟩ (Value.ref (s.heap.objs.size+1) :: (us++ds)) _ _ E (hr.make C us [])
  (I2.env0.make C us []) (hb _ (Value.ref (s.heap.objs.size+1) :: us) I2.kIn hl) r2 hq) fun r s' hq'=>?_))
 cases r with
 | error e=>exact hx pins σ _ _ e s' I2 hq'
 | ok fl =>
  cases fl with
  | ret u =>
   obtain ⟨v,H',I3,rv,ev,q3⟩:=I2.after hq'
   subst ev
   exact ⟨rv,⟨V.ref (s.heap.objs.size+1),H',I3,rfl,q3⟩⟩
  | next=>exact False.elim hq'
  | brk=>exact False.elim hq'
  | cont=>exact False.elim hq'
theorem pe_make (M:Mk X.K C f) (F:FnOk X.prog X.w X.K X.mg X.base CX k f fd ps sp) (hr:Room (k+1) X.A) (hg:Gl X x) (hm:X.mg x=some (.ref C)) (hb:Binds X.K fd ps ds) (hd:Vals dvs ds) (hx:Passes CX X E)
  (ha:PA X (e :: es) t) (hdb:(x == ("__debug__":Str))=false:=by decide) (he:starEach (e :: es) X.env=(false,eval e X.env) :: starEach es X.env:=by rfl) (hpl:(backTo pos (starEach es X.env)).any (·.1)=false:=by rfl) :
  PE X (.Call (.Name x p) (e :: es) [] pos) (tMake C sp dvs E t):=by
 intro pins s σ H Q I h
 refine wpAny_Call_Name_kw (ld_glob I hg hm ?_ hdb)
 refine PySem.W.callWith_K (h₀:=X.base) I.ok.mod.kin M.kp (thn (ha pos pins s σ H _ I h) fun us s1 ⟨vs,H1,I1,r,q⟩=>⟨I1.kIn,?_⟩) he hpl
 exact run_make M F hr hb hd hx I1 r q
end
structure FnScope (N P:List Str) (sc:Scope):Prop where
 kind:sc.kind=.function
 co:sc.isCoroutine=false
 gen:sc.isGenerator=false
 nd:N.Nodup
 pre:N.take P.length=P
 par:∀x∈P,sc.names.lookup x=some .local∨sc.names.lookup x=some .cell
 nofree:∀y∈sc.names,y.2≠.free
theorem bindL_out {kindOf:Str->Option NameKind} {x:Str}:∀{binds:List (Str×Value)} {m:Str->Option Value},(∀v,(x,v)∉binds)->bindL kindOf binds m x=m x
 | [],_,_=>rfl
 | (n,v) :: r,m,h=>by
  unfold bindL
  rw[bindL_out fun w hw=>h w (List.mem_cons_of_mem _ hw)]
  split
  ·have:x≠n:=by rintro rfl;exact h v List.mem_cons_self
   simp [this]
  ·rfl
theorem bindC_out {kindOf:Str->Option NameKind} {x:Str}:∀{binds:List (Str×Value)} {m:Str->Option Value},(∀v,(x,v)∉binds)->bindC kindOf binds m x=m x
 | [],_,_=>rfl
 | (n,v) :: r,m,h=>by
  unfold bindC
  rw[bindC_out fun w hw=>h w (List.mem_cons_of_mem _ hw)]
  split
  ·rfl
  ·have:x≠n:=by rintro rfl;exact h v List.mem_cons_self
   simp [this]
theorem bindL_get {kindOf:Str->Option NameKind} {x:Str} {v:Value}:∀{P:List Str} {vs:List Value} {i:Nat} {m:Str->Option Value},P.Nodup->P[i]?=some x->vs[i]?=some v->kindOf x=some .local →
  bindL kindOf (P.zip vs) m x=some v
 | [],_,_,_,_,h,_,_=>by simp at h
 | _ :: _,[],_,_,_,_,h,_=>by simp at h
 | p :: P,w :: vs,0,m,nd,h1,h2,hk=>by
  simp at h1 h2;subst h1;subst h2
  show bindL kindOf ((p,w) :: P.zip vs) m p=_
  unfold bindL
  rw[bindL_out fun v hv=>(List.nodup_cons.mp nd).1 (List.of_mem_zip hv).1,if_pos hk]
  simp
 | p :: P,w :: vs,i+1,m,nd,h1,h2,hk=>by
  show bindL kindOf ((p,w) :: P.zip vs) m x=_
  unfold bindL
  exact bindL_get (i:=i) (List.nodup_cons.mp nd).2 (by simpa using h1) (by simpa using h2) hk
theorem bindC_get {kindOf:Str->Option NameKind} {x:Str} {v:Value}:∀{P:List Str} {vs:List Value} {i:Nat} {m:Str->Option Value},P.Nodup->P[i]?=some x->vs[i]?=some v->kindOf x≠some .local →
  bindC kindOf (P.zip vs) m x=some v
 | [],_,_,_,_,h,_,_=>by simp at h
 | _ :: _,[],_,_,_,_,h,_=>by simp at h
 | p :: P,w :: vs,0,m,nd,h1,h2,hk=>by
  simp at h1 h2;subst h1;subst h2
  show bindC kindOf ((p,w) :: P.zip vs) m p=_
  unfold bindC
  rw[bindC_out fun v hv=>(List.nodup_cons.mp nd).1 (List.of_mem_zip hv).1,if_neg hk]
  simp
 | p :: P,w :: vs,i+1,m,nd,h1,h2,hk=>by
  show bindC kindOf ((p,w) :: P.zip vs) m x=_
  unfold bindC
  exact bindC_get (i:=i) (List.nodup_cons.mp nd).2 (by simpa using h1) (by simpa using h2) hk
def start (N:List Str) (vs:List V):St:=vs.map some++List.replicate (N.length - vs.length) none
def cxOf (CX:CXT) (P:Program) (w:World) (K:PySem.W.Frag) (mg:Str->Option Value) (base:Heap) (N:List Str) (qual:Str) (scope:Scope) (f:Addr) (cd:Value) (A:Around) (outer:List Env) (s:Shared) (H:Hp) (E:XK):Cx where
 prog:=P
 w:=w
 K:=K
 mg:=mg
 base:=base
 A:=A.deeper (envOfC qual scope s.heap.objs.size f cd)
 N:=N
 s₀:=s
 H₀:=H
 env:=envOfC qual scope s.heap.objs.size f cd
 outer:=outer
 stack:=envOfC qual scope s.heap.objs.size f cd :: outer
 ex:=[]
 calm:=true
 fn:=fun _=>true
 pn:=[]
 xe:=fun e s'=>wpAny (model P w) (A.deeper (envOfC qual scope s.heap.objs.size f cd)) (leaving (envOfC qual scope s.heap.objs.size f cd) e) (fun _ s''=>CX outer H s E e s'') (fun e' s''=>CX outer H s E e' s'') s'
theorem cell_has {sc:Scope} {n:Nat} {x:Str} (h:sc.names.lookup x=some .cell):∃c,(cellsFrom n sc.names []).lookup x=some c:=by
 have q:=PySem.W.cellsFrom_some sc.names n [] (.inl h)
 exact Option.isSome_iff_exists.mp q
theorem inv_start {CX:CXT} {P:Program} {w:World} {K:PySem.W.Frag} {mg:Str->Option Value} {base:Heap} {N ps:List Str} {qual:Str} {scope:Scope} {f:Addr} {cd:Value} {A:Around} {outer:List Env} {s s1:Shared} {H:Hp} {E:XK} {us:List Value} {vs:List V}
  (S:FnScope N ps scope) (hd:A.handled=none) (e0:Env0 P w K mg base A outer s H) (hl:vs.length=ps.length) (r:Vals vs us)
  (x:InCallC s s.heap.objs.size (bindL (envOfC qual scope s.heap.objs.size f cd).kindOf (ps.zip us) fun _=>none) (cellsFrom (s.heap.objs.size+1) scope.names []) (bindC (envOfC qual scope s.heap.objs.size f cd).kindOf (ps.zip us) fun _=>none) s1) :
  Inv (cxOf CX P w K mg base N qual scope f cd A outer s H E) [] (start N vs) H s1:=by
 have hpl:ps.length<=N.length:=by have:=congrArg List.length S.pre;rw[List.length_take] at this;lia
 obtain ⟨h1,tk,rfl,hk⟩:=x.done
 have noA:∀b:Addr,b∉(cxOf CX P w K mg base N qual scope f cd A outer s H E).ex:=fun b z=>absurd (show b∈([]:List Addr) from z) (by simp)
 refine ⟨⟨e0.mod,S.kind,rfl,rfl,Nat.le_refl _,fun y z c h1 h2=>?_,fun y hy=>?_,fun y c _ h=>?_,fun _=>hd,Around.frames_deeper e0.frames,.inr ⟨rfl,rfl⟩,fun b z=>absurd z (noA b),e0.bs,e0.bsz,fun b _ _=>noA b,fun b z=>absurd z (noA b),e0.funs,e0.frf⟩,
  rfl,e0.bare,Un.kept hk,⟨_,x.toInCall.ns,fun i y v h1 h2 h3=>?_⟩,fun y c h=>⟨_,x.cell y c h⟩,e0.hok.fresh (Nat.le_refl _),fun y c h=>?_,fun p hp=>absurd (show p∈([]:List (Addr×Obj)) from hp) (by simp),e0.hok.kept hk,?_⟩
 ·exact name_of_addr x.apart (PySem.mem_of_lookup h1) (PySem.mem_of_lookup h2)
 ·have hy:scope.names.lookup y=some .cell∨scope.names.lookup y=some .free:=hy
  rcases hy with hy | hy
  ·exact cell_has hy
  ·exact absurd rfl (S.nofree _ (PySem.mem_of_lookup hy))
 ·exact Nat.le_of_lt (x.above y c (PySem.mem_of_lookup h))
 ·have hi:i < vs.length:=by
   unfold start at h2
   by_cases hi:i < vs.length
   ·exact hi
   ·rw[List.getElem?_append_right (by simpa using hi)] at h2
    rw[List.getElem?_replicate] at h2
    split at h2 <;> cases h2
  have ha:vs[i]?=some v:=by
   unfold start at h2
   rw[List.getElem?_append_left (by simpa using hi),List.getElem?_map] at h2
   cases e:vs[i]? with
   | none=>rw[e] at h2;cases h2
   | some a=>rw[e] at h2;cases h2;rfl
  obtain ⟨u,hu,rv⟩:=r.get ha
  have hp:ps[i]?=some y:=by
   rw[← S.pre,List.getElem?_take_of_lt (by lia)];exact h1
  have ndP:ps.Nodup:=by rw[← S.pre];exact S.nd.sublist (List.take_sublist _ _)
  refine ⟨u,rv,?_⟩
  rcases S.par y (List.mem_of_getElem? hp) with k | k
  ·exact .inl ⟨k,bindL_get ndP hp hu k⟩
  ·obtain ⟨c,e⟩:=cell_has (n:=s.heap.objs.size+1) k
   refine .inr ⟨.inl k,c,e,?_⟩
   have q:=x.cell y c e
   rw[bindC_get ndP hp hu (by show scope.names.lookup y≠_;rw[k];decide)] at q
   exact q
 ·exact e0.hok.fresh (Nat.le_of_lt (x.above y c (PySem.mem_of_lookup h)))
 ·unfold start
  show _=N.length
  rw[List.length_append,List.length_map,List.length_replicate]
  lia
theorem fn_of {CX:CXT} {P:Program} {w:World} {K:PySem.W.Frag} {mg:Str->Option Value} {base:Heap} {k:Nat} {f:Addr} {name qual:Str} {params:Arguments} {body:List Stmt} {scope:Scope} {dV kV doc pm cdv ct oc:Value} {an od:Option Addr}
  {osl:Array (Option Value)} {N ps:List Str} {sp:Sp} (lk:K.lookup f=some ⟨oc,od,.func (PySem.W.fnOf name qual params body scope dV kV doc pm an cdv ct),osl⟩) (hcd:PySem.W.codeIn K cdv qual=true) (S:FnScope N ps scope)
  (len:∀vs H Q E,sp vs H Q E->vs.length=ps.length)
  (hbody:∀(A:Around) (outer:List Env) (s:Shared) (H:Hp) (vs:List V) (Q:VK) (E:XK),Room k (A.deeper (envOfC qual scope s.heap.objs.size f cdv))->sp vs H Q E →
   ∃t,PSs (cxOf CX P w K mg base N qual scope f cdv A outer s H E) body t∧t { nx:=fun _ H'=>Q .non H',rt:=Q } (start N vs) H) :
  FnOk P w K mg base CX (k+1) f (PySem.W.fnOf name qual params body scope dV kV doc pm an cdv ct) ps sp:=by
 refine ⟨len,fun A outer s H args us vs Q E hr e0 hb r hsp=>?_⟩
 have hl:=len _ _ _ _ hsp
 have KX:K.In s.heap:=e0.mod.kin.keeps fun b o e=>(e0.bs b o e).1
 have lim:s.heap.NoLimit:=e0.mod.nolimit.keeps fun b o e=>(e0.bs b o e).1
 have hkind:∀y∈ps.zip us,scope.names.lookup y.1=some .local∨(scope.names.lookup y.1=some .cell∧((cellsFrom (s.heap.objs.size+1) scope.names []).lookup y.1).isSome=true):=fun ⟨n,v⟩ hy=>by
  rcases S.par n (List.of_mem_zip hy).1 with q | q
  ·exact .inl q
  ·exact .inr ⟨q,PySem.W.cellsFrom_some _ _ _ (.inl q)⟩
 refine codeAny_call_function hr.depth (KX _ _ lk) rfl S.co S.gen rfl (PySem.W.codeRec_of KX hcd) (hb _ _ _ _ ?_)
 refine wpAny_newFunctionEnv_cells S.kind hkind fun env he s1 x=>?_
 subst he
 refine ⟨lim.keeps x.toInCall.keep,codeAny_func ?_⟩
 obtain ⟨t,ht,hq⟩:=hbody A outer s H vs Q E (hr.deeper _) hsp
 have I:Inv (cxOf CX P w K mg base N qual scope f cdv A outer s H E) [] (start N vs) H s1:=inv_start S hr.hd e0 hl r x
 refine wpAny_mono (ht [] s1 (start N vs) H _ I hq) (fun fl s' hs=>?_) fun e s' hs=>hs
 have fin:∀{σ':St} {H':Hp} {v:V} {u:Value},Inv (cxOf CX P w K mg base N qual scope f cdv A outer s H E) [] σ' H' s'->RelV v u->Q v H'->CE outer P w H s Q u s' :=
  fun {σ' H' v u} J rv q=>⟨v,H',J.os,J.bare,J.base,J.hok,rv,q⟩
 cases fl with
 | ret u =>
  obtain ⟨v,σ',H',J,rv,q⟩:=hs
  exact fin J rv q
 | next =>
  obtain ⟨σ',H',J,q⟩:=hs
  exact fin (v:=V.non) (u:=Value.none) J rfl q
 | brk =>
  obtain ⟨_,_,_,q⟩:=hs
  exact False.elim q
 | cont =>
  obtain ⟨_,_,_,q⟩:=hs
  exact False.elim q
end L2
namespace L2
open PySem PySem.Spec PyProof.Rows
section
variable {X:Cx} {x:Str} {p pos:Pos} {e:Expr} {es:List Expr} {t:TA} {id T:String} {r:List V->Hp->VK->Prop}
def tCB (r:List V->Hp->VK->Prop) (t:TA):TE:=fun σ H Q=>t σ H fun vs H1=>r vs H1 Q
theorem pe_callB (hc:CallR X (.builtin id) r) (hg:Gl X x) (hm:X.mg x=none) (hv:bootBuiltins x=some (.builtin id)) (ha:PA X (e :: es) t) (hn:x≠"__name__":=by decide) (hdb:(x == ("__debug__":Str))=false:=by decide)
  (he:starEach (e :: es) X.env=(false,eval e X.env) :: starEach es X.env:=by rfl) (hpl:(backTo pos (starEach es X.env)).any (·.1)=false:=by rfl):PE X (.Call (.Name x p) (e :: es) [] pos) (tCB r t):=by
 intro pins s σ H Q I h
 refine wpAny_Call_Name_kw (ld_blt I hg hm hv ?_ hn hdb)
 exact PyProof.Rows.callWith_builtin1 (thn (ha pos pins s σ H _ I h) fun us s1 ⟨vs,H1,I1,r1,q1⟩=>hc pins s1 σ H1 vs us Q I1 r1 q1) he hpl
theorem pe_callTy (hc:CallR X (.type T) r) (hg:Gl X x) (hm:X.mg x=none) (hv:bootBuiltins x=some (.type T)) (ha:PA X (e :: es) t) (hn:x≠"__name__":=by decide) (hdb:(x == ("__debug__":Str))=false:=by decide)
  (he:starEach (e :: es) X.env=(false,eval e X.env) :: starEach es X.env:=by rfl) (hpl:(backTo pos (starEach es X.env)).any (·.1)=false:=by rfl):PE X (.Call (.Name x p) (e :: es) [] pos) (tCB r t):=by
 intro pins s σ H Q I h
 refine wpAny_Call_Name_kw (ld_blt I hg hm hv ?_ hn hdb)
 exact PyProof.Rows.callWith_type1 (thn (ha pos pins s σ H _ I h) fun us s1 ⟨vs,H1,I1,r1,q1⟩=>hc pins s1 σ H1 vs us Q I1 r1 q1) he hpl
end
end L2
namespace HT
open PySem PyProof.Rows
section
open PySem.SeqAt
open PySem.AutoSeq1 (wpAny_loadPart')
open PySem.MeetsSeq PySem.MeetsSeq2 PySem.MeetsSeq3
end
section
variable {prog:Program} {w:World} {A:Around} {E:Value->Shared->Prop} {s:Shared}
def sIx (n d:Nat):Option Int->Nat
 | none=>d
 | some v=>if v < 0 then (v+(n:Int)).toNat else min v.toNat n
theorem sIx_none (n d:Nat):sIx n d none=d:=rfl
theorem sIx_nat (n d k:Nat):sIx n d (some (k:Int))=min k n:=by
 show (if (k:Int) < 0 then ((k:Int)+(n:Int)).toNat else min (k:Int).toNat n)=min k n
 rw[if_neg (by lia),Int.toNat_natCast]
end
end HT
namespace L2
open PySem PySem.Spec PyProof.Rows
abbrev TO:=St->Hp->(Option Int->Hp->Prop)->Prop
def PO (X:Cx) (e:Option Expr) (t:TO):Prop :=
 ∀(pins:List (Addr×Obj)) (s:Shared) (σ:St) (H:Hp) (Q:Option Int->Hp->Prop),Inv X pins σ H s->t σ H Q →
  wpAny (model X.prog X.w) X.A (evalPart e X.env) (fun u s'=>∃o H',Inv X pins σ H' s'∧IsPart u o∧Q o H') X.xe s
def tNoPart:TO:=fun _ H Q=>Q none H
def tPart (t:TE):TO:=fun σ H Q=>t σ H fun x H1=>∃i,x=.int i∧Q (some i) H1
section
variable {X:Cx} {e:Expr} {te:TE} {lo hi:Option Expr} {tl th:TO} {pos p2:Pos}
theorem po_none:PO X none tNoPart:=by
 intro pins s σ H Q I h
 rw[evalPart_none]
 exact wpAny_pure ⟨none,H,I,.none,h⟩
theorem po_some (h:PE X e te):PO X (some e) (tPart te):=by
 intro pins s σ H Q I hw
 rw[evalPart_some]
 refine thn (h pins s σ H _ I hw) fun u s1 ⟨x,H1,I1,r1,q1⟩=>?_
 obtain ⟨i,rfl,q⟩:=q1
 obtain ⟨t,rfl⟩:=r1
 exact ⟨some i,H1,I1,.int i t,q⟩
def SlR (X:Cx) (r:V->Option Int->Option Int->Hp->VK->Prop):Prop :=
 ∀(pins:List (Addr×Obj)) (s:Shared) (σ:St) (H:Hp) (x:V) (v vl vu:Value) (lo hi:Option Int) (sl:Addr) (Q:VK),Inv X pins σ H s->RelV x v->s.heap.IsSliceOf sl vl vu .none->IsPart vl lo->IsPart vu hi->r x lo hi H Q →
  ∃T id,typeLookup (.type T) "__getitem__"=pure (some (.builtin id))∧s.TypeIs v T∧wpAny (model X.prog X.w) X.A (getItem v (.ref sl)) (EP X pins σ Q) X.xe s
def tSl (r:V->Option Int->Option Int->Hp->VK->Prop) (te:TE) (tl th:TO):TE:=fun σ H Q=>te σ H fun x H1=>tl σ H1 fun l H2=>th σ H2 fun u H3=>r x l u H3 Q
theorem pe_slice {r:V->Option Int->Option Int->Hp->VK->Prop} (hr:SlR X r) (he:PE X e te) (hl:PO X lo tl) (hu:PO X hi th):PE X (.Subscript e (.Slice lo hi none p2) pos) (tSl r te tl th):=by
 intro pins s σ H Q I h
 refine Subscript_ (thn (he pins s σ H _ I h) fun v s1 ⟨x,H1,I1,r1,q1⟩=>?_)
 refine wpAny_Slice (thn (hl pins s1 σ H1 _ I1 q1) fun vl s2 ⟨l,H2,I2,pl,q2⟩=>thn (hu pins s2 σ H2 _ I2 q2) fun vu s3 ⟨u,H3,I3,pu,q3⟩=>?_)
 rw[evalPart_none]
 refine wpAny_pure ?_
 have I4:Inv X pins σ H3 { s3 with heap:=s3.heap.push { cls:=.type "slice",data:=.fields #[vl,vu,.none] } }:=I3.kept (t':=s3.toks) fun b ob q=>Heap.get?_push_of_some _ q
 obtain ⟨T,id,hT,ht,hg⟩:=hr pins { s3 with heap:=s3.heap.push { cls:=.type "slice",data:=.fields #[vl,vu,.none] } } σ H3 x v vl vu l u s3.heap.objs.size Q I4 r1 (Heap.IsSliceOf.new ..) pl pu q3
 show wpAny (model X.prog X.w) X.A (subscriptTail e (.Slice lo hi none p2) v (.ref s3.heap.objs.size)) (EP X pins σ Q) X.xe { s3 with heap:=s3.heap.push { cls:=.type "slice",data:=.fields #[vl,vu,.none] } }
 exact tail_any (ops:=[.ref s3.heap.objs.size,v]) ht hT hg (by with_unfolding_all rfl)
def cutV (xs:List V) (lo hi:Option Int):List V:=(xs.drop (HT.sIx xs.length 0 lo)).take (HT.sIx xs.length xs.length hi - HT.sIx xs.length 0 lo)
theorem cutV_length (xs:List V) (lo hi:Option Int):(cutV xs lo hi).length<=xs.length:=by
 unfold cutV
 rw[List.length_take,List.length_drop]
 lia
end
end L2
namespace L2
open PySem PySem.Spec PyProof.Rows
def ixN (n:Nat) (i:Int):Option Nat:=if 0<=i then (if i < n then some i.toNat else none) else if -(n:Int)<=i then some (i+n).toNat else none
def atI {α:Type} (xs:List α) (i:Int):Option α:=(ixN xs.length i).bind fun j=>xs[j]?
theorem ixN_seq {n:Nat} {i:Int} {j:Nat} (h:ixN n i=some j):seqIndex? i n=some j∧j < n∧-(n:Int)<=i∧i < n:=by
 unfold ixN at h
 by_cases h0:0<=i
 ·rw[if_pos h0] at h
  by_cases h1:i < n
  ·rw[if_pos h1] at h
   have e:i.toNat=j:=Option.some.inj h
   exact ⟨by rw[seqIndex_of h0 h1,e],by lia,by lia,h1⟩
  ·rw[if_neg h1] at h;cases h
 ·rw[if_neg h0] at h
  by_cases h1:-(n:Int)<=i
  ·rw[if_pos h1] at h
   have e:(i+n).toNat=j:=Option.some.inj h
   exact ⟨by rw[seqIndex_neg (by lia) h1,e],by lia,h1,by lia⟩
  ·rw[if_neg h1] at h;cases h
theorem atI_get {α:Type} {xs:List α} {i:Int} {v:α} (h:atI xs i=some v):∃j,seqIndex? i xs.length=some j∧xs[j]?=some v∧j < xs.length∧-(xs.length:Int)<=i∧i < xs.length:=by
 unfold atI at h
 cases e:ixN xs.length i with
 | none=>rw[e] at h;cases h
 | some j =>
  rw[e] at h
  obtain ⟨h1,h2,h3,h4⟩:=ixN_seq e
  exact ⟨j,h1,h,h2,h3,h4⟩
theorem atI_nat {α:Type} {xs:List α} {j:Nat} {v:α} (h:xs[j]?=some v):atI xs (j:Int)=some v:=by
 have hj:j < xs.length:=(List.getElem?_eq_some_iff.mp h).1
 have e:ixN xs.length (j:Int)=some j:=by
  unfold ixN
  rw[if_pos (by lia),if_pos (by lia)];simp
 unfold atI;rw[e];exact h
def PlainIx (b:Expr):Prop:=∀o i,subscripted b false o i=operate [o,i] (getItem o i)
def IxR (X:Cx) (r:R2):Prop :=
 ∀(value slice:Expr) (pins:List (Addr×Obj)) (s:Shared) (σ:St) (H:Hp) (x y:V) (v u:Value) (Q:VK),Inv X pins σ H s->RelV x v->RelV y u->r x y H Q →
  subscripted slice false v u=operate [v,u] (getItem v u)->wpAny (model X.prog X.w) X.A (subscriptTail value slice v u) (EP X pins σ Q) X.xe s
def MtR (X:Cx) (id:String) (r:V->List V->Hp->VK->Prop):Prop :=
 ∀(pins:List (Addr×Obj)) (s:Shared) (σ:St) (H:Hp) (x:V) (xs:List V) (v:Value) (us:List Value) (Q:VK),Inv X pins σ H s->RelV x v->Vals xs us->r x xs H Q →
  wpAny (model X.prog X.w) X.A (call (.builtin id) (v :: us)) (EP X pins σ Q) X.xe s
section
variable {X:Cx} {a b:Expr} {ta tb:TE} {pos:Pos}
theorem pe_ix {r:R2} (hr:IxR X r) (ha:PE X a ta) (hb:PE X b tb) (hs:PlainIx b):PE X (.Subscript a b pos) (tOp r ta tb):=by
 intro pins s σ H Q I h
 exact Subscript_ (binT ha hb I h fun v u s2 x y H2 I2 rx ry q=>hr a b pins s2 σ H2 x y v u Q I2 rx ry q (hs _ _))
def rIxL (K:PySem.W.Frag):R2:=fun x y H Q=>∃p xs i v,x=.ref p∧y=.int i∧SqL K H p xs∧atI xs i=some v∧Q v H
def rIxT (K:PySem.W.Frag):R2:=fun x y H Q=>∃p xs i v,x=.ref p∧y=.int i∧SqT K H p xs∧atI xs i=some v∧Q v H
def rIxS:R2:=fun x y H Q=>∃z i c,x=.str z∧y=.int i∧z.length<=sizeLine∧atI z.cps.toList i=some c∧Q (.str ⟨#[c]⟩) H
theorem ix_list:IxR X (rIxL X.K):=by
 intro value slice pins s σ H x y v u Q I rx ry h hs
 obtain ⟨p,xs,i,z,rfl,rfl,hq,he,q⟩:=h
 cases rx
 obtain ⟨t,rfl⟩:=ry
 obtain ⟨its,r,pl,hz⟩:=I.list hq
 obtain ⟨j,h1,h2,h3,h4,h5⟩:=atI_get he
 obtain ⟨w,ew,rw'⟩:=r.get h2
 have hl:=r.length
 have hn:=line63
 have fin:EP X pins σ Q w s:=⟨z,H,I,rw',q⟩
 by_cases h0:0<=i
 ·have hj:i.toNat=j:=by
   rw[seqIndex_of h0 h5] at h1
   exact Option.some.inj h1
  exact item_listR pl.isList h0 (by lia) (by rw[hj];simpa using ew) fin hs
 ·have hj:(i+(its.toArray.size:Int)).toNat=j:=by
   rw[seqIndex_neg (by lia) h4] at h1
   rw[List.size_toArray,← hl]
   exact Option.some.inj h1
  exact subscriptTail_builtinR (x:=w) pl.isList.typeIs slot_list_getitem.lookup
   (wpAny_getItem_list_neg (Q:=fun r s'=>r=w∧EP X pins σ Q r s') pl.isList (by lia) (by rw[List.size_toArray] <;> lia) (by lia) (by rw[hj];simpa using ew) ⟨rfl,fin⟩) hs
theorem ix_tup:IxR X (rIxT X.K):=by
 intro value slice pins s σ H x y v u Q I rx ry h hs
 obtain ⟨p,xs,i,z,rfl,rfl,hq,he,q⟩:=h
 cases rx
 obtain ⟨t,rfl⟩:=ry
 obtain ⟨its,r,pl,hz⟩:=I.tuple hq
 obtain ⟨j,h1,h2,h3,h4,h5⟩:=atI_get he
 obtain ⟨w,ew,rw'⟩:=r.get h2
 have hl:=r.length
 have hn:=line63
 have fin:EP X pins σ Q w s:=⟨z,H,I,rw',q⟩
 exact subscriptTail_builtinR (x:=w) pl.typeIs slot_tuple_getitem.lookup
  (getItem_tuple (j:=j) (Q:=fun r s'=>r=w∧EP X pins σ Q r s') pl (by lia) (by lia) (by rw[List.size_toArray,← hl];exact h1) (by simpa using ew) ⟨rfl,fin⟩) hs
theorem ix_str:IxR X rIxS:=by
 intro value slice pins s σ H x y v u Q I rx ry h hs
 obtain ⟨z,i,c,rfl,rfl,hz,he,q⟩:=h
 obtain ⟨t,rfl⟩:=rx
 obtain ⟨t',rfl⟩:=ry
 obtain ⟨j,h1,h2,h3,h4,h5⟩:=atI_get he
 have hl:z.cps.toList.length=z.length:=by simp [Str.length]
 rw[hl] at h1 h4 h5
 have hn:=line63
 exact tail_any (typeIs_str s z t) slot_str_getitem.lookup (getItem_str (c:=c) (by
  have e1:decide (i < -(2^63:Int))=false:=decide_eq_false (by lia)
  have e2:decide (i ≥ 2^63)=false:=decide_eq_false (by lia)
  rw[e1,e2,Bool.or_false]) (by rw[h1];simpa using h2) ⟨.str ⟨#[c]⟩,H,I.tok _,⟨_,rfl⟩,q⟩) hs
theorem mapSeq_set (its:List Value) (n j:Nat) (u:Value):Obj.mapSeq (·.setIfInBounds j u) { cls:=.type "list",data:=.seq its.toArray n }={ cls:=.type "list",data:=.seq (its.set j u).toArray n }:=by
 simp [Obj.mapSeq]
theorem Inv.lst {pins:List (Addr×Obj)} {σ:St} {H:Hp} {s:Shared} {p:Addr} {xs:List V} (I:Inv X pins σ H s) (h:H p=some (.lst xs)) :
  ∃(its:List Value) (n:Nat),Vals xs its∧s.heap.get? p=some { cls:=.type "list",data:=.seq its.toArray n }∧xs.length<=sizeLine:=by
 obtain ⟨z,its,n,r,e⟩:=I.hok p _ h
 exact ⟨its,n,r,e,z⟩
theorem Inv.lstUpd {pins:List (Addr×Obj)} {σ:St} {H:Hp} {s:Shared} {p:Addr} {xs ys:List V} {its its':List Value} {n n':Nat} {f:Obj->Obj} (I:Inv X pins σ H s) (h:H p=some (.lst xs))
  (ho:s.heap.get? p=some { cls:=.type "list",data:=.seq its.toArray n }) (hf:f { cls:=.type "list",data:=.seq its.toArray n }={ cls:=.type "list",data:=.seq its'.toArray n' }) (r:Vals ys its') (hz:ys.length<=sizeLine) (t:Nat) :
  Inv X pins σ (upd H p (.lst ys)) { s with heap:=s.heap.update p f,toks:=t }:=by
 have e:(s.heap.update p f).get? p=some { cls:=.type "list",data:=.seq its'.toArray n' }:=by
  rw[Heap.get?_update_self f ho (by rw[hf] <;> rfl),hf]
 refine I.write (x:=p) (e:=p) (by rw[h];trivial) (.inl rfl) (fun b u hb q=>(Heap.get?_update_other _ _ (Ne.symm hb)).trans q) ⟨_,e⟩ ?_
 exact ⟨hz,its',n',r,e⟩
def rSetL:V->V->V->Hp->(Hp->Prop)->Prop:=fun o i v H Q=>∃p xs k j,o=.ref p∧i=.int k∧H p=some (.lst xs)∧ixN xs.length k=some j∧Q (upd H p (.lst (xs.set j v)))
theorem set_list:PSet X rSetL:=by
 intro pins s σ H o i v ov iv u Q I ro ri rv h
 obtain ⟨p,xs,k,j,rfl,rfl,hp,hj,q⟩:=h
 cases ro
 obtain ⟨t,rfl⟩:=ri
 obtain ⟨its,n,r,ho,hz⟩:=I.lst hp
 obtain ⟨h1,h2,h3,h4⟩:=ixN_seq hj
 have hl:=r.length
 have hn:=line63
 have I':Inv X pins σ (upd H p (.lst (xs.set j v))) { s with heap:=s.heap.update p (Obj.mapSeq (·.setIfInBounds j u)) } :=
  I.lstUpd hp ho (mapSeq_set its n j u) (r.set rv j) (by rw[List.length_set];exact hz) s.toks
 by_cases h0:0<=k
 ·have hk:k.toNat=j:=by
   rw[seqIndex_of h0 h4] at h1
   exact Option.some.inj h1
  exact PySem.W.ki_setAt ho h0 (by lia) (by rw[List.size_toArray,← hl];exact h4) (by rw[hk];exact ⟨_,I',q⟩)
 ·have hk:(k+(its.toArray.size:Int)).toNat=j:=by
   rw[seqIndex_neg (by lia) h3] at h1
   rw[List.size_toArray,← hl]
   exact Option.some.inj h1
  exact PySem.W.ki_setBack ho (by lia) (by rw[List.size_toArray,← hl];exact h3) (by lia) (by rw[hk];exact ⟨_,I',q⟩)
theorem slice_bounds (lo hi:Option Int) (n:Nat):(sliceBounds lo hi none n).1=((HT.sIx n 0 lo:Nat):Int)∧(sliceBounds lo hi none n).2.1=((HT.sIx n n hi:Nat):Int)∧(sliceBounds lo hi none n).2.2=1:=by
 refine ⟨?_,?_,rfl⟩
 ·cases lo with
  | none=>simp [sliceBounds,HT.sIx]
  | some i =>
   simp only[sliceBounds,HT.sIx,Option.getD_none,show (1:Int) > 0 by decide,if_true]
   by_cases h:i < 0
   ·simp only[h,if_true] <;> lia
   ·simp only[h,if_false] <;> lia
 ·cases hi with
  | none=>simp [sliceBounds,HT.sIx]
  | some i =>
   simp only[sliceBounds,HT.sIx,Option.getD_none,show (1:Int) > 0 by decide,if_true]
   by_cases h:i < 0
   ·simp only[h,if_true] <;> lia
   ·simp only[h,if_false] <;> lia
theorem slicePick_cut (its:List Value) (lo hi:Option Int):slicePick its.toArray lo hi none=((its.drop (HT.sIx its.length 0 lo)).take (HT.sIx its.length its.length hi - HT.sIx its.length 0 lo)).toArray:=by
 obtain ⟨h1,h2,h3⟩:=slice_bounds lo hi its.toArray.size
 unfold slicePick
 rw[h1,h2,h3]
 simp only[sliceRange_one,pick_run,List.size_toArray] <;> rfl
def rSlL (K:PySem.W.Frag):V->Option Int->Option Int->Hp->VK->Prop:=fun x lo hi H Q=>∃a xs,x=.ref a∧SqL K H a xs∧∀p,H p=none->Q (.ref p) (upd H p (.lst (cutV xs lo hi)))
theorem sl_list:SlR X (rSlL X.K):=by
 intro pins s σ H x v vl vu lo hi sl Q I rx hs pl pu h
 obtain ⟨a,xs,rfl,hx,q⟩:=h
 cases rx
 obtain ⟨its,r,ht,hz⟩:=I.list hx
 have hlen:=r.length
 refine ⟨"list",_,slot_list_getitem.lookup,ht.isList.typeIs,?_⟩
 refine wpAny_getItem_list_slice ht.isList hs pl pu .none (by simp) ?_ (by rw[List.size_toArray] <;> lia)
 rw[slicePick_cut,← hlen]
 refine ⟨.ref s.heap.objs.size,_,I.laid (t':=s.toks) (o:=.lst (cutV xs lo hi)) (fun b ob q=>Heap.get?_push_of_some _ q) (Nat.le_refl _) ?_,rfl,q _ (I.hok.fresh (Nat.le_refl _))⟩
 exact ⟨Nat.le_trans (cutV_length xs lo hi) hz,_,0,(r.drop (HT.sIx xs.length 0 lo)).take (HT.sIx xs.length xs.length hi - HT.sIx xs.length 0 lo),Heap.get?_push_size _ rfl⟩
theorem call_len_seq:CallR X (.builtin "len") (fun xs H Q=>∃p ys,xs=[.ref p]∧(SqL X.K H p ys∨SqT X.K H p ys)∧Q (.int ys.length) H):=by
 intro pins s σ H xs us Q I r h
 obtain ⟨p,ys,rfl,hq,q⟩:=h
 obtain ⟨u,rfl,rx⟩:=vals1 r
 cases rx
 have hn:=line63
 rcases hq with hq | hq
 ·obtain ⟨its,r',pl,hz⟩:=I.list hq
  have hlen:=r'.length
  exact Calls.call_len_list pl.isList (by simp only[List.size_toArray] <;> lia) ⟨.int ys.length,H,I.tok _,⟨s.toks+1,by rw[List.size_toArray,hlen]⟩,q⟩
 ·obtain ⟨its,r',pl,hz⟩:=I.tuple hq
  have hlen:=r'.length
  exact len_tuple pl (by simp only[List.size_toArray] <;> lia) ⟨.int ys.length,H,I.tok _,⟨s.toks+1,by rw[List.size_toArray,hlen]⟩,q⟩
theorem call_len_str:CallR X (.builtin "len") (fun xs H Q=>∃z,xs=[.str z]∧z.length<=sizeLine∧Q (.int z.length) H):=by
 intro pins s σ H xs us Q I r h
 obtain ⟨z,rfl,hz,q⟩:=h
 obtain ⟨u,rfl,t,rfl⟩:=vals1 r
 have hn:=line63
 exact len_str (by lia) ⟨.int z.length,H,I.tok _,⟨_,rfl⟩,q⟩
theorem call_list_of:CallR X (.type "list") (fun xs H Q=>∃p ys,xs=[.ref p]∧(SqL X.K H p ys∨SqT X.K H p ys)∧∀l,H l=none->Q (.ref l) (upd H l (.lst ys))):=by
 intro pins s σ H xs us Q I r h
 obtain ⟨p,ys,rfl,hq,q⟩:=h
 obtain ⟨u,rfl,rx⟩:=vals1 r
 cases rx
 have fin:∀(its:List Value),Vals ys its->ys.length<=sizeLine->∀(h':Heap) (c':Nat),(∀b o',s.heap.get? b=some o'->h'.get? b=some o') →
   h'.get? s.heap.objs.size=some { cls:=.type "list",dict:=none,data:=.seq its.toArray c',slots:=#[] }->EP X pins σ Q (.ref s.heap.objs.size) { s with heap:=h' }:=fun its r' hz h' c' kp e =>
  ⟨.ref s.heap.objs.size,_,I.laid (t':=s.toks) kp (Nat.le_refl _) (show ObjOk X.prog X.w _ h' _ (.lst ys) from ⟨hz,its,c',r',e⟩),rfl,q _ (I.hok.fresh (Nat.le_refl _))⟩
 rcases hq with hq | hq
 ·obtain ⟨its,r',pl,hz⟩:=I.list hq
  have hlen:=r'.length
  obtain ⟨o,ho,hc,n,hd⟩:=pl.isList
  exact call_list_seq p (.inl rfl) ho hc hd (fun h' c' kp e=>fin its r' hz h' c' kp e) (by simp only[List.size_toArray] <;> lia)
 ·obtain ⟨its,r',pl,hz⟩:=I.tuple hq
  have hlen:=r'.length
  obtain ⟨o,ho,hc,n,hd⟩:=pl
  exact call_list_seq p (.inr rfl) ho hc hd (fun h' c' kp e=>fin its r' hz h' c' kp e) (by simp only[List.size_toArray] <;> lia)
def tyV (K:PySem.W.Frag) (T:String) (x:V) (H:Hp):Prop:=match x with
 | .str _=>T="str"
 | .int _=>T="int"
 | .ref p=>(T="list"∧∃xs,SqL K H p xs)∨(T="tuple"∧∃o,K.lookup p=some o∧o.cls=.type "tuple"∧o.dict=none) ∨
   (T="dict"∧((∃kvs,H p=some (.dK kvs))∨∃kvs,H p=some (.dT kvs)))∨(T="set"∧∃S n,H p=some (.set S n))
 | _=>False
theorem tyV_is {pins:List (Addr×Obj)} {σ:St} {H:Hp} {s:Shared} {T:String} {x:V} {v:Value} (I:Inv X pins σ H s) (r:RelV x v) (ty:tyV X.K T x H) :
  s.TypeIs v T∧∀a,v=.ref a->∃ob,s.heap.get? a=some ob∧ob.dict=none:=by
 cases x with
 | str z =>
  obtain ⟨t,rfl⟩:=r
  cases (show T="str" from ty)
  exact ⟨typeIs_str s z t,fun _ e=>nomatch e⟩
 | int i =>
  obtain ⟨t,rfl⟩:=r
  cases (show T="int" from ty)
  exact ⟨typeIs_int s i t,fun _ e=>nomatch e⟩
 | ref p =>
  cases r
  rcases ty with ⟨rfl,xs,hq⟩ | ⟨rfl,o,hk,hc,hd⟩ | ⟨rfl,hk⟩ | ⟨rfl,S,n,hk⟩
  ·obtain ⟨its,_,pl,_⟩:=I.list hq
   refine ⟨pl.isList.typeIs,fun a e=>?_⟩
   cases e
   obtain ⟨o,n,e,c,hd,_⟩:=pl
   exact ⟨o,e,hd⟩
  ·refine ⟨⟨o,I.kIn p o hk,hc⟩,fun a e=>?_⟩
   cases e
   exact ⟨o,I.kIn _ o hk,hd⟩
  ·have z:∃o,s.heap.get? p=some o∧o.ExactDict:=by
    rcases hk with ⟨kvs,hk⟩ | ⟨kvs,hk⟩
    ·obtain ⟨_,_,_,_,o,_,_,e,ex,_⟩:=I.hok p _ hk
     exact ⟨o,e,ex⟩
    ·obtain ⟨_,_,_,_,o,_,_,e,ex,_⟩:=I.hok p _ hk
     exact ⟨o,e,ex⟩
   obtain ⟨o,e,ex⟩:=z
   refine ⟨⟨o,e,ex.1⟩,fun a e2=>?_⟩
   cases e2
   exact ⟨o,e,ex.2.1⟩
  ·obtain ⟨o,_,_,_,e,ex,_⟩:=I.hok p _ hk
   refine ⟨⟨o,e,ex.1⟩,fun a e2=>?_⟩
   cases e2
   exact ⟨o,e,ex.2.1⟩
 | _=>exact False.elim ty
def tBM (K:PySem.W.Frag) (T:String) (r:V->List V->Hp->VK->Prop) (to:TE) (t:TA):TE:=fun σ H Q=>to σ H fun x H1=>tyV K T x H1∧t σ H1 fun xs H2=>r x xs H2 Q
variable {o e:Expr} {es:List Expr} {to:TE} {t:TA} {name:Str} {apos cpos:Pos} {T id:String} {r:V->List V->Hp->VK->Prop}
theorem pe_bm (pa:PlainAttrs T) (slot:Slot T name id) (hty:typeOf (.builtin id)=pure (.type "method_descriptor")) (hm:MtR X id r) (ho:PE X o to) (ha:PA X (e :: es) t)
  (hbase:attributeBase o name X.env (eval o X.env)=eval o X.env:=by rfl)
  (hfew:((backTo cpos (starEach (e :: es) X.env)).all (fun x=>!x.1) && (backToKw cpos (keywordEach [] X.env)).all (fun x=>x.1.isSome)
   && decide ((e :: es).length+([]:List Keyword).length+(if ([]:List Keyword).isEmpty then 0 else 1) < 30))=true:=by rfl)
  (hline:(apos.endLine == cpos.line)=true:=by rfl) (hs:starEach (e :: es) X.env=(false,eval e X.env) :: starEach es X.env:=by rfl) (hplain:(backTo cpos (starEach es X.env)).any (·.1)=false:=by rfl) :
  PE X (.Call (.Attribute o name apos) (e :: es) [] cpos) (tBM X.K T r to t):=by
 intro pins s σ H Q I h
 refine wpAny_Call_method_late hbase hfew hline rfl (thn (ho pins s σ H _ I h) fun v s1 ⟨x,H1,I1,r1,ty,q1⟩=>?_)
 obtain ⟨h1,h2⟩:=tyV_is I1 r1 ty
 refine ⟨T,id,pa,slot,hty,h1,h2,?_⟩
 have hA:=ha cpos pins s1 σ H1 _ I1 q1
 rw[hs] at hA ⊢
 refine Calls.callWith_builtin (by show (false || (backTo cpos (starEach es X.env)).any (·.1))=false;rw[hplain] <;> rfl) (Calls.evalArgs_plain ?_)
 exact thn hA fun us s2 ⟨vs,H2,I2,r2,q2⟩=>hm pins s2 σ H2 x vs v us Q I2 r1 r2 q2
/- xs.append(e),list.index on a module's tuple .. are MtR facts of 06m -/
end
end L2
namespace L2
open PySem PySem.Spec PyProof.Rows
def MtM (X:Cx) (id:String) (r:V->List V->Hp->VK->Prop):Prop :=
 ∀(pins:List (Addr×Obj)) (s:Shared) (σ:St) (H:Hp) (x:V) (xs:List V) (v:Value) (us:List Value) (Q:VK),Inv X pins σ H s->RelV x v->Vals xs us->r x xs H Q →
  wpAny (model X.prog X.w) X.A (call (.builtin id) (v :: us)) (EP X pins σ Q) X.xe s
theorem Vals.one:∀{x:V} {us:List Value},Vals [x] us->∃u,us=[u]∧RelV x u
 | _,_,.cons r .nil=>⟨_,rfl,r⟩
theorem Vals.rep {xs:List V} {us:List Value} (h:Vals xs us):∀k:Nat,Vals (List.replicate k xs).flatten (List.replicate k us).flatten
 | 0=>.nil
 | k+1=>by
  rw[List.replicate_succ,List.replicate_succ,List.flatten_cons,List.flatten_cons]
  exact Vals.append h (Vals.rep h k)
theorem foldl_rep (its:List Value):∀(k:Nat) (acc:List Value),
  List.foldl (fun x1 x2=>x1++x2) acc.toArray (List.replicate k its.toArray)=(acc++(List.replicate k its).flatten).toArray
 | 0,acc=>by simp
 | k+1,acc=>by
  have e:acc.toArray++its.toArray=(acc++its).toArray:=by simp
  have e2:(acc++its)++(List.replicate k its).flatten=acc++(List.replicate (k+1) its).flatten:=by
   rw[List.replicate_succ,List.flatten_cons,List.append_assoc]
  rw[← e2,← foldl_rep its k (acc++its),← e,List.replicate_succ,List.foldl_cons]
section
variable {X:Cx} {pins:List (Addr×Obj)} {σ:St} {H:Hp} {s:Shared} {l b:Addr} {xs ys zs:List V}
theorem Inv.lset {its its':List Value} {n:Nat} {f:Array Value->Array Value} {t':Nat} (I:Inv X pins σ H s) (hH:H l=some (.lst xs))
  (e:s.heap.get? l=some { cls:=.type "list",data:=.seq its.toArray n }) (hf:f its.toArray=its'.toArray) (hv:Vals ys its') (hz:ys.length<=sizeLine) :
  Inv X pins σ (upd H l (.lst ys)) { s with heap:=s.heap.update l (Obj.mapSeq f),toks:=t' }:=by
 have q:=PySem.IsL.update e f
 rw[hf] at q
 refine I.write (x:=l) (e:=l) (by rw[hH];exact trivial) (.inl rfl) (fun b' u hb hu=>(Heap.get?_update_other s.heap (Obj.mapSeq f) (Ne.symm hb)).trans hu) ⟨_,q⟩ ?_
 exact ⟨hz,its',_,hv,q⟩
theorem Inv.lnew {its:List Value} {t':Nat} (I:Inv X pins σ H s) (hv:Vals ys its) (hz:ys.length<=sizeLine) :
  Inv X pins σ (upd H s.heap.objs.size (.lst ys)) { s with heap:=s.heap.push { cls:=.type "list",data:=.seq its.toArray },toks:=t' } :=
 I.laid (fun _ _ q=>Heap.get?_push_of_some _ q) (Nat.le_refl _) ⟨hz,its,0,hv,Heap.get?_push_size _ rfl⟩
theorem Inv.fresh (I:Inv X pins σ H s):H s.heap.objs.size=none:=I.hok.fresh (Nat.le_refl _)
theorem Inv.lstM (I:Inv X pins σ H s) (hH:H l=some (.lst xs)):xs.length<=sizeLine∧∃(its:List Value) (n:Nat),Vals xs its∧xs.length=its.length∧s.heap.get? l=some { cls:=.type "list",data:=.seq its.toArray n }:=by
 obtain ⟨z,its,n,r,e⟩:=I.hok l _ hH
 exact ⟨z,its,n,r,r.length,e⟩
theorem notLongL {n:Nat} (h:n<=sizeLine):Builtin.List.listTooLong n=false:=by
 unfold Builtin.List.listTooLong
 exact decide_eq_false (by lia)
end
section
variable {X:Cx}
def rAppend:V->List V->Hp->VK->Prop:=fun x vs H Q=>∃l xs y,x=.ref l∧vs=[y]∧H l=some (.lst xs)∧xs.length < sizeLine∧Q .non (upd H l (.lst (xs++[y])))
theorem mt_append:MtM X "list.append" rAppend:=by
 intro pins s σ H x vs v us Q I rx rv h
 obtain ⟨l,xs,y,rfl,rfl,hH,hz,q⟩:=h
 cases rx
 obtain ⟨u,rfl,ru⟩:=rv.one
 obtain ⟨z,its,n,r,hl,e⟩:=I.lstM hH
 refine call_meets F.slot_list_append ⟨_,e,rfl⟩ F.entry_list_append (F.args_list_append_2 _ _) (PySem.list_append l its.toArray n u (by rw[List.size_toArray];lia)) ⟨e,?_⟩
 refine ⟨.non,_,I.lset (its':=its++[u]) hH e (by simp) (r.append (.cons ru .nil)) ?_,rfl,q⟩
 rw[List.length_append,List.length_singleton]
 lia
def rExtend:V->List V->Hp->VK->Prop:=fun x vs H Q=>∃l b xs zs,x=.ref l∧vs=[.ref b]∧H l=some (.lst xs)∧H b=some (.lst zs)∧xs.length+zs.length<=sizeLine∧Q .non (upd H l (.lst (xs++zs)))
theorem mt_extend:MtM X "list.extend" rExtend:=by
 intro pins s σ H x vs v us Q I rx rv h
 obtain ⟨l,b,xs,zs,rfl,rfl,hH,hB,hz,q⟩:=h
 cases rx
 obtain ⟨u,rfl,ru⟩:=rv.one
 cases ru
 obtain ⟨z,its,n,r,hl,e⟩:=I.lstM hH
 obtain ⟨z2,its2,n2,r2,hl2,e2⟩:=I.lstM hB
 have hsz:its.toArray.size+its2.toArray.size<=sizeLine:=by rw[List.size_toArray,List.size_toArray];lia
 have hlong:¬(!its.toArray.isEmpty && Builtin.List.listTooLong (its.toArray.size+its2.toArray.size))=true:=by
  rw[notLongL hsz,Bool.and_false]
  exact Bool.false_ne_true
 refine call_meets F.slot_list_extend ⟨_,e,rfl⟩ F.entry_list_extend (F.args_list_extend_2 _ _)
  (AutoSeq1.list_extend_list_list_0 l its.toArray n b its2.toArray n2 hlong (by rw[List.size_toArray];lia) (by lia)) ⟨e,e2,?_⟩
 refine ⟨.non,_,I.lset (its':=its++its2) hH e (by simp) (r.append r2) ?_,rfl,q⟩
 rw[List.length_append]
 lia
def rCat:R2:=fun x y H Q=>∃l b xs zs,x=.ref l∧y=.ref b∧H l=some (.lst xs)∧H b=some (.lst zs)∧xs.length+zs.length<=sizeLine∧∀p,H p=none->Q (.ref p) (upd H p (.lst (xs++zs)))
theorem op_cat:OpR X (binaryOp .Add) rCat:=by
 intro pins s σ H x y v u Q I rx ry h
 obtain ⟨l,b,xs,zs,rfl,rfl,hH,hB,hz,q⟩:=h
 cases rx
 cases ry
 obtain ⟨z,its,n,r,hl,e⟩:=I.lstM hH
 obtain ⟨z2,its2,n2,r2,hl2,e2⟩:=I.lstM hB
 refine PySem.P.add_list e e2 ?_ (by rw[List.size_toArray,List.size_toArray];lia)
 have ea:its.toArray++its2.toArray=(its++its2).toArray:=by simp
 rw[ea]
 exact ⟨.ref _,_,I.lnew (t':=s.toks) (r.append r2) (by rw[List.length_append];lia),rfl,q _ I.fresh⟩
def rRep:R2:=fun x y H Q=>∃l k xs,x=.ref l∧y=.int k∧H l=some (.lst xs)∧-(2^63)<=k∧k < 2^63∧xs.length*k.toNat<=sizeLine ∧
 ∀p,H p=none->Q (.ref p) (upd H p (.lst (List.replicate k.toNat xs).flatten))
theorem len_rep {α:Type} (xs:List α) (k:Nat):(List.replicate k xs).flatten.length=k*xs.length:=by
 induction k with
 | zero=>simp
 | succ k ih=>rw[List.replicate_succ,List.flatten_cons,List.length_append,ih,Nat.succ_mul,Nat.add_comm]
theorem op_rep:OpR X (binaryOp .Mult) rRep:=by
 intro pins s σ H x y v u Q I rx ry h
 obtain ⟨l,k,xs,rfl,rfl,hH,h1,h2,hz,q⟩:=h
 cases rx
 obtain ⟨t,rfl⟩:=ry
 obtain ⟨z,its,n,r,hl,e⟩:=I.lstM hH
 have hlen:its.toArray.size*k.toNat<=sizeLine:=by rw[List.size_toArray,← hl];exact hz
 have hcap:¬its.toArray.size*k.toNat > (2^63 - 1) / 8:=by
  have:(sizeLine:Nat)<=(2^63 - 1) / 8:=by decide
  lia
 have hfit:¬(!Builtin.List.listFitsIndex k)=true:=by
  rw[fitsIndex_both h1 h2]
  exact Bool.false_ne_true
 have hlong:¬Builtin.List.listTooLong (its.toArray.size*k.toNat)=true:=by
  rw[notLongL hlen]
  exact Bool.false_ne_true
 have hnew:List.foldl (fun x1 x2=>x1++x2) #[] (List.replicate (if its.toArray.isEmpty=true then 0 else k.toNat) its.toArray)=(List.replicate k.toNat its).flatten.toArray:=by
  have f0:∀m:Nat,List.foldl (fun x1 x2=>x1++x2) #[] (List.replicate m its.toArray)=(List.replicate m its).flatten.toArray:=fun m=>by
   have:=foldl_rep its m []
   rw[List.nil_append] at this
   exact this
  rw[f0]
  cases its with
  | nil=>simp
  | cons a r'=>rw[if_neg (by simp)]
 refine wpAny_binaryOp_repeat_ref (T:="list") (U:="int") (by decide) ⟨_,e,rfl⟩ (fun s'=>typeIs_int s' k t) noFill_list_mul F.fills_int_mul F.slot_int_rmul repeat_list F.slot_int_index.lookup
  (call_meets F.slot_int_rmul (typeIs_int s k t) F.entry_int_rmul (F.args_int_rmul_2 _ _) (int___rmul___int_list k t l its.toArray n)
   ⟨e,rfl,⟨_,e,rfl⟩,call_meets F.slot_list_mul ⟨_,e,rfl⟩ F.entry_list_mul (F.args_list_mul_2 _ _) (AutoListH.list___mul___list_int_3 l its.toArray n k t hfit hcap hlong) ⟨e,?_⟩⟩)
 rw[hnew]
 exact ⟨.ref _,_,I.lnew (t':=s.toks) (r.rep k.toNat) (by rw[len_rep,Nat.mul_comm];exact hz),rfl,q _ I.fresh⟩
end
end L2
namespace Att
open PySem PySem.W PySem.Calls PyProof.Rows
theorem ints_of_wellAll {P:Params} {h:Heap}:∀(ns:List Int) (vs:List Value),WellAll P h vs (ns.map WData.int)->IntsAre vs ns:=by
 intro ns
 induction ns with
 | nil =>
  intro vs w
  rw[List.map_nil] at w
  cases w
  exact .nil
 | cons n ns ih =>
  intro vs w
  rw[List.map_cons] at w
  cases w with
  | cons a b =>
   cases a
   exact .cons _ _ (ih _ b)
theorem script_of {l:OpenLaw} {n:Nat} (hn:l.most=some n) {P:Params} {h:Heap} {args:List WData} {vals:List Value}
  (hpre:l.row.toRowW.claim.pre args=true) (hwl:WellAll P h vals args) :
  ∃a vs ns,vals=[Value.ref a]∧args=[WData.list (ns.map WData.int)]∧h.get? a=some { cls:=.type "list",data:=.seq vs.toArray }∧IntsAre vs ns∧ns.length<=n:=by
 have hsh:WShape.hasAll [] args [.list .int]=true:=(pre_splitW hpre).1
 have hc:l.pre.holds [] { args:=args }=true:=(pre_splitW hpre).2
 obtain ⟨d,r,rfl,h1,h2⟩:=hasAllW_cons hsh
 obtain rfl:=hasAllW_nil h2
 obtain ⟨xs,rfl,h3⟩:=hasW_list h1
 obtain ⟨ns,rfl⟩:=items_int h3
 have hlen:ns.length<=n:=by
  unfold OpenLaw.pre at hc
  have h4:(WTm.not (.lt (.lit (.int (n:Int))) (.len (.arg 0)))).holds [] { args:=[.list (ns.map .int)] }=true:=by
   have h4:=(holds_andW hc).1
   rw[hn] at h4
   exact h4
  have h5:=condW_of h4 (w_not (w_lt w_lit (w_len_list (w_arg rfl))))
  rw[List.length_map] at h5
  refine Nat.le_of_not_lt fun q=>?_
  have q':(n:Int) < ((ns.length:Nat):Int):=by lia
  first
   | (rw[decide_eq_true q'] at h5;exact absurd h5 (by decide))
   | (simp at h5;lia)
 cases hwl with
 | cons w1 w2 =>
  cases w2
  cases w1 with
  | list ho hall=>exact ⟨_,_,ns,rfl,rfl,ho,ints_of_wellAll ns _ hall,hlen⟩
theorem post_true (l:OpenLaw) (args:List WData):l.row.toRowW.claim.post args (.bool true) args=true :=
 postW_of (r:=l.row.toRowW) (X:=(true == true))
  (show WShape.has [] (.bool true) .bool=true by first | rfl | decide | simp [WShape.has,WShape.arms,WShape.armsAll])
  (show (WTm.eq .res (.lit (.bool true))).value [] { args:=args,res:=some (.bool true),after:=args }=some (.bool (true == true)) from w_eq_bool (w_res rfl) w_lit) rfl
theorem attach_call {l:OpenLaw} {n:Nat} {q:Program} {loose:List Str} {XP:(Str->Option Value)->Heap->Prop} {YP:World->Heap->Prop} {d:DefRec}
  (hn:l.most=some n) (hdf:d.params.defaults=[])
  (call:∀(w:World) (s₀ s₁:Shared) (mg mb:Str->Option Value) (fa:Addr) (o:Obj) (pm cd doc:Value) (a:Addr) (vs:List Value) (ns:List Int),
   Ground q loose [] XP w s₀ mg mb s₁.heap->YP w s₁.heap →
   s₁.heap.get? fa=some o->o.data=.func (docDef d.name d.params d.body d.scope pm cd doc)->s₁.heap.CodeRec cd d.name->mg d.name=some (.ref fa) →
   s₁.heap.get? a=some { cls:=.type "list",data:=.seq vs.toArray }->IntsAre vs ns->ns.length<=n->s₁.gens=#[] →
   codeAny (model l.prog w) callerA (.call (.ref fa) ⟨[.ref a],[]⟩) (fun r s'=>r=.ok (.ret (.bool true))∧OldK s₁.heap s'.heap∧s'.os=s₁.os∧AllBare s'.gens) s₁) :
  WalkO q loose XP YP l.row.toRowW d [] (fun f vs=>PySem.call f vs):=by
 intro w s₀ s₁ mg mb G Y fa o pm cd doc dV kV ho hd hcd hD hmg hg args vals as hpre hlay hrd hwl hlo
 obtain rfl:dV=.none:=Dflts.none hD hdf
 obtain rfl:kV=.none:=Dflts.noKw hD
 obtain ⟨a,vs,ns,rfl,rfl,hobj,hints,hlen⟩:=script_of hn hpre hwl
 refine enter_call (codeAny_mono (call w s₀ s₁ mg mb fa o pm cd doc a vs ns G Y ho (fd_plain hd) hcd hmg hobj hints hlen hg) fun r s' hq=>?_)
 obtain ⟨rfl,h2,h3,h4⟩:=hq
 exact ⟨.inl ⟨.bool true,.bool true,[],rfl,fun _=>rfl,.bool true,post_true l _,fun _=>⟨List.Pairwise.nil,fun _ hm=>(nomatch hm)⟩⟩,h2,h3,h4⟩
section
variable {prog:Program} {w:World} {A:Around} {E:Value->Shared->Prop} {s:Shared} {K:Frag}
end
end Att
namespace L2
open PySem PySem.Spec PyProof.Rows
theorem vals_ints:∀{vs:List Value} {ns:List Int},IntsAre vs ns->Vals (ns.map V.int) vs
 | _,_,.nil=>.nil
 | _,_,.cons n t h=>.cons ⟨t,rfl⟩ (vals_ints h)
def Only (H:Hp):Prop:=∀b,H b=none∨∃o xs,H b=some (.frz o (.lst xs))
theorem law_call {P : Program} {w : World} {K : PySem.W.Frag} {mg mb : Str → Option Value} {CX : CXT} {k : Nat} {fa a : Addr} {fd : FuncData} {x : Str} {sp : Sp} {s₁ : Shared} {vs : List Value} {ns : List Int}
    (KX : K.In s₁.heap) (hns : s₁.heap.Ns mainGlobals mg) (hb : s₁.heap.Ns builtinsNs mb) (hbb : ∀ x : Str, x ≠ "__name__" → mb x = bootBuiltins x) (hlim : s₁.heap.NoLimit) (hdg : s₁.heap.NoDigits) (hg : s₁.gens = #[])
    (ha : s₁.heap.get? a = some { cls := .type "list", data := .seq vs.toArray }) (hi : IntsAre vs ns) (hl : ns.length ≤ sizeLine) (hr : Room k callerA)
    (F : ∀ base : Heap, K.In base → base.Ns mainGlobals mg → FnOk P w K mg base CX k fa fd [x] sp) (hbind : ∀ (s : Shared) (u : Value), BindsTo s fd ⟨[u], []⟩ [(x, u)])
    (hsp : ∀ H : Hp, Only H → SqL K H a (ns.map V.int) → sp [.ref a] H (fun v _ => v = .bl true) fun _ _ _ => False)
    (hCX : ∀ H e s', CX [] H s₁ (fun _ _ _ => False) e s' → False) :
    codeAny (model P w) callerA (.call (.ref fa) ⟨[.ref a], []⟩) (fun r s' => r = .ok (.ret (.bool true)) ∧ OldK s₁.heap s'.heap ∧ s'.os = s₁.os ∧ AllBare s'.gens) s₁ := by
  have rv := vals_ints hi
  have lenV := hi.length
  -- from an abstract heap in which nothing but the script may be tracked
  have core : ∀ H : Hp, Only H → SqL K H a (ns.map V.int) → HOk P w H s₁.heap → (∀ b, H b ≠ none → b = a) → (H a ≠ none → K.lookup a = none) →
      codeAny (model P w) callerA (.call (.ref fa) ⟨[.ref a], []⟩) (fun r s' => r = .ok (.ret (.bool true)) ∧ OldK s₁.heap s'.heap ∧ s'.os = s₁.os ∧ AllBare s'.gens) s₁ := by
    intro H hO hS hok hA hK
    have base_of : ∀ {b : Addr} {o : Obj}, s₁.heap.get? b = some o → H b = none → (hidT s₁.heap H).get? b = some o := fun e n => hidT_get e n
    have noA : ∀ {b : Addr} {o : Obj} {es : Array DictEntry} {ep : Nat}, s₁.heap.get? b = some o → o.data = .dict es ep → H b = none := fun {b o es ep} e d => by
      cases q : H b with
      | none => rfl
      | some u =>
        have e' : b = a := hA b (by rw [q]; simp)
        subst e'
        rw [ha] at e; cases e
        have d' : Data.seq vs.toArray _ = Data.dict es ep := d
        cases d'
    have nsK : ∀ {b : Addr} {m : Str → Option Value}, s₁.heap.Ns b m → (hidT s₁.heap H).Ns b m := fun {b m} ⟨o, es, ep, e, d, r⟩ => ⟨o, es, ep, base_of e (noA e d), d, r⟩
    have hKb : K.In (hidT s₁.heap H) := fun b o e => base_of (KX b o e) (by
      cases q : H b with
      | none => rfl
      | some u =>
        have e' : b = a := hA b (by rw [q]; simp)
        subst e'
        rw [hK (by rw [q]; simp)] at e; cases e)
    have hM : Mod K mg (hidT s₁.heap H) := ⟨hKb, nsK hns, ⟨mb, nsK hb, hbb⟩, let ⟨mc, h1, h2⟩ := hlim; ⟨mc, nsK h1, h2⟩, let ⟨mc, h1, h2⟩ := hdg; ⟨mc, nsK h1, h2⟩⟩
    have e0 : Env0 P w K mg (hidT s₁.heap H) callerA [] s₁ H := ⟨rfl, hM, fun b o e => of_hidT e, Nat.le_of_eq (hidT_size _ _), trivial, fun b hb => absurd (show b ∈ ([] : List Addr) from hb) (by simp), hok, .of_eq hg⟩
    refine codeAny_mono ((F _ hKb (nsK hns)).run callerA [] s₁ H ⟨[.ref a], []⟩ [.ref a] [.ref a] _ _ hr e0 (hbind s₁ (.ref a)) (.cons rfl .nil) (hsp H hO hS)) fun r s' h => ?_
    cases r with
    | error e => exact (hCX H e s' h).elim
    | ok fl =>
      cases fl with
      | next => exact False.elim h
      | brk => exact False.elim h
      | cont => exact False.elim h
      | ret u =>
        obtain ⟨v, H', os, bare, un, hok', r', q⟩ := h
        have q' : v = .bl true := q
        subst q'
        obtain rfl : u = Value.bool true := r'
        refine ⟨rfl, OldK.of_keep fun b o e => ?_, os, bare⟩
        cases q : H b with
        | none => exact un.keep b o e q (by intro z; exact absurd (show b ∈ ([] : List Addr) from z) (by simp)) (by simp)
        | some u =>
          rcases hO b with z | ⟨ob, xs, z⟩
          · rw [q] at z; cases z
          · have z2 := un.frzs b ob _ z
            obtain ⟨e1, _⟩ := hok b _ z
            obtain ⟨e2, _⟩ := hok' b _ z2
            rw [e] at e1; cases e1
            exact e2
  cases hk : K.lookup a with
  | some o =>
    -- the script is one of the module's own objects
    have e := KX a o hk
    rw [ha] at e
    cases e
    refine core (fun _ => none) (fun _ => .inl rfl) (.inr ⟨_, vs.toArray, _, hk, rfl, rfl, rfl, by rw [List.size_toArray, lenV]; exact hl, by simpa using rv⟩) (fun b u z => by have z' : (none : Option HO) = some u := z; cases z') (fun b z => absurd rfl z) fun z => absurd rfl z
  | none =>
    refine core (fun b => if b = a then some (.frz { cls := .type "list", data := .seq vs.toArray } (.lst (ns.map V.int))) else none) (fun b => ?_) (.inl (.inr ⟨{ cls := .type "list", data := .seq vs.toArray }, if_pos rfl⟩)) (fun b u z => ?_) (fun b z => ?_) fun _ => hk
    · by_cases hb : b = a
      · exact .inr ⟨_, _, if_pos hb⟩
      · exact .inl (if_neg hb)
    · by_cases hb : b = a
      · have z' := (if_pos hb).symm.trans z
        cases z'
        subst hb
        exact ⟨ha, by rw [List.length_map]; exact hl, vs, _, rv, ha⟩
      · have z' := (if_neg hb).symm.trans z
        cases z'
    · by_cases hb : b = a
      · exact hb
      · exact absurd (if_neg hb) z
end L2
namespace L2
open PySem PySem.Spec PyProof.Rows
theorem walk_of {l:PySem.W.OpenLaw} {n k:Nat} {q:Program} {loose:List Str} {XP:(Str->Option Value)->Heap->Prop} {YP:World->Heap->Prop} {d:DefRec} {K:Params->PySem.W.Frag} {CX:World->CXT} {sp:World->Sp} {x:Str}
  (hn:l.most=some n) (hn2:n<=sizeLine) (hdf:d.params.defaults=[]) (hr:Room k callerA)
  (hY:∀(w:World) (h:Heap),YP w h->(K w.params).In h)
  (F:∀(w:World) (mg:Str->Option Value) (fa:Addr) (h:Heap),(K w.params).In h->h.Ns mainGlobals mg->mg d.name=some (.ref fa) →
   ∃fd:FuncData,(∀(s:Shared) (u:Value),BindsTo s fd ⟨[u],[]⟩ [(x,u)]) ∧
    ∀base:Heap,(K w.params).In base->base.Ns mainGlobals mg->FnOk l.prog w (K w.params) mg base (CX w) k fa fd [x] (sp w))
  (hsp:∀(w:World) (H:Hp) (a:Addr) (ns:List Int),ns.length<=n->Only H->SqL (K w.params) H a (ns.map V.int)->sp w [.ref a] H (fun v _=>v=.bl true) fun _ _ _=>False)
  (hCX:∀(w:World) (H:Hp) (s:Shared) (e:Value) (s':Shared),CX w [] H s (fun _ _ _=>False) e s'->False) :
  PySem.W.WalkO q loose XP YP l.row.toRowW d [] (fun f vs=>PySem.call f vs):=by
 refine Att.attach_call hn hdf fun w s₀ s₁ mg mb fa o pm cd doc a vs ns G Y ho hd hcd hmg hobj hints hlen hg=>?_
 have KX:=hY w _ Y
 obtain ⟨fd,hb,hF⟩:=F w mg fa _ KX G.T.g hmg
 exact law_call KX G.T.g G.T.b G.T.builtins G.T.nolimit G.T.nodigits hg hobj hints (Nat.le_trans hlen hn2) hr hF hb (fun H hO hS=>hsp w H a ns hlen hO hS) fun H e s'=>hCX w H s₁ e s'
end L2

/- THE LAST THEOREM (shape; LID, My.* are yours):
   My.Adr: a structure of the addresses that your layer names (classes, functions); My.Txt K t: a structure (Prop) of the equations over K;
   My.txt_mk : {K} {implicit addresses ..} (e1 : nsIn K mainGlobals "law" = some (some (.ref f))) (e2 : K.lookup f = some ⟨oc, od, .func (fnOf "law" "law" params body scope dV kV doc pm an cdv ct), sl⟩) (e3 : codeIn K cdv "law" = true) .. : ∃ t, My.Txt K t

set_option maxRecDepth 100000 in
set_option maxHeartbeats 0 in
theorem PySem.Challenge.cw_LID_holds : PySem.Challenge.rw_LID.Holds := by
  w_on; o_law; k_head; (case hw => w_witness2)
  k_fill
  refine L2.walk_of (l := PySem.Challenge.rw_LID) (n := 63) (k := 40) (x := "script") (CX := fun w => ..) (sp := fun _ => My.sp_law) rfl (by decide) rfl ⟨rfl, by decide, by decide⟩ (fun w h Y => PySem.W.kIn_of Y) ?F ?S ?C
  case F =>
    intro w mg fa h KX G hmg
    have T : ∃ t, My.Txt (L2.KOf KX) t := by
      dsimp only [L2.KOf]                          -- K must stand as «<heap const> w.params» for k_is
      refine' My.txt_mk ?e1 ?e2 ?e3 ..
      (case e1 => PySem.W.k_is)                    -- in the order: a name -> its address -> its object -> its parts
      (case e2 => PySem.W.k_is)
      ..
    obtain ⟨t, T⟩ := T
    have e0 := hmg.symm.trans (PySem.W.mg_of KX G T.law)
    cases e0                                       -- fa is the law's own address
    exact ⟨_, fun s u => .of_eq rfl, fun base kb nb => My.law_fn T kb nb⟩     -- if «.of_eq rfl» comes too early: refine' ⟨_, ?b, fun base kb nb => My.law_fn T kb nb⟩; exact fun s u => .of_eq rfl
  case S => exact fun w H a ns hl hO hS => ..
  case C => exact ..
(the tactic k_is has no namespace: write k_is) -/

namespace L2
open PySem PySem.Spec PyProof.Rows
def inClass (s:Stmt) (j:Nat):Stmt:=match s with
 | .ClassDef _ _ _ body _ _ _ _ _ _ _=>body.getD j (.Pass ⟨0,0,0,0⟩)
 | _=>.Pass ⟨0,0,0,0⟩
def defArgs (s:Stmt):Arguments:=match s with
 | .FunctionDef _ a _ _ _ _ _ _ _ _=>a
 | _=>{ posonlyargs:=[],args:=[],vararg:=none,kwonlyargs:=[],kw_defaults:=[],kwarg:=none,defaults:=[] }
def defBody (s:Stmt):List Stmt:=match s with
 | .FunctionDef _ _ b _ _ _ _ _ _ _=>b
 | _=>[]
def defScope (s:Stmt):Scope:=match s with
 | .FunctionDef _ _ _ _ _ _ sc _ _ _=>sc
 | _=>{ kind:=.function,names:=[],isGenerator:=false,isCoroutine:=false }
abbrev CX0:CXT:=fun _ _ _ _ _ _=>False
abbrev E0:XK:=fun _ _ _=>False
theorem pass0 {X:Cx}:Passes CX0 X E0:=fun _ _ _ _ _ _ _ h=>h.elim
structure Fun (K:PySem.W.Frag) (x qual:Str) (st:Stmt) (f:Addr) (fd:FuncData):Prop where
 ex:∃(oc:Value) (od:Option Addr) (kV doc pm:Value) (an:Option Addr) (cdv ct:Value) (osl:Array (Option Value)),
  fd=PySem.W.fnOf x qual (defArgs st) (defBody st) (defScope st) .none kV doc pm an cdv ct∧K.lookup f=some ⟨oc,od,.func fd,osl⟩∧PySem.W.codeIn K cdv qual=true
 kp:PySem.W.keepIn K (.ref f)=true
section
variable {P:Program} {w:World} {K:PySem.W.Frag} {mg:Str->Option Value} {base:Heap}
theorem Fun.ok {x qual:Str} {st:Stmt} {f:Addr} {fd:FuncData} {N ps:List Str} {k:Nat} {sp:Sp} (F:Fun K x qual st f fd) (S:FnScope N ps (defScope st)) (len:∀vs H Q E,sp vs H Q E->vs.length=ps.length)
  (hbody:∀(cdv:Value) (A:Around) (outer:List Env) (s:Shared) (H:Hp) (vs:List V) (Q:VK) (E:XK),Room k (A.deeper (envOfC qual (defScope st) s.heap.objs.size f cdv))->sp vs H Q E →
   ∃t,PSs (cxOf CX0 P w K mg base N qual (defScope st) f cdv A outer s H E).nox (defBody st) t∧t { nx:=fun _ H'=>Q .non H',rt:=Q } (start N vs) H):FnOk P w K mg base CX0 (k+1) f fd ps sp:=by
 obtain ⟨oc,od,kV,doc,pm,an,cdv,ct,osl,rfl,lk,hcd⟩:=F.ex
 refine fn_of lk hcd S len fun A outer s H vs Q E hr hsp=>?_
 obtain ⟨t,h,q⟩:=hbody cdv A outer s H vs Q E hr hsp
 exact ⟨t,h.nox,q⟩
theorem Fun.binds {x qual:Str} {st:Stmt} {f:Addr} {fd:FuncData} {ps:List Str} (F:Fun K x qual st f fd)
  (h:∀(kV doc pm:Value) (an:Option Addr) (cdv ct:Value) (us:List Value),us.length=ps.length->bindArgs (PySem.W.fnOf x qual (defArgs st) (defBody st) (defScope st) .none kV doc pm an cdv ct) ⟨us,[]⟩=pure (ps.zip us)):Binds K fd ps []:=by
 obtain ⟨oc,od,kV,doc,pm,an,cdv,ct,osl,rfl,lk,hcd⟩:=F.ex
 exact .all (h kV doc pm an cdv ct)
theorem fun_mk {x qual:Str} {st:Stmt} {f:Addr} {oc:Value} {od an:Option Addr} {osl:Array (Option Value)} {kV doc pm cdv ct:Value} (l:K.lookup f=some ⟨oc,od,.func (PySem.W.fnOf x qual (defArgs st) (defBody st) (defScope st) .none kV doc pm an cdv ct),osl⟩)
  (c:PySem.W.codeIn K cdv qual=true) (k:PySem.W.keepIn K (.ref f)=true):Fun K x qual st f (PySem.W.fnOf x qual (defArgs st) (defBody st) (defScope st) .none kV doc pm an cdv ct):=⟨⟨oc,od,kV,doc,pm,an,cdv,ct,osl,rfl,l,c⟩,k⟩
end
theorem small1000 {n:Nat} (h:n<=1000):n < sizeLine:=Nat.lt_of_le_of_lt h (by decide)
section
variable {X:Cx}
theorem pv (i:Nat) {x:Str} {pos:Pos} (hN:X.N[i]?=some x:=by rfl) (hv:Vis X.env.scope x:=by first | exact Or.inl rfl | exact Or.inr (Or.inl rfl) | exact Or.inr (Or.inr rfl)) (hd:(x == ("__debug__":Str))=false:=by decide)
  (hcd:(x == ("__classdict__":Str))=false:=by decide):PE X (.Name x pos) (tVar i):=pe_var hN hv hd hcd
end
theorem iteF {A B:Prop} (h:B):if false=true then A else B:=by
 rw[if_neg Bool.false_ne_true]
 exact h
theorem iteT {A B:Prop} (h:A):if true=true then A else B:=by
 rw[if_pos rfl]
 exact h
theorem ite2 {c A B:Prop} [Decidable c] (h1:c->A) (h2:¬c->B):if c then A else B:=by
 by_cases h:c
 ·rw[if_pos h]
  exact h1 h
 ·rw[if_neg h]
  exact h2 h
def Same (H H':Hp):Prop:=∀b o,H b=some o->H' b=some o
theorem Same.refl (H:Hp):Same H H:=fun _ _ h=>h
theorem Same.trans {H H1 H2:Hp} (a:Same H H1) (b:Same H1 H2):Same H H2:=fun c o h=>b c o (a c o h)
theorem Same.free {H H':Hp} (e:Same H H') {l:Addr} (h:H' l=Option.none):H l=Option.none:=by
 cases q:H l with
 | none=>rfl
 | some o =>
  rw[e l o q] at h
  cases h
end L2
namespace Nm
theorem gcd_fmod (a b:Int):Int.gcd b (a.fmod b)=Int.gcd a b:=by
 rw[Int.fmod_def,Int.gcd_comm a b]
 apply Nat.dvd_antisymm
 ·apply Int.dvd_gcd
  ·exact Int.gcd_dvd_left ..
  ·have h1:=Int.gcd_dvd_left (a:=b) (b:=a - b*a.fdiv b)
   have h2:=Int.gcd_dvd_right (a:=b) (b:=a - b*a.fdiv b)
   have h3:=Int.dvd_add h2 (Int.dvd_mul_of_dvd_left (c:=a.fdiv b) h1)
   rwa [Int.sub_add_cancel] at h3
 ·apply Int.dvd_gcd
  ·exact Int.gcd_dvd_left ..
  ·exact Int.dvd_sub (Int.gcd_dvd_right ..) (Int.dvd_mul_of_dvd_left (Int.gcd_dvd_left ..))
theorem gcd_emod (a b:Int):Int.gcd b (a % b)=Int.gcd a b:=by
 rw[Int.emod_def,Int.gcd_comm a b]
 apply Nat.dvd_antisymm
 ·apply Int.dvd_gcd
  ·exact Int.gcd_dvd_left ..
  ·have h1:=Int.gcd_dvd_left (a:=b) (b:=a - b*(a / b))
   have h2:=Int.gcd_dvd_right (a:=b) (b:=a - b*(a / b))
   have h3:=Int.dvd_add h2 (Int.dvd_mul_of_dvd_left (c:=a / b) h1)
   rwa [Int.sub_add_cancel] at h3
 ·apply Int.dvd_gcd
  ·exact Int.gcd_dvd_left ..
  ·exact Int.dvd_sub (Int.gcd_dvd_right ..) (Int.dvd_mul_of_dvd_left (Int.gcd_dvd_left ..))
theorem fmod_lt (a b:Int) (h:b≠0):(a.fmod b).natAbs < b.natAbs:=by
 rcases Int.lt_or_gt_of_ne h with h | h
 ·have e:a.fmod b=-((-a).fmod (-b)):=by
   have:=Int.neg_fmod_neg (-a) (-b)
   simp only[Int.neg_neg] at this
   exact this
  have h1:=Int.fmod_nonneg_of_pos (-a) (b:=-b) (by lia)
  have h2:=Int.fmod_lt_of_pos (-a) (b:=-b) (by lia)
  lia
 ·have h1:=Int.fmod_nonneg_of_pos a h
  have h2:=Int.fmod_lt_of_pos a h
  lia
def g (t b:Int):Int:=(Int.gcd t b:Int)
def lo (t b:Int):Int:=t / g t b
def hi (t b:Int):Int:=b / g t b
theorem g_pos {t b:Int} (h:b≠0):0 < g t b:=by
 unfold g
 have:0 < Int.gcd t b:=Int.gcd_pos_of_ne_zero_right _ h
 lia
theorem lo_mul (t b:Int):lo t b*g t b=t:=Int.ediv_mul_cancel (Int.gcd_dvd_left ..)
theorem hi_mul (t b:Int):hi t b*g t b=b:=Int.ediv_mul_cancel (Int.gcd_dvd_right ..)
theorem hi_pos {t b:Int} (h:0 < b):0 < hi t b:=by
 have h1:=g_pos (t:=t) (b:=b) (by lia)
 have h2:=hi_mul t b
 by_cases h3:0 < hi t b
 ·exact h3
 ·have:hi t b*g t b<=0:=Int.mul_nonpos_of_nonpos_of_nonneg (by lia) (by lia)
  lia
theorem lohi_gcd {t b:Int} (h:b≠0):Int.gcd (lo t b) (hi t b)=1:=by
 have h1:=g_pos (t:=t) h
 have e:=Int.gcd_mul_right (lo t b) (g t b) (hi t b)
 rw[lo_mul,hi_mul] at e
 have e2:(g t b).natAbs=Int.gcd t b:=by unfold g;simp
 rw[e2] at e
 have h2:0 < Int.gcd t b:=Int.gcd_pos_of_ne_zero_right _ h
 exact Nat.eq_of_mul_eq_mul_right h2 (by rw[← e,Nat.one_mul])
theorem lohi_cross (t b:Int):lo t b*b=t*hi t b:=by
 have h1:=lo_mul t b
 have h2:=hi_mul t b
 calc lo t b*b=lo t b*(hi t b*g t b):=by rw[h2]
  _=(lo t b*g t b)*hi t b:=by rw[Int.mul_comm (hi t b),← Int.mul_assoc]
  _=t*hi t b:=by rw[h1]
theorem dvd_of_cop {a b c:Int} (h:Int.gcd a b=1) (hd:a∣b*c):a∣c:=by
 have h1:a.natAbs∣b.natAbs*c.natAbs:=by rw[← Int.natAbs_mul];exact Int.natAbs_dvd_natAbs.mpr hd
 have h2:Nat.Coprime a.natAbs b.natAbs:=h
 exact Int.natAbs_dvd_natAbs.mp (h2.dvd_of_dvd_mul_left h1)
theorem uniq {a b c d:Int} (hb:0 < b) (hd:0 < d) (h1:Int.gcd a b=1) (h2:Int.gcd c d=1) (e:a*d=c*b):a=c∧b=d:=by
 have e1:b∣d:=by
  have:b∣a*d:=⟨c,by rw[e,Int.mul_comm]⟩
  exact dvd_of_cop (by rw[Int.gcd_comm];exact h1) this
 have e2:d∣b:=by
  have:d∣c*b:=⟨a,by rw[← e,Int.mul_comm]⟩
  exact dvd_of_cop (by rw[Int.gcd_comm];exact h2) this
 have e3:b=d:=Int.dvd_antisymm (by lia) (by lia) e1 e2
 subst e3
 exact ⟨Int.eq_of_mul_eq_mul_right (by lia) e,rfl⟩
theorem low_of {t b c d:Int} (hb:0 < b) (hd:0 < d) (h2:Int.gcd c d=1) (e:t*d=c*b):lo t b=c∧hi t b=d:=by
 refine uniq (hi_pos hb) hd (lohi_gcd (by lia)) h2 ?_
 have h:=lohi_cross t b
 have hb':b≠0:=by lia
 apply Int.eq_of_mul_eq_mul_right hb'
 calc lo t b*d*b=lo t b*b*d:=by rw[Int.mul_assoc,Int.mul_comm d b,← Int.mul_assoc]
  _=t*hi t b*d:=by rw[h]
  _=t*d*hi t b:=by rw[Int.mul_assoc,Int.mul_comm (hi t b),← Int.mul_assoc]
  _=c*b*hi t b:=by rw[e]
  _=c*hi t b*b:=by rw[Int.mul_assoc,Int.mul_comm b,← Int.mul_assoc]
theorem low_id {a b:Int} (hb:0 < b) (h:Int.gcd a b=1):lo a b=a∧hi a b=b:=low_of hb hb h rfl
theorem natAbs_mul_le {a b:Int} (h:b≠0):a.natAbs<=(a*b).natAbs:=by
 rw[Int.natAbs_mul]
 exact Nat.le_mul_of_pos_right _ (Int.natAbs_pos.mpr h)
theorem lo_le {t b:Int} (h:b≠0):(lo t b).natAbs<=t.natAbs:=by
 have:=natAbs_mul_le (a:=lo t b) (b:=g t b) (by have:=g_pos (t:=t) h;lia)
 rwa [lo_mul] at this
theorem hi_le {t b:Int} (h:b≠0):(hi t b).natAbs<=b.natAbs:=by
 have:=natAbs_mul_le (a:=hi t b) (b:=g t b) (by have:=g_pos (t:=t) h;lia)
 rwa [hi_mul] at this
def Sz (k:Nat) (x:Int):Prop:=x.natAbs < 2^k
theorem Sz.mono {j k:Nat} {x:Int} (h:Sz j x) (l:j<=k):Sz k x:=Nat.lt_of_lt_of_le h (Nat.pow_le_pow_right (by decide) l)
theorem Sz.mul {j k:Nat} {x y:Int} (h1:Sz j x) (h2:Sz k y):Sz (j+k) (x*y):=by
 unfold Sz at *
 rw[Int.natAbs_mul,Nat.pow_add]
 exact Nat.mul_lt_mul'' h1 h2
theorem Sz.le {k:Nat} {x y:Int} (h:Sz k y) (l:x.natAbs<=y.natAbs):Sz k x:=Nat.lt_of_le_of_lt l h
end Nm
namespace L2
open PySem PySem.Spec PyProof.Rows
structure Bk (env:Env) (scope:Scope) (own capN:List Str):Prop where
 kind:scope.kind=.function
 locs:∀y∈scope.names,y.2=.local->scope.names.lookup y.1=some .local
 ownk:∀x∈own,scope.names.lookup x=some .local∨scope.names.lookup x=some .cell
 cells:∀y∈scope.names,y.2=.cell->y.1∈own∧y.1∉capN
 frees:∀y∈scope.names,y.2=.free->y.1∈capN∧y.1∉own
 capf:∀x∈capN,scope.names.lookup x=some .free
 caps:∀x∈capN,env.kindOf x=some .cell∨env.kindOf x=some .free
def bkS (scope:Scope) (own capN:List Str):Bool :=
 decide (scope.kind=.function) && scope.names.all (fun y=>decide (y.2=.local->scope.names.lookup y.1=some .local) && decide (y.2=.cell->y.1∈own∧y.1∉capN) && decide (y.2=.free->y.1∈capN∧y.1∉own)) &&
 own.all (fun x=>decide (scope.names.lookup x=some .local∨scope.names.lookup x=some .cell)) && capN.all fun x=>decide (scope.names.lookup x=some .free)
def capsB (env:Env):List Str->Bool
 | []=>true
 | x :: r=>(match env.kindOf x with | some .cell=>true | some .free=>true | _=>false) && capsB env r
theorem capsB_ok {env:Env}:∀{capN:List Str},capsB env capN=true->∀x∈capN,env.kindOf x=some .cell∨env.kindOf x=some .free
 | [],_,_,h=>nomatch h
 | y :: r,h,x,hx=>by
  unfold capsB at h
  rw[Bool.and_eq_true] at h
  rcases List.mem_cons.mp hx with e | hx
  ·subst e
   have h1:=h.1
   split at h1
   ·rename_i e;exact .inl e
   ·rename_i e;exact .inr e
   ·cases h1
  ·exact capsB_ok h.2 x hx
theorem Bk.of {env:Env} {scope:Scope} {own capN:List Str} (h1:bkS scope own capN=true) (h2:capsB env capN=true):Bk env scope own capN:=by
 unfold bkS at h1
 rw[Bool.and_eq_true,Bool.and_eq_true,Bool.and_eq_true,List.all_eq_true,List.all_eq_true,List.all_eq_true] at h1
 obtain ⟨⟨⟨a1,a2⟩,a3⟩,a4⟩:=h1
 have a2':∀y∈scope.names,(y.2=.local->scope.names.lookup y.1=some .local)∧(y.2=.cell->y.1∈own∧y.1∉capN)∧(y.2=.free->y.1∈capN∧y.1∉own):=fun y hy=>by
  have q:=a2 y hy
  rw[Bool.and_eq_true,Bool.and_eq_true] at q
  exact ⟨of_decide_eq_true q.1.1,of_decide_eq_true q.1.2,of_decide_eq_true q.2⟩
 exact ⟨of_decide_eq_true a1,fun y hy=>(a2' y hy).1,fun x hx=>of_decide_eq_true (a3 x hx),fun y hy=>(a2' y hy).2.1,fun y hy=>(a2' y hy).2.2,fun x hx=>of_decide_eq_true (a4 x hx),capsB_ok h2⟩
def capCells (env:Env):List (Str×NameKind)->List (Str×Addr)->List (Str×Addr)
 | [],acc=>acc
 | (n,k) :: r,acc=>if k == .free then capCells env r ((n,(env.cells.lookup n).getD 0) :: acc) else capCells env r acc
theorem capCells_app (env:Env):∀(names:List (Str×NameKind)) (acc:List (Str×Addr)),capCells env names acc=capCells env names []++acc
 | [],_=>rfl
 | (n,k) :: r,acc=>by
  unfold capCells
  split
  ·rw[capCells_app env r (_ :: acc),capCells_app env r [_],List.append_assoc];rfl
  ·exact capCells_app env r acc
theorem capCells_mem (env:Env):∀(names:List (Str×NameKind)) {x:Str} {c:Addr},(x,c)∈capCells env names []->(x,NameKind.free)∈names∧c=(env.cells.lookup x).getD 0
 | [],_,_,h=>nomatch h
 | (n,k) :: r,x,c,h=>by
  unfold capCells at h
  split at h
  ·rename_i hk
   have ek:k=.free:=by simpa using hk
   subst ek
   rw[capCells_app] at h
   rcases List.mem_append.mp h with h | h
   ·have q:=capCells_mem env r h
    exact ⟨List.mem_cons_of_mem _ q.1,q.2⟩
   ·have e:(x,c)=(n,(env.cells.lookup n).getD 0):=by simpa using h
    cases e
    exact ⟨List.mem_cons_self,rfl⟩
  ·have q:=capCells_mem env r h
   exact ⟨List.mem_cons_of_mem _ q.1,q.2⟩
theorem lookup_some_of_mem {α:Type}:∀{l:List (Str×α)} {x:Str} {c:α},(x,c)∈l->∃d,l.lookup x=some d
 | (k,v) :: r,x,c,h=>by
  rw[List.lookup_cons]
  cases hb:x == k with
  | true=>exact ⟨v,rfl⟩
  | false =>
   rcases List.mem_cons.mp h with e | h
   ·cases e;simp at hb
   ·exact lookup_some_of_mem h
theorem capCells_has (env:Env):∀(names:List (Str×NameKind)) {x:Str},(x,NameKind.free)∈names->∃c,(x,c)∈capCells env names []
 | (n,k) :: r,x,h=>by
  unfold capCells
  rcases List.mem_cons.mp h with e | h
  ·cases e
   rw[if_pos (by decide),capCells_app]
   exact ⟨_,List.mem_append_right _ List.mem_cons_self⟩
  ·obtain ⟨c,q⟩:=capCells_has env r h
   split
   ·rw[capCells_app];exact ⟨c,List.mem_append_left _ q⟩
   ·exact ⟨c,q⟩
theorem closureFor_cap {scope:Scope} {env:Env} (h:∀y∈scope.names,y.2=.free->∃c,env.cells.lookup y.1=some c):closureFor scope env=pure (capCells env scope.names []):=by
 have gen:∀(names:List (Str×NameKind)) (acc:List (Str×Addr)) (f:Str×NameKind->List (Str×Addr)->Sem (ForInStep (List (Str×Addr)))),
   (∀name kind cells,f (name,kind) cells=if kind == .free then (do let a ← cellOf env name;pure (.yield ((name,a) :: cells))) else pure (.yield cells)) →
   (∀y∈names,y.2=.free->∃c,env.cells.lookup y.1=some c)->forIn names acc f=pure (capCells env names acc):=by
  intro names
  induction names with
  | nil=>intro acc f hf _;rw[List.forIn_nil];rfl
  | cons y r ih =>
   intro acc f hf hh
   obtain ⟨n,k⟩:=y
   rw[List.forIn_cons,hf]
   unfold capCells
   by_cases hk:(k == NameKind.free)=true
   ·obtain ⟨c,hc⟩:=hh (n,k) List.mem_cons_self (by simpa using hk)
    have hc':env.cells.lookup n=some c:=hc
    have e:cellOf env n=pure c:=by unfold cellOf;rw[hc']
    rw[if_pos hk,if_pos hk,e,hc']
    simp only[pure_bind,Option.getD_some]
    exact ih _ f hf fun y hy=>hh y (List.mem_cons_of_mem _ hy)
   ·rw[if_neg hk,if_neg hk]
    simp only[pure_bind]
    exact ih _ f hf fun y hy=>hh y (List.mem_cons_of_mem _ hy)
 simp only[closureFor]
 rw[gen scope.names [] _ (fun name kind cells=>by cases hkc:kind == NameKind.free <;> simp [hkc]) h]
 rfl
theorem cellsFrom_app:∀(names:List (Str×NameKind)) (n:Nat) (acc:List (Str×Addr)),cellsFrom n names acc=cellsFrom n names []++acc
 | [],_,_=>rfl
 | (x,k) :: r,n,acc=>by
  unfold cellsFrom
  split
  ·rw[cellsFrom_app r (n+1) (_ :: acc),cellsFrom_app r (n+1) [_],List.append_assoc];rfl
  ·exact cellsFrom_app r n acc
theorem cellsFrom_mem:∀(names:List (Str×NameKind)) (n:Nat) {x:Str} {c:Addr},(x,c)∈cellsFrom n names []->(x,NameKind.cell)∈names
 | [],_,_,_,h=>nomatch h
 | (y,k) :: r,n,x,c,h=>by
  unfold cellsFrom at h
  split at h
  ·rename_i hk
   have ek:k=.cell:=by simpa using hk
   subst ek
   rw[cellsFrom_app] at h
   rcases List.mem_append.mp h with h | h
   ·exact List.mem_cons_of_mem _ (cellsFrom_mem r _ h)
   ·have e:(x,c)=(y,n):=by simpa using h
    cases e
    exact List.mem_cons_self
  ·exact List.mem_cons_of_mem _ (cellsFrom_mem r _ h)
def blkEnv (env:Env) (scope:Scope) (C:Addr):Env :=
 { scope:=relabel scope env,locals:=C,globals:=env.globals,cells:=cellsFrom (C+1) scope.names (capCells env scope.names []),qual:=env.qual,func:=none,code:=env.code,frame:=env.frame,builtins:=env.builtins }
theorem newBlockEnv {M:Model} {A:Around} {E:Value->Shared->Prop} {s:Shared} {scope:Scope} {g:Addr} {cl:List (Str×Addr)} {qual:Str} {env:Env} {Q:Env->Shared->Prop}
  (h:Q (newEnv scope s.heap.objs.size g (cellsFrom (s.heap.objs.size+1) scope.names cl) qual none .none (some env) builtinsNs) { s with heap:=pushCells (s.heap.push { cls:=.type "dict",data:=.dict #[] }) scope.names }) :
  wpAny M A (newFunctionEnv scope g cl [] qual none .none (some env)) Q E s:=by
 simp only[newFunctionEnv,Option.isSome_some,if_true]
 refine wpAny_bind (wpAny_alloc ?_)
 refine wpAny_bind (wpAny_layCells _ (fun name kind cells=>by cases hkc:kind == NameKind.cell <;> simp [hkc]) _ _ _ _ ?_)
 rw[show ({ s with heap:=s.heap.push { cls:=.type "dict",data:=.dict #[] } }:Shared).heap.objs.size=s.heap.objs.size+1 from Heap.size_push ..]
 rw[List.forIn_nil]
 exact wpAny_bind (wpAny_pure (wpAny_pure h))
theorem relabel_look {scope:Scope} {env:Env} {x:Str}:∀{k:NameKind},(relabel scope env).names.lookup x=some k->∃k0,scope.names.lookup x=some k0∧(k=k0∨(k0=.free∧k=.cell)):=by
 unfold relabel
 show ∀{k:NameKind},(scope.names.map fun (n,k)=>if (k == NameKind.free && env.scope.kind == .function && env.kindOf n == some .cell) then (n,NameKind.cell) else (n,k)).lookup x=some k->_
 induction scope.names with
 | nil=>intro k h;cases h
 | cons y r ih =>
  intro k h
  obtain ⟨n,k1⟩:=y
  rw[List.map_cons,List.lookup_cons] at h
  rw[List.lookup_cons]
  by_cases hc:(k1 == NameKind.free && env.scope.kind == .function && env.kindOf n == some .cell)=true
  ·simp only[hc,if_true] at h
   cases hb:x == n with
   | true =>
    simp only[hb] at h
    have e1:k1=.free:=by
     rw[Bool.and_eq_true,Bool.and_eq_true] at hc
     simpa using hc.1.1
    cases h
    exact ⟨k1,rfl,.inr ⟨e1,rfl⟩⟩
   | false=>simp only[hb] at h;exact ih h
  ·have hc':(k1 == NameKind.free && env.scope.kind == .function && env.kindOf n == some .cell)=false:=by simpa using hc
   simp only[hc',Bool.false_eq_true,if_false] at h
   cases hb:x == n with
   | true=>simp only[hb] at h;cases h;exact ⟨_,rfl,.inl rfl⟩
   | false=>simp only[hb] at h;exact ih h
theorem relabel_cap {scope:Scope} {env:Env} {x:Str}:scope.names.lookup x=some .free->(relabel scope env).names.lookup x=some .cell∨(relabel scope env).names.lookup x=some .free:=by
 unfold relabel
 show _->(scope.names.map fun (n,k)=>if (k == NameKind.free && env.scope.kind == .function && env.kindOf n == some .cell) then (n,NameKind.cell) else (n,k)).lookup x=some .cell∨(scope.names.map fun (n,k)=>if (k == NameKind.free && env.scope.kind == .function && env.kindOf n == some .cell) then (n,NameKind.cell) else (n,k)).lookup x=some .free
 induction scope.names with
 | nil=>intro h;cases h
 | cons y r ih =>
  intro h
  obtain ⟨n,k1⟩:=y
  rw[List.lookup_cons] at h
  rw[List.map_cons]
  by_cases hc:(k1 == NameKind.free && env.scope.kind == .function && env.kindOf n == some .cell)=true
  ·simp only[hc,if_true,List.lookup_cons]
   cases hb:x == n with
   | true=>exact .inl rfl
   | false=>rw[hb] at h;exact ih h
  ·have hc':(k1 == NameKind.free && env.scope.kind == .function && env.kindOf n == some .cell)=false:=by simpa using hc
   simp only[hc',Bool.false_eq_true,if_false,List.lookup_cons]
   cases hb:x == n with
   | true=>rw[hb] at h;cases h;exact .inr rfl
   | false=>rw[hb] at h;exact ih h
structure Bz where
 s:Shared
 H:Hp
 fp:List Addr
 C:Addr
def blk (X:Cx) (own capN:List Str) (scope:Scope) (Z:Bz):Cx where
 prog:=X.prog
 w:=X.w
 K:=X.K
 mg:=X.mg
 base:=X.base
 A:=X.A
 N:=own++capN
 s₀:=Z.s
 H₀:=Z.H
 env:=blkEnv X.env scope Z.C
 outer:=X.stack
 stack:=X.stack
 ex:=Z.fp
 fn:=fun x=>own.contains x
 calm:=true
 pn:=[]
 xe:=fun _ _=>False
section
variable {X:Cx} {pins:List (Addr×Obj)} {σ:St} {own capN:List Str} {scope:Scope} {Z:Bz}
theorem blk_cells (B:Bk X.env scope own capN) (I:Inv X pins σ Z.H Z.s) {x:Str} {c:Addr} (h:(blkEnv X.env scope Z.C).cells.lookup x=some c) :
  (x∈own∧(x,c)∈cellsFrom (Z.C+1) scope.names [])∨(x∈capN∧x∉own∧X.env.cells.lookup x=some c):=by
 have h':(cellsFrom (Z.C+1) scope.names (capCells X.env scope.names [])).lookup x=some c:=h
 rw[cellsFrom_app] at h'
 rcases List.mem_append.mp (mem_of_lookup h') with m | m
 ·exact .inl ⟨(B.cells _ (cellsFrom_mem _ _ m) rfl).1,m⟩
 ·obtain ⟨m1,e⟩:=capCells_mem _ _ m
  obtain ⟨q1,q2⟩:=B.frees _ m1 rfl
  obtain ⟨d,hd⟩:=I.ok.has x (B.caps x q1)
  rw[hd] at e
  exact .inr ⟨q1,q2,by rw[hd,e];rfl⟩
theorem blk_cap (B:Bk X.env scope own capN) (I:Inv X pins σ Z.H Z.s) {x:Str} {c:Addr} (hx:x∈capN) (h:X.env.cells.lookup x=some c):(blkEnv X.env scope Z.C).cells.lookup x=some c:=by
 have hm:(x,NameKind.free)∈scope.names:=mem_of_lookup (B.capf x hx)
 obtain ⟨c1,m1⟩:=capCells_has X.env scope.names hm
 have hs:∃d,(blkEnv X.env scope Z.C).cells.lookup x=some d:=by
  show ∃d,(cellsFrom (Z.C+1) scope.names (capCells X.env scope.names [])).lookup x=some d
  rw[cellsFrom_app]
  exact lookup_some_of_mem (List.mem_append_right _ m1)
 obtain ⟨d,hd⟩:=hs
 rcases blk_cells B I hd with ⟨q,m⟩ | ⟨_,_,q⟩
 ·exact absurd hx (B.cells _ (cellsFrom_mem _ _ m) rfl).2
 ·rw[h] at q;cases q;exact hd
theorem own_cells (h:Heap) (C:Addr) (hC:h.objs.size=C+1) (names:List (Str×NameKind)):CellsOk (pushCells h names) (C+1) (cellsFrom (C+1) names []):=by
 have q:=cellsFrom_ok names h (C+1) [] ⟨fun _ _ hm=>(nomatch hm),List.Pairwise.nil⟩ (by rw[hC];exact Nat.le_refl _)
 rwa [hC] at q
theorem cell_lt (I:Inv X pins σ Z.H Z.s) {x:Str} {c:Addr} (h:X.env.cells.lookup x=some c):@LT.lt Nat instLTNat c Z.s.heap.objs.size:=by
 obtain ⟨v,q⟩:=I.cell x c h
 exact q.lt
theorem blk_ok {h1:Heap} (I:Inv X pins σ Z.H Z.s) (hc:X.calm=true) (B:Bk X.env scope own capN) (hC:Z.s.heap.objs.size<=Z.C) (hcl:CellsOk h1 (Z.C+1) (cellsFrom (Z.C+1) scope.names []))
  (hf:∀b∈Z.fp,FpOk X pins Z.H b∧@LT.lt Nat instLTNat b Z.s.heap.objs.size):(blk X own capN scope Z).Ok:=by
 refine ⟨I.ok.mod,B.kind,I.ok.glob,I.ok.blt,hC,fun x y c h1 h2=>?_,fun x hx=>?_,fun x c hx h=>?_,fun _=>I.ok.hd hc,I.ok.frames,.inl rfl,fun b hb=>⟨?_,fun x c h=>?_⟩,I.bs,Nat.le_trans I.ok.bsz I.sz,fun b o e hb=>?_,fun b hb hz=>?_,I.stack,I.stkFree⟩
 ·rcases blk_cells B I h1 with ⟨q1,m1⟩ | ⟨q1,n1,m1⟩ <;> rcases blk_cells B I h2 with ⟨q2,m2⟩ | ⟨q2,n2,m2⟩
  ·exact name_of_addr hcl.apart m1 m2
  ·have l1:=(hcl.empty _ _ m1).2
   have l2:=cell_lt I m2
   lia
  ·have l1:=(hcl.empty _ _ m2).2
   have l2:=cell_lt I m1
   lia
  ·exact I.ok.inj x y c m1 m2
 ·have hx':(relabel scope X.env).names.lookup x=some .cell∨(relabel scope X.env).names.lookup x=some .free:=hx
  have hk:scope.names.lookup x=some .cell∨scope.names.lookup x=some .free:=by
   rcases hx' with h | h
   ·obtain ⟨k0,e,q | ⟨q,_⟩⟩:=relabel_look h
    ·exact .inl (by rw[e,← q])
    ·exact .inr (by rw[e,q])
   ·obtain ⟨k0,e,q | ⟨_,q⟩⟩:=relabel_look h
    ·exact .inr (by rw[e,← q])
    ·cases q
  show ∃c,(cellsFrom (Z.C+1) scope.names (capCells X.env scope.names [])).lookup x=some c
  rcases hk with h | h
  ·exact Option.isSome_iff_exists.mp (PySem.W.cellsFrom_some scope.names (Z.C+1) _ (.inl h))
  ·obtain ⟨c,m⟩:=capCells_has X.env scope.names (mem_of_lookup h)
   rw[cellsFrom_app]
   exact lookup_some_of_mem (List.mem_append_right _ m)
 ·have ho:x∈own:=by have hx':own.contains x=true:=hx;simpa using hx'
  rcases blk_cells B I h with ⟨_,m⟩ | ⟨_,n,_⟩
  ·have:=(hcl.empty _ _ m).2
   have hC':Z.s.heap.objs.size<=Z.C:=hC
   show Z.s.heap.objs.size<=c
   lia
  ·exact absurd ho n
 ·intro e
  have e':@Eq Nat b Z.C:=e
  have:=(hf b hb).2
  lia
 ·have l:=(hf b hb).2
  rcases blk_cells B I h with ⟨_,m⟩ | ⟨_,_,m⟩
  ·intro e
   have e':@Eq Nat c b:=e
   have:=(hcl.empty _ _ m).2
   lia
  ·exact (hf b hb).1.2.2.2.2.1 x c m
 ·obtain ⟨_,_,_,f3,_⟩:=(hf b hb).1
  rcases f3 with f3 | f3
  ·exact I.ok.noex b o e f3
  ·exact absurd (Nat.lt_of_lt_of_le (Heap.lt_size e) (Nat.le_trans I.ok.bsz f3)) (Nat.lt_irrefl _)
 ·obtain ⟨_,f1,f2,_⟩:=(hf b hb).1
  rcases List.mem_cons.mp (I.stkSub b hz) with e | e
  ·exact f1 e
  ·exact f2 e
def st0 (k:Nat) (cap:List Nat) (σ:St):St:=List.replicate k none++cap.map fun j=>(σ[j]?).join
def CapOk (X:Cx) (capN:List Str) (cap:List Nat):Prop:=cap.map (fun j=>X.N[j]?)=capN.map some
theorem CapOk.get {cap:List Nat} (h:CapOk X capN cap) {i:Nat} {x:Str} (e:capN[i]?=some x):∃j,cap[i]?=some j∧X.N[j]?=some x:=by
 have q:=congrArg (fun l=>l[i]?) h
 simp only[List.getElem?_map,e,Option.map_some] at q
 cases hc:cap[i]? with
 | none=>rw[hc] at q;cases q
 | some j=>rw[hc] at q;exact ⟨j,rfl,by simpa using q⟩
theorem cap_look {cap:List Nat} {h':Heap} {m:Str->Option Value} (I:Inv X pins σ Z.H Z.s) (B:Bk X.env scope own capN) (hcap:CapOk X capN cap)
  (kc:∀x c,X.env.cells.lookup x=some c->∀v,Z.s.heap.IsCell c v->h'.IsCell c v) {i:Nat} {x:Str} {v:V} (e1:(own++capN)[i]?=some x) (e2:(st0 own.length cap σ)[i]?=some (some v)) :
  ∃u,RelV v u∧Look (blkEnv X.env scope Z.C) h' m x u:=by
 have hi:own.length<=i:=by
  by_cases hi:own.length<=i
  ·exact hi
  ·exfalso
   unfold st0 at e2
   rw[List.getElem?_append_left (by simpa using hi),List.getElem?_replicate] at e2
   split at e2 <;> cases e2
 rw[List.getElem?_append_right hi] at e1
 unfold st0 at e2
 rw[List.getElem?_append_right (by simpa using hi),List.length_replicate,List.getElem?_map] at e2
 obtain ⟨j,hj,hN⟩:=hcap.get e1
 rw[hj] at e2
 have e3:(σ[j]?).join=some v:=by simpa using e2
 have e4:σ[j]?=some (some v):=by
  cases q:σ[j]? with
  | none=>rw[q] at e3;cases e3
  | some o=>rw[q] at e3;simp at e3;rw[e3]
 have hx:x∈capN:=List.mem_of_getElem? e1
 have hk:=B.caps x hx
 obtain ⟨m0,_,hl⟩:=I.loc
 obtain ⟨u,r,l⟩:=hl j x v hN e4 (.inr hk)
 refine ⟨u,r,.inr ⟨relabel_cap (B.capf x hx),?_⟩⟩
 rcases l with ⟨hk2,_⟩ | ⟨_,c,hc,z⟩
 ·rcases hk with hk | hk
  ·rw[hk] at hk2;cases hk2
  ·rw[hk] at hk2;cases hk2
 ·exact ⟨c,blk_cap B I hx hc,kc x c hc _ z⟩
theorem fs_lt (I:Inv X pins σ Z.H Z.s) {b:Addr} (h:b∈frs X.stack):@LT.lt Nat instLTNat b Z.s.heap.objs.size:=by
 obtain ⟨_,o,ho,_⟩:=I.stack.mem h
 exact Heap.lt_size ho
theorem blk_inv {cap:List Nat} {h1:Heap} {D:Addr} {oD:Obj} {t1:Nat} (I:Inv X pins σ Z.H Z.s) (hc:X.calm=true) (B:Bk X.env scope own capN) (hcap:CapOk X capN cap) (hC:Z.s.heap.objs.size<=Z.C)
  (hcl:CellsOk h1 (Z.C+1) (cellsFrom (Z.C+1) scope.names [])) (hf:∀b∈Z.fp,FpOk X pins Z.H b∧@LT.lt Nat instLTNat b Z.s.heap.objs.size)
  (hk:∀b o,Z.s.heap.get? b=some o->h1.get? b=some o) (hn:h1.Ns Z.C fun _=>none) (hD:Z.s.heap.objs.size<=D) (hDC:D≠Z.C) (hoD:h1.get? D=some oD) (hdD:∀v,oD.data≠.cell v) :
  Inv (blk X own capN scope Z) [(D,oD)] (st0 own.length cap σ) Z.H { Z.s with heap:=h1,toks:=t1 }:=by
 refine ⟨blk_ok I hc B hC hcl hf,rfl,I.bare,Un.kept hk,⟨_,hn,fun i x v e1 e2 _=>cap_look I B hcap (fun x c _ v z=>z.keeps hk) e1 e2⟩,fun x c h=>?_,I.hok.fresh hC,fun x c h=>?_,fun p hp=>?_,I.hok.kept hk,?_⟩
 ·rcases blk_cells B I h with ⟨_,m⟩ | ⟨_,_,m⟩
  ·exact ⟨none,(hcl.empty _ _ m).1⟩
  ·obtain ⟨v,q⟩:=I.cell x c m
   exact ⟨v,q.keeps hk⟩
 ·rcases blk_cells B I h with ⟨_,m⟩ | ⟨_,_,m⟩
  ·exact I.hok.fresh (by have:=(hcl.empty _ _ m).2;lia)
  ·exact I.freeC x c m
 ·have e:p=(D,oD):=by simpa [blk] using hp
  subst e
  exact ⟨hoD,I.hok.fresh hD,hDC,fun z=>Nat.lt_irrefl _ (Nat.lt_of_lt_of_le (fs_lt I z) hD),hdD⟩
 ·show (st0 own.length cap σ).length=(own++capN).length
  have:=congrArg List.length hcap
  simp only[List.length_map] at this
  unfold st0
  simp [this]
theorem blk_late {cap:List Nat} {pins':List (Addr×Obj)} {σ':St} {H':Hp} {s':Shared} (I:Inv X pins σ Z.H Z.s) (B:Bk X.env scope own capN) (hcap:CapOk X capN cap) (hf:∀b∈Z.fp,FpOk X pins Z.H b∧@LT.lt Nat instLTNat b Z.s.heap.objs.size)
  (J:Inv (blk X own capN scope Z) pins' σ' H' s'):Inv (blk X own capN scope Z) pins' (st0 own.length cap σ) H' s':=by
 refine ⟨J.ok,J.os,J.bare,J.base,?_,J.cell,J.free,J.freeC,J.pin,J.hok,?_⟩
 ·obtain ⟨m,hn,_⟩:=J.loc
  refine ⟨m,hn,fun i x v e1 e2 _=>cap_look I B hcap (fun x c hx v z=>?_) e1 e2⟩
  obtain ⟨o,ho,hd⟩:=z
  obtain ⟨sl,e⟩:=J.base.any ho (I.freeC x c hx) fun z=>(hf c z).1.2.2.2.2.1 x c hx rfl
  exact ⟨_,e,hd⟩
 ·show (st0 own.length cap σ).length=(own++capN).length
  have:=congrArg List.length hcap
  simp only[List.length_map] at this
  unfold st0
  simp [this]
theorem blk_end {σ':St} {H':Hp} {s':Shared} {D:Addr} {its:List Value} {n:Nat} {ys:List V} (I:Inv X pins σ Z.H Z.s) (hf:∀b∈Z.fp,FpOk X pins Z.H b∧@LT.lt Nat instLTNat b Z.s.heap.objs.size) (hD:Z.s.heap.objs.size<=D)
  (J:Inv (blk X own capN scope Z) [(D,{ cls:=.type "list",data:=.seq its.toArray n })] σ' H' s') (r:Vals ys its) (hz:ys.length<=sizeLine) :
  Inv X pins σ (upd H' D (.lst ys)) s':=by
 have pD:=J.pin (D,{ cls:=.type "list",data:=.seq its.toArray n }) (by simp)
 have ne:∀{b:Addr} {o:Obj},Z.s.heap.get? b=some o->b≠D:=fun e z=>by subst z;exact Nat.lt_irrefl _ (Nat.lt_of_lt_of_le (Heap.lt_size e) hD)
 have nt:∀{b:Addr} {u:HO},H' b=some u->b≠D:=fun e z=>by rw[z,pD.2.1] at e;cases e
 refine I.call' (ch:=Z.fp) J.os ⟨J.base.keep,J.base.slot,fun b o e h hx=>?_,J.base.there,fun b xs e=>?_,fun b o u e=>?_,fun b ps e=>?_⟩ (fun b u e=>?_) J.bare fun b hb=>?_
 ·rw[upd_ne (ne e)];exact J.base.free b o e h hx
 ·have q:=J.base.tups b xs e
  rw[upd_ne (nt q)];exact q
 ·have q:=J.base.frzs b o u e
  rw[upd_ne (nt q)];exact q
 ·obtain ⟨more,q⟩:=J.base.tbls b ps e
  exact ⟨more,by rw[upd_ne (nt q)];exact q⟩
 ·by_cases hb:b=D
  ·subst hb
   rw[upd_same] at e
   cases e
   exact ⟨hz,its,n,r,pD.1⟩
  ·rw[upd_ne hb] at e
   exact (J.hok b u e).stay (fun c v _ q=>q) (fun c q=>by rw[upd_ne (nt q)];exact q) fun c xs q=>by rw[upd_ne (nt q)];exact q
 ·obtain ⟨_,f1,_,f3,f4,f5⟩:=(hf b hb).1
  exact ⟨f3,f1,f4,f5⟩
end
end L2
namespace L2
open PySem PySem.Spec PyProof.Rows
theorem thn0 {α:Type} {t:Sem α} {Q Q':α->Shared->Prop} {M:Model} {A:Around} {E:Value->Shared->Prop} {s:Shared} (h:wpAny M A t Q (fun _ _=>False) s) (hQ:∀a s,Q a s->Q' a s):wpAny M A t Q' E s :=
 wpAny_mono h hQ fun _ _ z=>False.elim z
theorem compLoop_own {prog:Program} {w:World} {A:Around} {R:Result->Shared->Prop} {s:Shared} {elt target iter:Expr} {ifs:List Expr} {scope:Scope} {pos:Pos} {it acc:Value} {env:Env} (I:Nat->Shared->Prop)
  (turn:∀(E:Value->Shared->Prop) n s,I n s->wpAny (model prog w) A (pyNext it) (fun r s₁=>match r with
   | none=>R (.ok .next) s₁
   | some v=>wpAny (model prog w) A (letOwnedTupleGo target it v) (fun _ s₂=>wpAny (model prog w) A (assign target env v) (fun _ s₃ =>
     wpAny (model prog w) A (forIn ifs true fun c r=>if r=true then do let ok ← isTrue c env (eval c env);pure (ForInStep.yield ok) else pure (ForInStep.yield r)) (fun ok s₄ =>
      if ok=true then wpAny (model prog w) A (eval elt env) (fun x s₅=>wpAny (model prog w) A (call (.builtin "list.append") [acc,x]) (fun _ s₆=>∃m,m < n∧I m s₆) E s₅) E s₄
      else ∃m,m < n∧I m s₄) E s₃) E s₂) E s₁) E s)
  (n:Nat) (h:I n s):codeAny (model prog w) A (.compLoop (.ListComp elt [⟨target,iter,ifs,0⟩] scope pos) 0 it acc env) R s:=by
 refine codeAny_loop rfl I (fun n s hI=>?_) n h
 show wpAny _ A ((compTurn (.ListComp elt [⟨target,iter,ifs,0⟩] scope pos) 0 it acc env).onRaise (fun x=>do noteFrame x env;theTreesLotGoes x)) _ _ s
 refine wpAny_noted ?_
 rw[compTurn_list]
 refine wpAny_bind (wpAny_standAt (wpAny_bind (wpAny_mono (turn _ n s hI) (fun r s₁ h₁=>?_) fun _ _ h'=>h')))
 cases r with
 | none=>exact wpAny_pure h₁
 | some v =>
  refine wpAny_bind (wpAny_mono h₁ (fun _ s₂ h₂=>wpAny_bind (wpAny_mono h₂ (fun _ s₃ h₃=>wpAny_bind (wpAny_mono h₃ (fun ok s₄ h₄=>?_) fun _ _ h'=>h')) fun _ _ h'=>h')) fun _ _ h'=>h')
  cases ok with
  | false=>exact wpAny_pure ⟨rfl,h₄⟩
  | true =>
   exact wpAny_bind (wpAny_bind (wpAny_mono h₄ (fun x s₅ h₅=>wpAny_bind (wpAny_mono h₅ (fun _ s₆ h₆=>wpAny_pure (wpAny_pure ⟨rfl,h₆⟩)) fun _ _ h'=>h')) fun _ _ h'=>h'))
def PF (X:Cx) (ifs:List Expr) (t:TT):Prop :=
 ∀(pins:List (Addr×Obj)) (s:Shared) (σ:St) (H:Hp) (Q:Bool->Hp->Prop),Inv X pins σ H s->t σ H Q →
  wpAny (model X.prog X.w) X.A (forIn ifs true fun c r=>if r=true then do let ok ← isTrue c X.env (eval c X.env);pure (ForInStep.yield ok) else pure (ForInStep.yield r)) (TP X pins σ Q) X.xe s
def tYes:TT:=fun _ H Q=>Q true H
theorem pf_nil {X:Cx}:PF X [] tYes:=fun _ _ _ H _ I h=>wpAny_tests_nil ⟨H,I,h⟩
def tTurn (σ₀:St) (g:TG) (tf:TT) (te:TE) (x:V) (H:Hp) (NY:V->Hp->Prop) (NN:Hp->Prop):Prop :=
 g x σ₀ H fun σ2 H2=>tf σ2 H2 fun b H3=>if b=true then te σ2 H3 NY else NN H3
def CompW (J:It) (σ₀:St) (g:TG) (tf:TT) (te:TE) (Q:VK) (H1:Hp):Prop :=
 ∃W:Nat->Nat->List V->Hp->Prop,(∃m,W 0 m [] H1)∧∀i m ys H,W i m ys H →
  (J.stop i H∧ys.length<=sizeLine∧∀p,H p=none->Q (.ref p) (upd H p (.lst ys))) ∨
  (J.go i H∧ys.length < sizeLine∧∃(NY:V->Hp->Prop) (NN:Hp->Prop),(∀y H',NY y H'->∃m',m' < m∧W (i+1) m' (ys++[y]) H')∧(∀H',NN H'->∃m',m' < m∧W (i+1) m' ys H') ∧
   ∀x H',J.yld i H x H'->tTurn σ₀ g tf te x H' NY NN)
def tComp (wi:TI) (k:Nat) (cap:List Nat) (g:TG) (tf:TT) (te:TE):TE:=fun σ H Q=>wi σ H fun J H1=>CompW J (st0 k cap σ) g tf te Q H1
abbrev lobj (its:List Value) (n:Nat):Obj:={ cls:=.type "list",data:=.seq its.toArray n }
section
variable {X:Cx} {own capN:List Str} {cap:List Nat} {scope:Scope} {elt tg iter:Expr} {ifs:List Expr} {pos:Pos} {wi:TI} {g:TG} {tf:TT} {te:TE}
theorem comp_core {use:Option (Value->Sem Unit)} {Qe:Value->Shared->Prop} {fpos:Pos} (hc:X.calm=true) (B:Bk X.env scope own capN) (hcap:CapOk X capN cap)
  (hi:PI X tg iter wi) (hg:∀Z,PG (blk X own capN scope Z) tg g) (hf:∀Z,PF (blk X own capN scope Z) ifs tf) (he:∀Z,PE (blk X own capN scope Z) elt te)
  (hs:∀x,foldedSetIterable iter X.env x=pure x) {pins:List (Addr×Obj)} {s:Shared} {σ:St} {H:Hp} {Q:VK} (I:Inv X pins σ H s) (h:tComp wi own.length cap g tf te σ H Q)
  (fin:∀(D C:Addr) (s':Shared) (H':Hp),Inv X pins σ H' s'->FpOk X pins H' C->(∃m,s'.heap.Ns C m)->Q (.ref D) H'->compPost (model X.prog X.w) X.A X.xe use Qe (.ref D) C (.ok .next) s') :
  wpAny (model X.prog X.w) X.A (comprehension (.ListComp elt [⟨tg,iter,ifs,0⟩] scope pos) scope X.env fpos (newList []) false (eval iter X.env) use) Qe X.xe s:=by
 refine wpAny_comprehension_free (use:=use) rfl hs (closureFor_cap fun y hy hk=>I.ok.has y.1 (B.caps _ (B.frees y hy hk).1)) B.kind B.locs ?_
 refine thn (hi pins s σ H _ I h) fun v s1 h1=>thn h1 fun itv s2 h2=>?_
 obtain ⟨it,fp,tn,J,H2,e,I2,T,st2,f2,W,⟨m0,w0⟩,turn⟩:=h2
 subst e
 have hfp:∀b∈fp,FpOk X pins H2 b∧@LT.lt Nat instLTNat b s2.heap.objs.size:=fun b hb=>⟨f2 b hb,let ⟨_,e,_⟩:=T.obj _ _ st2 b hb;Heap.lt_size e⟩
 refine wpAny_newObj_type (newBlockEnv ?_) (Nat.zero_le _)
 have es:(s2.heap.push { cls:=.type "list",data:=.seq ([]:List Value).toArray }).objs.size=s2.heap.objs.size+1:=Heap.size_push ..
 show codeAny _ _ (.compStart _ 0 (.ref it) (.ref s2.heap.objs.size) { newEnv scope (s2.heap.push { cls:=.type "list",data:=.seq ([]:List Value).toArray }).objs.size X.env.globals (cellsFrom ((s2.heap.push { cls:=.type "list",data:=.seq ([]:List Value).toArray }).objs.size+1) scope.names (capCells X.env scope.names [])) X.env.qual none .none (some X.env) builtinsNs with scope:=relabel scope X.env })
  (compPost (model X.prog X.w) X.A X.xe use Qe (.ref s2.heap.objs.size) (s2.heap.push { cls:=.type "list",data:=.seq ([]:List Value).toArray }).objs.size)
  { s2 with heap:=pushCells ((s2.heap.push { cls:=.type "list",data:=.seq ([]:List Value).toArray }).push { cls:=.type "dict",data:=.dict #[] }) scope.names }
 have hk1:∀b o,(s2.heap.push { cls:=.type "list",data:=.seq ([]:List Value).toArray }).get? b=some o->(pushCells ((s2.heap.push { cls:=.type "list",data:=.seq ([]:List Value).toArray }).push { cls:=.type "dict",data:=.dict #[] }) scope.names).get? b=some o :=
  fun b o e=>pushCells_keeps _ _ _ _ (Heap.get?_push_of_some _ e)
 have hk:∀b o,s2.heap.get? b=some o->(pushCells ((s2.heap.push { cls:=.type "list",data:=.seq ([]:List Value).toArray }).push { cls:=.type "dict",data:=.dict #[] }) scope.names).get? b=some o:=fun b o e=>hk1 b o (Heap.get?_push_of_some _ e)
 have hoD:=hk1 s2.heap.objs.size _ (Heap.get?_push_size s2.heap (o:={ cls:=.type "list",data:=.seq ([]:List Value).toArray }) rfl)
 have hn:=(Heap.Ns.new (s2.heap.push { cls:=.type "list",data:=.seq ([]:List Value).toArray }) (.type "dict")).keeps (pushCells_keeps scope.names _)
 have hcl:=own_cells ((s2.heap.push { cls:=.type "list",data:=.seq ([]:List Value).toArray }).push { cls:=.type "dict",data:=.dict #[] }) (s2.heap.objs.size+1) (by rw[Heap.size_push,es]) scope.names
 rw[es] at hn ⊢
 generalize pushCells ((s2.heap.push { cls:=.type "list",data:=.seq ([]:List Value).toArray }).push { cls:=.type "dict",data:=.dict #[] }) scope.names=h3 at hk hoD hn hcl ⊢
 have Z:Bz:=⟨s2,H2,fp,s2.heap.objs.size+1⟩
 have I3:Inv (blk X own capN scope ⟨s2,H2,fp,s2.heap.objs.size+1⟩) [(s2.heap.objs.size,lobj [] 0)] (st0 own.length cap σ) H2 { s2 with heap:=h3 } :=
  blk_inv (Z:=⟨s2,H2,fp,s2.heap.objs.size+1⟩) (t1:=s2.toks) I2 hc B hcap (Nat.le_succ _) hcl hfp hk hn (Nat.le_refl _) (Nat.ne_of_lt (Nat.lt_succ_self _)) hoD (fun v z=>nomatch z)
 have st3:tn 0 h3:=T.keep _ _ _ st2 fun b _ o e=>hk b o e
 have loop:codeAny (model X.prog X.w) X.A (.compLoop (.ListComp elt [⟨tg,iter,ifs,0⟩] scope pos) 0 (.ref it) (.ref s2.heap.objs.size) (blkEnv X.env scope (s2.heap.objs.size+1))) (compPost (model X.prog X.w) X.A X.xe use Qe (.ref s2.heap.objs.size) (s2.heap.objs.size+1)) { s2 with heap:=h3 }:=by
  refine compLoop_own (fun m s'=>∃i ys σ' H' its n,Inv (blk X own capN scope ⟨s2,H2,fp,s2.heap.objs.size+1⟩) [(s2.heap.objs.size,lobj its n)] σ' H' s'∧tn i s'.heap∧(∀b∈fp,H' b=none)∧Vals ys its∧W i m ys H') ?_ m0
   ⟨0,[],_,H2,[],0,I3,st3,fun b hb=>(f2 b hb).1,.nil,w0⟩
  rintro E n s4 ⟨i,ys,σ4,H4,its,k,I4,st4,fr4,rv,w4⟩
  have fpo:∀{pp:List (Addr×Obj)} {H':Hp},(∀p∈pp,p.1=s2.heap.objs.size)->(∀b∈fp,H' b=none)->∀b∈fp,FpOk (blk X own capN scope ⟨s2,H2,fp,s2.heap.objs.size+1⟩) pp H' b:=fun {pp H'} hpp hn b hb=>by
   obtain ⟨e1,e2⟩:=I4.ok.exf b hb
   refine ⟨hn b hb,e1,I4.ok.exfs b hb,.inl hb,e2,fun p hp=>?_⟩
   have hp':p∈pp:=by simpa [blk] using hp
   have l:=(hfp b hb).2
   rw[hpp p hp']
   exact fun z=>Nat.lt_irrefl _ (by rw[← z] at l;exact l)
  have pinD:∀{its:List Value} {n:Nat},∀p∈[(s2.heap.objs.size,lobj its n)],p.1=s2.heap.objs.size:=fun p hp=>by simp at hp;rw[hp]
  rcases turn i n ys H4 w4 with ⟨stop,hz,q⟩ | ⟨go,hlt,NY,NN,hNY,hNN,step⟩
  ·refine thn (T.done (blk X own capN scope ⟨s2,H2,fp,s2.heap.objs.size+1⟩) rfl rfl rfl rfl i _ s4 σ4 H4 E I4 (fpo pinD fr4) st4 stop) fun r s5 ⟨hr,I5⟩=>?_
   subst hr
   have pD:=I5.pin (s2.heap.objs.size,lobj its k) (by simp)
   have I6:=blk_end (Z:=⟨s2,H2,fp,s2.heap.objs.size+1⟩) I2 hfp (Nat.le_refl _) I5 rv hz
   have hC:upd H4 s2.heap.objs.size (.lst ys) (s2.heap.objs.size+1)=none:=by
    rw[upd_ne (Nat.ne_of_gt (Nat.lt_succ_self _))];exact I5.free
   obtain ⟨m,hm,_⟩:=I5.loc
   exact fin _ _ s5 _ I6 (I2.fpOk (Nat.le_succ _) hC) ⟨m,hm⟩ (q _ pD.2.1)
  ·refine thn (T.item (blk X own capN scope ⟨s2,H2,fp,s2.heap.objs.size+1⟩) rfl rfl rfl rfl i _ s4 σ4 H4 E I4 (fpo pinD fr4) st4 go) fun r s5 ⟨u,hr,h5⟩=>?_
   subst hr
   refine thn h5 fun _ s6 ⟨x,H6,I6,r6,y6,st6,fr6⟩=>?_
   have I6':=(blk_late (Z:=⟨s2,H2,fp,s2.heap.objs.size+1⟩) I2 B hcap hfp I6).pinned (fpo pinD fr6) (T.obj _ _ st6)
   have back:∀{σ7:St} {H7:Hp} {s7:Shared},Inv (blk X own capN scope ⟨s2,H2,fp,s2.heap.objs.size+1⟩) ([(s2.heap.objs.size,lobj its k)]++pinsAt fp s6.heap) σ7 H7 s7 →
     Inv (blk X own capN scope ⟨s2,H2,fp,s2.heap.objs.size+1⟩) [(s2.heap.objs.size,lobj its k)] σ7 H7 s7∧tn (i+1) s7.heap∧∀b∈fp,H7 b=none:=fun {σ7 H7 s7} I7=>by
    refine ⟨I7.unpinned,T.keep _ _ _ st6 fun b hb o e=>(I7.pin (b,o) (List.mem_append_right _ (List.mem_append_right _ (mem_pinsAt hb e)))).1,fun b hb=>?_⟩
    obtain ⟨o,e,d⟩:=T.obj _ _ st6 b hb
    exact (I7.pin (b,o) (List.mem_append_right _ (List.mem_append_right _ (mem_pinsAt hb e)))).2.1
   refine thn0 (hg _ _ s6 _ H6 x u _ I6' r6 (step x H6 y6)) fun _ s7 ⟨σ7,H7,I7,q7⟩=>?_
   refine thn0 (hf _ _ s7 σ7 H7 _ I7 q7) fun ok s8 ⟨H8,I8,q8⟩=>?_
   cases ok with
   | false =>
    rw[if_neg Bool.false_ne_true] at q8 ⊢
    obtain ⟨m',hm,w8⟩:=hNN H8 q8
    obtain ⟨J1,J2,J3⟩:=back I8
    exact ⟨m',hm,i+1,ys,σ7,H8,its,k,J1,J2,J3,rv,w8⟩
   | true =>
    rw[if_pos rfl] at q8 ⊢
    refine thn0 (he _ _ s8 σ7 H8 _ I8 q8) fun z s9 ⟨y,H9,I9,r9,q9⟩=>?_
    obtain ⟨J1,J2,J3⟩:=back I9
    obtain ⟨m',hm,w9⟩:=hNY y H9 q9
    have pD:=J1.pin (s2.heap.objs.size,lobj its k) (by simp)
    have hl:=rv.length
    refine call_meets F.slot_list_append ⟨_,pD.1,rfl⟩ F.entry_list_append (F.args_list_append_2 _ _) (PySem.list_append s2.heap.objs.size its.toArray k z (by rw[List.size_toArray];lia)) ⟨pD.1,?_⟩
    have e9:=PySem.IsL.update pD.1 (fun a=>a.push z)
    have e9':(its.toArray.push z)=(its++[z]).toArray:=by simp
    rw[e9'] at e9
    obtain ⟨n',e9⟩:∃n',(s9.heap.update s2.heap.objs.size (Obj.mapSeq fun a=>a.push z)).get? s2.heap.objs.size=some (lobj (its++[z]) n'):=⟨_,e9⟩
    have J4:Inv (blk X own capN scope ⟨s2,H2,fp,s2.heap.objs.size+1⟩) [] σ7 H9 { s9 with heap:=s9.heap.update s2.heap.objs.size (Obj.mapSeq fun a=>a.push z),toks:=s9.toks } :=
     (J1.pins_of (pins':=[]) fun p hp=>nomatch hp).turned (fun b o hb e=>(Heap.get?_update_other s9.heap _ (Ne.symm hb)).trans e) pD.2.1 pD.2.2.1 (.inr (Nat.le_refl _)) (fun x c hx z=>by
      rcases blk_cells (Z:=⟨s2,H2,fp,s2.heap.objs.size+1⟩) B I2 hx with ⟨_,m⟩ | ⟨_,_,m⟩
      ·have:=(hcl.empty _ _ m).2
       have z':@Eq Nat c s2.heap.objs.size:=z
       lia
      ·have:=cell_lt (Z:=⟨s2,H2,fp,s2.heap.objs.size+1⟩) I2 m
       rw[z] at this
       exact Nat.lt_irrefl _ this) fun p hp=>by simp [blk] at hp
    have nfp:∀b∈fp,b≠s2.heap.objs.size:=fun b hb z=>by have:=(hfp b hb).2;rw[z] at this;exact Nat.lt_irrefl _ this
    refine ⟨m',hm,i+1,ys++[y],σ7,H9,its++[z],n',J4.pins_of fun p hp=>?_,T.keep _ _ _ J2 fun b hb o e=>(Heap.get?_update_other s9.heap _ (Ne.symm (nfp b hb))).trans e,J3,rv.append (.cons r9 .nil),w9⟩
    have ep:p=(s2.heap.objs.size,lobj (its++[z]) n'):=by simpa using hp
    rw[ep]
    exact ⟨e9,pD.2.1,pD.2.2.1,pD.2.2.2.1,fun v z=>nomatch z⟩
 exact codeAny_compStart_list loop (T.self _ _ _ _ _ st3 loop)
theorem pe_comp (own capN:List Str) (cap:List Nat) (hi:PI X tg iter wi) (hg:∀Z,PG (blk X own capN scope Z) tg g) (hf:∀Z,PF (blk X own capN scope Z) ifs tf) (he:∀Z,PE (blk X own capN scope Z) elt te)
  (h1:bkS scope own capN=true:=by decide +kernel) (h2:capsB X.env capN=true:=by rfl) (hcap:CapOk X capN cap:=by rfl) (hc:X.calm=true:=by rfl) (hs:∀x,foldedSetIterable iter X.env x=pure x:=by intro _;rfl) :
  PE X (.ListComp elt [⟨tg,iter,ifs,0⟩] scope pos) (tComp wi own.length cap g tf te):=by
 intro pins s σ H Q I h
 rw[eval_ListComp]
 refine comp_core (use:=none) hc (Bk.of h1 h2) hcap hi hg hf he hs I h fun D C s' H' I' fC hm q=>?_
 obtain ⟨m,hm⟩:=hm
 refine ⟨m,hm,fun h' hs'=>?_⟩
 obtain ⟨f0,f1,f2,f3,f4,f5⟩:=fC
 exact ⟨.ref D,H',I'.turned (t':=s'.toks) (fun b o hb e=>(hs'.2 b hb).trans e) f0 f1 f3 f4 f5,rfl,q⟩
theorem ps_setC (i:Nat) (own capN:List Str) (cap:List Nat) {x:Str} {pos' spos:Pos} (hN:X.N.Nodup) (hi':X.N[i]?=some x) (hx:X.env.scope.names.lookup x=some .local) (hi:PI X tg iter wi) (hg:∀Z,PG (blk X own capN scope Z) tg g) (hf:∀Z,PF (blk X own capN scope Z) ifs tf) (he:∀Z,PE (blk X own capN scope Z) elt te)
  (h1:bkS scope own capN=true:=by decide +kernel) (h2:capsB X.env capN=true:=by rfl) (hcap:CapOk X capN cap:=by rfl) (hc:X.calm=true:=by rfl) (hs:∀x,foldedSetIterable iter X.env x=pure x:=by intro _;rfl)
  (hsw:swapsWith (.ListComp elt [⟨tg,iter,ifs,0⟩] scope pos) (some (.Name x pos')) spos.line X.env=pure true:=by rfl) :
  PS X (.Assign [.Name x pos'] (.ListComp elt [⟨tg,iter,ifs,0⟩] scope pos) spos) (tAsg (tComp wi own.length cap g tf te) (gName i)):=by
 intro pins s σ H D I h
 rw[exec_Assign_Name_used _ _ _ _ hsw]
 refine wpAny_bind (wpAny_standAt (wpAny_bind ?_))
 rw[arm_evalThenUse_ListComp]
 refine wpAny_bind (comp_core (Q:=fun v H1=>D.nx (σ.set i (some v)) H1) (use:=some _) hc (Bk.of h1 h2) hcap hi hg hf he hs I h fun L C s' H' I' fC hm q=>?_)
 obtain ⟨m,hm⟩:=hm
 obtain ⟨f0,f1,f2,f3,f4,f5⟩:=fC
 refine wpAny_assign_Name (store_ok2 I' hN hi' (.inl hx) (v:=.ref L) rfl (fun s'' I'' ⟨a,sb,ha⟩=>?_) (.inr hx))
 have hCa:C≠a:=by
  rcases ha with e | e
  ·rw[e];exact f1
  ·exact (f4 x a e).symm
 refine ⟨m,hm.at' fun o e=>(sb.2 C hCa).trans e,fun h' hs'=>?_⟩
 have I3:=I''.turned (h':=h') (t':=s''.toks) (fun b o hb e=>(hs'.2 b hb).trans e) f0 f1 f3 f4 f5
 exact wpAny_pure (wpAny_pure ⟨_,H',I3,q⟩)
end
section
variable {K:PySem.W.Frag} {a:Addr} {xs:List V} {g:TG} {tf:TT} {te:TE} {Q:VK} {σ₀:St} {H:Hp}
theorem comp_list (Pv:Nat->List V->Hp->Prop) (hz:xs.length<=sizeLine) (h0:Pv 0 [] H) (hl:∀i ys H,i<=xs.length->Pv i ys H->SqL K H a xs)
  (hs:∀i x ys H,xs[i]?=some x->ys.length<=i->Pv i ys H->tTurn σ₀ g tf te x H (fun y H'=>Pv (i+1) (ys++[y]) H') (fun H'=>Pv (i+1) ys H'))
  (hd:∀ys H,ys.length<=xs.length->Pv xs.length ys H->∀p,H p=none->Q (.ref p) (upd H p (.lst ys))):CompW (Itl K a) σ₀ g tf te Q H:=by
 refine ⟨fun i m ys H=>m=xs.length - i∧i<=xs.length∧ys.length<=i∧Pv i ys H,⟨xs.length,by simp,Nat.zero_le _,Nat.zero_le _,h0⟩,?_⟩
 rintro i m ys H ⟨rfl,hi,hy,p⟩
 have q:=hl i ys H hi p
 by_cases hlt:i < xs.length
 ·refine .inr ⟨⟨xs,xs[i],q,by simp [hlt]⟩,by lia,fun y H'=>Pv (i+1) (ys++[y]) H',fun H'=>Pv (i+1) ys H',fun y H' p'=>⟨xs.length - (i+1),by lia,rfl,hlt,by rw[List.length_append,List.length_singleton];lia,p'⟩,fun H' p'=>⟨xs.length - (i+1),by lia,rfl,hlt,by lia,p'⟩,fun x H' y=>?_⟩
  obtain ⟨e,y⟩:=y
  subst e
  exact hs i x ys _ (y xs q) hy p
 ·have e:i=xs.length:=by lia
  subst e
  exact .inl ⟨⟨xs,q,Nat.le_refl _⟩,by lia,hd ys H hy p⟩
theorem comp_range {lo:Int} {n:Nat} (Pv:Nat->List V->Hp->Prop) (hz:n<=sizeLine) (h0:Pv 0 [] H)
  (hs:∀i ys H,i < n->ys.length<=i->Pv i ys H->tTurn σ₀ g tf te (.int (lo+i)) H (fun y H'=>Pv (i+1) (ys++[y]) H') (fun H'=>Pv (i+1) ys H'))
  (hd:∀ys H,ys.length<=n->Pv n ys H->∀p,H p=none->Q (.ref p) (upd H p (.lst ys))):CompW (Itr lo n) σ₀ g tf te Q H:=by
 refine ⟨fun i m ys H=>m=n - i∧i<=n∧ys.length<=i∧Pv i ys H,⟨n,by simp,Nat.zero_le _,Nat.zero_le _,h0⟩,?_⟩
 rintro i m ys H ⟨rfl,hi,hy,p⟩
 by_cases hlt:i < n
 ·refine .inr ⟨hlt,by lia,fun y H'=>Pv (i+1) (ys++[y]) H',fun H'=>Pv (i+1) ys H',fun y H' p'=>⟨n - (i+1),by lia,rfl,hlt,by rw[List.length_append,List.length_singleton];lia,p'⟩,fun H' p'=>⟨n - (i+1),by lia,rfl,hlt,by lia,p'⟩,fun x H' y=>?_⟩
  obtain ⟨e,y⟩:=y
  subst e y
  exact hs i ys _ hlt hy p
 ·have e:i=n:=by lia
  subst e
  exact .inl ⟨Nat.le_refl _,by lia,hd ys H hy p⟩
end
end L2
namespace L2
open PySem PySem.Spec PyProof.Rows Nm
def CMulS (i j:Int):Prop:=CMul i j∨∃m n,Sz m i∧Sz n j∧m+n<=1000000
def CDivS (i j:Int):Prop:=j≠0∧Sz 8999 j
theorem bits_of_sz {k:Nat} {i:Int} (h:Sz k i):Builtin.Int.intBits i<=k:=by
 unfold Builtin.Int.intBits
 by_cases e:i=0
 ·subst e;simp
 ·have e':(i == 0)=false:=by simpa using e
  rw[e']
  have hn:i.natAbs≠0:=by lia
  have:=(Nat.log2_lt hn).mpr h
  simp only[Bool.false_eq_true,if_false]
  lia
theorem CMulS.ok {i j:Int} (h:CMulS i j):IntMulOk i j:=by
 rcases h with h | ⟨m,n,h1,h2,h3⟩
 ·exact h.ok
 ·have e:(2:Nat)^20=1048576:=by decide
  exact .of_bits (by have:=bits_of_sz h1;lia) (by have:=bits_of_sz h2;lia)
section
variable {X:Cx} {a b:Expr} {ta tb:TE} {pos:Pos}
theorem op_mulS:OpR X (binaryOp .Mult) (rI CMulS fun i j=>.int (i*j)):=opI fun _ _ _ _ _ _ _ hc q=>mul_int q hc.ok
theorem op_fdivS:OpR X (binaryOp .FloorDiv) (rI CDivS fun i j=>.int (i.fdiv j)):=opI fun i j _ _ _ _ _ hc q=>by
 refine floordiv_int hc.1 q (.inl (PyProof.noPylong_of_log2 ?_))
 have hn:j.natAbs≠0:=by have:=hc.1;lia
 have:=(Nat.log2_lt hn).mpr hc.2
 lia
def tSeqM (t u:TS):TS:=fun D σ H=>∃N:St->Hp->Prop,t { D with nx:=N } σ H∧∀σ' H',N σ' H'->u D σ' H'
theorem pss_consM {st:Stmt} {rest:List Stmt} {t u:TS} (h1:PS X st t) (h2:PSs X rest u):PSs X (st :: rest) (tSeqM t u):=by
 intro pins s σ H D I h
 obtain ⟨N,h,k⟩:=h
 refine wpAny_execs_cons (thn (h1 pins s σ H { D with nx:=N } I h) fun f s1 q=>?_)
 cases f with
 | next =>
  obtain ⟨σ',H',I',q⟩:=q
  exact h2 pins s1 σ' H' D I' (k _ _ q)
 | ret v=>exact q
 | brk=>exact q
 | cont=>exact q
def rGetL (K:PySem.W.Frag):V->V->Hp->VK->Prop:=fun o i H Q=>∃p xs k v,o=.ref p∧i=.int k∧SqL K H p xs∧atI xs k=some v∧Q v H
theorem get_list:PGet X (rGetL X.K):=by
 intro pins s σ H o i ov iv Q I ro ri h
 obtain ⟨p,xs,k,z,rfl,rfl,hq,he,q⟩:=h
 cases ro
 obtain ⟨t,rfl⟩:=ri
 obtain ⟨its,r,pl,hz⟩:=I.list hq
 obtain ⟨j,h1,h2,h3,h4,h5⟩:=atI_get he
 obtain ⟨w,ew,rw'⟩:=r.get h2
 have hl:=r.length
 have hn:=line63
 have fin:EP X pins σ Q w s:=⟨z,H,I,rw',q⟩
 by_cases h0:0<=k
 ·have hj:k.toNat=j:=by
   rw[seqIndex_of h0 h5] at h1
   exact Option.some.inj h1
  exact wpAny_getItem_list pl.isList h0 (by lia) (by rw[hj];simpa using ew) fin
 ·have hj:(k+(its.toArray.size:Int)).toNat=j:=by
   rw[seqIndex_neg (by lia) h4] at h1
   rw[List.size_toArray,← hl]
   exact Option.some.inj h1
  exact wpAny_getItem_list_neg pl.isList (by lia) (by rw[List.size_toArray] <;> lia) (by lia) (by rw[hj];simpa using ew) fin
def rIsT (K:PySem.W.Frag) (T:String):V->Hp->VK->Prop:=fun x H Q=>∃t b,TyOf K H x t∧PySem.W.kitOne K t (.type T)=some b∧Q (.bl b) H
theorem pe_isT {c:Str} {T:String} {p p2:Pos} (hg:Gl X "isinstance") (hm:X.mg "isinstance"=none) (hb:bootBuiltins c=some (.type T)) (hmc:X.mg c=none) (ha:PE X a ta) (hgc:Gl X c:=by rfl) (hn:c≠"__name__":=by decide)
  (hd:(c == ("__debug__":Str))=false:=by decide) (he:starEach [a,.Name c p2] X.env=[(false,eval a X.env),(false,eval (.Name c p2) X.env)]:=by rfl)
  (hpl:(backTo pos (starEach [.Name c p2] X.env)).any (·.1)=false:=by rfl) (he2:starEach [.Name c p2] X.env=[(false,eval (.Name c p2) X.env)]:=by rfl):PE X (.Call (.Name "isinstance" p) [a,.Name c p2] [] pos) (tUn (rIsT X.K T) ta):=by
 intro pins s σ H Q I h
 refine wpAny_Call_Name_kw (ld_blt I hg hm PyProof.Rows.boot_isinstance ?_)
 have hA:PA X [a,.Name c p2] (tCons ta (tCons (tC (.ty T)) tNil)):=pa_cons ha (pa_cons (pe_bltn hgc hmc hb rfl hn hd) pa_nil he2) (by rw[he,he2])
 have hq:tCons ta (tCons (tC (.ty T)) tNil) σ H (fun vs H1=>∃x,vs=[x,.ty T]∧rIsT X.K T x H1 Q):=by
  show ta σ H fun x H1=>∃x',[x,V.ty T]=[x',V.ty T]∧rIsT X.K T x' H1 Q
  have e:(fun x H1=>∃x',[x,V.ty T]=[x',V.ty T]∧rIsT X.K T x' H1 Q)=fun x H1=>rIsT X.K T x H1 Q:=by
   funext x H1
   apply propext
   constructor
   ·rintro ⟨x',e,q⟩;cases e;exact q
   ·intro q;exact ⟨x,rfl,q⟩
  rw[e]
  exact h
 refine PyProof.Rows.callWith_builtin1 (thn (hA pos pins s σ H _ I hq) fun us s1 ⟨vs,H1,I1,r1,x,e,q1⟩=>?_) (by rw[he,he2]) hpl
 subst e
 obtain ⟨u,w',rfl,ru,rt⟩:=vals2 r1
 cases rt
 obtain ⟨t,bb,ty,ek,q⟩:=q1
 exact isinst_ok I1 ru ty ek fun tk=>⟨.bl bb,H1,I1.tok tk,rfl,q⟩
end
structure Kind (α:Type) [DecidableEq α] where
 R:PySem.W.Frag->Hp->V->α->Prop
 d:Nat
 inj:∀{X:Cx} {pins:List (Addr×Obj)} {σ:St} {H:Hp} {s:Shared} {x:V} {a b:α},Inv X pins σ H s->R X.K H x a->R X.K H x b->a=b
 rc:∀{X:Cx} {pins:List (Addr×Obj)} {σ:St} {H:Hp} {s:Shared} {x y:V} {v u:Value} {a b:α} {A:Around},Inv X pins σ H s->RelV x v->RelV y u->R X.K H x a->R X.K H y b->A.units+d < cLine->SeqAt.RcAt A s v u (decide (a=b))
 ne:∀{X:Cx} {pins:List (Addr×Obj)} {σ:St} {H:Hp} {s:Shared} {x y:V} {v u:Value} {a b:α} {A:Around},Inv X pins σ H s->RelV x v->RelV y u->R X.K H x a->R X.K H y b->A.units+d < cLine->SeqAt.RcNeAt A s v u (!decide (a=b))
 eq:∀{X:Cx} {pins:List (Addr×Obj)} {σ:St} {H:Hp} {s:Shared} {x y:V} {v u:Value} {a b:α} {A:Around},Inv X pins σ H s->RelV x v->RelV y u->R X.K H x a->R X.K H y b->A.units+d < cLine->SeqAt.EqAt A s v u (decide (a=b))
def kInt:Kind Int where
 R:=fun _ _ x i=>x=.int i
 d:=0
 inj:=fun _ h1 h2=>by rw[h1] at h2;cases h2;rfl
 rc:=fun {X pins σ H s x y v u a b A} I rx ry h1 h2 _=>by
  subst h1 h2
  obtain ⟨t,rfl⟩:=rx
  obtain ⟨t',rfl⟩:=ry
  have q:=SeqAt.RcAt.int_int (A:=A) (s:=s) a t b t'
  rwa [Bool.beq_eq_decide_eq] at q
 ne:=fun {X pins σ H s x y v u a b A} I rx ry h1 h2 _=>by
  subst h1 h2
  obtain ⟨t,rfl⟩:=rx
  obtain ⟨t',rfl⟩:=ry
  have q:=SeqAt.RcNeAt.int_int (A:=A) (s:=s) a t b t'
  rwa [Bool.beq_eq_decide_eq] at q
 eq:=fun {X pins σ H s x y v u a b A} I rx ry h1 h2 _=>by
  subst h1 h2
  obtain ⟨t,rfl⟩:=rx
  obtain ⟨t',rfl⟩:=ry
  have q:=SeqAt.EqAt.int_int (A:=A) (s:=s) a t b t'
  rwa [Bool.beq_eq_decide_eq] at q
theorem paired_get {α β:Type} {F:α->β->Prop}:∀{l1:List α} {l2:List β} {i:Nat} (_:Paired F l1 l2) (h1:i < l1.length) (h2:i < l2.length),F l1[i] l2[i]
 | _,_,_,.nil,h1,_=>absurd h1 (Nat.not_lt_zero _)
 | _,_,0,.cons r _,_,_=>r
 | _,_,i+1,.cons _ t,h1,h2=>paired_get (i:=i) t (Nat.lt_of_succ_lt_succ h1) (Nat.lt_of_succ_lt_succ h2)
theorem paired_inj {α β:Type} {F:α->β->Prop} (hF:∀a b x,F a x->F b x->a=b):∀{l1 l2:List α} {l:List β},Paired F l1 l->Paired F l2 l->l1=l2
 | _,_,_,.nil,.nil=>rfl
 | _,_,_,.cons r t,.cons r' t'=>by rw[hF _ _ _ r r',paired_inj hF t t']
theorem decide_lists {α:Type} [DecidableEq α] (as bs:List α) (h:as.length=bs.length):(List.range as.length).all (fun j=>decide (as[j]?=bs[j]?))=decide (as=bs):=by
 rw[Bool.eq_iff_iff,List.all_eq_true,decide_eq_true_iff]
 constructor
 ·intro q
  apply List.ext_getElem?
  intro i
  by_cases hi:i < as.length
  ·exact of_decide_eq_true (q i (List.mem_range.mpr hi))
  ·rw[List.getElem?_eq_none (by lia),List.getElem?_eq_none (by lia)]
 ·rintro rfl i _
  simp
section
variable {α:Type} [DecidableEq α] (k:Kind α)
theorem Kind.items {X:Cx} {pins:List (Addr×Obj)} {σ:St} {H:Hp} {s:Shared} {A:Around} (I:Inv X pins σ H s) (hA:A.units+k.d < cLine) {xs ys:List V} {us ws:List Value} {as bs:List α}
  (rx:Vals xs us) (ry:Vals ys ws) (ha:Paired (fun a x=>k.R X.K H x a) as xs) (hb:Paired (fun a x=>k.R X.K H x a) bs ys) :
  ∀j (h1:j < us.toArray.size) (h2:j < ws.toArray.size),SeqAt.EqAt A s us.toArray[j] ws.toArray[j] (decide (as[j]?=bs[j]?)):=fun j h1 h2=>by
 have l1:j < us.length:=by simpa using h1
 have l2:j < ws.length:=by simpa using h2
 have e1:=rx.length
 have e2:=ry.length
 have e3:=ha.length
 have e4:=hb.length
 obtain ⟨u,hu,ru⟩:=rx.get (i:=j) (x:=xs[j]'(by lia)) (by simp)
 obtain ⟨w,hw,rw'⟩:=ry.get (i:=j) (x:=ys[j]'(by lia)) (by simp)
 have q:=k.eq (A:=A) I ru rw' (paired_get ha (by lia) (by lia)) (paired_get hb (by lia) (by lia)) hA
 have eu:us.toArray[j]=u:=by
  have:=hu
  rw[List.getElem?_eq_getElem l1] at this
  simpa using this
 have ew:ws.toArray[j]=w:=by
  have:=hw
  rw[List.getElem?_eq_getElem l2] at this
  simpa using this
 rw[eu,ew,List.getElem?_eq_getElem (show j < as.length by lia),List.getElem?_eq_getElem (show j < bs.length by lia)]
 have e5:decide (some as[j]=some bs[j])=decide (as[j]=bs[j]):=by simp
 rw[e5]
 exact q
theorem tup_all {α:Type} [DecidableEq α] (as bs:List α) {n m:Nat} (h1:as.length=n) (h2:bs.length=m):((List.range (min n m)).all (fun j=>decide (as[j]?=bs[j]?)) && n == m)=decide (as=bs):=by
 subst h1 h2
 by_cases e:as.length=bs.length
 ·rw[show min as.length bs.length=as.length by lia,decide_lists as bs e]
  simp [e]
 ·have h1:(as.length == bs.length)=false:=by simpa using e
  rw[h1,Bool.and_false]
  exact (decide_eq_false fun z=>e (by rw[z])).symm
def kTup:Kind (List α) where
 R:=fun K H x as=>∃p xs,x=.ref p∧SqT K H p xs∧Paired (fun a x=>k.R K H x a) as xs
 d:=k.d+1
 inj:=fun {X pins σ H s x a b} I h1 h2=>by
  obtain ⟨p,xs,rfl,hp,pa⟩:=h1
  obtain ⟨q,ys,e,hq,pb⟩:=h2
  cases e
  have e:=I.tuple_inj hp hq
  subst e
  exact paired_inj (F:=fun a x=>k.R X.K H x a) (fun a b x=>k.inj I) pa pb
 rc:=fun {X pins σ H s x y v u a b A} I rx ry h1 h2 hA=>by
  obtain ⟨p,xs,rfl,hp,pa⟩:=h1
  obtain ⟨q,ys,rfl,hq,pb⟩:=h2
  cases rx
  cases ry
  obtain ⟨us,r1,t1,_⟩:=I.tuple hp
  obtain ⟨ws,r2,t2,_⟩:=I.tuple hq
  have z:=SeqAt.RcAt.tuples (A:=A) (e:=fun j=>decide (a[j]?=b[j]?)) (show s.heap.IsTuple p us.toArray from t1) (show s.heap.IsTuple q ws.toArray from t2) (by lia) (k.items (A:=A.in1) I (by show A.units+1+k.d < cLine;lia) r1 r2 pa pb)
  rwa [tup_all a b (by rw[pa.length,r1.length];simp) (by rw[pb.length,r2.length];simp)] at z
 ne:=fun {X pins σ H s x y v u a b A} I rx ry h1 h2 hA=>by
  obtain ⟨p,xs,rfl,hp,pa⟩:=h1
  obtain ⟨q,ys,rfl,hq,pb⟩:=h2
  cases rx
  cases ry
  obtain ⟨us,r1,t1,_⟩:=I.tuple hp
  obtain ⟨ws,r2,t2,_⟩:=I.tuple hq
  have z:=SeqAt.RcNeAt.tuples (A:=A) (e:=fun j=>decide (a[j]?=b[j]?)) (show s.heap.IsTuple p us.toArray from t1) (show s.heap.IsTuple q ws.toArray from t2) (by lia) (k.items (A:=A.in1) I (by show A.units+1+k.d < cLine;lia) r1 r2 pa pb)
  rwa [tup_all a b (by rw[pa.length,r1.length];simp) (by rw[pb.length,r2.length];simp)] at z
 eq:=fun {X pins σ H s x y v u a b A} I rx ry h1 h2 hA=>by
  obtain ⟨p,xs,rfl,hp,pa⟩:=h1
  obtain ⟨q,ys,rfl,hq,pb⟩:=h2
  cases rx
  cases ry
  by_cases e:p=q
  ·subst e
   have e:=I.tuple_inj hp hq
   subst e
   rw[paired_inj (F:=fun a x=>k.R X.K H x a) (fun a b x=>k.inj I) pa pb,decide_eq_true rfl]
   exact SeqAt.EqAt.same _
  ·obtain ⟨us,r1,t1,_⟩:=I.tuple hp
   obtain ⟨ws,r2,t2,_⟩:=I.tuple hq
   have z:=SeqAt.RcAt.tuples (A:=A) (e:=fun j=>decide (a[j]?=b[j]?)) (show s.heap.IsTuple p us.toArray from t1) (show s.heap.IsTuple q ws.toArray from t2) (by lia) (k.items (A:=A.in1) I (by show A.units+1+k.d < cLine;lia) r1 r2 pa pb)
   rw[tup_all a b (by rw[pa.length,r1.length];simp) (by rw[pb.length,r2.length];simp)] at z
   exact .of_refs e z
theorem lst_rc {X:Cx} {pins:List (Addr×Obj)} {σ:St} {H:Hp} {s:Shared} {p q:Addr} {xs ys:List V} {a b:List α} {A:Around} (I:Inv X pins σ H s) (hp:SqL X.K H p xs) (hq:SqL X.K H q ys)
  (pa:Paired (fun a x=>k.R X.K H x a) a xs) (pb:Paired (fun a x=>k.R X.K H x a) b ys) (hA:A.units+(k.d+1) < cLine) :
  SeqAt.RcAt A s (.ref p) (.ref q) (decide (a=b))∧SeqAt.RcNeAt A s (.ref p) (.ref q) (!decide (a=b)):=by
 obtain ⟨us,r1,t1,_⟩:=I.list hp
 obtain ⟨ws,r2,t2,_⟩:=I.list hq
 have l1:=r1.length
 have l2:=r2.length
 have l3:=pa.length
 have l4:=pb.length
 by_cases e:us.length=ws.length
 ·have it:=k.items (A:=A.in1) I (by show A.units+1+k.d < cLine;lia) r1 r2 pa pb
  have z:=SeqAt.RcAt.lists (A:=A) (e:=fun j=>decide (a[j]?=b[j]?)) t1.isList t2.isList (by simpa using e) (by lia) it
  have z2:=SeqAt.RcNeAt.lists (A:=A) (e:=fun j=>decide (a[j]?=b[j]?)) t1.isList t2.isList (by simpa using e) (by lia) it
  have e1:us.toArray.size=a.length:=by rw[List.size_toArray];lia
  rw[e1,decide_lists a b (by lia)] at z z2
  exact ⟨z,z2⟩
 ·have hne:¬a=b:=fun z=>e (by have:=congrArg List.length z;lia)
  rw[decide_eq_false hne]
  exact ⟨SeqAt.RcAt.lists_lengths t1.isList t2.isList (by simpa using e) (by lia),SeqAt.RcNeAt.lists_lengths t1.isList t2.isList (by simpa using e) (by lia)⟩
def kLst:Kind (List α) where
 R:=fun K H x as=>∃p xs,x=.ref p∧SqL K H p xs∧Paired (fun a x=>k.R K H x a) as xs
 d:=k.d+1
 inj:=fun {X pins σ H s x a b} I h1 h2=>by
  obtain ⟨p,xs,rfl,hp,pa⟩:=h1
  obtain ⟨q,ys,e,hq,pb⟩:=h2
  cases e
  have e:=I.list_inj hp hq
  subst e
  exact paired_inj (F:=fun a x=>k.R X.K H x a) (fun a b x=>k.inj I) pa pb
 rc:=fun {X pins σ H s x y v u a b A} I rx ry h1 h2 hA=>by
  obtain ⟨p,xs,rfl,hp,pa⟩:=h1
  obtain ⟨q,ys,rfl,hq,pb⟩:=h2
  cases rx
  cases ry
  exact (lst_rc k I hp hq pa pb hA).1
 ne:=fun {X pins σ H s x y v u a b A} I rx ry h1 h2 hA=>by
  obtain ⟨p,xs,rfl,hp,pa⟩:=h1
  obtain ⟨q,ys,rfl,hq,pb⟩:=h2
  cases rx
  cases ry
  exact (lst_rc k I hp hq pa pb hA).2
 eq:=fun {X pins σ H s x y v u a b A} I rx ry h1 h2 hA=>by
  obtain ⟨p,xs,rfl,hp,pa⟩:=h1
  obtain ⟨q,ys,rfl,hq,pb⟩:=h2
  cases rx
  cases ry
  by_cases e:p=q
  ·subst e
   have e:=I.list_inj hp hq
   subst e
   rw[paired_inj (F:=fun a x=>k.R X.K H x a) (fun a b x=>k.inj I) pa pb,decide_eq_true rfl]
   exact SeqAt.EqAt.same _
  ·exact .of_refs e (lst_rc k I hp hq pa pb hA).1
def Kind.via {β:Type} [DecidableEq β] (f:β->α) (fi:∀a b,f a=f b->a=b) (R':PySem.W.Frag->Hp->V->β->Prop) (im:∀{K H x b},R' K H x b->k.R K H x (f b)):Kind β where
 R:=R'
 d:=k.d
 inj:=fun I h1 h2=>fi _ _ (k.inj I (im h1) (im h2))
 rc:=fun {X pins σ H s x y v u a b A} I rx ry h1 h2 hA=>by
  have z:=k.rc (A:=A) I rx ry (im h1) (im h2) hA
  rwa [decide_eq_decide.mpr (show f a=f b↔a=b from ⟨fi a b,fun e=>by rw[e]⟩)] at z
 ne:=fun {X pins σ H s x y v u a b A} I rx ry h1 h2 hA=>by
  have z:=k.ne (A:=A) I rx ry (im h1) (im h2) hA
  rwa [decide_eq_decide.mpr (show f a=f b↔a=b from ⟨fi a b,fun e=>by rw[e]⟩)] at z
 eq:=fun {X pins σ H s x y v u a b A} I rx ry h1 h2 hA=>by
  have z:=k.eq (A:=A) I rx ry (im h1) (im h2) hA
  rwa [decide_eq_decide.mpr (show f a=f b↔a=b from ⟨fi a b,fun e=>by rw[e]⟩)] at z
end
def NumR (K:PySem.W.Frag) (H:Hp) (x:V) (n:Int×Int):Prop:=∃p,x=.ref p∧SqT K H p [.int n.1,.int n.2]
def kNum:Kind (Int×Int):=(kTup kInt).via (fun n=>[n.1,n.2]) (fun a b e=>by cases a;cases b;simp at e;rw[e.1,e.2]) NumR fun ⟨p,e,h⟩=>⟨p,_,e,h,.cons rfl (.cons rfl .nil)⟩
def kRow:Kind (List (Int×Int)):=kLst kNum
def rEqD (K:PySem.W.Frag):R2:=fun x y H Q=>∃(α:Type) (_:DecidableEq α) (k:Kind α) (a b:α),k.d<=50∧k.R K H x a∧k.R K H y b∧Q (.bl (decide (a=b))) H
def rNeD (K:PySem.W.Frag):R2:=fun x y H Q=>∃(α:Type) (_:DecidableEq α) (k:Kind α) (a b:α),k.d<=50∧k.R K H x a∧k.R K H y b∧Q (.bl (!decide (a=b))) H
theorem op_eqD {X:Cx} (hu:X.A.units+50 < cLine):OpR X (compareOp .Eq) (rEqD X.K):=by
 intro pins s σ H x y v u Q I rx ry h
 obtain ⟨α,_,k,a,b,hd,ha,hb,q⟩:=h
 exact k.rc (A:=X.A) I rx ry ha hb (by lia) _ _ _ _ ⟨.bl (decide (a=b)),H,I,rfl,q⟩
theorem op_neD {X:Cx} (hu:X.A.units+50 < cLine):OpR X (compareOp .NotEq) (rNeD X.K):=by
 intro pins s σ H x y v u Q I rx ry h
 obtain ⟨α,_,k,a,b,hd,ha,hb,q⟩:=h
 exact k.ne (A:=X.A) I rx ry ha hb (by lia) _ _ _ _ ⟨.bl (!decide (a=b)),H,I,rfl,q⟩
theorem hu50 {A:Around} {k:Nat} (hr:Room k A):A.units+50 < cLine:=by have:=hr.units;lia
def Inner (H:Hp) (p q:Addr):Prop:=∃a b c:Int,H p=some (.lst [.int a,.int b,.int c,.ref q])
def Upto (p:Addr) (H H':Hp):Prop:=(∀b o,H b=some o->b≠p->H' b=some o)∧∀q,Inner H p q->Inner H' p q
theorem Upto.refl {p:Addr} (H:Hp):Upto p H H:=⟨fun _ _ h _=>h,fun _ h=>h⟩
theorem Upto.trans {p:Addr} {H H1 H2:Hp} (a:Upto p H H1) (b:Upto p H1 H2):Upto p H H2:=⟨fun c o h n=>b.1 c o (a.1 c o h n) n,fun q h=>b.2 q (a.2 q h)⟩
theorem Inner.inj {H:Hp} {p q q':Addr} (h:Inner H p q) (h':Inner H p q'):q=q':=by
 obtain ⟨a,b,c,e⟩:=h
 obtain ⟨a',b',c',e'⟩:=h'
 rw[e] at e'
 have:=HO.lst.inj (Option.some.inj e')
 simp at this
 exact this.2.2.2
theorem Upto.set {p q:Addr} {H:Hp} {a b c a' b' c':Int} (h:H p=some (.lst [.int a,.int b,.int c,.ref q])):Upto p H (upd H p (.lst [.int a',.int b',.int c',.ref q])) :=
 ⟨fun b u h n=>by rw[upd_ne n];exact h,fun q' h'=>by
  rw[(Inner.inj ⟨a,b,c,h⟩ h').symm]
  exact ⟨a',b',c',upd_same⟩⟩
theorem Same.upto {p:Addr} {H H':Hp} (h:Same H H'):Upto p H H':=⟨fun b o e _=>h b o e,fun q ⟨a,b,c,e⟩=>⟨a,b,c,h _ _ e⟩⟩
theorem Same.new {H:Hp} {p:Addr} {o:HO} (h:H p=Option.none):Same H (upd H p o):=fun b u e=>by rw[upd_ne (ne_of_none e h)];exact e
theorem Same.sqt {K:PySem.W.Frag} {H H':Hp} {a:Addr} {xs:List V} (e:Same H H') (h:SqT K H a xs):SqT K H' a xs:=by
 rcases h with (h | ⟨o,h⟩) | h
 ·exact .inl (.inl (e _ _ h))
 ·exact .inl (.inr ⟨o,e _ _ h⟩)
 ·exact .inr h
theorem Same.num {K:PySem.W.Frag} {H H':Hp} {x:V} {n:Int×Int} (e:Same H H') (h:NumR K H x n):NumR K H' x n:=by obtain ⟨p,q,r⟩:=h;exact ⟨p,q,e.sqt r⟩
section
variable {σ:St} {H:Hp} {D:Ends}
theorem rd_start {t:TS} {σ0 σ:St} {D:Ends} {H:Hp} (e:σ0=σ) (h:t D σ H):t D σ0 H:=by rw[e];exact h
theorem rd_seq {t u:TS} (h:t { D with nx:=u D } σ H):tSeq t u D σ H:=h
theorem rd_next (h:D.nx σ H):tNext D σ H:=h
theorem rd_asg {te:TE} {g:TG} (h:te σ H fun x H1=>g x σ H1 D.nx):tAsg te g D σ H:=h
theorem rd_gname {i:Nat} {v:V} {Q:St->Hp->Prop} (h:Q (σ.set i (some v)) H):gName i v σ H Q:=h
theorem rd_ret {te:TE} (h:te σ H D.rt):tRet te D σ H:=h
theorem rd_ifS {c:TT} {t u:TS} (h:c σ H fun b H1=>if b=true then t D σ H1 else u D σ H1):tIfS c t u D σ H:=h
theorem rd_drop {te:TE} (h:te σ H fun _ H1=>D.nx σ H1):tDrop te D σ H:=h
theorem rd_par {i j:Nat} {ta:TA} (h:ta σ H fun vs H1=>∃v w,vs=[v,w]∧D.nx ((σ.set i (some v)).set j (some w)) H1):tPar i j ta D σ H:=h
theorem rd_augS {to ti te:TE} {tget:V->V->Hp->VK->Prop} {tip:TIp} {tset:TSet}
  (h:to σ H fun o H1=>ti σ H1 fun i H2=>tget o i H2 fun x H3=>te σ H3 fun y H4=>tip x y H4 fun z H5=>tset o i z H5 fun H6=>D.nx σ H6):tAugS to ti te tget tip tset D σ H:=h
theorem rd_ipI {f:Int->Int->Int} {i j:Int} {Q:VK} (h:Q (.int (f i j)) H):ipI f (.int i) (.int j) H Q:=⟨i,j,rfl,rfl,h⟩
theorem rd_for {wi:TI} {g:TG} {tb:TS} (h:wi σ H fun J H1=>∃W:Nat->Nat->St->Hp->Prop,(∃m,W 0 m σ H1)∧∀i m σ H,W i m σ H →
  (J.stop i H∧D.nx σ H)∨(J.go i H∧∃N:St->Hp->Prop,(∀σ' H',N σ' H'->∃m',m' < m∧W (i+1) m' σ' H')∧∀x H',J.yld i H x H'->g x σ H' fun σ2 H2=>tb { D with nx:=N,ct:=N,bk:=D.nx } σ2 H2)):tFor wi g tb D σ H:=h
variable {Q:VK} {QA:List V->Hp->Prop} {QB:Bool->Hp->Prop}
theorem rd_var {i:Nat} {v:V} (e:σ[i]?=some (some v)) (h:Q v H):tVar i σ H Q:=⟨v,e,h⟩
theorem rd_c {v:V} (h:Q v H):tC v σ H Q:=h
theorem rd_op {r:R2} {ta tb:TE} (h:ta σ H fun x H1=>tb σ H1 fun y H2=>r x y H2 Q):tOp r ta tb σ H Q:=h
theorem rd_un {r:V->Hp->VK->Prop} {ta:TE} (h:ta σ H fun x H1=>r x H1 Q):tUn r ta σ H Q:=h
theorem rd_I0 {g:Int->Int->V} {i j:Int} (h:Q (g i j) H):rI0 g (.int i) (.int j) H Q:=⟨i,j,rfl,rfl,h⟩
theorem rd_I {C:Int->Int->Prop} {g:Int->Int->V} {i j:Int} (hc:C i j) (h:Q (g i j) H):rI C g (.int i) (.int j) H Q:=⟨i,j,rfl,rfl,hc,h⟩
theorem rd_U {g:Int->V} {i:Int} (h:Q (g i) H):rU g (.int i) H Q:=⟨i,rfl,h⟩
theorem rd_eqI {i j:Int} (h:Q (.bl (decide (i=j))) H):rEq (.int i) (.int j) H Q:=⟨rfl,by
 have e:decide (V.int i=V.int j)=decide (i=j):=by simp
 rw[e];exact h⟩
theorem rd_neI {i j:Int} (h:Q (.bl (!decide (i=j))) H):rNe (.int i) (.int j) H Q:=⟨rfl,by
 have e:decide (V.int i=V.int j)=decide (i=j):=by simp
 rw[e];exact h⟩
theorem rd_eqS {i j:Str} (h:Q (.bl (decide (i=j))) H):rEq (.str i) (.str j) H Q:=⟨rfl,by
 have e:decide (V.str i=V.str j)=decide (i=j):=by simp
 rw[e];exact h⟩
theorem rd_neS {i j:Str} (h:Q (.bl (!decide (i=j))) H):rNe (.str i) (.str j) H Q:=⟨rfl,by
 have e:decide (V.str i=V.str j)=decide (i=j):=by simp
 rw[e];exact h⟩
theorem rd_test {t:TE} (h:t σ H fun x H'=>∃k,x=.bl k∧QB k H'):tTest t σ H QB:=h
theorem rd_tB {t:TE} (h:t σ H fun x H'=>∃k,x=.bl k∧QB k H'):tB t σ H QB:=h
theorem rd_and {t u:TT} (h:t σ H fun c H1=>if c=true then u σ H1 QB else QB false H1):tAnd t u σ H QB:=h
theorem rd_or {t u:TT} (h:t σ H fun c H1=>if c=true then QB true H1 else u σ H1 QB):tOr t u σ H QB:=h
theorem rd_not {t:TT} (h:t σ H fun c H1=>QB (!c) H1):tNot t σ H QB:=h
theorem rd_andV {t u:TE} (h:t σ H fun x H1=>∃c,x=.bl c∧if c=true then u σ H1 Q else Q (.bl false) H1):tAndV t u σ H Q:=h
theorem rd_orV {t u:TE} (h:t σ H fun x H1=>∃c,x=.bl c∧if c=true then Q (.bl true) H1 else u σ H1 Q):tOrV t u σ H Q:=h
theorem rd_notV {t:TE} (h:t σ H fun x H1=>∃c,x=.bl c∧Q (.bl (!c)) H1):tNotV t σ H Q:=h
theorem rd_yes (h:QB true H):tYes σ H QB:=h
theorem rd_nil (h:QA [] H):tNil σ H QA:=h
theorem rd_cons {ta:TE} {tr:TA} (h:ta σ H fun x H1=>tr σ H1 fun xs H2=>QA (x :: xs) H2):tCons ta tr σ H QA:=h
theorem rd_call {sp:Sp} {E:XK} {t:TA} (h:t σ H fun vs H1=>sp vs H1 Q E):tCall sp [] E t σ H Q:=by
 have e:(fun vs H1=>sp (vs++[]) H1 Q E)=fun vs H1=>sp vs H1 Q E:=by funext vs H1;rw[List.append_nil]
 show t σ H fun vs H1=>sp (vs++[]) H1 Q E
 rw[e];exact h
theorem rd_cb {r:List V->Hp->VK->Prop} {t:TA} (h:t σ H fun vs H1=>r vs H1 Q):tCB r t σ H Q:=h
theorem rd_ixT {K:PySem.W.Frag} {p:Addr} {xs:List V} {i:Int} {v:V} (hx:SqT K H p xs) (e:atI xs i=some v) (h:Q v H):rIxT K (.ref p) (.int i) H Q:=⟨p,xs,i,v,rfl,rfl,hx,e,h⟩
theorem rd_ixL {K:PySem.W.Frag} {p:Addr} {xs:List V} {i:Int} (hx:SqL K H p xs) {v:V} (e:atI xs i=some v) (h:Q v H):rIxL K (.ref p) (.int i) H Q:=⟨p,xs,i,v,rfl,rfl,hx,e,h⟩
theorem rd_getL {K:PySem.W.Frag} {p:Addr} {xs:List V} {i:Int} (hx:SqL K H p xs) {v:V} (e:atI xs i=some v) (h:Q v H):rGetL K (.ref p) (.int i) H Q:=⟨p,xs,i,v,rfl,rfl,hx,e,h⟩
theorem rd_setL {QH:Hp->Prop} {p:Addr} {xs:List V} {i:Int} {v:V} {j:Nat} {ys:List V} (hx:H p=some (.lst xs)) (e:ixN xs.length i=some j) (ey:xs.set j v=ys) (h:QH (upd H p (.lst ys))):rSetL (.ref p) (.int i) v H QH:=⟨p,xs,i,j,rfl,rfl,hx,e,by rw[ey];exact h⟩
theorem rd_gsub {to ti:TE} {t:TSet} {v:V} {QS:St->Hp->Prop} (h:to σ H fun o H1=>ti σ H1 fun i H2=>t o i v H2 fun H3=>QS σ H3):gSub to ti t v σ H QS:=h
theorem rd_gcons {t:TG} {u:TGs} {v:V} {r:List V} {QS:St->Hp->Prop} (h:t v σ H fun σ' H'=>u r σ' H' QS):gCons t u (v :: r) σ H QS:=⟨v,r,rfl,h⟩
theorem rd_gnil {QS:St->Hp->Prop} (h:QS σ H):gNil [] σ H QS:=⟨rfl,h⟩
theorem rd_gtup {K:PySem.W.Frag} {n:Nat} {t:TGs} {a:Addr} {xs:List V} {QS:St->Hp->Prop} (hx:SqT K H a xs) (hl:xs.length=n) (h:t xs σ H QS):gTup K n t (.ref a) σ H QS:=⟨a,xs,rfl,hx,hl,h⟩
theorem rd_sl {r:V->Option Int->Option Int->Hp->VK->Prop} {te:TE} {tl th:TO} (h:te σ H fun x H1=>tl σ H1 fun l H2=>th σ H2 fun u H3=>r x l u H3 Q):tSl r te tl th σ H Q:=h
theorem rd_noPart {QO:Option Int->Hp->Prop} (h:QO none H):tNoPart σ H QO:=h
theorem rd_part {t:TE} {QO:Option Int->Hp->Prop} (h:t σ H fun x H1=>∃i,x=.int i∧QO (some i) H1):tPart t σ H QO:=h
variable {R:It->Hp->Prop} {K:PySem.W.Frag}
theorem rd_iList {tl:TE} (h:tl σ H fun x H1=>∃a,x=.ref a∧(∃xs,SqL K H1 a xs)∧R (Itl K a) H1):iList K tl σ H R:=h
theorem rd_iTup {tl:TE} (h:tl σ H fun x H1=>∃a,x=.ref a∧(∃xs,SqT K H1 a xs)∧R (Itt K a) H1):iTup K tl σ H R:=h
theorem rd_iRng1 {ta:TA} (h:ta σ H fun vs H1=>∃j:Int,vs=[.int j]∧-(2^62)<=j∧j < 2^62∧R (Itr 0 j.toNat) H1):iRng1 ta σ H R:=h
theorem rd_comp {wi:TI} {k:Nat} {cap:List Nat} {g:TG} {tf:TT} {te:TE} {σ₀:St} (e:st0 k cap σ=σ₀) (h:wi σ H fun J H1=>CompW J σ₀ g tf te Q H1):tComp wi k cap g tf te σ H Q:=by
 unfold tComp;rw[e];exact h
theorem rd_turn {g:TG} {tf:TT} {te:TE} {x:V} {NY:V->Hp->Prop} {NN:Hp->Prop} (h:g x σ H fun σ2 H2=>tf σ2 H2 fun b H3=>if b=true then te σ2 H3 NY else NN H3):tTurn σ g tf te x H NY NN:=h
theorem rd_bm {T:String} {r:V->List V->Hp->VK->Prop} {to:TE} {t:TA} (h:to σ H fun x H1=>tyV K T x H1∧t σ H1 fun xs H2=>r x xs H2 Q):tBM K T r to t σ H Q:=h
def NewT (Q:VK) (xs:List V) (H:Hp):Prop:=xs.length<=sizeLine∧∀p,H p=none->Q (.ref p) (upd H p (.tup xs))
def NewL (Q:VK) (xs:List V) (H:Hp):Prop:=xs.length<=sizeLine∧∀p,H p=none->Q (.ref p) (upd H p (.lst xs))
theorem rd_tup {t:TA} (h:t σ H (NewT Q)):tTup t σ H Q:=h
theorem rd_lst {t:TA} (h:t σ H (NewL Q)):tLst t σ H Q:=h
theorem short_ok {n:Nat} (h:Nat.ble n 1000=true):n<=sizeLine:=Nat.le_of_lt (small1000 (Nat.le_of_ble_eq_true h))
theorem rd_newT {xs:List V} (h:∀p H',Same H H'->H' p=some (.tup xs)->Q (.ref p) H') (hl:Nat.ble xs.length 1000=true:=by rfl):NewT Q xs H :=
 ⟨short_ok hl,fun p hp=>h p _ (Same.new hp) upd_same⟩
theorem rd_newL {xs:List V} (h:∀p H',Same H H'->H p=none->H' p=some (.lst xs)->Q (.ref p) H') (hl:Nat.ble xs.length 1000=true:=by rfl):NewL Q xs H :=
 ⟨short_ok hl,fun p hp=>h p _ (Same.new hp) hp upd_same⟩
theorem iteNT {A B:Prop} (h:B):if (!true)=true then A else B:=iteF h
theorem iteNF {A B:Prop} (h:A):if (!false)=true then A else B:=iteT h
def WB (tb:TS) (D:Ends) (Pv:St->Hp->Prop) (μ:St->Hp->Nat) (n:Nat) (σ:St) (H:Hp):Prop:=∃N:St->Hp->Prop,(∀σ' H',N σ' H'->∃m',m' < n∧(m'=μ σ' H'∧Pv σ' H'))∧tb { D with nx:=N,ct:=N,bk:=D.nx } σ H
theorem rd_wb {tb:TS} {Pv:St->Hp->Prop} {μ:St->Hp->Nat} {n:Nat} (h:tb { D with nx:=fun σ' H'=>Pv σ' H'∧μ σ' H' < n,ct:=fun σ' H'=>Pv σ' H'∧μ σ' H' < n,bk:=D.nx } σ H):WB tb D Pv μ n σ H :=
 ⟨_,fun σ' H' ⟨p,l⟩=>⟨_,l,rfl,p⟩,h⟩
theorem while_i {c:TT} {tb:TS} (Pv:St->Hp->Prop) (μ:St->Hp->Nat) (h0:Pv σ H) (hs:∀σ H,Pv σ H->c σ H fun b H1=>if b=true then WB tb D Pv μ (μ σ H) σ H1 else D.nx σ H1):tWhile c tb D σ H:=by
 refine ⟨fun m σ H=>m=μ σ H∧Pv σ H,⟨_,rfl,h0⟩,?_⟩
 rintro m σ H ⟨rfl,p⟩
 exact hs σ H p
end
end L2
namespace L2
open PySem PySem.Spec PyProof.Rows Nm
def Bag (H:Hp) (p:Addr):Prop:=∃(q:Addr) (a b c:Int) (cs:List Int),H p=some (.lst [.int a,.int b,.int c,.ref q])∧H q=some (.lst (cs.map V.int))∧0<=a∧0<=c∧c<=(cs.length:Int)∧∀x∈cs,(0:Int)<=x
theorem bag_apart {H:Hp} {p q:Addr} {a b c:Int} {cs:List Int} (hp:H p=some (.lst [.int a,.int b,.int c,.ref q])) (hq:H q=some (.lst (cs.map V.int))):q≠p:=fun e=>by
 rw[e,hp] at hq
 have h:=HO.lst.inj (Option.some.inj hq)
 cases cs with
 | nil=>cases h
 | cons x1 cs=>cases cs with
  | nil=>cases h
  | cons x2 cs=>cases cs with
   | nil=>cases h
   | cons x3 cs=>cases cs with
    | nil=>cases h
    | cons x4 cs=>simp at h
theorem Bag.same {H H':Hp} {p:Addr} (h:Bag H p) (e:Same H H'):Bag H' p:=by obtain ⟨q,a,b,c,cs,h1,h2,r⟩:=h;exact ⟨q,a,b,c,cs,e _ _ h1,e _ _ h2,r⟩
theorem Upto.tup {H H':Hp} {p r:Addr} {xs:List V} (u:Upto p H H') (B:Bag H p) (h:H r=some (.tup xs)):H' r=some (.tup xs):=by
 obtain ⟨q,a,b,c,cs,h1,_⟩:=B
 exact u.1 r _ h fun e=>by rw[e,h1] at h;cases h
theorem Upto.other {H H':Hp} {p r:Addr} {o:HO} (u:Upto p H H') (n:r≠p) (h:H r=some o):H' r=some o:=u.1 r _ h n
theorem Bag.inner {H:Hp} {p:Addr} (h:Bag H p):∃q,Inner H p q∧∃xs,H q=some (.lst xs):=by obtain ⟨q,a,b,c,cs,h1,h2,_⟩:=h;exact ⟨q,⟨a,b,c,h1⟩,_,h2⟩
theorem Bag.upd {H:Hp} {p q r:Addr} {o:HO} (h:Bag H p) (hi:Inner H p q) (n1:r≠p) (n2:r≠q):Bag (L2.upd H r o) p:=by
 obtain ⟨q',a,b,c,cs,h1,h2,z⟩:=h
 have e:q'=q:=Inner.inj ⟨a,b,c,h1⟩ hi
 subst e
 exact ⟨q',a,b,c,cs,by rw[upd_ne n1.symm];exact h1,by rw[upd_ne n2.symm];exact h2,z⟩
theorem Inner.upd {H:Hp} {p q r:Addr} {o:HO} (hi:Inner H p q) (n1:r≠p):Inner (L2.upd H r o) p q:=by obtain ⟨a,b,c,h⟩:=hi;exact ⟨a,b,c,by rw[upd_ne n1.symm];exact h⟩
def sp_take:Sp:=fun vs H Q _=>∃p n,vs=[.ref p,.int n]∧Bag H p∧0 < n∧n < 2^64∧∀v H',0<=v->v < n->Bag H' p->Upto p H H'->Q (.int v) H'
inductive sp_bag (K:PySem.W.Frag) (vs:List V) (H:Hp) (Q:VK) (E9:XK):Prop
 | mk (a:Addr) (ns:List Int):vs=[.ref a]->SqL K H a (ns.map V.int)->ns.length<=63->(∀p H',H p=none->Bag H' p->Same H H'->Q (.ref p) H')->sp_bag K vs H Q E9
inductive sp_law (K:PySem.W.Frag) (vs:List V) (H:Hp) (Q:VK) (E9:XK):Prop
 | mk (a:Addr) (ns:List Int):vs=[.ref a]->SqL K H a (ns.map V.int)->ns.length<=63->(∀H',Q (.bl true) H')->sp_law K vs H Q E9
def sp_low:Sp:=fun vs H Q _=>∃t b,vs=[.int t,.int b]∧0 < b∧Sz 8999 b∧∀r H',Same H H'->H' r=some (.tup [.int (lo t b),.int (hi t b)])->Q (.ref r) H'
def sp_cd:Sp:=fun vs H Q _=>∃a b,vs=[.int a,.int b]∧Q (.int (g a b)) H
def fPlus (a b c d:Int):Int:=a*d+c*b
def fTimes (a _b c _d:Int):Int:=a*c
def sp_ar (K:PySem.W.Frag) (f:Int->Int->Int->Int->Int):Sp:=fun vs H Q _=>∃p q a b c d,vs=[.ref p,.ref q]∧SqT K H p [.int a,.int b]∧SqT K H q [.int c,.int d]∧0 < b∧0 < d∧Sz 4000 a∧Sz 4000 b∧Sz 4000 c∧Sz 4000 d ∧
 ∀r H',Same H H'->H' r=some (.tup [.int (lo (f a b c d) (b*d)),.int (hi (f a b c d) (b*d))])->Q (.ref r) H'
theorem paired_app {α β:Type} {F:α->β->Prop}:∀{l1 l1':List α} {l2 l2':List β},Paired F l1 l2->Paired F l1' l2'->Paired F (l1++l1') (l2++l2')
 | _,_,_,_,.nil,h=>h
 | _,_,_,_,.cons r t,h=>.cons r (paired_app t h)
end L2
namespace L2
open PySem PySem.Spec PyProof.Rows Nm
section
variable {X:Cx}
theorem call_all (hc:X.calm=true):CallR X (.builtin "all") (fun xs H Q=>∃(p:Addr) (bs:List Bool),xs=[.ref p]∧SqL X.K H p (bs.map V.bl)∧Q (.bl (bs.all id)) H):=by
 intro pins s σ H xs us Q I r h
 obtain ⟨p,bs,rfl,hp,q⟩:=h
 obtain ⟨u,rfl,ru⟩:=vals1 r
 cases ru
 obtain ⟨vs,rv,pl,hz⟩:=I.list hp
 have hb:PyProof.Rows.LSm.BoolsAre vs bs:=by
  clear q hp pl hz
  induction bs generalizing vs with
  | nil=>cases rv;exact .nil
  | cons b bs ih =>
   rw[List.map_cons] at rv
   cases rv with
   | cons r1 r2=>cases r1;exact .cons b (ih _ r2)
 have hlt:p < s.heap.objs.size:=by obtain ⟨_,e,_⟩:=pl.isList;exact Heap.lt_size e
 refine call_all_walk (wpAny_pyIter_list pl.isList ?_)
 refine ⟨s.heap.objs.size,[s.heap.objs.size,p],[s.heap.objs.size],vs.toArray.size,_,_,fun i=>(bs[i]?).getD true,rfl,Walks.list (A:=X.A.in1) (I.ok.hd hc) _ p (Nat.ne_of_lt hlt) vs.toArray,
  ⟨⟨_,Heap.get?_push_size _ rfl,rfl,rfl⟩,pl.isList.push _⟩,fun i v s' Q' E' hP hQ=>?_,fun h' tk hk=>?_⟩
 ·obtain ⟨b,e,rfl⟩:=hb.get i v (by simpa using hP)
  simp only[e,Option.getD_some] at hQ
  exact wpAny_truthy_bool hQ
 ·have e:((List.range vs.toArray.size).all fun i=>(bs[i]?).getD true)=bs.all id:=by
   rw[List.size_toArray,hb.length];exact PyProof.Rows.LSm.range_all bs
  rw[e]
  exact ⟨.bl _,H,I.kept (t':=tk) (PyProof.Rows.LSm.kept_iter hk),rfl,q⟩
end
section
variable {X:Cx}
theorem ix_listK (K:PySem.W.Frag) (hK:X.K=K):IxR X (rIxL K):=by subst hK;exact ix_list
theorem sl_listK (K:PySem.W.Frag) (hK:X.K=K):SlR X (rSlL K):=by subst hK;exact sl_list
end
theorem pa_consE {X:Cx} {e e':Expr} {es:List Expr} {te:TE} {t:TA} (h:e=e') (ha:PE X e' te) (hr:PA X es t) (hs:∀l,starEach (e' :: l) X.env=(false,eval e' X.env) :: starEach l X.env:=by intro _;rfl):PA X (e :: es) (tCons te t):=by subst h;exact pa_cons ha hr (hs _)
section
variable {X:Cx} {pos:Pos}
theorem Inv.big2 {pins:List (Addr×Obj)} {σ:St} {H:Hp} {s:Shared} (I:Inv X pins σ H s):sysModules < s.heap.objs.size:=by
 have h:mainGlobals < s.heap.objs.size:=(I.mod.glob.keeps I.bk).lt
 exact Nat.lt_trans (by decide) h
theorem dk_none {P:Program} {w:World} {H:Hp} (h:Heap) (hb:sysModules < h.objs.size):ObjOk P w H (h.push { cls:=.type "dict",data:=.dict #[] }) h.objs.size (.dK []) :=
 ⟨Nat.zero_le _,beq_eq_false_iff_ne.mpr (Ne.symm (Nat.ne_of_lt hb)),[],.nil,Heap.DictOf.new h⟩
def tDNew:TE:=fun _ H Q=>∀p,H p=none->Q (.ref p) (upd H p (.dK []))
theorem pe_dnew:PE X (.Dict [] [] pos) tDNew:=fun pins s σ H Q I h =>
 wpAny_Dict_empty ⟨.ref s.heap.objs.size,_,I.laid (a:=s.heap.objs.size) (o:=.dK []) (t':=s.toks) (fun _ _ q=>Heap.get?_push_of_some _ q) (Nat.le_refl _) (dk_none s.heap I.big2),rfl,h _ (I.hok.fresh (Nat.le_refl _))⟩
end
section
variable {σ:St} {H:Hp} {D:Ends} {Q:VK}
theorem rd_dnew (h:∀p H',Same H H'->H' p=some (.dK [])->Q (.ref p) H'):tDNew σ H Q:=fun p hp=>h p _ (Same.new hp) upd_same
theorem rd_append {l:Addr} {xs:List V} {y:V} (hl:H l=some (.lst xs)) (hz:xs.length < sizeLine) (h:Q .non (upd H l (.lst (xs++[y])))):rAppend (.ref l) [y] H Q:=⟨l,xs,y,rfl,rfl,hl,hz,h⟩
theorem rd_cat {l b:Addr} {xs zs:List V} (h1:H l=some (.lst xs)) (h2:H b=some (.lst zs)) (hz:xs.length+zs.length<=sizeLine) (h:∀p H',Same H H'->H p=none->H' p=some (.lst (xs++zs))->Q (.ref p) H'):rCat (.ref l) (.ref b) H Q :=
 ⟨l,b,xs,zs,rfl,rfl,h1,h2,hz,fun p hp=>h p _ (Same.new hp) hp upd_same⟩
theorem rd_slL {K:PySem.W.Frag} {a:Addr} {xs:List V} {lo hi:Option Int} (h1:SqL K H a xs) (h:∀p H',Same H H'->H p=none->H' p=some (.lst (cutV xs lo hi))->Q (.ref p) H'):rSlL K (.ref a) lo hi H Q :=
 ⟨a,xs,rfl,h1,fun p hp=>h p _ (Same.new hp) hp upd_same⟩
theorem atI_some {α:Type} {xs:List α} {i:Int} (h0:0<=i) (h1:i < xs.length):∃v,atI xs i=some v∧v∈xs∧xs[i.toNat]?=some v:=by
 have hj:i.toNat < xs.length:=by lia
 refine ⟨xs[i.toNat],?_,List.getElem_mem hj,by simp [hj]⟩
 have:=atI_nat (xs:=xs) (j:=i.toNat) (v:=xs[i.toNat]) (by simp [hj])
 rwa [Int.toNat_of_nonneg h0] at this
end
inductive Kn (H:Hp):V->Prop where
 | non:Kn H .non
 | bl (b:Bool):Kn H (.bl b)
 | int (i:Int):Kn H (.int i)
 | str (x:Str):Kn H (.str x)
 | lst {a:Addr} {xs:List V} (e:H a=some (.lst xs)):Kn H (.ref a)
 | tup {a:Addr} {xs:List V} (e:H a=some (.tup xs)):Kn H (.ref a)
 | dic {a:Addr} {kvs:List (Key×V)} (e:H a=some (.dK kvs)):Kn H (.ref a)
theorem Kn.same {H H':Hp} {x:V} (h:Kn H x) (e:Same H H'):Kn H' x:=by
 cases h with
 | non=>exact .non
 | bl b=>exact .bl b
 | int i=>exact .int i
 | str x=>exact .str x
 | lst q=>exact .lst (e _ _ q)
 | tup q=>exact .tup (e _ _ q)
 | dic q=>exact .dic (e _ _ q)
theorem paired_mem {α β:Type} {F:α->β->Prop}:∀{l1:List α} {l2:List β} {y:β},Paired F l1 l2->y∈l2->∃x∈l1,F x y
 | _,_,_,.nil,h=>nomatch h
 | _,_,_,.cons r t,h=>by
  rcases List.mem_cons.mp h with rfl | h
  ·exact ⟨_,List.mem_cons_self,r⟩
  ·obtain ⟨x,hx,q⟩:=paired_mem t h
   exact ⟨x,List.mem_cons_of_mem _ hx,q⟩
theorem paired_at {α β:Type} {F:α->β->Prop} {l1:List α} {l2:List β} {i:Nat} {y:β} (h:Paired F l1 l2) (e:l2[i]?=some y):∃x,l1[i]?=some x∧F x y:=by
 have hl:=h.length
 have hi:i < l2.length:=(List.getElem?_eq_some_iff.mp e).1
 refine ⟨l1[i]'(by lia),by simp,?_⟩
 have:=paired_get h (i:=i) (by lia) hi
 have e2:l2[i]=y:=(List.getElem?_eq_some_iff.mp e).2
 rwa [e2] at this
def NumOk (n:Int×Int):Prop:=0 < n.2∧Int.gcd n.1 n.2=1∧Sz 8000 n.1∧Sz 8000 n.2
end L2
namespace L2
open PySem PySem.Spec PyProof.Rows Nm
theorem take_snoc {α:Type} {l:List α} {i:Nat} {v:α} (h:l[i]?=some v):l.take (i+1)=l.take i++[v]:=by rw[List.take_add_one,h];rfl
theorem Same.after {H H':Hp} {r:Addr} {o:HO} (s:Same H H') (h:H r=Option.none):Same H (upd H' r o):=fun b u e=>by rw[upd_ne (ne_of_none e h)];exact s b u e
theorem Upto.after {H H':Hp} {b r:Addr} {o:HO} (s:Upto b H H') (h:H r=Option.none):Upto b H (upd H' r o):=⟨fun c u e n=>by rw[upd_ne (ne_of_none e h)];exact s.1 c u e n,fun q hi=>(s.2 q hi).upd fun z=>by obtain ⟨_,_,_,e⟩:=hi;rw[← z,h] at e;cases e⟩
theorem Upto.same {H H' H'':Hp} {b:Addr} (s:Upto b H H') (e:Same H' H''):Upto b H H'':=s.trans e.upto
end L2
namespace L2
open PySem PySem.Spec PyProof.Rows Nm
end L2
namespace L2
open PySem PySem.Spec PyProof.Rows Nm
theorem app_all {α:Type} {Pr:α->Prop} {l:List α} {a:α} (h:∀n∈l,Pr n) (ha:Pr a):∀n∈l++[a],Pr n:=fun n hn=>by
 rcases List.mem_append.mp hn with hn | hn
 ·exact h n hn
 ·have e:n=a:=by simpa using hn
  rw[e];exact ha
end L2
namespace L2
open PySem PySem.Spec PyProof.Rows Nm
section
variable {X:Cx} {pins:List (Addr×Obj)} {σ:St} {H:Hp} {s:Shared}
theorem Inv.moved {h':Heap} {ch:List Addr} {g':Array GenState} {d':Drawn} {t':Nat} (I:Inv X pins σ H s) (fx:∀b∈ch,FpOk X pins H b) (up:∀b o,b∉ch->s.heap.get? b=some o->h'.get? b=some o) (hg:AllBare g') :
  Inv X pins σ H { s with heap:=h',gens:=g',drawn:=d',toks:=t' }:=by
 have nx:∀b o,H b=some o->b∉ch:=fun b o e hb=>by have:=(fx b hb).1;rw[this] at e;cases e
 refine I.step (ch:=ch) (fun b hb=>?_) (fun b o _ _ hb e _=>up b o hb e) (fun b o _ _ hb e _=>⟨o.slots,up b o hb e⟩) (fun b o hb e n=>n) (fun b o hb e=>⟨o,up b o hb e⟩) (fun b q e=>e) (fun b o q e=>e) (fun b q e=>⟨#[],by rw[e];simp⟩) (fun m hm=>?_) (fun b o e=>?_) hg
 ·obtain ⟨_,f1,_,f3,f4,f5⟩:=fx b hb
  exact ⟨f3,f1,f4,f5⟩
 ·obtain ⟨o,es,ep,ho,r⟩:=hm
  exact ⟨o,es,ep,up _ o (fun z=>(fx _ z).2.1 rfl) ho,r⟩
 ·refine (I.hok b o e).stay (fun c v' hc q=>up c v' ?_ q) (fun c q=>q) fun c xs q=>q
  rcases hc with rfl | hc
  ·exact nx _ _ e
  ·exact nx _ _ hc
theorem Inv.track {p:Addr} {o:HO} (I:Inv X pins σ H s) (fp:FpOk X pins H p) (new:ObjOk X.prog X.w (upd H p o) s.heap p o):Inv X pins σ (upd H p o) s:=by
 have nt:∀{b:Addr} {u:HO},H b=some u->b≠p:=fun e z=>by rw[z,fp.1] at e;cases e
 refine I.step (h':=s.heap) (g':=s.gens) (d':=s.drawn) (t':=s.toks) (ch:=[p]) (fun b hb=>?_) (fun b o _ _ _ e _=>e) (fun b o _ _ _ e _=>⟨o.slots,e⟩) (fun b o hb e n=>?_) (fun b o _ e=>⟨o,e⟩) (fun b q e=>by rw[upd_ne (nt e)];exact e) (fun b o q e=>by rw[upd_ne (nt e)];exact e)
  (fun b q e=>⟨#[],by rw[upd_ne (nt e),e];simp⟩) (fun m hm=>hm) (fun b u e=>?_) I.bare
 ·have e:b=p:=by simpa using hb
  subst e
  obtain ⟨_,f1,_,f3,f4,f5⟩:=fp
  exact ⟨f3,f1,f4,f5⟩
 ·rw[upd_ne fun z=>hb (by simp [z])];exact n
 ·by_cases hb:b=p
  ·subst hb;rw[upd_same] at e;cases e;exact new
  ·rw[upd_ne hb] at e
   exact (I.hok b u e).stay (fun c v _ q=>q) (fun c q=>by rw[upd_ne (nt q)];exact q) fun c xs q=>by rw[upd_ne (nt q)];exact q
end
end L2
namespace Nm
end Nm
namespace L2
open PySem PySem.Spec PyProof.Rows Nm
def RowK (K:PySem.W.Frag) (H:Hp) (p:Addr) (ns:List (Int×Int)):Prop:=∃xs,H p=some (.lst xs)∧Paired (fun n x=>NumR K H x n) ns xs
theorem RowK.same {K:PySem.W.Frag} {H H':Hp} {p:Addr} {ns:List (Int×Int)} (h:RowK K H p ns) (e:Same H H'):RowK K H' p ns:=by obtain ⟨xs,g,q⟩:=h;exact ⟨xs,e _ _ g,Paired.imp' (fun _ _ z=>e.num z) q⟩
theorem RowK.kind {K:PySem.W.Frag} {H:Hp} {p:Addr} {ns:List (Int×Int)} (h:RowK K H p ns):kRow.R K H (.ref p) ns:=by obtain ⟨xs,g,q⟩:=h;exact ⟨p,xs,rfl,SqL.of g,q⟩
def rIsTK (K:PySem.W.Frag) (T:String):V->Hp->VK->Prop:=fun x H Q=>rIsT K T x H Q∨∃a xs b,x=.ref a∧SqT K H a xs∧PySem.W.kitOne K (.type "tuple") (.type T)=some b∧Q (.bl b) H
def sp_isnumK (K:PySem.W.Frag):Sp:=fun vs H Q _=>∃x n,vs=[x]∧NumR K H x n∧NumOk n∧∀H',Same H H'->Q (.bl true) H'
inductive sp_isrowK (K:PySem.W.Frag) (vs:List V) (H:Hp) (Q:VK) (E9:XK):Prop
 | mk (p:Addr) (ns:List (Int×Int)):vs=[.ref p,.int ns.length]->RowK K H p ns->ns.length<=1000->(∀n∈ns,NumOk n)->(∀H',Same H H'->Q (.bl true) H')->sp_isrowK K vs H Q E9
theorem pe_isTK {X:Cx} {a:Expr} {ta:TE} {pos:Pos} {c:Str} {T:String} {p p2:Pos} (hg:Gl X "isinstance") (hm:X.mg "isinstance"=none) (hb:bootBuiltins c=some (.type T)) (hmc:X.mg c=none) (ha:PE X a ta) (hgc:Gl X c:=by rfl) (hn:c≠"__name__":=by decide)
  (hd:(c == ("__debug__":Str))=false:=by decide) (he:starEach [a,.Name c p2] X.env=[(false,eval a X.env),(false,eval (.Name c p2) X.env)]:=by rfl)
  (hpl:(backTo pos (starEach [.Name c p2] X.env)).any (·.1)=false:=by rfl) (he2:starEach [.Name c p2] X.env=[(false,eval (.Name c p2) X.env)]:=by rfl):PE X (.Call (.Name "isinstance" p) [a,.Name c p2] [] pos) (tUn (rIsTK X.K T) ta):=by
 intro pins s σ H Q I h
 refine wpAny_Call_Name_kw (ld_blt I hg hm PyProof.Rows.boot_isinstance ?_)
 have hA:PA X [a,.Name c p2] (tCons ta (tCons (tC (.ty T)) tNil)):=pa_cons ha (pa_cons (pe_bltn hgc hmc hb rfl hn hd) pa_nil he2) (by rw[he,he2])
 have hq:tCons ta (tCons (tC (.ty T)) tNil) σ H (fun vs H1=>∃x,vs=[x,.ty T]∧rIsTK X.K T x H1 Q):=by
  show ta σ H fun x H1=>∃x',[x,V.ty T]=[x',V.ty T]∧rIsTK X.K T x' H1 Q
  have e:(fun x H1=>∃x',[x,V.ty T]=[x',V.ty T]∧rIsTK X.K T x' H1 Q)=fun x H1=>rIsTK X.K T x H1 Q:=by
   funext x H1
   apply propext
   constructor
   ·rintro ⟨x',e,q⟩;cases e;exact q
   ·intro q;exact ⟨x,rfl,q⟩
  rw[e]
  exact h
 refine PyProof.Rows.callWith_builtin1 (thn (hA pos pins s σ H _ I hq) fun us s1 ⟨vs,H1,I1,r1,x,e,q1⟩=>?_) (by rw[he,he2]) hpl
 subst e
 obtain ⟨u,w',rfl,ru,rt⟩:=vals2 r1
 cases rt
 rcases q1 with ⟨t,bb,ty,ek,q⟩ | ⟨ad,xs,bb,rfl,hs,ek,q⟩
 ·exact isinst_ok I1 ru ty ek fun tk=>⟨.bl bb,H1,I1.tok tk,rfl,q⟩
 ·cases ru
  obtain ⟨its,_,⟨o,g1,g2,_⟩,_⟩:=I1.tuple hs
  exact PySem.W.kia_one PySem.W.kitx_tuple I1.kIn ⟨o,g1,g2⟩ ek (fun z=>nomatch z) fun tk=>⟨.bl bb,H1,I1.tok tk,rfl,q⟩
end L2
namespace L2
open PySem PySem.Spec PyProof.Rows Nm
theorem rd_rep {H:Hp} {Q:VK} {l:Addr} {k:Nat} {x:V} (h:H l=some (.lst [x])) (hk:k<=1000) (q:∀p H',Same H H'->H p=none->H' p=some (.lst (List.replicate k x))->Q (.ref p) H'):rRep (.ref l) (.int k) H Q :=
 ⟨l,k,[x],rfl,rfl,h,by lia,by lia,Nat.le_of_lt (small1000 (by simp;lia)),fun p hp=>q p _ (Same.new hp) hp (by rw[upd_same];simp)⟩
theorem cut_to {xs:List V} {k:Nat} (h:k<=xs.length):cutV xs none (some (k:Int))=xs.take k:=by
 unfold cutV
 rw[HT.sIx_none,HT.sIx_nat,Nat.min_eq_left h]
 simp
theorem cut_from {xs:List V} {k:Nat}:cutV xs (some (k:Int)) none=xs.drop k:=by
 unfold cutV
 rw[HT.sIx_none,HT.sIx_nat]
 by_cases h:k<=xs.length
 ·rw[Nat.min_eq_left h,List.take_of_length_le (by simp)]
 ·rw[Nat.min_eq_right (by lia),List.drop_of_length_le (by lia),List.drop_of_length_le (by lia)]
  simp
theorem ixN_nat {n a:Nat} (h:a < n):ixN n (a:Int)=some a:=by
 unfold ixN
 rw[if_pos (by lia),if_pos (by lia),Int.toNat_natCast]
theorem cut_upto {xs:List V} {k:Nat}:cutV xs none (some (k:Int))=xs.take k:=by
 by_cases h:k<=xs.length
 ·exact cut_to h
 ·unfold cutV
  rw[HT.sIx_none,HT.sIx_nat,Nat.min_eq_right (by lia),List.take_of_length_le (by simp),List.take_of_length_le (by lia)]
  rfl
theorem paired_take {α β:Type} {F:α->β->Prop}:∀{l1:List α} {l2:List β} (_:Paired F l1 l2) (k:Nat),Paired F (l1.take k) (l2.take k)
 | _,_,.nil,k=>by simp;exact .nil
 | _,_,.cons h r,0=>.nil
 | _,_,.cons h r,k+1=>.cons h (paired_take r k)
end L2
namespace L2
open PySem PySem.Spec PyProof.Rows Nm
def rListOf (K:PySem.W.Frag):List V->Hp->VK->Prop:=fun xs H Q=>∃p ys,xs=[.ref p]∧(SqL K H p ys∨SqT K H p ys)∧∀l,H l=none->Q (.ref l) (upd H l (.lst ys))
theorem call_list_ofK {X:Cx} (K:PySem.W.Frag) (hK:X.K=K):CallR X (.type "list") (rListOf K):=by subst hK;exact call_list_of
theorem Same.none {H H':Hp} {l:Addr} (s:Same H H') (h:H' l=Option.none):H l=Option.none:=by
 cases e:H l with
 | none=>rfl
 | some o=>have:=s _ _ e;rw[h] at this;cases this
def GridK (K:PySem.W.Frag) (H:Hp) (p:Addr) (rows:List (List (Int×Int))):Prop:=∃xs,H p=some (.lst xs)∧Paired (fun ns x=>∃q,x=V.ref q∧RowK K H q ns) rows xs
theorem sz_mil {b:Int} (h:b.natAbs<=1000000):Sz 20 b:=Nat.lt_of_le_of_lt h (by decide)
theorem Upto.none {H H':Hp} {b l:Addr} (u:Upto b H H') (B:Bag H' b) (h:H' l=Option.none):H l=Option.none:=by
 cases e:H l with
 | none=>rfl
 | some o =>
  by_cases z:l=b
  ·obtain ⟨_,_,_,_,_,e2,_⟩:=B
   rw[← z,h] at e2
   cases e2
  ·have:=u.1 l o e z
   rw[h] at this
   cases this
inductive sp_isgridK (K:PySem.W.Frag) (vs:List V) (H:Hp) (Q:VK) (E9:XK):Prop
 | mk (p:Addr) (rows:List (List (Int×Int))) (m:Nat):vs=[.ref p,.int rows.length,.int m]->GridK K H p rows->rows.length<=1000->m<=1000->((∀ns∈rows,ns.length=m∧∀n∈ns,NumOk n))->(∀H',Same H H'->Q (.bl true) H')->sp_isgridK K vs H Q E9
end L2
namespace Nm
def nm (q:Rat):Int×Int:=(q.num,(q.den:Int))
theorem nm_pos (q:Rat):0 < (nm q).2:=by have:=q.den_pos;show 0 < (q.den:Int);lia
theorem nm_gcd (q:Rat):Int.gcd (nm q).1 (nm q).2=1:=q.reduced
theorem nm_inj {p q:Rat} (h:nm p=nm q):p=q:=by
 have h1:p.num=q.num:=congrArg Prod.fst h
 have h2:(p.den:Int)=q.den:=congrArg Prod.snd h
 exact Rat.ext h1 (by lia)
theorem num_val (q:Rat):(q.num:Rat)=q*(q.den:Rat):=by
 have h:=Rat.num_divInt_den q
 rw[Rat.divInt_eq_div] at h
 have hd:((q.den:Int):Rat)≠0:=by
  intro z
  have z:=Rat.intCast_eq_zero_iff.mp z
  have:=q.den_pos
  lia
 have e:((q.den:Int):Rat)=(q.den:Rat):=Rat.intCast_natCast _
 calc (q.num:Rat)=(q.num:Rat) / ((q.den:Int):Rat)*((q.den:Int):Rat):=(Rat.div_mul_cancel hd).symm
  _=q*(q.den:Rat):=by rw[h,e]
theorem nm_of {a b:Int} {q:Rat} (hb:0 < b) (hg:Int.gcd a b=1) (e:q*(b:Rat)=(a:Rat)):(a,b)=nm q:=by
 have h1:a*(q.den:Int)=q.num*b:=by
  apply Rat.intCast_inj.mp
  rw[Rat.intCast_mul,Rat.intCast_mul,← e,num_val,Rat.intCast_natCast]
  grind
 obtain ⟨e1,e2⟩:=uniq hb (nm_pos q) hg (nm_gcd q) h1
 exact Prod.ext e1 e2
theorem lohi_nm {t b:Int} {q:Rat} (hb:0 < b) (e:q*(b:Rat)=(t:Rat)):(lo t b,hi t b)=nm q:=by
 refine nm_of (hi_pos hb) (lohi_gcd (by lia)) ?_
 have h:=lohi_cross t b
 have hb':(b:Rat)≠0:=fun z=>by have:=Rat.intCast_eq_zero_iff.mp z;lia
 have h2:((lo t b:Int):Rat)*(b:Rat)=(t:Rat)*((hi t b:Int):Rat):=by rw[← Rat.intCast_mul,h,Rat.intCast_mul]
 rw[← e] at h2
 have h3:(q*((hi t b:Int):Rat) - ((lo t b:Int):Rat))*(b:Rat)=0:=by grind
 rcases Rat.mul_eq_zero.mp h3 with h4 | h4
 ·grind
 ·exact absurd h4 hb'
def Fr (M V:Nat) (q:Rat):Prop:=∃z:Int,q*(M:Rat)=(z:Rat)∧z.natAbs<=V*M
theorem Fr.mono {M V V':Nat} {q:Rat} (h:Fr M V q) (l:V<=V'):Fr M V' q:=by obtain ⟨z,e,b⟩:=h;exact ⟨z,e,Nat.le_trans b (Nat.mul_le_mul_right _ l)⟩
theorem Fr.scale {M V:Nat} {q:Rat} (h:Fr M V q) (k:Nat):Fr (M*k) V q:=by
 obtain ⟨z,e,b⟩:=h
 refine ⟨z*k,?_,?_⟩
 ·rw[Rat.natCast_mul,Rat.intCast_mul,← e,Rat.intCast_natCast,Rat.mul_assoc]
 ·rw[Int.natAbs_mul,Int.natAbs_natCast,← Nat.mul_assoc]
  exact Nat.mul_le_mul_right _ b
theorem Fr.dvd {M N V:Nat} {q:Rat} (h:Fr M V q) (d:M∣N):Fr N V q:=by obtain ⟨k,rfl⟩:=d;exact h.scale k
theorem Fr.add {M V W:Nat} {p q:Rat} (h:Fr M V p) (h':Fr M W q):Fr M (V+W) (p+q):=by
 obtain ⟨z,e,b⟩:=h
 obtain ⟨z',e',b'⟩:=h'
 refine ⟨z+z',by rw[Rat.intCast_add,← e,← e',Rat.add_mul],?_⟩
 rw[Nat.add_mul]
 have:=Int.natAbs_add_le z z'
 lia
theorem Fr.mul {M N V W:Nat} {p q:Rat} (h:Fr M V p) (h':Fr N W q):Fr (M*N) (V*W) (p*q):=by
 obtain ⟨z,e,b⟩:=h
 obtain ⟨z',e',b'⟩:=h'
 refine ⟨z*z',?_,?_⟩
 ·rw[Rat.natCast_mul,Rat.intCast_mul,← e,← e'];grind
 ·rw[Int.natAbs_mul]
  calc z.natAbs*z'.natAbs<=(V*M)*(W*N):=Nat.mul_le_mul b b'
   _=V*W*(M*N):=by rw[Nat.mul_assoc,Nat.mul_left_comm M,← Nat.mul_assoc]
theorem Fr.zero {M V:Nat}:Fr M V 0:=⟨0,by simp,by simp⟩
theorem Fr.int {M V:Nat} {i:Int} (h:i.natAbs<=V):Fr M V (i:Rat):=⟨i*M,by rw[Rat.intCast_mul,Rat.intCast_natCast],by rw[Int.natAbs_mul,Int.natAbs_natCast];exact Nat.mul_le_mul_right _ h⟩
theorem Fr.den {M V:Nat} {q:Rat} (h:Fr M V q):(q.den:Int)∣(M:Int):=by
 obtain ⟨z,e,b⟩:=h
 have h1:q.num*(M:Int)=z*(q.den:Int):=by
  apply Rat.intCast_inj.mp
  rw[Rat.intCast_mul,Rat.intCast_mul,← e,num_val,Rat.intCast_natCast,Rat.intCast_natCast]
  grind
 have h2:(q.den:Int)∣q.num*(M:Int):=⟨z,by rw[h1,Int.mul_comm]⟩
 exact dvd_of_cop (by rw[Int.gcd_comm];exact nm_gcd q) h2
theorem Fr.den_le {M V:Nat} {q:Rat} (h:Fr M V q) (hM:0 < M):q.den<=M:=Nat.le_of_dvd hM (Int.natCast_dvd_natCast.mp h.den)
theorem Fr.num_le {M V:Nat} {q:Rat} (h:Fr M V q) (hM:0 < M):q.num.natAbs<=V*M:=by
 have hd:=h.den
 obtain ⟨z,e,b⟩:=h
 obtain ⟨k,hk⟩:=Int.natCast_dvd_natCast.mp hd
 have hk0:k≠0:=fun z=>by rw[z,Nat.mul_zero] at hk;lia
 have h1:z=q.num*(k:Int):=by
  apply Rat.intCast_inj.mp
  rw[Rat.intCast_mul,← e,num_val,Rat.intCast_natCast,hk,Rat.natCast_mul]
  grind
 rw[h1] at b
 exact Nat.le_trans (natAbs_mul_le (by lia)) b
theorem Fr.own (q:Rat) {V:Nat} (h:q.num.natAbs<=V):Fr q.den V q:=⟨q.num,(num_val q).symm,Nat.le_trans h (Nat.le_mul_of_pos_right _ q.den_pos)⟩
theorem Fr.sz {M V k j:Nat} {q:Rat} (h:Fr M V q) (hM:0 < M) (h1:M<=2^k) (h2:V<=2^j):Sz (j+k+1) (nm q).1∧Sz (k+1) (nm q).2:=by
 constructor
 ·show q.num.natAbs < 2^(j+k+1)
  have h3:=h.num_le hM
  have h4:V*M<=2^j*2^k:=Nat.mul_le_mul h2 h1
  rw[Nat.pow_succ,Nat.pow_add]
  have:=Nat.two_pow_pos (j+k)
  rw[Nat.pow_add] at this
  lia
 ·show (q.den:Int).natAbs < 2^(k+1)
  have h3:=h.den_le hM
  rw[Int.natAbs_natCast,Nat.pow_succ]
  have:=Nat.two_pow_pos k
  lia
end Nm
namespace Nm
def Dr (W:Nat) (x:Rat):Prop:=x.num.natAbs<=W∧x.den<=W
def prodN:List Nat->Nat
 | []=>1
 | a :: r=>a*prodN r
theorem prodN_pos:∀{l:List Nat},(∀a∈l,0 < a)->0 < prodN l
 | [],_=>Nat.one_pos
 | a :: r,h=>Nat.mul_pos (h a (.head _)) (prodN_pos fun b hb=>h b (.tail _ hb))
theorem prodN_dvd:∀{l:List Nat} {a:Nat},a∈l->a∣prodN l
 | b :: r,a,h=>by
  rcases List.mem_cons.mp h with rfl | h
  ·exact Nat.dvd_mul_right ..
  ·exact Nat.dvd_trans (prodN_dvd h) (Nat.dvd_mul_left ..)
theorem prodN_le {k:Nat}:∀{l:List Nat},(∀a∈l,a<=2^k)->prodN l<=2^(k*l.length)
 | [],_=>by simp [prodN]
 | a :: r,h=>by
  rw[List.length_cons,Nat.mul_succ,Nat.pow_add,Nat.mul_comm (2^(k*r.length))]
  exact Nat.mul_le_mul (h a (.head _)) (prodN_le fun b hb=>h b (.tail _ hb))
def GF (M V:Nat) (rows:List (List Rat)):Prop:=∀xs∈rows,∀x∈xs,Fr M V x
end Nm
namespace L2
open PySem PySem.Spec PyProof.Rows Nm
theorem Upto.sqt {K:PySem.W.Frag} {H H':Hp} {b a:Addr} {xs:List V} (u:Upto b H H') (B:Bag H b) (h:SqT K H a xs):SqT K H' a xs:=by
 rcases h with (h | ⟨o,h⟩) | h
 ·exact .inl (.inl (u.tup B h))
 ·exact .inl (.inr ⟨o,u.other (fun z=>by obtain ⟨_,_,_,_,_,e,_⟩:=B;rw[z,e] at h;cases h) h⟩)
 ·exact .inr h
theorem sqt_updL {K:PySem.W.Frag} {H:Hp} {a l:Addr} {xs ys:List V} {o:HO} (h:SqT K H a xs) (hl:H l=some (.lst ys)):SqT K (upd H l o) a xs:=by
 rcases h with (h | ⟨o,h⟩) | h
 ·exact .inl (.inl (by rw[upd_ne fun z=>by rw[z,hl] at h;cases h];exact h))
 ·exact .inl (.inr ⟨o,by rw[upd_ne fun z=>by rw[z,hl] at h;cases h];exact h⟩)
 ·exact .inr h
def NumQ (K:PySem.W.Frag) (H:Hp) (q:Rat) (x:V):Prop:=NumR K H x (nm q)
section
variable {K:PySem.W.Frag} {H H':Hp} {q:Rat} {x:V} {b l p:Addr} {qs:List Rat}
theorem NumQ.same (h:NumQ K H q x) (e:Same H H'):NumQ K H' q x:=e.num h
theorem NumQ.upto (h:NumQ K H q x) (u:Upto b H H') (B:Bag H b):NumQ K H' q x:=by obtain ⟨p,e,s⟩:=h;exact ⟨p,e,u.sqt B s⟩
theorem NumQ.updL {ys:List V} {o:HO} (h:NumQ K H q x) (hl:H l=some (.lst ys)):NumQ K (upd H l o) q x:=by obtain ⟨p,e,s⟩:=h;exact ⟨p,e,sqt_updL s hl⟩
theorem NumQ.mk {r:Addr} {a c:Int} (h:H r=some (.tup [.int a,.int c])) (e:(a,c)=nm q):NumQ K H q (.ref r):=⟨r,rfl,by rw[← e];exact SqT.of h⟩
def RowQ (K:PySem.W.Frag) (H:Hp) (p:Addr) (qs:List Rat):Prop:=∃xs,H p=some (.lst xs)∧Paired (NumQ K H) qs xs
theorem RowQ.same (h:RowQ K H p qs) (e:Same H H'):RowQ K H' p qs:=by obtain ⟨xs,g,r⟩:=h;exact ⟨xs,e _ _ g,Paired.imp' (fun _ _ z=>z.same e) r⟩
theorem RowQ.upto (h:RowQ K H p qs) (u:Upto b H H') (B:Bag H b) (n:p≠b):RowQ K H' p qs:=by obtain ⟨xs,g,r⟩:=h;exact ⟨xs,u.other n g,Paired.imp' (fun _ _ z=>z.upto u B) r⟩
theorem RowQ.updL {ys:List V} {o:HO} (h:RowQ K H p qs) (hl:H l=some (.lst ys)) (n:p≠l):RowQ K (upd H l o) p qs:=by obtain ⟨xs,g,r⟩:=h;exact ⟨xs,by rw[upd_ne n];exact g,Paired.imp' (fun _ _ z=>z.updL hl) r⟩
theorem paired_mapL {α β γ:Type} {F:α->β->Prop} {f:γ->α}:∀{l:List γ} {l2:List β},Paired (fun c x=>F (f c) x) l l2->Paired F (l.map f) l2
 | _,_,.nil=>.nil
 | _,_,.cons r t=>.cons r (paired_mapL t)
theorem RowQ.rowK (h:RowQ K H p qs):RowK K H p (qs.map nm):=by obtain ⟨xs,g,r⟩:=h;exact ⟨xs,g,paired_mapL (F:=fun n x=>NumR K H x n) r⟩
def RowF (K:PySem.W.Frag) (H0 H:Hp) (qs:List Rat) (x:V):Prop:=∃q,x=V.ref q∧H0 q=none∧RowQ K H q qs
def GridQ (K:PySem.W.Frag) (H0 H:Hp) (p:Addr) (rows:List (List Rat)):Prop:=∃xs,H p=some (.lst xs)∧Paired (RowF K H0 H) rows xs∧V.ref p∉xs
theorem notin {H0:Hp} {K:PySem.W.Frag} {p:Addr} {rows:List (List Rat)} {ys:List V} (h:∃H2,H2 p=none∧Paired (RowF K H0 H2) rows ys):V.ref p∉ys:=fun hm=>by
 obtain ⟨H2,e,pr⟩:=h
 obtain ⟨qs,_,q,z,_,xs,g,_⟩:=paired_mem pr hm
 cases z
 rw[e] at g;cases g
variable {H0:Hp} {rows:List (List Rat)}
theorem RowF.same (h:RowF K H0 H qs x) (e:Same H H'):RowF K H0 H' qs x:=by obtain ⟨q,a,b,c⟩:=h;exact ⟨q,a,b,c.same e⟩
theorem RowF.upto (h:RowF K H0 H qs x) (u:Upto b H H') (B:Bag H b) (nb:H0 b≠none):RowF K H0 H' qs x:=by obtain ⟨q,a,c,d⟩:=h;exact ⟨q,a,c,d.upto u B fun z=>nb (by rw[← z];exact c)⟩
theorem RowF.weak (h:RowF K H0 H qs x) {H1:Hp} (e:Same H1 H0):RowF K H1 H qs x:=by obtain ⟨q,a,b,c⟩:=h;exact ⟨q,a,e.none b,c⟩
theorem GridQ.same (h:GridQ K H0 H p rows) (e:Same H H'):GridQ K H0 H' p rows:=by obtain ⟨xs,g,r,n⟩:=h;exact ⟨xs,e _ _ g,Paired.imp' (fun _ _ z=>z.same e) r,n⟩
theorem GridQ.upto (h:GridQ K H0 H p rows) (u:Upto b H H') (B:Bag H b) (n:p≠b) (nb:H0 b≠none):GridQ K H0 H' p rows:=by obtain ⟨xs,g,r,nn⟩:=h;exact ⟨xs,u.other n g,Paired.imp' (fun _ _ z=>z.upto u B nb) r,nn⟩
theorem GridQ.weak (h:GridQ K H0 H p rows) {H1:Hp} (e:Same H1 H0):GridQ K H1 H p rows:=by obtain ⟨xs,g,r,n⟩:=h;exact ⟨xs,g,Paired.imp' (fun _ _ z=>z.weak e) r,n⟩
theorem GridQ.gridK (h:GridQ K H0 H p rows):GridK K H p (rows.map (List.map nm)):=by obtain ⟨xs,g,r,_⟩:=h;exact ⟨xs,g,paired_mapL (F:=fun ns x=>∃q,x=V.ref q∧RowK K H q ns) (Paired.imp' (fun _ _ ⟨q,a,_,c⟩=>⟨q,a,c.rowK⟩) r)⟩
end
def kNumQ:Kind Rat:=kNum.via nm (fun _ _ e=>nm_inj e) (fun K H x q=>NumQ K H q x) id
def kRowQ:Kind (List Rat):=kLst kNumQ
def kGridQ:Kind (List (List Rat)):=kLst kRowQ
theorem RowQ.kind {K:PySem.W.Frag} {H:Hp} {p:Addr} {qs:List Rat} (h:RowQ K H p qs):kRowQ.R K H (.ref p) qs:=by obtain ⟨xs,g,q⟩:=h;exact ⟨p,xs,rfl,SqL.of g,q⟩
theorem GridQ.kind {K:PySem.W.Frag} {H0 H:Hp} {p:Addr} {rows:List (List Rat)} (h:GridQ K H0 H p rows):kGridQ.R K H (.ref p) rows:=by obtain ⟨xs,g,q,_⟩:=h;exact ⟨p,xs,rfl,SqL.of g,Paired.imp' (fun _ _ ⟨q,a,_,c⟩=>by rw[a];exact c.kind) q⟩
def SzN (x:Rat):Prop:=Sz 4000 (nm x).1∧Sz 4000 (nm x).2
def Fits (l:List Rat):Prop:=∃M V:Nat,0 < M∧M<=2^900∧V<=2^900∧∀x∈l,Fr M V x
theorem Fits.szn {l:List Rat} (h:Fits l) {x:Rat} (hx:x∈l):SzN x:=by
 obtain ⟨M,V,h0,h1,h2,h3⟩:=h
 obtain ⟨a,b⟩:=(h3 x hx).sz h0 h1 h2
 exact ⟨a.mono (by decide),b.mono (by decide)⟩
theorem Fits.ok {l:List Rat} (h:Fits l) {x:Rat} (hx:x∈l):NumOk (nm x):=⟨nm_pos x,nm_gcd x,(h.szn hx).1.mono (by decide),(h.szn hx).2.mono (by decide)⟩
theorem fr_szn {M V:Nat} {x:Rat} (h0:0 < M) (h1:M<=2^1800) (h2:V<=2^1810) (h:Fr M V x):SzN x:=by
 obtain ⟨a,b⟩:=h.sz h0 h1 h2
 exact ⟨a.mono (by decide),b.mono (by decide)⟩
inductive sp_opQ (K:PySem.W.Frag) (f:Rat->Rat->Rat) (vs:List V) (H:Hp) (Q:VK) (E9:XK):Prop
 | mk (u v:V) (x y:Rat):vs=[u,v]->NumQ K H x u->NumQ K H y v->SzN x->SzN y->(∀r H',Same H H'->NumQ K H' (f x y) (.ref r)->Q (.ref r) H')->sp_opQ K f vs H Q E9
section
variable {K:PySem.W.Frag} {vs:List V} {H:Hp} {Q:VK} {E:XK}
theorem opQ_of {f:Rat->Rat->Rat} {F:Int->Int->Int->Int->Int} (hf:∀x y:Rat,(f x y)*(((nm x).2*(nm y).2:Int):Rat)=((F (nm x).1 (nm x).2 (nm y).1 (nm y).2:Int):Rat)) (h:sp_opQ K f vs H Q E):sp_ar K F vs H Q E:=by
 obtain ⟨u,v,x,y,rfl,⟨p,rfl,hp⟩,⟨q,rfl,hq⟩,⟨s1,s2⟩,⟨s3,s4⟩,k⟩:=h
 refine ⟨p,q,_,_,_,_,rfl,hp,hq,nm_pos x,nm_pos y,s1,s2,s3,s4,fun r H' s g=>k r H' s (NumQ.mk g ?_)⟩
 exact lohi_nm (Int.mul_pos (nm_pos x) (nm_pos y)) (hf x y)
theorem num_nm (x:Rat):(((nm x).1:Int):Rat)=x*(((nm x).2:Int):Rat):=by
 show (x.num:Rat)=x*(((x.den:Nat):Int):Rat)
 rw[num_val,Rat.intCast_natCast]
theorem addQ_of (h:sp_opQ K (fun x y=>x+y) vs H Q E):sp_ar K fPlus vs H Q E:=opQ_of (fun x y=>by
 unfold fPlus
 rw[Rat.intCast_add,Rat.intCast_mul,Rat.intCast_mul,Rat.intCast_mul,num_nm,num_nm]
 grind) h
theorem mulQ_of (h:sp_opQ K (fun x y=>x*y) vs H Q E):sp_ar K fTimes vs H Q E:=opQ_of (fun x y=>by
 unfold fTimes
 rw[Rat.intCast_mul,Rat.intCast_mul,num_nm,num_nm]
 grind) h
end
inductive sp_numberQ (K:PySem.W.Frag) (vs:List V) (H:Hp) (Q:VK) (E9:XK):Prop
 | mk (b:Addr) (w:Nat):vs=[.ref b,.int w]->Bag H b->1<=w->w<=1000000->(∀r x H',Dr (max w 6) x->NumQ K H' x (.ref r)->Bag H' b->Upto b H H'->Q (.ref r) H')->sp_numberQ K vs H Q E9
inductive sp_drawQ (K:PySem.W.Frag) (vs:List V) (H:Hp) (Q:VK) (E9:XK):Prop
 | mk (b:Addr) (m w:Nat):vs=[.ref b,.int m,.int w]->Bag H b->m<=1000->1<=w->w<=1000000->(∀r xs H',H r=none->RowQ K H' r xs->xs.length=m->(∀x∈xs,Dr (max w 6) x)->Bag H' b->Upto b H H'->Q (.ref r) H')->sp_drawQ K vs H Q E9
inductive sp_plusQ (K:PySem.W.Frag) (vs:List V) (H:Hp) (Q:VK) (E9:XK):Prop
 | mk (p q:Addr) (xs ys:List Rat):vs=[.ref p,.ref q]->RowQ K H p xs->RowQ K H q ys->ys.length=xs.length->xs.length<=1000->(∀x∈xs,SzN x)->(∀y∈ys,SzN y)->(∀r H',H r=none->Same H H'->RowQ K H' r (List.zipWith (fun x y=>x+y) xs ys)->Q (.ref r) H')->sp_plusQ K vs H Q E9
inductive sp_byQ (K:PySem.W.Frag) (vs:List V) (H:Hp) (Q:VK) (E9:XK):Prop
 | mk (u:V) (q:Addr) (c:Rat) (ys:List Rat):vs=[u,.ref q]->NumQ K H c u->SzN c->RowQ K H q ys->ys.length<=1000->(∀y∈ys,SzN y)->(∀r H',H r=none->Same H H'->RowQ K H' r (ys.map fun y=>c*y)->Q (.ref r) H')->sp_byQ K vs H Q E9
section
variable {K:PySem.W.Frag} {a:Addr} {xs:List V} {g:TG} {tf:TT} {te:TE} {Q:VK} {σ₀:St} {H:Hp} {α β:Type}
theorem comp_mapL {as:List α} {F:Hp->α->V->Prop} (G:Hp->β->V->Prop) (f:α->β) (hx:H a=some (.lst xs)) (pf:Paired (F H) as xs) (hl:as.length<=1000)
  (hF:∀{H H' c x},F H c x->Same H H'->F H' c x) (hG:∀{H H' c x},G H c x->Same H H'->G H' c x)
  (hs:∀(i:Nat) c x H' NY NN,as[i]?=some c->Same H H'->F H' c x->(∀y H2,Same H' H2->G H2 (f c) y->NY y H2)->tTurn σ₀ g tf te x H' NY NN)
  (hd:∀ys H' p,H p=none->Same H H'->H' p=some (.lst ys)->Paired (G H') (as.map f) ys->(∃H2,H2 p=none∧Paired (G H2) (as.map f) ys)->Q (.ref p) H'):CompW (Itl K a) σ₀ g tf te Q H:=by
 have lx:=pf.length
 refine comp_list (K:=K) (xs:=xs) (fun i ys H'=>Same H H'∧Paired (G H') ((as.take i).map f) ys) (Nat.le_of_lt (small1000 (by lia))) ⟨Same.refl _,.nil⟩ (fun i ys H' _ ⟨s,_⟩=>SqL.of (s _ _ hx)) ?_ ?_
 ·rintro i x ys H' hx' hlen ⟨s,pr⟩
  obtain ⟨c,ec,hc⟩:=paired_at pf hx'
  refine hs i c x H' _ _ ec s (hF hc s) fun y H2 s2 gy=>⟨s.trans s2,?_⟩
  rw[take_snoc ec,List.map_append]
  exact paired_app (Paired.imp' (fun _ _ z=>hG z s2) pr) (.cons gy .nil)
 ·rintro ys H' hy ⟨s,pr⟩ p hp
  rw[List.take_of_length_le (by lia)] at pr
  exact hd ys _ p (s.none hp) (s.trans (Same.new hp)) upd_same (Paired.imp' (fun _ _ z=>hG z (Same.new hp)) pr) ⟨H',hp,pr⟩
theorem comp_mapR {n:Nat} (G:Hp->β->V->Prop) (f:Nat->β) (hl:n<=1000) (hG:∀{H H' c x},G H c x->Same H H'->G H' c x)
  (hs:∀(i:Nat) H' NY NN,i < n->Same H H'->(∀y H2,Same H' H2->G H2 (f i) y->NY y H2)->tTurn σ₀ g tf te (.int i) H' NY NN)
  (hd:∀ys H' p,H p=none->Same H H'->H' p=some (.lst ys)->Paired (G H') ((List.range n).map f) ys->(∃H2,H2 p=none∧Paired (G H2) ((List.range n).map f) ys)->Q (.ref p) H'):CompW (Itr 0 n) σ₀ g tf te Q H:=by
 refine comp_range (fun i ys H'=>Same H H'∧Paired (G H') ((List.range i).map f) ys) (Nat.le_of_lt (small1000 (by lia))) ⟨Same.refl _,.nil⟩ ?_ ?_
 ·rintro i ys H' hi hlen ⟨s,pr⟩
  rw[Int.zero_add]
  refine hs i H' _ _ hi s fun y H2 s2 gy=>⟨s.trans s2,?_⟩
  rw[List.range_succ,List.map_append]
  exact paired_app (Paired.imp' (fun _ _ z=>hG z s2) pr) (.cons gy .nil)
 ·rintro ys H' hy ⟨s,pr⟩ p hp
  exact hd ys _ p (s.none hp) (s.trans (Same.new hp)) upd_same (Paired.imp' (fun _ _ z=>hG z (Same.new hp)) pr) ⟨H',hp,pr⟩
theorem comp_bagR {n:Nat} {b:Addr} (G:Hp->β->V->Prop) (C:β->Prop) (hB:Bag H b) (hl:n<=1000) (hG:∀{H' H'' c x},G H' c x->Upto b H' H''->Bag H' b->G H'' c x)
  (hs:∀(i:Nat) H' NY NN,i < n->Upto b H H'->Bag H' b->(∀y c H2,Upto b H' H2->Bag H2 b->C c->G H2 c y->NY y H2)->tTurn σ₀ g tf te (.int i) H' NY NN)
  (hd:∀ys cs H' p,H p=none->Upto b H H'->Bag H' b->H' p=some (.lst ys)->cs.length=n->(∀c∈cs,C c)->Paired (G H') cs ys->(∃H2,H2 p=none∧Paired (G H2) cs ys)->Q (.ref p) H'):CompW (Itr 0 n) σ₀ g tf te Q H:=by
 refine comp_range (fun i ys H'=>Upto b H H'∧Bag H' b∧∃cs,cs.length=i∧(∀c∈cs,C c)∧Paired (G H') cs ys) (Nat.le_of_lt (small1000 (by lia))) ⟨(Same.refl _).upto,hB,[],rfl,(fun _ z=>nomatch z),.nil⟩ ?_ ?_
 ·rintro i ys H' hi hlen ⟨u,B,cs,lc,hc,pr⟩
  rw[Int.zero_add]
  refine hs i H' _ _ hi u B fun y c H2 u2 B2 cc gy=>⟨u.trans u2,B2,cs++[c],by simp [lc],app_all hc cc,paired_app (Paired.imp' (fun _ _ z=>hG z u2 B) pr) (.cons gy .nil)⟩
 ·rintro ys H' hy ⟨u,B,cs,lc,hc,pr⟩ p hp
  have s:Same H' (upd H' p (.lst ys)):=Same.new hp
  exact hd ys cs _ p (u.none B hp) (u.same s) (B.same s) upd_same lc hc (Paired.imp' (fun _ _ z=>hG z s.upto B) pr) ⟨H',hp,pr⟩
end
section
variable {X:Cx}
theorem for_rangeN {n:Nat} {g:TG} {tb:TS} {D:Ends} {σ:St} {H:Hp} (Pv:Nat->St->Hp->Prop) (h0:Pv 0 σ H)
  (hs:∀(i:Nat) σ H,i < n->Pv i σ H->g (.int i) σ H fun σ2 H2=>tb { D with nx:=Pv (i+1),ct:=Pv (i+1),bk:=D.nx } σ2 H2) (hd:∀σ H,Pv n σ H->D.nx σ H) :
  ∃W:Nat->Nat->St->Hp->Prop,(∃m,W 0 m σ H)∧∀i m σ H,W i m σ H →
   ((Itr 0 n).stop i H∧D.nx σ H)∨((Itr 0 n).go i H∧∃N:St->Hp->Prop,(∀σ' H',N σ' H'->∃m',m' < m∧W (i+1) m' σ' H')∧∀x H',(Itr 0 n).yld i H x H'->g x σ H' fun σ2 H2=>tb { D with nx:=N,ct:=N,bk:=D.nx } σ2 H2) :=
 for_range (lo:=0) Pv h0 (fun i σ H hi p=>by rw[Int.zero_add];exact hs i σ H hi p) hd
theorem call_intB:CallR X (.type "int") (fun xs H Q=>∃b:Bool,xs=[.bl b]∧Q (.int (if b=true then 1 else 0)) H):=by
 intro pins s σ H xs us Q I r h
 obtain ⟨b,rfl,q⟩:=h
 obtain ⟨u,rfl,ru⟩:=vals1 r
 cases ru
 exact call_int_bool ⟨.int _,H,I.tok _,⟨_,rfl⟩,q⟩
theorem ps_no {st:Stmt}:PS X st (fun _ _ _=>False):=fun _ _ _ _ _ _ h=>h.elim
end
theorem low_dr {t b:Int} {W:Nat} (hb:0 < b) (h1:t.natAbs<=W) (h2:b.natAbs<=W):∃q:Rat,(lo t b,hi t b)=nm q∧Dr W q∧q*(b:Rat)=(t:Rat):=by
 have hb':(b:Rat)≠0:=fun z=>by have:=Rat.intCast_eq_zero_iff.mp z;lia
 have e:(t:Rat) / (b:Rat)*(b:Rat)=t:=Rat.div_mul_cancel hb'
 have h:=lohi_nm hb e
 refine ⟨_,h,⟨?_,?_⟩,e⟩
 ·have:=congrArg Prod.fst h
  have z:=lo_le (t:=t) (b:=b) (by lia)
  show ((nm ((t:Rat) / (b:Rat))).1).natAbs<=W
  rw[← this]
  exact Nat.le_trans z h1
 ·have:=congrArg Prod.snd h
  have z:=hi_le (t:=t) (b:=b) (by lia)
  have hd:(((t:Rat) / (b:Rat)).den:Int)=hi t b:=this.symm
  have hp:=hi_pos (t:=t) hb
  lia
theorem ixQ {K:PySem.W.Frag} {H:Hp} {qs:List Rat} {xs:List V} (h:Paired (NumQ K H) qs xs) {j:Nat} (hj:j < qs.length):∃v,atI xs (j:Int)=some v∧NumQ K H (qs.getD j 0) v:=by
 have hl:=h.length
 refine ⟨xs[j]'(by lia),atI_nat (by simp),?_⟩
 have:=paired_get h (i:=j) hj (by lia)
 rwa [List.getD_eq_getElem?_getD,List.getElem?_eq_getElem hj]
theorem getD_mem {xs:List Rat} {i:Nat} (h:i < xs.length):xs.getD i 0∈xs:=by
 rw[List.getD_eq_getElem?_getD,List.getElem?_eq_getElem h];exact List.getElem_mem h
theorem zip_range {xs ys:List Rat} (h:ys.length=xs.length):List.zipWith (fun x y=>x+y) xs ys=(List.range xs.length).map fun i=>xs.getD i 0+ys.getD i 0:=by
 apply List.ext_getElem?
 intro i
 rw[List.getElem?_zipWith,List.getElem?_map]
 by_cases hi:i < xs.length
 ·rw[List.getElem?_range hi,List.getElem?_eq_getElem hi,List.getElem?_eq_getElem (show i < ys.length by lia)]
  simp [List.getD_eq_getElem?_getD,List.getElem?_eq_getElem hi,List.getElem?_eq_getElem (show i < ys.length by lia)]
 ·rw[List.getElem?_eq_none (show (List.range xs.length).length<=i by simp;lia),List.getElem?_eq_none (show xs.length<=i by lia)]
  rfl
theorem Bag.at {H:Hp} {b:Addr} (B:Bag H b):H b≠none:=by obtain ⟨_,_,_,_,_,e,_⟩:=B;rw[e];simp
theorem Inner.at {H:Hp} {b q:Addr} (B:Bag H b) (i:Inner H b q):H q≠none:=by
 obtain ⟨q',i',xs,e⟩:=B.inner
 rw[← Inner.inj i' i,e];simp
theorem cmulS_l {i j:Int} (h1:-(2^64) < i) (h2:i < 2^64):CMulS i j:=.inl (.inl ⟨h1,h2⟩)
theorem cmulS_r {i j:Int} (h1:-(2^64) < j) (h2:j < 2^64):CMulS i j:=.inl (.inr ⟨h1,h2⟩)
theorem cpow_of {i j:Int} (h1:0<=j) (h2:j<=1000000) (h3:i.natAbs < 2^64):CPow i j:=⟨h1,h2,h3⟩
end L2
namespace L2
open PySem PySem.Spec PyProof.Rows Nm
def Ite (K : PySem.W.Frag) (l : Addr) : It :=
  ⟨fun i H => ∃ xs x, SqL K H l xs ∧ xs[i]? = some x,
   fun i H v H' => ∃ p x, v = .ref p ∧ H p = none ∧ H' = upd H p (.tup [.int i, x]) ∧ ∀ xs, SqL K H l xs → xs[i]? = some x,
   fun i H => ∃ xs, SqL K H l xs ∧ xs.length ≤ i⟩
def tnE (e it l:Addr) (i:Nat) (h:Heap):Prop:=(∃old,IsEnum h e it i old)∧h.IsListIter it l i
theorem turn_enum {P:Program} {w:World} {K:PySem.W.Frag} {elts:List Expr} {kk:Nat} {tpos:Pos} (e it l:Addr) (hei:e≠it):Turn P w K (.Tuple elts kk tpos) (Ite K l) [e,it] e (tnE e it l) where
 mem:=by simp
 obj:=fun i h st b hb=>by
  obtain ⟨⟨old,he⟩,⟨o1,g1,c1,d1⟩⟩:=st
  simp only[List.mem_cons,List.not_mem_nil,or_false] at hb
  rcases hb with rfl | rfl
  ·exact ⟨_,he,fun v q=>nomatch q⟩
  ·exact ⟨o1,g1,fun v q=>by rw[d1] at q;cases q⟩
 keep:=fun i h h' st k=>by
  obtain ⟨⟨old,he⟩,h1⟩:=st
  exact ⟨⟨old,k e (by simp) _ he⟩,h1.at fun o q=>k it (by simp) o q⟩
 item:=by
  intro X hP hw hK hc i pins s σ H E I hf st hg
  subst hP hw hK
  obtain ⟨⟨old,he⟩,h1⟩:=st
  obtain ⟨xs,x,qx,ex⟩:=hg
  obtain ⟨us,rx,px,_⟩:=I.list qx
  obtain ⟨u,eu,ru⟩:=rx.get ex
  refine wpAny_pyNext_enum_item he h1 px.isList (x:=u) (by simpa using eu) hei fun h' a1 a2 a3 a4 hk=>?_
  refine ⟨_,rfl,wpAny_letOwnedTupleGo_enum a1 fun h'' he'' hs=>?_⟩
  have hT0:H s.heap.objs.size=none:=I.hok.fresh (Nat.le_refl _)
  have ene:s.heap.objs.size≠e:=Nat.ne_of_gt (Heap.lt_size he)
  have up:∀b o,b∉[e,it]->s.heap.get? b=some o->h''.get? b=some o:=fun b o hb q=>by
   simp only[List.mem_cons,List.not_mem_nil,or_false,not_or] at hb
   exact (hs.2 b hb.1).trans (hk b o hb.1 hb.2 q)
  have tup:h''.get? s.heap.objs.size=some { cls:=.type "tuple",data:=.seq #[.int i s.toks,u] }:=(hs.2 _ ene).trans a3
  have I1:Inv X pins σ H { s with heap:=h'',toks:=s.toks+1 }:=I.moved (g':=s.gens) (d':=s.drawn) (t':=s.toks+1) (ch:=[e,it]) hf up I.bare
  have fT:FpOk X pins H s.heap.objs.size:=I.fpOk (Nat.le_refl _) hT0
  have I2:=I1.track (o:=.tup [.int i,x]) fT ⟨short_ok rfl,[.int i s.toks,u],.cons ⟨_,rfl⟩ (.cons ru .nil),⟨_,tup,rfl,_,rfl⟩⟩
  refine ⟨.ref s.heap.objs.size,_,I2,rfl,⟨_,x,rfl,hT0,rfl,fun xs' q=>by rw[I.list_inj q qx];exact ex⟩,?_,fun b hb=>?_⟩
  ·exact ⟨⟨_,by simpa using he''⟩,a2.at fun o q=>(hs.2 _ hei.symm).trans q⟩
  ·rw[upd_ne]
   ·exact (hf b hb).1
   ·obtain ⟨o1,g1,_⟩:=h1
    simp only[List.mem_cons,List.not_mem_nil,or_false] at hb
    rcases hb with rfl | rfl
    ·exact ene.symm
    ·exact Nat.ne_of_lt (Heap.lt_size g1)
 done:=by
  intro X hP hw hK hc i pins s σ H E I hf st hg
  subst hP hw hK
  obtain ⟨⟨old,he⟩,h1⟩:=st
  obtain ⟨xs,qx,hend⟩:=hg
  obtain ⟨us,rx,px,_⟩:=I.list qx
  have lx:=rx.length
  refine wpAny_pyNext_enum_end (I.ok.hd hc) he h1 px.isList (by simp;lia) fun h' hk=>⟨rfl,?_⟩
  exact I.moved (g':=s.gens) (d':=s.drawn) (t':=s.toks) (ch:=[e,it]) hf (fun b o hb q=>hk b o (fun z=>hb (by simp [z])) q) I.bare
 self:=fun _ _ _ _ _ st h=>let ⟨⟨_,he⟩,_⟩:=st;wpAny_pyIter_enum he h
section
variable {X:Cx}
def iEnum (K:PySem.W.Frag) (ta:TA):TI:=fun σ H R=>ta σ H fun vs H1=>∃l,vs=[.ref l]∧(∃xs,SqL K H1 l xs)∧R (Ite K l) H1
theorem pi_enum {a:Expr} {ta:TA} {p pos tpos:Pos} {elts:List Expr} {kk:Nat} (hg:Gl X "enumerate") (hm:X.mg "enumerate"=none) (ha:PA X [a] ta) (hs:starEach [a] X.env=[(false,eval a X.env)]:=by rfl) :
  PI X (.Tuple elts kk tpos) (.Call (.Name "enumerate" p) [a] [] pos) (iEnum X.K ta):=by
 intro pins s σ H R I h
 refine Call_ (ld_blt I hg hm boot_enumerate (PyProof.Rows.callWith_type1 (thn (ha pos pins s σ H _ I h) fun us s1 ⟨vs,H1,I1,r1,q1⟩=>?_) (by rw[hs];rfl) rfl))
 obtain ⟨l,e,⟨xs,qx⟩,q⟩:=q1
 subst e
 obtain ⟨u,rfl,ru⟩:=vals1 r1
 cases ru
 obtain ⟨us,rx,px,_⟩:=I1.list qx
 refine call_enumerate_list px.isList fun h' a1 a2 a3 hk=>wpAny_pyIter_enum a1 ?_
 have I2:Inv X pins σ H1 { s1 with heap:=h' }:=I1.kept (t':=s1.toks) hk
 refine ⟨_,[s1.heap.objs.size+1,s1.heap.objs.size],_,_,H1,rfl,I2,turn_enum (s1.heap.objs.size+1) s1.heap.objs.size l (Nat.succ_ne_self _),⟨⟨_,a1⟩,a2⟩,fun b hb=>?_,q⟩
 have hb':s1.heap.objs.size<=b:=by
  simp only[List.mem_cons,List.not_mem_nil,or_false] at hb
  rcases hb with rfl | rfl <;> first | exact Nat.le_succ _ | exact Nat.le_refl _
 exact I1.fpOk hb' (I1.hok.fresh hb')
end
theorem rd_iEnum {K:PySem.W.Frag} {ta:TA} {R:It->Hp->Prop} {σ:St} {H:Hp} (h:ta σ H fun vs H1=>∃l,vs=[.ref l]∧(∃xs,SqL K H1 l xs)∧R (Ite K l) H1):iEnum K ta σ H R:=h
theorem for_enum {K:PySem.W.Frag} {l:Addr} {xs:List V} {g:TG} {tb:TS} {D:Ends} {σ:St} {H:Hp} (Pv:Nat->St->Hp->Prop) (h0:Pv 0 σ H) (hl:∀i σ H,i<=xs.length->Pv i σ H->SqL K H l xs)
  (hs:∀i x σ H p,xs[i]?=some x->Pv i σ H->H p=none->g (.ref p) σ (upd H p (.tup [.int i,x])) fun σ2 H2=>tb { D with nx:=Pv (i+1),ct:=Pv (i+1),bk:=D.nx } σ2 H2) (hd:∀σ H,Pv xs.length σ H->D.nx σ H) :
  ∃W:Nat->Nat->St->Hp->Prop,(∃m,W 0 m σ H)∧∀i m σ H,W i m σ H →
   ((Ite K l).stop i H∧D.nx σ H)∨((Ite K l).go i H∧∃N:St->Hp->Prop,(∀σ' H',N σ' H'->∃m',m' < m∧W (i+1) m' σ' H')∧∀x H',(Ite K l).yld i H x H'->g x σ H' fun σ2 H2=>tb { D with nx:=N,ct:=N,bk:=D.nx } σ2 H2):=by
 refine ⟨fun i m σ H=>m=xs.length - i∧i<=xs.length∧Pv i σ H,⟨xs.length,by simp,Nat.zero_le _,h0⟩,?_⟩
 rintro i m σ H ⟨rfl,hi,p⟩
 have q1:=hl i σ H hi p
 by_cases hlt:i < xs.length
 ·refine .inr ⟨⟨xs,xs[i],q1,by simp [hlt]⟩,Pv (i+1),fun σ' H' p'=>⟨xs.length - (i+1),by lia,rfl,hlt,p'⟩,fun x H' y=>?_⟩
  obtain ⟨r,x',rfl,hr,rfl,e1⟩:=y
  exact hs i x' σ _ r (e1 xs q1) p hr
 ·have e:i=xs.length:=by lia
  subst e
  exact .inl ⟨⟨xs,q1,Nat.le_refl _⟩,hd σ H p⟩
section
variable {X:Cx}
theorem call_any (hc:X.calm=true):CallR X (.builtin "any") (fun xs H Q=>∃(p:Addr) (bs:List Bool),xs=[.ref p]∧SqL X.K H p (bs.map V.bl)∧Q (.bl (bs.any id)) H):=by
 intro pins s σ H xs us Q I r h
 obtain ⟨p,bs,rfl,hp,q⟩:=h
 obtain ⟨u,rfl,ru⟩:=vals1 r
 cases ru
 obtain ⟨vs,rv,pl,hz⟩:=I.list hp
 have hb:PyProof.Rows.LSm.BoolsAre vs bs:=by
  clear q hp pl hz
  induction bs generalizing vs with
  | nil=>cases rv;exact .nil
  | cons b bs ih =>
   rw[List.map_cons] at rv
   cases rv with
   | cons r1 r2=>cases r1;exact .cons b (ih _ r2)
 have hlt:p < s.heap.objs.size:=by obtain ⟨_,e,_⟩:=pl.isList;exact Heap.lt_size e
 refine call_any_walk (wpAny_pyIter_list pl.isList ?_)
 refine ⟨s.heap.objs.size,[s.heap.objs.size,p],[s.heap.objs.size],vs.toArray.size,_,_,fun i=>(bs[i]?).getD true,rfl,Walks.list (A:=X.A.in1) (I.ok.hd hc) _ p (Nat.ne_of_lt hlt) vs.toArray,
  ⟨⟨_,Heap.get?_push_size _ rfl,rfl,rfl⟩,pl.isList.push _⟩,fun i v s' Q' E' hP hQ=>?_,fun h' tk hk=>?_⟩
 ·obtain ⟨b,e,rfl⟩:=hb.get i v (by simpa using hP)
  simp only[e,Option.getD_some] at hQ
  exact wpAny_truthy_bool hQ
 ·have e:((List.range vs.toArray.size).any fun i=>(bs[i]?).getD true)=bs.any id:=by
   rw[List.size_toArray,hb.length,Bool.eq_iff_iff,List.any_eq_true,List.any_eq_true]
   constructor
   ·rintro ⟨i,hi,z⟩
    have hi:=List.mem_range.mp hi
    rw[List.getElem?_eq_getElem hi] at z
    exact ⟨_,List.getElem_mem hi,z⟩
   ·rintro ⟨b,hb',z⟩
    obtain ⟨i,hi,rfl⟩:=List.getElem_of_mem hb'
    exact ⟨i,List.mem_range.mpr hi,by rw[List.getElem?_eq_getElem hi];exact z⟩
  rw[e]
  exact ⟨.bl _,H,I.kept (t':=tk) (PyProof.Rows.LSm.kept_iter hk),rfl,q⟩
end
theorem rd_fld {K:PySem.W.Frag} {ta:TE} {f:Str} {σ:St} {H:Hp} {Q:VK} (h:ta σ H fun x H1=>∃a C dx fs v,x=.ref a∧H1 a=some (.ins C dx fs)∧Cls K C∧NoAttr K C f∧fs.lookup f=some v∧Q v H1):tFld K ta f σ H Q:=h
theorem rd_sfld {K:PySem.W.Frag} {ta tv:TE} {f:Str} {D:Ends} {σ:St} {H:Hp} (h:tv σ H fun y H1=>ta σ H1 fun x H2=>∃a C dx fs,x=.ref a∧H2 a=some (.ins C dx fs)∧Cls K C∧NoAttr K C f∧fs.length < 1000 ∧
 D.nx σ (upd H2 a (.ins C dx (putF f y fs)))):sFld K ta tv f D σ H:=h
theorem rd_make {C:Addr} {sp:Sp} {E:XK} {t:TA} {σ:St} {H:Hp} {Q:VK} (h:t σ H fun vs H1=>∀x dx,H1 x=none->H1 dx=none->dx≠x →
 sp (.ref x :: vs) (upd (upd H1 dx (.own x)) x (.ins C dx [])) (fun v H2=>v=.non∧Q (.ref x) H2) E):tMake C sp [] E t σ H Q:=by
 have e:(fun vs (H1:Hp)=>∀x dx,H1 x=none->H1 dx=none->dx≠x->sp (.ref x :: (vs++[])) (upd (upd H1 dx (.own x)) x (.ins C dx [])) (fun v H2=>v=.non∧Q (.ref x) H2) E)=fun vs H1=>∀x dx,H1 x=none->H1 dx=none->dx≠x->sp (.ref x :: vs) (upd (upd H1 dx (.own x)) x (.ins C dx [])) (fun v H2=>v=.non∧Q (.ref x) H2) E:=by
  funext vs H1
  simp only[List.append_nil]
 show t σ H (fun vs (H1:Hp)=>∀x dx,H1 x=none->H1 dx=none->dx≠x->sp (.ref x :: (vs++[])) (upd (upd H1 dx (.own x)) x (.ins C dx [])) (fun v H2=>v=.non∧Q (.ref x) H2) E)
 rw[e];exact h
end L2
namespace L2
open PySem PySem.Spec PyProof.Rows Nm
def Exc (x:Addr) (H H':Hp):Prop:=∀b o,H b=some o->b≠x->H' b=some o
theorem Exc.upd {x:Addr} {H:Hp} {o:HO}:Exc x H (L2.upd H x o):=fun b u h n=>by rw[upd_ne n];exact h
def IsIns (H:Hp) (x:Addr):Prop:=∃C dx fs,H x=some (.ins C dx fs)
section
variable {K:PySem.W.Frag} {H H' H0:Hp} {q:Rat} {v:V} {x p:Addr} {qs:List Rat} {rows:List (List Rat)}
theorem NumQ.exc (h:NumQ K H q v) (e:Exc x H H') (hx:IsIns H x):NumQ K H' q v:=by
 obtain ⟨C,dx,fs,hx⟩:=hx
 obtain ⟨r,er,s⟩:=h
 refine ⟨r,er,?_⟩
 rcases s with (h | ⟨o,h⟩) | h
 ·exact .inl (.inl (e _ _ h fun z=>by rw[z,hx] at h;cases h))
 ·exact .inl (.inr ⟨o,e _ _ h fun z=>by rw[z,hx] at h;cases h⟩)
 ·exact .inr h
theorem RowQ.exc (h:RowQ K H p qs) (e:Exc x H H') (hx:IsIns H x):RowQ K H' p qs:=by
 obtain ⟨xs,g,r⟩:=h
 have hx':=hx
 obtain ⟨C,dx,fs,hx⟩:=hx
 exact ⟨xs,e _ _ g (fun z=>by rw[z,hx] at g;cases g),Paired.imp' (fun _ _ z=>z.exc e hx') r⟩
theorem RowF.exc (h:RowF K H0 H qs v) (e:Exc x H H') (hx:IsIns H x):RowF K H0 H' qs v:=by obtain ⟨q,a,b,c⟩:=h;exact ⟨q,a,b,c.exc e hx⟩
theorem GridQ.exc (h:GridQ K H0 H p rows) (e:Exc x H H') (hx:IsIns H x):GridQ K H0 H' p rows:=by
 obtain ⟨xs,g,r,n⟩:=h
 have hx':=hx
 obtain ⟨C,dx,fs,hx⟩:=hx
 exact ⟨xs,e _ _ g (fun z=>by rw[z,hx] at g;cases g),Paired.imp' (fun _ _ z=>z.exc e hx') r,n⟩
end
def sysFs (a b c:Addr) (n i o:Nat):List (Str×V):=putF "outs" (.int o) (putF "look" (.ref c) (putF "ins" (.int i) (putF "put" (.ref b) (putF "states" (.int n) (putF "move" (.ref a) [])))))
section
variable {a b c:Addr} {n i o:Nat}
theorem sys_outs:(sysFs a b c n i o).lookup ("outs":Str)=some (.int o):=by
 unfold sysFs
 rw[lookup_putF,if_pos rfl]
theorem sys_look:(sysFs a b c n i o).lookup ("look":Str)=some (.ref c):=by
 unfold sysFs
 rw[lookup_putF,if_neg (by decide +kernel),lookup_putF,if_pos rfl]
theorem sys_ins:(sysFs a b c n i o).lookup ("ins":Str)=some (.int i):=by
 unfold sysFs
 rw[lookup_putF,if_neg (by decide +kernel),lookup_putF,if_neg (by decide +kernel),lookup_putF,if_pos rfl]
theorem sys_put:(sysFs a b c n i o).lookup ("put":Str)=some (.ref b):=by
 unfold sysFs
 rw[lookup_putF,if_neg (by decide +kernel),lookup_putF,if_neg (by decide +kernel),lookup_putF,if_neg (by decide +kernel),lookup_putF,if_pos rfl]
theorem sys_states:(sysFs a b c n i o).lookup ("states":Str)=some (.int n):=by
 unfold sysFs
 rw[lookup_putF,if_neg (by decide +kernel),lookup_putF,if_neg (by decide +kernel),lookup_putF,if_neg (by decide +kernel),lookup_putF,if_neg (by decide +kernel),lookup_putF,if_pos rfl]
theorem sys_move:(sysFs a b c n i o).lookup ("move":Str)=some (.ref a):=by
 unfold sysFs
 rw[lookup_putF,if_neg (by decide +kernel),lookup_putF,if_neg (by decide +kernel),lookup_putF,if_neg (by decide +kernel),lookup_putF,if_neg (by decide +kernel),lookup_putF,if_neg (by decide +kernel),lookup_putF,if_pos rfl]
end
theorem putF_len {k:Str} {v:V}:∀{l:List (Str×V)},(putF k v l).length<=l.length+1
 | []=>Nat.le_refl _
 | (x,y) :: r=>by
  unfold putF
  split
  ·simp
  ·have:=putF_len (k:=k) (v:=v) (l:=r)
   simp only[List.length_cons]
   lia
structure SysD (mv pt lk:List (List Rat)):Prop where
 n8:mv.length<=8
 i4:pt.length<=4
 o4:lk.length<=4
 mw:∀xs∈mv,xs.length=mv.length
 pw:∀xs∈pt,xs.length=mv.length
 lw:∀xs∈lk,xs.length=mv.length
def SFits (mv pt lk:List (List Rat)):Prop:=∃M V:Nat,0 < M∧M<=2^800∧V<=2^400∧GF M V mv∧GF M V pt∧GF M V lk
def SysQ (K:PySem.W.Frag) (H0 H:Hp) (C p:Addr) (mv pt lk:List (List Rat)):Prop:=∃dx a b c,H p=some (.ins C dx (sysFs a b c mv.length pt.length lk.length))∧H0 a=none∧H0 b=none∧H0 c=none∧GridQ K H0 H a mv∧GridQ K H0 H b pt∧GridQ K H0 H c lk
section
variable {K:PySem.W.Frag} {H H' H0 H1:Hp} {C p b:Addr} {mv pt lk:List (List Rat)}
theorem SysQ.weak (h:SysQ K H0 H C p mv pt lk) (e:Same H1 H0):SysQ K H1 H C p mv pt lk:=by obtain ⟨dx,a,b,c,g,n1,n2,n3,g1,g2,g3⟩:=h;exact ⟨dx,a,b,c,g,e.none n1,e.none n2,e.none n3,g1.weak e,g2.weak e,g3.weak e⟩
theorem SFits.fits (h:SFits mv pt lk) {l:List Rat} (hl:∀x∈l,(∃xs∈mv,x∈xs)∨(∃xs∈pt,x∈xs)∨(∃xs∈lk,x∈xs)∨x=0):Fits l:=by
 obtain ⟨M,V,h0,h1,h2,h3,h4,h5⟩:=h
 refine ⟨M,V,h0,Nat.le_trans h1 (Nat.pow_le_pow_right (by decide) (by decide)),Nat.le_trans h2 (Nat.pow_le_pow_right (by decide) (by decide)),fun x hx=>?_⟩
 rcases hl x hx with ⟨xs,a,b⟩ | ⟨xs,a,b⟩ | ⟨xs,a,b⟩ | rfl
 ·exact h3 xs a x b
 ·exact h4 xs a x b
 ·exact h5 xs a x b
 ·exact Fr.zero
end
def sp_wholeI:Sp:=fun vs H Q _=>∃i:Int,vs=[.int i]∧Q (.bl true) H
def sp_isnumP (K:PySem.W.Frag):Sp:=fun vs H Q _=>∃x n,vs=[x]∧NumR K H x n∧NumOk n∧∀H',Same H H'->Q (.bl true) H'
inductive sp_want (vs:List V) (H:Hp) (Q:VK) (E9:XK):Prop
 | mk (p:Addr) (xs:List V) (a m:Int):vs=[.ref p,.int a,.int m]->H p=some (.lst xs)->(xs.length:Int)<=m->Q .non H->sp_want  vs H Q E9
inductive sp_copR (K:PySem.W.Frag) (vs:List V) (H:Hp) (Q:VK) (E9:XK):Prop
 | mk (p:Addr) (H0:Hp) (rows:List (List Rat)) (w:Nat):vs=[.ref p,.int w]->GridQ K H0 H p rows->rows.length<=1000->w<=1000->((∀xs∈rows,xs.length=w∧∀x∈xs,NumOk (nm x)))->(∀r H',H r=none->Same H H'->GridQ K H H' r rows->Q (.ref r) H')->sp_copR K vs H Q E9
def GOk (rows:List (List Rat)):Prop:=∀xs∈rows,∀x∈xs,NumOk (nm x)
inductive sp_init (K:PySem.W.Frag) (C:Addr) (vs:List V) (H:Hp) (Q:VK) (E9:XK):Prop
 | mk (x dx p q r:Addr) (Hb H0 H1 H2:Hp) (mv pt lk:List (List Rat)):vs=[.ref x,.ref p,.ref q,.ref r]->Hb x=none->Hb dx=none->dx≠x->H=upd (upd Hb dx (.own x)) x (.ins C dx [])->GridQ K H0 Hb p mv->GridQ K H1 Hb q pt->GridQ K H2 Hb r lk->SysD mv pt lk->GOk mv->GOk pt->GOk lk->(∀H',Same Hb H'->SysQ K Hb H' C x mv pt lk->Q .non H')->sp_init K C vs H Q E9
theorem SFits.ok {mv pt lk:List (List Rat)} (h:SFits mv pt lk):GOk mv∧GOk pt∧GOk lk :=
 ⟨fun xs hx x hx'=>(h.fits (l:=xs) fun y hy=>.inl ⟨xs,hx,hy⟩).ok hx',fun xs hx x hx'=>(h.fits (l:=xs) fun y hy=>.inr (.inl ⟨xs,hx,hy⟩)).ok hx',fun xs hx x hx'=>(h.fits (l:=xs) fun y hy=>.inr (.inr (.inl ⟨xs,hx,hy⟩))).ok hx'⟩
end L2
namespace L2
open PySem PySem.Spec PyProof.Rows Nm
def RowP (K:PySem.W.Frag) (A:Addr->Prop) (H:Hp) (n:Nat) (C:Rat->Prop) (x:V):Prop:=∃q qs,x=V.ref q∧A q∧RowQ K H q qs∧qs.length=n∧∀y∈qs,C y
section
variable {K:PySem.W.Frag} {A A':Addr->Prop} {H H' H0:Hp} {n:Nat} {C C':Rat->Prop} {x v:V} {q b l p:Addr} {xs zs:List V} {y:Rat} {o:HO}
theorem RowP.same (h:RowP K A H n C x) (e:Same H H'):RowP K A H' n C x:=by obtain ⟨q,qs,a,c,r,z⟩:=h;exact ⟨q,qs,a,c,r.same e,z⟩
theorem RowP.upto (h:RowP K A H n C x) (u:Upto b H H') (B:Bag H b) (nb:¬A b):RowP K A H' n C x:=by obtain ⟨q,qs,a,c,r,z⟩:=h;exact ⟨q,qs,a,c,r.upto u B (fun e=>nb (by rw[← e];exact c)),z⟩
theorem RowP.other (h:RowP K A H n C x) (hl:H l=some (.lst zs)) (nl:¬A l):RowP K A (upd H l o) n C x:=by obtain ⟨q,qs,a,c,r,z⟩:=h;exact ⟨q,qs,a,c,r.updL hl (fun e=>nl (by rw[← e];exact c)),z⟩
theorem RowP.weak (h:RowP K A H n C x) (w:∀q,A q->A' q) (wc:∀y,C y->C' y):RowP K A' H n C' x:=by obtain ⟨q,qs,a,c,r,l,z⟩:=h;exact ⟨q,qs,a,w q c,r,l,fun y hy=>wc y (z y hy)⟩
theorem paired_set {α β:Type} {F:α->β->Prop} {a:α} {b:β} (h:F a b):∀{l1:List α} {l2:List β} (j:Nat),Paired F l1 l2->Paired F (l1.set j a) (l2.set j b)
 | _,_,_,.nil=>.nil
 | _,_,0,.cons _ t=>.cons h t
 | _,_,j+1,.cons r t=>.cons r (paired_set h j t)
theorem RowP.put (h:RowP K A H n C x) (hq:H q=some (.lst zs)) (hv:NumQ K H y v) (hc:C y) (j:Nat):RowP K A (upd H q (.lst (zs.set j v))) n C x:=by
 obtain ⟨q1,qs,rfl,a,⟨zs1,g1,pr⟩,l1,c1⟩:=h
 by_cases e:q1=q
 ·subst e
  rw[hq] at g1
  cases g1
  refine ⟨q1,qs.set j y,rfl,a,⟨_,upd_same,paired_set (hv.updL hq) j (Paired.imp' (fun _ _ z=>z.updL hq) pr)⟩,by rw[List.length_set];exact l1,fun z hz=>?_⟩
  rcases List.mem_or_eq_of_mem_set hz with hz | rfl
  ·exact c1 z hz
  ·exact hc
 ·exact ⟨q1,qs,rfl,a,⟨zs1,by rw[upd_ne e];exact g1,Paired.imp' (fun _ _ z=>z.updL hq) pr⟩,l1,c1⟩
theorem RowP.at (h:RowP K A H n C x):∃q zs qs,x=V.ref q∧A q∧H q=some (.lst zs)∧zs.length=n∧Paired (NumQ K H) qs zs∧qs.length=n∧∀y∈qs,C y:=by obtain ⟨q,qs,a,c,⟨zs,g,pr⟩,l,z⟩:=h;exact ⟨q,zs,qs,a,c,g,by rw[← pr.length];exact l,pr,l,z⟩
end
theorem dr_int {W:Nat} {i:Int} (h:i.natAbs<=W) (hW:1<=W):Dr W (i:Rat):=⟨h,hW⟩
def GridP (K:PySem.W.Frag) (A:Addr->Prop) (H:Hp) (n:Nat) (C:Rat->Prop) (p:Addr) (m:Nat):Prop:=∃us,H p=some (.lst us)∧us.length=m∧¬A p∧∀x∈us,RowP K A H n C x
inductive sp_moveQ (K:PySem.W.Frag) (vs:List V) (H:Hp) (Q:VK) (E9:XK):Prop
 | mk (b:Addr) (n w:Nat) (way first:Int):vs=[.ref b,.int n,.int way,.int first,.int w]->Bag H b->n<=8->1<=w->w<=1000000->(∀r us H',H r=none->H' r=some (.lst us)->us.length=n->(∀x∈us,RowP K (fun q=>H q=none∧q≠r) H' n (Dr (max w 6)) x)->Bag H' b->Upto b H H'->Q (.ref r) H')->sp_moveQ K vs H Q E9
structure Mix (K:PySem.W.Frag) (A:Addr->Prop) (H:Hp) (n:Nat) (C:Rat->Prop) (m p l b q0:Addr) (i o:Nat):Prop where
 bag:Bag H b
 inn:Inner H b q0
 gm:GridP K A H n C m n
 gp:GridP K A H n C p i
 gl:GridP K A H n C l o
structure MixA (A:Addr->Prop) (m p l b q0:Addr):Prop where
 am:¬A m
 ap:¬A p
 al:¬A l
 ab:¬A b
 aq:¬A q0
 mb:m≠b
 pb:p≠b
 lb:l≠b
 mp:m≠p
 ml:m≠l
 mq:m≠q0
section
variable {K:PySem.W.Frag} {A:Addr->Prop} {H H':Hp} {n:Nat} {C C':Rat->Prop} {m p l b q0 q:Addr} {i o:Nat} {zs:List V} {y:Rat} {v:V}
theorem Mix.same (h:Mix K A H n C m p l b q0 i o) (e:Same H H'):Mix K A H' n C m p l b q0 i o:=by
 obtain ⟨B,I,⟨us,g1,l1,a1,r1⟩,⟨ws,g2,l2,a2,r2⟩,⟨vs,g3,l3,a3,r3⟩⟩:=h
 exact ⟨B.same e,(e.upto (p:=b)).2 _ I,⟨us,e _ _ g1,l1,a1,fun x hx=>(r1 x hx).same e⟩,⟨ws,e _ _ g2,l2,a2,fun x hx=>(r2 x hx).same e⟩,⟨vs,e _ _ g3,l3,a3,fun x hx=>(r3 x hx).same e⟩⟩
theorem Mix.upto (h:Mix K A H n C m p l b q0 i o) (M:MixA A m p l b q0) (u:Upto b H H') (B':Bag H' b):Mix K A H' n C m p l b q0 i o:=by
 obtain ⟨B,I,⟨us,g1,l1,a1,r1⟩,⟨ws,g2,l2,a2,r2⟩,⟨vs,g3,l3,a3,r3⟩⟩:=h
 exact ⟨B',u.2 _ I,⟨us,u.other M.mb g1,l1,a1,fun x hx=>(r1 x hx).upto u B M.ab⟩,⟨ws,u.other M.pb g2,l2,a2,fun x hx=>(r2 x hx).upto u B M.ab⟩,⟨vs,u.other M.lb g3,l3,a3,fun x hx=>(r3 x hx).upto u B M.ab⟩⟩
theorem Mix.weak (h:Mix K A H n C m p l b q0 i o) (w:∀y,C y->C' y):Mix K A H n C' m p l b q0 i o:=by
 obtain ⟨B,I,⟨us,g1,l1,a1,r1⟩,⟨ws,g2,l2,a2,r2⟩,⟨vs,g3,l3,a3,r3⟩⟩:=h
 exact ⟨B,I,⟨us,g1,l1,a1,fun x hx=>(r1 x hx).weak (fun _ z=>z) w⟩,⟨ws,g2,l2,a2,fun x hx=>(r2 x hx).weak (fun _ z=>z) w⟩,⟨vs,g3,l3,a3,fun x hx=>(r3 x hx).weak (fun _ z=>z) w⟩⟩
theorem Mix.put (h:Mix K A H n C m p l b q0 i o) (M:MixA A m p l b q0) (aq:A q) (hq:H q=some (.lst zs)) (hv:NumQ K H y v) (hc:C y) (j:Nat):Mix K A (upd H q (.lst (zs.set j v))) n C m p l b q0 i o:=by
 obtain ⟨B,I,⟨us,g1,l1,a1,r1⟩,⟨ws,g2,l2,a2,r2⟩,⟨vs,g3,l3,a3,r3⟩⟩:=h
 have ne:∀{z},¬A z->z≠q:=fun h e=>h (by rw[e];exact aq)
 exact ⟨B.upd I (ne M.ab).symm (ne M.aq).symm,I.upd (ne M.ab).symm,⟨us,by rw[upd_ne (ne M.am)];exact g1,l1,a1,fun x hx=>(r1 x hx).put hq hv hc j⟩,⟨ws,by rw[upd_ne (ne M.ap)];exact g2,l2,a2,fun x hx=>(r2 x hx).put hq hv hc j⟩,⟨vs,by rw[upd_ne (ne M.al)];exact g3,l3,a3,fun x hx=>(r3 x hx).put hq hv hc j⟩⟩
theorem Mix.row (h:Mix K A H n C m p l b q0 i o) (M:MixA A m p l b q0) {us:List V} (gm:H m=some (.lst us)) (hx:RowP K A H n C v) (j:Nat):Mix K A (upd H m (.lst (us.set j v))) n C m p l b q0 i o:=by
 obtain ⟨B,I,⟨us',g1,l1,a1,r1⟩,⟨ws,g2,l2,a2,r2⟩,⟨vs,g3,l3,a3,r3⟩⟩:=h
 rw[gm] at g1
 cases g1
 refine ⟨B.upd I M.mb M.mq,I.upd M.mb,⟨_,upd_same,by rw[List.length_set];exact l1,a1,fun x hx'=>?_⟩,⟨ws,by rw[upd_ne M.mp.symm];exact g2,l2,a2,fun x hx=>(r2 x hx).other gm M.am⟩,⟨vs,by rw[upd_ne M.ml.symm];exact g3,l3,a3,fun x hx=>(r3 x hx).other gm M.am⟩⟩
 rcases List.mem_or_eq_of_mem_set hx' with hx' | rfl
 ·exact (r1 x hx').other gm M.am
 ·exact hx.other gm M.am
end
inductive sp_mixedQ (K:PySem.W.Frag) (vs:List V) (H:Hp) (Q:VK) (E9:XK):Prop
 | mk (b m p l q0:Addr) (n i o M V:Nat) (A:Addr->Prop):vs=[.ref b,.ref m,.ref p,.ref l]->MixA A m p l b q0->Mix K A H n (Fr M V) m p l b q0 i o->n<=8->i<=4->o<=4->0 < M->M<=2^800->V<=2^20->(∀q,H q=none->A q)->(∀r H',H' r=some (.tup [.ref m,.ref p,.ref l])->Mix K A H' n (Fr M (3^60*V)) m p l b q0 i o->(∀c u,H c=some u->c≠b->¬A c->c≠m->H' c=some u)->Q (.ref r) H')->sp_mixedQ K vs H Q E9
theorem pow3_le {t V:Nat} (h:t<=60) (hV:V<=2^20):3^t*V<=2^140:=by
 have h1:3^t<=3^60:=Nat.pow_le_pow_right (by decide) h
 have h2:3^60<=2^120:=by
  have:(2:Nat)^120=4^60:=by rw[show (120:Nat)=2*60 from rfl,Nat.pow_mul]
  rw[this];exact Nat.pow_le_pow_left (by decide) 60
 calc 3^t*V<=2^120*2^20:=Nat.mul_le_mul (Nat.le_trans h1 h2) hV
  _=2^140:=by rw[← Nat.pow_add]
theorem frP_szn {M V t:Nat} {x:Rat} (h0:0 < M) (h1:M<=2^800) (hV:V<=2^20) (ht:t<=60) (h:Fr M (3^t*V) x):SzN x :=
 fr_szn h0 (Nat.le_trans h1 (Nat.pow_le_pow_right (by decide) (by decide))) (Nat.le_trans (pow3_le ht hV) (Nat.pow_le_pow_right (by decide) (by decide))) h
theorem fr_int2 {M:Nat} {z:Int} (h:z.natAbs<=2):Fr 1 2 (z:Rat):=Fr.int h
theorem fr_step {M W:Nat} {a c:Rat} {z:Int} (hz:z.natAbs<=2) (ha:Fr M W a) (hc:Fr M W c):Fr M (3*W) (a+(z:Rat)*c):=by
 have h:=(fr_int2 (M:=M) hz).mul hc
 rw[Nat.one_mul] at h
 exact (ha.add h).mono (by lia)
theorem szn_int {z:Int} (h:z.natAbs<=1000):SzN (z:Rat):=fr_szn (M:=1) (V:=1000) (by decide) (Nat.one_le_two_pow) (Nat.le_trans (show 1000<=2^10 by decide) (Nat.pow_le_pow_right (by decide) (by decide))) (Fr.int h)
theorem szn_mulP {M W:Nat} {c:Rat} {z:Int} (hz:z.natAbs<=2) (hc:Fr M W c) (h0:0 < M) (h1:M<=2^800) (hW:W<=2^140):SzN ((z:Rat)*c):=by
 have h:=(fr_int2 (M:=M) hz).mul hc
 rw[Nat.one_mul] at h
 refine fr_szn h0 (Nat.le_trans h1 (Nat.pow_le_pow_right (by decide) (by decide))) (Nat.le_trans (Nat.mul_le_mul_left 2 hW) ?_) h
 rw[show 2*2^140=2^141 by rw[Nat.pow_succ,Nat.mul_comm]]
 exact Nat.pow_le_pow_right (by decide) (by decide)
theorem pow3_s {t V:Nat}:3*(3^t*V)=3^(t+1)*V:=by rw[Nat.pow_succ,Nat.mul_comm (3^t) 3,Nat.mul_assoc]
theorem pow3_m {s t V:Nat} (h:s<=t):3^s*V<=3^t*V:=Nat.mul_le_mul_right _ (Nat.pow_le_pow_right (by decide) h)
def KeepC (A:Addr->Prop) (b m:Addr) (H H':Hp):Prop:=∀c u,H c=some u->c≠b->¬A c->c≠m->H' c=some u
theorem KeepC.same {A:Addr->Prop} {b m:Addr} {H H1 H2:Hp} (h:KeepC A b m H H1) (s:Same H1 H2):KeepC A b m H H2:=fun c u e n1 n2 n3=>s _ _ (h c u e n1 n2 n3)
theorem KeepC.upto {A:Addr->Prop} {b m:Addr} {H H1 H2:Hp} (h:KeepC A b m H H1) (s:Upto b H1 H2):KeepC A b m H H2:=fun c u e n1 n2 n3=>s.1 _ _ (h c u e n1 n2 n3) n1
theorem KeepC.upd {A:Addr->Prop} {b m q:Addr} {H H1:Hp} {o:HO} (h:KeepC A b m H H1) (hq:A q∨q=m):KeepC A b m H (L2.upd H1 q o):=fun c u e n1 n2 n3=>by
 rw[upd_ne]
 ·exact h c u e n1 n2 n3
 ·rintro rfl
  rcases hq with hq | hq
  ·exact n2 hq
  ·exact n3 hq
theorem KeepC.new {A:Addr->Prop} {b m r:Addr} {H H1:Hp} (h:KeepC A b m H H1) (hA:∀q,H q=none->A q) (B:Bag H1 b) (hm:H1 m≠none) (hr:H1 r=none):A r:=by
 by_cases z:A r
 ·exact z
 ·cases e:H r with
  | none=>exact hA r e
  | some u =>
   have:=h r u e (fun y=>B.at (by rw[← y];exact hr)) z (fun y=>hm (by rw[← y];exact hr))
   rw[hr] at this;cases this
structure MvJ (K:PySem.W.Frag) (A:Addr->Prop) (n:Nat) (C:Rat->Prop) (r p b q0:Addr) (us:List V) (H0 H:Hp):Prop where
 gr:H r=some (.lst us)
 ru:∀x∈us,RowP K A H n C x
 rp:RowP K A H n C (.ref p)
 bag:Bag H b
 inn:Inner H b q0
 up:Upto b H0 H
section
variable {K:PySem.W.Frag} {A:Addr->Prop} {n:Nat} {C:Rat->Prop} {r p b q0:Addr} {us:List V} {H0 H H':Hp} {y:Rat} {v:V}
theorem MvJ.same (h:MvJ K A n C r p b q0 us H0 H) (e:Same H H'):MvJ K A n C r p b q0 us H0 H':=⟨e _ _ h.gr,fun x hx=>(h.ru x hx).same e,h.rp.same e,h.bag.same e,(e.upto (p:=b)).2 _ h.inn,h.up.same e⟩
theorem MvJ.upto (h:MvJ K A n C r p b q0 us H0 H) (u:Upto b H H') (B:Bag H' b) (nb:¬A b) (rb:r≠b):MvJ K A n C r p b q0 us H0 H':=⟨u.other rb h.gr,fun x hx=>(h.ru x hx).upto u h.bag nb,h.rp.upto u h.bag nb,B,u.2 _ h.inn,h.up.trans u⟩
theorem MvJ.put (h:MvJ K A n C r p b q0 us H0 H) (ap:A p) (nr:¬A r) (nb:¬A b) (nq:¬A q0) (hp:H0 p=none) (hv:NumQ K H y v) (hc:C y) (j:Nat):∃zs,H p=some (.lst zs)∧zs.length=n∧MvJ K A n C r p b q0 us H0 (upd H p (.lst (zs.set j v))):=by
 obtain ⟨q,zs,qs,e,a,g,l,_⟩:=h.rp.at
 cases e
 have ne:∀{z},¬A z->z≠p:=fun h e=>h (by rw[e];exact ap)
 exact ⟨zs,g,l,by rw[upd_ne (ne nr)];exact h.gr,fun x hx=>(h.ru x hx).put g hv hc j,h.rp.put g hv hc j,h.bag.upd h.inn (ne nb).symm (ne nq).symm,h.inn.upd (ne nb).symm,h.up.after hp⟩
end
theorem rowsP_pick {K:PySem.W.Frag} {A:Addr->Prop} {H:Hp} {n:Nat} {C:Rat->Prop} {us:List V} (h:∀x∈us,RowP K A H n C x):∃rows:List (List Rat),Paired (fun qs x=>∃q,x=V.ref q∧A q∧RowQ K H q qs) rows us∧rows.length=us.length∧∀qs∈rows,qs.length=n∧∀y∈qs,C y:=by
 induction us with
 | nil=>exact ⟨[],.nil,rfl,fun _ z=>nomatch z⟩
 | cons u us ih =>
  obtain ⟨rows,pr,l,hr⟩:=ih fun x hx=>h x (.tail _ hx)
  obtain ⟨q,qs,e,a,r,l1,c⟩:=h u (.head _)
  refine ⟨qs :: rows,.cons ⟨q,e,a,r⟩ pr,by simp [l],fun zs hz=>?_⟩
  rcases List.mem_cons.mp hz with rfl | hz
  ·exact ⟨l1,c⟩
  ·exact hr zs hz
theorem rowsP_back {K:PySem.W.Frag} {A:Addr->Prop} {H:Hp} {n:Nat} {C:Rat->Prop} {us:List V} {rows:List (List Rat)} (pr:Paired (fun qs x=>∃q,x=V.ref q∧A q∧RowQ K H q qs) rows us) (h:∀qs∈rows,qs.length=n∧∀y∈qs,C y):∀x∈us,RowP K A H n C x:=fun x hx=>by
 obtain ⟨qs,hq,q,e,a,r⟩:=paired_mem pr hx
 exact ⟨q,qs,e,a,r,(h qs hq).1,(h qs hq).2⟩
theorem flat_lenS {n:Nat}:∀{rows:List (List Rat)},(∀xs∈rows,xs.length=n)->rows.flatten.length=rows.length*n
 | [],_=>by simp
 | xs :: rows,h=>by
  rw[List.flatten_cons,List.length_append,h xs (.head _),flat_lenS fun ys hy=>h ys (.tail _ hy),List.length_cons,Nat.succ_mul,Nat.add_comm]
theorem rows_fr {c n:Nat} {rows:List (List Rat)} (h:∀qs∈rows,qs.length=n∧∀y∈qs,Dr (2^c) y):∃M:Nat,0 < M∧M<=2^(c*(rows.length*n))∧∀qs∈rows,∀y∈qs,Fr M (2^c) y:=by
 have fl:rows.flatten.length=rows.length*n:=flat_lenS fun ys hy=>(h ys hy).1
 have hm:∀a∈rows.flatten.map (·.den),0 < a∧a<=2^c:=fun a ha=>by
  obtain ⟨y,hy,rfl⟩:=List.mem_map.mp ha
  obtain ⟨qs,hq,hy⟩:=List.mem_flatten.mp hy
  exact ⟨y.den_pos,((h qs hq).2 y hy).2⟩
 refine ⟨prodN (rows.flatten.map (·.den)),prodN_pos fun a ha=>(hm a ha).1,?_,fun qs hq y hy=>?_⟩
 ·have:=prodN_le (k:=c) (l:=rows.flatten.map (·.den)) fun a ha=>(hm a ha).2
  rwa [List.length_map,fl] at this
 ·exact (Fr.own y ((h qs hq).2 y hy).1).dvd (prodN_dvd (List.mem_map.mpr ⟨y,List.mem_flatten.mpr ⟨qs,hq,hy⟩,rfl⟩))
theorem Mix.fr {K:PySem.W.Frag} {A:Addr->Prop} {H:Hp} {n c:Nat} {m p l b q0:Addr} {i o:Nat} (h:Mix K A H n (Dr (2^c)) m p l b q0 i o):∃M,0 < M∧M<=2^(c*((n+i+o)*n))∧Mix K A H n (Fr M (2^c)) m p l b q0 i o:=by
 obtain ⟨B,I,⟨us,g1,l1,a1,r1⟩,⟨ws,g2,l2,a2,r2⟩,⟨vs,g3,l3,a3,r3⟩⟩:=h
 obtain ⟨ra,pa,la,ha⟩:=rowsP_pick r1
 obtain ⟨rb,pb,lb,hb⟩:=rowsP_pick r2
 obtain ⟨rc,pc,lc,hc⟩:=rowsP_pick r3
 obtain ⟨M,m0,m1,m2⟩:=rows_fr (c:=c) (n:=n) (rows:=ra++rb++rc) fun qs hq=>by
  rcases List.mem_append.mp hq with hq | hq
  ·rcases List.mem_append.mp hq with hq | hq
   ·exact ha qs hq
   ·exact hb qs hq
  ·exact hc qs hq
 refine ⟨M,m0,?_,⟨B,I,⟨us,g1,l1,a1,rowsP_back pa fun qs hq=>⟨(ha qs hq).1,m2 qs (by simp [hq])⟩⟩,⟨ws,g2,l2,a2,rowsP_back pb fun qs hq=>⟨(hb qs hq).1,m2 qs (by simp [hq])⟩⟩,⟨vs,g3,l3,a3,rowsP_back pc fun qs hq=>⟨(hc qs hq).1,m2 qs (by simp [hq])⟩⟩⟩⟩
 rw[List.length_append,List.length_append,la,lb,lc,l1,l2,l3] at m1
 exact m1
theorem gridP_grid {K:PySem.W.Frag} {A:Addr->Prop} {H H0:Hp} {n m:Nat} {C:Rat->Prop} {p:Addr} (h:GridP K A H n C p m) (w:∀q,A q->H0 q=none):∃rows,GridQ K H0 H p rows∧rows.length=m∧∀qs∈rows,qs.length=n∧∀y∈qs,C y:=by
 obtain ⟨us,g,l,a,r⟩:=h
 obtain ⟨rows,pr,lr,hr⟩:=rowsP_pick r
 refine ⟨rows,⟨us,g,Paired.imp' (fun _ _ ⟨q,e,aq,rq⟩=>⟨q,e,w q aq,rq⟩) pr,fun hm=>?_⟩,by rw[lr,l],hr⟩
 obtain ⟨q,_,e,aq,_⟩:=r _ hm
 cases e
 exact a aq
inductive sp_partsQ (K:PySem.W.Frag) (vs:List V) (H:Hp) (Q:VK) (E9:XK):Prop
 | mk (b:Addr) (n i o w c:Nat):vs=[.ref b,.int n,.int i,.int o,.int w]->Bag H b->n<=8->i<=4->o<=4->1<=w->w<=1000000->max w 6<=2^c->c<=20->c*((n+i+o)*n)<=800->(∀r m p l mv pt lk H',H' r=some (.tup [.ref m,.ref p,.ref l])->H m=none->H p=none->H l=none->GridQ K H H' m mv->GridQ K H H' p pt->GridQ K H H' l lk->mv.length=n->pt.length=i->lk.length=o->SysD mv pt lk->SFits mv pt lk->Bag H' b->Upto b H H'->Q (.ref r) H')->sp_partsQ K vs H Q E9
theorem KeepC.trans {A:Addr->Prop} {b m:Addr} {H H1 H2:Hp} (h:KeepC A b m H H1) (h':KeepC A b m H1 H2):KeepC A b m H H2:=fun c u e n1 n2 n3=>h' c u (h c u e n1 n2 n3) n1 n2 n3
structure PtI (K:PySem.W.Frag) (A:Addr->Prop) (n:Nat) (C:Rat->Prop) (m p l b q0:Addr) (i o:Nat) (ws vs:List V) (H0 H:Hp):Prop where
 mix:Mix K A H n C m p l b q0 i o
 gp:H p=some (.lst ws)
 gl:H l=some (.lst vs)
 kp:KeepC A b m H0 H
section
variable {K:PySem.W.Frag} {A:Addr->Prop} {n:Nat} {C:Rat->Prop} {m p l b q0 q:Addr} {i o:Nat} {ws vs:List V} {H0 H H':Hp} {y:Rat} {v:V}
theorem PtI.same (h:PtI K A n C m p l b q0 i o ws vs H0 H) (e:Same H H'):PtI K A n C m p l b q0 i o ws vs H0 H':=⟨h.mix.same e,e _ _ h.gp,e _ _ h.gl,h.kp.same e⟩
theorem PtI.upto (h:PtI K A n C m p l b q0 i o ws vs H0 H) (M:MixA A m p l b q0) (u:Upto b H H') (B:Bag H' b):PtI K A n C m p l b q0 i o ws vs H0 H':=⟨h.mix.upto M u B,u.other M.pb h.gp,u.other M.lb h.gl,h.kp.upto u⟩
theorem PtI.row (h:PtI K A n C m p l b q0 i o ws vs H0 H) {x:V} (hx:x∈ws∨x∈vs):RowP K A H n C x:=by
 obtain ⟨ws',g,_,_,r⟩:=h.mix.gp
 obtain ⟨vs',g',_,_,r'⟩:=h.mix.gl
 rw[h.gp] at g
 rw[h.gl] at g'
 cases g
 cases g'
 rcases hx with hx | hx
 ·exact r x hx
 ·exact r' x hx
theorem PtI.put (h:PtI K A n C m p l b q0 i o ws vs H0 H) (M:MixA A m p l b q0) (hx:V.ref q∈ws∨V.ref q∈vs) (hv:NumQ K H y v) (hc:C y) (j:Nat):∃zs,H q=some (.lst zs)∧zs.length=n∧PtI K A n C m p l b q0 i o ws vs H0 (upd H q (.lst (zs.set j v))):=by
 obtain ⟨q',zs,qs,e,a,g,lz,_⟩:=(h.row hx).at
 cases e
 have ne:∀{z},¬A z->z≠q:=fun h e=>h (by rw[e];exact a)
 exact ⟨zs,g,lz,h.mix.put M a g hv hc j,by rw[upd_ne (ne M.ap)];exact h.gp,by rw[upd_ne (ne M.al)];exact h.gl,h.kp.upd (.inl a)⟩
end
theorem rowF_P {K:PySem.W.Frag} {A:Addr->Prop} {H0 H:Hp} {n:Nat} {C:Rat->Prop} {us:List V} {rows:List (List Rat)} (pr:Paired (RowF K H0 H) rows us) (h:∀qs∈rows,qs.length=n∧∀y∈qs,C y) (w:∀q,V.ref q∈us->H0 q=none->H q≠none->A q):∀x∈us,RowP K A H n C x:=fun x hx=>by
 obtain ⟨qs,hq,q,e,a,r⟩:=paired_mem pr hx
 subst e
 exact ⟨q,qs,rfl,w q hx a (by obtain ⟨_,g,_⟩:=r;rw[g];simp),r,(h qs hq).1,(h qs hq).2⟩
def sp_sizesS:Sp:=fun vs H Q _=>∃b,vs=[.ref b]∧Bag H b∧∀r (n i o w:Nat) H',H' r=some (.tup [.int n,.int i,.int o,.int w])->n<=5->i<=4->o<=4->(w=4∨w=9∨(w=1000000∧n<=2))->(n=5->i<=2∧o<=2)->Bag H' b->Upto b H H'->Q (.ref r) H'
end L2
namespace L2
open PySem PySem.Spec PyProof.Rows Nm
def PartsQ (K:PySem.W.Frag) (H0 H:Hp) (r:Addr) (mv pt lk:List (List Rat)):Prop:=∃m p l,H r=some (.tup [.ref m,.ref p,.ref l])∧H0 m=none∧H0 p=none∧H0 l=none∧GridQ K H0 H m mv∧GridQ K H0 H p pt∧GridQ K H0 H l lk
section
variable {K:PySem.W.Frag} {H H' H0 H1:Hp} {r b:Addr} {mv pt lk:List (List Rat)}
theorem PartsQ.same (h:PartsQ K H0 H r mv pt lk) (e:Same H H'):PartsQ K H0 H' r mv pt lk:=by obtain ⟨m,p,l,g,n1,n2,n3,g1,g2,g3⟩:=h;exact ⟨m,p,l,e _ _ g,n1,n2,n3,g1.same e,g2.same e,g3.same e⟩
theorem PartsQ.upto (h:PartsQ K H0 H r mv pt lk) (u:Upto b H H') (B:Bag H b) (nb:H0 b≠none):PartsQ K H0 H' r mv pt lk:=by
 obtain ⟨m,p,l,g,n1,n2,n3,g1,g2,g3⟩:=h
 exact ⟨m,p,l,u.tup B g,n1,n2,n3,g1.upto u B (fun z=>nb (by rw[← z];exact n1)) nb,g2.upto u B (fun z=>nb (by rw[← z];exact n2)) nb,g3.upto u B (fun z=>nb (by rw[← z];exact n3)) nb⟩
theorem PartsQ.weak (h:PartsQ K H0 H r mv pt lk) (e:∀q,H0 q=none->H1 q=none):PartsQ K H1 H r mv pt lk:=by
 obtain ⟨m,p,l,g,n1,n2,n3,⟨x1,y1,z1,w1⟩,⟨x2,y2,z2,w2⟩,⟨x3,y3,z3,w3⟩⟩:=h
 exact ⟨m,p,l,g,e _ n1,e _ n2,e _ n3,⟨x1,y1,Paired.imp' (fun _ _ ⟨q,a,b,c⟩=>⟨q,a,e _ b,c⟩) z1,w1⟩,⟨x2,y2,Paired.imp' (fun _ _ ⟨q,a,b,c⟩=>⟨q,a,e _ b,c⟩) z2,w2⟩,⟨x3,y3,Paired.imp' (fun _ _ ⟨q,a,b,c⟩=>⟨q,a,e _ b,c⟩) z3,w3⟩⟩
end
def sp_drawnQ (K:PySem.W.Frag):Sp:=fun vs H Q _=>∃b,vs=[.ref b]∧Bag H b∧∀t r (w:Nat) mv pt lk H',H' t=some (.tup [.ref r,.int w])->PartsQ K H H' r mv pt lk->SysD mv pt lk->SFits mv pt lk->mv.length<=5->1<=w->w<=1000->Bag H' b->Upto b H H'->Q (.ref t) H'
theorem pe_isTb {X:Cx} (K:PySem.W.Frag) {a:Expr} {ta:TE} {pos:Pos} {c:Str} {T:String} {p p2:Pos} (hg:Gl X "isinstance") (hm:X.mg "isinstance"=none) (hb:bootBuiltins c=some (.type T)) (hmc:X.mg c=none) (ha:PE X a ta) (hK:X.K=K:=by rfl) (hgc:Gl X c:=by rfl) (hn:c≠"__name__":=by decide)
  (hd:(c == ("__debug__":Str))=false:=by decide) (he:starEach [a,.Name c p2] X.env=[(false,eval a X.env),(false,eval (.Name c p2) X.env)]:=by rfl)
  (hpl:(backTo pos (starEach [.Name c p2] X.env)).any (·.1)=false:=by rfl) (he2:starEach [.Name c p2] X.env=[(false,eval (.Name c p2) X.env)]:=by rfl):PE X (.Call (.Name "isinstance" p) [a,.Name c p2] [] pos) (tUn (rIsT K T) ta):=by
 subst hK
 exact pe_isT hg hm hb hmc ha hgc hn hd he hpl he2
end L2
namespace L2
open PySem PySem.Spec PyProof.Rows Nm
end L2
namespace L2
open PySem PySem.Spec PyProof.Rows Nm
def kStr:Kind Str where
 R:=fun _ _ x i=>x=.str i
 d:=0
 inj:=fun _ h1 h2=>by rw[h1] at h2;cases h2;rfl
 rc:=fun {X pins σ H s x y v u a b A} I rx ry h1 h2 _=>by
  subst h1 h2
  obtain ⟨t,rfl⟩:=rx
  obtain ⟨t',rfl⟩:=ry
  have q:=SeqAt.RcAt.str_str (A:=A) (s:=s) a t b t'
  rwa [Bool.beq_eq_decide_eq] at q
 ne:=fun {X pins σ H s x y v u a b A} I rx ry h1 h2 _=>by
  subst h1 h2
  obtain ⟨t,rfl⟩:=rx
  obtain ⟨t',rfl⟩:=ry
  have q:=SeqAt.RcNeAt.str_str (A:=A) (s:=s) a t b t'
  rwa [Bool.beq_eq_decide_eq] at q
 eq:=fun {X pins σ H s x y v u a b A} I rx ry h1 h2 _=>by
  subst h1 h2
  obtain ⟨t,rfl⟩:=rx
  obtain ⟨t',rfl⟩:=ry
  have q:=SeqAt.EqAt.str_str (A:=A) (s:=s) a t b t'
  rwa [Bool.beq_eq_decide_eq] at q
end L2
namespace L2
open PySem PySem.Spec PyProof.Rows Nm
def Its (x:Str):It:=⟨fun i _=>i < x.cps.toList.length,fun i H v H'=>H'=H∧∃c,x.cps.toList[i]?=some c∧v=.str ⟨#[c]⟩,fun i _=>i=x.cps.toList.length⟩
theorem turn_str {P:Program} {w:World} {K:PySem.W.Frag} {tg:Expr} (it:Addr) (x:Str) (t:Tok) (ty:String)
  (hn:["enumerate","zip","dict_itemiterator","dict_reverseitemiterator","odict_iterator","itertools.zip_longest","itertools.pairwise"].contains ty=false)
  (W:∀A':Around,A'.handled=none->Walks P w A' it [it] [it] x.cps.size (SignAt x) (fun i h=>h.IsStrIter it ty x t i))
  (S:∀(A:Around) (i:Nat) (s:Shared) (Q:Value->Shared->Prop) (E:Value->Shared->Prop),s.heap.IsStrIter it ty x t i->Q (.ref it) s->wpAny (model P w) A (pyIter (.ref it)) Q E s) :
  Turn P w K tg (Its x) [it] it (fun i h=>h.IsStrIter it ty x t i) where
 mem:=by simp
 obj:=fun i h st b hb=>by
  have e:b=it:=by simpa using hb
  subst e
  obtain ⟨o,ho,_,hd⟩:=st
  exact ⟨o,ho,fun v z=>by rw[hd] at z;cases z⟩
 keep:=fun i h h' ⟨o,ho,r⟩ k=>⟨o,k it (by simp) _ ho,r⟩
 item:=by
  intro X hP hw hK hc i pins s σ H E I hf st hg
  subst hP hw hK
  obtain ⟨f0,f1,f2,f3,f4,f5⟩:=hf it (by simp)
  have hg':i < x.cps.size:=by simpa using (show i < x.cps.toList.length from hg)
  refine (W X.A (I.ok.hd hc)).item i s _ _ hg' st fun v h' tk hv st' kk=>?_
  obtain ⟨c,u,ec,rfl⟩:=hv
  have I1:Inv X pins σ H { s with heap:=h',toks:=tk }:=I.turned (fun b o hb e=>kk b o (by simpa using hb) e) f0 f1 f3 f4 f5
  obtain ⟨o,ho,hcl,hd⟩:=id st'
  refine ⟨_,rfl,go_of (s:={ s with heap:=h',toks:=tk }) (n:=ty) ho hcl hd hn ⟨.str ⟨#[c]⟩,H,I1,⟨u,rfl⟩,⟨rfl,c,by simpa using ec,rfl⟩,st',fun b hb=>(hf b hb).1⟩⟩
 done:=by
  intro X hP hw hK hc i pins s σ H E I hf st hg
  subst hP hw hK
  obtain ⟨f0,f1,f2,f3,f4,f5⟩:=hf it (by simp)
  have e:i=x.cps.size:=by simpa using (show i=x.cps.toList.length from hg)
  subst e
  exact (W X.A (I.ok.hd hc)).done s _ _ st fun h' tk kk=>⟨rfl,I.turned (t':=tk) (fun b o hb e=>kk b o (by simpa using hb) e) f0 f1 f3 f4 f5⟩
 self:=S
def iStr (tl:TE):TI:=fun σ H R=>tl σ H fun x H1=>∃y,x=.str y∧R (Its y) H1
theorem pi_str {X : Cx} {tg l : Expr} {tl : TE} (hl : PE X l tl) : PI X tg l (iStr tl) := by
  intro pins s σ H R I h
  refine thn (hl pins s σ H _ I h) fun v s1 ⟨x, H1, I1, r1, q1⟩ => ?_
  obtain ⟨y, e, q⟩ := q1
  subst e
  obtain ⟨t, rfl⟩ := r1
  refine wpAny_pyIter_strU ?_
  have hf : ∀ b ∈ [s1.heap.objs.size], FpOk X pins H1 b := fun b hb => by
    have e : b = s1.heap.objs.size := by simpa using hb
    subst e
    exact I1.fpOk (Nat.le_refl _) (I1.hok.fresh (Nat.le_refl _))
  cases ha : y.cps.all (· < 128)
  · have et : strIterType y = "str_iterator" := by simp [strIterType, ha]
    rw [et]
    exact ⟨s1.heap.objs.size, [s1.heap.objs.size], _, _, H1, rfl, I1.kept (t' := s1.toks) fun b o e => Heap.get?_push_of_some _ e, turn_str _ y t _ (by decide) (fun A' hA => Walks.strWide hA _ y t) (fun _ _ _ _ _ st h => wpAny_pyIter_striter_wide st h), ⟨_, Heap.get?_push_size _ rfl, rfl, rfl⟩, hf, q⟩
  · have et : strIterType y = "str_ascii_iterator" := by simp [strIterType, ha]
    rw [et]
    exact ⟨s1.heap.objs.size, [s1.heap.objs.size], _, _, H1, rfl, I1.kept (t' := s1.toks) fun b o e => Heap.get?_push_of_some _ e, turn_str _ y t _ (by decide) (fun A' hA => Walks.strAscii hA _ y t) (fun _ _ _ _ _ st h => wpAny_pyIter_striter_ascii st h), ⟨_, Heap.get?_push_size _ rfl, rfl, rfl⟩, hf, q⟩
theorem for_str {x:Str} {g:TG} {tb:TS} {D:Ends} {σ:St} {H:Hp} (Pv:Nat->St->Hp->Prop) (h0:Pv 0 σ H)
  (hs:∀i c σ H,x.cps.toList[i]?=some c->Pv i σ H->g (.str ⟨#[c]⟩) σ H fun σ2 H2=>tb { D with nx:=Pv (i+1),ct:=Pv (i+1),bk:=D.nx } σ2 H2) (hd:∀σ H,Pv x.cps.toList.length σ H->D.nx σ H) :
  ∃W:Nat->Nat->St->Hp->Prop,(∃m,W 0 m σ H)∧∀i m σ H,W i m σ H →
   ((Its x).stop i H∧D.nx σ H)∨((Its x).go i H∧∃N:St->Hp->Prop,(∀σ' H',N σ' H'->∃m',m' < m∧W (i+1) m' σ' H')∧∀v H',(Its x).yld i H v H'->g v σ H' fun σ2 H2=>tb { D with nx:=N,ct:=N,bk:=D.nx } σ2 H2):=by
 refine ⟨fun i m σ H=>m=x.cps.toList.length - i∧i<=x.cps.toList.length∧Pv i σ H,⟨x.cps.toList.length,by simp,Nat.zero_le _,h0⟩,?_⟩
 rintro i m σ H ⟨rfl,hi,p⟩
 by_cases hlt:i < x.cps.toList.length
 ·refine .inr ⟨hlt,Pv (i+1),fun σ' H' p'=>⟨x.cps.toList.length - (i+1),by lia,rfl,hlt,p'⟩,fun v H' y=>?_⟩
  obtain ⟨e,c,ec,y⟩:=y
  subst e y
  exact hs i c σ _ ec p
 ·have e:i=x.cps.toList.length:=by lia
  subst e
  exact .inl ⟨rfl,hd σ H p⟩
theorem comp_str {x:Str} {g:TG} {tf:TT} {te:TE} {Q:VK} {σ₀:St} {H:Hp} (Pv:Nat->List V->Hp->Prop) (hz:x.cps.toList.length<=sizeLine) (h0:Pv 0 [] H)
  (hs:∀i c ys H,x.cps.toList[i]?=some c->ys.length<=i->Pv i ys H->tTurn σ₀ g tf te (.str ⟨#[c]⟩) H (fun y H'=>Pv (i+1) (ys++[y]) H') fun H'=>Pv (i+1) ys H')
  (hd:∀ys H,ys.length<=x.cps.toList.length->Pv x.cps.toList.length ys H->∀p,H p=none->Q (.ref p) (upd H p (.lst ys))):CompW (Its x) σ₀ g tf te Q H:=by
 refine ⟨fun i m ys H=>m=x.cps.toList.length - i∧i<=x.cps.toList.length∧ys.length<=i∧Pv i ys H,⟨x.cps.toList.length,by simp,Nat.zero_le _,Nat.zero_le _,h0⟩,?_⟩
 rintro i m ys H ⟨rfl,hi,hy,p⟩
 by_cases hlt:i < x.cps.toList.length
 ·refine .inr ⟨hlt,by lia,fun y H'=>Pv (i+1) (ys++[y]) H',fun H'=>Pv (i+1) ys H',fun y H' p'=>⟨x.cps.toList.length - (i+1),by lia,rfl,hlt,by rw[List.length_append,List.length_singleton];lia,p'⟩,fun H' p'=>⟨x.cps.toList.length - (i+1),by lia,rfl,hlt,by lia,p'⟩,fun v H' y=>?_⟩
  obtain ⟨e,c,ec,y⟩:=y
  subst e y
  exact hs i c ys _ ec hy p
 ·have e:i=x.cps.toList.length:=by lia
  subst e
  exact .inl ⟨rfl,by lia,hd ys H hy p⟩
theorem vals_strsFrom:∀(xs:List Str) (tk:Nat),Vals (xs.map V.str) (strsFrom tk xs)
 | [],_=>.nil
 | x :: xs,tk=>.cons ⟨tk,rfl⟩ (vals_strsFrom xs (tk+1))
def rSplit:V->List V->Hp->VK->Prop:=fun x vs H Q=>∃a b:Str,x=.str a∧vs=[.str b]∧a.length<=1000000∧(b.length == 0)=false∧∀p,H p=none->Q (.ref p) (upd H p (.lst ((Txt.split a b).map V.str)))
theorem big10000 {n:Nat} (h:n<=1000002):n<=sizeLine:=by
 have h3:(1000002:Nat)<=sizeLine:=by rw[sizeLine_eq];decide
 lia
theorem mt_split {X:Cx}:MtM X "str.split" rSplit:=by
 intro pins s σ H x vs v us Q I rx rv h
 obtain ⟨a,b,rfl,rfl,ha,hb,q⟩:=h
 obtain ⟨t,rfl⟩:=rx
 obtain ⟨u,rfl,t',rfl⟩:=rv.one
 have hl:=split_le a b
 have fin:∀(its:List Value) (tk:Nat),Vals ((Txt.split a b).map V.str) its->EP X pins σ Q (.ref s.heap.objs.size) { s with heap:=s.heap.push { cls:=.type "list",data:=.seq its.toArray },toks:=tk }:=fun its tk hv =>
  ⟨.ref _,_,I.laid (t':=tk) (o:=.lst ((Txt.split a b).map V.str)) (fun b ob q=>Heap.get?_push_of_some _ q) (Nat.le_refl _) ⟨by rw[List.length_map];exact big10000 (by lia),_,0,hv,Heap.get?_push_size _ rfl⟩,rfl,q _ (I.hok.fresh (Nat.le_refl _))⟩
 unfold Txt.split at fin
 by_cases h1:(decide (a.length < b.length) || decide (Builtin.Str.strKind a < Builtin.Str.strKind b))=true
 ·rw[if_pos h1] at fin
  exact call_meets F.slot_str_split (typeIs_str _ _ _) F.entry_str_split (F.args_str_split_2 _ _) (meets_str_split_cannot_occur a b t t' h1) (fin _ s.toks (.cons ⟨t,rfl⟩ .nil))
 rw[if_neg h1] at fin
 have h1':=Bool.eq_false_iff.mpr h1
 by_cases h2:(Builtin.Str.occurrences a b 0 a.length (a.length+1)).isEmpty=true
 ·rw[if_pos h2] at fin
  exact call_meets F.slot_str_split (typeIs_str _ _ _) F.entry_str_split (F.args_str_split_2 _ _) (meets_str_split_not_found a b t t' h1' hb h2) (fin _ s.toks (.cons ⟨t,rfl⟩ .nil))
 rw[if_neg h2] at fin
 have e:Txt.split a b=Builtin.Str.partsBetween a (Builtin.Str.occurrences a b 0 a.length (a.length+1)) b.length:=by
  unfold Txt.split
  rw[if_neg h1,if_neg h2]
 refine call_meets F.slot_str_split (typeIs_str _ _ _) F.entry_str_split (F.args_str_split_2 _ _) (meets_str_split_sep a b t t' h1' hb (Bool.eq_false_iff.mpr h2) (big10000 (by lia)) (by rw[← e];exact big10000 (by lia))) ?_
 exact fin _ _ (vals_strsFrom _ _)
def rPart:V->List V->Hp->VK->Prop:=fun x vs H Q=>∃a b:Str,x=.str a∧vs=[.str b]∧a.length<=10000∧(b.length == 0)=false∧∀p,H p=none->Q (.ref p) (upd H p (.tup [.str (Txt.partition a b).1,.str (Txt.partition a b).2.1,.str (Txt.partition a b).2.2]))
theorem mt_part {X:Cx}:MtM X "str.partition" rPart:=by
 intro pins s σ H x vs v us Q I rx rv h
 obtain ⟨a,b,rfl,rfl,ha,hb,q⟩:=h
 obtain ⟨t,rfl⟩:=rx
 obtain ⟨u,rfl,t',rfl⟩:=rv.one
 have fin:∀(its:List Value) (tk:Nat),Vals [.str (Txt.partition a b).1,.str (Txt.partition a b).2.1,.str (Txt.partition a b).2.2] its->EP X pins σ Q (.ref s.heap.objs.size) { s with heap:=s.heap.push { cls:=.type "tuple",data:=.seq its.toArray },toks:=tk }:=fun its tk hv =>
  ⟨.ref _,_,I.laid (t':=tk) (o:=.tup _) (fun b ob q=>Heap.get?_push_of_some _ q) (Nat.le_refl _) ⟨by show 3<=sizeLine;exact big10000 (by lia),_,hv,⟨_,Heap.get?_push_size _ rfl,rfl,_,rfl⟩⟩,rfl,q _ (I.hok.fresh (Nat.le_refl _))⟩
 refine call_meets F.slot_str_partition (typeIs_str _ _ _) F.entry_str_partition (F.args_str_partition_2 _ _) (meets_str_partition a b t t' hb (big10000 (by lia))) ?_
 unfold Txt.partition at fin
 cases e:Builtin.Str.occurrences a b 0 a.length 1 with
 | nil =>
  rw[e] at fin
  exact fin _ _ (.cons ⟨_,rfl⟩ (.cons ⟨_,rfl⟩ (.cons ⟨_,rfl⟩ .nil)))
 | cons i r =>
  rw[e] at fin
  exact fin _ _ (.cons ⟨_,rfl⟩ (.cons ⟨_,rfl⟩ (.cons ⟨_,rfl⟩ .nil)))
def rStarts:V->List V->Hp->VK->Prop:=fun x vs H Q=>∃(a:Str) (c:Nat),x=.str a∧vs=[.str ⟨#[c]⟩]∧Q (.bl (decide (a.cps.toList.head?=some c))) H
theorem starts_one (a:Str) (c:Nat):(decide (0+(⟨#[c]⟩:Str).length<=a.length) && Builtin.Str.subAt a ⟨#[c]⟩ 0)=decide (a.cps.toList.head?=some c):=by
 obtain ⟨⟨l⟩⟩:=a
 cases l with
 | nil=>rfl
 | cons d r =>
  show (decide (0+1<=(d :: r).length) && ((d :: r).toArray.extract 0 (0+1) == #[c]))=decide (some d=some c)
  rw[decide_eq_true (show 0+1<=(d :: r).length by simp),Bool.true_and,Bool.eq_iff_iff]
  simp
theorem mt_starts {X:Cx}:MtM X "str.startswith" rStarts:=by
 intro pins s σ H x vs v us Q I rx rv h
 obtain ⟨a,c,rfl,rfl,q⟩:=h
 obtain ⟨t,rfl⟩:=rx
 obtain ⟨u,rfl,t',rfl⟩:=rv.one
 refine call_meets F.slot_str_startswith (typeIs_str _ _ _) F.entry_str_startswith (F.args_str_startswith_2 _ _) (gives_str_startswith a ⟨#[c]⟩ t t').meets ?_
 rw[← starts_one a c] at q
 exact ⟨.bl _,H,I,rfl,q⟩
def rSIndex:V->List V->Hp->VK->Prop:=fun x vs H Q=>∃(a b:Str) (i:Nat) (r:List Nat),x=.str a∧vs=[.str b]∧Builtin.Str.occurrences a b 0 a.length 1=i :: r∧Q (.int i) H
theorem mt_sindex {X:Cx}:MtM X "str.index" rSIndex:=by
 intro pins s σ H x vs v us Q I rx rv h
 obtain ⟨a,b,i,r,rfl,rfl,e,q⟩:=h
 obtain ⟨t,rfl⟩:=rx
 obtain ⟨u,rfl,t',rfl⟩:=rv.one
 refine call_meets F.slot_str_index (typeIs_str _ _ _) F.entry_str_index (F.args_str_index_2 _ _) (gives_str_index a b t t' i r e).meets ?_
 exact ⟨.int i,H,I.tok _,⟨_,rfl⟩,q⟩
theorem vals_strs:∀{xs:List Str} {us:List Value},Vals (xs.map V.str) us->∃l:List (Str×Tok),us=strValues l∧l.map (·.1)=xs
 | [],us,h=>by cases h;exact ⟨[],rfl,rfl⟩
 | x :: xs,us,h=>by
  cases h with
  | cons r rr =>
   obtain ⟨t,rfl⟩:=r
   obtain ⟨l,rfl,e⟩:=vals_strs rr
   exact ⟨(x,t) :: l,rfl,by rw[List.map_cons,e]⟩
def rJoin:V->List V->Hp->VK->Prop:=fun x vs H Q=>∃(a:Str) (p:Addr) (xs:List Str),x=.str a∧vs=[.ref p]∧a.length<=1∧H p=some (.lst (xs.map V.str))∧xs.length<=1000∧(∀y∈xs,y.length<=10000)∧Q (.str (Str.join a xs)) H
theorem mt_join {X:Cx}:MtM X "str.join" rJoin:=by
 intro pins s σ H x vs v us Q I rx rv h
 obtain ⟨a,p,xs,rfl,rfl,ha,hp,hx,hy,q⟩:=h
 obtain ⟨t,rfl⟩:=rx
 obtain ⟨u,rfl,ru⟩:=rv.one
 cases ru
 obtain ⟨z,its,n,r,hl,e⟩:=I.lstM hp
 obtain ⟨l,rfl,el⟩:=vals_strs r
 refine call_meets F.slot_str_join (typeIs_str _ _ _) F.entry_str_join (F.args_str_join_2 _ _) (meets_str_join_list a t p l ?_) ⟨PySem.IsL.isList e,?_⟩
 ·rw[el]
  have:=PySem.StrLaws.joinFits (sep:=a) (texts:=xs) (B:=10000) hy (by
   have:xs.length*10000<=1000*10000:=Nat.mul_le_mul_right _ hx
   have:xs.length*a.length<=1000*1:=Nat.mul_le_mul hx ha
   lia)
  exact this
 ·have eg:Builtin.Str.glued a (l.map (·.1))=Str.join a xs:=by rw[PySem.StrLaws.glued_eq_join,el]
  have hs:(Str.join a xs).length<=sizeLine:=by
   have h1:=PySem.StrLaws.join_length_le a xs
   have h2:∀l:List Str,(∀y∈l,y.length<=10000)->(l.map (·.length)).sum<=l.length*10000:=fun l hl=>by
    induction l with
    | nil=>exact Nat.le_refl _
    | cons y l ih =>
     have:=ih fun z hz=>hl z (List.mem_cons_of_mem _ hz)
     have:=hl y (List.mem_cons_self ..)
     rw[List.map_cons,List.sum_cons,List.length_cons]
     lia
   have h3:=h2 xs hy
   have:xs.length*a.length<=1000*1:=Nat.mul_le_mul hx ha
   have h4:(10001000:Nat)<=sizeLine:=by rw[sizeLine_eq];decide
   lia
  match l,el,eg with
  | [pp],el,eg =>
   refine ⟨.str pp.1,H,I,⟨pp.2,rfl⟩,?_⟩
   rw[show pp.1=Str.join a xs by rw[← el];rfl]
   exact q
  | [],el,eg=>exact ⟨by rw[eg];exact hs,⟨.str _,H,I.tok _,⟨_,rfl⟩,by rw[eg];exact q⟩⟩
  | _ :: _ :: _,el,eg=>exact ⟨by rw[eg];exact hs,⟨.str _,H,I.tok _,⟨_,rfl⟩,by rw[eg];exact q⟩⟩
end L2
namespace L2
open PySem PySem.Spec PySem.NumText PyProof.Rows Nm
def sl (l:List Nat):Str:=⟨l.toArray⟩
theorem sl_toList (l:List Nat):(sl l).cps.toList=l:=List.toList_toArray ..
theorem sl_length (l:List Nat):(sl l).length=l.length:=by unfold sl Str.length;simp
theorem sl_of (x:Str):x=sl x.cps.toList:=by unfold sl;simp
theorem sl_inj {a b:List Nat} (h:sl a=sl b):a=b:=by
 have:=congrArg (fun x:Str=>x.cps.toList) h
 simpa [sl_toList] using this
theorem sl_app (a b:List Nat):sl a++sl b=sl (a++b):=by
 show (⟨a.toArray++b.toArray⟩:Str)=⟨(a++b).toArray⟩
 simp
def digs (n:Nat):List Nat:=(Nat.toDigits 10 n).map Char.toNat
def intT (i:Int):List Nat:=if i < 0 then 45 :: digs i.natAbs else digs i.natAbs
theorem sl_nat (n:Nat):Str.ofString (toString ((n:Nat):Int))=sl (digs n):=by
 rw[sl_of (Str.ofString _),PySem.W.KIN.signs_num]
 rfl
theorem sl_int (i:Int):Str.ofString (toString i)=sl (intT i):=by
 unfold intT
 by_cases h:i < 0
 ·rw[if_pos h,toString_neg h,show 0 - i=((i.natAbs:Nat):Int) by lia]
  rw[sl_of (Str.ofString _),signs_ofString,String.toList_append,List.map_append]
  have:=congrArg (fun x:Str=>x.cps.toList) (sl_nat i.natAbs)
  simp only[sl_toList,signs_ofString] at this
  rw[this]
  rfl
 ·rw[if_neg h]
  have e:i=((i.natAbs:Nat):Int):=by lia
  rw[e,sl_nat]
  simp
theorem digs_all (n:Nat):AllDigits (digs n):=fun c hc=>by
 obtain ⟨ch,hch,rfl⟩:=List.mem_map.mp hc
 exact digit_range (Nat.isDigit_of_mem_toDigits (by decide) (by decide) hch)
theorem digs_val (n:Nat):digitsVal (digs n)=n:=PySem.W.KIN.val_back n
theorem digs_small {n:Nat} (h:n < 10):digs n=[48+n]:=by
 unfold digs
 rw[Nat.toDigits_of_lt_base h]
 have:∀d:Nat,d < 10->(Nat.digitChar d).toNat=48+d:=by decide
 rw[List.map_singleton,this n h]
theorem digs_big {n:Nat} (h:10<=n):digs n=digs (n / 10)++digs (n % 10):=by
 unfold digs
 have hm:n % 10 < 10:=Nat.mod_lt n (by decide)
 have t:Nat.toDigits 10 (n / 10)++Nat.toDigits 10 (n % 10)=Nat.toDigits 10 (10*(n / 10)+n % 10):=Nat.toDigits_append_toDigits (by decide) (by lia) hm
 rw[Nat.div_add_mod] at t
 rw[← t,List.map_append]
theorem digs_head (n:Nat):∃c r,digs n=c :: r∧(n≠0->c≠48):=by
 induction n using Nat.strongRecOn with
 | _ n ih =>
  by_cases h:n < 10
  ·exact ⟨48+n,[],digs_small h,fun z=>by lia⟩
  ·obtain ⟨c,r,e,hc⟩:=ih (n / 10) (by lia)
   exact ⟨c,r++digs (n % 10),by rw[digs_big (by lia),e];rfl,fun _=>hc (by lia)⟩
theorem digs_len:∀(k n:Nat),n < 10^(k+1)->(digs n).length<=k+1
 | 0,n,h=>by rw[digs_small (by simpa using h)];simp
 | k+1,n,h=>by
  by_cases h1:n < 10
  ·rw[digs_small h1];simp
  ·have h2:n / 10 < 10^(k+1):=by
    rw[Nat.div_lt_iff_lt_mul (by decide)]
    rwa [Nat.pow_succ] at h
   have:=digs_len k (n / 10) h2
   rw[digs_big (by lia),List.length_append,digs_small (Nat.mod_lt n (by decide))]
   simp only[List.length_singleton]
   lia
def Who (l:List Nat) (n:Nat):Prop:=l≠[]∧AllDigits l∧(l.head?=some 48->l=[48])∧digitsVal l=n
theorem who_digs (n:Nat):Who (digs n) n:=by
 obtain ⟨c,r,e,hc⟩:=digs_head n
 refine ⟨by rw[e];exact List.cons_ne_nil _ _,digs_all n,fun z=>?_,digs_val n⟩
 rw[e] at z
 have z':c=48:=by simpa using z
 have n0:n=0:=Classical.byContradiction fun h=>hc h z'
 rw[n0]
 exact digs_small (by decide)
theorem digs_free {c n:Nat} (h:c < 48):c∉digs n:=fun z=>by have:=digs_all n c z;lia
def numT (n:Int×Int):List Nat:=intT n.1++(if n.2=1 then [] else 47 :: digs n.2.natAbs)
theorem intT_free {c:Nat} {i:Int} (h:c < 48) (h':c≠45):c∉intT i:=fun z=>by
 unfold intT at z
 split at z
 ·rcases List.mem_cons.mp z with z | z
  ·exact h' z
  ·exact digs_free h z
 ·exact digs_free h z
theorem numT_free {n:Int×Int}:32∉numT n:=fun z=>by
 unfold numT at z
 rcases List.mem_append.mp z with z | z
 ·exact intT_free (by decide) (by decide) z
 ·split at z
  ·exact nomatch z
  ·rcases List.mem_cons.mp z with z | z
   ·exact absurd z (by decide)
   ·exact digs_free (by decide) z
theorem numT_ne (n:Int×Int):numT n≠[]:=fun z=>by
 unfold numT intT at z
 obtain ⟨c,r,e,_⟩:=digs_head n.1.natAbs
 split at z
 ·cases z
 ·rw[e] at z
  cases z
theorem part_none {l:List Nat} {c:Nat} (h:c∉l):Txt.partition (sl l) (sl [c])=(sl l,sl [],sl []):=by
 rcases partition_whole (sl l) (sl [c]) with ⟨e,_⟩ | ⟨i,_,hi,_⟩
 ·rw[e]
  rfl
 ·refine absurd ?_ h
  have:=(PySem.StrLaws.subAt_one (sl l) c i).mp hi
  rw[sl_toList] at this
  exact List.mem_of_getElem? this
theorem part_some {a b:List Nat} {c:Nat} (h:c∉a):Txt.partition (sl (a++c :: b)) (sl [c])=(sl a,sl [c],sl b):=by
 have at_:∀i,PySem.StrLaws.At (sl (a++c :: b)) (sl [c]) (sl (a++c :: b)).length i↔(a++c :: b)[i]?=some c:=fun i=>by
  have:=PySem.StrLaws.subAt_one (sl (a++c :: b)) c i
  rwa [sl_toList] at this
 rcases partition_whole (sl (a++c :: b)) (sl [c]) with ⟨_,no⟩ | ⟨i,e,hi,no⟩
 ·exact absurd ((at_ a.length).mpr (by simp)) (no _)
 ·have hi':=(at_ i).mp hi
  have ei:i=a.length:=by
   rcases Nat.lt_trichotomy i a.length with z | z | z
   ·rw[List.getElem?_append_left z] at hi'
    exact absurd (List.mem_of_getElem? hi') h
   ·exact z
   ·exact absurd ((at_ a.length).mpr (by simp)) (no _ z)
  subst ei
  rw[e]
  have e1:Builtin.Str.strSub (sl (a++c :: b)) 0 a.length=sl a:=by
   rw[sl_of (Builtin.Str.strSub _ _ _)]
   congr 1
   show ((a++c :: b).toArray.extract 0 a.length).toList=a
   simp
  have e2:Builtin.Str.strSub (sl (a++c :: b)) (a.length+(sl [c]).length) (sl (a++c :: b)).length=sl b:=by
   rw[sl_of (Builtin.Str.strSub _ _ _)]
   congr 1
   rw[sl_length,sl_length]
   show ((a++c :: b).toArray.extract (a.length+1) (a++c :: b).length).toList=b
   simp
   exact List.take_of_length_le (by lia)
  rw[e1,e2]
def joinL (c:Nat):List (List Nat)->List Nat
 | []=>[]
 | [x]=>x
 | x :: y :: r=>x++c :: joinL c (y :: r)
theorem sl_join (c:Nat):∀ws:List (List Nat),Str.join (sl [c]) (ws.map sl)=sl (joinL c ws)
 | []=>rfl
 | [x]=>rfl
 | x :: y :: r=>by
  show sl x++sl [c]++Str.join (sl [c]) ((y :: r).map sl)=sl (x++c :: joinL c (y :: r))
  rw[sl_join c (y :: r),sl_app,sl_app,List.append_assoc]
  rfl
theorem cut_inj {c:Nat}:∀{a b x y:List Nat},c∉a->c∉b->a++c :: x=b++c :: y->a=b∧x=y
 | [],[],x,y,_,_,h=>⟨rfl,by simpa using h⟩
 | [],b :: bs,x,y,_,hb,h=>by
  simp only[List.nil_append,List.cons_append,List.cons.injEq] at h
  exact absurd (List.mem_cons.mpr (.inl h.1)) hb
 | a :: as,[],x,y,ha,_,h=>by
  simp only[List.nil_append,List.cons_append,List.cons.injEq] at h
  exact absurd (List.mem_cons.mpr (.inl h.1.symm)) ha
 | a :: as,b :: bs,x,y,ha,hb,h=>by
  simp only[List.cons_append,List.cons.injEq] at h
  obtain ⟨e1,e2⟩:=cut_inj (fun z=>ha (List.mem_cons_of_mem _ z)) (fun z=>hb (List.mem_cons_of_mem _ z)) h.2
  exact ⟨by rw[h.1,e1],e2⟩
theorem join_inj {c:Nat}:∀{ws ps:List (List Nat)},ws≠[]->ps≠[]->(∀w∈ws,c∉w)->(∀w∈ps,c∉w)->joinL c ws=joinL c ps->ws=ps
 | [],_,h,_,_,_,_=>absurd rfl h
 | _,[],_,h,_,_,_=>absurd rfl h
 | [x],[y],_,_,_,_,h=>by rw[show x=y from h]
 | [x],y :: z :: r,_,_,hw,_,h=>by
  have h':x=y++c :: joinL c (z :: r):=h
  exact absurd (by rw[h'];simp) (hw x (by simp))
 | x :: z :: r,[y],_,_,_,hp,h=>by
  have h':x++c :: joinL c (z :: r)=y:=h
  exact absurd (by rw[← h'];simp) (hp y (by simp))
 | x :: z :: r,y :: u :: v,_,_,hw,hp,h=>by
  obtain ⟨e1,e2⟩:=cut_inj (hw x (by simp)) (hp y (by simp)) h
  have:=join_inj (List.cons_ne_nil _ _) (List.cons_ne_nil _ _) (fun w m=>hw w (List.mem_cons_of_mem _ m)) (fun w m=>hp w (List.mem_cons_of_mem _ m)) e2
  rw[e1,this]
theorem split_join {c:Nat} {ws:List (List Nat)} (h0:ws≠[]) (h:∀w∈ws,c∉w):Txt.split (sl (joinL c ws)) (sl [c])=ws.map sl:=by
 have e:=PySem.StrLaws.join_split (sl (joinL c ws)) (sl [c])
 have f:∀p∈Txt.split (sl (joinL c ws)) (sl [c]),c∉p.cps.toList:=PySem.StrLaws.split_free (sl (joinL c ws)) c
 have l1:=split_pos (sl (joinL c ws)) (sl [c])
 generalize Txt.split (sl (joinL c ws)) (sl [c])=ps at e f l1 ⊢
 have ep:ps=(ps.map fun p=>p.cps.toList).map sl:=by
  rw[List.map_map]
  exact (List.map_id _).symm.trans (List.map_congr_left fun p _=>sl_of p)
 rw[ep,sl_join] at e
 have:=join_inj (fun z=>?_) h0 (fun w hw=>?_) h (sl_inj e)
 ·rw[ep,this]
 ·rw[List.map_eq_nil_iff] at z
  rw[z] at l1
  exact absurd l1 (by decide)
 ·obtain ⟨p,hp,rfl⟩:=List.mem_map.mp hw
  exact f p hp
theorem in_one (l:List Nat) (c:Nat):(!(Builtin.Str.occurrences (sl l) ⟨#[c]⟩ 0 (sl l).length 1).isEmpty)=decide (c∈l):=by
 rw[PySem.StrLaws.found_one,sl_toList]
theorem figs_at:∀c,48<=c->c<=57->∃r,Builtin.Str.occurrences (Str.ofString "0123456789") ⟨#[c]⟩ 0 (Str.ofString "0123456789").length 1=(c - 48) :: r:=by
 intro c h1 h2
 have:c=48∨c=49∨c=50∨c=51∨c=52∨c=53∨c=54∨c=55∨c=56∨c=57:=by lia
 rcases this with rfl | rfl | rfl | rfl | rfl | rfl | rfl | rfl | rfl | rfl <;> exact ⟨[],by decide +kernel⟩
end L2
namespace L2
open PySem PySem.Spec PySem.NumText PyProof.Rows Nm
theorem Inv.nodig {X:Cx} {pins:List (Addr×Obj)} {σ:St} {H:Hp} {s:Shared} (I:Inv X pins σ H s):s.heap.NoDigits:=I.ok.mod.nodig.keeps I.bk
theorem call_strD {X:Cx} (hc:X.calm=true):CallR X (.type "str") (fun xs H Q=>∃i,xs=[.int i]∧i.natAbs < 10^4300∧Q (.str (sl (intT i))) H):=by
 intro pins s σ H xs us Q I r h
 obtain ⟨i,rfl,hz,q⟩:=h
 obtain ⟨u,rfl,t,rfl⟩:=vals1 r
 refine str_of_int_or (I.ok.hd hc) I.nodig (fun _=>⟨.str _,H,I.tok _,⟨_,rfl⟩,?_⟩) fun z=>absurd hz (Nat.not_lt.mpr z)
 rw[sl_int]
 exact q
theorem pick_nat (l:List Nat) (a b:Nat) (hb:b<=l.length):((List.range (b - a)).map fun k=>a+k).filterMap (l[·]?)=(l.drop a).take (b - a):=by
 generalize hn:b - a=n
 have hn':a+n<=l.length∨n=0:=by lia
 clear hn hb
 induction n with
 | zero=>simp
 | succ n ih =>
  have h1:a+n < l.length:=by lia
  rw[List.range_succ,List.map_append,List.filterMap_append,ih (by lia),List.map_singleton]
  rw[show List.filterMap (fun x=>l[x]?) [a+n]=[l[a+n]] by simp [List.getElem?_eq_getElem h1],List.take_add_one]
  congr 1
  rw[List.getElem?_drop,List.getElem?_eq_getElem h1]
  rfl
def cutN (l:List Nat) (lo hi:Option Int):List Nat:=(l.drop (HT.sIx l.length 0 lo)).take (HT.sIx l.length l.length hi - HT.sIx l.length 0 lo)
theorem sIx_le (n d:Nat) (o:Option Int) (h:d<=n):HT.sIx n d o<=n:=by
 cases o with
 | none=>exact h
 | some i =>
  unfold HT.sIx
  simp only
  split <;> lia
theorem str_pick (l:List Nat) (lo hi:Option Int):(Builtin.Str.strSliceIndices lo hi 1 l.length).filterMap (l[·]?)=cutN l lo hi:=by
 obtain ⟨h1,h2,h3⟩:=slice_bounds lo hi l.length
 have e:Builtin.Str.strSliceIndices lo hi 1 l.length=sliceRange (sliceBounds lo hi none l.length).1 (sliceBounds lo hi none l.length).2.1 (sliceBounds lo hi none l.length).2.2:=rfl
 rw[e,h1,h2,h3,sliceRange_one]
 exact pick_nat l _ _ (sIx_le _ _ _ (Nat.le_refl _))
def rSlX:V->Option Int->Option Int->Hp->VK->Prop:=fun x lo hi H Q=>∃l,x=.str (sl l)∧l.length<=10000∧Q (.str (sl (cutN l lo hi))) H
theorem sl_strX {X:Cx}:SlR X rSlX:=by
 intro pins s σ H x v vl vu lo hi si Q I rx hs pl pu h
 obtain ⟨y,rfl,hy,q⟩:=h
 obtain ⟨t,rfl⟩:=(show ∃t,v=Value.str (sl y) t from rx)
 refine ⟨"str",_,PySem.F.slot_str_getitem.lookup,typeIs_str _ _ _,?_⟩
 obtain ⟨l,e1,e3⟩:∃l:Option (Int×Tok),vl=partValue l∧l.map (·.1)=lo:=by cases pl with | none=>exact ⟨none,rfl,rfl⟩ | int i t=>exact ⟨some (i,t),rfl,rfl⟩
 obtain ⟨u,e2,e4⟩:∃u:Option (Int×Tok),vu=partValue u∧u.map (·.1)=hi:=by cases pu with | none=>exact ⟨none,rfl,rfl⟩ | int i t=>exact ⟨some (i,t),rfl,rfl⟩
 subst e1 e2
 refine wpAny_getItem_str_slice (l:=l) (u:=u) (st:=none) hs rfl ?_
 have ep:(slicePicked (sl y) l u none).filterMap ((sl y).cps[·]?)=cutN y lo hi:=by
  unfold slicePicked
  rw[e3,e4,sl_length]
  show (Builtin.Str.strSliceIndices lo hi 1 y.length).filterMap ((sl y).cps[·]?)=_
  rw[← str_pick]
  congr 1
  funext k
  unfold sl
  simp
 have lc:(cutN y lo hi).length<=y.length:=by
  unfold cutN
  rw[List.length_take,List.length_drop]
  lia
 unfold sliceMade
 split
 ·next hh =>
  refine ⟨.str (sl y),H,I,⟨_,rfl⟩,?_⟩
  have h1:(slicePicked (sl y) l u none).length=y.length:=by
   have:=(Bool.and_eq_true_iff.mp hh).2
   rw[sl_length] at this
   exact beq_iff_eq.mp this
  have h2:cutN y lo hi=y:=by
   unfold slicePicked at h1
   rw[e3,e4,sl_length] at h1
   obtain ⟨b1,b2,b3⟩:=slice_bounds lo hi y.length
   have e:Builtin.Str.strSliceIndices lo hi 1 y.length=sliceRange (sliceBounds lo hi none y.length).1 (sliceBounds lo hi none y.length).2.1 (sliceBounds lo hi none y.length).2.2:=rfl
   have h1':(Builtin.Str.strSliceIndices lo hi 1 y.length).length=y.length:=h1
   rw[e,b1,b2,b3,sliceRange_one,List.length_map,List.length_range] at h1'
   unfold cutN
   have c1:=sIx_le y.length y.length hi (Nat.le_refl _)
   by_cases z:HT.sIx y.length 0 lo=0
   ·rw[z] at h1' ⊢
    exact List.take_of_length_le (by rw[List.length_drop];lia)
   ·have:y.length=0:=by lia
    rw[List.length_eq_zero_iff.mp this]
    simp
  rw[h2] at q
  exact q
 ·rw[ep]
  refine ⟨?_,⟨.str _,H,I.tok _,⟨_,rfl⟩,q⟩⟩
  show (cutN y lo hi).toArray.size<=sizeLine
  rw[List.size_toArray]
  exact big10000 (by lia)
theorem cutN_from (l:List Nat) (k:Nat):cutN l (some (k:Int)) none=l.drop k:=by
 unfold cutN
 have e:HT.sIx l.length l.length none=l.length:=rfl
 rw[e]
 by_cases h:k<=l.length
 ·have e2:HT.sIx l.length 0 (some (k:Int))=k:=by
   unfold HT.sIx
   simp only
   split <;> lia
  rw[e2]
  exact List.take_of_length_le (by rw[List.length_drop];lia)
 ·have e2:HT.sIx l.length 0 (some (k:Int))=l.length:=by
   unfold HT.sIx
   simp only
   split <;> lia
  rw[e2,Nat.sub_self,List.take_zero,List.drop_eq_nil_of_le (by lia)]
end L2
namespace L2
open PySem PySem.Spec PySem.NumText PyProof.Rows Nm
theorem pow_8000:2^8000<=10^2667:=by
 refine Nat.le_trans (Nat.pow_le_pow_right (by decide) (show 8000<=3*2667 by decide)) ?_
 rw[Nat.pow_mul]
 exact Nat.pow_le_pow_left (by decide) _
theorem sz_4300 {i:Int} (h:Sz 8000 i):i.natAbs < 10^4300 :=
 Nat.lt_of_lt_of_le (Nat.lt_of_lt_of_le (show i.natAbs < 2^8000 from h) pow_8000) (Nat.pow_le_pow_right (by decide) (by decide))
theorem digs_sz {i:Int} (h:Sz 8000 i):(digs i.natAbs).length<=2667:=digs_len 2666 _ (Nat.lt_of_lt_of_le (show i.natAbs < 2^8000 from h) pow_8000)
theorem intT_sz {i:Int} (h:Sz 8000 i):(intT i).length<=2668:=by
 have:=digs_sz h
 unfold intT
 split
 ·rw[List.length_cons];lia
 ·lia
theorem numT_sz {n:Int×Int} (h:NumOk n):(numT n).length<=5400:=by
 have h1:=intT_sz h.2.2.1
 have h2:=digs_sz h.2.2.2
 unfold numT
 rw[List.length_append]
 split
 ·simp only[List.length_nil];lia
 ·rw[List.length_cons];lia
def sp_showN (K:PySem.W.Frag) (vs:List V) (H:Hp) (Q:VK) (_:XK):Prop:=∃(x:V) (n:Int×Int),vs=[x]∧NumR K H x n∧NumOk n∧Q (.str (sl (numT n))) H
def sp_showR (K:PySem.W.Frag) (vs:List V) (H:Hp) (Q:VK) (_:XK):Prop:=∃(p:Addr) (ns:List (Int×Int)),vs=[.ref p]∧RowK K H p ns∧ns.length<=100∧(∀n∈ns,NumOk n)∧∀H',Same H H'->Q (.str (sl (joinL 32 (ns.map numT)))) H'
theorem joinL_le (c B:Nat):∀ws:List (List Nat),(∀w∈ws,w.length<=B)->(joinL c ws).length<=ws.length*(B+1)
 | [],_=>Nat.zero_le _
 | [x],h=>by
  have:=h x (by simp)
  show x.length<=1*(B+1)
  lia
 | x :: y :: r,h=>by
  have h1:=joinL_le c B (y :: r) fun w m=>h w (List.mem_cons_of_mem _ m)
  have h2:=h x (by simp)
  show (x++c :: joinL c (y :: r)).length<=(r.length+1+1)*(B+1)
  rw[List.length_append,List.length_cons,Nat.succ_mul]
  rw[List.length_cons] at h1
  lia
theorem sl_space:Str.ofString " "=sl [32]:=by decide +kernel
theorem sl_slash:Str.ofString "/"=sl [47]:=by decide +kernel
theorem sl_empty:Str.ofString ""=sl []:=by decide +kernel
theorem sl_zero:Str.ofString "0"=sl [48]:=by decide +kernel
theorem sl_figs:Str.ofString "0123456789"=sl [48,49,50,51,52,53,54,55,56,57]:=by decide +kernel
theorem who_take {l:List Nat} {i c:Nat} (e:l[i]?=some c):digitsVal (l.take (i+1))=digitsVal (l.take i)*10+(c - 48):=by
 rw[take_snoc e,digitsVal_snoc]
end L2
namespace L2
open PySem PySem.Spec PySem.NumText PySem.Calls PyProof.Rows Nm
section
variable {M:Model} {A:Around} {E:Value->Shared->Prop} {s:Shared}
theorem wp_lim {Q:Nat->Shared->Prop} (hn:s.heap.NoDigits) (h:Q 4300 s):wpAny M A Builtin.intMaxStrDigits Q E s:=by
 obtain ⟨mc,hns,hnone⟩:=hn
 unfold Builtin.intMaxStrDigits
 refine wpAny_bind (wpAny_nsGet hns ?_)
 rw[hnone]
 exact wpAny_pure h
theorem wp_long {Q : Value → Shared → Prop} {v : Value} {text : List Nat} {n : Int} (hn : s.heap.NoDigits)
    (hs : ¬ (text.takeWhile (· != 0)).length ≤ 640) (hr : (int_private% "readNumeral") 4300 10 (text.takeWhile (· != 0)) = (int_private% "Numeral.value") n)
    (ha : ((text.takeWhile (· != 0)).length == text.length) = true) (h : Q (.int n s.toks) { s with toks := s.toks + 1 }) :
    wpAny M A ((int_private% "intFromText") v text 10) Q E s := by
  obtain ⟨hp, g, d, tk, os⟩ := s
  repeat (any_goals (first
    | assumption
    | (with_reducible refine wp_lim hn ?_)
    | (with_reducible refine wpAny_ite_false (decide_eq_false hs) ?_)
    | (with_reducible refine wpAny_ite_true (decide_eq_true ha) ?_)
    | wp_step))
  all_goals (try rw [hr])
  all_goals (try dsimp only)
  repeat (any_goals (first
    | assumption
    | (with_reducible refine wpAny_ite_true (decide_eq_true ha) ?_)
    | wp_step))
end
set_option maxHeartbeats 4000000 in
theorem meets_long {x:PySem.Str} {u:Tok} {n:Int} (hl:x.length<=4300) (had:AllDigits x.cps.toList) (hn:PySem.intText? x=some n):Meets (Builtin.«int.__new__» ⟨[.type "int",.str x u],[]⟩) (fun _ R s=>s.heap.NoDigits∧R (.ok (.ret (.int n s.toks))) { s with toks:=s.toks+1 }):=by
 by_cases h0:x.length<=640
 ·exact (PySem.W.KIN.gives_text (u:=u) h0 hn).meets.of_imp fun A R s h=>h.2
 have h640:¬(numSeenOf x).length<=640:=by
  obtain ⟨e1,e2⟩:=numText_signs (x:=x) fun c hc=>Or.inr (had c hc)
  rw[show numSeenOf x=x.cps.toList by first | exact e2 | exact e1,Array.length_toList]
  exact h0
 clear had h0
 refine .of_wp fun prog w A R s hh=>?_
 obtain ⟨hdg,h⟩:=hh
 obtain ⟨hp,g,d,tk,os⟩:=s
 have f1:=F.conv_sub_int
 have f2:=F.madeHere_int
 have f3:=PySem.W.KIN.str_int
 have f4:=PySem.W.KIN.str_idx
 have f5:=PySem.W.KIN.str_trunc
 have f6:typeOf (.str x u)=pure (.type "str"):=rfl
 have hr:(int_private% "readNumeral") 4300 10 (numSeenOf x)=(int_private% "Numeral.value") n∧((numSeenOf x).length == (numTextOf x).length)=true:=by
  rcases read4300 x (by rw[sizeLine_eq];lia) with ⟨m,h1,h2,h3⟩ | ⟨h1,_⟩
  ·rw[hn] at h1
   injection h1 with h1
   subst h1
   exact ⟨h3,h2⟩
  ·rw[hn] at h1
   cases h1
 have hk:=PySem.W.KIN.Hid.mk (And.intro h640 (And.intro hr hdg))
 clear hr hl hn h640 hdg
 repeat (any_goals (first
  | assumption
  | ((with_reducible show wpAny _ _ ((int_private% "intFromText") _ _ _) _ _ _);refine wp_long hk.out.2.2 hk.out.1 hk.out.2.1.1 hk.out.2.1.2 ?_)
  | wp_step))
 all_goals first | exact ⟨_,rfl,h⟩ | skip
theorem call_intD {X:Cx}:CallR X (.type "int") (fun xs H Q=>∃l:List Nat,xs=[.str (sl l)]∧l≠[]∧AllDigits l∧l.length<=4300∧Q (.int (digitsVal l:Nat)) H):=by
 intro pins s σ H xs us Q I r h
 obtain ⟨l,rfl,h0,h1,h2,q⟩:=h
 obtain ⟨u,rfl,t,rfl⟩:=vals1 r
 have h1':AllDigits (sl l).cps.toList:=by rw[sl_toList];exact h1
 have e:=intText_digits (x:=sl l) h1' (by rw[sl_toList];exact h0) (by rw[sl_length];exact h2)
 rw[sl_toList] at e
 exact call_int_1 (meets_long (by rw[sl_length];exact h2) h1' e) ⟨I.nodig,typeIs_int _ _ _,.int _,H,I.tok _,⟨_,rfl⟩,q⟩
theorem val_lt {l:List Nat} (h:AllDigits l):digitsVal l < 10^l.length:=by
 have gen:∀(l:List Nat) (a:Nat),AllDigits l->l.foldl (fun acc c=>acc*10+(c - 48)) a < (a+1)*10^l.length:=fun l=>by
  induction l with
  | nil=>intro a _;simp
  | cons c l ih =>
   intro a h
   have hc:=h.head
   rw[List.foldl_cons,List.length_cons]
   refine Nat.lt_of_lt_of_le (ih _ h.tail) ?_
   rw[Nat.pow_succ,Nat.mul_comm (10^l.length),← Nat.mul_assoc]
   exact Nat.mul_le_mul_right _ (by lia)
 have:=gen l 0 h
 rwa [Nat.zero_add,Nat.one_mul] at this
end L2
namespace L2
open PySem PySem.Spec PySem.NumText PyProof.Rows Nm
def cutQ (w:List Rat) (u k:Nat):List (List Rat):=(List.range u).map fun t=>(w.drop (t*k)).take k
theorem cut_flat:∀{g:List (List Rat)} {k:Nat},(∀xs∈g,xs.length=k)->cutQ g.flatten g.length k=g
 | [],_,_=>rfl
 | x :: g,k,h=>by
  have ih:=cut_flat (g:=g) (k:=k) fun xs hx=>h xs (List.mem_cons_of_mem _ hx)
  have lx:=h x (by simp)
  unfold cutQ at ih ⊢
  rw[List.length_cons,List.range_succ_eq_map,List.map_cons,List.map_map,List.flatten_cons]
  congr 1
  ·rw[Nat.zero_mul,List.drop_zero,List.take_append_of_le_length (by lia),List.take_of_length_le (by lia)]
  ·refine Eq.trans (List.map_congr_left fun t _=>?_) ih
   show ((x++g.flatten).drop ((t+1)*k)).take k=_
   rw[List.drop_append,List.drop_eq_nil_of_le (by rw[lx,Nat.succ_mul];lia),List.nil_append,show (t+1)*k - x.length=t*k by rw[lx,Nat.succ_mul];lia]
theorem pair_drop {α β:Type} {F:α->β->Prop}:∀{l1:List α} {l2:List β} (_:Paired F l1 l2) (k:Nat),Paired F (l1.drop k) (l2.drop k)
 | _,_,.nil,k=>by rw[List.drop_nil,List.drop_nil];exact .nil
 | _,_,.cons h r,0=>.cons h r
 | _,_,.cons _ r,k+1=>pair_drop r k
theorem mid_cut {xs:List V} {t n:Nat} (h:t+n<=xs.length):cutV xs (some (t:Int)) (some ((t:Int)+(n:Int)))=(xs.drop t).take n:=by
 unfold cutV
 rw[show ((t:Int)+(n:Int))=((t+n:Nat):Int) by lia,HT.sIx_nat,HT.sIx_nat,Nat.min_eq_left (by lia),Nat.min_eq_left (by lia),Nat.add_sub_cancel_left]
inductive sp_cutQ (K:PySem.W.Frag) (vs:List V) (H:Hp) (Q:VK) (E9:XK):Prop
 | mk (p:Addr) (u k:Nat) (w:List Rat):vs=[.ref p,.int u,.int k]->RowQ K H p w->w.length=u*k->u*k<=1000->u<=1000->k<=1000->(∀r H',H r=none->Same H H'->GridQ K H H' r (cutQ w u k)->Q (.ref r) H')->sp_cutQ K vs H Q E9
def stL (ws:List (List Nat)):List V:=ws.map fun w=>V.str (sl w)
theorem stL_app (a b:List (List Nat)):stL (a++b)=stL a++stL b:=List.map_append
theorem stL_len (a:List (List Nat)):(stL a).length=a.length:=List.length_map ..
theorem stL_sl (ws:List (List Nat)):(ws.map sl).map V.str=stL ws:=by unfold stL;rw[List.map_map];rfl
def wM:List Nat:=[109,111,118,101]
def wP:List Nat:=[112,117,116]
def wL:List Nat:=[108,111,111,107]
theorem sl_M:Str.ofString "move"=sl wM:=by decide +kernel
theorem sl_P:Str.ofString "put"=sl wP:=by decide +kernel
theorem sl_L:Str.ofString "look"=sl wL:=by decide +kernel
def gw (g:List (List Rat)):List (List Nat):=g.flatten.map fun q=>numT (nm q)
def sysW (mv pt lk:List (List Rat)):List (List Nat):=[digs mv.length,digs pt.length,digs lk.length]++(wM :: gw mv)++(wP :: gw pt)++(wL :: gw lk)
theorem flat_len {g:List (List Rat)} {k:Nat} (h:∀xs∈g,xs.length=k):g.flatten.length=g.length*k:=by
 induction g with
 | nil=>simp
 | cons x g ih =>
  rw[List.flatten_cons,List.length_append,ih fun xs hx=>h xs (List.mem_cons_of_mem _ hx),h x (by simp),List.length_cons,Nat.succ_mul,Nat.add_comm]
theorem gw_len {g:List (List Rat)} {k:Nat} (h:∀xs∈g,xs.length=k):(gw g).length=g.length*k:=by
 unfold gw
 rw[List.length_map,flat_len h]
theorem gw_mem {g:List (List Rat)} (h:GOk g) {w:List Nat} (hw:w∈gw g):32∉w∧w.length<=5400:=by
 unfold gw at hw
 obtain ⟨q,hq,rfl⟩:=List.mem_map.mp hw
 obtain ⟨xs,hx,hq⟩:=List.mem_flatten.mp hq
 exact ⟨numT_free,numT_sz (h xs hx q hq)⟩
theorem sysW_mem {mv pt lk:List (List Rat)} (D:SysD mv pt lk) (h1:GOk mv) (h2:GOk pt) (h3:GOk lk) {w:List Nat} (hw:w∈sysW mv pt lk):32∉w∧w.length<=5400:=by
 have d8:=D.n8
 have d4:=D.i4
 have d5:=D.o4
 have dg:∀n,n<=8->32∉digs n∧(digs n).length<=5400:=fun n hn=>⟨digs_free (by decide),Nat.le_trans (digs_len 0 n (by lia)) (by decide)⟩
 unfold sysW at hw
 simp only[List.mem_append,List.mem_cons,List.not_mem_nil,or_false] at hw
 rcases hw with ((( rfl | rfl | rfl) | rfl | hw) | rfl | hw) | rfl | hw
 ·exact dg _ d8
 ·exact dg _ (by lia)
 ·exact dg _ (by lia)
 ·decide
 ·exact gw_mem h1 hw
 ·decide
 ·exact gw_mem h2 hw
 ·decide
 ·exact gw_mem h3 hw
theorem sysW_len {mv pt lk:List (List Rat)} (D:SysD mv pt lk):(sysW mv pt lk).length=(4+mv.length*mv.length)+(1+pt.length*mv.length)+(1+lk.length*mv.length):=by
 unfold sysW
 simp only[List.length_append,List.length_cons,List.length_nil]
 rw[gw_len D.mw,gw_len D.pw,gw_len D.lw]
 lia
theorem sq_le {a b m n:Nat} (h:a<=m) (h':b<=n):a*b<=m*n:=Nat.mul_le_mul h h'
theorem sysW_le {mv pt lk:List (List Rat)} (D:SysD mv pt lk):(sysW mv pt lk).length<=134:=by
 have h1:=sq_le D.n8 D.n8
 have h2:=sq_le D.i4 D.n8
 have h3:=sq_le D.o4 D.n8
 rw[sysW_len D]
 lia
def val (n:Int×Int):Rat:=(n.1:Rat) / (n.2:Rat)
theorem val_mul {n : Int × Int} (h : 0 < n.2) : val n * (n.2 : Rat) = (n.1 : Rat) := by
  unfold val
  exact Rat.div_mul_cancel (fun z => by have : n.2 = 0 := by exact_mod_cast z
                                        lia)
def hole (H:Hp) (l:Addr):Hp:=fun b=>if b=l then none else H b
theorem hole_at {H:Hp} {l:Addr}:hole H l l=none:=by unfold hole;rw[if_pos rfl]
theorem hole_same {H:Hp} {l:Addr}:Same (hole H l) H:=fun b o e=>by
 unfold hole at e
 split at e
 ·cases e
 ·exact e
theorem same_hole {H0 H:Hp} {l:Addr} (s:Same H0 H) (n:H0 l=none):Same H0 (hole H l):=fun b o e=>by
 unfold hole
 rw[if_neg (fun z=>by rw[z,n] at e;cases e)]
 exact s b o e
theorem hole_get {H:Hp} {l b:Addr} {o:HO} (g:H b=some o) (n:b≠l):hole H l b=some o:=by unfold hole;rw[if_neg n];exact g
inductive sp_textS (K:PySem.W.Frag) (vs:List V) (H:Hp) (Q:VK) (E9:XK):Prop
 | mk (r:Addr) (H0:Hp) (mv pt lk:List (List Rat)):vs=[.ref r]->PartsQ K H0 H r mv pt lk->SysD mv pt lk->GOk mv->GOk pt->GOk lk->(∀H',Same H H'->Q (.str (sl (joinL 32 (sysW mv pt lk)))) H')->sp_textS K vs H Q E9
end L2
namespace L2
open PySem PySem.Spec PyProof.Rows
inductive DKp {α:Type}:Sem α->Prop
 | pure (a:α):DKp (.pure a)
 | raise (e:Value):DKp (.raise e)
 | uns (w:String):DKp (.unsupported w)
 | rule {t:String} {k:Unit->Sem α} (h:∀u,DKp (k u)):DKp (.rule t k)
 | load {a:Addr} {p:Option Value} {k:Obj->Sem α} (h:∀o,DKp (k o)):DKp (.load a p k)
 | update {a:Addr} {p:Option Value} {f:Obj->Obj} {k:Unit->Sem α} (hf:∀o,(f o).dict=o.dict) (h:∀u,DKp (k u)):DKp (.update a p f k)
 | alloc {o:Obj} {k:Addr->Sem α} (h:∀a,DKp (k a)):DKp (.alloc o k)
 | alive {a:Addr} {k:Option Obj->Sem α} (h:∀o,DKp (k o)):DKp (.loadIfAlive a k)
 | stack {k:List (Code×Pos)->Sem α} (h:∀l,DKp (k l)):DKp (.stack k)
 | reg {a:Addr} {k:Unit->Sem α}:DKp (.register a k)
 | ask {k:Setting->Sem α} (h:∀x,DKp (k x)):DKp (.ask k)
theorem DKp.bind {α β:Type} {m:Sem α} {f:α->Sem β} (hm:DKp m) (hf:∀a,DKp (f a)):DKp (m >>= f):=by
 show DKp (Sem.bind m f)
 induction hm with
 | pure a=>exact hf a
 | raise e=>exact .raise e
 | uns w=>exact .uns w
 | rule _ ih=>exact .rule fun u=>ih u
 | load _ ih=>exact .load fun u=>ih u
 | update hg _ ih=>exact .update hg fun u=>ih u
 | alloc _ ih=>exact .alloc fun u=>ih u
 | alive _ ih=>exact .alive fun u=>ih u
 | stack _ ih=>exact .stack fun u=>ih u
 | reg=>exact .reg
 | ask _ ih=>exact .ask fun u=>ih u
def DicAt (e:Addr) (d:Option Addr) (h:Heap):Prop:=e < h.objs.size∧∀o,h.objs[e]?=some o->o.dict=d
theorem DicAt.get {e:Addr} {d:Option Addr} {h:Heap} (x:DicAt e d h) {o:Obj} (q:h.get? e=some o):o.dict=d:=by
 unfold Heap.get? at q
 split at q
 ·cases q
 ·exact x.2 o q
theorem DicAt.of {e:Addr} {h:Heap} {o:Obj} (q:h.get? e=some o):DicAt e o.dict h:=by
 refine ⟨Heap.lt_size q,fun o' q'=>?_⟩
 unfold Heap.get? at q
 split at q
 ·cases q
 ·rw[q'] at q;cases q;rfl
theorem DicAt.update {e a:Addr} {d:Option Addr} {h:Heap} {f:Obj->Obj} (x:DicAt e d h) (hf:∀o,(f o).dict=o.dict):DicAt e d (h.update a f):=by
 obtain ⟨objs,l⟩:=h
 refine ⟨by show e < (objs.modify a f).size;rw[Array.size_modify];exact x.1,fun o q=>?_⟩
 have q:(objs.modify a f)[e]?=some o:=q
 rw[Array.getElem?_modify] at q
 split at q
 ·obtain ⟨o',q',rfl⟩:=Option.map_eq_some_iff.mp q
  rw[hf];exact x.2 o' q'
 ·exact x.2 o q
theorem DicAt.push {e:Addr} {d:Option Addr} {h:Heap} {o:Obj} (x:DicAt e d h):DicAt e d (h.push o):=by
 obtain ⟨objs,l⟩:=h
 refine ⟨by show e < (objs.push o).size;rw[Array.size_push];exact Nat.lt_succ_of_lt x.1,fun o' q=>?_⟩
 have q:(objs.push o)[e]?=some o':=q
 rw[Array.getElem?_push,if_neg (Nat.ne_of_lt x.1)] at q
 exact x.2 o' q
section
variable {M:Model} {e:Addr} {d:Option Addr}
theorem wp_dict {α:Type} {Γ:PySem.Ctx} {t:Sem α} (ht:DKp t) {Q:α->Pos->Shared->Prop} {E:Value->Pos->Shared->Prop}:∀{p:Pos} {s:Shared},Sem.wp M Γ t Q E p s->DicAt e d s.heap →
  Sem.wp M Γ t (fun a p s'=>Q a p s'∧DicAt e d s'.heap) (fun v p s'=>E v p s'∧DicAt e d s'.heap) p s:=by
 induction ht with
 | pure a=>exact fun h x=>⟨h,x⟩
 | raise v=>exact fun h x=>⟨h,x⟩
 | uns w=>exact fun h _=>h
 | reg=>exact fun h _=>h
 | rule _ ih=>exact fun h x=>ih () h x
 | load _ ih=>exact fun ⟨o,ho,h⟩ x=>⟨o,ho,ih o h x⟩
 | update hf _ ih=>exact fun ⟨ha,h⟩ x=>⟨ha,ih () h (x.update hf)⟩
 | alloc _ ih=>exact fun h x=>ih _ h x.push
 | alive _ ih=>exact fun h x=>ih _ h x
 | stack _ ih=>exact fun h x=>ih _ h x
 | ask _ ih=>exact fun h x=>ih _ h x
theorem wpAny_dict {α:Type} {A:Around} {t:Sem α} (ht:DKp t) {Q:α->Shared->Prop} {E:Value->Shared->Prop} {s:Shared} (h:wpAny M A t Q E s) (x:DicAt e d s.heap) :
  wpAny M A t (fun a s'=>Q a s'∧DicAt e d s'.heap) (fun v s'=>E v s'∧DicAt e d s'.heap) s:=fun Γ p hΓ=>wp_dict ht (h Γ p hΓ) x
end
theorem dk_ld (a:Addr) (p:Option Value):DKp (Sem.load a p Sem.pure):=.load fun o=>.pure o
theorem dk_fieldsOf (v:Value):DKp (fieldsOf v):=by
 unfold fieldsOf
 cases v <;> try exact .uns _
 refine DKp.bind (dk_ld _ _) fun o=>?_
 cases o.data <;> first | exact .pure _ | exact .uns _
theorem dk_field (v:Value) (i:Nat):DKp (field v i):=by
 unfold field
 refine DKp.bind (dk_fieldsOf v) fun vs=>?_
 split
 ·exact .pure _
 ·exact .uns _
theorem mapFields_dict (f:Array Value->Array Value) (o:Obj):(o.mapFields f).dict=o.dict:=by
 obtain ⟨c,d,dt,sl⟩:=o
 cases dt <;> rfl
theorem dk_setField (v:Value) (i:Nat) (x:Value):DKp (setField v i x):=by
 unfold setField
 cases v <;> try exact .uns _
 show DKp (updateField _ i x)
 unfold updateField
 refine DKp.bind (dk_ld _ _) fun o=>?_
 cases o.data <;> try exact .uns _
 dsimp only
 split
 ·exact .update (fun o=>mapFields_dict _ o) fun u=>.pure u
 ·exact .uns _
theorem dk_setFlight (e:Value) (f:Option Addr):DKp (setFlight e f):=by
 unfold setFlight
 refine DKp.bind (dk_field e 1) fun tb=>?_
 split
 ·exact dk_setField _ _ _
 ·exact .pure _
theorem dk_behind (env:Env) (l:List Env):DKp (behindIsImport env l):=by
 unfold behindIsImport
 split
 ·exact .pure _
 ·split
  ·exact .pure _
  ·exact DKp.bind (dk_field _ _) fun _=>.pure _
theorem dk_kept (env:Env) (b:Bool):∀l:List Env,DKp (keptBack env b l)
 | []=>by
  simp only[keptBack]
  split
  ·exact .pure _
  ·refine DKp.bind ?_ fun _=>.pure _
   unfold underTheClaimsCaller
   exact DKp.bind (.stack fun l=>.pure l) fun _=>.pure _
 | _ :: _=>.pure _
theorem dk_ready:∀l:List Env,DKp (readyFrames l)
 | []=>.pure _
 | env :: outer=>by
  unfold readyFrames
  split
  ·refine DKp.bind (dk_ld _ _) fun o=>?_
   split
   ·exact .pure _
   ·refine DKp.bind (dk_behind _ _) fun b=>DKp.bind (dk_kept _ _ _) fun v=>DKp.bind (.update (fun _=>rfl) fun u=>.pure u) fun _=>dk_ready outer
  ·exact .uns _
theorem dk_frameOf (env:Env):DKp (PySem.frameOf env):=by
 unfold PySem.frameOf
 refine DKp.bind (DKp.bind (.stack fun l=>.pure l) fun _=>.pure _) fun l=>DKp.bind ?_ fun o=>?_
 ·unfold frameObject
  split
  ·exact .pure _
  ·exact DKp.bind (dk_ready _) fun _=>.pure _
 ·cases o
  ·exact .uns _
  ·exact .pure _
theorem dk_place (f:Addr) (b:Bool):DKp (entryPlaceOf f b):=by
 unfold entryPlaceOf
 refine DKp.bind (.stack fun l=>.pure l) fun l=>?_
 split <;> exact .pure _
theorem dk_entry (a b c d e:Value) (l:List Value):DKp (EntryCells.newEntry a b c d e l):=by
 unfold EntryCells.newEntry newFields
 generalize ([a,b,c,d,e]++if l.isEmpty then List.replicate 6 Value.none else l).toArray=vs
 have fin:DKp (newObjAsIs (.type "traceback") (.fields vs)):=DKp.bind (.alloc fun a=>.pure a) fun _=>.pure _
 unfold newObj
 dsimp only
 split
 ·exact DKp.bind (.uns _) fun _=>fin
 ·exact fin
theorem dk_note (e:Value) (env:Env):DKp (noteFrame e env):=by
 unfold noteFrame
 split
 ·refine DKp.bind (dk_field e 1) fun h=>?_
  have last:∀f:Addr,DKp (do setField e 1 (← EntryCells.newEntry h (← PySem.frameOf env) .none (rawInt f) .none (← entryPlaceOf f (h != .none)))):=fun f =>
   DKp.bind (dk_frameOf env) fun _=>DKp.bind (dk_place _ _) fun _=>DKp.bind (dk_entry _ _ _ _ _ _) fun _=>dk_setField _ _ _
  split
  ·refine DKp.bind (dk_field _ _) fun v=>?_
   split
   ·exact .pure _
   ·exact DKp.bind (dk_setField _ _ _) fun _=>last _
  ·exact last _
 ·exact .uns _
theorem dk_leaving (env:Env) (e:Value):DKp (leaving env e):=DKp.bind (dk_note e env) fun _=>dk_setFlight e none
end L2
namespace L2
open PySem PySem.Spec PyProof.Rows
theorem ObjOk.there {P:Program} {w:World} {H:Hp} {h:Heap} {a:Addr} {o:HO} (x:ObjOk P w H h a o):∃u,h.get? a=some u:=by
 cases o with
 | lst xs=>obtain ⟨_,_,_,_,e⟩:=x;exact ⟨_,e⟩
 | tup xs=>obtain ⟨_,_,_,o,e,_⟩:=x;exact ⟨_,e⟩
 | dK kvs=>obtain ⟨_,_,_,_,o,_,_,e,_⟩:=x;exact ⟨_,e⟩
 | dT kvs=>obtain ⟨_,_,_,_,o,_,_,e,_⟩:=x;exact ⟨_,e⟩
 | set S n=>obtain ⟨o,_,_,_,e,_⟩:=x;exact ⟨_,e⟩
 | ins C dx fs=>obtain ⟨_,_,_,e,_⟩:=x;exact ⟨_,e⟩
 | own y=>exact x
 | xd fs=>obtain ⟨_,⟨_,_,_,e,_⟩,_⟩:=x;exact ⟨_,e⟩
 | rng lo hi=>obtain ⟨_,_,_,e⟩:=x;exact ⟨_,e⟩
 | frz ob u=>obtain ⟨e,_⟩:=x;exact ⟨_,e⟩
 | tbl ps=>exact ⟨_,(show h.get? a=some _ from x)⟩
 | met f y=>exact ⟨_,(show h.get? a=some _ from x)⟩
 | ext φ=>exact x.2.1
section
variable {P:Program} {w:World} {fs:List Addr} {H H1 H2:Hp} {h0 h1 h2 B:Heap}
theorem fly_un (U:Un fs [] H H1 h0 h1) (ok:HOk P w H1 h1) (hB1:B.StaysIn h1) (hB2:B.StaysIn h2) (up:h1.UpToSlots h2)
  (c1:∀b u,H1 b=some u->∃o,B.get? b=some o) (c2:∀b o,h0.get? b=some o->b∉fs->∃o',B.get? b=some o')
  (hf:∀b∈fs,H b=none) (hd:∀b∈fs,∀o,h0.get? b=some o->∀vs,o.data≠.fields vs):Un fs [] H H1 h0 h2∧HOk P w H1 h2:=by
 have same:∀b o,h1.get? b=some o->(∃o',B.get? b=some o')->h2.get? b=some o:=fun b o e ⟨o',eb⟩=>by
  have z:=hB1 _ _ eb
  rw[e] at z;cases z
  exact hB2 _ _ eb
 have slot:∀b o,h0.get? b=some o->b∈fs->∃sl,h2.get? b=some { o with slots:=sl }:=fun b o e hb=>by
  obtain ⟨sl,e1⟩:=U.slot b o e (hf b hb) hb (by simp)
  obtain ⟨sl2,e2⟩:=up b _ e1 (hd b hb o e)
  exact ⟨sl2,e2⟩
 refine ⟨⟨fun b o e n hb hx=>same b o (U.keep b o e n hb hx) (c2 b o e hb),fun b o e n hb _=>slot b o e hb,U.free,fun b o e hx=>?_,U.tups,U.frzs,U.tbls⟩,fun a o e=>?_⟩
 ·by_cases hb:b∈fs
  ·obtain ⟨sl,q⟩:=slot b o e hb;exact ⟨_,q⟩
  ·obtain ⟨o',q⟩:=c2 b o e hb;exact ⟨o',hB2 _ _ q⟩
 ·refine (ok a o e).stay (fun b u hb q=>same b u q ?_) (fun _ q=>q) fun _ _ q=>q
  rcases hb with z | z
  ·rw[z];exact c1 a o e
  ·exact c1 b _ z
theorem Un.inner {L:Addr} (a:Un fs [] H H1 h0 h1) (b:Un (L :: fs) [] H1 H2 h1 h2) (hL:h0.get? L=none):Un fs [] H H2 h0 h2 where
 keep:=fun c o q n hc hx=>b.keep c o (a.keep c o q n hc hx) (a.free c o q n hx) (fun z=>(List.mem_cons.mp z).elim (fun e=>by rw[e,hL] at q;cases q) hc) hx
 slot:=fun c o q n hc hx=>by
  obtain ⟨sl,e1⟩:=a.slot c o q n hc hx
  obtain ⟨sl',e2⟩:=b.slot c _ e1 (a.free c o q n hx) (List.mem_cons_of_mem _ hc) hx
  exact ⟨sl',e2⟩
 free:=fun c o q n hx=>by
  obtain ⟨o',e1⟩:=a.there c o q hx
  exact b.free c o' e1 (a.free c o q n hx) hx
 there:=fun c o q hx=>by
  obtain ⟨o',e1⟩:=a.there c o q hx
  exact b.there c o' e1 hx
 tups:=fun c xs q=>b.tups c xs (a.tups c xs q)
 frzs:=fun c o xs q=>b.frzs c o xs (a.frzs c o xs q)
 tbls:=fun c ps q=>by
  obtain ⟨m1,e1⟩:=a.tbls c ps q
  obtain ⟨m2,e2⟩:=b.tbls c _ e1
  exact ⟨m1++m2,by rw[e2,Array.append_assoc]⟩
end
structure Fly0 (P:Program) (w:World) (outer:List Env) (H:Hp) (s:Shared) (H':Hp) (ea t:Addr) (cls:Value) (B:Heap) (s':Shared):Prop where
 os:s'.os=s.os
 bare:AllBare s'.gens
 un:Un (frs outer) [] H H' s.heap s'.heap
 hok:HOk P w H' s'.heap
 fly:Heap.FlyingW B outer ea cls (.ref t) s'.heap
 c1:∀b u,H' b=some u->∃o,B.get? b=some o
 c2:∀b o,s.heap.get? b=some o->b∉frs outer->∃o',B.get? b=some o'
structure Fly (P:Program) (w:World) (outer:List Env) (H:Hp) (s:Shared) (H':Hp) (ea t:Addr) (cls:Value) (dx:Option Addr) (B:Heap) (s':Shared):Prop extends Fly0 P w outer H s H' ea t cls B s' where
 dct:DicAt ea dx s'.heap
def CXE (P:Program) (w:World):CXT:=fun outer H s E e s'=>∃ea t cls dx H' B,e=.ref ea∧Fly P w outer H s H' ea t cls dx B s'∧E cls dx H'
section
variable {P:Program} {w:World} {K:PySem.W.Frag} {mg:Str->Option Value} {base:Heap} {N:List Str} {qual:Str} {scope:Scope} {f:Addr} {cd:Value} {A:Around} {outer:List Env} {s:Shared} {H:Hp} {E:XK}
theorem frs_cons {env:Env} {L:Addr} (hf:env.frame=some L):frs (env :: outer)=L :: frs outer:=by unfold frs;rw[List.filterMap_cons,hf]
theorem xe_throw {pins:List (Addr×Obj)} {σ:St} {H1:Hp} {s1:Shared} {h':Heap} {e:Addr} {cls:Value} {vs:List Value} (I:Inv (cxOf (CXE P w) P w K mg base N qual scope f cd A outer s H E) pins σ H1 s1)
  (hx:Heap.MadeExcOf s1.heap h' e cls vs) (hE:E cls none H1):(cxOf (CXE P w) P w K mg base N qual scope f cd A outer s H E).xe (.ref e) { s1 with heap:=h' }:=by
 have hfr:(A.deeper (envOfC qual scope s.heap.objs.size f cd)).frames=some (envOfC qual scope s.heap.objs.size f cd :: outer):=I.ok.frames
 have hstk:s1.heap.FunFrames base (envOfC qual scope s.heap.objs.size f cd :: outer):=I.stack
 have nL:∀b o,s.heap.get? b=some o->b≠s.heap.objs.size:=fun b o q=>Nat.ne_of_lt (Heap.lt_size q)
 have hD:DicAt e none h':=by
  obtain ⟨t,q,_⟩:=hx.there
  exact DicAt.of q
 refine wpAny_mono (wpAny_dict (e:=e) (d:=none) (dk_leaving _ _) (wpAny_leaves_madeW (E:=fun _ _=>False) (Q:=fun _ s2=>∃t,Fly0 P w outer H s H1 e t cls (PySem.W.hideAll s1.heap (frs (envOfC qual scope s.heap.objs.size f cd :: outer))) s2)
  (base:=PySem.W.hideAll s1.heap (frs (envOfC qual scope s.heap.objs.size f cd :: outer))) (h:=s1.heap) (L:=s.heap.objs.size) hfr rfl (fun b o q=>PySem.W.of_hideAll _ q)
  (PySem.W.funFrames_hide hstk fun env he b hb=>List.mem_filterMap.mpr ⟨env,he,hb⟩) hx fun h2 t x1 x2 x3 x4=>?_) hD) (fun _ s2 ⟨⟨t,F⟩,dc⟩=>⟨e,t,cls,none,H1,_,rfl,⟨F,dc⟩,hE⟩) (fun _ _ z=>z.1.elim)
 have c1:∀b u,H1 b=some u->∃o,(PySem.W.hideAll s1.heap (frs (envOfC qual scope s.heap.objs.size f cd :: outer))).get? b=some o:=fun b u q=>by
  obtain ⟨o,e⟩:=(I.hok b u q).there
  exact ⟨o,PySem.W.hideAll_get _ e fun z=>by
   have:=I.stkFree b z
   rw[q] at this;cases this⟩
 have c2:∀b o,s.heap.get? b=some o->b∉frs outer->∃o',(PySem.W.hideAll s1.heap (frs (envOfC qual scope s.heap.objs.size f cd :: outer))).get? b=some o':=fun b o q hb=>by
  obtain ⟨o',e⟩:=I.base.there b o q (List.not_mem_nil)
  refine ⟨o',PySem.W.hideAll_get _ e fun z=>?_⟩
  rw[frs_cons (L:=s.heap.objs.size) rfl] at z
  rcases List.mem_cons.mp z with z | z
  ·exact nL b o q z
  ·exact hb z
 have hU:Un (frs outer) [] H H1 s.heap s1.heap:=I.base
 obtain ⟨U2,ok2⟩:=fly_un hU I.hok (fun b o q=>PySem.W.of_hideAll _ q) x1.1 ((Heap.UpToSlots.of_keeps hx.keeps).trans x4) c1 c2 I.ok.frf (fun b hb o q=>by
  obtain ⟨_,o',e',d⟩:=I.ok.funs.mem hb
  have e':s.heap.get? b=some o':=e'
  rw[q] at e';cases e';exact d)
 exact ⟨t,I.os,I.bare,U2,ok2,x1,c1,c2⟩
theorem pass_def:Passes (CXE P w) (cxOf (CXE P w) P w K mg base N qual scope f cd A outer s H E) E:=by
 rintro pins σ H1 s1 e s' I ⟨ea,t,cls,dx,H',B,rfl,F,hE⟩
 have hfr:(A.deeper (envOfC qual scope s.heap.objs.size f cd)).frames=some (envOfC qual scope s.heap.objs.size f cd :: outer):=I.ok.frames
 have nL:∀b o,s.heap.get? b=some o->b≠s.heap.objs.size:=fun b o q=>Nat.ne_of_lt (Heap.lt_size q)
 have hf:frs (envOfC qual scope s.heap.objs.size f cd :: outer)=s.heap.objs.size :: frs outer:=frs_cons rfl
 have un:Un (s.heap.objs.size :: frs outer) [] H1 H' s1.heap s'.heap:=hf ▸ F.un
 have hU:Un (frs outer) [] H H1 s.heap s1.heap:=I.base
 have U1:Un (frs outer) [] H H' s.heap s'.heap:=hU.inner un (Heap.get?_none_of_le (Nat.le_refl _))
 refine wpAny_mono (wpAny_dict (e:=ea) (d:=dx) (dk_leaving _ _) (wpAny_leaves_onW (E:=fun _ _=>False) (Q:=fun _ s2=>Fly0 P w outer H s H' ea t cls B s2) hfr rfl F.fly fun h2 x1 x2=>?_) F.dct) (fun _ s2 ⟨F0,dc⟩=>⟨ea,t,cls,dx,H',B,rfl,⟨F0,dc⟩,hE⟩) (fun _ _ z=>z.1.elim)
 have c2:∀b o,s.heap.get? b=some o->b∉frs outer->∃o',B.get? b=some o':=fun b o q hb=>by
  obtain ⟨o',e⟩:=I.base.there b o q (List.not_mem_nil)
  refine F.c2 b o' e fun z=>?_
  have z:b∈frs (envOfC qual scope s.heap.objs.size f cd :: outer):=z
  rw[hf] at z
  rcases List.mem_cons.mp z with z | z
  ·exact nL b o q z
  ·exact hb z
 obtain ⟨U2,ok2⟩:=fly_un U1 F.hok F.fly.1 x1.1 x2 F.c1 c2 I.ok.frf (fun b hb o q=>by
  obtain ⟨_,o',e',d⟩:=I.ok.funs.mem hb
  have e':s.heap.get? b=some o':=e'
  rw[q] at e';cases e';exact d)
 exact ⟨F.os.trans I.os,F.bare,U2,ok2,x1,F.c1,c2⟩
end
def Throws (X:Cx) (E:XK):Prop:=∀(pins:List (Addr×Obj)) (σ:St) (H:Hp) (s:Shared) (h':Heap) (e:Addr) (cls:Value) (vs:List Value),Inv X pins σ H s->Heap.MadeExcOf s.heap h' e cls vs->E cls none H->X.xe (.ref e) { s with heap:=h' }
theorem throws_def {P:Program} {w:World} {K:PySem.W.Frag} {mg:Str->Option Value} {base:Heap} {N:List Str} {qual:Str} {scope:Scope} {f:Addr} {cd:Value} {A:Around} {outer:List Env} {s:Shared} {H:Hp} {E:XK} :
  Throws (cxOf (CXE P w) P w K mg base N qual scope f cd A outer s H E) E:=fun _ _ _ _ _ _ _ _ I hx hE=>xe_throw I hx hE
def tRaise (C:Addr) (E:XK):TS:=fun _ _ H=>E (.ref C) none H
abbrev vErr:List Value:=[.type "ValueError",.type "Exception",.type "BaseException",.type "object"]
theorem exc_obj {K:PySem.W.Frag} {C:Addr} {h:Heap} (X':K.In h) (hk:PySem.W.excIn K C vErr "ValueError.__new__"=true) :
  ∃bm N nm q bs hdct sn sub ab col dd k0 k1 k2 k3 k5 mN,h.get? C=some (excClassObj nm q C N bs bm hdct sn sub ab col dd k0 k1 k2 k3 k5 "ValueError.__new__")∧h.Ns N mN∧mN "__init__"=none∧OwnTail h vErr bm:=by
 unfold PySem.W.excIn at hk
 split at hk
 ·rename_i dd cd sl ho
  split at hk
  ·rename_i C' bm k0 k1 k2 k3 n k5 hm hs
   simp only[Bool.and_eq_true,beq_iff_eq,Bool.not_eq_true'] at hk
   obtain ⟨⟨⟨⟨⟨rfl,rfl⟩,hdel⟩,ht⟩,hok⟩,hni⟩:=hk
   obtain ⟨nm,bs,mro,ns,qn,hd',sn,sub,ab,col,del⟩:=cd
   dsimp only at hm hdel hok hni
   subst hm hdel
   have hsl:sl=#[k0,k1,k2,k3,some (.builtin "ValueError.__new__"),k5]:=by
    obtain ⟨l⟩:=sl
    simp only at hs
    rw[hs]
   subst hsl
   exact ⟨bm,ns,nm,qn,bs,hd',sn,sub,ab,col,dd,k0,k1,k2,k3,k5,_,X' _ _ ho,.of_isNs (PySem.W.isNs_of_in X' hok),PySem.W.nsMap_none_of_in X' hok hni,PySem.W.tail_of_in X' ht⟩
  ·cases hk
 ·cases hk
theorem ps_raise0 {X:Cx} {E:XK} {x:Str} {C:Addr} {np cpos pos:Pos} (hx:Throws X E) (hc:X.calm=true) (hg:Gl X x) (hm:X.mg x=some (.ref C)) (hk:PySem.W.excIn X.K C vErr "ValueError.__new__"=true)
  (hd:(x == ("__debug__":Str))=false:=by decide):PS X (.Raise (some (.Call (.Name x np) [] [] cpos)) none pos) (tRaise C E):=by
 intro pins s σ H D I h
 have O:=exc_obj I.kIn hk
 obtain ⟨tl,N,nm,q,bs,hdct,sn,sub,ab,col,dd,k0,k1,k2,k3,k5,mN,hC,hN,hni,T⟩:=O
 refine wpAny_Raise_call_subT (C:=C) (nm:=nm) (q:=q) (N:=N) (bs:=bs) (bm:=tl) (hdct:=hdct) (sn:=sn) (sub:=sub) (ab:=ab) (col:=col) (dd:=dd) (k0:=k0) (k1:=k1) (k2:=k2) (k3:=k3) (k5:=k5)
  PySem.F.excBase_ValueError (mN:=mN) (T.hasType PySem.F.excBase_ValueError.hasBase) (I.ok.hd hc) rfl hni (ld_glob I hg hm ⟨rfl,?_⟩ hd)
 exact evalArgs_empty ⟨rfl,Nat.zero_le _,hC,hN,T,fun h' e hm=>hx pins σ H s h' e _ _ I hm h⟩
end L2
namespace L2
open PySem PySem.Spec PyProof.Rows
abbrev Cx.tr (X:Cx) (pn:List (Addr×Obj)) (xe:Value->Shared->Prop):Cx:={ X with pn:=pn,xe:=xe }
abbrev Cx.sm (X:Cx) (ea:Addr):Cx:={ X with A:=X.A.mark (some (.ref ea)),calm:=false,xe:=fun _ _=>False }
section
variable {X:Cx} {pins:List (Addr×Obj)} {σ:St} {H H':Hp} {s:Shared}
theorem Inv.tr (I:Inv X pins σ H s) (xe:Value->Shared->Prop):Inv (X.tr (X.pn++pins) xe) [] σ H s :=
 ⟨⟨I.ok.mod,I.ok.kind,I.ok.glob,I.ok.blt,I.ok.above,I.ok.inj,I.ok.has,I.ok.cab,I.ok.hd,I.ok.frames,I.ok.stk,I.ok.exf,I.ok.bs,I.ok.bsz,I.ok.noex,I.ok.exfs,I.ok.funs,I.ok.frf⟩,
  I.os,I.bare,I.base,I.loc,I.cell,I.free,I.freeC,fun p hp=>I.pin p (by simpa using hp),I.hok,I.len⟩
theorem Inv.untr {ps:List (Addr×Obj)} {xe:Value->Shared->Prop} (I:Inv (X.tr (X.pn++pins) xe) ps σ H s):Inv X pins σ H s :=
 ⟨⟨I.ok.mod,I.ok.kind,I.ok.glob,I.ok.blt,I.ok.above,I.ok.inj,I.ok.has,I.ok.cab,I.ok.hd,I.ok.frames,I.ok.stk,I.ok.exf,I.ok.bs,I.ok.bsz,I.ok.noex,I.ok.exfs,I.ok.funs,I.ok.frf⟩,
  I.os,I.bare,I.base,I.loc,I.cell,I.free,I.freeC,fun p hp=>I.pin p (List.mem_append_left _ hp),I.hok,I.len⟩
theorem Inv.sm (I:Inv X pins σ H s) (ea:Addr):Inv (X.sm ea) pins σ H s :=
 ⟨⟨I.ok.mod,I.ok.kind,I.ok.glob,I.ok.blt,I.ok.above,I.ok.inj,I.ok.has,I.ok.cab,fun z=>Bool.noConfusion z,I.ok.frames,I.ok.stk,I.ok.exf,I.ok.bs,I.ok.bsz,I.ok.noex,I.ok.exfs,I.ok.funs,I.ok.frf⟩,
  I.os,I.bare,I.base,I.loc,I.cell,I.free,I.freeC,I.pin,I.hok,I.len⟩
theorem Inv.forget {ea:Addr} {h':Heap} {m':Str->Option Value} {t':Nat} (ok:X.Ok) (I:Inv (X.sm ea) pins σ H s) (hn:h'.Ns X.env.locals m') (hs:Heap.SameBut X.env.locals s.heap h') :
  Inv X pins (List.replicate X.N.length none) H { s with heap:=h',toks:=t' }:=by
 have neL:∀b o,X.s₀.heap.get? b=some o->b≠X.env.locals:=fun b o e=>Nat.ne_of_lt (Nat.lt_of_lt_of_le (Heap.lt_size e) ok.above)
 refine ⟨ok,I.os,I.bare,⟨fun b o e n hb hx=>(hs.2 b (neL b o e)).trans (I.base.keep b o e n hb hx),fun b o e n hb hx=>?_,I.base.free,fun b o e hx=>?_,I.base.tups,I.base.frzs,I.base.tbls⟩,⟨m',hn,fun i x v e1 e2 e3=>?_⟩,fun x c e=>?_,I.free,I.freeC,fun p hp=>?_,fun b u e=>?_,List.length_replicate⟩
 ·obtain ⟨sl,e1⟩:=I.base.slot b o e n hb hx
  exact ⟨sl,(hs.2 b (neL b o e)).trans e1⟩
 ·obtain ⟨o',e1⟩:=I.base.there b o e hx
  exact ⟨o',(hs.2 b (neL b o e)).trans e1⟩
 ·rw[List.getElem?_replicate] at e2
  split at e2 <;> cases e2
 ·obtain ⟨v,z⟩:=I.cell x c e
  exact ⟨v,z.sameBut hs (I.cne x c e)⟩
 ·obtain ⟨e,n,ne,nf,d⟩:=I.pin p hp
  exact ⟨(hs.2 p.1 ne).trans e,n,ne,nf,d⟩
 ·have fr:H X.env.locals=none:=I.free
  refine (I.hok b u e).stay (fun c v hc q=>(hs.2 c ?_).trans q) (fun _ q=>q) fun _ _ q=>q
  rintro rfl
  rcases hc with z | z
  ·rw[← z,fr] at e;cases e
  ·rw[fr] at z;cases z
theorem Inv.trackO {a:Addr} {o:HO} (I:Inv X pins σ H s) (hn:H a=none) (new:ObjOk X.prog X.w (upd H a o) s.heap a o) (n0:X.s₀.heap.get? a=none) (nL:a≠X.env.locals) (nC:∀x c,X.env.cells.lookup x=some c->c≠a)
  (nP:∀p∈X.pn++pins,p.1≠a):Inv X pins σ (upd H a o) s:=by
 have ne:∀b u,H b=some u->b≠a:=fun b u q=>ne_of_none q hn
 refine ⟨I.ok,I.os,I.bare,⟨I.base.keep,I.base.slot,fun b ob e n hx=>?_,I.base.there,fun b xs q=>?_,fun b ob u q=>?_,fun b ps q=>?_⟩,I.loc,I.cell,?_,fun x c e=>?_,fun p hp=>?_,fun b u e=>?_,I.len⟩
 ·rw[upd_ne (fun z=>by rw[z,n0] at e;cases e)];exact I.base.free b ob e n hx
 ·have q':=I.base.tups b xs q
  rw[upd_ne (ne _ _ q')];exact q'
 ·have q':=I.base.frzs b ob u q
  rw[upd_ne (ne _ _ q')];exact q'
 ·obtain ⟨m,q'⟩:=I.base.tbls b ps q
  exact ⟨m,by rw[upd_ne (ne _ _ q')];exact q'⟩
 ·rw[upd_ne (Ne.symm nL)];exact I.free
 ·rw[upd_ne (nC x c e)];exact I.freeC x c e
 ·obtain ⟨e,n,r⟩:=I.pin p hp
  exact ⟨e,by rw[upd_ne (nP p hp)];exact n,r⟩
 ·by_cases hb:b=a
  ·subst hb;rw[upd_same] at e;cases e;exact new
  ·rw[upd_ne hb] at e
   exact (I.hok b u e).stay (fun c v _ q=>q) (fun c q=>by rw[upd_ne (ne _ _ q)];exact q) fun c xs q=>by rw[upd_ne (ne _ _ q)];exact q
end
def exO (a:Addr) (cls:Value) (dx:Option Addr):HO:=.ext fun h=>∃o vs,h.get? a=some o∧o.cls=cls∧o.data=.fields vs∧o.dict=dx
def PassesS (CX:CXT) (X:Cx) (E:St->XK):Prop:=∀(pins:List (Addr×Obj)) (σ:St) (H:Hp) (s:Shared) (e:Value) (s':Shared),Inv X pins σ H s->CX X.stack H s (E σ) e s'->X.xe e s'
section
variable {X:Cx} {CX:CXT} {k:Nat} {f C:Addr} {fd:FuncData} {ps:List Str} {sp:Sp} {dvs:List V} {ds:List Value} {E:St->XK} {x n:Str} {p pos hpos np:Pos} {e:Expr} {es:List Expr} {t:TA}
structure Land (X:Cx) (pins:List (Addr×Obj)) (σ:St) (H0:Hp) (s0:Shared) (H':Hp) (ea t:Addr) (cls:Value) (dx:Option Addr) (B:Heap) (s1:Shared):Prop where
 I:Inv X pins σ H0 s0
 F:Fly X.prog X.w X.stack H0 s0 H' ea t cls dx B s1
section
variable {pins:List (Addr×Obj)} {σ:St} {H0 H':Hp} {s0 s1:Shared} {ea tt:Addr} {cls:Value} {dx:Option Addr} {B h:Heap}
theorem Land.inv (L:Land X pins σ H0 s0 H' ea tt cls dx B s1) (fl:Heap.FlyingW B X.stack ea cls (.ref tt) h) (up:s1.heap.UpToSlots h):Inv X pins σ H' { s1 with heap:=h }:=by
 obtain ⟨U,ok⟩:=fly_un L.F.un L.F.hok L.F.fly.1 fl.1 up L.F.c1 L.F.c2 L.I.stkFree (fun b hb o q=>by
  obtain ⟨_,o',e',d⟩:=L.I.stack.mem hb
  rw[q] at e';cases e';exact d)
 have os:s1.os=s0.os:=L.F.os
 have bare:AllBare s1.gens:=L.F.bare
 obtain ⟨hh,g,d,t,os'⟩:=s1
 dsimp only at os bare
 subst os
 exact Inv.call (s:=s0) (h':=h) (g':=g) (d':=d) (t':=t) (ch:=[]) L.I U ok bare (fun b z=>absurd z (by simp))
theorem Land.new (L:Land X pins σ H0 s0 H' ea tt cls dx B s1):s0.heap.get? ea=none:=by
 obtain ⟨_,n,fr,oe,vs,T,oT,ts,he,hc,hd,_⟩:=L.F.fly
 cases q:s0.heap.get? ea with
 | none=>rfl
 | some o =>
  by_cases hb:ea∈frs X.stack
  ·obtain ⟨_,o',e',d⟩:=fr.mem hb
   rw[he] at e';cases e'
   exact absurd hd (d vs)
  ·obtain ⟨o',e'⟩:=L.F.c2 ea o q hb
   rw[n] at e';cases e'
theorem Land.none_ (L:Land X pins σ H0 s0 H' ea tt cls dx B s1):H' ea=none:=by
 cases q:H' ea with
 | none=>rfl
 | some u =>
  obtain ⟨o,e⟩:=L.F.c1 ea u q
  rw[L.F.fly.2.1] at e;cases e
theorem Land.track (L:Land X pins σ H0 s0 H' ea tt cls dx B s1) (hex:X.ex=[]) (fl:Heap.FlyingW B X.stack ea cls (.ref tt) h) (up:s1.heap.UpToSlots h) (dc:DicAt ea dx h):Inv X pins σ (upd H' ea (exO ea cls dx)) { s1 with heap:=h }:=by
 have nw:=L.new
 have some_ne:∀b o,s0.heap.get? b=some o->b≠ea:=fun b o q z=>by rw[z,nw] at q;cases q
 refine (L.inv fl up).trackO L.none_ ?_ ?_ ?_ (fun x c e=>?_) (fun p hp=>?_)
 ·obtain ⟨_,_,_,oe,vs,T,oT,ts,he,hc,hd,_⟩:=fl
  exact ⟨⟨oe,vs,he,hc.1,hd,dc.get he⟩,⟨oe,he⟩,fun h1 h2 ⟨o,vs,a,b⟩ k=>⟨o,vs,k o a,b⟩⟩
 ·cases q:X.s₀.heap.get? ea with
  | none=>rfl
  | some o =>
   obtain ⟨o',e'⟩:=L.I.base.there ea o q (by rw[hex];exact List.not_mem_nil)
   rw[nw] at e';cases e'
 ·obtain ⟨m,⟨o,_,_,ho,_⟩,_⟩:=L.I.loc
  exact Ne.symm (some_ne _ o ho)
 ·obtain ⟨v,o,ho,_⟩:=L.I.cell x c e
  exact some_ne _ o ho
 ·exact some_ne _ _ (L.I.pin p hp).1
end
def HB (X:Cx) (hs:List ExceptHandler) (hr:Ends->St->Value->Option Addr->Hp->Prop):Prop :=
 ∀(pins:List (Addr×Obj)) (σ:St) (H0:Hp) (s0:Shared) (H':Hp) (ea tt:Addr) (cls:Value) (dx:Option Addr) (B:Heap) (s1:Shared) (h:Heap) (D:Ends),Land X pins σ H0 s0 H' ea tt cls dx B s1->Heap.FlyingW B X.stack ea cls (.ref tt) h->s1.heap.UpToSlots h->DicAt ea dx h →
  hr D σ cls dx H'->wpAny (model X.prog X.w) X.A (handleBy (.ref ea) X.env hs) (SP X pins D) X.xe { s1 with heap:=h }
def rtOnly (D:Ends):Ends:={ nx:=fun _ _=>False,rt:=D.rt }
def hNone:Ends->St->Value->Option Addr->Hp->Prop:=fun _ _ _ _ _=>False
theorem hb_nil:HB X [] hNone:=fun _ _ _ _ _ _ _ _ _ _ _ _ _ _ _ _ _ z=>False.elim z
def hAs (K:PySem.W.Frag) (C:Addr) (i:Nat) (ts:Addr->TS) (hr:Ends->St->Value->Option Addr->Hp->Prop):Ends->St->Value->Option Addr->Hp->Prop:=fun D σ cls dx H =>
 (PySem.W.exmOne K cls (.ref C)=some true∧∀ea,H ea=none->ts ea (rtOnly D) (σ.set i (some (.ref ea))) (upd H ea (exO ea cls dx)))∨(PySem.W.exmOne K cls (.ref C)=some false∧hr D σ cls dx H)
theorem hb_as {i:Nat} {b₀:Stmt} {suite:List Stmt} {rest:List ExceptHandler} {ts:Addr->TS} {hr:Ends->St->Value->Option Addr->Hp->Prop} (hex:X.ex=[]) (hg:Gl X x) (hm:X.mg x=some (.ref C)) (nd:X.N.Nodup) (hi:X.N[i]?=some n)
  (hl:X.env.scope.names.lookup n=some .local) (hs:∀ea,PSs (X.sm ea) (b₀ :: suite) (ts ea)) (hrest:HB X rest hr) (hdb:(x == ("__debug__":Str))=false:=by decide) :
  HB X (.ExceptHandler (some (.Name x np)) (some n) (b₀ :: suite) hpos :: rest) (hAs X.K C i ts hr):=by
 intro pins σ H0 s0 H' ea tt cls dx B s1 h D L fl up dc hq
 have J:=L.inv fl up
 refine wpAny_handleBy_cons (codeAny_handlers_test (ld_glob (X:=X.sm ea) (J.sm ea) hg hm ?_ hdb)) (by intro q;cases q)
 have LT:PySem.W.Looks (model X.prog X.w) h (typeOf (.ref ea)) cls:=by
  obtain ⟨o,e,c⟩:=fl.there
  exact c ▸ (PySem.W.Looks.ld e).andThen .now
 rcases hq with ⟨hb,hts⟩ | ⟨hb,hq⟩
 ·refine (PySem.W.exm_one (show X.K.In h from J.kIn) LT hb) _ _ _ _ (fun _ _ q=>q) ?_
  refine codeAny_handlers_suite_as ?_
  refine wpAny_mono (wpAny_dict (e:=ea) (d:=dx) (dk_setFlight _ _) (lands_againW (E:=fun _ _=>False) (Q:=fun _ s2=>∃h6,s2={ s1 with heap:=h6 }∧Heap.FlyingW B X.stack ea cls (.ref tt) h6∧h.UpToSlots h6) fl fun h6 fl6 up6=>⟨h6,rfl,fl6,up6⟩) dc) ?_ (fun _ _ z=>z.1.elim)
  rintro _ _ ⟨⟨h6,rfl,fl6,up6⟩,dc6⟩
  have J6:=(L.track hex fl6 (up.trans up6) dc6).sm ea
  refine store_ok (X:=X.sm ea) J6 nd hi (.inl hl) (show RelV (.ref ea) (.ref ea) from rfl) (fun s' I'=>?_) (.inr hl)
  refine wpAny_mono (hs ea pins s' _ _ _ I' (hts ea L.none_)) (fun f s2 hsp=>?_) fun _ _ z=>False.elim z
  cases f with
  | next=>obtain ⟨_,_,_,z⟩:=hsp;exact False.elim z
  | brk=>obtain ⟨_,_,_,z⟩:=hsp;exact False.elim z
  | cont=>obtain ⟨_,_,_,z⟩:=hsp;exact False.elim z
  | ret u =>
   obtain ⟨v,σ',H2,J2,rv,q⟩:=hsp
   obtain ⟨m,hn,_⟩:=id J2.loc
   refine wpAny_nameGoes hl hn (by rw[L.I.ok.kind];rfl) fun h' m' hn' hs'=>?_
   exact ⟨v,_,H2,J2.forget L.I.ok hn' hs',rv,q⟩
 ·refine (PySem.W.exm_one (show X.K.In h from J.kIn) LT hb) _ _ _ _ (fun _ _ q=>q) ?_
  exact hrest pins σ H0 s0 H' ea tt cls dx B s1 h D L fl up dc hq
def tTry (hr:Ends->St->Value->Option Addr->Hp->Prop) (tb:(St->XK)->TS):TS:=fun D σ H=>tb (hr D) D σ H
theorem ps_try {body:List Stmt} {h₀:ExceptHandler} {hs:List ExceptHandler} {hr:Ends->St->Value->Option Addr->Hp->Prop} {tb:(St->XK)->TS} (hst:X.stack=X.env :: X.outer) (hfr:X.env.frame=some X.env.locals)
  (hb:∀pn xe E,PassesS (CXE X.prog X.w) (X.tr pn xe) E->PSs (X.tr pn xe) body (tb E)) (hh:HB X (h₀ :: hs) hr):PS X (.Try body (h₀ :: hs) [] [] pos) (tTry hr tb):=by
 intro pins s σ H D I h
 refine wpAny_Try_except ?_
 refine wpAny_mono (hb (X.pn++pins) (fun e s1=>∃σ' H0 s0 H' ea t cls dx B,e=.ref ea∧Land X pins σ' H0 s0 H' ea t cls dx B s1∧hr D σ' cls dx H') (hr D) ?_ [] s σ H D (I.tr _) h) (fun f s1 hsp=>?_) (fun e s1 hx=>?_)
 ·rintro ps σ' H1 s1 e s' J ⟨ea,t,cls,dx,H',B,rfl,F,hE⟩
  exact ⟨σ',H1,s1,H',ea,t,cls,dx,B,rfl,⟨J.untr,F⟩,hE⟩
 ·cases f with
  | next=>obtain ⟨σ',H',J,q⟩:=hsp;exact wpAny_execs_nil ⟨σ',H',J.untr,q⟩
  | brk=>obtain ⟨σ',H',J,q⟩:=hsp;exact ⟨σ',H',J.untr,q⟩
  | cont=>obtain ⟨σ',H',J,q⟩:=hsp;exact ⟨σ',H',J.untr,q⟩
  | ret u=>obtain ⟨v,σ',H',J,r,q⟩:=hsp;exact ⟨v,σ',H',J.untr,r,q⟩
 ·obtain ⟨σ',H0,s0,H',ea,t,cls,dx,B,rfl,L,hq⟩:=hx
  have hfrm:X.A.frames=some (X.env :: X.outer):=by rw[← hst];exact L.I.ok.frames
  have fl:Heap.FlyingW B (X.env :: X.outer) ea cls (.ref t) s1.heap:=by rw[← hst];exact L.F.fly
  refine wpAny_mono (wpAny_dict (e:=ea) (d:=dx) (dk_note _ _) (wpAny_looks_onW (E:=fun _ _=>False) (Q:=fun _ s2=>∃h4,s2={ s1 with heap:=h4 }∧Heap.HeldW B (X.env :: X.outer) ea cls (.ref t) X.env.locals h4∧s1.heap.UpToSlots h4) hfrm hfr fl fun h4 held up4=>⟨h4,rfl,held,up4⟩) L.F.dct) ?_ (fun _ _ z=>z.1.elim)
  rintro _ _ ⟨⟨h4,rfl,held,up4⟩,dc4⟩
  refine wpAny_mono (wpAny_dict (e:=ea) (d:=dx) (dk_setFlight _ _) (wpAny_landsW (E:=fun _ _=>False) (Q:=fun _ s2=>∃h5,s2={ s1 with heap:=h5 }∧Heap.FlyingW B (X.env :: X.outer) ea cls (.ref t) h5∧h4.UpToSlots h5) held fun h5 fl5 up5=>⟨h5,rfl,fl5,up5⟩) dc4) ?_ (fun _ _ z=>z.1.elim)
  rintro _ _ ⟨⟨h5,rfl,fl5,up5⟩,dc5⟩
  exact hh pins σ' H0 s0 H' ea t cls dx B s1 h5 D L (by rw[hst];exact fl5) (up4.trans up5) dc5 hq
end
section
variable {K:PySem.W.Frag} {x t:Value} {Hh:Heap->Prop}
theorem kit_yes {c:Value} (ty:∀(M:Model) (h:Heap),Hh h->PySem.W.Looks M h (typeOf x) t) (e:PySem.W.kitOne K t c=some true):Answers (fun s=>K.In s.heap∧Hh s.heap) x c true:=by
 rintro dep tk prog w A R ⟨h0,gs,dr,tt,os⟩ ⟨⟨kin,p⟩,hq⟩
 have lt:=ty (model prog w) h0 p
 unfold PySem.W.kitOne at e
 unfold Builtin.«isinstance.nested»
 refine wpAny_bind (PySem.W.Looks.at lt ?_)
 rcases Bool.eq_false_or_eq_true (t == c) with q | q
 ·rw[q]
  exact wpAny_bind (wpAny_rule (wpAny_pure (hq tt)))
 ·rw[q] at e ⊢
  obtain ⟨a1,a2,a3⟩:=PySem.W.kit_cls (M:=model prog w) kin e
  rw[if_neg Bool.false_ne_true]
  refine wpAny_bind (PySem.W.Looks.at a1 ?_)
  rw[if_pos (beq_self_eq_true _)]
  k_delta "plainIsInstance"
  refine wpAny_bind (wpAny_bind (PySem.W.Looks.at a2 ?_))
  rw[if_neg (by simp)]
  refine wpAny_bind (PySem.W.Looks.at (lt.andThen a3) ?_)
  first | exact wpAny_pure (wpAny_pure (hq tt)) | (rw[if_pos rfl];first | exact wpAny_pure (wpAny_pure (hq tt)) | exact wpAny_pure (hq tt) | exact wpAny_bind (wpAny_pure (wpAny_pure (hq tt))))
end
end L2
namespace L2
open PySem PySem.Spec PyProof.Rows PySem.W
section
variable {prog:Program} {w:World} {A:Around} {E:Value->Shared->Prop} {h:Heap} {g:Array GenState} {d:Drawn} {t:Nat} {os:OsState} {a C:Addr} {o:Obj} {od:Option Obj} {K:Frag}
theorem chk_ga {M:Model} {nv:Value} {Q:Unit->Shared->Prop} (X:K.In h) (I:InstAt h a o C od) (hm:mroIn K C (.type "BaseException")=some true) (hq:Q () ⟨h,g,d,t,os⟩) :
  wpAny M A (checkBuiltinCall "BaseException.__getattribute__" ⟨[.ref a,nv],[]⟩) Q E ⟨h,g,d,t,os⟩:=by
 have b1:builtinKind "BaseException.__getattribute__"=some .slot:=by decide +kernel
 have b2:splitId "BaseException.__getattribute__"=some ("BaseException","__getattribute__"):=by decide +kernel
 have b3:=F.args_bexc_ga (.ref a) nv
 have LI:Looks M h (isInstance (.ref a) (.type "BaseException")) true:=I.type.andThen (looks_mroIn X hm)
 simp only[checkBuiltinCall,b1,b2]
 refine wpAny_bind (Looks.at LI ?_)
 (repeat (first | assumption | wp_step))
theorem ga_call {R:Result->Shared->Prop} {tk:Tok} (X:K.In h) (I:InstAt h a o C od) (hm:mroIn K C (.type "BaseException")=some true) (hm2:mroIn K C (.type "object")=some true) (hc:(clsIn K C).isSome=true)
  (ha:findIn K (.ref C) "__class__"=some (some (.builtin "object.__class__"))) (hn:specialIn K (.builtin "object.__class__") "__get__"=some (some (.builtin "getset_descriptor.__get__"))) (htk:takesIn K (.builtin "object.__class__")=some true)
  (hq:R (.ok (.ret (.ref C))) ⟨h,g,d,t,os⟩):codeAny (model prog w) A (.call (.builtin "BaseException.__getattribute__") ⟨[.ref a,.str "__class__" tk],[]⟩) R ⟨h,g,d,t,os⟩:=by
 have hf:findObj K C od "__class__"=some (.bind (.builtin "getset_descriptor.__get__") (.builtin "object.__class__")):=by
  obtain ⟨cd,hc⟩:=Option.isSome_iff_exists.mp hc
  unfold findObj
  rw[hc,Option.bind_some,ha,Option.bind_some]
  simp [hn,htk]
 have L0:=I.type (M:=model prog w)
 have L1:=looks_find (M:=model prog w) X I hf
 refine codeAny_call_builtin (by decide +kernel) F.entry_bexc_ga (chk_ga X I hm ?_)
 unfold Builtin.«object.__getattribute__»
 refine wpAny_bind (wpAny_pure ?_)
 dsimp only
 refine wpAny_bind (m:=Builtin.ObjectAttr.attrName (.str "__class__" tk)) (wpAny_pure ?_)
 refine wpAny_bind (Looks.at L0 ?_)
 refine wpAny_bind (Looks.at L1 ?_)
 dsimp only
 unfold Builtin.ObjectAttr.bindTo
 refine wpAny_bind (wpAny_holding (wpAny_call (class_get (s:=⟨h,g,d,t,os⟩) (ox:=o) (od:=od) X I hm2 ?_)))
 exact wpAny_pure hq
theorem exc_class {Q:Option Value->Shared->Prop} (X:K.In h) (I:InstAt h a o C od) (hga:findIn K (.ref C) "__getattribute__"=some (some (.builtin "BaseException.__getattribute__"))) (hgt:findIn K (.ref C) "__getattr__"=some none)
  (hm:mroIn K C (.type "BaseException")=some true) (hm2:mroIn K C (.type "object")=some true) (hc:(clsIn K C).isSome=true)
  (ha:findIn K (.ref C) "__class__"=some (some (.builtin "object.__class__"))) (hn:specialIn K (.builtin "object.__class__") "__get__"=some (some (.builtin "getset_descriptor.__get__"))) (htk:takesIn K (.builtin "object.__class__")=some true)
  (hq:Q (some (.ref C)) ⟨h,g,d,t+1,os⟩):wpAny (model prog w) A (getAttr? (.ref a) "__class__") Q E ⟨h,g,d,t,os⟩:=by
 have L0:=I.type (M:=model prog w)
 have L1:=looks_findIn (M:=model prog w) X hga
 have L2:=looks_findIn (M:=model prog w) X hgt
 unfold getAttr? getAttrBy? getAttrBy
 refine wpAny_bind (wpAny_mkText (wpAny_bind (wpAny_attempt (wpAny_holding (wpAny_bind (Looks.at L0 (wpAny_bind (Looks.at L1 ?_))))))))
 have ne:(onTheHeap (Value.ref C) && Value.builtin "BaseException.__getattribute__" == Value.builtin "object.__getattribute__")=false:=by
  rw[show (Value.builtin "BaseException.__getattribute__" == Value.builtin "object.__getattribute__")=false by decide +kernel,Bool.and_false]
 dsimp only
 rw[ne,if_neg Bool.false_ne_true]
 unfold getAttrByItsOwn
 refine wpAny_bind (show wpAny _ _ (typeLookup (.ref C) "__getattr__") _ _ _ from Looks.at L2 (wpAny_bind (wpAny_attempt (wpAny_holding ?_))))
 unfold callGetattribute boundAndCalled
 rw[Bool.false_and,if_neg Bool.false_ne_true]
 have fb:bindSpecial (.builtin "BaseException.__getattribute__") (.ref a)=pure (.builtin "BaseException.__getattribute__",[.ref a]):=F.excAttr_ValueError.ga.bind (.ref a)
 rw[fb]
 refine wpAny_bind (wpAny_pure (wpAny_call (ga_call X I hm hm2 hc ha hn htk ?_)))
 exact wpAny_pure (wpAny_pure hq)
end
structure ExC (K:Frag) (C:Addr):Prop where
 ga:findIn K (.ref C) "__getattribute__"=some (some (.builtin "BaseException.__getattribute__"))
 gt:findIn K (.ref C) "__getattr__"=some none
 mb:mroIn K C (.type "BaseException")=some true
 mo:mroIn K C (.type "object")=some true
 hd:hasDictIn K C=true
 ca:findIn K (.ref C) "__class__"=some (some (.builtin "object.__class__"))
 sg:specialIn K (.builtin "object.__class__") "__get__"=some (some (.builtin "getset_descriptor.__get__"))
 tk:takesIn K (.builtin "object.__class__")=some true
theorem ExC.obj {K:Frag} {C:Addr} (e:ExC K C):∃c d cd sl,K.lookup C=some ⟨c,d,.cls cd,sl⟩:=by
 obtain ⟨cd,hc,_⟩:=any_some e.hd
 unfold clsIn at hc
 split at hc
 ·exact ⟨_,_,_,_,by assumption⟩
 ·cases hc
theorem kitx_exc {K:Frag} {a C:Addr} (e:ExC K C):KitX K (.ref a) (.ref C) (fun h=>∃o,InstAt h a o C none) where
 ty:=fun _ _ _ ⟨_,I⟩=>I.type
 it:=fun _ _ X _=>by
  obtain ⟨c,d,cd,sl,lk⟩:=e.obj
  intro A' Q' E' s' k q
  unfold isType loadHead
  exact wpAny_bind (wpAny_loadPart (k _ _ (X _ _ lk)) (wpAny_pure q))
 ne:=fun h tp dd its n sl X htp=>by
  obtain ⟨c,d,cd,sl',lk⟩:=e.obj
  rcases Bool.eq_false_or_eq_true (Value.ref C == Value.ref tp) with q | q
  ·have z:C=tp:=Value.ref.inj (beq_iff_eq.mp q)
   subst z
   rw[X _ _ lk] at htp
   cases htp
  ·exact q
 ca:=fun {prog w A E Q s} X ⟨_,I⟩ k=>by
  obtain ⟨cd,hc,_⟩:=any_some e.hd
  obtain ⟨h,g,d,t,os⟩:=s
  exact exc_class X I e.ga e.gt e.mb e.mo (by rw[hc];rfl) e.ca e.sg e.tk k
theorem exO_inst {X:Cx} {pins:List (Addr×Obj)} {σ:St} {H:Hp} {s:Shared} {a C:Addr} (I:Inv X pins σ H s) (e:H a=some (exO a (.ref C) none)):∃o,InstAt s.heap a o C none:=by
 obtain ⟨⟨o,vs,g,c,d,dd⟩,_⟩:=(show ObjOk X.prog X.w H s.heap a (exO a (.ref C) none) from I.hok a _ e)
 obtain ⟨oc,od,dt,sl⟩:=o
 dsimp only at c d dd
 subst c d dd
 exact ⟨_,g,rfl,rfl,trivial⟩
def rIsEt (K:Frag):List V->Hp->VK->Prop:=fun vs H Q=>∃(a C tp:Addr) (cs:List Addr) (b:Bool),vs=[.ref a,.ref tp]∧H a=some (exO a (.ref C) none)∧ExC K C∧H tp=some (.tup (cs.map V.ref))∧kitAny K (.ref C) (cs.map Value.ref)=some b∧Q (.bl b) H
theorem vals_refs:∀{cs:List Addr} {us:List Value},Vals (cs.map V.ref) us->us=cs.map Value.ref
 | [],_,h=>by cases h;rfl
 | c :: cs,_,h=>by
  cases h with
  | cons a r=>cases a;rw[vals_refs r];rfl
theorem call_isEt {X:Cx}:CallR X (.builtin "isinstance") (rIsEt X.K):=by
 intro pins s σ H vs us Q I r h
 obtain ⟨a,C,tp,cs,b,rfl,ea,ex,et,ek,q⟩:=h
 obtain ⟨u,v,rfl,ru,rv⟩:=vals2 r
 cases ru
 cases rv
 obtain ⟨_,its,rits,o,ho,hoc,n,hod⟩:=(show ObjOk X.prog X.w H s.heap tp (.tup (cs.map V.ref)) from I.hok tp _ et)
 obtain ⟨oc,od,dt,sl⟩:=o
 dsimp only at hoc hod
 subst hoc hod
 obtain rfl:=vals_refs rits
 exact kia_tup (kitx_exc ex) I.kIn (exO_inst I ea) ho ek (fun z=>nomatch z) fun tk=>⟨.bl b,H,I.tok tk,rfl,q⟩
end L2
namespace L2
open PySem PySem.Spec PyProof.Rows Nm
section
variable {X:Cx} {pins:List (Addr×Obj)} {σ:St} {H:Hp} {s:Shared}
theorem isE_ok {A:Around} {E:Value->Shared->Prop} {Q:Value->Shared->Prop} {a:Addr} {c cls:Value} {dx:Option Addr} (I:Inv X pins σ H s) (e:H a=some (exO a cls dx)) (k:PySem.W.kitOne X.K cls c=some true) (h:∀tk,Q (.bool true) { s with toks:=tk }) :
  wpAny (model X.prog X.w) A (call (.builtin "isinstance") [.ref a,c]) Q E s:=by
 obtain ⟨p,_⟩:=(show ObjOk X.prog X.w H s.heap a (exO a cls dx) from I.hok a _ e)
 refine call_isinstance (S:=fun _ R s=>(X.K.In s.heap∧∃o vs,s.heap.get? a=some o∧o.cls=cls∧o.data=.fields vs∧o.dict=dx)∧∀tk,R (.ok (.ret (.bool true))) { s with toks:=tk })
  (fun prog w A R s hs=>isinstance_outer (kit_yes (Hh:=fun h=>∃o vs,h.get? a=some o∧o.cls=cls∧o.data=.fields vs∧o.dict=dx) (fun M h ⟨o,_,e1,e2,_⟩=>?_) k 0 _ prog w A R s hs) (fun z=>nomatch z)) ⟨⟨I.kIn,p⟩,h⟩
 exact e2 ▸ (PySem.W.Looks.ld e1).andThen .now
def rIsE (K:PySem.W.Frag) (c:Value):V->Hp->VK->Prop:=fun x H Q=>∃a cls dx,x=.ref a∧H a=some (exO a cls dx)∧((PySem.W.kitOne K cls c=some true∧Q (.bl true) H)∨∃C b,cls=.ref C∧dx=none∧ExC K C∧PySem.W.kitOne K cls c=some b∧Q (.bl b) H)
theorem isE_arg {ta:TE} {K:PySem.W.Frag} {c:Value} {cv:V} {Q:VK} (h:ta σ H fun x H1=>rIsE K c x H1 Q):tCons ta (tCons (tC cv) tNil) σ H (fun vs H1=>∃x,vs=[x,cv]∧rIsE K c x H1 Q):=by
 show ta σ H fun x H1=>∃x',[x,cv]=[x',cv]∧rIsE K c x' H1 Q
 have e:(fun x H1=>∃x',[x,cv]=[x',cv]∧rIsE K c x' H1 Q)=fun x H1=>rIsE K c x H1 Q:=by
  funext x H1
  exact propext ⟨fun ⟨x',e,q⟩=>by cases e;exact q,fun q=>⟨x,rfl,q⟩⟩
 rw[e]
 exact h
theorem pe_isEC {a:Expr} {ta:TE} {pos:Pos} {c:Str} {C:Addr} {p p2:Pos} (hg:Gl X "isinstance") (hm:X.mg "isinstance"=none) (hgc:Gl X c) (hmc:X.mg c=some (.ref C)) (ha:PE X a ta)
  (hd:(c == ("__debug__":Str))=false:=by decide) (he:starEach [a,.Name c p2] X.env=[(false,eval a X.env),(false,eval (.Name c p2) X.env)]:=by rfl)
  (hpl:(backTo pos (starEach [.Name c p2] X.env)).any (·.1)=false:=by rfl) (he2:starEach [.Name c p2] X.env=[(false,eval (.Name c p2) X.env)]:=by rfl):PE X (.Call (.Name "isinstance" p) [a,.Name c p2] [] pos) (tUn (rIsE X.K (.ref C)) ta):=by
 intro pins s σ H Q I h
 refine wpAny_Call_Name_kw (ld_blt I hg hm PyProof.Rows.boot_isinstance ?_)
 have hA:PA X [a,.Name c p2] (tCons ta (tCons (tC (.ref C)) tNil)):=pa_cons ha (pa_cons (pe_glob hgc hmc rfl hd) pa_nil he2) (by rw[he,he2])
 refine PyProof.Rows.callWith_builtin1 (thn (hA pos pins s σ H _ I (isE_arg h)) fun us s1 ⟨vs,H1,I1,r1,x,e,q1⟩=>?_) (by rw[he,he2]) hpl
 subst e
 obtain ⟨u,w',rfl,ru,rt⟩:=vals2 r1
 cases rt
 obtain ⟨ea,cls,dx,rfl,ee,⟨ek,q⟩ | ⟨C',b,rfl,rfl,ex,ek,q⟩⟩:=q1
 ·cases ru
  exact isE_ok I1 ee ek fun tk=>⟨.bl true,H1,I1.tok tk,rfl,q⟩
 ·cases ru
  exact PySem.W.kia_one (kitx_exc ex) I1.kIn (exO_inst I1 ee) ek (fun z=>nomatch z) fun tk=>⟨.bl b,H1,I1.tok tk,rfl,q⟩
theorem pe_isEB {a:Expr} {ta:TE} {pos:Pos} {c:Str} {T:String} {p p2:Pos} (hg:Gl X "isinstance") (hm:X.mg "isinstance"=none) (hb:bootBuiltins c=some (.type T)) (hmc:X.mg c=none) (ha:PE X a ta) (hgc:Gl X c:=by rfl) (hn:c≠"__name__":=by decide)
  (hd:(c == ("__debug__":Str))=false:=by decide) (he:starEach [a,.Name c p2] X.env=[(false,eval a X.env),(false,eval (.Name c p2) X.env)]:=by rfl)
  (hpl:(backTo pos (starEach [.Name c p2] X.env)).any (·.1)=false:=by rfl) (he2:starEach [.Name c p2] X.env=[(false,eval (.Name c p2) X.env)]:=by rfl):PE X (.Call (.Name "isinstance" p) [a,.Name c p2] [] pos) (tUn (rIsE X.K (.type T)) ta):=by
 intro pins s σ H Q I h
 refine wpAny_Call_Name_kw (ld_blt I hg hm PyProof.Rows.boot_isinstance ?_)
 have hA:PA X [a,.Name c p2] (tCons ta (tCons (tC (.ty T)) tNil)):=pa_cons ha (pa_cons (pe_bltn hgc hmc hb rfl hn hd) pa_nil he2) (by rw[he,he2])
 refine PyProof.Rows.callWith_builtin1 (thn (hA pos pins s σ H _ I (isE_arg h)) fun us s1 ⟨vs,H1,I1,r1,x,e,q1⟩=>?_) (by rw[he,he2]) hpl
 subst e
 obtain ⟨u,w',rfl,ru,rt⟩:=vals2 r1
 cases rt
 obtain ⟨ea,cls,dx,rfl,ee,⟨ek,q⟩ | ⟨C',b,rfl,rfl,ex,ek,q⟩⟩:=q1
 ·cases ru
  exact isE_ok I1 ee ek fun tk=>⟨.bl true,H1,I1.tok tk,rfl,q⟩
 ·cases ru
  exact PySem.W.kia_one (kitx_exc ex) I1.kIn (exO_inst I1 ee) ek (fun z=>nomatch z) fun tk=>⟨.bl b,H1,I1.tok tk,rfl,q⟩
end
theorem rd_try {hr:Ends->St->Value->Option Addr->Hp->Prop} {tb:(St->XK)->TS} {D:Ends} {σ:St} {H:Hp} (h:tb (hr D) D σ H):tTry hr tb D σ H:=h
section
variable {P:Program} {w:World} {K:PySem.W.Frag} {mg:Str->Option Value} {base:Heap}
theorem Fun.okX {x qual:Str} {st:Stmt} {f:Addr} {fd:FuncData} {N ps:List Str} {k:Nat} {sp:Sp} (F:Fun K x qual st f fd) (S:FnScope N ps (defScope st)) (len:∀vs H Q E,sp vs H Q E->vs.length=ps.length)
  (hbody:∀(cdv:Value) (A:Around) (outer:List Env) (s:Shared) (H:Hp) (vs:List V) (Q:VK) (E:XK),Room k (A.deeper (envOfC qual (defScope st) s.heap.objs.size f cdv))->sp vs H Q E →
   ∃t,PSs (cxOf (CXE P w) P w K mg base N qual (defScope st) f cdv A outer s H E) (defBody st) t∧t { nx:=fun _ H'=>Q .non H',rt:=Q } (start N vs) H):FnOk P w K mg base (CXE P w) (k+1) f fd ps sp:=by
 obtain ⟨oc,od,kV,doc,pm,an,cdv,ct,osl,rfl,lk,hcd⟩:=F.ex
 exact fn_of lk hcd S len fun A outer s H vs Q E hr hsp=>hbody cdv A outer s H vs Q E hr hsp
end
end L2
namespace L2
open PySem PySem.Spec PyProof.Rows Nm
end L2
namespace L2
open PySem PySem.Spec PyProof.Rows
section
variable {M:Model} {A:Around} {E:Value->Shared->Prop} {s:Shared} {B:Heap} {env:Env} {outer l:List Env} {L e:Addr} {cls a0 fl:Value} {Q:Unit->Shared->Prop}
theorem note_any (hfr:A.frames=some (env :: outer)) (hf:env.frame=some L) (hk:B.StaysIn s.heap) (hn:B.get? e=none) (hl:s.heap.FunFrames B (env :: outer)) (ht:s.heap.TracedAtW B e cls a0 fl)
  (q:∀h',Heap.HeldW B (env :: outer) e cls a0 L h'->s.heap.UpToSlots h'->Q () { s with heap:=h' }):wpAny M A (noteFrame (.ref e) env) Q E s:=by
 by_cases z:(fl == rawInt L)=true
 ·have z':fl=rawInt L:=by simpa using z
  subst z'
  exact wpAny_noteFrame_againW hf ht (q _ ⟨hk,hn,hl,ht⟩ (Heap.UpToSlots.refl _))
 obtain ⟨oe,vs,t,ot,ts,g1,⟨rfl,v0⟩,d1,v1,n1,te,g2,d2,t3⟩:=ht
 unfold noteFrame
 simp only[hf]
 refine wpAny_bind (wpAny_field g1 d1 v1 ?_)
 rw[if_pos (by rfl)]
 refine wpAny_bind (wpAny_field g2 d2 t3 ?_)
 rw[if_neg z]
 refine wpAny_bind (wpAny_setField g2 d2 (Array.getElem?_eq_some_iff.mp t3).1 ?_)
 have sm:∀b,b≠t->(s.heap.update t (Obj.mapFields (·.setIfInBounds 3 .none))).get? b=s.heap.get? b:=fun b hb=>Heap.get?_update_other _ _ (fun y=>hb y.symm)
 have nt:∀{b o},s.heap.get? b=some o->(∀vs,o.data≠.fields vs)->b≠t:=fun {b o} eb no y=>by
  subst y
  rw[g2] at eb
  cases eb
  exact no ts d2
 refine wpAny_entryW hfr (hl.of_keeps fun b o eb no=>⟨o,by rw[sm b (nt eb no)];exact eb,rfl⟩) hf (by rw[sm e fun y=>te y.symm];exact g1) (fun b o eb=>by rw[sm b fun y=>by rw[y,n1] at eb;cases eb];exact hk b o eb) hn d1 (Array.getElem?_eq_some_iff.mp v1).1 v0 fun h' w=>?_
 obtain ⟨w1,w2,w3,w4⟩:=w
 exact q h' ⟨w1,hn,w2,w3⟩ fun b o eb no=>w4 b o (by show _=_;rw[sm b (nt eb no)];exact eb) no
theorem set_any {fr:Option Addr} (hk:B.StaysIn s.heap) (hl:s.heap.FunFrames B l) (ht:s.heap.TracedAtW B e cls a0 fl)
  (q:∀h' fl',B.StaysIn h'->h'.FunFrames B l->h'.TracedAtW B e cls a0 fl'->s.heap.UpToSlots h'->Q () { s with heap:=h' }):wpAny M A (setFlight (.ref e) fr) Q E s:=by
 obtain ⟨oe,vs,t,ot,ts,g1,hc,d1,v1,n1,te,g2,d2,t3⟩:=ht
 have sz:=(Array.getElem?_eq_some_iff.mp t3).1
 unfold setFlight
 refine wpAny_bind (wpAny_field g1 d1 v1 ?_)
 rw[if_pos (by rfl)]
 generalize fr.elim Value.none (fun f=>rawInt f)=x
 have sm:∀b,b≠t->(s.heap.update t (Obj.mapFields (·.setIfInBounds 3 x))).get? b=s.heap.get? b:=fun b hb=>Heap.get?_update_other _ _ (fun y=>hb y.symm)
 have nt:∀{b o},s.heap.get? b=some o->(∀vs,o.data≠.fields vs)->b≠t:=fun {b o} eb no y=>by
  subst y
  rw[g2] at eb
  cases eb
  exact no ts d2
 refine wpAny_setField g2 d2 sz (q _ x (fun b o eb=>by rw[sm b fun y=>by rw[y,n1] at eb;cases eb];exact hk b o eb) (hl.of_keeps fun b o eb no=>⟨o,by rw[sm b (nt eb no)];exact eb,rfl⟩) ?_ fun b o eb no=>⟨o.slots,by rw[sm b (nt eb no)];exact eb⟩)
 exact ⟨oe,vs,t,_,_,by rw[sm e fun y=>te y.symm];exact g1,hc,d1,v1,n1,te,Heap.get?_update_self _ g2 (Obj.isFreed_of_fields (Obj.data_mapFields d2 _)),Obj.data_mapFields d2 _,by simp [sz]⟩
theorem leave_any (hfr:A.frames=some (env :: outer)) (hf:env.frame=some L) (hk:B.StaysIn s.heap) (hn:B.get? e=none) (hl:s.heap.FunFrames B (env :: outer)) (ht:s.heap.TracedAtW B e cls a0 fl)
  (q:∀h',Heap.FlyingW B outer e cls a0 h'->s.heap.UpToSlots h'->Q () { s with heap:=h' }):wpAny M A (leaving env (.ref e)) Q E s:=by
 unfold leaving
 refine wpAny_bind (note_any hfr hf hk hn hl ht fun h1 w up=>?_)
 refine wpAny_landsW w fun h2 fy up2=>q h2 ?_ (up.trans up2)
 obtain ⟨k1,k2,⟨_,_,k3⟩,k4⟩:=fy
 exact ⟨k1,k2,k3,k4⟩
end
def LeaveX (X:Cx) (E:XK):Prop:=∀(pins:List (Addr×Obj)) (σ:St) (H':Hp) (s':Shared) (ea t:Addr) (cls:Value) (dx:Option Addr) (B:Heap) (C:Addr) (m:Str->Option Value),Inv X pins σ H' s'->E cls dx H'->Heap.FlyingW B X.stack ea cls (.ref t) s'.heap->DicAt ea dx s'.heap →
 (∀b u,H' b=some u->∃o,B.get? b=some o)->(∀b o,X.s₀.heap.get? b=some o->b∉frs X.stack->∃o',B.get? b=some o')->s'.heap.Ns C m->H' C=none->C∉frs X.stack->X.s₀.heap.get? C=none->ea≠C →
 notedBy (model X.prog X.w) X.A X.env (fun x s''=>∃m,s''.heap.Ns C m∧∀h',Heap.SameBut C s''.heap h'->∀cenv:Env,wpAny (model X.prog X.w) X.A (passOn "comprehension.variables-let-go" x cenv:Sem Value) (fun _ _=>False) X.xe { s'' with heap:=h' }) (.ref ea) s'
end L2
namespace L2
open PySem PySem.Spec PyProof.Rows
theorem frames_to {h h2 B B2:Heap} {C:Addr}:∀{l:List Env},h.FunFrames B l->(∀b o,B2.get? b=some o->B.get? b=some o)->Heap.SameBut C h h2->C∉frs l->h2.FunFrames B2 l
 | [],_,_,_,_=>trivial
 | env :: l,⟨k,⟨L,o,hf,n,g,d⟩,r⟩,hb,sb,hc=>by
  have hf2:frs (env :: l)=L :: frs l:=frs_cons hf
  rw[hf2,List.mem_cons,not_or] at hc
  refine ⟨k,⟨L,o,hf,?_,(sb.2 L fun z=>hc.1 z.symm).trans g,d⟩,frames_to r hb sb hc.2⟩
  cases e:B2.get? L with
  | none=>rfl
  | some u=>rw[hb L u e] at n;cases n
theorem fly_unF {P:Program} {w:World} {fs:List Addr} {H H1:Hp} {h0 h1 h2 B:Heap} (U:Un fs [] H H1 h0 h1) (ok:HOk P w H1 h1) (hB1:B.StaysIn h1) (hB2:B.StaysIn h2) (up:∀b∈fs,∀o,h1.get? b=some o->(∀vs,o.data≠.fields vs)->∃sl,h2.get? b=some { o with slots:=sl })
  (c1:∀b u,H1 b=some u->∃o,B.get? b=some o) (c2:∀b o,h0.get? b=some o->b∉fs->∃o',B.get? b=some o')
  (hf:∀b∈fs,H b=none) (hd:∀b∈fs,∀o,h0.get? b=some o->∀vs,o.data≠.fields vs):Un fs [] H H1 h0 h2∧HOk P w H1 h2:=by
 have sm:∀b o,h1.get? b=some o->(∃o',B.get? b=some o')->h2.get? b=some o:=fun b o e ⟨o',eb⟩=>by
  have z:=hB1 _ _ eb
  rw[e] at z;cases z
  exact hB2 _ _ eb
 have sl:∀b o,h0.get? b=some o->b∈fs->∃sl,h2.get? b=some { o with slots:=sl }:=fun b o e hb=>by
  obtain ⟨s1,e1⟩:=U.slot b o e (hf b hb) hb (by simp)
  obtain ⟨s2,e2⟩:=up b hb _ e1 (hd b hb o e)
  exact ⟨s2,e2⟩
 refine ⟨⟨fun b o e n hb hx=>sm b o (U.keep b o e n hb hx) (c2 b o e hb),fun b o e n hb _=>sl b o e hb,U.free,fun b o e hx=>?_,U.tups,U.frzs,U.tbls⟩,fun a o e=>?_⟩
 ·by_cases hb:b∈fs
  ·obtain ⟨s1,q⟩:=sl b o e hb;exact ⟨_,q⟩
  ·obtain ⟨o',q⟩:=c2 b o e hb;exact ⟨o',hB2 _ _ q⟩
 ·refine (ok a o e).stay (fun b u hb q=>sm b u q ?_) (fun _ q=>q) fun _ _ q=>q
  rcases hb with z | z
  ·rw[z];exact c1 a o e
  ·exact c1 b _ z
theorem leave_def {P:Program} {w:World} {K:PySem.W.Frag} {mg:Str->Option Value} {base:Heap} {N:List Str} {qual:Str} {scope:Scope} {f:Addr} {cd:Value} {A:Around} {outer:List Env} {s:Shared} {H:Hp} {E:XK} :
  LeaveX (cxOf (CXE P w) P w K mg base N qual scope f cd A outer s H E) E:=by
 intro pins σ H' s' ea t cls dx B C m I hE fy dc c1 c2 hn hC nC sC ne
 have hfr:(A.deeper (envOfC qual scope s.heap.objs.size f cd)).frames=some (envOfC qual scope s.heap.objs.size f cd :: outer):=I.ok.frames
 have nL:∀b o,s.heap.get? b=some o->b≠s.heap.objs.size:=fun b o q=>Nat.ne_of_lt (Heap.lt_size q)
 have hfs:frs (envOfC qual scope s.heap.objs.size f cd :: outer)=s.heap.objs.size :: frs outer:=frs_cons rfl
 have nC':C∉frs outer:=fun z=>nC (by show C∈frs (_ :: outer);rw[hfs];exact List.mem_cons_of_mem _ z)
 obtain ⟨f1,f2,f3,f4⟩:=id fy
 refine wpAny_mono (wpAny_dict (e:=ea) (d:=dx) (dk_note _ _) (note_any (E:=fun _ _=>False) (Q:=fun _ s2=>∃h1,s2={ s' with heap:=h1 }∧Heap.HeldW B (envOfC qual scope s.heap.objs.size f cd :: outer) ea cls (.ref t) s.heap.objs.size h1∧s'.heap.UpToSlots h1) hfr rfl f1 f2 f3 f4.at fun h1 w up=>⟨h1,rfl,w,up⟩) dc) (fun _ s2 ⟨⟨h1,e2,w,up⟩,dc1⟩=>?_) (fun _ _ z=>z.1.elim)
 subst e2
 obtain ⟨w1,w2,w3,w4⟩:=w
 refine ⟨m,up.ns hn,fun h2 sb cenv=>?_⟩
 have hB:∀b o,(PySem.W.hideAll B [C]).get? b=some o->B.get? b=some o:=fun b o q=>PySem.W.of_hideAll _ q
 have hBn:∀b,B.get? b=none->(PySem.W.hideAll B [C]).get? b=none:=fun b n=>by
  cases e:(PySem.W.hideAll B [C]).get? b with
  | none=>rfl
  | some u=>rw[hB b u e] at n;cases n
 have hBC:∀b o,(PySem.W.hideAll B [C]).get? b=some o->b≠C:=fun b o q z=>by rw[z,PySem.W.hideAll_none [C] (by simp)] at q;cases q
 have st2:(PySem.W.hideAll B [C]).StaysIn h2:=fun b o q=>(sb.2 b (hBC b o q)).trans (w1 b o (hB b o q))
 have fr2:h2.FunFrames (PySem.W.hideAll B [C]) (envOfC qual scope s.heap.objs.size f cd :: outer):=frames_to w3 hB sb nC
 have up2:=up.ns hn
 have tr2:h2.TracedAtW (PySem.W.hideAll B [C]) ea cls (.ref t) (rawInt s.heap.objs.size):=by
  obtain ⟨oe,vs,T,oT,ts,g1,hc,d1,v1,n1,te,g2,d2,t3⟩:=w4
  have TC:T≠C:=fun z=>by
   obtain ⟨o,es,ep,ho,hd,_⟩:=up2
   rw[z] at g2
   have g2':h1.get? C=some oT:=g2
   have ho':h1.get? C=some o:=ho
   rw[g2'] at ho';cases ho'
   rw[d2] at hd;cases hd
  exact ⟨oe,vs,T,oT,ts,(sb.2 ea ne).trans g1,hc,d1,v1,hBn T n1,te,(sb.2 T TC).trans g2,d2,t3⟩
 have dc2:DicAt ea dx h2:=by
  obtain ⟨oe,_,_,_,_,g1,_⟩:=id tr2
  have g0:h1.get? ea=some oe:=(sb.2 ea ne).symm.trans g1
  have:=DicAt.get dc1 g0
  rw[← this]
  exact DicAt.of g1
 unfold PySem.passOn
 obtain ⟨oe,vs,T,oT,ts,g1,hc,d1,v1,n1,te,g2,d2,t3⟩:=id tr2
 refine wpAny_bind (wpAny_field g1 d1 v1 ?_)
 rw[if_neg (by simp)]
 refine wpAny_bind ?_
 refine wpAny_mono (wpAny_dict (e:=ea) (d:=dx) (dk_setFlight _ _) (set_any (E:=fun _ _=>False) (Q:=fun _ s3=>∃h3 fl',s3={ s' with heap:=h3 }∧(PySem.W.hideAll B [C]).StaysIn h3∧h3.FunFrames (PySem.W.hideAll B [C]) (envOfC qual scope s.heap.objs.size f cd :: outer)∧h3.TracedAtW (PySem.W.hideAll B [C]) ea cls (.ref t) fl'∧h2.UpToSlots h3) st2 fr2 tr2 fun h3 fl' a b c d=>⟨h3,fl',rfl,a,b,c,d⟩) dc2) (fun _ s3 ⟨⟨h3,fl',e3,k1,k2,k3,up3⟩,dc3⟩=>?_) (fun _ _ z=>z.1.elim)
 subst e3
 refine wpAny_throw ?_
 refine wpAny_mono (wpAny_dict (e:=ea) (d:=dx) (dk_leaving _ _) (leave_any (E:=fun _ _=>False) (Q:=fun _ s4=>Fly0 P w outer H s H' ea t cls (PySem.W.hideAll B [C]) s4) hfr rfl k1 (hBn ea f2) k2 k3 fun h4 x1 x2=>?_) dc3) (fun _ s4 ⟨F0,dc⟩=>⟨ea,t,cls,dx,H',_,rfl,⟨F0,dc⟩,hE⟩) (fun _ _ z=>z.1.elim)
 have d1':∀b u,H' b=some u->∃o,(PySem.W.hideAll B [C]).get? b=some o:=fun b u q=>by
  obtain ⟨o,eo⟩:=c1 b u q
  exact ⟨o,PySem.W.hideAll_get _ eo (by simp only[List.mem_singleton];intro z;rw[z,hC] at q;cases q)⟩
 have d2':∀b o,s.heap.get? b=some o->b∉frs outer->∃o',(PySem.W.hideAll B [C]).get? b=some o':=fun b o q hb=>by
  obtain ⟨o',eo⟩:=c2 b o q (by
   show b∉frs (_ :: outer)
   rw[hfs,List.mem_cons,not_or]
   exact ⟨nL b o q,hb⟩)
  exact ⟨o',PySem.W.hideAll_get _ eo (by simp only[List.mem_singleton];intro z;have sC':s.heap.get? C=none:=sC;rw[z,sC'] at q;cases q)⟩
 have hU:Un (frs outer) [] H H' s.heap s'.heap:=I.base
 obtain ⟨U2,ok2⟩:=fly_unF hU I.hok (fun b o q=>f1 b o (hB b o q)) x1.1 (fun b hb o q no=>by
  have bC:b≠C:=fun z=>nC' (by rw[← z];exact hb)
  obtain ⟨s1,e1⟩:=up b o q no
  obtain ⟨s2,e2⟩:=up3 b _ ((sb.2 b bC).trans e1) no
  obtain ⟨s3,e3⟩:=x2 b _ e2 no
  exact ⟨s3,e3⟩) d1' d2' I.ok.frf (fun b hb o q=>by
  obtain ⟨_,o',e',d⟩:=I.ok.funs.mem hb
  have e':s.heap.get? b=some o':=e'
  rw[q] at e';cases e';exact d)
 exact ⟨I.os,I.bare,U2,ok2,x1,d1',d2'⟩
end L2
namespace L2
open PySem PySem.Spec PyProof.Rows
theorem compLoop_ownX {prog:Program} {w:World} {A:Around} {R:Result->Shared->Prop} {s:Shared} {elt target iter:Expr} {ifs:List Expr} {scope:Scope} {pos:Pos} {it acc:Value} {env:Env} (I:Nat->Shared->Prop)
  (turn:∀n s,I n s->wpAny (model prog w) A (pyNext it) (fun r s₁=>match r with
   | none=>R (.ok .next) s₁
   | some v=>wpAny (model prog w) A (letOwnedTupleGo target it v) (fun _ s₂=>wpAny (model prog w) A (assign target env v) (fun _ s₃ =>
     wpAny (model prog w) A (forIn ifs true fun c r=>if r=true then do let ok ← isTrue c env (eval c env);pure (ForInStep.yield ok) else pure (ForInStep.yield r)) (fun ok s₄ =>
      if ok=true then wpAny (model prog w) A (eval elt env) (fun x s₅=>wpAny (model prog w) A (call (.builtin "list.append") [acc,x]) (fun _ s₆=>∃m,m < n∧I m s₆) (notedBy (model prog w) A env fun e s₉=>R (.error e) s₉) s₅) (notedBy (model prog w) A env fun e s₉=>R (.error e) s₉) s₄
      else ∃m,m < n∧I m s₄) (notedBy (model prog w) A env fun e s₉=>R (.error e) s₉) s₃) (notedBy (model prog w) A env fun e s₉=>R (.error e) s₉) s₂) (notedBy (model prog w) A env fun e s₉=>R (.error e) s₉) s₁) (notedBy (model prog w) A env fun e s₉=>R (.error e) s₉) s)
  (n:Nat) (h:I n s):codeAny (model prog w) A (.compLoop (.ListComp elt [⟨target,iter,ifs,0⟩] scope pos) 0 it acc env) R s:=by
 refine codeAny_loop rfl I (fun n s hI=>?_) n h
 show wpAny _ A ((compTurn (.ListComp elt [⟨target,iter,ifs,0⟩] scope pos) 0 it acc env).onRaise (fun x=>do noteFrame x env;theTreesLotGoes x)) _ _ s
 refine wpAny_noted ?_
 rw[compTurn_list]
 refine wpAny_bind (wpAny_standAt (wpAny_bind (wpAny_mono (turn n s hI) (fun r s₁ h₁=>?_) fun _ _ h'=>h')))
 cases r with
 | none=>exact wpAny_pure h₁
 | some v =>
  refine wpAny_bind (wpAny_mono h₁ (fun _ s₂ h₂=>wpAny_bind (wpAny_mono h₂ (fun _ s₃ h₃=>wpAny_bind (wpAny_mono h₃ (fun ok s₄ h₄=>?_) fun _ _ h'=>h')) fun _ _ h'=>h')) fun _ _ h'=>h')
  cases ok with
  | false=>exact wpAny_pure ⟨rfl,h₄⟩
  | true =>
   exact wpAny_bind (wpAny_bind (wpAny_mono h₄ (fun x s₅ h₅=>wpAny_bind (wpAny_mono h₅ (fun _ s₆ h₆=>wpAny_pure (wpAny_pure ⟨rfl,h₆⟩)) fun _ _ h'=>h')) fun _ _ h'=>h'))
section
variable {Y:Cx} {pins:List (Addr×Obj)} {σ:St} {H:Hp} {s:Shared}
theorem Inv.xeT (I:Inv Y pins σ H s) (xe:Value->Shared->Prop):Inv { Y with xe:=xe } pins σ H s :=
 ⟨⟨I.ok.mod,I.ok.kind,I.ok.glob,I.ok.blt,I.ok.above,I.ok.inj,I.ok.has,I.ok.cab,I.ok.hd,I.ok.frames,I.ok.stk,I.ok.exf,I.ok.bs,I.ok.bsz,I.ok.noex,I.ok.exfs,I.ok.funs,I.ok.frf⟩,
  I.os,I.bare,I.base,I.loc,I.cell,I.free,I.freeC,I.pin,I.hok,I.len⟩
end
def blkX (X:Cx) (own capN:List Str) (scope:Scope) (Z:Bz) (E:XK):Cx :=
 { blk X own capN scope Z with xe:=fun e s'=>∃pins σ H1 s1,Inv (blk X own capN scope Z) pins σ H1 s1∧CXE X.prog X.w X.stack H1 s1 E e s' }
theorem passX {X:Cx} {own capN:List Str} {scope:Scope} {Z:Bz} {E:XK}:Passes (CXE X.prog X.w) (blkX X own capN scope Z E) E:=fun pins σ H1 s1 e s' I h=>⟨pins,σ,H1,s1,Inv.xeT (Y:=blkX X own capN scope Z E) I _,h⟩
section
variable {X:Cx} {own capN:List Str} {cap:List Nat} {scope:Scope} {elt tg iter:Expr} {ifs:List Expr} {pos:Pos} {wi:TI} {g:TG} {tf:TT} {te:TE}
theorem blk_err {E:XK} {use:Option (Value->Sem Unit)} {Qe:Value->Shared->Prop} {Z:Bz} {pins:List (Addr×Obj)} {σ:St} {D:Addr} {e:Value} {s9:Shared} (hL:LeaveX X E) (hex:X.ex=[]) (I2:Inv X pins σ Z.H Z.s) (hfp:∀b∈Z.fp,FpOk X pins Z.H b∧@LT.lt Nat instLTNat b Z.s.heap.objs.size) (hC:Z.s.heap.objs.size<=Z.C)
  (hx:(blkX X own capN scope Z E).xe e s9):notedBy (model X.prog X.w) X.A (blkEnv X.env scope Z.C) (fun e s'=>compPost (model X.prog X.w) X.A X.xe use Qe (.ref D) Z.C (.error e) s') e s9:=by
 obtain ⟨pn,σ1,H1,s1,I1,ea,t,cls,dx,H',B,rfl,F,hE⟩:=hx
 have J:Inv (blk X own capN scope Z) pn σ1 H' s9:=I1.call' (ch:=[]) F.os F.un F.hok F.bare fun b hb=>nomatch hb
 have IX:Inv X pins σ H' s9:=I2.call' (ch:=Z.fp) J.os J.base J.hok J.bare fun b hb=>by
  obtain ⟨_,f1,_,f3,f4,f5⟩:=(hfp b hb).1
  exact ⟨f3,f1,f4,f5⟩
 obtain ⟨m,hn,_⟩:=J.loc
 have hn:s9.heap.Ns Z.C m:=hn
 have nC:Z.C∉frs X.stack:=fun z=>Nat.lt_irrefl _ (Nat.lt_of_lt_of_le (fs_lt I2 z) hC)
 have sC:X.s₀.heap.get? Z.C=none:=Heap.get?_none_of_le (Nat.le_trans I2.sz hC)
 have c2:∀b o,X.s₀.heap.get? b=some o->b∉frs X.stack->∃o',B.get? b=some o':=fun b o q hb=>by
  obtain ⟨o2,q2⟩:=I2.base.there b o q (by rw[hex];exact fun z=>nomatch z)
  obtain ⟨o3,q3⟩:=I1.base.there b o2 q2 (fun z=>by
   have z:b∈Z.fp:=z
   rcases (hfp b z).1.2.2.2.1 with y | y
   ·rw[hex] at y;cases y
   ·exact Nat.lt_irrefl _ (Nat.lt_of_lt_of_le (Heap.lt_size q) y))
  exact F.c2 b o3 q3 hb
 have ne:ea≠Z.C:=fun z=>by
  obtain ⟨_,_,_,oe,vs,T,oT,ts,he,_,hd,_⟩:=F.fly
  obtain ⟨o,es,ep,ho,hd2,_⟩:=hn
  rw[z,ho] at he;cases he
  rw[hd] at hd2;cases hd2
 have k:=hL pins σ H' s9 ea t cls dx B Z.C m IX hE F.fly F.dct F.c1 c2 hn J.free nC sC ne
 have up:∀(x:Value) (s'':Shared),(∃m,s''.heap.Ns Z.C m∧∀h',Heap.SameBut Z.C s''.heap h'->∀cenv:Env,wpAny (model X.prog X.w) X.A (PySem.passOn "comprehension.variables-let-go" x cenv:Sem Value) (fun _ _=>False) X.xe { s'' with heap:=h' })->compPost (model X.prog X.w) X.A X.xe use Qe (.ref D) Z.C (.error x) s'':=fun x s'' ⟨m,a,b⟩=>by
  cases use with
  | none=>exact ⟨m,a,fun h' sb cenv _=>b h' sb cenv⟩
  | some u=>exact ⟨m,a,fun h' sb cenv _=>b h' sb cenv⟩
 exact wpAny_mono k (fun _ s'' z=>up _ s'' z) fun x s'' z=>up x s'' z
theorem comp_coreX {E:XK} {use:Option (Value->Sem Unit)} {Qe:Value->Shared->Prop} {fpos:Pos} (hL:LeaveX X E) (hex:X.ex=[]) (hc:X.calm=true) (B:Bk X.env scope own capN) (hcap:CapOk X capN cap)
  (hi:PI X tg iter wi) (hg:∀Z,PG (blk X own capN scope Z) tg g) (hf:∀Z,PF (blk X own capN scope Z) ifs tf) (he:∀Z,PE (blkX X own capN scope Z E) elt te)
  (hs:∀x,foldedSetIterable iter X.env x=pure x) {pins:List (Addr×Obj)} {s:Shared} {σ:St} {H:Hp} {Q:VK} (I:Inv X pins σ H s) (h:tComp wi own.length cap g tf te σ H Q)
  (fin:∀(D C:Addr) (s':Shared) (H':Hp),Inv X pins σ H' s'->FpOk X pins H' C->(∃m,s'.heap.Ns C m)->Q (.ref D) H'->compPost (model X.prog X.w) X.A X.xe use Qe (.ref D) C (.ok .next) s') :
  wpAny (model X.prog X.w) X.A (comprehension (.ListComp elt [⟨tg,iter,ifs,0⟩] scope pos) scope X.env fpos (newList []) false (eval iter X.env) use) Qe X.xe s:=by
 refine wpAny_comprehension_free (use:=use) rfl hs (closureFor_cap fun y hy hk=>I.ok.has y.1 (B.caps _ (B.frees y hy hk).1)) B.kind B.locs ?_
 refine thn (hi pins s σ H _ I h) fun v s1 h1=>thn h1 fun itv s2 h2=>?_
 obtain ⟨it,fp,tn,J,H2,e,I2,T,st2,f2,W,⟨m0,w0⟩,turn⟩:=h2
 subst e
 have hfp:∀b∈fp,FpOk X pins H2 b∧@LT.lt Nat instLTNat b s2.heap.objs.size:=fun b hb=>⟨f2 b hb,let ⟨_,e,_⟩:=T.obj _ _ st2 b hb;Heap.lt_size e⟩
 refine wpAny_newObj_type (newBlockEnv ?_) (Nat.zero_le _)
 have es:(s2.heap.push { cls:=.type "list",data:=.seq ([]:List Value).toArray }).objs.size=s2.heap.objs.size+1:=Heap.size_push ..
 show codeAny _ _ (.compStart _ 0 (.ref it) (.ref s2.heap.objs.size) { newEnv scope (s2.heap.push { cls:=.type "list",data:=.seq ([]:List Value).toArray }).objs.size X.env.globals (cellsFrom ((s2.heap.push { cls:=.type "list",data:=.seq ([]:List Value).toArray }).objs.size+1) scope.names (capCells X.env scope.names [])) X.env.qual none .none (some X.env) builtinsNs with scope:=relabel scope X.env })
  (compPost (model X.prog X.w) X.A X.xe use Qe (.ref s2.heap.objs.size) (s2.heap.push { cls:=.type "list",data:=.seq ([]:List Value).toArray }).objs.size)
  { s2 with heap:=pushCells ((s2.heap.push { cls:=.type "list",data:=.seq ([]:List Value).toArray }).push { cls:=.type "dict",data:=.dict #[] }) scope.names }
 have hk1:∀b o,(s2.heap.push { cls:=.type "list",data:=.seq ([]:List Value).toArray }).get? b=some o->(pushCells ((s2.heap.push { cls:=.type "list",data:=.seq ([]:List Value).toArray }).push { cls:=.type "dict",data:=.dict #[] }) scope.names).get? b=some o :=
  fun b o e=>pushCells_keeps _ _ _ _ (Heap.get?_push_of_some _ e)
 have hk:∀b o,s2.heap.get? b=some o->(pushCells ((s2.heap.push { cls:=.type "list",data:=.seq ([]:List Value).toArray }).push { cls:=.type "dict",data:=.dict #[] }) scope.names).get? b=some o:=fun b o e=>hk1 b o (Heap.get?_push_of_some _ e)
 have hoD:=hk1 s2.heap.objs.size _ (Heap.get?_push_size s2.heap (o:={ cls:=.type "list",data:=.seq ([]:List Value).toArray }) rfl)
 have hn:=(Heap.Ns.new (s2.heap.push { cls:=.type "list",data:=.seq ([]:List Value).toArray }) (.type "dict")).keeps (pushCells_keeps scope.names _)
 have hcl:=own_cells ((s2.heap.push { cls:=.type "list",data:=.seq ([]:List Value).toArray }).push { cls:=.type "dict",data:=.dict #[] }) (s2.heap.objs.size+1) (by rw[Heap.size_push,es]) scope.names
 rw[es] at hn ⊢
 generalize pushCells ((s2.heap.push { cls:=.type "list",data:=.seq ([]:List Value).toArray }).push { cls:=.type "dict",data:=.dict #[] }) scope.names=h3 at hk hoD hn hcl ⊢
 have Z:Bz:=⟨s2,H2,fp,s2.heap.objs.size+1⟩
 have I3:Inv (blk X own capN scope ⟨s2,H2,fp,s2.heap.objs.size+1⟩) [(s2.heap.objs.size,lobj [] 0)] (st0 own.length cap σ) H2 { s2 with heap:=h3 } :=
  blk_inv (Z:=⟨s2,H2,fp,s2.heap.objs.size+1⟩) (t1:=s2.toks) I2 hc B hcap (Nat.le_succ _) hcl hfp hk hn (Nat.le_refl _) (Nat.ne_of_lt (Nat.lt_succ_self _)) hoD (fun v z=>nomatch z)
 have st3:tn 0 h3:=T.keep _ _ _ st2 fun b _ o e=>hk b o e
 have loop:codeAny (model X.prog X.w) X.A (.compLoop (.ListComp elt [⟨tg,iter,ifs,0⟩] scope pos) 0 (.ref it) (.ref s2.heap.objs.size) (blkEnv X.env scope (s2.heap.objs.size+1))) (compPost (model X.prog X.w) X.A X.xe use Qe (.ref s2.heap.objs.size) (s2.heap.objs.size+1)) { s2 with heap:=h3 }:=by
  refine compLoop_ownX (fun m s'=>∃i ys σ' H' its n,Inv (blk X own capN scope ⟨s2,H2,fp,s2.heap.objs.size+1⟩) [(s2.heap.objs.size,lobj its n)] σ' H' s'∧tn i s'.heap∧(∀b∈fp,H' b=none)∧Vals ys its∧W i m ys H') ?_ m0
   ⟨0,[],_,H2,[],0,I3,st3,fun b hb=>(f2 b hb).1,.nil,w0⟩
  rintro n s4 ⟨i,ys,σ4,H4,its,k,I4,st4,fr4,rv,w4⟩
  have fpo:∀{pp:List (Addr×Obj)} {H':Hp},(∀p∈pp,p.1=s2.heap.objs.size)->(∀b∈fp,H' b=none)->∀b∈fp,FpOk (blk X own capN scope ⟨s2,H2,fp,s2.heap.objs.size+1⟩) pp H' b:=fun {pp H'} hpp hn b hb=>by
   obtain ⟨e1,e2⟩:=I4.ok.exf b hb
   refine ⟨hn b hb,e1,I4.ok.exfs b hb,.inl hb,e2,fun p hp=>?_⟩
   have hp':p∈pp:=by simpa [blk] using hp
   have l:=(hfp b hb).2
   rw[hpp p hp']
   exact fun z=>Nat.lt_irrefl _ (by rw[← z] at l;exact l)
  have pinD:∀{its:List Value} {n:Nat},∀p∈[(s2.heap.objs.size,lobj its n)],p.1=s2.heap.objs.size:=fun p hp=>by simp at hp;rw[hp]
  rcases turn i n ys H4 w4 with ⟨stop,hz,q⟩ | ⟨go,hlt,NY,NN,hNY,hNN,step⟩
  ·refine thn (T.done (blk X own capN scope ⟨s2,H2,fp,s2.heap.objs.size+1⟩) rfl rfl rfl rfl i _ s4 σ4 H4 _ I4 (fpo pinD fr4) st4 stop) fun r s5 ⟨hr,I5⟩=>?_
   subst hr
   have pD:=I5.pin (s2.heap.objs.size,lobj its k) (by simp)
   have I6:=blk_end (Z:=⟨s2,H2,fp,s2.heap.objs.size+1⟩) I2 hfp (Nat.le_refl _) I5 rv hz
   have hC:upd H4 s2.heap.objs.size (.lst ys) (s2.heap.objs.size+1)=none:=by
    rw[upd_ne (Nat.ne_of_gt (Nat.lt_succ_self _))];exact I5.free
   obtain ⟨m,hm,_⟩:=I5.loc
   exact fin _ _ s5 _ I6 (I2.fpOk (Nat.le_succ _) hC) ⟨m,hm⟩ (q _ pD.2.1)
  ·refine thn (T.item (blk X own capN scope ⟨s2,H2,fp,s2.heap.objs.size+1⟩) rfl rfl rfl rfl i _ s4 σ4 H4 _ I4 (fpo pinD fr4) st4 go) fun r s5 ⟨u,hr,h5⟩=>?_
   subst hr
   refine thn h5 fun _ s6 ⟨x,H6,I6,r6,y6,st6,fr6⟩=>?_
   have I6':=(blk_late (Z:=⟨s2,H2,fp,s2.heap.objs.size+1⟩) I2 B hcap hfp I6).pinned (fpo pinD fr6) (T.obj _ _ st6)
   have back:∀{σ7:St} {H7:Hp} {s7:Shared},Inv (blk X own capN scope ⟨s2,H2,fp,s2.heap.objs.size+1⟩) ([(s2.heap.objs.size,lobj its k)]++pinsAt fp s6.heap) σ7 H7 s7 →
     Inv (blk X own capN scope ⟨s2,H2,fp,s2.heap.objs.size+1⟩) [(s2.heap.objs.size,lobj its k)] σ7 H7 s7∧tn (i+1) s7.heap∧∀b∈fp,H7 b=none:=fun {σ7 H7 s7} I7=>by
    refine ⟨I7.unpinned,T.keep _ _ _ st6 fun b hb o e=>(I7.pin (b,o) (List.mem_append_right _ (List.mem_append_right _ (mem_pinsAt hb e)))).1,fun b hb=>?_⟩
    obtain ⟨o,e,d⟩:=T.obj _ _ st6 b hb
    exact (I7.pin (b,o) (List.mem_append_right _ (List.mem_append_right _ (mem_pinsAt hb e)))).2.1
   refine thn0 (hg _ _ s6 _ H6 x u _ I6' r6 (step x H6 y6)) fun _ s7 ⟨σ7,H7,I7,q7⟩=>?_
   refine thn0 (hf _ _ s7 σ7 H7 _ I7 q7) fun ok s8 ⟨H8,I8,q8⟩=>?_
   cases ok with
   | false =>
    rw[if_neg Bool.false_ne_true] at q8 ⊢
    obtain ⟨m',hm,w8⟩:=hNN H8 q8
    obtain ⟨J1,J2,J3⟩:=back I8
    exact ⟨m',hm,i+1,ys,σ7,H8,its,k,J1,J2,J3,rv,w8⟩
   | true =>
    rw[if_pos rfl] at q8 ⊢
    refine wpAny_mono (he ⟨s2,H2,fp,s2.heap.objs.size+1⟩ _ s8 σ7 H8 _ (I8.xeT _) q8) (fun z s9 ⟨y,H9,I9',r9,q9⟩=>?_) fun e s9 hx=>blk_err hL hex I2 hfp (Nat.le_succ _) hx
    have I9:Inv (blk X own capN scope ⟨s2,H2,fp,s2.heap.objs.size+1⟩) _ σ7 H9 s9:=Inv.xeT (Y:=blkX X own capN scope ⟨s2,H2,fp,s2.heap.objs.size+1⟩ E) I9' _
    obtain ⟨J1,J2,J3⟩:=back I9
    obtain ⟨m',hm,w9⟩:=hNY y H9 q9
    have pD:=J1.pin (s2.heap.objs.size,lobj its k) (by simp)
    have hl:=rv.length
    refine call_meets F.slot_list_append ⟨_,pD.1,rfl⟩ F.entry_list_append (F.args_list_append_2 _ _) (PySem.list_append s2.heap.objs.size its.toArray k z (by rw[List.size_toArray];lia)) ⟨pD.1,?_⟩
    have e9:=PySem.IsL.update pD.1 (fun a=>a.push z)
    have e9':(its.toArray.push z)=(its++[z]).toArray:=by simp
    rw[e9'] at e9
    obtain ⟨n',e9⟩:∃n',(s9.heap.update s2.heap.objs.size (Obj.mapSeq fun a=>a.push z)).get? s2.heap.objs.size=some (lobj (its++[z]) n'):=⟨_,e9⟩
    have J4:Inv (blk X own capN scope ⟨s2,H2,fp,s2.heap.objs.size+1⟩) [] σ7 H9 { s9 with heap:=s9.heap.update s2.heap.objs.size (Obj.mapSeq fun a=>a.push z),toks:=s9.toks } :=
     (J1.pins_of (pins':=[]) fun p hp=>nomatch hp).turned (fun b o hb e=>(Heap.get?_update_other s9.heap _ (Ne.symm hb)).trans e) pD.2.1 pD.2.2.1 (.inr (Nat.le_refl _)) (fun x c hx z=>by
      rcases blk_cells (Z:=⟨s2,H2,fp,s2.heap.objs.size+1⟩) B I2 hx with ⟨_,m⟩ | ⟨_,_,m⟩
      ·have:=(hcl.empty _ _ m).2
       have z':@Eq Nat c s2.heap.objs.size:=z
       lia
      ·have:=cell_lt (Z:=⟨s2,H2,fp,s2.heap.objs.size+1⟩) I2 m
       rw[z] at this
       exact Nat.lt_irrefl _ this) fun p hp=>by simp [blk] at hp
    have nfp:∀b∈fp,b≠s2.heap.objs.size:=fun b hb z=>by have:=(hfp b hb).2;rw[z] at this;exact Nat.lt_irrefl _ this
    refine ⟨m',hm,i+1,ys++[y],σ7,H9,its++[z],n',J4.pins_of fun p hp=>?_,T.keep _ _ _ J2 fun b hb o e=>(Heap.get?_update_other s9.heap _ (Ne.symm (nfp b hb))).trans e,J3,rv.append (.cons r9 .nil),w9⟩
    have ep:p=(s2.heap.objs.size,lobj (its++[z]) n'):=by simpa using hp
    rw[ep]
    exact ⟨e9,pD.2.1,pD.2.2.1,pD.2.2.2.1,fun v z=>nomatch z⟩
 exact codeAny_compStart_list loop (T.self _ _ _ _ _ st3 loop)
theorem pe_compX {E:XK} (own capN:List Str) (cap:List Nat) (hL:LeaveX X E) (hex:X.ex=[]) (hi:PI X tg iter wi) (hg:∀Z,PG (blk X own capN scope Z) tg g) (hf:∀Z,PF (blk X own capN scope Z) ifs tf) (he:∀Z,PE (blkX X own capN scope Z E) elt te)
  (h1:bkS scope own capN=true:=by decide +kernel) (h2:capsB X.env capN=true:=by rfl) (hcap:CapOk X capN cap:=by rfl) (hc:X.calm=true:=by rfl) (hs:∀x,foldedSetIterable iter X.env x=pure x:=by intro _;rfl) :
  PE X (.ListComp elt [⟨tg,iter,ifs,0⟩] scope pos) (tComp wi own.length cap g tf te):=by
 intro pins s σ H Q I h
 rw[eval_ListComp]
 refine comp_coreX (use:=none) hL hex hc (Bk.of h1 h2) hcap hi hg hf he hs I h fun D C s' H' I' fC hm q=>?_
 obtain ⟨m,hm⟩:=hm
 refine ⟨m,hm,fun h' hs'=>?_⟩
 obtain ⟨f0,f1,f2,f3,f4,f5⟩:=fC
 exact ⟨.ref D,H',I'.turned (t':=s'.toks) (fun b o hb e=>(hs'.2 b hb).trans e) f0 f1 f3 f4 f5,rfl,q⟩
end
end L2
namespace L2
open PySem PySem.Spec PyProof.Rows Nm
end L2
namespace L2
open PySem PySem.Spec PyProof.Rows Nm
end L2
namespace L2
open PySem PySem.Spec PyProof.Rows Nm
end L2
namespace L2
open PySem PySem.Spec PyProof.Rows Nm
end L2
namespace L2
open PySem PySem.Spec PySem.NumText PyProof.Rows Nm
theorem who_eqK:∀(k:Nat) {l:List Nat} {n:Nat},l.length<=k->Who l n->l=digs n:=by
 intro k
 induction k with
 | zero=>exact fun hl h=>absurd (List.length_eq_zero_iff.mp (by lia)) h.1
 | succ k ih =>
  intro l n hl ⟨w0,w1,w2,w3⟩
  obtain ⟨l',c,rfl⟩:∃l' c,l=l'++[c]:=⟨_,_,(List.dropLast_concat_getLast w0).symm⟩
  rw[List.length_append,List.length_singleton] at hl
  revert w0 w1 w2 w3 hl
  generalize l'=l
  intro hl w0 w1 w2 w3
  have hc:=w1 c (by simp)
  rw[digitsVal_snoc] at w3
  cases l with
  | nil =>
   have e:n=c - 48:=by rw[← w3];simp [digitsVal]
   rw[e,digs_small (by lia),List.nil_append]
   congr 1
   lia
  | cons a r =>
   have ha:=w1 a (by simp)
   have n48:a≠48:=fun z=>by
    have:=w2 (by rw[z];rfl)
    simp at this
   have I:=ih (n:=digitsVal (a :: r)) (by lia) ⟨by simp,fun x hx=>w1 x (by simp at hx ⊢;rcases hx with h | h <;> simp [h]),fun z=>absurd (by simpa using z) n48,rfl⟩
   have p:=digitsVal_pos (c:=a) (by lia) (cs:=r)
   generalize digitsVal (a :: r)=m at I p w3
   rw[digs_big (by lia),show n / 10=m by lia,show n % 10=c - 48 by lia,digs_small (n:=c - 48) (by lia),← I]
   congr 2
   lia
theorem who_eq {l:List Nat} {n:Nat} (h:Who l n):l=digs n:=who_eqK _ (Nat.le_refl _) h
theorem digs_inj {a b:Nat} (h:digs a=digs b):a=b:=by rw[← digs_val a,← digs_val b,h]
theorem intT_inj {i j:Int} (h:intT i=intT j):i=j:=by
 have hd:∀n,(digs n).head?≠some 45:=fun n z=>by
  obtain ⟨c,r,e,_⟩:=digs_head n
  have:=digs_all n c (by rw[e];simp)
  rw[e] at z
  have:c=45:=by simpa using z
  lia
 unfold intT at h
 split at h <;> split at h
 ·have:=digs_inj (List.cons.inj h).2
  lia
 ·exact absurd (by rw[← h];rfl) (hd j.natAbs)
 ·exact absurd (by rw[h];rfl) (hd i.natAbs)
 ·have:=digs_inj h
  lia
def Vn (n:Int×Int):Prop:=0 < n.2∧Int.gcd n.1 n.2=1
theorem numT_cut {n:Int×Int} (h:n.2≠1):numT n=intT n.1++47 :: digs n.2.natAbs:=by unfold numT;rw[if_neg h]
theorem numT_one {n:Int×Int} (h:n.2=1):numT n=intT n.1:=by unfold numT;rw[if_pos h,List.append_nil]
theorem numT_inj {n m:Int×Int} (hn:Vn n) (hm:Vn m) (h:numT n=numT m):n=m:=by
 have fr:∀i,47∉intT i:=fun i=>intT_free (by decide) (by decide)
 by_cases e1:n.2=1 <;> by_cases e2:m.2=1
 ·rw[numT_one e1,numT_one e2] at h
  exact Prod.ext (intT_inj h) (e1.trans e2.symm)
 ·rw[numT_one e1,numT_cut e2] at h
  exact absurd (by rw[h];simp) (fr n.1)
 ·rw[numT_one e2,numT_cut e1] at h
  exact absurd (by rw[← h];simp) (fr m.1)
 ·rw[numT_cut e1,numT_cut e2] at h
  obtain ⟨a,b⟩:=cut_inj (fr _) (fr _) h
  have:=digs_inj b
  have h1:=hn.1
  have h2:=hm.1
  exact Prod.ext (intT_inj a) (by lia)
theorem digs_lt {n k:Nat} (h:(digs n).length<=k):n < 10^k:=by
 have:=val_lt (digs_all n)
 rw[digs_val] at this
 exact Nat.lt_of_lt_of_le this (Nat.pow_le_pow_right (by decide) h)
theorem sz_of {i:Int} (h:i.natAbs < 10^1000):Sz 8000 i:=by
 refine Nat.lt_of_lt_of_le h ?_
 refine Nat.le_trans (Nat.pow_le_pow_left (show 10<=2^4 by decide) _) ?_
 rw[← Nat.pow_mul]
 exact Nat.pow_le_pow_right (by decide) (by decide)
theorem vn_ok {n:Int×Int} (h:Vn n) (l:(numT n).length<=1000):NumOk n:=by
 have l1:(digs n.1.natAbs).length<=1000:=by
  have:(intT n.1).length<=1000:=by unfold numT at l;rw[List.length_append] at l;lia
  unfold intT at this
  split at this
  ·rw[List.length_cons] at this;lia
  ·exact this
 have l2:n.2.natAbs < 10^1000:=by
  by_cases e:n.2=1
  ·rw[e];exact Nat.one_lt_pow (by decide) (by decide)
  ·rw[numT_cut e,List.length_append,List.length_cons] at l
   exact digs_lt (by lia)
 exact ⟨h.1,h.2,sz_of (digs_lt l1),sz_of l2⟩
theorem slash_or (l:List Nat) (c:Nat):c∉l∨∃a b,l=a++c :: b∧c∉a:=by
 induction l with
 | nil=>exact .inl (by simp)
 | cons x r ih =>
  by_cases e:x=c
  ·exact .inr ⟨[],r,by rw[e];rfl,by simp⟩
  ·rcases ih with h | ⟨a,b,e1,h⟩
   ·exact .inl fun z=>by
     rcases List.mem_cons.mp z with z | z
     ·exact e z.symm
     ·exact h z
   ·exact .inr ⟨x :: a,b,by rw[e1];rfl,fun z=>by
     rcases List.mem_cons.mp z with z | z
     ·exact e z.symm
     ·exact h z⟩
theorem split_as (l:List Nat) (c:Nat):∃ws:List (List Nat),ws≠[]∧(∀w∈ws,c∉w)∧l=joinL c ws∧Txt.split (sl l) (sl [c])=ws.map sl:=by
 have e:=PySem.StrLaws.join_split (sl l) (sl [c])
 have f:∀p∈Txt.split (sl l) (sl [c]),c∉p.cps.toList:=PySem.StrLaws.split_free (sl l) c
 have l1:=split_pos (sl l) (sl [c])
 generalize Txt.split (sl l) (sl [c])=ps at e f l1 ⊢
 have ep:ps=(ps.map fun p=>p.cps.toList).map sl:=by
  rw[List.map_map]
  exact (List.map_id _).symm.trans (List.map_congr_left fun p _=>sl_of p)
 refine ⟨ps.map fun p=>p.cps.toList,fun z=>?_,fun w hw=>?_,?_,ep⟩
 ·rw[List.map_eq_nil_iff] at z
  rw[z] at l1
  exact absurd l1 (by decide)
 ·obtain ⟨p,hp,rfl⟩:=List.mem_map.mp hw
  exact f p hp
 ·rw[ep,sl_join] at e
  exact (sl_inj e).symm
theorem joinL_ge {c:Nat}:∀{ws:List (List Nat)} {w:List Nat},w∈ws->w.length<=(joinL c ws).length
 | [],_,h=>nomatch h
 | [x],w,h=>by rw[List.mem_singleton.mp h];exact Nat.le_refl _
 | x :: y :: r,w,h=>by
  show _<=(x++c :: joinL c (y :: r)).length
  rw[List.length_append,List.length_cons]
  rcases List.mem_cons.mp h with h | h
  ·rw[h];lia
  ·have:=joinL_ge (c:=c) h
   lia
theorem joinL_cnt {c:Nat}:∀{ws:List (List Nat)},ws.length<=(joinL c ws).length+1
 | []=>Nat.zero_le _
 | [x]=>Nat.le_add_left _ _
 | x :: y :: r=>by
  have:=joinL_cnt (c:=c) (ws:=y :: r)
  show _<=(x++c :: joinL c (y :: r)).length+1
  rw[List.length_append,List.length_cons (as:=joinL c (y :: r)),List.length_cons (as:=y :: r)]
  lia
end L2
namespace L2
open PySem PySem.Spec PyProof.Rows
structure HasF (X:Cx) (CX:CXT) (f:Addr) (sp:Sp):Prop where
 has:∃k fd ps,FnOk X.prog X.w X.K X.mg X.base CX k f fd ps sp∧Room k X.A∧PySem.W.keepIn X.K (.ref f)=true∧Binds X.K fd ps []
def tCallV (L:List (Addr×Sp)) (te:TE) (E:St->XK) (t:TA):TE:=fun σ H Q=>te σ H fun v H1=>∃f sp,v=.ref f∧(f,sp)∈L∧t σ H1 fun vs H2=>sp vs H2 Q (E σ)
section
variable {X:Cx} {CX:CXT} {L:List (Addr×Sp)} {E:St->XK} {pos:Pos} {fe e:Expr} {es:List Expr} {te:TE} {t:TA}
theorem pe_callV (hL:∀p∈L,HasF X CX p.1 p.2) (hx:PassesS CX X E) (hf:PE X fe te) (ha:PA X (e :: es) t)
  (hc:∀(Q:Value->Shared->Prop) (E:Value->Shared->Prop) (s:Shared),wpAny (model X.prog X.w) X.A (eval fe X.env) (fun f s₁=>wpAny (model X.prog X.w) X.A (callWith pos f [] (backTo pos (starEach (e :: es) X.env)) (backToKw pos (keywordEach [] X.env))) Q E s₁) E s->wpAny (model X.prog X.w) X.A (eval (.Call fe (e :: es) [] pos) X.env) Q E s:=by intro _ _ _ h;first | exact wpAny_Call_Name_kw h | exact wpAny_bind h)
  (he:starEach (e :: es) X.env=(false,eval e X.env) :: starEach es X.env:=by rfl) (hpl:(backTo pos (starEach es X.env)).any (·.1)=false:=by rfl) :
  PE X (.Call fe (e :: es) [] pos) (tCallV L te E t):=by
 intro pins s σ H Q I h
 refine hc _ _ _ (thn (hf pins s σ H _ I h) fun v s1 ⟨x,H1,I1,r,f,sp,ex,hm,q⟩=>?_)
 subst ex
 have r:v=.ref f:=r
 subst r
 obtain ⟨k,fd,ps,F,hr,hk,hb⟩:=(hL _ hm).has
 refine PySem.W.callWith_K (h₀:=X.base) I1.ok.mod.kin hk (thn (ha pos pins s1 σ H1 _ I1 q) fun us s2 ⟨vs,H2,I2,r2,q2⟩=>⟨I2.kIn,?_⟩) he hpl
 have hl:us.length=ps.length:=by rw[← r2.length];exact F.len _ _ _ _ q2
 have hb':=hb s2 us I2.kIn (by rw[List.append_nil];exact hl)
 rw[List.append_nil] at hb'
 refine wpAny_call (codeAny_mono (F.run X.A X.stack s2 H2 ⟨us,[]⟩ us vs Q (E σ) hr I2.env0 hb' r2 q2) fun r s' hq=>?_)
 cases r with
 | error e=>exact hx pins σ H2 s2 e s' I2 hq
 | ok fl =>
  cases fl with
  | ret u=>exact I2.after hq
  | next=>exact False.elim hq
  | brk=>exact False.elim hq
  | cont=>exact False.elim hq
end
theorem own_def {CX:CXT} {P:Program} {w:World} {K:PySem.W.Frag} {mg:Str->Option Value} {base:Heap} {N:List Str} {qual:Str} {scope:Scope} {f:Addr} {cd:Value} {A:Around} {outer:List Env} {s:Shared} {H:Hp} {E:XK} :
  PassesOwn (model (cxOf CX P w K mg base N qual scope f cd A outer s H E).prog (cxOf CX P w K mg base N qual scope f cd A outer s H E).w) (cxOf CX P w K mg base N qual scope f cd A outer s H E).A (cxOf CX P w K mg base N qual scope f cd A outer s H E).env (cxOf CX P w K mg base N qual scope f cd A outer s H E).xe :=
 PassesOwn.leaving (Q₁:=fun e s''=>CX outer H s E e s'')
end L2
namespace L2
open PySem PySem.Spec PySem.NumText PyProof.Rows Nm
inductive sp_rw2 (C:Addr) (vs:List V) (H:Hp) (Q:VK) (E:XK):Prop
 | mk (l:List Nat):vs=[.str (sl l)]->l.length<=1000->(∀n,Who l n->∀H',Same H H'->Q (.int (n:Nat)) H')->((∀n,¬Who l n)->∀H',Same H H'->E (.ref C) none H')->sp_rw2 C vs H Q E
inductive sp_rt2 (C:Addr) (vs:List V) (H:Hp) (Q:VK) (E:XK):Prop
 | mk (l:List Nat):vs=[.str (sl l)]->l.length<=1000->(∀i,l=intT i->∀H',Same H H'->Q (.int i) H')->((∀i,l≠intT i)->∀H',Same H H'->E (.ref C) none H')->sp_rt2 C vs H Q E
def RwT (l:List Nat) (ns:List (Int×Int)):Prop:=(∀n∈ns,Vn n)∧l=joinL 32 (ns.map numT)
inductive sp_rz2 (C:Addr) (vs:List V) (H:Hp) (Q:VK) (E:XK):Prop
 | mk (l:List Nat) (m:Nat):vs=[.str (sl l),.int m]->l.length<=1000->(∀n,Who l n->n<=m->∀H',Same H H'->Q (.int (n:Nat)) H')->((∀n,Who l n->m < n)->∀H',Same H H'->E (.ref C) none H')->sp_rz2 C vs H Q E
def GrT (ws:List (List Nat)) (w:List Nat) (many wide:Nat) (g:List (List Rat)):Prop:=(∀xs∈g,xs.length=wide)∧g.length=many∧ws=w :: gw g
inductive sp_rg2 (K:PySem.W.Frag) (C:Addr) (vs:List V) (H:Hp) (Q:VK) (E:XK):Prop
 | mk (p:Addr) (w:List Nat) (many wide:Nat) (ws:List (List Nat)):vs=[.ref p,.str (sl w),.int many,.int wide]->H p=some (.lst (stL ws))->ws.length=1+many*wide->many<=8->wide<=8->(∀x∈ws,x.length<=1000)->(∀g,GrT ws w many wide g->GOk g->∀q H',H q=none->Same H H'->GridQ K H H' q g->Q (.ref q) H')->((∀g,¬GrT ws w many wide g)->∀H',Same H H'->E (.ref C) none H')->sp_rg2 K C vs H Q E
def SyT (ws:List (List Nat)) (mv pt lk:List (List Rat)):Prop:=SysD mv pt lk∧ws=sysW mv pt lk
end L2
namespace L2
open PySem PySem.Spec PySem.NumText PyProof.Rows Nm
theorem nm_val {n:Int×Int} (h:Vn n):nm (val n)=n:=(nm_of h.1 h.2 (val_mul h.1)).symm
theorem vn_nm (q:Rat):Vn (nm q):=⟨nm_pos q,nm_gcd q⟩
theorem flat_cut:∀{u k:Nat} {qs:List Rat},qs.length=u*k->(cutQ qs u k).flatten=qs
 | 0,k,qs,h=>by
  rw[Nat.zero_mul] at h
  rw[List.length_eq_zero_iff.mp h]
  rfl
 | u+1,k,qs,h=>by
  have hd:(qs.drop k).length=u*k:=by rw[List.length_drop,h,Nat.succ_mul];lia
  have e:cutQ qs (u+1) k=qs.take k :: cutQ (qs.drop k) u k:=by
   unfold cutQ
   rw[List.range_succ_eq_map,List.map_cons,Nat.zero_mul,List.drop_zero,List.map_map]
   congr 1
   refine List.map_congr_left fun t _=>?_
   show (qs.drop ((t+1)*k)).take k=_
   rw[List.drop_drop,Nat.succ_mul,Nat.add_comm k]
  rw[e,List.flatten_cons,flat_cut hd,List.take_append_drop]
theorem cut_w {qs:List Rat} {u k:Nat} (h:qs.length=u*k):(∀xs∈cutQ qs u k,xs.length=k)∧(cutQ qs u k).length=u:=by
 refine ⟨fun xs hx=>?_,by unfold cutQ;rw[List.length_map,List.length_range]⟩
 unfold cutQ at hx
 obtain ⟨t,ht,rfl⟩:=List.mem_map.mp hx
 have ht:=List.mem_range.mp ht
 have:(t+1)*k<=u*k:=Nat.mul_le_mul_right _ ht
 rw[Nat.succ_mul] at this
 rw[List.length_take,List.length_drop,h]
 lia
theorem gr_of {ws:List (List Nat)} {w:List Nat} {many wide:Nat} {ns:List (Int×Int)} (hn:∀n∈ns,Vn n) (e:ws=w :: ns.map numT) (l:ns.length=many*wide):GrT ws w many wide (cutQ (ns.map val) many wide):=by
 have l':(ns.map val).length=many*wide:=by rw[List.length_map];exact l
 refine ⟨(cut_w l').1,(cut_w l').2,?_⟩
 unfold gw
 rw[flat_cut l',List.map_map,e]
 congr 1
 exact List.map_congr_left fun n h=>by show _=numT (nm (val n));rw[nm_val (hn n h)]
theorem gr_num {g:List (List Rat)} {w:List Nat} (h:w∈gw g):∃n,Vn n∧w=numT n:=by
 unfold gw at h
 obtain ⟨q,_,rfl⟩:=List.mem_map.mp h
 exact ⟨nm q,vn_nm q,rfl⟩
theorem gr_ok {ws:List (List Nat)} {w:List Nat} {many wide:Nat} {g:List (List Rat)} (h:GrT ws w many wide g) (l:∀x∈ws,x.length<=1000):GOk g:=fun xs hx x hx'=>by
 refine vn_ok (vn_nm x) (l _ ?_)
 rw[h.2.2]
 refine List.mem_cons_of_mem _ (List.mem_map.mpr ⟨x,List.mem_flatten.mpr ⟨xs,hx,hx'⟩,rfl⟩)
theorem join_nil2 {c:Nat} {ws:List (List Nat)} (h0:ws≠[]) (h:joinL c ws=[]):ws=[[]]:=by
 match ws,h0,h with
 | [x],_,h=>rw[show x=[] from h]
 | x :: y :: r,_,h =>
  have:(x++c :: joinL c (y :: r))=[]:=h
  simp at this
theorem rw_words {l:List Nat} {ws:List (List Nat)} {ns:List (Int×Int)} (w0:ws≠[]) (w1:∀w∈ws,32∉w) (e:l=joinL 32 ws) (h:RwT l ns):(ns=[]∧ws=[[]])∨ws=ns.map numT:=by
 obtain ⟨_,e2⟩:=h
 by_cases z:ns=[]
 ·subst z
  exact .inl ⟨rfl,join_nil2 w0 (e.symm.trans e2)⟩
 ·exact .inr (join_inj w0 (fun y=>z (List.map_eq_nil_iff.mp y)) w1 (fun w hw=>by obtain ⟨n,_,rfl⟩:=List.mem_map.mp hw;exact numT_free) (e.symm.trans e2))
section
variable {ws:List (List Nat)} {mv pt lk:List (List Rat)} {n i o:Nat}
theorem sy_cut (h:SyT ws mv pt lk):ws.length=6+mv.length*mv.length+pt.length*mv.length+lk.length*mv.length∧ws[0]?=some (digs mv.length)∧ws[1]?=some (digs pt.length)∧ws[2]?=some (digs lk.length)∧ws.drop 3=(wM :: gw mv)++(wP :: gw pt)++(wL :: gw lk):=by
 obtain ⟨D,rfl⟩:=h
 refine ⟨by rw[sysW_len D];lia,rfl,rfl,rfl,?_⟩
 unfold sysW
 rw[List.append_assoc,List.append_assoc,← List.append_assoc (wM :: gw mv)]
 rfl
theorem part_cut {a b c:List (List Nat)} (e:ws.drop 3=a++b++c):(ws.drop 3).take a.length=a∧(ws.drop (3+a.length)).take b.length=b∧ws.drop (3+a.length+b.length)=c:=by
 have e2:ws.drop (3+a.length)=b++c:=by rw[← List.drop_drop,e,List.append_assoc,List.drop_left' rfl]
 exact ⟨by rw[e,List.append_assoc,List.take_left' rfl],by rw[e2,List.take_left' rfl],by rw[← List.drop_drop,e2,List.drop_left' rfl]⟩
theorem part_join {a b c:List (List Nat)} {x y:Nat} (e1:(ws.drop 3).take x=a) (e2:(ws.drop (3+x)).take y=b) (e3:ws.drop (3+x+y)=c):ws.drop 3=a++b++c:=by
 have f2:ws.drop (3+x)=b++c:=by rw[← e2,← e3,← List.drop_drop (i:=y) (j:=3+x),List.take_append_drop]
 rw[List.append_assoc,← f2,← e1,← List.drop_drop,List.take_append_drop]
theorem sy_of (D:SysD mv pt lk) (h0:ws[0]?=some (digs mv.length)) (h1:ws[1]?=some (digs pt.length)) (h2:ws[2]?=some (digs lk.length)) (e:ws.drop 3=(wM :: gw mv)++(wP :: gw pt)++(wL :: gw lk)):SyT ws mv pt lk:=by
 refine ⟨D,?_⟩
 match ws,h0,h1,h2,e with
 | a :: b :: c :: r,h0,h1,h2,e =>
  have q0:a=digs mv.length:=by simpa using h0
  have q1:b=digs pt.length:=by simpa using h1
  have q2:c=digs lk.length:=by simpa using h2
  have q3:r=(wM :: gw mv)++(wP :: gw pt)++(wL :: gw lk):=e
  rw[q0,q1,q2,q3]
  unfold sysW
  simp
theorem gw_inj {g g':List (List Rat)} {k:Nat} (h:∀xs∈g,xs.length=k) (h':∀xs∈g',xs.length=k) (l:g.length=g'.length) (e:gw g=gw g'):g=g':=by
 unfold gw at e
 have e2:g.flatten=g'.flatten:=by
  refine List.map_inj_right (f:=fun q=>numT (nm q)) (fun a b z=>?_) |>.mp e
  exact nm_inj (numT_inj (vn_nm a) (vn_nm b) z)
 rw[← cut_flat h,← cut_flat h',e2,l]
theorem sy_uniq {mv' pt' lk':List (List Rat)} (h:SyT ws mv pt lk) (h':SyT ws mv' pt' lk'):mv=mv'∧pt=pt'∧lk=lk':=by
 obtain ⟨l1,a0,a1,a2,a3⟩:=sy_cut h
 obtain ⟨l2,b0,b1,b2,b3⟩:=sy_cut h'
 rw[a0] at b0
 rw[a1] at b1
 rw[a2] at b2
 have n0:=digs_inj (Option.some.inj b0)
 have n1:=digs_inj (Option.some.inj b1)
 have n2:=digs_inj (Option.some.inj b2)
 obtain ⟨c1,c2,c3⟩:=part_cut a3
 obtain ⟨d1,d2,d3⟩:=part_cut b3
 have D:=h.1
 have D':=h'.1
 have w1:=gw_len D.mw
 have w2:=gw_len D.pw
 have w1':=gw_len D'.mw
 have w2':=gw_len D'.pw
 rw[List.length_cons,w1] at c1
 rw[List.length_cons,w1',← n0] at d1
 rw[List.length_cons,List.length_cons,w1,w2] at c2 c3
 rw[List.length_cons,List.length_cons,w1',w2',← n0,← n1] at d2 d3
 rw[c1] at d1
 rw[c2] at d2
 rw[c3] at d3
 exact ⟨gw_inj D.mw (fun xs hx=>by rw[D'.mw xs hx,n0]) n0 (List.cons.inj d1).2,gw_inj D.pw (fun xs hx=>by rw[D'.pw xs hx,n0]) n1 (List.cons.inj d2).2,gw_inj D.lw (fun xs hx=>by rw[D'.lw xs hx,n0]) n2 (List.cons.inj d3).2⟩
end
theorem cutN_to (l:List Nat) (k:Nat):cutN l none (some (k:Int))=l.take k:=by
 unfold cutN
 rw[HT.sIx_nat]
 show (l.drop 0).take (min k l.length - 0)=_
 rw[List.drop_zero,Nat.sub_zero]
 rcases Nat.le_total k l.length with h | h
 ·rw[Nat.min_eq_left h]
 ·rw[Nat.min_eq_right h,List.take_length,List.take_of_length_le h]
end L2
namespace L2
open PySem PySem.Spec PySem.NumText PyProof.Rows Nm
end L2
namespace L2
open PySem PySem.Spec PySem.NumText PyProof.Rows Nm
end L2
namespace L2
open PySem PySem.Spec PySem.NumText PyProof.Rows Nm
end L2
namespace L2
open PySem PySem.Spec PySem.NumText PyProof.Rows Nm
inductive NoT (l:List Nat) (ws:List (List Nat)):Nat->Prop
 | num:(∀n,Vn n->l≠numT n)->NoT l ws 0
 | row:(∀ns,¬RwT l ns)->NoT l ws 1
 | sys:(∀mv pt lk,¬SyT ws mv pt lk)->NoT l ws 2
end L2
namespace L2
theorem rd_callV {L:List (PySem.Addr×Sp)} {te:TE} {E:St->XK} {t:TA} {σ:St} {H:Hp} {Q:VK} (h:te σ H fun v H1=>∃f sp,v=.ref f∧(f,sp)∈L∧t σ H1 fun vs H2=>sp vs H2 Q (E σ)):tCallV L te E t σ H Q:=h
end L2
namespace L2
open PySem PySem.Spec PySem.NumText PyProof.Rows Nm
section
variable {K:PySem.W.Frag} {C:Addr} {H H' H1 H2:Hp} {l:List Nat} {ws:List (List Nat)} {k:Nat} {v:V} {mv pt lk:List (List Rat)}
theorem numTs_inj:∀{ns ns':List (Int×Int)},(∀n∈ns,Vn n)->(∀n∈ns',Vn n)->ns.map numT=ns'.map numT->ns=ns'
 | [],[],_,_,_=>rfl
 | a :: r,b :: r',h,h',e=>by
  obtain ⟨e1,e2⟩:=List.cons.inj e
  rw[numT_inj (h a (List.mem_cons_self ..)) (h' b (List.mem_cons_self ..)) e1,numTs_inj (fun n hn=>h n (List.mem_cons_of_mem _ hn)) (fun n hn=>h' n (List.mem_cons_of_mem _ hn)) e2]
theorem rw_uniq {ns ns':List (Int×Int)} (h:RwT l ns) (h':RwT l ns'):ns=ns':=by
 obtain ⟨ws,w0,w1,ew,_⟩:=split_as l 32
 have no:∀{ns:List (Int×Int)},([[]]:List (List Nat))≠ns.map numT:=fun {ns} z=>by
  have:[]∈ns.map numT:=by rw[← z];exact List.mem_cons_self ..
  obtain ⟨n,_,e⟩:=List.mem_map.mp this
  exact numT_ne n e
 rcases rw_words w0 w1 ew h with ⟨a,b⟩ | a <;> rcases rw_words w0 w1 ew h' with ⟨a',b'⟩ | a'
 ·rw[a,a']
 ·exact absurd (b.symm.trans a') no
 ·exact absurd (b'.symm.trans a) no
 ·exact numTs_inj h.1 h'.1 (a.symm.trans a')
inductive sp_fl2 (K:PySem.W.Frag) (C:Addr) (vs:List V) (H:Hp) (Q:VK) (E9:XK):Prop
 | mk (x r:Addr) (H0 H1:Hp) (mv pt lk:List (List Rat)):vs=[.ref x,.ref r]->SysQ K H0 H C x mv pt lk->PartsQ K H1 H r mv pt lk->SysD mv pt lk->GOk mv∧GOk pt∧GOk lk->(∀H',Same H H'->Q (.bl true) H')->sp_fl2 K C vs H Q E9
end
end L2
namespace L2
open PySem PySem.Spec PySem.NumText PyProof.Rows Nm
theorem numT_len {n:Int×Int} {a b:Nat} (h1:n.1.natAbs < 10^(a+1)) (h2:n.2.natAbs < 10^(b+1)):(numT n).length<=a+b+4:=by
 have l1:=digs_len a _ h1
 have l2:=digs_len b _ h2
 have:(intT n.1).length<=a+2:=by
  unfold intT
  split
  ·rw[List.length_cons];lia
  ·lia
 unfold numT
 rw[List.length_append]
 split
 ·rw[List.length_nil];lia
 ·rw[List.length_cons];lia
theorem dr_len {x:Rat} (h:Dr 1000 x):(numT (nm x)).length<=60:=by
 have:=numT_len (n:=nm x) (a:=3) (b:=3) (Nat.lt_of_le_of_lt h.1 (by decide)) (by
  show ((x.den:Nat):Int).natAbs < _
  rw[Int.natAbs_natCast]
  exact Nat.lt_of_le_of_lt h.2 (by decide))
 lia
end L2
namespace L2
open PySem PySem.Spec PySem.NumText PyProof.Rows Nm
theorem rd_slX {l:List Nat} {lo hi:Option Int} {H:Hp} {Q:VK} (hl:l.length<=10000) {m:List Nat} (e:cutN l lo hi=m) (h:Q (.str (sl m)) H):rSlX (.str (sl l)) lo hi H Q:=⟨l,rfl,hl,by rw[e];exact h⟩
end L2
namespace L2
open PySem PySem.Spec PySem.NumText PyProof.Rows Nm
theorem numr_upto {K:PySem.W.Frag} {H H':Hp} {b:Addr} {x:V} {n:Int×Int} (h:NumR K H x n) (u:Upto b H H') (B:Bag H b):NumR K H' x n:=by obtain ⟨p,e,s⟩:=h;exact ⟨p,e,u.sqt B s⟩
theorem rowk_upto {K:PySem.W.Frag} {H H':Hp} {b p:Addr} {ns:List (Int×Int)} (h:RowK K H p ns) (u:Upto b H H') (B:Bag H b) (n:p≠b):RowK K H' p ns:=by obtain ⟨xs,g,r⟩:=h;exact ⟨xs,u.other n g,Paired.imp' (fun _ _ z=>numr_upto z u B) r⟩
end L2
namespace L2
open PySem PySem.Spec PySem.NumText PyProof.Rows Nm
def whoB (l:List Nat):Bool:=!l.isEmpty && l.all (fun c=>48<=c && c<=57) && (l.head? != some 48 || l == [48])
def topB:List Nat->Bool
 | []=>false
 | c :: r=>if c=45 then whoB r && r != [48] else whoB (c :: r)
def tvB:List Nat->Nat
 | []=>0
 | c :: r=>if c=45 then digitsVal r else digitsVal (c :: r)
def nuB (l : List Nat) : Bool :=
  topB (l.takeWhile (· != 47)) && ((l.takeWhile (· != 47)).length == l.length || (whoB (l.dropWhile (· != 47)).tail && 2 ≤ digitsVal (l.dropWhile (· != 47)).tail && Nat.gcd (tvB (l.takeWhile (· != 47))) (digitsVal (l.dropWhile (· != 47)).tail) == 1))
theorem whoB_of {l:List Nat} {n:Nat} (h:Who l n):whoB l=true:=by
 obtain ⟨h0,h1,h2,_⟩:=h
 unfold whoB
 rw[Bool.and_eq_true,Bool.and_eq_true,Bool.or_eq_true]
 refine ⟨⟨?_,?_⟩,?_⟩
 ·cases l with
  | nil=>exact absurd rfl h0
  | cons a r=>rfl
 ·rw[List.all_eq_true]
  intro c hc
  have:=h1 c hc
  simp
  lia
 ·by_cases e:l.head?=some 48
  ·exact .inr (by rw[h2 e];rfl)
  ·exact .inl (by simpa using e)
theorem topB_intT (i:Int):topB (intT i)=true∧tvB (intT i)=i.natAbs:=by
 unfold intT
 split
 ·unfold topB tvB
  simp only[]
  rw[if_pos trivial,if_pos trivial,whoB_of (who_digs _),digs_val]
  refine ⟨?_,rfl⟩
  have:digs i.natAbs≠[48]:=fun z=>by
   have:=digs_val i.natAbs
   rw[z] at this
   have:i.natAbs=0:=this.symm
   lia
  simpa using this
 ·obtain ⟨c,r,e,_⟩:=digs_head i.natAbs
  have hc:=digs_all i.natAbs c (by rw[e];simp)
  have n45:c≠45:=by lia
  have w:=whoB_of (who_digs i.natAbs)
  have v:=digs_val i.natAbs
  rw[e] at w v ⊢
  show (if c=45 then _ else whoB (c :: r))=true∧(if c=45 then _ else digitsVal (c :: r))=_
  rw[if_neg n45,if_neg n45]
  exact ⟨w,v⟩
theorem take47 {a b:List Nat} (h:47∉a):(a++47 :: b).takeWhile (· != 47)=a∧(a++47 :: b).dropWhile (· != 47)=47 :: b:=by
 induction a with
 | nil=>exact ⟨rfl,rfl⟩
 | cons x r ih =>
  have hx:(x != 47)=true:=by
   have:x≠47:=fun z=>h (by rw[z];simp)
   simpa using this
  obtain ⟨i1,i2⟩:=ih fun z=>h (List.mem_cons_of_mem _ z)
  rw[List.cons_append,List.takeWhile_cons_of_pos (p:=fun x=>x != 47) hx,List.dropWhile_cons_of_pos (p:=fun x=>x != 47) hx,i1,i2]
  exact ⟨rfl,rfl⟩
theorem take47n {a:List Nat} (h:47∉a):a.takeWhile (· != 47)=a:=by
 induction a with
 | nil=>rfl
 | cons x r ih =>
  have hx:(x != 47)=true:=by
   have:x≠47:=fun z=>h (by rw[z];simp)
   simpa using this
  rw[List.takeWhile_cons_of_pos (p:=fun x=>x != 47) hx,ih fun z=>h (List.mem_cons_of_mem _ z)]
theorem nuB_numT {n:Int×Int} (h:Vn n):nuB (numT n)=true:=by
 have fr:47∉intT n.1:=intT_free (by decide) (by decide)
 obtain ⟨t1,t2⟩:=topB_intT n.1
 unfold nuB
 by_cases e:n.2=1
 ·rw[numT_one e,take47n fr,t1]
  simp
 ·rw[numT_cut e,(take47 fr).1,(take47 fr).2,t1,t2]
  have v1:=h.1
  have v2:=h.2
  rw[List.tail_cons,whoB_of (who_digs _),digs_val]
  have:n.2.natAbs ≥ 2:=by lia
  have g:Nat.gcd n.1.natAbs n.2.natAbs=1:=v2
  rw[g]
  simp
  lia
theorem no_num {l:List Nat} (h:nuB l=false):∀n,Vn n->l≠numT n:=fun n vn e=>by
 rw[e,nuB_numT vn] at h
 cases h
theorem no_row {l:List Nat} {ws:List (List Nat)} {w:List Nat} (w0:ws≠[]) (w1:∀w∈ws,32∉w) (e:l=joinL 32 ws) (hw:w∈ws) (h:nuB w=false) (h1:ws≠[[]]):∀ns,¬RwT l ns:=fun ns hn=>by
 rcases rw_words w0 w1 e hn with ⟨_,y⟩ | y
 ·exact h1 y
 ·rw[y] at hw
  obtain ⟨n,mn,rfl⟩:=List.mem_map.mp hw
  rw[nuB_numT (hn.1 n mn)] at h
  cases h
def goodW (w:List Nat):Bool:=nuB w || w == wM || w == wP || w == wL
theorem nuB_digs (n:Nat):nuB (digs n)=true:=by
 have:=nuB_numT (n:=((n:Nat),1)) ⟨Int.one_pos,by simp⟩
 rw[numT_one rfl] at this
 unfold intT at this
 rwa [if_neg (by simp)] at this
theorem sys_good {mv pt lk:List (List Rat)}:∀w∈sysW mv pt lk,goodW w=true:=fun w hw=>by
 have gd:∀{g:List (List Rat)},w∈gw g->goodW w=true:=fun {g} h=>by
  obtain ⟨n,vn,e⟩:=gr_num h
  unfold goodW
  rw[e,nuB_numT vn]
  rfl
 unfold sysW at hw
 unfold goodW
 simp only[List.cons_append,List.nil_append,List.mem_cons,List.mem_append] at hw
 rcases hw with rfl | rfl | rfl | rfl | hw
 ·rw[nuB_digs];rfl
 ·rw[nuB_digs];rfl
 ·rw[nuB_digs];rfl
 ·rfl
 ·rcases hw with (h | h | h) | h | h
  ·exact gd h
  ·rw[h];rfl
  ·exact gd h
  ·rw[h];rfl
  ·exact gd h
theorem no_sys {ws:List (List Nat)} {w:List Nat} (hw:w∈ws) (h:goodW w=false):∀mv pt lk,¬SyT ws mv pt lk:=fun mv pt lk ⟨_,e⟩=>by
 rw[e] at hw
 rw[sys_good w hw] at h
 cases h
theorem numT_sign {n:Int×Int} {c:Nat} (h:c∈numT n):(48<=c∧c<=57)∨c=45∨c=47:=by
 have dg:∀{m:Nat},c∈digs m->(48<=c∧c<=57)∨c=45∨c=47:=fun {m} z=>by
  have:=digs_all m c z
  lia
 have it:∀{i:Int},c∈intT i->(48<=c∧c<=57)∨c=45∨c=47:=fun {i} z=>by
  unfold intT at z
  split at z
  ·rcases List.mem_cons.mp z with z | z
   ·exact .inr (.inl z)
   ·exact dg z
  ·exact dg z
 unfold numT at h
 rcases List.mem_append.mp h with h | h
 ·exact it h
 ·split at h
  ·cases h
  ·rcases List.mem_cons.mp h with h | h
   ·exact .inr (.inr h)
   ·exact dg h
theorem mem_join {c d:Nat}:∀{ws:List (List Nat)},d∈joinL c ws->d=c∨∃w∈ws,d∈w
 | [],h=>nomatch h
 | [x],h=>.inr ⟨x,List.mem_cons_self ..,h⟩
 | x :: y :: r,h=>by
  have h:d∈x++c :: joinL c (y :: r):=h
  rcases List.mem_append.mp h with h | h
  ·exact .inr ⟨x,List.mem_cons_self ..,h⟩
  ·rcases List.mem_cons.mp h with h | h
   ·exact .inl h
   ·rcases mem_join h with h | ⟨w,hw,h⟩
    ·exact .inl h
    ·exact .inr ⟨w,List.mem_cons_of_mem _ hw,h⟩
def BadS (c:Nat):Prop:=¬((48<=c∧c<=57)∨c=45∨c=47∨c=32)
theorem sign_num {l:List Nat} {c:Nat} (h:c∈l) (b:BadS c):∀n,Vn n->l≠numT n:=fun n _ e=>by
 rw[e] at h
 have:=numT_sign h
 unfold BadS at b
 lia
theorem sign_row {l:List Nat} {c:Nat} (h:c∈l) (b:BadS c):∀ns,¬RwT l ns:=fun ns hn=>by
 rw[hn.2] at h
 unfold BadS at b
 rcases mem_join h with z | ⟨w,hw,z⟩
 ·lia
 ·obtain ⟨n,_,rfl⟩:=List.mem_map.mp hw
  have:=numT_sign z
  lia
theorem join_app {c:Nat}:∀{a b:List (List Nat)},a≠[]->b≠[]->joinL c (a++b)=joinL c a++c :: joinL c b
 | [],_,h,_=>absurd rfl h
 | [x],[],_,h=>absurd rfl h
 | [x],y :: r,_,_=>rfl
 | x :: y :: r,b,_,hb=>by
  show x++c :: joinL c ((y :: r)++b)=(x++c :: joinL c (y :: r))++c :: joinL c b
  rw[join_app (List.cons_ne_nil _ _) hb,List.append_assoc,List.cons_append]
theorem join_in {c:Nat} {a wl b:List (List Nat)} (h:wl≠[]):joinL c (a++[joinL c wl]++b)=joinL c (a++wl++b):=by
 have e1:joinL c (a++[joinL c wl])=joinL c (a++wl):=by
  cases a with
  | nil=>rfl
  | cons x r=>rw[join_app (List.cons_ne_nil _ _) (List.cons_ne_nil _ _),join_app (List.cons_ne_nil _ _) h];rfl
 cases b with
 | nil=>rw[List.append_nil,List.append_nil,e1]
 | cons x r=>rw[join_app (a:=a++[joinL c wl]) (by simp) (List.cons_ne_nil _ _),join_app (a:=a++wl) (by simp [h]) (List.cons_ne_nil _ _),e1]
end L2
namespace L2
open PySem PySem.Spec PySem.NumText PyProof.Rows Nm
def Od (H:Hp) (y:V):Prop:=Kn H y∧∀s,y≠.str s
theorem Od.same {H H':Hp} {y:V} (h:Od H y) (s:Same H H'):Od H' y:=⟨h.1.same s,h.2⟩
theorem rd_isS {K:PySem.W.Frag} {H:Hp} {Q:VK} {y:V} (h:Od H y) (q:Q (.bl false) H):rIsT K "str" y H Q:=by
 obtain ⟨h,n⟩:=h
 cases h with
 | non=>exact ⟨_,_,.non,rfl,q⟩
 | bl b=>exact ⟨_,_,.bl b,rfl,q⟩
 | int i=>exact ⟨_,_,.int i,rfl,q⟩
 | str x=>exact absurd rfl (n x)
 | lst e=>exact ⟨_,_,.lst e,rfl,q⟩
 | tup e=>exact ⟨_,_,.tup e,rfl,q⟩
 | dic e=>exact ⟨_,_,.dK e,rfl,q⟩
inductive sp_wi3 (C:Addr) (vs:List V) (H:Hp) (Q:VK) (E:XK):Prop
 | mk (y:V):vs=[y]->((Od H y∧E (.ref C) none H)∨∃l:List Nat,y=.str (sl l)∧l.length<=1000000∧∀p H',Same H H'->H p=none->H' p=some (.lst ((Txt.split (sl l) (sl [32])).map V.str))->Q (.ref p) H')->sp_wi3 C vs H Q E
inductive sp_rn3 (C:Addr) (vs:List V) (H:Hp) (Q:VK) (E:XK):Prop
 | mk (y:V):vs=[y]->((Od H y∧E (.ref C) none H)∨∃l:List Nat,y=.str (sl l)∧l.length<=1000∧(∀n,Vn n->l=numT n->∀r H',H r=none->Same H H'->H' r=some (.tup [.int n.1,.int n.2])->Q (.ref r) H')∧((∀n,Vn n->l≠numT n)->∀H',Same H H'->E (.ref C) none H'))->sp_rn3 C vs H Q E
inductive sp_rr3 (K:PySem.W.Frag) (C:Addr) (vs:List V) (H:Hp) (Q:VK) (E:XK):Prop
 | mk (y:V):vs=[y]->((Od H y∧E (.ref C) none H)∨∃l:List Nat,y=.str (sl l)∧l.length<=1000∧(∀ns,RwT l ns->∀p H',H p=none->Same H H'->RowK K H' p ns->Q (.ref p) H')∧((∀ns,¬RwT l ns)->∀H',Same H H'->E (.ref C) none H'))->sp_rr3 K C vs H Q E
inductive sp_rs3 (K:PySem.W.Frag) (C Cn:Addr) (vs:List V) (H:Hp) (Q:VK) (E:XK):Prop
 | mk (y:V):vs=[y]->((Od H y∧E (.ref Cn) none H)∨∃(l:List Nat) (ws:List (List Nat)),y=.str (sl l)∧l.length<=100000∧(∀w∈ws,w.length<=1000)∧ws≠[]∧(∀w∈ws,32∉w)∧l=joinL 32 ws∧(∀mv pt lk,SyT ws mv pt lk->∀x H',H x=none->Same H H'->SysQ K H H' C x mv pt lk->Q (.ref x) H')∧((∀mv pt lk,¬SyT ws mv pt lk)->∀H',Same H H'->E (.ref Cn) none H'))->sp_rs3 K C Cn vs H Q E
structure Rf (l:List Nat) (ws:List (List Nat)) (k:Nat):Prop where
 l1:k < 2->l.length<=1000
 l2:l.length<=100000
 wl:∀w∈ws,w.length<=1000
 w0:ws≠[]
 w1:∀w∈ws,32∉w
 ew:l=joinL 32 ws
 no:NoT l ws k
inductive sp_rf3 (fs:List Addr) (vs:List V) (H:Hp) (Q:VK) (E9:XK):Prop
 | mk (k:Nat) (f:Addr) (y:V):vs=[.ref f,y]->k < 3->fs[k]?=some f->(Od H y∨∃l ws,y=.str (sl l)∧Rf l ws k)->(∀H',Same H H'->Q (.bl true) H')->sp_rf3 fs vs H Q E9
end L2
namespace L2
open PySem PySem.Spec PyProof.Rows
section
variable {κ:Type} [DecidableEq κ]
def valV (kvs:List (κ×V)) (k:κ):Option V:=(kvs.find? fun kv=>decide (kv.1=k)).map (·.2)
def putK (kvs:List (κ×V)) (k:κ) (v:V):List (κ×V) :=
 if (kvs.any fun kv=>decide (kv.1=k))=true then kvs.map (fun kv=>if kv.1=k then (kv.1,v) else kv) else kvs++[(k,v)]
theorem valV_nil {k:κ}:valV ([]:List (κ×V)) k=none:=rfl
theorem valV_pos {p:κ×V} {r:List (κ×V)} {k:κ} (e:p.1=k):valV (p :: r) k=some p.2:=by simp [valV,List.find?_cons,e]
theorem valV_neg {p:κ×V} {r:List (κ×V)} {k:κ} (e:¬p.1=k):valV (p :: r) k=valV r k:=by simp [valV,List.find?_cons,e]
theorem length_putK (kvs:List (κ×V)) (k:κ) (v:V):(putK kvs k v).length<=kvs.length+1:=by
 unfold putK
 split
 ·rw[List.length_map];lia
 ·rw[List.length_append,List.length_cons,List.length_nil];lia
theorem RelO.getD {o:Option V} {u:Option Value} {d:V} {d':Value} (r:RelO o u) (rd:RelV d d'):RelV (o.getD d) (u.getD d'):=by
 cases o with
 | none=>cases u with
  | none=>exact rd
  | some _=>exact (show False from r).elim
 | some _=>cases u with
  | none=>exact (show False from r).elim
  | some _=>exact r
theorem KV.val {kvs:List (κ×V)} {vs:List (κ×Value)} (r:KV kvs vs) (k:κ):RelO (valV kvs k) (valueAt vs k):=by
 unfold KV at r
 induction r with
 | nil=>exact True.intro
 | @cons p q ps qs h t ih =>
  obtain ⟨h1,h2⟩:=h
  by_cases e:p.1=k
  ·have e':q.1=k:=h1.symm.trans e
   have b:valueAt (q :: qs) k=some q.2:=by simp [valueAt,List.find?_cons,e']
   rw[valV_pos e,b];exact h2
  ·have e':¬q.1=k:=fun z=>e (h1.trans z)
   have b:valueAt (q :: qs) k=valueAt qs k:=by simp [valueAt,List.find?_cons,e']
   rw[valV_neg e,b];exact ih
theorem KV.any {kvs:List (κ×V)} {vs:List (κ×Value)} (r:KV kvs vs) (k:κ):(kvs.any fun kv=>decide (kv.1=k))=vs.any fun kv=>decide (kv.1=k):=by
 unfold KV at r
 induction r with
 | nil=>rfl
 | cons h t ih=>rw[List.any_cons,List.any_cons,ih,h.1]
theorem KV.repl {kvs:List (κ×V)} {vs:List (κ×Value)} (r:KV kvs vs) (k:κ) {y:V} {u:Value} (ry:RelV y u) :
  KV (kvs.map fun kv=>if kv.1=k then (kv.1,y) else kv) (vs.map fun kv=>if kv.1=k then (kv.1,u) else kv):=by
 unfold KV at r ⊢
 induction r with
 | nil=>exact .nil
 | @cons p q ps qs h t ih =>
  rw[List.map_cons,List.map_cons]
  refine .cons ?_ ih
  obtain ⟨h1,h2⟩:=h
  by_cases e:p.1=k
  ·rw[if_pos e,if_pos (h1.symm.trans e)];exact ⟨h1,ry⟩
  ·rw[if_neg e,if_neg (fun z=>e (h1.trans z))];exact ⟨h1,h2⟩
theorem KV.put {kvs:List (κ×V)} {vs:List (κ×Value)} (r:KV kvs vs) (k:κ) {y:V} {u:Value} (ry:RelV y u):KV (putK kvs k y) (stored vs k u):=by
 unfold putK stored
 rw[r.any k]
 by_cases e:(vs.any fun kv=>decide (kv.1=k))=true
 ·rw[if_pos e,if_pos e];exact r.repl k ry
 ·rw[if_neg e,if_neg e];exact Paired.snoc r ⟨rfl,ry⟩
end
theorem kV_is {P:Program} {w:World} {k:Key} {u:Value} (r:RelV (kV k) u):(mixKind P w).is k u=true:=by
 cases k with
 | inl i=>obtain ⟨t,e⟩:=(show ∃t,u=Value.int i t from r);subst e;exact mixKind_int P w i t
 | inr x=>obtain ⟨t,e⟩:=(show ∃t,u=Value.str x t from r);subst e;exact mixKind_str P w x t
theorem items_are {P:Program} {w:World}:∀{ks:List Key} {us:List Value},Vals (ks.map kV) us->ItemsAre (mixKind P w) ks us
 | [],_,r=>by rw[List.map_nil] at r;cases r;exact .nil
 | k :: ks,_,r=>by
  rw[List.map_cons] at r
  cases r with
  | cons h t=>exact .cons (kV_is h) (items_are t)
abbrev KT (H:Hp):List (List Key×V)->List (List Key×Addr×Value)->Prop:=Paired fun p q=>p.1=q.1∧H q.2.1=some (.tup (p.1.map kV))∧RelV p.2 q.2.2
theorem KT.val {H:Hp} {kvs:List (List Key×V)} {xs:List (List Key×Addr×Value)} (r:KT H kvs xs) (k:List Key):RelO (valV kvs k) ((atKey xs k).map (·.2)):=by
 induction r with
 | nil=>exact True.intro
 | @cons p q ps qs h t ih =>
  obtain ⟨h1,_,h2⟩:=h
  by_cases e:p.1=k
  ·have e':q.1=k:=h1.symm.trans e
   have b:atKey (q :: qs) k=some q.2:=by simp [atKey,List.find?_cons,e']
   rw[valV_pos e,b];exact h2
  ·have e':¬q.1=k:=fun z=>e (h1.trans z)
   have b:atKey (q :: qs) k=atKey qs k:=by simp [atKey,List.find?_cons,e']
   rw[valV_neg e,b];exact ih
section
variable {P:Program} {w:World} {H:Hp} {h:Heap} {a:Addr}
theorem rd_of {u:HO} (ok:HOk P w H h) (e:Rd H a u):ObjOk P w H h a u:=e.ok ok
theorem dk_rd {kvs:List (Key×V)} (ok:HOk P w H h) (e:Rd H a (.dK kvs)):kvs.length<=sizeLine∧(a == sysModules)=false∧∃vs,KV kvs vs∧h.DictOf (mixKind P w) a vs :=
 show ObjOk P w H h a (.dK kvs) from rd_of ok e
theorem dk_of {kvs:List (Key×V)} (ok:HOk P w H h) (e:H a=some (.dK kvs)):kvs.length<=sizeLine∧(a == sysModules)=false∧∃vs,KV kvs vs∧h.DictOf (mixKind P w) a vs:=dk_rd ok (.inl e)
theorem key_of {ks:List Key} (ok:HOk P w H h) (e:H a=some (.tup (ks.map kV))):(tupleKind (mixKind P w)).is h ks a:=by
 obtain ⟨_,its,r,o,h1,h2,n,h3⟩:=(show ObjOk P w H h a (.tup (ks.map kV)) from ok a _ e)
 exact ⟨o,its.toArray,n,h1,h2,h3,by simpa using items_are r⟩
theorem dt_rd {kvs:List (List Key×V)} (ok:HOk P w H h) (e:Rd H a (.dT kvs)):kvs.length<=sizeLine∧(a == sysModules)=false ∧
  ∃xs,KT H kvs xs∧h.DictOfH (tupleKind (mixKind P w)) a xs:=by
 obtain ⟨z,y,xs,r,o,es,ep,h1,h2,h3,h4,h5⟩:=(show ObjOk P w H h a (.dT kvs) from rd_of ok e)
 refine ⟨z,y,xs,r,o,es,ep,h1,h2,h3,h4,fun x hx=>?_,h5⟩
 have all:∀{l:List (List Key×V)} {m:List (List Key×Addr×Value)},KT H l m->∀x∈m,(tupleKind (mixKind P w)).is h x.1 x.2.1:=by
  intro l m q
  induction q with
  | nil=>intro x hx;exact nomatch hx
  | @cons p q ps qs hq t ih =>
   intro x hx
   rcases List.mem_cons.mp hx with e | hx
   ·subst e
    exact key_of ok (by rw[← hq.1];exact hq.2.1)
   ·exact ih x hx
 exact all r x hx
end
def DGet (H:Hp) (a:Addr) (y:V) (r:Option V):Prop :=
 (∃kvs k,Rd H a (.dK kvs)∧y=kV k∧r=valV kvs k)∨∃kvs k b,Rd H a (.dT kvs)∧y=.ref b∧H b=some (.tup (k.map kV))∧r=valV kvs k
section
variable {X:Cx} {pins:List (Addr×Obj)} {σ:St} {H:Hp} {s:Shared} {a:Addr} {y v:V} {u r:Value} {o:Option V} {A:Around} {E:Value->Shared->Prop}
theorem Inv.big (I:Inv X pins σ H s):sysModules < s.heap.objs.size:=by
 have h:mainGlobals < s.heap.objs.size:=(I.mod.glob.keeps I.bk).lt
 exact Nat.lt_trans (by decide) h
theorem d_write {h':Heap} {t':Nat} {ob:HO} (I:Inv X pins σ H s) (mu:Mut (H a)) (hs:Heap.SameBut a s.heap h') (he:∃q,h'.get? a=some q) (new:ObjOk X.prog X.w (upd H a ob) h' a ob) :
  Inv X pins σ (upd H a ob) { s with heap:=h',toks:=t' } :=
 I.write (x:=a) (e:=a) mu (.inl rfl) (fun b q hb z=>(hs.2 b hb).trans z) he new
theorem dk_new {P:Program} {w:World} {H':Hp} {h':Heap} {kvs:List (Key×V)} {vs:List (Key×Value)} (z:kvs.length<=sizeLine) (hd:(a == sysModules)=false) (rel:KV kvs vs) (dd:h'.DictOf (mixKind P w) a vs) :
  ObjOk P w H' h' a (.dK kvs):=⟨z,hd,vs,rel,dd⟩
end
theorem dk_empty {P:Program} {w:World} {H:Hp} (h:Heap) (hb:sysModules < h.objs.size):ObjOk P w H (h.push { cls:=.type "dict",data:=.dict #[] }) h.objs.size (.dK []) :=
 ⟨Nat.zero_le _,beq_eq_false_iff_ne.mpr (Ne.symm (Nat.ne_of_lt hb)),[],.nil,Heap.DictOf.new h⟩
def tPairs:List (TE×TE)->St->Hp->(List (V×V)->Hp->Prop)->Prop
 | [],_,H,Q=>Q [] H
 | (tk,tv) :: r,σ,H,Q=>tk σ H fun x H1=>tv σ H1 fun y H2=>tPairs r σ H2 fun ps H3=>Q ((x,y) :: ps) H3
abbrev VV:List (V×V)->List (Value×Value)->Prop:=Paired fun p q=>RelV p.1 q.1∧RelV p.2 q.2
def PPs (X:Cx) (pos:Pos) (keys:List (Option Expr)) (values:List Expr) (trs:List (TE×TE)):Prop :=
 ∀(pins:List (Addr×Obj)) (s:Shared) (σ:St) (H:Hp) (Q:List (V×V)->Hp->Prop),Inv X pins σ H s->tPairs trs σ H Q →
  wpAny (model X.prog X.w) X.A (evalPairs (pairTrees keys values X.env pos)) (fun vs s'=>∃ps H',Inv X pins σ H' s'∧VV ps vs∧Q ps H') X.xe s
theorem pps_nil {X:Cx} {pos:Pos}:PPs X pos [] [] []:=fun pins s σ H Q I h=>pairTrees_nil_walk ⟨[],H,I,.nil,h⟩
theorem pps_cons {X:Cx} {pos:Pos} {k v:Expr} {ks:List (Option Expr)} {vs:List Expr} {tk tv:TE} {trs:List (TE×TE)} (hk:PE X k tk) (hv:PE X v tv) (hr:PPs X pos ks vs trs) :
  PPs X pos (some k :: ks) (v :: vs) ((tk,tv) :: trs):=fun pins s σ H Q I h =>
 pairTrees_cons_walk (thn (hk pins s σ H _ I h) fun u s1 ⟨x,H1,I1,rx,q1⟩=>thn (hv pins s1 σ H1 _ I1 q1) fun w2 s2 ⟨y,H2,I2,ry,q2⟩ =>
  thn (hr pins s2 σ H2 _ I2 q2) fun ws s3 ⟨ps,H3,I3,rel,q3⟩=>⟨(x,y) :: ps,H3,I3,.cons ⟨rx,ry⟩ rel,q3⟩)
def mergeK (kvs more:List (Key×V)):List (Key×V):=more.foldl (fun acc kv=>putK acc kv.1 kv.2) kvs
theorem KV.merge:∀{more:List (Key×V)} {rs:List (Key×Value)} {kvs:List (Key×V)} {vs:List (Key×Value)},KV more rs->KV kvs vs->KV (mergeK kvs more) (merged vs rs):=by
 intro more rs kvs vs r
 unfold KV at r
 induction r generalizing kvs vs with
 | nil=>intro q;exact q
 | @cons p q ps qs h t ih =>
  intro r0
  have e:KV (putK kvs p.1 p.2) (stored vs q.1 q.2):=by
   have:=r0.put p.1 h.2
   rw[← h.1];exact this
  exact ih e
theorem length_mergeK:∀(more kvs:List (Key×V)),(mergeK kvs more).length<=kvs.length+more.length
 | [],kvs=>by show kvs.length<=kvs.length+0;lia
 | p :: r,kvs=>by
  have h1:=length_mergeK r (putK kvs p.1 p.2)
  have h2:=length_putK kvs p.1 p.2
  show (mergeK (putK kvs p.1 p.2) r).length<=_
  rw[List.length_cons];lia
theorem carries_of {P:Program} {w:World}:∀{kvs:List (Key×V)} {ws:List (Value×Value)},VV (kvs.map fun kv=>(kV kv.1,kv.2)) ws->∃rs,Carries (mixKind P w) ws rs∧KV kvs rs
 | [],_,r=>by rw[List.map_nil] at r;cases r;exact ⟨[],True.intro,.nil⟩
 | p :: kvs,_,r=>by
  rw[List.map_cons] at r
  cases r with
  | @cons a b as bs h t =>
   obtain ⟨rs,c,q⟩:=carries_of (P:=P) (w:=w) t
   obtain ⟨b1,b2⟩:=b
   exact ⟨(p.1,b2) :: rs,⟨kV_is h.1,rfl,c⟩,.cons ⟨rfl,h.2⟩ q⟩
def tDisp (trs:List (TE×TE)):TE:=fun σ H Q=>∀p,H p=none->tPairs trs σ (upd H p (.dK [])) fun ps H2=>H2 p=some (.dK [])∧∃kvs:List (Key×V),ps=kvs.map (fun kv=>(kV kv.1,kv.2))∧kvs.length<=15∧Q (.ref p) (upd H2 p (.dK (mergeK [] kvs)))
theorem pe_disp {X:Cx} {pos:Pos} {keys:List (Option Expr)} {values:List Expr} {trs:List (TE×TE)} (h:PPs X pos keys values trs) (hall:keys.all (·.isSome)=true) (hl:keys.length=values.length) (h0:keys≠[])
  (h15:keys.length<=15):PE X (.Dict keys values pos) (tDisp trs):=by
 intro pins s σ H Q I q
 have hn:=I.hok.fresh (Nat.le_refl s.heap.objs.size)
 have I1:=I.laid (a:=s.heap.objs.size) (o:=.dK []) (h':=s.heap.push { cls:=.type "dict",data:=.dict #[] }) (t':=s.toks) (fun _ _ q=>Heap.get?_push_of_some _ q) (Nat.le_refl _) (dk_empty s.heap I.big)
 refine wpAny_Dict_walk (knd:=mixKind X.prog X.w) hall hl h0 h15 (thn (h pins _ σ _ _ I1 (q _ hn)) fun ws s2 ⟨ps,H2,I2,rel,e,kvs,ep,lk,q2⟩=>?_)
 subst ep
 obtain ⟨rs,c,rk⟩:=carries_of (P:=X.prog) (w:=X.w) rel
 obtain ⟨z,hd,vs0,r0,dd⟩:=dk_of I2.hok e
 cases r0
 refine ⟨rs,c,dd,fun h' dd' hs=>⟨.ref s.heap.objs.size,_,?_,rfl,q2⟩⟩
 have hz:(mergeK [] kvs).length<=sizeLine:=by
  have h1:=length_mergeK kvs []
  rw[List.length_nil] at h1
  rw[sizeLine_eq];lia
 have he:∃q,h'.get? s.heap.objs.size=some q:=let ⟨q,_,_,hq,_⟩:=dd';⟨q,hq⟩
 exact d_write I2 (by rw[e];exact True.intro) hs he (dk_new hz hd (rk.merge .nil) dd')
structure M2 (X:Cx) (o:Expr) (m:Str) (apos:Pos) (e f:Expr) (cpos:Pos):Prop where
 base:attributeBase o m X.env (eval o X.env)=eval o X.env
 few:((backTo cpos (starEach [e,f] X.env)).all (fun x=>!x.1) && (backToKw cpos (keywordEach [] X.env)).all (fun x=>x.1.isSome)
  && decide (([e,f]:List Expr).length+([]:List Keyword).length+(if ([]:List Keyword).isEmpty then 0 else 1) < 30))=true
 line:(apos.endLine == cpos.line)=true
 trees:backTo cpos (starEach [e,f] X.env)=[(false,eval e X.env),(false,eval f X.env)]
def IsD (H:Hp) (a:Addr):Prop:=(∃kvs,Rd H a (.dK kvs))∨∃kvs,Rd H a (.dT kvs)
theorem isD_at {X:Cx} {pins:List (Addr×Obj)} {σ:St} {H:Hp} {s:Shared} {a:Addr} (I:Inv X pins σ H s) (d:IsD H a) :
  s.TypeIs (.ref a) "dict"∧(∀b,Value.ref a=.ref b->∃ob,s.heap.get? b=some ob∧ob.dict=none)∧(a == sysModules)=false:=by
 rcases d with ⟨kvs,e⟩ | ⟨kvs,e⟩
 ·obtain ⟨_,hd,vs,_,dd⟩:=dk_rd I.hok e
  refine ⟨dd.typeIs,fun b q=>?_,hd⟩
  cases q
  obtain ⟨ob,_,_,h1,h2,_⟩:=dd
  exact ⟨ob,h1,h2.2.1⟩
 ·obtain ⟨_,hd,xs,_,dd⟩:=dt_rd I.hok e
  refine ⟨dd.typeIs,fun b q=>?_,hd⟩
  cases q
  obtain ⟨ob,_,_,h1,h2,_⟩:=dd
  exact ⟨ob,h1,h2.2.1⟩
section
variable {X:Cx} {pins:List (Addr×Obj)} {σ:St} {H:Hp} {s:Shared} {a:Addr} {y d:V} {u r:Value} {o:Option V} {A:Around} {E:Value->Shared->Prop}
theorem d_get2 {Q:Value->Shared->Prop} (hu:A.units+1 < cLine) (I:Inv X pins σ H s) (g:DGet H a y o) (ry:RelV y u) (rd:RelV d r) (h:∀w' s',Inv X pins σ H s'->RelV (o.getD d) w'->Q w' s') :
  wpAny (model X.prog X.w) A (call (.builtin "dict.get") [.ref a,u,r]) Q E s:=by
 rcases g with ⟨kvs,k,e,ey,l⟩ | ⟨kvs,k,b,e,ey,eb,l⟩
 ·subst ey
  obtain ⟨z,hd,vs,rel,dd⟩:=dk_rd I.hok e
  refine call_meetsIn PySem.F.slot_dict_get dd.typeIs PySem.F.entry_dict_get (PySem.F.args_dict_get_3 _ _ _) (meets_dict_get_default (mixKind X.prog X.w) a (kV_is ry) hd r) ⟨_,dd.mapOf,h _ _ (I.tok _) ?_⟩
  rw[l]
  exact (rel.val k).getD rd
 ·subst ey
  cases (show u=Value.ref b from ry)
  obtain ⟨z,hd,xs,rel,dd⟩:=dt_rd I.hok e
  refine call_meetsIn PySem.F.slot_dict_get dd.typeIs PySem.F.entry_dict_get (PySem.F.args_dict_get_3 _ _ _) (meetsH_dict_get_default (tupleKind (mixKind X.prog X.w)) a b hd r) ⟨tupleKind_room_in1 hu,k,xs,key_of I.hok eb,dd,h _ _ (I.tok _) ?_⟩
  rw[l]
  exact (rel.val k).getD rd
end
def tDGet2 (td ty tx:TE):TE:=fun σ H Q=>td σ H fun x H1=>∃a,x=.ref a∧IsD H1 a∧ty σ H1 fun y H2=>tx σ H2 fun z H3=>∃o,DGet H3 a y o∧Q (o.getD z) H3
section
variable {X:Cx} {o e f:Expr} {apos cpos:Pos} {td ty tx:TE}
theorem pe_dget2 (hu:X.A.units+1 < cLine) (ho:PE X o td) (he:PE X e ty) (hf:PE X f tx) (m:M2 X o "get" apos e f cpos):PE X (.Call (.Attribute o "get" apos) [e,f] [] cpos) (tDGet2 td ty tx):=by
 intro pins s σ H Q I h
 refine wpAny_Call_method m.base m.few m.line PySem.F.plainAttrs_dict PySem.F.slot_dict_get PySem.F.type_dict_get (thn (ho pins s σ H _ I h) fun u s1 ⟨x,H1,I1,rx,a,ex,d,q1⟩=>?_)
 subst ex
 obtain rfl:u=Value.ref a:=rx
 obtain ⟨t1,t2,_⟩:=isD_at I1 d
 refine ⟨t1,t2,?_⟩
 rw[m.trees]
 refine Calls.callWith_builtin rfl (Calls.evalArgs_plain (Calls.spliced_cons (thn (he pins s1 σ H1 _ I1 q1) fun iv s2 ⟨y,H2,I2,ry,q2⟩ =>
  Calls.spliced_cons (thn (hf pins s2 σ H2 _ I2 q2) fun fv s3 ⟨z,H3,I3,rz,ov,g,q3⟩=>Calls.spliced_nil ?_))))
 exact d_get2 hu I3 g ry rz fun w' s4 I4 rw'=>⟨_,H3,I4,rw',q3⟩
end
end L2
namespace L2
open PySem PySem.Spec PySem.NumText PyProof.Rows Nm
def badW:List (List (List Nat)):=[[[]],[[45]],[[43,49]],[[48,49]],[[45,48,49]],[[45,48]],[[48,48]],[[48,47,53]],[[50,47,52]],[[45,54,47,52]],[[51,47,49]],[[48,47,49]],[[49,47,48]],[[49,47,45,50]],[[45,49,47,45,50]],[[49,47,48,50]],[[49,47,50,47,51]],[[97]],[[49,46,48]],[[47,50]],[[49,47]],[[45,45,49]],[[49,101,51]],[[48,120,49]],[[49,95,48]],[[49,47,43,50]],[[49,47,47,50]],[[45],[49]],[[49],[47,50]],[[49,47,50,97]],[[],[55]],[[55],[]],[[55,10]],[[45,49,47,50],[]]]
def badOk (wl:List (List Nat)):Bool:=!wl.isEmpty && wl.all (fun w=>decide (w.length<=10) && !w.contains 32) && wl.any (fun w=>!goodW w) && !nuB (joinL 32 wl) && decide (wl.length<=2)
theorem badW_ok:badW.all badOk=true:=by decide +kernel
structure Bad (wl:List (List Nat)):Prop where
 w0:wl≠[]
 w1:∀w∈wl,32∉w
 le:∀w∈wl,w.length<=10
 l2:wl.length<=2
 bd:∃w∈wl,goodW w=false
 no:nuB (joinL 32 wl)=false
theorem bad_of {wl:List (List Nat)} (h:wl∈badW):Bad wl:=by
 have:=List.all_eq_true.mp badW_ok wl h
 unfold badOk at this
 simp only[Bool.and_eq_true,Bool.not_eq_true',List.isEmpty_eq_false_iff,List.all_eq_true,List.any_eq_true,decide_eq_true_eq] at this
 obtain ⟨⟨⟨⟨a,b⟩,c⟩,d⟩,e⟩:=this
 exact ⟨a,fun w hw z=>by have:=(b w hw).2;simp at this;exact this z,fun w hw=>(b w hw).1,e,c,d⟩
theorem good_nu {w:List Nat} (h:goodW w=false):nuB w=false:=by
 unfold goodW at h
 rw[Bool.or_eq_false_iff,Bool.or_eq_false_iff,Bool.or_eq_false_iff] at h
 exact h.1.1.1
def sgL:List Nat:=[33,35,36,38,39,40,41,42,43,44,46,58,59,60,61,62,63,64,91,93,94,95,96,123,124,125,126,65,66,67,68,69,70,71,72,73,74,75,76,77,78,79,80,81,82,83,84,85,86,87,88,89,90,97,98,99,100,101,102,103,104,105,106,107,108,109,110,111,112,113,114,115,116,117,118,119,120,121,122,34,92]
theorem sgL_bad:∀c∈sgL,BadS c:=by
 have:sgL.all (fun c=>!(decide (48<=c) && decide (c<=57) || c == 45 || c == 47 || c == 32))=true:=by decide +kernel
 intro c hc
 have:=List.all_eq_true.mp this c hc
 unfold BadS
 simp at this
 lia
theorem bag_ne {H:Hp} {a b:Addr} {o:HO} (B:Bag H b) (e:H a=some o) (n:∀xs,o≠.lst xs):a≠b:=fun z=>by
 obtain ⟨q,x,y,w,cs,hp,_⟩:=B
 rw[z,hp] at e
 exact n _ (Option.some.inj e).symm
theorem Od.upto {H H':Hp} {y:V} {b:Addr} (h:Od H y) (u:Upto b H H') (n:y≠.ref b):Od H' y:=by
 refine ⟨?_,h.2⟩
 cases h.1 with
 | non=>exact .non
 | bl b=>exact .bl b
 | int i=>exact .int i
 | str x=>exact .str x
 | lst e=>exact .lst (u.other (fun z=>n (by rw[z])) e)
 | tup e=>exact .tup (u.other (fun z=>n (by rw[z])) e)
 | dic e=>exact .dic (u.other (fun z=>n (by rw[z])) e)
inductive sp_bn3 (vs:List V) (H:Hp) (Q:VK) (E9:XK):Prop
 | mk (b:Addr):vs=[.ref b]->Bag H b->(∀wl H',wl∈badW->Bag H' b->Upto b H H'->Q (.str (sl (joinL 32 wl))) H')->sp_bn3 vs H Q E9
inductive sp_od3 (vs:List V) (H:Hp) (Q:VK) (E9:XK):Prop
 | mk (b:Addr):vs=[.ref b]->Bag H b->(∀y H',Od H' y->y≠.ref b->Bag H' b->Upto b H H'->Q y H')->sp_od3 vs H Q E9
inductive sp_st3 (vs:List V) (H:Hp) (Q:VK) (E9:XK):Prop
 | mk (b:Addr) (l:List Nat):vs=[.ref b,.str (sl l)]->Bag H b->l.length<=900->(∀l' c H',c∈l'->BadS c->l'.length<=l.length+1->Bag H' b->Upto b H H'->Q (.str (sl l')) H')->sp_st3 vs H Q E9
theorem badW_V : [V.str (Str.ofString ""), V.str (Str.ofString "-"), V.str (Str.ofString "+1"), V.str (Str.ofString "01"), V.str (Str.ofString "-01"), V.str (Str.ofString "-0"), V.str (Str.ofString "00"), V.str (Str.ofString "0/5"), V.str (Str.ofString "2/4"), V.str (Str.ofString "-6/4"), V.str (Str.ofString "3/1"), V.str (Str.ofString "0/1"), V.str (Str.ofString "1/0"), V.str (Str.ofString "1/-2"), V.str (Str.ofString "-1/-2"), V.str (Str.ofString "1/02")] ++ [V.str (Str.ofString "1/2/3"), V.str (Str.ofString "a"), V.str (Str.ofString "1.0"), V.str (Str.ofString "/2"), V.str (Str.ofString "1/"), V.str (Str.ofString "--1"), V.str (Str.ofString "1e3"), V.str (Str.ofString "0x1"), V.str (Str.ofString "1_0"), V.str (Str.ofString "1/+2"), V.str (Str.ofString "1//2"), V.str (Str.ofString "- 1"), V.str (Str.ofString "1 /2"), V.str (Str.ofString "1/2a")] ++ [V.str (Str.ofString " 7"), V.str (Str.ofString "7 "), V.str (Str.ofString "7\n"), V.str (Str.ofString "-1/2 ")] = stL (badW.map (joinL 32)) := by with_unfolding_all rfl
theorem sgL_V:Str.ofString "!#$&'()*+,.:;<=>?\x40[]^_`{|}~ABCDEFGHIJKLMNOPQRSTUVWXYZabcdefghijklmnopqrstuvwxyz"++Str.ofString "\""++Str.ofString "\\"=sl sgL:=by with_unfolding_all rfl
theorem rd_ixC {l:List Nat} {v:Int} {H:Hp} {Q:VK} (v0:0<=v) (v1:v < (l.length:Nat)) (hl:l.length<=10000) (h:∀c,c∈l->Q (.str (sl [c])) H):rIxS (.str (sl l)) (.int v) H Q:=by
 obtain ⟨c,e,m,_⟩:=atI_some (xs:=(sl l).cps.toList) v0 (by rw[sl_toList];exact v1)
 rw[sl_toList] at m
 exact ⟨sl l,v,c,rfl,rfl,by rw[sl_length];exact big10000 (by lia),e,h c m⟩
end L2
namespace L2
open PySem PySem.Spec PySem.NumText PyProof.Rows Nm
theorem numT_32 (n:Int×Int):32∉numT n:=fun h=>by
 have:=numT_sign h
 lia
theorem nuB_nil:nuB []=false:=by decide +kernel
theorem no_words {ws:List (List Nat)} {w:List Nat} (w0:ws≠[]) (w1:∀w∈ws,32∉w) (hw:w∈ws) (h:nuB w=false) (h1:ws≠[[]]):∀ns,¬RwT (joinL 32 ws) ns:=no_row w0 w1 rfl hw h h1
theorem no_ahead {W:List (List Nat)} (w1:∀w∈W,32∉w):∀ns,¬RwT (32 :: joinL 32 W) ns:=by
 cases W with
 | nil=>exact no_words (ws:=[[],[]]) (by simp) (by simp) (w:=[]) (by simp) nuB_nil (by simp)
 | cons x r=>exact no_words (ws:=[] :: x :: r) (by simp) (fun w hw=>(List.mem_cons.mp hw).elim (fun z=>by rw[z];simp) (w1 w)) (w:=[]) (by simp) nuB_nil (by simp)
theorem no_behind {W:List (List Nat)} (w1:∀w∈W,32∉w):∀ns,¬RwT (joinL 32 W++[32]) ns:=by
 cases W with
 | nil=>exact no_words (ws:=[[],[]]) (by simp) (by simp) (w:=[]) (by simp) nuB_nil (by simp)
 | cons x r =>
  have:=no_words (ws:=(x :: r)++[[]]) (by simp) (fun w hw=>(List.mem_append.mp hw).elim (w1 w) (fun z=>by rw[List.mem_singleton.mp z];simp)) (w:=[]) (by simp) nuB_nil (by simp)
  rwa [join_app (by simp) (by simp)] at this
theorem no_amid {A B:List (List Nat)} {w:List Nat} (a0:A≠[]) (b0:B≠[]) (w1:∀w∈A++B,32∉w) (h2:32∉w) (h:nuB w=false):∀ns,¬RwT (joinL 32 A++(32 :: w++[32])++joinL 32 B) ns:=by
 have:=no_words (ws:=A++([w]++B)) (by simp) (fun v hv=>by
  rcases List.mem_append.mp hv with hv | hv
  ·exact w1 v (List.mem_append_left _ hv)
  ·rcases List.mem_append.mp hv with hv | hv
   ·rw[List.mem_singleton.mp hv];exact h2
   ·exact w1 v (List.mem_append_right _ hv)) (w:=w) (by simp) h (fun z=>by
  have:=congrArg List.length z
  simp at this
  have a1:=List.length_pos_iff.mpr a0
  lia)
 rw[join_app a0 (by simp),join_app (by simp) b0,show joinL 32 [w]=w from rfl] at this
 simpa using this
theorem no_put {A B wl:List (List Nat)} (w1:∀w∈A++B,32∉w) (h0:wl≠[]) (h1:∀w∈wl,32∉w) (h2:∃w∈wl,nuB w=false) (h3:wl≠[[]]):∀ns,¬RwT (joinL 32 (A++[joinL 32 wl]++B)) ns:=by
 rw[join_in h0]
 obtain ⟨w,hw,h⟩:=h2
 refine no_words (by simp [h0]) (fun v hv=>?_) (w:=w) (by simp [hw]) h (fun z=>h3 ?_)
 ·rw[List.append_assoc] at hv
  rcases List.mem_append.mp hv with hv | hv
  ·exact w1 v (List.mem_append_left _ hv)
  ·rcases List.mem_append.mp hv with hv | hv
   ·exact h1 v hv
   ·exact w1 v (List.mem_append_right _ hv)
 ·have l:=congrArg List.length z
  simp at l
  have a1:=List.length_pos_iff.mpr h0
  have eA:A=[]:=List.length_eq_zero_iff.mp (by lia)
  have eB:B=[]:=List.length_eq_zero_iff.mp (by lia)
  rw[eA,eB] at z
  simpa using z
theorem rf_row {l:List Nat} (h:l.length<=1000) (no:∀ns,¬RwT l ns):∃ws,Rf l ws 1:=by
 obtain ⟨ws,w0,w1,e,_⟩:=split_as l 32
 exact ⟨ws,fun _=>h,by lia,fun w hw=>Nat.le_trans (joinL_ge (c:=32) hw) (by rw[← e];exact h),w0,w1,e,.row no⟩
theorem rf_num {l:List Nat} (h:l.length<=1000) (no:∀n,Vn n->l≠numT n):∃ws,Rf l ws 0:=by
 obtain ⟨ws,w0,w1,e,_⟩:=split_as l 32
 exact ⟨ws,fun _=>h,by lia,fun w hw=>Nat.le_trans (joinL_ge (c:=32) hw) (by rw[← e];exact h),w0,w1,e,.num no⟩
def seps:List (List Nat):=[[44,32],[32,32],[10],[44],[9],[32,45,32]]
theorem seps_V:[V.str (Str.ofString ", "),V.str (Str.ofString "  "),V.str (Str.ofString "\n"),V.str (Str.ofString ","),V.str (Str.ofString "\t"),V.str (Str.ofString " - ")]=stL seps:=by with_unfolding_all rfl
theorem sep_no {sp:List Nat} {A B:List (List Nat)} (h:sp∈seps) (a0:A≠[]) (b0:B≠[]) (w1:∀w∈A++B,32∉w):sp.length<=3∧∀ns,¬RwT (joinL 32 A++sp++joinL 32 B) ns:=by
 unfold seps at h
 simp only[List.mem_cons,List.not_mem_nil,or_false] at h
 rcases h with rfl | rfl | rfl | rfl | rfl | rfl
 ·exact ⟨by decide,sign_row (c:=44) (by simp) (by unfold BadS;lia)⟩
 ·exact ⟨by decide,no_amid (w:=[]) a0 b0 w1 (by simp) nuB_nil⟩
 ·exact ⟨by decide,sign_row (c:=10) (by simp) (by unfold BadS;lia)⟩
 ·exact ⟨by decide,sign_row (c:=44) (by simp) (by unfold BadS;lia)⟩
 ·exact ⟨by decide,sign_row (c:=9) (by simp) (by unfold BadS;lia)⟩
 ·exact ⟨by decide,no_amid (w:=[45]) a0 b0 w1 (by simp) (by decide +kernel)⟩
inductive sp_br3 (K:PySem.W.Frag) (vs:List V) (H:Hp) (Q:VK) (E9:XK):Prop
 | mk (b p:Addr) (ns:List (Int×Int)):vs=[.ref b,.ref p]->Bag H b->RowK K H p ns->ns.length<=5->(∀n∈ns,NumOk n∧(numT n).length<=60)->(∀l H',l.length<=1000->(∀ns,¬RwT l ns)->Bag H' b->Upto b H H'->Q (.str (sl l)) H')->sp_br3 K vs H Q E9
end L2
namespace L2
open PySem PySem.Spec PySem.NumText PyProof.Rows Nm
section
variable {ws:List (List Nat)} {mv pt lk:List (List Rat)}
theorem no_size {a:List Nat} {j:Nat} (hj:j < 3) (e:ws[j]?=some a) (h:∀m,m<=8->(0 < j->m<=4)->a≠digs m):∀mv pt lk,¬SyT ws mv pt lk:=fun mv pt lk s=>by
 obtain ⟨_,c0,c1,c2,_⟩:=sy_cut s
 have D:=s.1
 have n8:=D.n8
 have i4:=D.i4
 have o4:=D.o4
 rcases (show j=0∨j=1∨j=2 by lia) with rfl | rfl | rfl
 ·rw[e] at c0;exact h _ n8 (by lia) (Option.some.inj c0)
 ·rw[e] at c1;exact h _ (by lia) (fun _=>i4) (Option.some.inj c1)
 ·rw[e] at c2;exact h _ (by lia) (fun _=>o4) (Option.some.inj c2)
theorem pre_bad:∀m,m<=8->goodW (48 :: digs m)=false∧goodW (43 :: digs m)=false:=by
 have:(List.range 9).all (fun m=>!goodW (48 :: digs m) && !goodW (43 :: digs m))=true:=by decide +kernel
 intro m hm
 have:=List.all_eq_true.mp this m (List.mem_range.mpr (by lia))
 simpa using this
theorem no_more {n i o:Nat} {rest:List (List Nat)} (e1:rest[0]?=some (digs i)) (e2:rest[1]?=some (digs o)) (l:rest.length+1=6+n*n+i*n+o*n):∀mv pt lk,¬SyT (digs (n+1) :: rest) mv pt lk:=fun mv pt lk s=>by
 obtain ⟨c,c0,c1,c2,_⟩:=sy_cut s
 have z0:=digs_inj (Option.some.inj c0)
 have z1:=digs_inj (Option.some.inj (e1.symm.trans c1))
 have z2:=digs_inj (Option.some.inj (e2.symm.trans c2))
 rw[List.length_cons,l,← z0,← z1,← z2,Nat.mul_succ,Nat.mul_succ,Nat.mul_succ,Nat.succ_mul] at c
 lia
theorem digs_45 {m:Nat} {r:List Nat}:45 :: r≠digs m:=fun z=>by
 have:=digs_all m 45 (by rw[← z];simp)
 lia
end
theorem digs_short {m:Nat} (h:m<=9):(digs m).length<=1:=by
 have:(List.range 10).all (fun m=>decide ((digs m).length<=1))=true:=by decide +kernel
 simpa using List.all_eq_true.mp this m (List.mem_range.mpr (by lia))
theorem sys_32 {mv pt lk:List (List Rat)}:∀w∈sysW mv pt lk,32∉w:=fun w hw=>by
 have gd:∀{g:List (List Rat)},w∈gw g->32∉w:=fun {g} h=>by
  obtain ⟨n,vn,e⟩:=gr_num h
  rw[e]
  exact numT_32 n
 have dg:∀m,32∉digs m:=fun m z=>by have:=digs_all m 32 z;lia
 unfold sysW at hw
 simp only[List.cons_append,List.nil_append,List.mem_cons,List.mem_append] at hw
 rcases hw with rfl | rfl | rfl | rfl | hw
 ·exact dg _
 ·exact dg _
 ·exact dg _
 ·decide
 ·rcases hw with (h | h | h) | h | h
  ·exact gd h
  ·rw[h];decide
  ·exact gd h
  ·rw[h];decide
  ·exact gd h
inductive sp_bz3 (vs:List V) (H:Hp) (Q:VK) (E9:XK):Prop
 | mk (b p:Addr) (mv pt lk:List (List Rat)):vs=[.ref b,.ref p]->Bag H b->p≠b->H p=some (.lst (stL (sysW mv pt lk)))->SysD mv pt lk->(∀w∈sysW mv pt lk,w.length<=650)->(∀q ws H',H' q=some (.lst (stL ws))->ws≠[]->(∀w∈ws,w.length<=660)->(∀w∈ws,32∉w)->ws.length<=140->(∀mv pt lk,¬SyT ws mv pt lk)->Bag H' b->Upto b H H'->Q (.ref q) H')->sp_bz3 vs H Q E9
end L2
namespace L2
open PySem PySem.Spec PySem.NumText PyProof.Rows Nm
def bz2:List (List Nat):=[[48],[53],[48],wM,wP,wL]
def bz3:List (List Nat):=[[48],[48],[53],wM,wP,wL]
def bz4:List (List Nat):=[[57],[48],[48],wM]++List.replicate 81 [48]++[wP,wL]
theorem bz2_V:[V.str (Str.ofString "0"),V.str (Str.ofString "5"),V.str (Str.ofString "0"),V.str (Str.ofString "move"),V.str (Str.ofString "put"),V.str (Str.ofString "look")]=stL bz2:=by with_unfolding_all rfl
theorem bz3_V:[V.str (Str.ofString "0"),V.str (Str.ofString "0"),V.str (Str.ofString "5"),V.str (Str.ofString "move"),V.str (Str.ofString "put"),V.str (Str.ofString "look")]=stL bz3:=by with_unfolding_all rfl
theorem bz4_V:[V.str (Str.ofString "9"),V.str (Str.ofString "0"),V.str (Str.ofString "0"),V.str (Str.ofString "move")]++List.replicate 81 (V.str (Str.ofString "0"))++[V.str (Str.ofString "put"),V.str (Str.ofString "look")]=stL bz4:=by
 unfold bz4
 rw[stL_app,stL_app]
 congr 1
theorem no_bz2:∀mv pt lk,¬SyT bz2 mv pt lk:=no_size (j:=1) (by decide) rfl fun m _ h e=>by
 have:=digs_inj ((digs_small (n:=5) (by decide)).trans e);have:=h (by decide);lia
theorem no_bz3:∀mv pt lk,¬SyT bz3 mv pt lk:=no_size (j:=2) (by decide) rfl fun m _ h e=>by
 have:=digs_inj ((digs_small (n:=5) (by decide)).trans e);have:=h (by decide);lia
theorem no_bz4:∀mv pt lk,¬SyT bz4 mv pt lk:=no_size (j:=0) (by decide) rfl fun m h _ e=>by
 have:=digs_inj ((digs_small (n:=9) (by decide)).trans e);lia
theorem cut_word {ws:List (List Nat)} {a:Nat} {w:List Nat} {P:List Nat->Prop} (h:∀w∈ws,P w) (hw:P w):∀v∈ws.take a++[w]++ws.drop (a+1),P v:=fun v hv=>by
 simp only[List.mem_append,List.mem_singleton] at hv
 rcases hv with (hv | hv) | hv
 ·exact h v (List.mem_of_mem_take hv)
 ·rw[hv];exact hw
 ·exact h v (List.mem_of_mem_drop hv)
theorem cut_at {ws:List (List Nat)} {a:Nat} {w:List Nat} (h:a < ws.length):(ws.take a++[w]++ws.drop (a+1))[a]?=some w:=by
 rw[List.append_assoc,List.getElem?_append_right (by rw[List.length_take];lia),List.length_take,Nat.min_eq_left (by lia),Nat.sub_self]
 rfl
theorem cut_len {ws:List (List Nat)} {a:Nat} {w:List Nat} (h:a < ws.length):(ws.take a++[w]++ws.drop (a+1)).length=ws.length:=by
 rw[List.length_append,List.length_append,List.length_take,List.length_drop,List.length_singleton]
 lia
theorem no_neg {ws:List (List Nat)} (h:2 < ws.length):∀mv pt lk,¬SyT (ws.take 2++[[45,49]]++ws.drop 3) mv pt lk:=no_size (j:=2) (by decide) (cut_at h) fun m _ _=>digs_45
theorem bz_st {xs:List (List Nat)} {a:Nat}:(stL xs).take a=stL (xs.take a)∧(stL xs).drop a=stL (xs.drop a):=by unfold stL;rw[List.map_take,List.map_drop];exact ⟨rfl,rfl⟩
end L2
namespace L2
open PySem PySem.Spec PySem.NumText PyProof.Rows Nm
section
variable {ws:List (List Nat)} {mv pt lk:List (List Rat)}
theorem rf_sys {l:List Nat} (e:l=joinL 32 ws) (le:l.length<=100000) (wl:∀w∈ws,w.length<=1000) (ne:ws≠[]) (w1:∀w∈ws,32∉w) (no:∀mv pt lk,¬SyT ws mv pt lk):∃ws,Rf l ws 2 :=
 ⟨ws,fun h=>absurd h (by decide),le,wl,ne,w1,e,.sys no⟩
theorem rf_ws (wl:∀w∈ws,w.length<=660) (ln:ws.length<=150) (ne:ws≠[]) (w1:∀w∈ws,32∉w) (no:∀mv pt lk,¬SyT ws mv pt lk):∃ws',Rf (joinL 32 ws) ws' 2 :=
 rf_sys rfl (Nat.le_trans (joinL_le 32 660 _ wl) (Nat.le_trans (Nat.mul_le_mul_right _ ln) (by decide))) (fun w hw=>Nat.le_trans (wl w hw) (by decide)) ne w1 no
theorem no_short (h:ws.length < 6):∀mv pt lk,¬SyT ws mv pt lk:=fun mv pt lk s=>by
 obtain ⟨c,_⟩:=sy_cut s
 lia
theorem digs_m {m:Nat}:wM≠digs m:=fun z=>by
 have:=digs_all m 109 (by rw[← z];decide)
 lia
theorem sys_3 (s:SyT ws mv pt lk):ws[3]?=some wM:=by
 obtain ⟨_,_,_,_,e⟩:=sy_cut s
 have:=congrArg (·[0]?) e
 simp only[List.getElem?_drop] at this
 exact this
theorem no_drop {a:Nat} (s:SyT ws mv pt lk) (ha:a < ws.length):∀mv pt lk,¬SyT (ws.take a++ws.drop (a+1)) mv pt lk:=fun mv' pt' lk' s'=>by
 obtain ⟨c,c0,c1,c2,_⟩:=sy_cut s
 obtain ⟨d,d0,d1,d2,_⟩:=sy_cut s'
 have lt:(ws.take a).length=a:=by rw[List.length_take];lia
 by_cases h:a<=2
 ·rw[List.getElem?_append_right (by rw[lt];exact h),lt,List.getElem?_drop,show a+1+(2 - a)=3 by lia,sys_3 s] at d2
  exact digs_m (Option.some.inj d2)
 ·have f:∀j,j < 3->(ws.take a++ws.drop (a+1))[j]?=ws[j]?:=fun j hj=>by
   rw[List.getElem?_append_left (by rw[lt];lia),List.getElem?_take_of_lt (by lia)]
  rw[f 0 (by decide),c0] at d0
  rw[f 1 (by decide),c1] at d1
  rw[f 2 (by decide),c2] at d2
  have z0:=digs_inj (Option.some.inj d0)
  have z1:=digs_inj (Option.some.inj d1)
  have z2:=digs_inj (Option.some.inj d2)
  rw[List.length_append,lt,List.length_drop,← z0,← z1,← z2] at d
  lia
theorem sys_has (s:SyT ws mv pt lk):wM∈ws∧wP∈ws∧wL∈ws:=by
 obtain ⟨_,e⟩:=s
 rw[e]
 unfold sysW
 refine ⟨?_,?_,?_⟩ <;> simp
theorem no_name {x:List Nat} (hx:x=wM∨x=wP∨x=wL) (h:x∉ws):∀mv pt lk,¬SyT ws mv pt lk:=fun mv pt lk s=>by
 obtain ⟨a,b,c⟩:=sys_has s
 rcases hx with rfl | rfl | rfl
 ·exact h a
 ·exact h b
 ·exact h c
def othW:List (List Nat):=[[109,111,118,101,100],[80,117,116],[],[108,111,111,107,46],[48],[109,111,118]]
theorem no_swap {x y:List Nat} (hx:x=wM∨x=wP∨x=wL) (hy:y∈othW):∀mv pt lk,¬SyT (ws.map fun w=>if w=x then y else w) mv pt lk:=no_name hx fun z=>by
 obtain ⟨w,_,e⟩:=List.mem_map.mp z
 by_cases h:w=x
 ·rw[if_pos h] at e
  subst e
  have:wM∉othW∧wP∉othW∧wL∉othW:=by decide
  rcases hx with rfl | rfl | rfl
  ·exact this.1 hy
  ·exact this.2.1 hy
  ·exact this.2.2 hy
 ·rw[if_neg h] at e;exact h e
theorem map_all {f:List Nat->List Nat} {P:List Nat->Prop} (h:∀w∈ws,P (f w)):∀w∈ws.map f,P w:=fun w hw=>by
 obtain ⟨v,mv,rfl⟩:=List.mem_map.mp hw
 exact h v mv
def trn (w:List Nat):List Nat:=if w=wM then wL else if w=wL then wM else w
theorem no_trn (s:SyT ws mv pt lk):∀mv pt lk,¬SyT (ws.map trn) mv pt lk:=fun mv' pt' lk' s'=>by
 have:=sys_3 s'
 rw[List.getElem?_map,sys_3 s] at this
 exact absurd this (by decide)
theorem trn_or {P:List Nat->Prop} {w:List Nat} (h1:P wM) (h2:P wL) (h:P w):P (trn w):=by
 unfold trn
 split
 ·exact h2
 ·split
  ·exact h1
  ·exact h
theorem no_sign {w:List Nat} (hw:w∈ws) (h:10∈w):∀mv pt lk,¬SyT ws mv pt lk:=fun mv pt lk ⟨_,e⟩=>by
 rw[e] at hw
 have gd:∀{g:List (List Rat)},w∈gw g->False:=fun {g} z=>by
  obtain ⟨n,vn,e⟩:=gr_num z
  exact sign_num h (by unfold BadS;lia) n vn e
 have dg:∀m,w=digs m->False:=fun m z=>by rw[z] at h;have:=digs_all m 10 h;lia
 unfold sysW at hw
 simp only[List.cons_append,List.nil_append,List.mem_cons,List.mem_append] at hw
 rcases hw with z | z | z | z | hw
 ·exact dg _ z
 ·exact dg _ z
 ·exact dg _ z
 ·rw[z] at h;revert h;decide
 ·rcases hw with (z | z | z) | z | z
  ·exact gd z
  ·rw[z] at h;revert h;decide
  ·exact gd z
  ·rw[z] at h;revert h;decide
  ·exact gd z
def dbl:List (List Nat)->List (List Nat)
 | []=>[]
 | [w]=>[w]
 | w :: x :: r=>w :: [] :: dbl (x :: r)
theorem dbl_all {P:List Nat->Prop} (h0:P []):∀{ws:List (List Nat)},(∀w∈ws,P w)->∀w∈dbl ws,P w
 | [],_=>by intro w hw;cases hw
 | [x],h=>h
 | x :: y :: r,h=>by
  intro w hw
  have:=dbl_all h0 (ws:=y :: r) (fun w hw=>h w (List.mem_cons_of_mem _ hw))
  rcases List.mem_cons.mp hw with rfl | hw
  ·exact h _ (List.mem_cons_self ..)
  ·rcases List.mem_cons.mp hw with rfl | hw
   ·exact h0
   ·exact this w hw
theorem dbl_nil {x y:List Nat} {r:List (List Nat)}:[]∈dbl (x :: y :: r):=List.mem_cons_of_mem _ (List.mem_cons_self ..)
end
inductive sp_bs3 (K:PySem.W.Frag) (vs:List V) (H:Hp) (Q:VK) (E9:XK):Prop
 | mk (b r:Addr) (H0:Hp) (mv pt lk:List (List Rat)):vs=[.ref b,.ref r]->Bag H b->PartsQ K H0 H r mv pt lk->SysD mv pt lk->GOk mv->GOk pt->GOk lk->(∀w∈sysW mv pt lk,w.length<=650)->(∀l H',(∃ws,Rf l ws 2)->Bag H' b->Upto b H H'->Q (.str (sl l)) H')->sp_bs3 K vs H Q E9
end L2
namespace L2
open PySem PySem.Spec PySem.NumText PyProof.Rows Nm
section
variable {ws:List (List Nat)} {mv pt lk:List (List Rat)}
theorem sl_join2:∀ws:List (List Nat),Str.join (sl [32,32]) (ws.map sl)=sl (joinL 32 (dbl ws))
 | []=>rfl
 | [x]=>rfl
 | x :: y :: r=>by
  have ih:=sl_join2 (y :: r)
  have e:joinL 32 (dbl (x :: y :: r))=x++[32,32]++joinL 32 (dbl (y :: r)):=by
   have:∃a b,dbl (y :: r)=a :: b:=by cases r with
    | nil=>exact ⟨_,_,rfl⟩
    | cons z r=>exact ⟨_,_,rfl⟩
   obtain ⟨a,b,e⟩:=this
   show joinL 32 (x :: [] :: dbl (y :: r))=_
   rw[e]
   show x++32 :: ([]++32 :: joinL 32 (a :: b))=_
   simp
  rw[e,← sl_app,← sl_app,← ih]
  rfl
theorem dbl_len:∀{ws:List (List Nat)},(∀w∈ws,w.length<=650)->(joinL 32 (dbl ws)).length<=ws.length*652
 | [],_=>Nat.zero_le _
 | [x],h=>by
  have:=h x (by simp)
  show x.length<=1*652
  lia
 | x :: y :: r,h=>by
  have ih:=dbl_len (ws:=y :: r) (fun w hw=>h w (List.mem_cons_of_mem _ hw))
  have:=h x (by simp)
  have e:=congrArg List.length (sl_inj ((sl_join2 (x :: y :: r)).symm.trans (show _=sl (x++[32,32]++joinL 32 (dbl (y :: r))) by rw[← sl_app,← sl_app,← sl_join2];rfl)))
  rw[e,List.length_append,List.length_append]
  simp only[List.length_cons,List.length_nil] at ih ⊢
  lia
theorem end_word (h:2<=ws.length):∃A w,A≠[]∧ws=A++[w]∧joinL 32 ws++[10]=joinL 32 (A++[w++[10]]):=by
 have ne:ws≠[]:=fun z=>by rw[z] at h;cases h
 have e:=List.dropLast_concat_getLast ne
 have a0:ws.dropLast≠[]:=fun z=>by
  have:=congrArg List.length z
  rw[List.length_dropLast,List.length_nil] at this
  lia
 refine ⟨ws.dropLast,ws.getLast ne,a0,e.symm,?_⟩
 rw[join_app a0 (List.cons_ne_nil _ _)]
 conv=>lhs;rw[← e,join_app a0 (List.cons_ne_nil _ _)]
 show (joinL 32 ws.dropLast++32 :: ws.getLast ne)++[10]=joinL 32 ws.dropLast++32 :: (ws.getLast ne++[10])
 simp
def oddA:List (List (List Nat)):=[[[]],[[],[]],[wM,wP,wL],[[48]],[[48],[48]],[[48],[48],[48]],[[49],[49],[49],wM]]
theorem oddA_V:[V.str (Str.ofString ""),V.str (Str.ofString " "),V.str (Str.ofString "move put look"),V.str (Str.ofString "0"),V.str (Str.ofString "0 0"),V.str (Str.ofString "0 0 0"),V.str (Str.ofString "1 1 1 move")]=stL (oddA.map (joinL 32)):=by with_unfolding_all rfl
theorem oddA_no {x:List (List Nat)} (h:x∈oddA):∃ws,Rf (joinL 32 x) ws 2:=by
 have:oddA.all (fun x=>decide (x.length < 6) && !x.isEmpty && x.all fun w=>decide (w.length<=10) && !w.contains 32)=true:=by decide +kernel
 have:=List.all_eq_true.mp this x h
 simp only[Bool.and_eq_true,decide_eq_true_eq,Bool.not_eq_true',List.isEmpty_eq_false_iff,List.all_eq_true] at this
 obtain ⟨⟨a,b⟩,c⟩:=this
 exact rf_ws (fun w hw=>Nat.le_trans (c w hw).1 (by decide)) (by lia) b (fun w hw z=>by have:=(c w hw).2;simp at this;exact this z) (no_short a)
theorem odd_all {v:V} (wl:∀w∈ws,w.length<=650) (w32:∀w∈ws,32∉w) (l0:6<=ws.length) (l1:ws.length<=134) (h:v∈stL (oddA.map (joinL 32))++[.str (sl ([32]++joinL 32 ws)),.str (sl (joinL 32 ws++[32]))]++[.str (sl (joinL 32 ws++[10])),.str (sl (joinL 32 (dbl ws)))]):∃l,v=.str (sl l)∧∃ws,Rf l ws 2:=by
 have ne:ws≠[]:=fun z=>by rw[z] at l0;cases l0
 have g0:goodW []=false:=by decide +kernel
 have wl':∀w∈ws,w.length<=660:=fun w hw=>Nat.le_trans (wl w hw) (by decide)
 simp only[List.mem_append,List.mem_cons,List.not_mem_nil,or_false] at h
 rcases h with (h | rfl | rfl) | rfl | rfl
 ·obtain ⟨w,hw,rfl⟩:=List.mem_map.mp h
  obtain ⟨x,hx,rfl⟩:=List.mem_map.mp hw
  exact ⟨_,rfl,oddA_no hx⟩
 ·refine ⟨_,rfl,?_⟩
  rw[show [32]++joinL 32 ws=joinL 32 ([[]]++ws) by rw[join_app (List.cons_ne_nil _ _) ne];rfl]
  refine rf_ws (fun w hw=>?_) (by show ws.length+1<=_;lia) (List.cons_ne_nil _ _) (fun w hw=>?_) (no_sys (w:=[]) (List.mem_cons_self ..) g0)
  ·rcases List.mem_cons.mp hw with rfl | hw
   ·exact Nat.zero_le _
   ·exact wl' w hw
  ·rcases List.mem_cons.mp hw with rfl | hw
   ·exact List.not_mem_nil
   ·exact w32 w hw
 ·refine ⟨_,rfl,?_⟩
  rw[show joinL 32 ws++[32]=joinL 32 (ws++[[]]) by rw[join_app ne (List.cons_ne_nil _ _)];rfl]
  refine rf_ws (fun w hw=>?_) (by rw[List.length_append];show _+1<=_;lia) (by simp) (fun w hw=>?_) (no_sys (w:=[]) (by simp) g0)
  ·rcases List.mem_append.mp hw with hw | hw
   ·exact wl' w hw
   ·rw[List.mem_singleton.mp hw];exact Nat.zero_le _
  ·rcases List.mem_append.mp hw with hw | hw
   ·exact w32 w hw
   ·rw[List.mem_singleton.mp hw];exact List.not_mem_nil
 ·refine ⟨_,rfl,?_⟩
  obtain ⟨A,w,a0,e,j⟩:=end_word (ws:=ws) (by lia)
  rw[j]
  have lA:A.length+1=ws.length:=by rw[e,List.length_append];rfl
  refine rf_ws (fun v hv=>?_) (by rw[List.length_append];show _+1<=_;lia) (by simp) (fun v hv=>?_) (no_sign (w:=w++[10]) (by simp) (by simp))
  ·rcases List.mem_append.mp hv with hv | hv
   ·exact wl' v (by rw[e];exact List.mem_append_left _ hv)
   ·rw[List.mem_singleton.mp hv,List.length_append]
    have:=wl w (by rw[e];simp)
    show _+1<=_
    lia
  ·rcases List.mem_append.mp hv with hv | hv
   ·exact w32 v (by rw[e];exact List.mem_append_left _ hv)
   ·rw[List.mem_singleton.mp hv]
    have:=w32 w (by rw[e];simp)
    simp [this]
 ·refine ⟨_,rfl,rf_sys (ws:=dbl ws) rfl (Nat.le_trans (dbl_len wl) (Nat.le_trans (Nat.mul_le_mul_right _ l1) (by decide))) (dbl_all (P:=fun w=>w.length<=1000) (Nat.zero_le _) fun w hw=>Nat.le_trans (wl w hw) (by decide)) ?_ (dbl_all (P:=fun w=>32∉w) List.not_mem_nil w32) ?_⟩
  ·match ws,l0 with
   | x :: y :: r,_=>exact List.cons_ne_nil _ _
  ·match ws,l0 with
   | x :: y :: r,_=>exact no_sys dbl_nil g0
end
end L2
namespace L2
open PySem PySem.Spec PyProof.Rows Nm
def rJoin2:V->List V->Hp->VK->Prop:=fun x vs H Q=>∃(a:Str) (p:Addr) (xs:List Str),x=.str a∧vs=[.ref p]∧a.length<=2∧H p=some (.lst (xs.map V.str))∧xs.length<=1000∧(∀y∈xs,y.length<=10000)∧Q (.str (Str.join a xs)) H
theorem mt_join2 {X:Cx}:MtM X "str.join" rJoin2:=by
 intro pins s σ H x vs v us Q I rx rv h
 obtain ⟨a,p,xs,rfl,rfl,ha,hp,hx,hy,q⟩:=h
 obtain ⟨t,rfl⟩:=rx
 obtain ⟨u,rfl,ru⟩:=rv.one
 cases ru
 obtain ⟨z,its,n,r,hl,e⟩:=I.lstM hp
 obtain ⟨l,rfl,el⟩:=vals_strs r
 refine call_meets F.slot_str_join (typeIs_str _ _ _) F.entry_str_join (F.args_str_join_2 _ _) (meets_str_join_list a t p l ?_) ⟨PySem.IsL.isList e,?_⟩
 ·rw[el]
  have:=PySem.StrLaws.joinFits (sep:=a) (texts:=xs) (B:=10000) hy (by
   have:xs.length*10000<=1000*10000:=Nat.mul_le_mul_right _ hx
   have:xs.length*a.length<=1000*2:=Nat.mul_le_mul hx ha
   lia)
  exact this
 ·have eg:Builtin.Str.glued a (l.map (·.1))=Str.join a xs:=by rw[PySem.StrLaws.glued_eq_join,el]
  have hs:(Str.join a xs).length<=sizeLine:=by
   have h1:=PySem.StrLaws.join_length_le a xs
   have h2:∀l:List Str,(∀y∈l,y.length<=10000)->(l.map (·.length)).sum<=l.length*10000:=fun l hl=>by
    induction l with
    | nil=>exact Nat.le_refl _
    | cons y l ih =>
     have:=ih fun z hz=>hl z (List.mem_cons_of_mem _ hz)
     have:=hl y (List.mem_cons_self ..)
     rw[List.map_cons,List.sum_cons,List.length_cons]
     lia
   have h3:=h2 xs hy
   have:xs.length*a.length<=1000*2:=Nat.mul_le_mul hx ha
   have h4:(10002000:Nat)<=sizeLine:=by rw[sizeLine_eq];decide
   lia
  match l,el,eg with
  | [pp],el,eg =>
   refine ⟨.str pp.1,H,I,⟨pp.2,rfl⟩,?_⟩
   rw[show pp.1=Str.join a xs by rw[← el];rfl]
   exact q
  | [],el,eg=>exact ⟨by rw[eg];exact hs,⟨.str _,H,I.tok _,⟨_,rfl⟩,by rw[eg];exact q⟩⟩
  | _ :: _ :: _,el,eg=>exact ⟨by rw[eg];exact hs,⟨.str _,H,I.tok _,⟨_,rfl⟩,by rw[eg];exact q⟩⟩
end L2
namespace L2
open PySem PySem.Spec PySem.NumText PyProof.Rows Nm
theorem othW_V:[V.str (Str.ofString "moved"),V.str (Str.ofString "Put"),V.str (Str.ofString ""),V.str (Str.ofString "look."),V.str (Str.ofString "0"),V.str (Str.ofString "mov")]=stL othW:=by with_unfolding_all rfl
end L2
namespace L2
open PySem PySem.Spec PyProof.Rows Nm
variable {X:Cx} {o e f:Expr} {apos cpos:Pos} {td ty tx:TE}
theorem pe_dgetO (hu:X.A.units+50 < cLine) (ho:PE X o td) (he:PE X e ty) (hf:PE X f tx) (m:M2 X o "get" apos e f cpos):PE X (.Call (.Attribute o "get" apos) [e,f] [] cpos) (tDGet2 td ty tx):=pe_dget2 (by lia) ho he hf m
end L2
namespace L2
open PySem PySem.Spec PyProof.Rows Nm
def trnD:List (Key×V):=[(.inr (Str.ofString "move"),.str (Str.ofString "look")),(.inr (Str.ofString "look"),.str (Str.ofString "move"))]
theorem trnD_m:mergeK [] trnD=[(.inr (sl wM),.str (sl wL)),(.inr (sl wL),.str (sl wM))]:=by with_unfolding_all rfl
theorem trnD_get (w:List Nat):(valV (mergeK [] trnD) (.inr (sl w))).getD (.str (sl w))=.str (sl (trn w)):=by
 rw[trnD_m]
 unfold trn
 by_cases h:w=wM
 ·rw[if_pos h,valV_pos (by rw[h])];rfl
 ·have h':¬((.inr (sl wM):Key)=.inr (sl w)):=fun z=>h (sl_inj (Sum.inr.inj z)).symm
  rw[if_neg h,valV_neg h']
  by_cases g:w=wL
  ·rw[if_pos g,valV_pos (by rw[g])];rfl
  ·have g':¬((.inr (sl wL):Key)=.inr (sl w)):=fun z=>g (sl_inj (Sum.inr.inj z)).symm
   rw[if_neg g,valV_neg g',valV_nil];rfl
theorem st_at {W:List (List Nat)} {i:Nat} {v:V} (hv:(stL W)[i]?=some v):∃w,W[i]?=some w∧v=.str (sl w):=by
 unfold stL at hv
 rw[List.getElem?_map] at hv
 cases e:W[i]? with
 | none=>rw[e] at hv;cases hv
 | some w=>rw[e] at hv;exact ⟨w,rfl,(Option.some.inj hv).symm⟩
end L2
namespace L2
open PySem PySem.Spec PySem.NumText PyProof.Rows Nm
theorem fr_word {M V:Nat} {x:Rat} (h0:0 < M) (h1:M<=2^800) (h2:V<=2^400) (h:Fr M V x):(numT (nm x)).length<=650:=by
 refine Nat.le_trans (numT_len (n:=nm x) (a:=363) (b:=240) ?_ ?_) (by decide)
 ·exact Nat.lt_of_le_of_lt (h.num_le h0) (Nat.lt_of_le_of_lt (Nat.mul_le_mul h2 h1) (by decide +kernel))
 ·show ((x.den:Nat):Int).natAbs < _
  rw[Int.natAbs_natCast]
  exact Nat.lt_of_le_of_lt (h.den_le h0) (Nat.lt_of_le_of_lt h1 (by decide +kernel))
theorem sf_word {mv pt lk:List (List Rat)} (D:SysD mv pt lk) (F:SFits mv pt lk):∀w∈sysW mv pt lk,w.length<=650:=fun w hw=>by
 obtain ⟨M,V,h0,h1,h2,f1,f2,f3⟩:=F
 have gd:∀{g:List (List Rat)},GF M V g->w∈gw g->w.length<=650:=fun {g} f z=>by
  unfold gw at z
  obtain ⟨q,hq,rfl⟩:=List.mem_map.mp z
  obtain ⟨xs,hx,hq⟩:=List.mem_flatten.mp hq
  exact fr_word h0 h1 h2 (f xs hx q hq)
 have dg:∀m,m<=8->(digs m).length<=650:=fun m h=>Nat.le_trans (digs_short (by lia)) (by decide)
 have n8:=D.n8
 have i4:=D.i4
 have o4:=D.o4
 unfold sysW at hw
 simp only[List.cons_append,List.nil_append,List.mem_cons,List.mem_append] at hw
 rcases hw with rfl | rfl | rfl | rfl | hw
 ·exact dg _ n8
 ·exact dg _ (by lia)
 ·exact dg _ (by lia)
 ·decide
 ·rcases hw with (h | h | h) | h | h
  ·exact gd f1 h
  ·rw[h];decide
  ·exact gd f2 h
  ·rw[h];decide
  ·exact gd f3 h
end L2
namespace L2
open PySem PySem.Spec PySem.NumText PyProof.Rows Nm
theorem passN {X:Cx} {P:Program} {w:World}:Passes (CXE P w) X E0:=by
 rintro pins σ H1 s1 e s' I ⟨ea,t,cls,dx,H',B,rfl,F,hE⟩
 exact hE.elim
inductive sp_ri3 (K:PySem.W.Frag) (C:Addr) (vs:List V) (H:Hp) (Q:VK) (E9:XK):Prop
 | mk (x:V) (r t:Addr) (n:Int×Int) (ns:List (Int×Int)) (H0:Hp) (mv pt lk:List (List Rat)):vs=[x,.ref r,.ref t]->NumR K H x n->Vn n->NumOk n->(numT n).length<=60->RowK K H r ns->ns.length<=5->(∀n∈ns,Vn n∧NumOk n∧(numT n).length<=60)->PartsQ K H0 H t mv pt lk->SysD mv pt lk->GOk mv->GOk pt->GOk lk->(∀w∈sysW mv pt lk,w.length<=650)->(∀H',Same H H'->Q (.bl true) H')->sp_ri3 K C vs H Q E9
end L2
namespace L2
open PySem PySem.Spec PySem.NumText PyProof.Rows Nm
theorem rowq_k {K:PySem.W.Frag} {H:Hp} {p:Addr} {qs:List Rat} (h:RowQ K H p qs):RowK K H p (qs.map nm):=by
 obtain ⟨xs,g,r⟩:=h
 refine ⟨xs,g,?_⟩
 clear g
 induction r with
 | nil=>exact .nil
 | cons a _ ih=>exact .cons a ih
theorem dr_all {x:Rat} (h:Dr (max 9 6) x):Vn (nm x)∧NumOk (nm x)∧(numT (nm x)).length<=60:=by
 have l:=dr_len (x:=x) ⟨Nat.le_trans h.1 (by decide),Nat.le_trans h.2 (by decide)⟩
 exact ⟨vn_nm x,vn_ok (vn_nm x) (Nat.le_trans l (by decide)),l⟩
end L2
open L2
local macro_rules | `(tactic| walk_at "hl") => `(tactic| first | (show _ ≤ sizeLine; with_unfolding_all decide) | (with_unfolding_all exact (by decide)))
local macro_rules | `(tactic| walk_at "sq") => `(tactic| first | with_reducible assumption | with_reducible exact SqT.of (by assumption) | with_reducible exact SqL.of (by assumption) | with_reducible exact SqT.of upd_same | with_reducible exact SqL.of upd_same | assumption)
local macro_rules | `(tactic| walk_at "sc") => `(tactic| first | (with_reducible show (0 : Int) < _; decide) | with_reducible exact cmulS_r (by decide) (by decide) | with_reducible exact cmulS_l (by decide) (by decide) | with_reducible exact cpow_of (by decide) (by decide) (by decide))
local macro_rules | `(tactic| walk_at "rd") => `(tactic| first
  | with_reducible refine rd_seq ?_
  | with_reducible refine rd_next ?_
  | with_reducible refine rd_asg ?_
  | with_reducible refine rd_gname ?_
  | ((with_reducible refine' rd_var ?hx1 ?_); (case hx1 => with_unfolding_all rfl))
  | with_reducible refine rd_c ?_
  | with_reducible refine rd_op ?_
  | with_reducible refine rd_I0 ?_
  | with_reducible refine rd_un ?_
  | with_reducible refine rd_U ?_
  | with_reducible refine rd_eqI ?_
  | with_reducible refine rd_neI ?_
  | with_reducible refine rd_eqS ?_
  | with_reducible refine rd_neS ?_
  | with_reducible refine rd_eqB ?_
  | with_reducible refine rd_neB ?_
  | with_reducible refine rd_iZip ?_
  | with_reducible refine rd_listZip ?_
  | with_reducible refine rd_fld ?_
  | with_reducible refine rd_sfld ?_
  | with_reducible refine rd_meth ?_
  | with_reducible refine rd_make ?_
  | with_reducible refine rd_iEnum ?_
  | with_reducible refine rd_test ?_
  | with_reducible refine rd_tB ?_
  | with_reducible refine rd_ret ?_
  | with_reducible refine rd_retN ?_
  | with_reducible refine rd_ifS ?_
  | with_reducible refine rd_and ?_
  | with_reducible refine rd_or ?_
  | with_reducible refine rd_not ?_
  | with_reducible refine rd_andV ?_
  | with_reducible refine rd_orV ?_
  | with_reducible refine rd_notV ?_
  | with_reducible refine rd_ifE ?_
  | with_reducible refine rd_yes ?_
  | with_reducible refine iteF ?_
  | with_reducible refine iteT ?_
  | with_reducible refine iteNT ?_
  | with_reducible refine iteNF ?_
  | with_reducible refine rd_wb ?_
  | with_reducible refine rd_nil ?_
  | with_reducible refine rd_cons ?_
  | with_reducible refine rd_tup ?_
  | with_reducible refine rd_lst ?_
  | with_reducible refine rd_call ?_
  | with_reducible refine rd_cb ?_
  | with_reducible refine rd_drop ?_
  | with_reducible refine rd_par ?_
  | with_reducible refine rd_augS ?_
  | ((with_reducible refine' rd_aug ?hx1 ?_); (case hx1 => with_unfolding_all rfl))
  | with_reducible refine rd_ipI ?_
  | with_reducible refine rd_gsub ?_
  | with_reducible refine rd_gcons ?_
  | with_reducible refine rd_gnil ?_
  | with_reducible refine rd_sl ?_
  | with_reducible refine rd_noPart ?_
  | with_reducible refine rd_part ?_
  | with_reducible refine rd_for ?_
  | with_reducible refine rd_iList ?_
  | with_reducible refine rd_iTup ?_
  | with_reducible refine rd_iRng1 ?_
  | with_reducible refine rd_iRng2 ?_
  | ((with_reducible refine' rd_comp ?hx1 ?_); (case hx1 => with_unfolding_all rfl))
  | with_reducible refine rd_turn ?_
  | with_reducible refine rd_bm ?_
  | with_reducible refine rd_bm0 ?_
  | with_reducible refine rd_brk ?_
  | ((with_reducible refine' rd_gtup ?hx1 ?hx2 ?_); (case hx1 => walk_at "sq"); (case hx2 => with_unfolding_all rfl))
  | with_reducible refine rd_cont ?_
  | ((with_reducible refine' rd_I ?hx1 ?_); (case hx1 => walk_at "sc"))
  | ((with_reducible refine' rd_ixT ?hx1 ?hx2 ?_); (case hx1 => walk_at "sq"); (case hx2 => with_unfolding_all rfl))
  | ((with_reducible refine' rd_ixL ?hx1 ?hx2 ?_); (case hx1 => walk_at "sq"); (case hx2 => with_unfolding_all rfl))
  | ((with_reducible refine' rd_getL ?hx1 ?hx2 ?_); (case hx1 => walk_at "sq"); (case hx2 => with_unfolding_all rfl))
  | ((with_reducible refine' rd_setL ?hx1 ?hx2 ?hx3 ?_); (case hx1 => with_reducible first | assumption | exact upd_same); (case hx2 => with_unfolding_all rfl); (case hx3 => with_unfolding_all rfl))
  | with_reducible refine ⟨_, rfl, ?_⟩
  | with_reducible refine ⟨_, _, rfl, ?_⟩)
local macro_rules | `(tactic| walk_at "w") => `(tactic| repeat walk_at "rd")
namespace Lw
open PySem PySem.Spec PyProof.Rows L2 Nm
set_option maxHeartbeats 4000000
def top (i:Nat):Stmt:=PySem.Challenge.pw_helmsum_k93_texts_refused.main.body.getD i (.Pass ⟨0,0,0,0⟩)
abbrev s__law_bag:Stmt:=top 45
abbrev s__law_take:Stmt:=top 46
abbrev s__law_sizes:Stmt:=top 57
abbrev s__law_low:Stmt:=top 47
abbrev s__law_number:Stmt:=top 50
abbrev s__law_row:Stmt:=top 51
abbrev s__law_move:Stmt:=top 54
abbrev s__law_sum:Stmt:=top 48
abbrev s__law_plus:Stmt:=top 52
abbrev s__law_prod:Stmt:=top 49
abbrev s__law_by:Stmt:=top 53
abbrev s__law_mixed:Stmt:=top 55
abbrev s__law_parts:Stmt:=top 56
abbrev s__law_drawn:Stmt:=top 62
abbrev s_read_whole:Stmt:=top 37
abbrev s_read_top:Stmt:=top 38
abbrev s_common_divisor:Stmt:=top 15
abbrev s_read_number:Stmt:=top 39
abbrev s__law_number_text:Stmt:=top 63
abbrev s_words_in:Stmt:=top 36
abbrev s_read_row:Stmt:=top 40
abbrev s__law_row_text:Stmt:=top 64
abbrev s__law_is_number:Stmt:=top 58
abbrev s__law_is_row:Stmt:=top 59
abbrev s__law_is_grid:Stmt:=top 60
abbrev s__law_fields:Stmt:=top 61
abbrev s_read_size:Stmt:=top 41
abbrev s_cut:Stmt:=top 26
abbrev s_read_rows:Stmt:=top 42
abbrev s_want_list:Stmt:=top 31
abbrev s_is_whole:Stmt:=top 14
abbrev s_is_number:Stmt:=top 17
abbrev s_is_row:Stmt:=top 20
abbrev s_copied_rows:Stmt:=top 32
abbrev s_System___init__:Stmt:=inClass (top 33) 0
abbrev s_read_system:Stmt:=top 43
abbrev s__law_system_text:Stmt:=top 65
abbrev s__law_right_ones:Stmt:=top 73
abbrev s__law_odd:Stmt:=top 69
abbrev s__law_bad_number:Stmt:=top 67
abbrev s__law_bad_row:Stmt:=top 70
abbrev s__law_bad_sizes:Stmt:=top 71
abbrev s__law_bad_system:Stmt:=top 72
abbrev s__law_strewn:Stmt:=top 68
abbrev s__law_refused:Stmt:=top 66
abbrev s_law:Stmt:=top 74
set_option genInjectivity false in
set_option genSizeOf false in
structure Ads where
 a__law_bag:Addr
 d__law_bag:FuncData
 a__law_take:Addr
 d__law_take:FuncData
 a__law_sizes:Addr
 d__law_sizes:FuncData
 a__law_low:Addr
 d__law_low:FuncData
 a__law_number:Addr
 d__law_number:FuncData
 a__law_row:Addr
 d__law_row:FuncData
 a__law_move:Addr
 d__law_move:FuncData
 a__law_sum:Addr
 d__law_sum:FuncData
 a__law_plus:Addr
 d__law_plus:FuncData
 a__law_prod:Addr
 d__law_prod:FuncData
 a__law_by:Addr
 d__law_by:FuncData
 a__law_mixed:Addr
 d__law_mixed:FuncData
 a__law_parts:Addr
 d__law_parts:FuncData
 a__law_drawn:Addr
 d__law_drawn:FuncData
 a_read_whole:Addr
 d_read_whole:FuncData
 a_read_top:Addr
 d_read_top:FuncData
 a_common_divisor:Addr
 d_common_divisor:FuncData
 a_read_number:Addr
 d_read_number:FuncData
 a__law_number_text:Addr
 d__law_number_text:FuncData
 a_words_in:Addr
 d_words_in:FuncData
 a_read_row:Addr
 d_read_row:FuncData
 a__law_row_text:Addr
 d__law_row_text:FuncData
 a__law_is_number:Addr
 d__law_is_number:FuncData
 a__law_is_row:Addr
 d__law_is_row:FuncData
 a__law_is_grid:Addr
 d__law_is_grid:FuncData
 a__law_fields:Addr
 d__law_fields:FuncData
 a_read_size:Addr
 d_read_size:FuncData
 a_cut:Addr
 d_cut:FuncData
 a_read_rows:Addr
 d_read_rows:FuncData
 a_want_list:Addr
 d_want_list:FuncData
 a_is_whole:Addr
 d_is_whole:FuncData
 a_is_number:Addr
 d_is_number:FuncData
 a_is_row:Addr
 d_is_row:FuncData
 a_copied_rows:Addr
 d_copied_rows:FuncData
 a_System___init__:Addr
 d_System___init__:FuncData
 a_read_system:Addr
 d_read_system:FuncData
 a__law_system_text:Addr
 d__law_system_text:FuncData
 a__law_right_ones:Addr
 d__law_right_ones:FuncData
 a__law_odd:Addr
 d__law_odd:FuncData
 a__law_bad_number:Addr
 d__law_bad_number:FuncData
 a__law_bad_row:Addr
 d__law_bad_row:FuncData
 a__law_bad_sizes:Addr
 d__law_bad_sizes:FuncData
 a__law_bad_system:Addr
 d__law_bad_system:FuncData
 a__law_strewn:Addr
 d__law_strewn:FuncData
 a__law_refused:Addr
 d__law_refused:FuncData
 a_law:Addr
 d_law:FuncData
 t_MOST_STATES:Tok
 t_MOST_PUTS:Tok
 t_MOST_LOOKS:Tok
 t_FIGURES:Tok
 a_System:Addr
 a_SumError:Addr
 a_Wrong:Addr
 a_NoThing:Addr
 a_TooMany:Addr
 a_NoNumber:Addr
 a_NoFit:Addr
 a_NotSteered:Addr
 a_NotSeen:Addr
 a_NoText:Addr
 a_NoName:Addr
 a_Taken:Addr
structure Txt (K:PySem.W.Frag) (mg:Str->Option Value) (Z:Ads):Prop where
 mg__law_bag:mg "_law_bag"=some (.ref Z.a__law_bag)
 b__law_bag:Binds K Z.d__law_bag ["_law_script"] []
 F__law_bag:Fun K "_law_bag" "_law_bag" s__law_bag Z.a__law_bag Z.d__law_bag
 mg__law_take:mg "_law_take"=some (.ref Z.a__law_take)
 b__law_take:Binds K Z.d__law_take ["_law_bag_here","_law_many"] []
 F__law_take:Fun K "_law_take" "_law_take" s__law_take Z.a__law_take Z.d__law_take
 mg__law_sizes:mg "_law_sizes"=some (.ref Z.a__law_sizes)
 b__law_sizes:Binds K Z.d__law_sizes ["_law_bag_here"] []
 F__law_sizes:Fun K "_law_sizes" "_law_sizes" s__law_sizes Z.a__law_sizes Z.d__law_sizes
 mg__law_low:mg "_law_low"=some (.ref Z.a__law_low)
 b__law_low:Binds K Z.d__law_low ["_law_top","_law_bottom"] []
 F__law_low:Fun K "_law_low" "_law_low" s__law_low Z.a__law_low Z.d__law_low
 mg__law_number:mg "_law_number"=some (.ref Z.a__law_number)
 b__law_number:Binds K Z.d__law_number ["_law_bag_here","_law_wide"] []
 F__law_number:Fun K "_law_number" "_law_number" s__law_number Z.a__law_number Z.d__law_number
 mg__law_row:mg "_law_row"=some (.ref Z.a__law_row)
 b__law_row:Binds K Z.d__law_row ["_law_bag_here","_law_many","_law_wide"] []
 F__law_row:Fun K "_law_row" "_law_row" s__law_row Z.a__law_row Z.d__law_row
 mg__law_move:mg "_law_move"=some (.ref Z.a__law_move)
 b__law_move:Binds K Z.d__law_move ["_law_bag_here","_law_n","_law_way","_law_first","_law_wide"] []
 F__law_move:Fun K "_law_move" "_law_move" s__law_move Z.a__law_move Z.d__law_move
 mg__law_sum:mg "_law_sum"=some (.ref Z.a__law_sum)
 b__law_sum:Binds K Z.d__law_sum ["_law_one","_law_other"] []
 F__law_sum:Fun K "_law_sum" "_law_sum" s__law_sum Z.a__law_sum Z.d__law_sum
 mg__law_plus:mg "_law_plus"=some (.ref Z.a__law_plus)
 b__law_plus:Binds K Z.d__law_plus ["_law_one","_law_other"] []
 F__law_plus:Fun K "_law_plus" "_law_plus" s__law_plus Z.a__law_plus Z.d__law_plus
 mg__law_prod:mg "_law_prod"=some (.ref Z.a__law_prod)
 b__law_prod:Binds K Z.d__law_prod ["_law_one","_law_other"] []
 F__law_prod:Fun K "_law_prod" "_law_prod" s__law_prod Z.a__law_prod Z.d__law_prod
 mg__law_by:mg "_law_by"=some (.ref Z.a__law_by)
 b__law_by:Binds K Z.d__law_by ["_law_factor","_law_row_here"] []
 F__law_by:Fun K "_law_by" "_law_by" s__law_by Z.a__law_by Z.d__law_by
 mg__law_mixed:mg "_law_mixed"=some (.ref Z.a__law_mixed)
 b__law_mixed:Binds K Z.d__law_mixed ["_law_bag_here","_law_move_here","_law_put","_law_look"] []
 F__law_mixed:Fun K "_law_mixed" "_law_mixed" s__law_mixed Z.a__law_mixed Z.d__law_mixed
 mg__law_parts:mg "_law_parts"=some (.ref Z.a__law_parts)
 b__law_parts:Binds K Z.d__law_parts ["_law_bag_here","_law_n","_law_ins","_law_outs","_law_wide"] []
 F__law_parts:Fun K "_law_parts" "_law_parts" s__law_parts Z.a__law_parts Z.d__law_parts
 mg__law_drawn:mg "_law_drawn"=some (.ref Z.a__law_drawn)
 b__law_drawn:Binds K Z.d__law_drawn ["_law_bag_here"] []
 F__law_drawn:Fun K "_law_drawn" "_law_drawn" s__law_drawn Z.a__law_drawn Z.d__law_drawn
 mg_read_whole:mg "read_whole"=some (.ref Z.a_read_whole)
 b_read_whole:Binds K Z.d_read_whole ["text"] []
 F_read_whole:Fun K "read_whole" "read_whole" s_read_whole Z.a_read_whole Z.d_read_whole
 mg_read_top:mg "read_top"=some (.ref Z.a_read_top)
 b_read_top:Binds K Z.d_read_top ["text"] []
 F_read_top:Fun K "read_top" "read_top" s_read_top Z.a_read_top Z.d_read_top
 mg_common_divisor:mg "common_divisor"=some (.ref Z.a_common_divisor)
 b_common_divisor:Binds K Z.d_common_divisor ["one","other"] []
 F_common_divisor:Fun K "common_divisor" "common_divisor" s_common_divisor Z.a_common_divisor Z.d_common_divisor
 mg_read_number:mg "read_number"=some (.ref Z.a_read_number)
 b_read_number:Binds K Z.d_read_number ["text"] []
 F_read_number:Fun K "read_number" "read_number" s_read_number Z.a_read_number Z.d_read_number
 mg__law_number_text:mg "_law_number_text"=some (.ref Z.a__law_number_text)
 b__law_number_text:Binds K Z.d__law_number_text ["_law_one"] []
 F__law_number_text:Fun K "_law_number_text" "_law_number_text" s__law_number_text Z.a__law_number_text Z.d__law_number_text
 mg_words_in:mg "words_in"=some (.ref Z.a_words_in)
 b_words_in:Binds K Z.d_words_in ["text"] []
 F_words_in:Fun K "words_in" "words_in" s_words_in Z.a_words_in Z.d_words_in
 mg_read_row:mg "read_row"=some (.ref Z.a_read_row)
 b_read_row:Binds K Z.d_read_row ["text"] []
 F_read_row:Fun K "read_row" "read_row" s_read_row Z.a_read_row Z.d_read_row
 mg__law_row_text:mg "_law_row_text"=some (.ref Z.a__law_row_text)
 b__law_row_text:Binds K Z.d__law_row_text ["_law_row_here"] []
 F__law_row_text:Fun K "_law_row_text" "_law_row_text" s__law_row_text Z.a__law_row_text Z.d__law_row_text
 mg__law_is_number:mg "_law_is_number"=some (.ref Z.a__law_is_number)
 b__law_is_number:Binds K Z.d__law_is_number ["_law_thing"] []
 F__law_is_number:Fun K "_law_is_number" "_law_is_number" s__law_is_number Z.a__law_is_number Z.d__law_is_number
 mg__law_is_row:mg "_law_is_row"=some (.ref Z.a__law_is_row)
 b__law_is_row:Binds K Z.d__law_is_row ["_law_thing","_law_many"] []
 F__law_is_row:Fun K "_law_is_row" "_law_is_row" s__law_is_row Z.a__law_is_row Z.d__law_is_row
 mg__law_is_grid:mg "_law_is_grid"=some (.ref Z.a__law_is_grid)
 b__law_is_grid:Binds K Z.d__law_is_grid ["_law_thing","_law_many","_law_wide"] []
 F__law_is_grid:Fun K "_law_is_grid" "_law_is_grid" s__law_is_grid Z.a__law_is_grid Z.d__law_is_grid
 mg__law_fields:mg "_law_fields"=some (.ref Z.a__law_fields)
 b__law_fields:Binds K Z.d__law_fields ["_law_system","_law_parts_here"] []
 F__law_fields:Fun K "_law_fields" "_law_fields" s__law_fields Z.a__law_fields Z.d__law_fields
 mg_read_size:mg "read_size"=some (.ref Z.a_read_size)
 b_read_size:Binds K Z.d_read_size ["word","most"] []
 F_read_size:Fun K "read_size" "read_size" s_read_size Z.a_read_size Z.d_read_size
 mg_cut:mg "cut"=some (.ref Z.a_cut)
 b_cut:Binds K Z.d_cut ["row","many","wide"] []
 F_cut:Fun K "cut" "cut" s_cut Z.a_cut Z.d_cut
 mg_read_rows:mg "read_rows"=some (.ref Z.a_read_rows)
 b_read_rows:Binds K Z.d_read_rows ["words","name","many","wide"] []
 F_read_rows:Fun K "read_rows" "read_rows" s_read_rows Z.a_read_rows Z.d_read_rows
 mg_want_list:mg "want_list"=some (.ref Z.a_want_list)
 b_want_list:Binds K Z.d_want_list ["thing","at","most"] []
 F_want_list:Fun K "want_list" "want_list" s_want_list Z.a_want_list Z.d_want_list
 mg_is_whole:mg "is_whole"=some (.ref Z.a_is_whole)
 b_is_whole:Binds K Z.d_is_whole ["thing"] []
 F_is_whole:Fun K "is_whole" "is_whole" s_is_whole Z.a_is_whole Z.d_is_whole
 mg_is_number:mg "is_number"=some (.ref Z.a_is_number)
 b_is_number:Binds K Z.d_is_number ["thing"] []
 F_is_number:Fun K "is_number" "is_number" s_is_number Z.a_is_number Z.d_is_number
 mg_is_row:mg "is_row"=some (.ref Z.a_is_row)
 b_is_row:Binds K Z.d_is_row ["thing","many"] []
 F_is_row:Fun K "is_row" "is_row" s_is_row Z.a_is_row Z.d_is_row
 mg_copied_rows:mg "copied_rows"=some (.ref Z.a_copied_rows)
 b_copied_rows:Binds K Z.d_copied_rows ["things","wide"] []
 F_copied_rows:Fun K "copied_rows" "copied_rows" s_copied_rows Z.a_copied_rows Z.d_copied_rows
 b_System___init__:Binds K Z.d_System___init__ ["self","move","put","look"] []
 F_System___init__:Fun K "__init__" "System.__init__" s_System___init__ Z.a_System___init__ Z.d_System___init__
 mg_read_system:mg "read_system"=some (.ref Z.a_read_system)
 b_read_system:Binds K Z.d_read_system ["text"] []
 F_read_system:Fun K "read_system" "read_system" s_read_system Z.a_read_system Z.d_read_system
 mg__law_system_text:mg "_law_system_text"=some (.ref Z.a__law_system_text)
 b__law_system_text:Binds K Z.d__law_system_text ["_law_parts_here"] []
 F__law_system_text:Fun K "_law_system_text" "_law_system_text" s__law_system_text Z.a__law_system_text Z.d__law_system_text
 mg__law_right_ones:mg "_law_right_ones"=some (.ref Z.a__law_right_ones)
 b__law_right_ones:Binds K Z.d__law_right_ones ["_law_one","_law_row_here","_law_parts_here"] []
 F__law_right_ones:Fun K "_law_right_ones" "_law_right_ones" s__law_right_ones Z.a__law_right_ones Z.d__law_right_ones
 mg__law_odd:mg "_law_odd"=some (.ref Z.a__law_odd)
 b__law_odd:Binds K Z.d__law_odd ["_law_bag_here"] []
 F__law_odd:Fun K "_law_odd" "_law_odd" s__law_odd Z.a__law_odd Z.d__law_odd
 mg__law_bad_number:mg "_law_bad_number"=some (.ref Z.a__law_bad_number)
 b__law_bad_number:Binds K Z.d__law_bad_number ["_law_bag_here"] []
 F__law_bad_number:Fun K "_law_bad_number" "_law_bad_number" s__law_bad_number Z.a__law_bad_number Z.d__law_bad_number
 mg__law_bad_row:mg "_law_bad_row"=some (.ref Z.a__law_bad_row)
 b__law_bad_row:Binds K Z.d__law_bad_row ["_law_bag_here","_law_row_here"] []
 F__law_bad_row:Fun K "_law_bad_row" "_law_bad_row" s__law_bad_row Z.a__law_bad_row Z.d__law_bad_row
 mg__law_bad_sizes:mg "_law_bad_sizes"=some (.ref Z.a__law_bad_sizes)
 b__law_bad_sizes:Binds K Z.d__law_bad_sizes ["_law_bag_here","_law_words"] []
 F__law_bad_sizes:Fun K "_law_bad_sizes" "_law_bad_sizes" s__law_bad_sizes Z.a__law_bad_sizes Z.d__law_bad_sizes
 mg__law_bad_system:mg "_law_bad_system"=some (.ref Z.a__law_bad_system)
 b__law_bad_system:Binds K Z.d__law_bad_system ["_law_bag_here","_law_parts_here"] []
 F__law_bad_system:Fun K "_law_bad_system" "_law_bad_system" s__law_bad_system Z.a__law_bad_system Z.d__law_bad_system
 mg__law_strewn:mg "_law_strewn"=some (.ref Z.a__law_strewn)
 b__law_strewn:Binds K Z.d__law_strewn ["_law_bag_here","_law_text"] []
 F__law_strewn:Fun K "_law_strewn" "_law_strewn" s__law_strewn Z.a__law_strewn Z.d__law_strewn
 mg__law_refused:mg "_law_refused"=some (.ref Z.a__law_refused)
 b__law_refused:Binds K Z.d__law_refused ["_law_reader","_law_text"] []
 F__law_refused:Fun K "_law_refused" "_law_refused" s__law_refused Z.a__law_refused Z.d__law_refused
 F_law:Fun K "law" "law" s_law Z.a_law Z.d_law
 abs:mg "abs"=none
 len:mg "len"=none
 min:mg "min"=none
 range:mg "range"=none
 int:mg "int"=none
 all:mg "all"=none
 isinstance:mg "isinstance"=none
 str:mg "str"=none
 tuple:mg "tuple"=none
 bool:mg "bool"=none
 list:mg "list"=none
 any:mg "any"=none
 enumerate:mg "enumerate"=none
 ValueError:mg "ValueError"=none
 mg_MOST_STATES:mg "MOST_STATES"=some (.int 8 Z.t_MOST_STATES)
 mg_MOST_PUTS:mg "MOST_PUTS"=some (.int 4 Z.t_MOST_PUTS)
 mg_MOST_LOOKS:mg "MOST_LOOKS"=some (.int 4 Z.t_MOST_LOOKS)
 mg_FIGURES:mg "FIGURES"=some (.str (Str.ofString "0123456789") Z.t_FIGURES)
 mg_System:mg "System"=some (.ref Z.a_System)
 cl_System:Cls K Z.a_System
 na_move:NoAttr K Z.a_System "move"
 na_states:NoAttr K Z.a_System "states"
 na_put:NoAttr K Z.a_System "put"
 na_ins:NoAttr K Z.a_System "ins"
 na_look:NoAttr K Z.a_System "look"
 na_outs:NoAttr K Z.a_System "outs"
 mk_System:Mk K Z.a_System Z.a_System___init__
 mg_SumError:mg "SumError"=some (.ref Z.a_SumError)
 mg_Wrong:mg "Wrong"=some (.ref Z.a_Wrong)
 mg_NoThing:mg "NoThing"=some (.ref Z.a_NoThing)
 mg_TooMany:mg "TooMany"=some (.ref Z.a_TooMany)
 mg_NoNumber:mg "NoNumber"=some (.ref Z.a_NoNumber)
 mg_NoFit:mg "NoFit"=some (.ref Z.a_NoFit)
 mg_NotSteered:mg "NotSteered"=some (.ref Z.a_NotSteered)
 mg_NotSeen:mg "NotSeen"=some (.ref Z.a_NotSeen)
 mg_NoText:mg "NoText"=some (.ref Z.a_NoText)
 mg_NoName:mg "NoName"=some (.ref Z.a_NoName)
 mg_Taken:mg "Taken"=some (.ref Z.a_Taken)
 ex_NoText:PySem.W.excIn K Z.a_NoText vErr "ValueError.__new__"=true
 xm_NoText_SumError:PySem.W.exmOne K (.ref Z.a_NoText) (.ref Z.a_SumError)=some true
 ki_NoText_NoText:PySem.W.kitOne K (.ref Z.a_NoText) (.ref Z.a_NoText)=some true
 ki_NoText_ValueError:PySem.W.kitOne K (.ref Z.a_NoText) (.type "ValueError")=some true
 ka_NoText_0:PySem.W.kitAny K (.ref Z.a_NoText) [.ref Z.a_NoFit,.ref Z.a_NoName,.ref Z.a_NoNumber,.ref Z.a_NoThing,.ref Z.a_NotSeen,.ref Z.a_NotSteered,.ref Z.a_Taken,.ref Z.a_TooMany,.ref Z.a_Wrong]=some false
 xc_NoText:ExC K Z.a_NoText
section
variable {P:Program} {w:World} {K:PySem.W.Frag} {mg:Str->Option Value} {base:Heap} {Z:Ads}
theorem sc__law_bag:FnScope ["_law_script"] ["_law_script"] (defScope s__law_bag):=⟨rfl,rfl,rfl,by decide +kernel,rfl,by decide +kernel,by decide +kernel⟩
theorem ok__law_bag (T:Txt K mg Z):FnOk P w K mg base CX0 1 Z.a__law_bag Z.d__law_bag ["_law_script"] (sp_bag K):=by
 refine T.F__law_bag.ok sc__law_bag (fun vs H Q E h=>?_) (fun cdv A outer s H vs Q E hr h=>?_)
 ·obtain ⟨a,ns,rfl,_⟩:=h
  rfl
 ·obtain ⟨a,ns,rfl,hS,hlen,k⟩:=h
  refine ⟨_,(pss_one (ps_ret (pe_lst (pa_cons pe_int (pa_cons pe_int (pa_cons pe_int (pa_cons (pe_comp ["_law_cell"] [] [] (pi_list (pe_slice sl_list (pv 0) po_none (po_some pe_int))) (fun _=>(pg_name (i:=0) (show List.Nodup (α:=PySem.Str) ["_law_cell"] by decide +kernel) rfl (Or.inl rfl) (Or.inl rfl))) (fun _=>pf_nil) (fun _=>(pe_callB call_abs (by rfl) T.abs PyProof.Rows.boot_abs (pa_cons (pv 0) pa_nil)))) pa_nil))))))),?_⟩
  refine rd_start (σ:=[some (.ref a)]) rfl ?_
  walk_at "w"
  refine ⟨a,_,rfl,hS,fun l hl=>?_⟩
  have hcl:(cutV (ns.map V.int) none (some 63)).length<=63:=Nat.le_trans (cutV_length _ _ _) (by simpa using hlen)
  refine ⟨l,rfl,⟨_,SqL.of upd_same⟩,?_⟩
  refine comp_list (K:=K) (a:=l) (xs:=cutV (ns.map V.int) none (some 63)) (fun i ys H'=>H'=upd H l (.lst (cutV (ns.map V.int) none (some 63)))∧∃cs:List Int,ys=cs.map V.int∧∀x∈cs,0<=x) (Nat.le_trans hcl (by decide)) ⟨rfl,[],rfl,fun _ z=>nomatch z⟩ (fun i ys H' _ ⟨e,_⟩=>by subst e;exact SqL.of upd_same) ?_ ?_
  ·rintro i x ys H' hx hi ⟨rfl,cs,rfl,hcs⟩
   obtain ⟨z,rfl⟩:∃z,x=V.int z:=by
    have hm:x∈ns.map V.int:=List.mem_of_mem_drop (List.mem_of_mem_take (List.mem_of_getElem? hx))
    obtain ⟨z,_,e⟩:=List.mem_map.mp hm
    exact ⟨z,e.symm⟩
   walk_at "w"
   refine ⟨rfl,cs++[if z < 0 then -z else z],by simp,fun x hx=>?_⟩
   rcases List.mem_append.mp hx with hx | hx
   ·exact hcs x hx
   ·have e:x=if z < 0 then -z else z:=by simpa using hx
    subst e
    split <;> lia
  ·rintro ys H' hy ⟨rfl,cs,rfl,hcs⟩ p hp
   walk_at "w"
   refine ⟨by show 4<=sizeLine;decide,fun b hb=>?_⟩
   have n1:b≠p:=fun z=>by rw[z,upd_same] at hb;cases hb
   have hb1:(upd H l (.lst (cutV (ns.map V.int) none (some 63)))) b=none:=by rw[upd_ne n1] at hb;exact hb
   have s1:Same H (upd H l (.lst (cutV (ns.map V.int) none (some 63)))):=Same.new hl
   refine k b _ (s1.free hb1) ⟨p,0,1234567891,0,cs,upd_same,by rw[upd_ne n1.symm];exact upd_same,by decide,by decide,by lia,hcs⟩ ((s1.trans (Same.new hp)).trans (Same.new hb))
theorem sc__law_take:FnScope ["_law_bag_here","_law_many","_law_more","_law_cell","_law_value","_law_first","_law_second"] ["_law_bag_here","_law_many"] (defScope s__law_take):=⟨rfl,rfl,rfl,by decide +kernel,rfl,by decide +kernel,by decide +kernel⟩
theorem ok__law_take (T:Txt K mg Z):FnOk P w K mg base CX0 1 Z.a__law_take Z.d__law_take ["_law_bag_here","_law_many"] sp_take:=by
 refine T.F__law_take.ok sc__law_take (fun vs H Q E h=>?_) (fun cdv A outer s H vs Q E hr h=>?_)
 ·obtain ⟨p,n,rfl,_⟩:=h
  rfl
 ·obtain ⟨p,n,rfl,⟨q,a,b,c,cs,hp,hq,ha,hc,hcl,hcs⟩,hn,hn2,k⟩:=h
  have nqp:q≠p:=bag_apart hp hq
  refine ⟨_,(pss_consM (ps_if (pt_cmpR op_eq (pe_ix ix_list (pv 0) pe_int (by intro _ _;rfl)) pe_int (nomark _)) (pss_cons (ps_set (i:=2) sc__law_take.nd rfl (Or.inl rfl) pe_int)
   (pss_consM (ps_if (pt_cmpR op_lt (pe_ix ix_list (pv 0) pe_int (by intro _ _;rfl)) (pe_callB call_len_seq (by rfl) T.len PySem.boot_len (pa_cons (pe_ix ix_list (pv 0) pe_int (by intro _ _;rfl)) pa_nil)) (nomark _)) (pss_cons (ps_set (i:=3) sc__law_take.nd rfl (Or.inl rfl) (pe_ix ix_list (pe_ix ix_list (pv 0) pe_int (by intro _ _;rfl)) (pe_ix ix_list (pv 0) pe_int (by intro _ _;rfl)) (by intro _ _;rfl)))
   (pss_cons (ps_augS (pv 0) pe_int get_list pe_int ip_add set_list)
   (pss_cons (ps_if (pt_cmpR op_ge (pv 3) pe_int (nomark _)) (pss_one (ps_asg (pv 3) (pg_sub (pv 0) pe_int set_list))) pss_nil)
   (pss_one (ps_set (i:=2) sc__law_take.nd rfl (Or.inl rfl) (pe_op op_add (pe_op op_mod (pv 3) pe_int) pe_int)))))) pss_nil)
   (pss_one (ps_asg (pe_op op_mod (pe_op op_add (pe_op op_mulS (pe_ix ix_list (pv 0) pe_int (by intro _ _;rfl)) pe_int) (pv 2)) pe_int) (pg_sub (pv 0) pe_int set_list))))) pss_nil)
   (pss_cons (ps_if (pt_cmpR op_gt (pe_ix ix_list (pv 0) pe_int (by intro _ _;rfl)) pe_int (nomark _)) (pss_cons (ps_set (i:=4) sc__law_take.nd rfl (Or.inl rfl) (pe_op op_mod (pe_ix ix_list (pv 0) pe_int (by intro _ _;rfl)) (pv 1)))
   (pss_cons (ps_asg (pe_op op_fdivS (pe_ix ix_list (pv 0) pe_int (by intro _ _;rfl)) (pv 1)) (pg_sub (pv 0) pe_int set_list))
   (pss_one (ps_ret (pv 4))))) pss_nil)
   (pss_cons (ps_set (i:=5) sc__law_take.nd rfl (Or.inl rfl) (pe_op op_mod (pe_op op_mulS (pe_ix ix_list (pv 0) pe_int (by intro _ _;rfl)) pe_int) pe_int))
   (pss_cons (ps_set (i:=6) sc__law_take.nd rfl (Or.inl rfl) (pe_op op_mod (pe_op op_mulS (pv 5) pe_int) pe_int))
   (pss_cons (ps_if (pt_cmpR op_gt (pv 1) pe_int (nomark _)) (pss_one (ps_ret (pe_op op_mod (pe_op op_add (pe_op op_mulS (pv 6) pe_int) (pv 5)) (pv 1)))) pss_nil)
   (pss_one (ps_ret (pe_op op_mod (pe_op op_fdivS (pv 6) pe_int) (pv 1))))))))),?_⟩
  refine rd_start (σ:=[some (.ref p),some (.int n),none,none,none,none,none]) rfl ?_
  refine ⟨fun σ' H'=>∃(x y:Option V) (a' b' c':Int),σ'=[some (.ref p),some (.int n),x,y,none,none,none]∧H' p=some (.lst [.int a',.int b',.int c',.ref q])∧0<=a'∧0<=c'∧c'<=cs.length∧Upto p H H',?_,?_⟩
  ·walk_at "w"
   refine ite2 (fun h0=>?_) (fun h0=>?_)
   ·walk_at "w"
    refine ⟨fun σ' H'=>∃(m:Int) (y:Option V) (a' c':Int),σ'=[some (.ref p),some (.int n),some (.int m),y,none,none,none]∧H' p=some (.lst [.int a',.int b,.int c',.ref q])∧0<=a'∧0<=c'∧c'<=cs.length∧Upto p H H',?_,?_⟩
    ·walk_at "w"
     refine ⟨_,_,rfl,.inl (SqL.of hq),?_⟩
     walk_at "w"
     refine ite2 (fun h1=>?_) (fun h1=>?_)
     ·have h1':c < cs.length:=by simpa using of_decide_eq_true h1
      obtain ⟨z,hz⟩:∃z,cs[c.toNat]?=some z:=⟨_,List.getElem?_eq_getElem (by lia)⟩
      have hz0:0<=z:=hcs z (List.mem_of_getElem? hz)
      walk_at "w"
      refine rd_ixL (SqL.of hq) (v:=.int z) ?_ ?_
      ·have:=atI_nat (xs:=cs.map V.int) (j:=c.toNat) (v:=.int z) (by rw[List.getElem?_map,hz];rfl)
       rwa [Int.toNat_of_nonneg hc] at this
      walk_at "w"
      refine ite2 (fun h2=>?_) (fun h2=>?_)
      ·walk_at "w"
       exact ⟨_,_,z,c+1,rfl,upd_same,hz0,by lia,by lia,(Upto.set hp).trans (Upto.set upd_same)⟩
      ·walk_at "w"
       exact ⟨_,_,a,c+1,rfl,upd_same,ha,by lia,by lia,Upto.set hp⟩
     ·walk_at "w"
      exact ⟨_,_,a,c,rfl,hp,ha,hc,hcl,Upto.refl _⟩
    ·rintro σ' H' ⟨m,y,a',c',rfl,hp',ha',hc',hcl',u'⟩
     walk_at "w"
     exact ⟨_,_,a',_,c',rfl,upd_same,ha',hc',hcl',u'.trans (Upto.set hp')⟩
   ·walk_at "w"
    exact ⟨_,_,a,b,c,rfl,hp,ha,hc,hcl,Upto.refl _⟩
  ·rintro σ' H' ⟨x,y,a',b',c',rfl,hp',ha',hc',hcl',u'⟩
   have hq':H' q=some (.lst (cs.map V.int)):=u'.1 q _ hq nqp
   have sn:Sz 8999 n:=by
    show n.natAbs < 2^8999
    exact Nat.lt_of_lt_of_le (show n.natAbs < 2^64 by lia) (Nat.pow_le_pow_right (by decide) (by decide))
   walk_at "w"
   refine ite2 (fun h0=>?_) (fun h0=>?_)
   ·walk_at "w"
    refine rd_I (show (0:Int) < n from hn) ?_
    walk_at "w"
    refine rd_I (show CDivS _ _ from ⟨by lia,sn⟩) ?_
    walk_at "w"
    refine k _ _ (Int.emod_nonneg _ (by lia)) (Int.emod_lt_of_pos _ hn) ⟨q,_,b',c',cs,upd_same,by rw[upd_ne nqp];exact hq',?_,hc',hcl',hcs⟩ (u'.trans (Upto.set hp'))
    rw[Int.fdiv_eq_ediv_of_nonneg _ (by lia)]
    exact Int.ediv_nonneg ha' (by lia)
   ·walk_at "w"
    refine ite2 (fun h1=>?_) (fun h1=>?_)
    ·walk_at "w"
     refine rd_I (show (0:Int) < n from hn) ?_
     exact k _ _ (Int.emod_nonneg _ (by lia)) (Int.emod_lt_of_pos _ hn) ⟨q,a',b',c',cs,hp',hq',ha',hc',hcl',hcs⟩ u'
    ·walk_at "w"
     refine rd_I (show CDivS _ _ from ⟨by decide,by show (3:Nat) < 2^8999;exact Nat.lt_of_lt_of_le (show 3 < 2^2 by decide) (Nat.pow_le_pow_right (by decide) (by decide))⟩) ?_
     walk_at "w"
     refine rd_I (show (0:Int) < n from hn) ?_
     exact k _ _ (Int.emod_nonneg _ (by lia)) (Int.emod_lt_of_pos _ hn) ⟨q,a',b',c',cs,hp',hq',ha',hc',hcl',hcs⟩ u'
theorem bd__law_sizes:∃x1 x2 x3 x4 x5 x6 x7 x8 x9 x10 x11 x12 x13 x14 x15 x16:Expr,x1=(PySem.Expr.Constant (PySem.Const.int 0) 0 ⟨277,16,277,17⟩)∧x2=(PySem.Expr.Constant (PySem.Const.int 1) 0 ⟨277,19,277,20⟩)∧x3=(PySem.Expr.Constant (PySem.Const.int 1) 0 ⟨277,22,277,23⟩)∧x4=(PySem.Expr.Constant (PySem.Const.int 1) 0 ⟨277,25,277,26⟩)∧x5=(PySem.Expr.Constant (PySem.Const.int 2) 0 ⟨277,28,277,29⟩)∧x6=(PySem.Expr.Constant (PySem.Const.int 2) 0 ⟨277,31,277,32⟩)∧x7=(PySem.Expr.Constant (PySem.Const.int 3) 0 ⟨277,34,277,35⟩)∧x8=(PySem.Expr.Constant (PySem.Const.int 4) 0 ⟨277,37,277,38⟩)∧x9=(PySem.Expr.Constant (PySem.Const.int 0) 0 ⟨278,17,278,18⟩)∧x10=(PySem.Expr.Constant (PySem.Const.int 1) 0 ⟨278,20,278,21⟩)∧x11=(PySem.Expr.Constant (PySem.Const.int 1) 0 ⟨278,23,278,24⟩)∧x12=(PySem.Expr.Constant (PySem.Const.int 1) 0 ⟨278,26,278,27⟩)∧x13=(PySem.Expr.Constant (PySem.Const.int 2) 0 ⟨278,29,278,30⟩)∧x14=(PySem.Expr.Constant (PySem.Const.int 2) 0 ⟨278,32,278,33⟩)∧x15=(PySem.Expr.Constant (PySem.Const.int 3) 0 ⟨278,35,278,36⟩)∧x16=(PySem.Expr.Constant (PySem.Const.int 4) 0 ⟨278,38,278,39⟩)∧defBody s__law_sizes=[ (PySem.Stmt.Assign (targets:=[(PySem.Expr.Name "_law_n" ⟨274,4,274,10⟩)]) (value:=(PySem.Expr.Call (func:=(PySem.Expr.Name "_law_take" ⟨274,13,274,22⟩)) (args:=[ (PySem.Expr.Name "_law_bag_here" ⟨274,23,274,36⟩),(PySem.Expr.Constant (PySem.Const.int 5) 0 ⟨274,38,274,39⟩)]) (keywords:=[]) (pos:=⟨274,13,274,40⟩))) (pos:=⟨274,4,274,40⟩)),(PySem.Stmt.If (test:=(PySem.Expr.Compare (left:=(PySem.Expr.Call (func:=(PySem.Expr.Name "_law_take" ⟨275,7,275,16⟩)) (args:=[ (PySem.Expr.Name "_law_bag_here" ⟨275,17,275,30⟩),(PySem.Expr.Constant (PySem.Const.int 8) 0 ⟨275,32,275,33⟩)]) (keywords:=[]) (pos:=⟨275,7,275,34⟩))) (ops:=[PySem.CmpOp.Eq]) (comparators:=[(PySem.Expr.Constant (PySem.Const.int 7) 0 ⟨275,38,275,39⟩)]) (pos:=⟨275,7,275,39⟩))) (body:=[ (PySem.Stmt.Assign (targets:=[(PySem.Expr.Name "_law_n" ⟨276,8,276,14⟩)]) (value:=(PySem.Expr.Constant (PySem.Const.int 5) 0 ⟨276,17,276,18⟩)) (pos:=⟨276,8,276,18⟩))]) (orelse:=[]) (pos:=⟨275,4,276,18⟩)),(PySem.Stmt.Assign (targets:=[(PySem.Expr.Name "_law_ins" ⟨277,4,277,12⟩)]) (value:=(PySem.Expr.Subscript (value:=(PySem.Expr.List (elts:=[x1,x2,x3,x4,x5,x6,x7,x8]) (pos:=⟨277,15,277,39⟩))) (slice:=(PySem.Expr.Call (func:=(PySem.Expr.Name "_law_take" ⟨277,40,277,49⟩)) (args:=[ (PySem.Expr.Name "_law_bag_here" ⟨277,50,277,63⟩),(PySem.Expr.Constant (PySem.Const.int 8) 0 ⟨277,65,277,66⟩)]) (keywords:=[]) (pos:=⟨277,40,277,67⟩))) (pos:=⟨277,15,277,68⟩))) (pos:=⟨277,4,277,68⟩)),(PySem.Stmt.Assign (targets:=[(PySem.Expr.Name "_law_outs" ⟨278,4,278,13⟩)]) (value:=(PySem.Expr.Subscript (value:=(PySem.Expr.List (elts:=[x9,x10,x11,x12,x13,x14,x15,x16]) (pos:=⟨278,16,278,40⟩))) (slice:=(PySem.Expr.Call (func:=(PySem.Expr.Name "_law_take" ⟨278,41,278,50⟩)) (args:=[ (PySem.Expr.Name "_law_bag_here" ⟨278,51,278,64⟩),(PySem.Expr.Constant (PySem.Const.int 8) 0 ⟨278,66,278,67⟩)]) (keywords:=[]) (pos:=⟨278,41,278,68⟩))) (pos:=⟨278,16,278,69⟩))) (pos:=⟨278,4,278,69⟩)),(PySem.Stmt.If (test:=(PySem.Expr.Compare (left:=(PySem.Expr.Name "_law_n" ⟨279,7,279,13⟩)) (ops:=[PySem.CmpOp.Eq]) (comparators:=[(PySem.Expr.Constant (PySem.Const.int 5) 0 ⟨279,17,279,18⟩)]) (pos:=⟨279,7,279,18⟩))) (body:=[ (PySem.Stmt.Assign (targets:=[ (PySem.Expr.Tuple (elts:=[(PySem.Expr.Name "_law_ins" ⟨280,8,280,16⟩),(PySem.Expr.Name "_law_outs" ⟨280,18,280,27⟩)]) (k:=0) (pos:=⟨280,8,280,27⟩))]) (value:=(PySem.Expr.Tuple (elts:=[ (PySem.Expr.Call (func:=(PySem.Expr.Name "min" ⟨280,31,280,34⟩)) (args:=[ (PySem.Expr.Name "_law_ins" ⟨280,35,280,43⟩),(PySem.Expr.Constant (PySem.Const.int 2) 0 ⟨280,45,280,46⟩)]) (keywords:=[]) (pos:=⟨280,31,280,47⟩)),(PySem.Expr.Call (func:=(PySem.Expr.Name "min" ⟨280,49,280,52⟩)) (args:=[ (PySem.Expr.Name "_law_outs" ⟨280,53,280,62⟩),(PySem.Expr.Constant (PySem.Const.int 2) 0 ⟨280,64,280,65⟩)]) (keywords:=[]) (pos:=⟨280,49,280,66⟩))]) (k:=0) (pos:=⟨280,30,280,67⟩))) (pos:=⟨280,8,280,67⟩))]) (orelse:=[]) (pos:=⟨279,4,280,67⟩)),(PySem.Stmt.Assign (targets:=[(PySem.Expr.Name "_law_wide" ⟨281,4,281,13⟩)]) (value:=(PySem.Expr.Subscript (value:=(PySem.Expr.List (elts:=[ (PySem.Expr.Constant (PySem.Const.int 4) 0 ⟨281,17,281,18⟩),(PySem.Expr.Constant (PySem.Const.int 4) 0 ⟨281,20,281,21⟩),(PySem.Expr.Constant (PySem.Const.int 9) 0 ⟨281,23,281,24⟩),(PySem.Expr.Constant (PySem.Const.int 1000000) 0 ⟨281,26,281,33⟩)]) (pos:=⟨281,16,281,34⟩))) (slice:=(PySem.Expr.Call (func:=(PySem.Expr.Name "_law_take" ⟨281,35,281,44⟩)) (args:=[ (PySem.Expr.Name "_law_bag_here" ⟨281,45,281,58⟩),(PySem.Expr.Constant (PySem.Const.int 4) 0 ⟨281,60,281,61⟩)]) (keywords:=[]) (pos:=⟨281,35,281,62⟩))) (pos:=⟨281,16,281,63⟩))) (pos:=⟨281,4,281,63⟩)),(PySem.Stmt.If (test:=(PySem.Expr.Compare (left:=(PySem.Expr.Name "_law_wide" ⟨282,7,282,16⟩)) (ops:=[PySem.CmpOp.Gt]) (comparators:=[(PySem.Expr.Constant (PySem.Const.int 9) 0 ⟨282,19,282,20⟩)]) (pos:=⟨282,7,282,20⟩))) (body:=[ (PySem.Stmt.Assign (targets:=[(PySem.Expr.Name "_law_n" ⟨283,8,283,14⟩)]) (value:=(PySem.Expr.Call (func:=(PySem.Expr.Name "min" ⟨283,17,283,20⟩)) (args:=[ (PySem.Expr.Name "_law_n" ⟨283,21,283,27⟩),(PySem.Expr.Constant (PySem.Const.int 2) 0 ⟨283,29,283,30⟩)]) (keywords:=[]) (pos:=⟨283,17,283,31⟩))) (pos:=⟨283,8,283,31⟩))]) (orelse:=[]) (pos:=⟨282,4,283,31⟩)),(PySem.Stmt.Return (value:=(some (PySem.Expr.Tuple (elts:=[ (PySem.Expr.Name "_law_n" ⟨284,12,284,18⟩),(PySem.Expr.Name "_law_ins" ⟨284,20,284,28⟩),(PySem.Expr.Name "_law_outs" ⟨284,30,284,39⟩),(PySem.Expr.Name "_law_wide" ⟨284,41,284,50⟩)]) (k:=0) (pos:=⟨284,11,284,51⟩)))) (pos:=⟨284,4,284,51⟩))]:=⟨_,_,_,_,_,_,_,_,_,_,_,_,_,_,_,_,rfl,rfl,rfl,rfl,rfl,rfl,rfl,rfl,rfl,rfl,rfl,rfl,rfl,rfl,rfl,rfl,by with_unfolding_all rfl⟩
theorem sc__law_sizes:FnScope ["_law_bag_here","_law_n","_law_ins","_law_outs","_law_wide"] ["_law_bag_here"] (defScope s__law_sizes):=⟨rfl,rfl,rfl,by decide +kernel,rfl,by decide +kernel,by decide +kernel⟩
theorem ok__law_sizes (T:Txt K mg Z):FnOk P w K mg base CX0 2 Z.a__law_sizes Z.d__law_sizes ["_law_bag_here"] sp_sizesS:=by
 have G__law_take:=ok__law_take (P:=P) (w:=w) (base:=base) T
 refine T.F__law_sizes.ok sc__law_sizes (fun vs H Q E h=>?_) (fun cdv A outer s H vs Q E hr h=>?_)
 ·obtain ⟨b,rfl,_⟩:=h
  rfl
 ·obtain ⟨b,rfl,hB,k⟩:=h
  obtain ⟨x1,x2,x3,x4,x5,x6,x7,x8,x9,x10,x11,x12,x13,x14,x15,x16,hx1,hx2,hx3,hx4,hx5,hx6,hx7,hx8,hx9,hx10,hx11,hx12,hx13,hx14,hx15,hx16,hbd⟩:=bd__law_sizes
  rw[hbd]
  refine ⟨_,(pss_cons (ps_set (i:=1) sc__law_sizes.nd rfl (Or.inl rfl) (pe_call G__law_take (hr.mono (by decide)) rfl T.mg__law_take T.F__law_take.kp T.b__law_take .nil pass0 (pa_cons (pv 0) (pa_cons pe_int pa_nil))))
   (pss_consM (ps_if (pt_cmpR op_eq (pe_call G__law_take (hr.mono (by decide)) rfl T.mg__law_take T.F__law_take.kp T.b__law_take .nil pass0 (pa_cons (pv 0) (pa_cons pe_int pa_nil))) pe_int (nomark _)) (pss_one (ps_set (i:=1) sc__law_sizes.nd rfl (Or.inl rfl) pe_int)) pss_nil)
   (pss_cons (ps_set (i:=2) sc__law_sizes.nd rfl (Or.inl rfl) (pe_ix ix_list (pe_lst (pa_consE hx1 pe_int (pa_consE hx2 pe_int (pa_consE hx3 pe_int (pa_consE hx4 pe_int (pa_consE hx5 pe_int (pa_consE hx6 pe_int (pa_consE hx7 pe_int (pa_consE hx8 pe_int pa_nil))))))))) (pe_call G__law_take (hr.mono (by decide)) rfl T.mg__law_take T.F__law_take.kp T.b__law_take .nil pass0 (pa_cons (pv 0) (pa_cons pe_int pa_nil))) (by intro _ _;rfl)))
   (pss_cons (ps_set (i:=3) sc__law_sizes.nd rfl (Or.inl rfl) (pe_ix ix_list (pe_lst (pa_consE hx9 pe_int (pa_consE hx10 pe_int (pa_consE hx11 pe_int (pa_consE hx12 pe_int (pa_consE hx13 pe_int (pa_consE hx14 pe_int (pa_consE hx15 pe_int (pa_consE hx16 pe_int pa_nil))))))))) (pe_call G__law_take (hr.mono (by decide)) rfl T.mg__law_take T.F__law_take.kp T.b__law_take .nil pass0 (pa_cons (pv 0) (pa_cons pe_int pa_nil))) (by intro _ _;rfl)))
   (pss_consM (ps_if (pt_cmpR op_eq (pv 1) pe_int (nomark _)) (pss_one (ps_par (i:=2) (j:=3) rfl sc__law_sizes.nd rfl rfl (by decide) rfl rfl (pa_cons (pe_callB (call_min2 rfl) (by rfl) T.min PyProof.Rows.boot_min (pa_cons (pv 2) (pa_cons pe_int pa_nil))) (pa_cons (pe_callB (call_min2 rfl) (by rfl) T.min PyProof.Rows.boot_min (pa_cons (pv 3) (pa_cons pe_int pa_nil))) pa_nil)) rfl)) pss_nil)
   (pss_cons (ps_set (i:=4) sc__law_sizes.nd rfl (Or.inl rfl) (pe_ix ix_list (pe_lst (pa_cons pe_int (pa_cons pe_int (pa_cons pe_int (pa_cons pe_int pa_nil))))) (pe_call G__law_take (hr.mono (by decide)) rfl T.mg__law_take T.F__law_take.kp T.b__law_take .nil pass0 (pa_cons (pv 0) (pa_cons pe_int pa_nil))) (by intro _ _;rfl)))
   (pss_consM (ps_if (pt_cmpR op_gt (pv 4) pe_int (nomark _)) (pss_one (ps_set (i:=1) sc__law_sizes.nd rfl (Or.inl rfl) (pe_callB (call_min2 rfl) (by rfl) T.min PyProof.Rows.boot_min (pa_cons (pv 1) (pa_cons pe_int pa_nil))))) pss_nil)
   (pss_one (ps_ret (pe_tup (pa_cons (pv 1) (pa_cons (pv 2) (pa_cons (pv 3) (pa_cons (pv 4) pa_nil)))))))))))))),?_⟩
  refine rd_start (σ:=[some (.ref b),none,none,none,none]) rfl ?_
  walk_at "w"
  refine ⟨b,5,rfl,hB,by decide,by decide,fun n H1 n0 n1 B1 u1=>?_⟩
  obtain ⟨n,rfl⟩:=Int.eq_ofNat_of_zero_le n0
  walk_at "w"
  refine ⟨fun σ' H'=>(∃n:Nat,σ'=[some (.ref b),some (.int n),none,none,none]∧n<=5)∧Bag H' b∧Upto b H H',?_,?_⟩
  ·walk_at "w"
   refine ⟨b,8,rfl,B1,by decide,by decide,fun v H2 v0 v1 B2 u2=>?_⟩
   walk_at "w"
   refine ite2 (fun _=>?_) (fun _=>?_)
   ·walk_at "w"
    exact ⟨⟨5,rfl,by decide⟩,B2,u1.trans u2⟩
   ·walk_at "w"
    exact ⟨⟨n,rfl,by lia⟩,B2,u1.trans u2⟩
  clear n0 n1 u1 B1
  rintro σ' H1 ⟨⟨n,rfl,n5⟩,B1,u1⟩
  walk_at "w"
  refine rd_newL fun l0 H2 s2 n2 g2=>?_
  walk_at "w"
  refine ⟨b,8,rfl,B1.same s2,by decide,by decide,fun v H3 v0 v1 B3 u3=>?_⟩
  have g3:=u3.other (fun z=>B1.at (by rw[← z];exact n2)) g2
  obtain ⟨x,ex,mx,_⟩:=atI_some (xs:=[V.int 0,V.int 1,V.int 1,V.int 1,V.int 2,V.int 2,V.int 3,V.int 4]) v0 (by simpa using v1)
  obtain ⟨i,rfl,hi⟩:∃z:Nat,x=.int z∧z<=4:=by
   simp only[List.mem_cons,List.not_mem_nil,or_false] at mx
   rcases mx with rfl | rfl | rfl | rfl | rfl | rfl | rfl | rfl
   ·exact ⟨0,rfl,by decide⟩
   ·exact ⟨1,rfl,by decide⟩
   ·exact ⟨1,rfl,by decide⟩
   ·exact ⟨1,rfl,by decide⟩
   ·exact ⟨2,rfl,by decide⟩
   ·exact ⟨2,rfl,by decide⟩
   ·exact ⟨3,rfl,by decide⟩
   ·exact ⟨4,rfl,by decide⟩
  walk_at "w"
  refine rd_ixL (SqL.of g3) ex ?_
  clear ex mx g3 g2
  walk_at "w"
  refine rd_newL fun l1 H4 s4 n4 g4=>?_
  walk_at "w"
  refine ⟨b,8,rfl,B3.same s4,by decide,by decide,fun t H5 t0 t1 B5 u5=>?_⟩
  have g5:=u5.other (fun z=>B3.at (by rw[← z];exact n4)) g4
  obtain ⟨x,ex,mx,_⟩:=atI_some (xs:=[V.int 0,V.int 1,V.int 1,V.int 1,V.int 2,V.int 2,V.int 3,V.int 4]) t0 (by simpa using t1)
  obtain ⟨o,rfl,ho⟩:∃z:Nat,x=.int z∧z<=4:=by
   simp only[List.mem_cons,List.not_mem_nil,or_false] at mx
   rcases mx with rfl | rfl | rfl | rfl | rfl | rfl | rfl | rfl
   ·exact ⟨0,rfl,by decide⟩
   ·exact ⟨1,rfl,by decide⟩
   ·exact ⟨1,rfl,by decide⟩
   ·exact ⟨1,rfl,by decide⟩
   ·exact ⟨2,rfl,by decide⟩
   ·exact ⟨2,rfl,by decide⟩
   ·exact ⟨3,rfl,by decide⟩
   ·exact ⟨4,rfl,by decide⟩
  walk_at "w"
  refine rd_ixL (SqL.of g5) ex ?_
  clear ex mx g5 g4
  have u15:=(((u1.same s2).trans u3).same s4).trans u5
  walk_at "w"
  refine ⟨fun σ' H'=>(∃i o:Nat,σ'=[some (.ref b),some (.int n),some (.int i),some (.int o),none]∧i<=4∧o<=4∧(n=5->i<=2∧o<=2))∧Bag H' b∧Upto b H H',?_,?_⟩
  ·walk_at "w"
   refine ite2 (fun h0=>?_) (fun h0=>?_)
   ·walk_at "w"
    refine ⟨⟨min i 2,min o 2,?_,by lia,by lia,fun _=>⟨by lia,by lia⟩⟩,B5,u15⟩
    have e1:(if (2:Int) < (i:Int) then (2:Int) else (i:Int))=((min i 2:Nat):Int):=by split <;> lia
    have e2:(if (2:Int) < (o:Int) then (2:Int) else (o:Int))=((min o 2:Nat):Int):=by split <;> lia
    rw[← e1,← e2]
    rfl
   ·walk_at "w"
    exact ⟨⟨i,o,rfl,hi,ho,fun z=>absurd (decide_eq_true (show (n:Int)=5 by lia)) h0⟩,B5,u15⟩
  clear hi ho u15 B5 u5 u3 u1
  rintro σ' H5 ⟨⟨i,o,rfl,hi,ho,h5⟩,B5,u5⟩
  walk_at "w"
  refine rd_newL fun l2 H6 s6 n6 g6=>?_
  walk_at "w"
  refine ⟨b,4,rfl,B5.same s6,by decide,by decide,fun v H7 v0 v1 B7 u7=>?_⟩
  have g7:=u7.other (fun z=>B5.at (by rw[← z];exact n6)) g6
  obtain ⟨x,ex,mx,_⟩:=atI_some (xs:=[V.int 4,V.int 4,V.int 9,V.int 1000000]) v0 (by simpa using v1)
  obtain ⟨w,rfl,hw⟩:∃w:Nat,x=.int w∧(w=4∨w=9∨w=1000000):=by
   simp only[List.mem_cons,List.not_mem_nil,or_false] at mx
   rcases mx with rfl | rfl | rfl | rfl
   ·exact ⟨4,rfl,.inl rfl⟩
   ·exact ⟨4,rfl,.inl rfl⟩
   ·exact ⟨9,rfl,.inr (.inl rfl)⟩
   ·exact ⟨1000000,rfl,.inr (.inr rfl)⟩
  walk_at "w"
  refine rd_ixL (SqL.of g7) ex ?_
  have u07:=(u5.same s6).trans u7
  walk_at "w"
  refine ⟨fun σ' H'=>(∃n:Nat,σ'=[some (.ref b),some (.int n),some (.int i),some (.int o),some (.int w)]∧n<=5∧(w=4∨w=9∨(w=1000000∧n<=2))∧(n=5->i<=2∧o<=2))∧Bag H' b∧Upto b H H',?_,?_⟩
  ·walk_at "w"
   refine ite2 (fun h0=>?_) (fun h0=>?_)
   ·walk_at "w"
    refine ⟨⟨min n 2,?_,by lia,by lia,fun z=>by lia⟩,B7,u07⟩
    have e1:(if (2:Int) < (n:Int) then (2:Int) else (n:Int))=((min n 2:Nat):Int):=by split <;> lia
    rw[← e1]
    rfl
   ·walk_at "w"
    refine ⟨⟨n,rfl,n5,?_,h5⟩,B7,u07⟩
    rcases hw with z | z | z
    ·exact .inl z
    ·exact .inr (.inl z)
    ·exact absurd (decide_eq_true (show (9:Int) < (w:Int) by lia)) h0
  ·clear h5 n5
   rintro σ' H8 ⟨⟨n',rfl,n5,hwn,h5⟩,B8,u8⟩
   walk_at "w"
   refine rd_newT fun r H9 s9 g9=>?_
   exact k r n' i o w H9 g9 n5 hi ho hwn h5 (B8.same s9) (u8.same s9)
theorem sc__law_low:FnScope ["_law_top","_law_bottom","_law_one","_law_other"] ["_law_top","_law_bottom"] (defScope s__law_low):=⟨rfl,rfl,rfl,by decide +kernel,rfl,by decide +kernel,by decide +kernel⟩
theorem ok__law_low (T:Txt K mg Z):FnOk P w K mg base CX0 1 Z.a__law_low Z.d__law_low ["_law_top","_law_bottom"] sp_low:=by
 refine T.F__law_low.ok sc__law_low (fun vs H Q E h=>?_) (fun cdv A outer s H vs Q E hr h=>?_)
 ·obtain ⟨t,b,rfl,_⟩:=h
  rfl
 ·obtain ⟨t,b,rfl,hb,hs,k⟩:=h
  refine ⟨_,(pss_cons (ps_set (i:=2) sc__law_low.nd rfl (Or.inl rfl) (pe_callB call_abs (by rfl) T.abs PyProof.Rows.boot_abs (pa_cons (pv 0) pa_nil)))
   (pss_cons (ps_set (i:=3) sc__law_low.nd rfl (Or.inl rfl) (pv 1))
   (pss_cons (ps_while PassesOwn.never (pt_cmpR op_ne (pv 2) pe_int (nomark _))
    (pss_one (ps_par (i:=2) (j:=3) rfl sc__law_low.nd rfl rfl (by decide) rfl rfl (pa_cons (pe_op op_mod (pv 3) (pv 2)) (pa_cons (pv 2) pa_nil)) rfl)))
   (pss_one (ps_ret (pe_tup (pa_cons (pe_op op_fdivS (pv 0) (pv 3)) (pa_cons (pe_op op_fdivS (pv 1) (pv 3)) pa_nil)))))))),?_⟩
  refine rd_start (σ:=[some (.int t),some (.int b),none,none]) rfl ?_
  walk_at "w"
  refine while_i (fun σ' H'=>∃(u v:Int),σ'=[some (.int t),some (.int b),some (.int u),some (.int v)]∧H'=H∧0<=u∧0 < v∧Int.gcd u v=Int.gcd t b) (fun σ' _=>match σ' with | [_,_,some (.int u),_]=>u.natAbs | _=>0) ⟨_,b,rfl,rfl,by split <;> lia,hb,by
   split
   ·rw[Int.neg_gcd]
   ·rfl⟩ ?_
  rintro σ' H' ⟨u,v,rfl,rfl,hu,hv,hg⟩
  walk_at "w"
  refine ite2 (fun h=>?_) (fun h=>?_)
  ·have hu0:u≠0:=fun z=>by subst z;simp at h
   walk_at "w"
   refine rd_I (show (0:Int) < u by lia) ?_
   walk_at "w"
   have h1:=Int.emod_nonneg v hu0
   have h2:=Int.emod_lt_of_pos v (show 0 < u by lia)
   exact ⟨⟨v % u,u,rfl,rfl,h1,by lia,by rw[Int.gcd_comm,gcd_emod,Int.gcd_comm];exact hg⟩,by show (v % u).natAbs < u.natAbs;lia⟩
  ·have hu0:u=0:=by
    by_cases z:u=0
    ·exact z
    ·exfalso;apply h;simp [z]
   subst hu0
   have e:v=g t b:=by
    unfold g
    rw[← hg,Int.gcd_zero_left]
    lia
   have hgs:Sz 8999 v:=hs.le (by
    rw[e]
    have h1:(g t b).natAbs=Int.gcd t b:=by unfold g;simp
    rw[h1]
    exact Nat.le_of_dvd (by lia) (by have:=Int.gcd_dvd_right (a:=t) (b:=b);exact Int.natAbs_dvd_natAbs.mpr this |> fun z=>by simpa using z))
   walk_at "w"
   refine rd_I (show CDivS _ _ from ⟨by lia,hgs⟩) ?_
   walk_at "w"
   refine rd_I (show CDivS _ _ from ⟨by lia,hgs⟩) ?_
   walk_at "w"
   refine rd_newT fun r H' s' h'=>?_
   rw[Int.fdiv_eq_ediv_of_nonneg _ (by lia),Int.fdiv_eq_ediv_of_nonneg _ (by lia),e] at h'
   exact k r H' s' h'
theorem sc__law_number:FnScope ["_law_bag_here","_law_wide","_law_way"] ["_law_bag_here","_law_wide"] (defScope s__law_number):=⟨rfl,rfl,rfl,by decide +kernel,rfl,by decide +kernel,by decide +kernel⟩
theorem ok__law_number (T:Txt K mg Z):FnOk P w K mg base CX0 2 Z.a__law_number Z.d__law_number ["_law_bag_here","_law_wide"] (sp_numberQ K):=by
 have G__law_take:=ok__law_take (P:=P) (w:=w) (base:=base) T
 have G__law_low:=ok__law_low (P:=P) (w:=w) (base:=base) T
 refine T.F__law_number.ok sc__law_number (fun vs H Q E h=>?_) (fun cdv A outer s H vs Q E hr h=>?_)
 ·obtain ⟨b,w,rfl,_⟩:=h
  rfl
 ·obtain ⟨b,w,rfl,hB,w0,w1,k⟩:=h
  refine ⟨_,(pss_cons (ps_set (i:=2) sc__law_number.nd rfl (Or.inl rfl) (pe_call G__law_take (hr.mono (by decide)) rfl T.mg__law_take T.F__law_take.kp T.b__law_take .nil pass0 (pa_cons (pv 0) (pa_cons pe_int pa_nil))))
   (pss_cons (ps_if (pt_cmpR op_lt (pv 2) pe_int (nomark _)) (pss_one (ps_ret (pe_tup (pa_cons pe_int (pa_cons pe_int pa_nil))))) pss_nil)
   (pss_cons (ps_if (pt_cmpR op_lt (pv 2) pe_int (nomark _)) (pss_one (ps_ret (pe_tup (pa_cons (pe_op op_sub (pe_call G__law_take (hr.mono (by decide)) rfl T.mg__law_take T.F__law_take.kp T.b__law_take .nil pass0 (pa_cons (pv 0) (pa_cons pe_int pa_nil))) pe_int) (pa_cons pe_int pa_nil))))) pss_nil)
   (pss_cons (ps_if (pt_cmpR op_eq (pv 2) pe_int (nomark _)) (pss_one (ps_ret (pe_call G__law_low (hr.mono (by decide)) rfl T.mg__law_low T.F__law_low.kp T.b__law_low .nil pass0 (pa_cons (pe_op op_sub (pe_call G__law_take (hr.mono (by decide)) rfl T.mg__law_take T.F__law_take.kp T.b__law_take .nil pass0 (pa_cons (pv 0) (pa_cons pe_int pa_nil))) pe_int) (pa_cons (pe_op op_add pe_int (pe_call G__law_take (hr.mono (by decide)) rfl T.mg__law_take T.F__law_take.kp T.b__law_take .nil pass0 (pa_cons (pv 0) (pa_cons pe_int pa_nil)))) pa_nil))))) pss_nil)
   (pss_one (ps_ret (pe_call G__law_low (hr.mono (by decide)) rfl T.mg__law_low T.F__law_low.kp T.b__law_low .nil pass0 (pa_cons (pe_op op_sub (pe_call G__law_take (hr.mono (by decide)) rfl T.mg__law_take T.F__law_take.kp T.b__law_take .nil pass0 (pa_cons (pv 0) (pa_cons (pe_op op_add (pe_op op_mulS pe_int (pv 1)) pe_int) pa_nil))) (pv 1)) (pa_cons (pe_op op_add pe_int (pe_call G__law_take (hr.mono (by decide)) rfl T.mg__law_take T.F__law_take.kp T.b__law_take .nil pass0 (pa_cons (pv 0) (pa_cons (pv 1) pa_nil)))) pa_nil))))))))),?_⟩
  refine rd_start (σ:=[some (.ref b),some (.int w),none]) rfl ?_
  walk_at "w"
  refine ⟨b,8,rfl,hB,by decide,by decide,fun v H1 v0 v1 B1 u1=>?_⟩
  walk_at "w"
  refine ite2 (fun h0=>?_) (fun h0=>?_)
  ·walk_at "w"
   refine rd_newT fun r H2 s2 g2=>?_
   exact k r 0 _ ⟨Nat.zero_le _,by show 1<=_;lia⟩ (NumQ.mk g2 rfl) (B1.same s2) (u1.same s2)
  walk_at "w"
  refine ite2 (fun h1=>?_) (fun h1=>?_)
  ·walk_at "w"
   refine ⟨b,7,rfl,B1,by decide,by decide,fun a H2 a0 a1 B2 u2=>?_⟩
   walk_at "w"
   refine rd_newT fun r H3 s3 g3=>?_
   exact k r ((a - 3:Int):Rat) _ ⟨by show (a - 3).natAbs<=_;lia,by show 1<=_;lia⟩ (NumQ.mk g3 rfl) (B2.same s3) ((u1.trans u2).same s3)
  walk_at "w"
  refine ite2 (fun h2=>?_) (fun h2=>?_)
  ·walk_at "w"
   refine ⟨b,13,rfl,B1,by decide,by decide,fun a H2 a0 a1 B2 u2=>?_⟩
   walk_at "w"
   refine ⟨b,6,rfl,B2,by decide,by decide,fun c H3 c0 c1 B3 u3=>?_⟩
   walk_at "w"
   refine ⟨_,_,rfl,by lia,(sz_mil (by lia)).mono (by decide),fun r H4 s4 g4=>?_⟩
   obtain ⟨q,e,d,_⟩:=low_dr (t:=a - 6) (b:=1+c) (W:=max w 6) (by lia) (by lia) (by lia)
   exact k r q _ d (NumQ.mk g4 e) (B3.same s4) (((u1.trans u2).trans u3).same s4)
  walk_at "w"
  refine ⟨b,_,rfl,B1,by lia,by lia,fun a H2 a0 a1 B2 u2=>?_⟩
  walk_at "w"
  refine ⟨b,_,rfl,B2,by lia,by lia,fun c H3 c0 c1 B3 u3=>?_⟩
  walk_at "w"
  refine ⟨_,_,rfl,by lia,(sz_mil (by lia)).mono (by decide),fun r H4 s4 g4=>?_⟩
  obtain ⟨q,e,d,_⟩:=low_dr (t:=a - w) (b:=1+c) (W:=max w 6) (by lia) (by lia) (by lia)
  exact k r q _ d (NumQ.mk g4 e) (B3.same s4) (((u1.trans u2).trans u3).same s4)
theorem sc__law_row:FnScope ["_law_bag_here","_law_many","_law_wide"] ["_law_bag_here","_law_many","_law_wide"] (defScope s__law_row):=⟨rfl,rfl,rfl,by decide +kernel,rfl,by decide +kernel,by decide +kernel⟩
theorem ok__law_row (T:Txt K mg Z):FnOk P w K mg base CX0 3 Z.a__law_row Z.d__law_row ["_law_bag_here","_law_many","_law_wide"] (sp_drawQ K):=by
 have G__law_number:=ok__law_number (P:=P) (w:=w) (base:=base) T
 refine T.F__law_row.ok sc__law_row (fun vs H Q E h=>?_) (fun cdv A outer s H vs Q E hr h=>?_)
 ·obtain ⟨b,m,w,rfl,_⟩:=h
  rfl
 ·obtain ⟨b,m,w,rfl,hB,hm,w0,w1,k⟩:=h
  refine ⟨_,(pss_one (ps_ret (pe_comp ["_law_k"] ["_law_bag_here","_law_wide"] [0,2] (pi_range1 rfl T.range (pa_cons (pv 1) pa_nil)) (fun _=>(pg_name (i:=0) (show List.Nodup (α:=PySem.Str) ["_law_k","_law_bag_here","_law_wide"] by decide +kernel) rfl (Or.inl rfl) (Or.inl rfl))) (fun _=>pf_nil) (fun _=>(pe_call G__law_number (hr.mono (by decide)) rfl T.mg__law_number T.F__law_number.kp T.b__law_number .nil pass0 (pa_cons (pv 1) (pa_cons (pv 2) pa_nil))))))),?_⟩
  refine rd_start (σ:=[some (.ref b),some (.int m),some (.int w)]) rfl ?_
  walk_at "w"
  refine ⟨by lia,by lia,?_⟩
  refine comp_bagR (n:=m) (NumQ K) (Dr (max w 6)) hB hm (fun a u B=>a.upto u B) ?_ ?_
  ·rintro i H' NY NN hi u B k1
   walk_at "w"
   exact ⟨b,w,rfl,B,w0,w1,fun r x H2 hx h2 B2 u2=>k1 _ x _ u2 B2 hx h2⟩
  ·rintro ys cs H' p hp u B g lc hc pr nx
   exact k p cs H' hp ⟨ys,g,pr⟩ lc hc B u
theorem sc__law_move:FnScope ["_law_bag_here","_law_n","_law_way","_law_first","_law_wide","_law_move_here","_law_i","_law_row_here","_law_j"] ["_law_bag_here","_law_n","_law_way","_law_first","_law_wide"] (defScope s__law_move):=⟨rfl,rfl,rfl,by decide +kernel,rfl,by decide +kernel,by decide +kernel⟩
theorem ok__law_move (T : Txt K mg Z) : FnOk P w K mg base CX0 4 Z.a__law_move Z.d__law_move ["_law_bag_here", "_law_n", "_law_way", "_law_first", "_law_wide"] (sp_moveQ K) := by
  have G__law_row := ok__law_row (P := P) (w := w) (base := base) T
  have G__law_take := ok__law_take (P := P) (w := w) (base := base) T
  refine T.F__law_move.ok sc__law_move (fun vs H Q E h => ?_) (fun cdv A outer s H vs Q E hr h => ?_)
  · obtain ⟨b, n, w, way, first, rfl, _⟩ := h
    rfl
  · obtain ⟨b, n, w, way, first, rfl, hB, n8, w0, w1, k⟩ := h
    refine ⟨_, (pss_cons (ps_set (i := 5) sc__law_move.nd rfl (Or.inl rfl) (pe_lst pa_nil))
      (pss_cons (ps_for PassesOwn.never rfl (pi_range1 rfl T.range (pa_cons (pv 1) pa_nil)) (pg_name (i := 6) sc__law_move.nd rfl (Or.inl rfl) (Or.inl rfl))
        (pss_cons (ps_set (i := 7) sc__law_move.nd rfl (Or.inl rfl) (pe_call G__law_row (hr.mono (by decide)) rfl T.mg__law_row T.F__law_row.kp T.b__law_row .nil pass0 (pa_cons (pv 0) (pa_cons (pv 1) (pa_cons (pv 4) pa_nil)))))
      (pss_cons (ps_for PassesOwn.never rfl (pi_range1 rfl T.range (pa_cons (pv 1) pa_nil)) (pg_name (i := 8) sc__law_move.nd rfl (Or.inl rfl) (Or.inl rfl))
        (pss_consM (ps_if (PW.pt (pw_and (pt_cmpR op_eq (pv 2) pe_int (nomark _)) (pw_and1 (pt_cmpR op_gt (pe_call G__law_take (hr.mono (by decide)) rfl T.mg__law_take T.F__law_take.kp T.b__law_take .nil pass0 (pa_cons (pv 0) (pa_cons pe_int pa_nil))) pe_int (nomark _))))) (pss_one (ps_asg (pe_tup (pa_cons pe_int (pa_cons pe_int pa_nil))) (pg_sub (pv 7) (pv 8) set_list))) pss_nil)
      (pss_consM (ps_if (PW.pt (pw_and (pt_cmpR op_eq (pv 2) pe_int (nomark _)) (pw_and1 (pt_cmpR op_lt (pe_op op_add (pv 6) pe_int) (pv 1) (nomark _))))) (pss_one (ps_asg (pe_tup (pa_cons (pe_callTy call_intB (by rfl) T.int PyProof.Rows.boot_int (pa_cons (pe_cmpR op_eq (pv 8) (pe_op op_add (pv 6) pe_int) (nomark _)) pa_nil)) (pa_cons pe_int pa_nil))) (pg_sub (pv 7) (pv 8) set_list))) pss_nil)
      (pss_consM (ps_if (PW.pt (pw_or (PW.pt (pw_and (pt_cmpR op_eq (pv 2) pe_int (nomark _)) (pw_and (pt_cmpR op_ge (pv 6) (pv 3) (nomark _)) (pw_and1 (pt_cmpR op_lt (pv 8) (pv 3) (nomark _)))))) (pw_or1 (PW.pt (pw_and (pt_cmpR op_eq (pv 2) pe_int (nomark _)) (pw_and (pt_cmpR op_lt (pv 6) (pv 3) (nomark _)) (pw_and1 (pt_cmpR op_ge (pv 8) (pv 3) (nomark _))))))))) (pss_one (ps_asg (pe_tup (pa_cons pe_int (pa_cons pe_int pa_nil))) (pg_sub (pv 7) (pv 8) set_list))) pss_nil)
      (pss_one (ps_if (pt_cmpR op_eq (pv 2) pe_int (nomark _)) (pss_one (ps_asg (pe_tup (pa_cons (pe_op op_mulS (pe_ix ix_list (pe_lst (pa_cons pe_int (pa_cons pe_int (pa_cons (pe_un un_neg pe_int) (pa_cons pe_int pa_nil))))) (pe_op op_mod (pv 3) pe_int) (by intro _ _; rfl)) (pe_callTy call_intB (by rfl) T.int PyProof.Rows.boot_int (pa_cons (pe_cmpR op_eq (pv 6) (pv 8) (nomark _)) pa_nil))) (pa_cons pe_int pa_nil))) (pg_sub (pv 7) (pv 8) set_list))) pss_nil))))))
      (pss_one (ps_expr (pe_bm PySem.F.plainAttrs_list PySem.F.slot_list_append PySem.F.type_list_append mt_append (pv 5) (pa_cons (pv 7) pa_nil)))))))
      (pss_one (ps_ret (pv 5))))), ?_⟩
    refine rd_start (σ := [some (.ref b), some (.int n), some (.int way), some (.int first), some (.int w), none, none, none, none]) rfl ?_
    have W1 : 1 ≤ max w 6 := by lia
    walk_at "w"
    refine rd_newL fun r H1 s1 n1 g1 => ?_
    have rb : r ≠ b := fun z => hB.at (by rw [← z]; exact n1)
    obtain ⟨q0, I0, xs0, gq0⟩ := hB.inner
    have I1 : Inner H1 b q0 := (s1.upto (p := b)).2 _ I0
    obtain ⟨A, eA⟩ : ∃ A : Addr → Prop, A = fun q => H q = none ∧ q ≠ r := ⟨_, rfl⟩
    have nb : ¬ A b := by rw [eA]; exact fun z => hB.at z.1
    have nr : ¬ A r := by rw [eA]; exact fun z => z.2 rfl
    have nq : ¬ A q0 := by rw [eA]; exact fun z => by have z1 := z.1; rw [gq0] at z1; cases z1
    have rq : r ≠ q0 := fun z => by rw [← z, n1] at gq0; cases gq0
    walk_at "w"
    refine ⟨by lia, by lia, ?_⟩
    refine for_rangeN (n := n) (fun i σ' H' => ∃ (x1 x2 x3 : Option V) (us : List V), σ' = [some (.ref b), some (.int n), some (.int way), some (.int first), some (.int w), some (.ref r), x1, x2, x3] ∧ H' r = some (.lst us) ∧ us.length = i ∧ (∀ x ∈ us, RowP K A H' n (Dr (max w 6)) x) ∧ Bag H' b ∧ Inner H' b q0 ∧ Upto b H H') ⟨none, none, none, [], rfl, g1, rfl, (fun _ z => nomatch z), hB.same s1, I1, s1.upto⟩ ?_ ?_
    · rintro i σ' H' hi ⟨x1, x2, x3, us, rfl, gu, lu, ru, B', I', u'⟩
      walk_at "w"
      refine ⟨b, n, w, rfl, B', by lia, w0, w1, fun p xs Ha np Ra la da Ba ua => ?_⟩
      have hp0 : H p = none := u'.none B' np
      have ap' : H p = none ∧ p ≠ r := ⟨hp0, fun z => by rw [z, gu] at np; cases np⟩
      have ap : A p := by rw [eA]; exact ap'
      have X0 : MvJ K A n (Dr (max w 6)) r p b q0 us H Ha := ⟨ua.other rb gu, fun x hx => (ru x hx).upto ua B' nb, ⟨p, xs, rfl, ap, Ra, la, da⟩, Ba, ua.2 _ I', u'.trans ua⟩
      clear ru Ra gu
      walk_at "w"
      refine ⟨by lia, by lia, ?_⟩
      refine for_rangeN (n := n) (fun j σ' H' => (∃ x3, σ' = [some (.ref b), some (.int n), some (.int way), some (.int first), some (.int w), some (.ref r), some (.int i), some (.ref p), x3]) ∧ MvJ K A n (Dr (max w 6)) r p b q0 us H H') ⟨⟨_, rfl⟩, X0⟩ ?_ ?_
      · rintro j σ' Hj hj ⟨⟨x3, rfl⟩, X⟩
        walk_at "w"
        refine ⟨fun σ' H' => σ' = [some (.ref b), some (.int n), some (.int way), some (.int first), some (.int w), some (.ref r), some (.int i), some (.ref p), some (.int j)] ∧ MvJ K A n (Dr (max w 6)) r p b q0 us H H', ?_, ?_⟩
        · walk_at "w"
          refine ite2 (fun _ => ?_) (fun _ => ?_)
          · walk_at "w"
            refine ⟨b, 3, rfl, X.bag, by decide, by decide, fun d Hd d0 d1 Bd ud => ?_⟩
            replace X := X.upto ud Bd nb rb
            repeat' (first | walk_at "rd" | refine ite2 (fun _ => ?_) (fun _ => ?_))
            all_goals first
              | exact ⟨rfl, X⟩
              | (refine rd_newT fun t Hb sb gb => ?_
                 walk_at "w"
                 obtain ⟨zs, gz, lz, Xz⟩ := (X.same sb).put ap nr nb nq hp0 (NumQ.mk (q := 0) gb rfl) (dr_int (i := 0) (Nat.zero_le _) W1) j
                 refine rd_setL gz (ixN_nat (by lia)) rfl ?_
                 exact ⟨rfl, Xz⟩)
          · walk_at "w"
            exact ⟨rfl, X⟩
        clear X
        rintro σ' Hj ⟨rfl, X⟩
        refine ⟨fun σ' H' => σ' = [some (.ref b), some (.int n), some (.int way), some (.int first), some (.int w), some (.ref r), some (.int i), some (.ref p), some (.int j)] ∧ MvJ K A n (Dr (max w 6)) r p b q0 us H H', ?_, ?_⟩
        · repeat' (first | walk_at "rd" | refine ite2 (fun _ => ?_) (fun _ => ?_))
          all_goals first
            | exact ⟨rfl, X⟩
            | (refine rd_newT fun t Hb sb gb => ?_
               walk_at "w"
               obtain ⟨zs, gz, lz, Xz⟩ := (X.same sb).put ap nr nb nq hp0 (NumQ.mk (q := ((if decide ((j : Int) = (i : Int) + 1) = true then (1 : Int) else 0 : Int) : Rat)) gb rfl) (dr_int (by split <;> lia) W1) j
               refine rd_setL gz (ixN_nat (by lia)) rfl ?_
               exact ⟨rfl, Xz⟩)
        clear X
        rintro σ' Hj ⟨rfl, X⟩
        refine ⟨fun σ' H' => σ' = [some (.ref b), some (.int n), some (.int way), some (.int first), some (.int w), some (.ref r), some (.int i), some (.ref p), some (.int j)] ∧ MvJ K A n (Dr (max w 6)) r p b q0 us H H', ?_, ?_⟩
        · repeat' (first | walk_at "rd" | refine ite2 (fun _ => ?_) (fun _ => ?_))
          all_goals first
            | exact ⟨rfl, X⟩
            | (refine rd_newT fun t Hb sb gb => ?_
               walk_at "w"
               obtain ⟨zs, gz, lz, Xz⟩ := (X.same sb).put ap nr nb nq hp0 (NumQ.mk (q := 0) gb rfl) (dr_int (i := 0) (Nat.zero_le _) W1) j
               refine rd_setL gz (ixN_nat (by lia)) rfl ?_
               exact ⟨rfl, Xz⟩)
        clear X
        rintro σ' Hj ⟨rfl, X⟩
        walk_at "w"
        refine ite2 (fun _ => ?_) (fun _ => ?_)
        · walk_at "w"
          refine rd_newL fun l0 Hc sc nc gc => ?_
          walk_at "w"
          obtain ⟨x, ex, mx, _⟩ := atI_some (xs := [V.int 2, V.int 1, V.int (-1), V.int 0]) (i := first % 4) (Int.emod_nonneg _ (by decide)) (by have := Int.emod_lt_of_pos first (show (0 : Int) < 4 by decide); simpa using this)
          obtain ⟨z, rfl, hz⟩ : ∃ z : Int, x = .int z ∧ z.natAbs ≤ 2 := by
            simp only [List.mem_cons, List.not_mem_nil, or_false] at mx
            rcases mx with rfl | rfl | rfl | rfl
            · exact ⟨2, rfl, by decide⟩
            · exact ⟨1, rfl, by decide⟩
            · exact ⟨-1, rfl, by decide⟩
            · exact ⟨0, rfl, by decide⟩
          refine rd_ixL (SqL.of gc) ex ?_
          walk_at "w"
          refine rd_I (cmulS_l (by lia) (by lia)) ?_
          walk_at "w"
          refine rd_newT fun t Hb sb gb => ?_
          walk_at "w"
          obtain ⟨zs, gz, lz, Xz⟩ := ((X.same sc).same sb).put ap nr nb nq hp0 (NumQ.mk (q := ((z * (if decide ((i : Int) = (j : Int)) = true then (1 : Int) else 0) : Int) : Rat)) gb rfl) (dr_int (by split <;> lia) W1) j
          refine rd_setL gz (ixN_nat (by lia)) rfl ?_
          exact ⟨⟨_, rfl⟩, Xz⟩
        · walk_at "w"
          exact ⟨⟨_, rfl⟩, X⟩
      · rintro σ' Hj ⟨⟨x3, rfl⟩, X⟩
        walk_at "w"
        refine ⟨.inl ⟨rfl, _, SqL.of X.gr⟩, ?_⟩
        walk_at "w"
        refine rd_append X.gr (small1000 (by lia)) ?_
        refine ⟨_, _, _, us ++ [.ref p], rfl, upd_same, by simp [lu], fun x hx => ?_, X.bag.upd X.inn rb rq, X.inn.upd rb, X.up.after n1⟩
        rcases List.mem_append.mp hx with hx | hx
        · exact (X.ru x hx).other X.gr nr
        · have e : x = V.ref p := by simpa using hx
          rw [e]; exact X.rp.other X.gr nr
    · rintro σ' H' ⟨x1, x2, x3, us, rfl, gu, lu, ru, B', I', u'⟩
      walk_at "w"
      exact k r us H' n1 gu lu (by rw [eA] at ru; exact ru) B' u'
theorem sc__law_sum:FnScope ["_law_one","_law_other"] ["_law_one","_law_other"] (defScope s__law_sum):=⟨rfl,rfl,rfl,by decide +kernel,rfl,by decide +kernel,by decide +kernel⟩
theorem ok__law_sum (T:Txt K mg Z):FnOk P w K mg base CX0 2 Z.a__law_sum Z.d__law_sum ["_law_one","_law_other"] (sp_opQ K (fun x y=>x+y)):=by
 have G__law_low:=ok__law_low (P:=P) (w:=w) (base:=base) T
 refine T.F__law_sum.ok sc__law_sum (fun vs H Q E h=>?_) (fun cdv A outer s H vs Q E hr h=>?_)
 ·obtain ⟨p,q,a,b,c,d,rfl,hp,hq,hb,hd,sa,sb,sc,sd,k⟩:=addQ_of h
  rfl
 ·obtain ⟨p,q,a,b,c,d,rfl,hp,hq,hb,hd,sa,sb,sc,sd,k⟩:=addQ_of h
  refine ⟨_,(pss_one (ps_ret (pe_call G__law_low (hr.mono (by decide)) rfl T.mg__law_low T.F__law_low.kp T.b__law_low .nil pass0 (pa_cons (pe_op op_add (pe_op op_mulS (pe_ix ix_tup (pv 0) pe_int (by intro _ _;rfl)) (pe_ix ix_tup (pv 1) pe_int (by intro _ _;rfl))) (pe_op op_mulS (pe_ix ix_tup (pv 1) pe_int (by intro _ _;rfl)) (pe_ix ix_tup (pv 0) pe_int (by intro _ _;rfl)))) (pa_cons (pe_op op_mulS (pe_ix ix_tup (pv 0) pe_int (by intro _ _;rfl)) (pe_ix ix_tup (pv 1) pe_int (by intro _ _;rfl))) pa_nil))))),?_⟩
  refine rd_start (σ:=[some (.ref p),some (.ref q)]) rfl ?_
  have hbd:0 < b*d:=Int.mul_pos hb hd
  have sbd:Sz 8999 (b*d):=(sb.mul sd).mono (by decide)
  walk_at "w"
  refine rd_I (show CMulS _ _ from .inr ⟨_,_,sa,sd,by decide⟩) ?_
  walk_at "w"
  refine rd_I (show CMulS _ _ from .inr ⟨_,_,sc,sb,by decide⟩) ?_
  walk_at "w"
  refine rd_I (show CMulS _ _ from .inr ⟨_,_,sb,sd,by decide⟩) ?_
  walk_at "w"
  walk_at "w"
  refine ⟨_,_,rfl,hbd,sbd,k⟩
theorem sc__law_plus:FnScope ["_law_one","_law_other"] ["_law_one","_law_other"] (defScope s__law_plus):=⟨rfl,rfl,rfl,by decide +kernel,rfl,by decide +kernel,by decide +kernel⟩
theorem ok__law_plus (T:Txt K mg Z):FnOk P w K mg base CX0 3 Z.a__law_plus Z.d__law_plus ["_law_one","_law_other"] (sp_plusQ K):=by
 have G__law_sum:=ok__law_sum (P:=P) (w:=w) (base:=base) T
 refine T.F__law_plus.ok sc__law_plus (fun vs H Q E h=>?_) (fun cdv A outer s H vs Q E hr h=>?_)
 ·obtain ⟨p,q,xs,ys,rfl,_⟩:=h
  rfl
 ·obtain ⟨p,q,xs,ys,rfl,hp,hq,hl,hz,h1,h2,kk⟩:=h
  refine ⟨_,(pss_one (ps_ret (pe_comp ["_law_k"] ["_law_one","_law_other"] [0,1] (pi_range1 rfl T.range (pa_cons (pe_callB call_len_seq (by rfl) T.len PySem.boot_len (pa_cons (pv 0) pa_nil)) pa_nil)) (fun _=>(pg_name (i:=0) (show List.Nodup (α:=PySem.Str) ["_law_k","_law_one","_law_other"] by decide +kernel) rfl (Or.inl rfl) (Or.inl rfl))) (fun _=>pf_nil) (fun _=>(pe_call G__law_sum (hr.mono (by decide)) rfl T.mg__law_sum T.F__law_sum.kp T.b__law_sum .nil pass0 (pa_cons (pe_ix (ix_listK K (by rfl)) (pv 1) (pv 0) (by intro _ _;rfl)) (pa_cons (pe_ix (ix_listK K (by rfl)) (pv 2) (pv 0) (by intro _ _;rfl)) pa_nil))))))),?_⟩
  refine rd_start (σ:=[some (.ref p),some (.ref q)]) rfl ?_
  obtain ⟨us,gu,qu⟩:=id hp
  obtain ⟨ws,gw,qw⟩:=id hq
  have lu:=qu.length
  walk_at "w"
  refine ⟨_,_,rfl,.inl (SqL.of gu),?_⟩
  walk_at "w"
  refine ⟨by lia,by lia,?_⟩
  refine comp_mapR (n:=us.length) (NumQ K) (fun i=>xs.getD i 0+ys.getD i 0) (by lia) (fun a b=>a.same b) ?_ ?_
  ·rintro i H' NY NN hi s k1
   have ix:i < xs.length:=by lia
   have iy:i < ys.length:=by lia
   obtain ⟨vx,ex,nx⟩:=ixQ (Paired.imp' (fun _ _ z=>z.same s) qu) ix
   obtain ⟨vy,ey,ny⟩:=ixQ (Paired.imp' (fun _ _ z=>z.same s) qw) iy
   walk_at "w"
   refine rd_ixL (SqL.of (s _ _ gu)) ex ?_
   walk_at "w"
   refine rd_ixL (SqL.of (s _ _ gw)) ey ?_
   walk_at "w"
   exact ⟨_,_,_,_,rfl,nx,ny,h1 _ (getD_mem ix),h2 _ (getD_mem iy),fun r3 H3 s3 n3=>k1 _ _ s3 n3⟩
  ·rintro ys' H' l hl' s g pr nx
   exact kk l H' hl' s ⟨ys',g,by rw[zip_range (by lia)];rw[← lu] at pr;exact pr⟩
theorem sc__law_prod:FnScope ["_law_one","_law_other"] ["_law_one","_law_other"] (defScope s__law_prod):=⟨rfl,rfl,rfl,by decide +kernel,rfl,by decide +kernel,by decide +kernel⟩
theorem ok__law_prod (T:Txt K mg Z):FnOk P w K mg base CX0 2 Z.a__law_prod Z.d__law_prod ["_law_one","_law_other"] (sp_opQ K (fun x y=>x*y)):=by
 have G__law_low:=ok__law_low (P:=P) (w:=w) (base:=base) T
 refine T.F__law_prod.ok sc__law_prod (fun vs H Q E h=>?_) (fun cdv A outer s H vs Q E hr h=>?_)
 ·obtain ⟨p,q,a,b,c,d,rfl,hp,hq,hb,hd,sa,sb,sc,sd,k⟩:=mulQ_of h
  rfl
 ·obtain ⟨p,q,a,b,c,d,rfl,hp,hq,hb,hd,sa,sb,sc,sd,k⟩:=mulQ_of h
  refine ⟨_,(pss_one (ps_ret (pe_call G__law_low (hr.mono (by decide)) rfl T.mg__law_low T.F__law_low.kp T.b__law_low .nil pass0 (pa_cons (pe_op op_mulS (pe_ix ix_tup (pv 0) pe_int (by intro _ _;rfl)) (pe_ix ix_tup (pv 1) pe_int (by intro _ _;rfl))) (pa_cons (pe_op op_mulS (pe_ix ix_tup (pv 0) pe_int (by intro _ _;rfl)) (pe_ix ix_tup (pv 1) pe_int (by intro _ _;rfl))) pa_nil))))),?_⟩
  refine rd_start (σ:=[some (.ref p),some (.ref q)]) rfl ?_
  have hbd:0 < b*d:=Int.mul_pos hb hd
  have sbd:Sz 8999 (b*d):=(sb.mul sd).mono (by decide)
  walk_at "w"
  refine rd_I (show CMulS _ _ from .inr ⟨_,_,sa,sc,by decide⟩) ?_
  walk_at "w"
  refine rd_I (show CMulS _ _ from .inr ⟨_,_,sb,sd,by decide⟩) ?_
  walk_at "w"
  walk_at "w"
  refine ⟨_,_,rfl,hbd,sbd,k⟩
theorem sc__law_by:FnScope ["_law_factor","_law_row_here"] ["_law_factor","_law_row_here"] (defScope s__law_by):=⟨rfl,rfl,rfl,by decide +kernel,rfl,by decide +kernel,by decide +kernel⟩
theorem ok__law_by (T:Txt K mg Z):FnOk P w K mg base CX0 3 Z.a__law_by Z.d__law_by ["_law_factor","_law_row_here"] (sp_byQ K):=by
 have G__law_prod:=ok__law_prod (P:=P) (w:=w) (base:=base) T
 refine T.F__law_by.ok sc__law_by (fun vs H Q E h=>?_) (fun cdv A outer s H vs Q E hr h=>?_)
 ·obtain ⟨u,q,c,ys,rfl,_⟩:=h
  rfl
 ·obtain ⟨u,q,c,ys,rfl,hc,sc,hq,hz,h2,kk⟩:=h
  refine ⟨_,(pss_one (ps_ret (pe_comp ["_law_one"] ["_law_factor"] [0] (pi_list (pv 1)) (fun _=>(pg_name (i:=0) (show List.Nodup (α:=PySem.Str) ["_law_one","_law_factor"] by decide +kernel) rfl (Or.inl rfl) (Or.inl rfl))) (fun _=>pf_nil) (fun _=>(pe_call G__law_prod (hr.mono (by decide)) rfl T.mg__law_prod T.F__law_prod.kp T.b__law_prod .nil pass0 (pa_cons (pv 1) (pa_cons (pv 0) pa_nil))))))),?_⟩
  refine rd_start (σ:=[some u,some (.ref q)]) rfl ?_
  obtain ⟨us,gu,qu⟩:=id hq
  walk_at "w"
  refine ⟨⟨_,SqL.of gu⟩,?_⟩
  refine comp_mapL (K:=K) (F:=NumQ K) (NumQ K) (fun y=>c*y) gu qu hz (fun a b=>a.same b) (fun a b=>a.same b) ?_ ?_
  ·rintro i y x H' NY NN en s hx k
   walk_at "w"
   exact ⟨_,_,_,_,rfl,hc.same s,hx,sc,h2 y (List.mem_of_getElem? en),fun r H2 s2 h2'=>k _ _ s2 h2'⟩
  ·rintro ys' H' r hr s g pr nx
   exact kk r H' hr s ⟨ys',g,pr⟩
theorem sc__law_mixed:FnScope ["_law_bag_here","_law_move_here","_law_put","_law_look","_law_n","_law_turn","_law_i","_law_j","_law_by_here","_law_less","_law_row_here"] ["_law_bag_here","_law_move_here","_law_put","_law_look"] (defScope s__law_mixed):=⟨rfl,rfl,rfl,by decide +kernel,rfl,by decide +kernel,by decide +kernel⟩
theorem ok__law_mixed (T:Txt K mg Z):FnOk P w K mg base CX0 4 Z.a__law_mixed Z.d__law_mixed ["_law_bag_here","_law_move_here","_law_put","_law_look"] (sp_mixedQ K):=by
 have G__law_take:=ok__law_take (P:=P) (w:=w) (base:=base) T
 have G__law_plus:=ok__law_plus (P:=P) (w:=w) (base:=base) T
 have G__law_by:=ok__law_by (P:=P) (w:=w) (base:=base) T
 have G__law_sum:=ok__law_sum (P:=P) (w:=w) (base:=base) T
 have G__law_prod:=ok__law_prod (P:=P) (w:=w) (base:=base) T
 refine T.F__law_mixed.ok sc__law_mixed (fun vs H Q E h=>?_) (fun cdv A outer s H vs Q E hr h=>?_)
 ·obtain ⟨b,m,p,l,q0,n,i,o,M,WV,A,rfl,_⟩:=h
  rfl
 ·obtain ⟨b,m,p,l,q0,n,i,o,M,WV,A,rfl,MA,X,n8,i4,o4,M0,M1,V1,hA,k⟩:=h
  refine ⟨_,(pss_cons (ps_set (i:=4) sc__law_mixed.nd rfl (Or.inl rfl) (pe_callB call_len_seq (by rfl) T.len PySem.boot_len (pa_cons (pv 1) pa_nil)))
   (pss_cons (ps_if (PW.pt (pw_or (pt_cmpR op_lt (pv 4) pe_int (nomark _)) (pw_or1 (pt_cmpR op_eq (pe_call G__law_take (hr.mono (by decide)) rfl T.mg__law_take T.F__law_take.kp T.b__law_take .nil pass0 (pa_cons (pv 0) (pa_cons pe_int pa_nil))) pe_int (nomark _))))) (pss_one (ps_ret (pe_tup (pa_cons (pv 1) (pa_cons (pv 2) (pa_cons (pv 3) pa_nil)))))) pss_nil)
   (pss_cons (ps_for PassesOwn.never rfl (pi_range1 rfl T.range (pa_cons (pe_op op_add pe_int (pe_call G__law_take (hr.mono (by decide)) rfl T.mg__law_take T.F__law_take.kp T.b__law_take .nil pass0 (pa_cons (pv 0) (pa_cons pe_int pa_nil)))) pa_nil)) (pg_name (i:=5) sc__law_mixed.nd rfl (Or.inl rfl) (Or.inl rfl))
    (pss_cons (ps_set (i:=6) sc__law_mixed.nd rfl (Or.inl rfl) (pe_call G__law_take (hr.mono (by decide)) rfl T.mg__law_take T.F__law_take.kp T.b__law_take .nil pass0 (pa_cons (pv 0) (pa_cons (pv 4) pa_nil))))
   (pss_cons (ps_set (i:=7) sc__law_mixed.nd rfl (Or.inl rfl) (pe_op op_mod (pe_op op_add (pe_op op_add (pv 6) pe_int) (pe_call G__law_take (hr.mono (by decide)) rfl T.mg__law_take T.F__law_take.kp T.b__law_take .nil pass0 (pa_cons (pv 0) (pa_cons (pe_op op_sub (pv 4) pe_int) pa_nil)))) (pv 4)))
   (pss_cons (ps_set (i:=8) sc__law_mixed.nd rfl (Or.inl rfl) (pe_tup (pa_cons (pe_ix ix_list (pe_lst (pa_cons pe_int (pa_cons (pe_un un_neg pe_int) (pa_cons pe_int (pa_cons (pe_un un_neg pe_int) pa_nil))))) (pe_call G__law_take (hr.mono (by decide)) rfl T.mg__law_take T.F__law_take.kp T.b__law_take .nil pass0 (pa_cons (pv 0) (pa_cons pe_int pa_nil))) (by intro _ _;rfl)) (pa_cons pe_int pa_nil))))
   (pss_cons (ps_set (i:=9) sc__law_mixed.nd rfl (Or.inl rfl) (pe_tup (pa_cons (pe_op op_sub pe_int (pe_ix ix_tup (pv 8) pe_int (by intro _ _;rfl))) (pa_cons pe_int pa_nil))))
   (pss_cons (ps_asg (pe_call G__law_plus (hr.mono (by decide)) rfl T.mg__law_plus T.F__law_plus.kp T.b__law_plus .nil pass0 (pa_cons (pe_ix ix_list (pv 1) (pv 6) (by intro _ _;rfl)) (pa_cons (pe_call G__law_by (hr.mono (by decide)) rfl T.mg__law_by T.F__law_by.kp T.b__law_by .nil pass0 (pa_cons (pv 8) (pa_cons (pe_ix ix_list (pv 1) (pv 7) (by intro _ _;rfl)) pa_nil))) pa_nil))) (pg_sub (pv 1) (pv 6) set_list))
   (pss_cons (ps_for PassesOwn.never rfl (pi_list (pe_op op_cat (pv 1) (pv 3))) (pg_name (i:=10) sc__law_mixed.nd rfl (Or.inl rfl) (Or.inl rfl))
    (pss_one (ps_asg (pe_call G__law_sum (hr.mono (by decide)) rfl T.mg__law_sum T.F__law_sum.kp T.b__law_sum .nil pass0 (pa_cons (pe_ix ix_list (pv 10) (pv 7) (by intro _ _;rfl)) (pa_cons (pe_call G__law_prod (hr.mono (by decide)) rfl T.mg__law_prod T.F__law_prod.kp T.b__law_prod .nil pass0 (pa_cons (pv 9) (pa_cons (pe_ix ix_list (pv 10) (pv 6) (by intro _ _;rfl)) pa_nil))) pa_nil))) (pg_sub (pv 10) (pv 7) set_list))))
   (pss_one (ps_for PassesOwn.never rfl (pi_list (pv 2)) (pg_name (i:=10) sc__law_mixed.nd rfl (Or.inl rfl) (Or.inl rfl))
    (pss_one (ps_asg (pe_call G__law_sum (hr.mono (by decide)) rfl T.mg__law_sum T.F__law_sum.kp T.b__law_sum .nil pass0 (pa_cons (pe_ix ix_list (pv 10) (pv 6) (by intro _ _;rfl)) (pa_cons (pe_call G__law_prod (hr.mono (by decide)) rfl T.mg__law_prod T.F__law_prod.kp T.b__law_prod .nil pass0 (pa_cons (pv 8) (pa_cons (pe_ix ix_list (pv 10) (pv 7) (by intro _ _;rfl)) pa_nil))) pa_nil))) (pg_sub (pv 10) (pv 6) set_list))))))))))))
   (pss_one (ps_ret (pe_tup (pa_cons (pv 1) (pa_cons (pv 2) (pa_cons (pv 3) pa_nil))))))))),?_⟩
  refine rd_start (σ:=[some (.ref b),some (.ref m),some (.ref p),some (.ref l),none,none,none,none,none,none,none]) rfl ?_
  have done:∀r H' t,t<=60->H' r=some (.tup [.ref m,.ref p,.ref l])->Mix K A H' n (Fr M (3^t*WV)) m p l b q0 i o->KeepC A b m H H'->Q (.ref r) H':=fun r H' t ht g x kp=>k r H' g (x.weak fun y h=>h.mono (pow3_m ht)) kp
  have X0:Mix K A H n (Fr M (3^0*WV)) m p l b q0 i o:=X.weak fun y h=>h.mono (by simp)
  clear X k
  obtain ⟨us,gu,lu,_,_⟩:=id X0.gm
  walk_at "w"
  refine ⟨_,_,rfl,.inl (SqL.of gu),?_⟩
  rw[lu]
  clear gu lu
  have kp0:KeepC A b m H H:=fun _ _ h _ _ _=>h
  walk_at "w"
  refine ite2 (fun h0=>?_) (fun h0=>?_)
  ·walk_at "w"
   refine rd_newT fun r H' s' g'=>?_
   exact done r H' 0 (by decide) g' (X0.same s') (kp0.same s')
  have n2:2<=n:=by
   rcases Nat.lt_or_ge n 2 with z | z
   ·exact absurd (decide_eq_true (show (n:Int) < 2 by lia)) h0
   ·exact z
  walk_at "w"
  refine ⟨b,2,rfl,X0.bag,by decide,by decide,fun v H1 v0 v1 B1 u1=>?_⟩
  have X1:=X0.upto MA u1 B1
  have kp1:=kp0.upto u1
  walk_at "w"
  refine ite2 (fun h1=>?_) (fun h1=>?_)
  ·walk_at "w"
   refine rd_newT fun r H' s' g'=>?_
   exact done r H' 0 (by decide) g' (X1.same s') (kp1.same s')
  walk_at "w"
  refine ⟨b,3,rfl,B1,by decide,by decide,fun c H2 c0 c1 B2 u2=>?_⟩
  have X2:=X1.upto MA u2 B2
  have kp2:=kp1.upto u2
  clear X0 X1 kp0 kp1 u1 u2 B1
  walk_at "w"
  refine ⟨by lia,by lia,?_⟩
  refine for_rangeN (n:=(1+c).toNat) (fun t σ' H'=>∃(x1 x2 x3 x4 x5 x6:Option V),σ'=[some (.ref b),some (.ref m),some (.ref p),some (.ref l),some (.int n),x1,x2,x3,x4,x5,x6]∧Mix K A H' n (Fr M (3^(17*t)*WV)) m p l b q0 i o∧KeepC A b m H H') ⟨none,none,none,none,none,none,rfl,X2,kp2⟩ ?_ ?_
  ·rintro t σ' H' ht ⟨x1,x2,x3,x4,x5,x6,rfl,X,kp⟩
   have tb:17*t+17<=60:=by lia
   walk_at "w"
   refine ⟨b,n,rfl,X.bag,by lia,by lia,fun ii Ha i0 i1 Ba ua=>?_⟩
   obtain ⟨ii,rfl⟩:=Int.eq_ofNat_of_zero_le i0
   have Xa:=X.upto MA ua Ba
   have kpa:=kp.upto ua
   walk_at "w"
   refine ⟨b,_,rfl,Ba,by lia,by lia,fun d Hb d0 d1 Bb ub=>?_⟩
   have Xb:=Xa.upto MA ub Bb
   have kpb:=kpa.upto ub
   walk_at "w"
   refine rd_I (show (0:Int) < n by lia) ?_
   have j0:=Int.emod_nonneg ((ii:Int)+1+d) (show (n:Int)≠0 by lia)
   have j1:=Int.emod_lt_of_pos ((ii:Int)+1+d) (show (0:Int) < n by lia)
   generalize ((ii:Int)+1+d) % (n:Int)=jj at j0 j1 ⊢
   obtain ⟨jj,rfl⟩:=Int.eq_ofNat_of_zero_le j0
   walk_at "w"
   refine rd_newL fun l0 Hc sc nc gc=>?_
   walk_at "w"
   refine ⟨b,4,rfl,Bb.same sc,by decide,by decide,fun v' Hd v0' v1' Bd ud=>?_⟩
   have gd:=ud.other (fun z=>Bb.at (by rw[← z];exact nc)) gc
   obtain ⟨x,ex,mx,_⟩:=atI_some (xs:=[V.int 1,V.int (-1),V.int 2,V.int (-2)]) v0' (by simpa using v1')
   obtain ⟨z,rfl,hz⟩:∃z:Int,x=.int z∧z.natAbs<=2:=by
    simp only[List.mem_cons,List.not_mem_nil,or_false] at mx
    rcases mx with rfl | rfl | rfl | rfl
    ·exact ⟨1,rfl,by decide⟩
    ·exact ⟨-1,rfl,by decide⟩
    ·exact ⟨2,rfl,by decide⟩
    ·exact ⟨-2,rfl,by decide⟩
   have Xd:=(Xb.same sc).upto MA ud Bd
   have kpd:=(kpb.same sc).upto ud
   walk_at "w"
   refine rd_ixL (SqL.of gd) ex ?_
   walk_at "w"
   refine rd_newT fun bt He se ge=>?_
   walk_at "w"
   refine rd_newT fun lt Hf sf gf=>?_
   have Xf:=(Xd.same se).same sf
   have kpf:=(kpd.same se).same sf
   have nb:NumQ K Hf ((z:Int):Rat) (.ref bt):=NumQ.mk (sf _ _ ge) rfl
   have nl:NumQ K Hf ((0 - z:Int):Rat) (.ref lt):=NumQ.mk gf rfl
   clear X Xa Xb Xd kp kpa kpb kpd ua ub ud sc gc gd ex mx ge gf se sf Ba Bb Bd nc
   obtain ⟨us,gu,lu,_,ru⟩:=id Xf.gm
   have e1:us[ii]?=some (us[ii]'(by lia)):=by simp
   have e2:us[jj]?=some (us[jj]'(by lia)):=by simp
   obtain ⟨q1,z1,qs1,w1,a1,g1,k1,p1,l1,c1⟩:=(ru _ (List.mem_of_getElem? e1)).at
   obtain ⟨q2,z2,qs2,w2,a2,g2,k2,p2,l2,c2⟩:=(ru _ (List.mem_of_getElem? e2)).at
   rw[w1] at e1
   rw[w2] at e2
   have W3:3^(17*t)*WV<=2^140:=pow3_le (by lia) V1
   walk_at "w"
   refine rd_ixL (SqL.of gu) (atI_nat e1) ?_
   walk_at "w"
   refine rd_ixL (SqL.of gu) (atI_nat e2) ?_
   walk_at "w"
   refine ⟨_,q2,_,qs2,rfl,nb,szn_int (by lia),⟨z2,g2,p2⟩,by lia,fun y hy=>frP_szn M0 M1 V1 (by lia) (c2 y hy),fun r1 Hg n1 sg R1=>?_⟩
   walk_at "w"
   refine ⟨q1,r1,qs1,_,rfl,⟨z1,sg _ _ g1,Paired.imp' (fun _ _ y=>y.same sg) p1⟩,R1,by rw[List.length_map,l1,l2],by lia,fun y hy=>frP_szn M0 M1 V1 (by lia) (c1 y hy),fun y hy=>?_,fun r2 Hh n2' sh R2=>?_⟩
   ·obtain ⟨y',hy',rfl⟩:=List.mem_map.mp hy
    exact szn_mulP hz (c2 y' hy') M0 M1 W3
   have sfh:=sg.trans sh
   have Xh:=(Xf.same sfh).weak (C':=Fr M (3^(17*t+1)*WV)) fun y h=>h.mono (pow3_m (by lia))
   have kph:=kpf.same sfh
   have guh:=sfh _ _ gu
   have ar2:A r2:=(kpf.same sg).new hA (Xf.same sg).bag (by rw[sg _ _ gu];simp) n2'
   have rp2:RowP K A Hh n (Fr M (3^(17*t+1)*WV)) (.ref r2):=by
    refine ⟨r2,_,rfl,ar2,R2,by rw[List.length_zipWith,List.length_map];lia,fun y hy=>?_⟩
    obtain ⟨j',hj',e⟩:=List.getElem_of_mem hy
    rw[List.getElem_zipWith,List.getElem_map] at e
    rw[← e,← pow3_s]
    exact fr_step hz (c1 _ (List.getElem_mem _)) (c2 _ (List.getElem_mem _))
   walk_at "w"
   refine rd_setL guh (ixN_nat (by lia)) rfl ?_
   have Xi:=Xh.row MA guh rp2 ii
   have kpi:=kph.upd (o:=.lst (us.set ii (.ref r2))) (q:=m) (.inr rfl)
   have nli:NumQ K (upd Hh m (.lst (us.set ii (.ref r2)))) ((0 - z:Int):Rat) (.ref lt):=(nl.same sfh).updL guh
   have nbi:NumQ K (upd Hh m (.lst (us.set ii (.ref r2)))) ((z:Int):Rat) (.ref bt):=(nb.same sfh).updL guh
   generalize upd Hh m (.lst (us.set ii (.ref r2)))=Hi at Xi kpi nli nbi ⊢
   clear nb nl Xf kpf gu ru e1 e2 g1 p1 g2 p2 R1 R2 Xh kph guh rp2 sg sh sfh
   obtain ⟨um,gm,lm,_,rm⟩:=id Xi.gm
   obtain ⟨vl,gl,ll,_,rl⟩:=id Xi.gl
   walk_at "w"
   refine rd_cat gm gl (Nat.le_of_lt (small1000 (by lia))) fun cl Hj sj nj gj=>?_
   have Xj:=Xi.same sj
   have kpj:=kpi.same sj
   have rows:∀x∈um++vl,∀q,x=V.ref q->q≠cl:=fun x hx q e y=>by
    have:RowP K A Hi n (Fr M (3^(17*t+1)*WV)) x:=by
     rcases List.mem_append.mp hx with hx | hx
     ·exact rm x hx
     ·exact rl x hx
    obtain ⟨q',zs,_,e',_,g',_⟩:=this.at
    rw[e] at e'
    cases e'
    rw[y,nj] at g'
    cases g'
   have lj:NumQ K Hj ((0 - z:Int):Rat) (.ref lt):=nli.same sj
   have bj:NumQ K Hj ((z:Int):Rat) (.ref bt):=nbi.same sj
   clear Xi kpi nli nbi
   refine ⟨_,rfl,⟨_,SqL.of gj⟩,?_⟩
   have gmj:=sj _ _ gm
   have glj:=sj _ _ gl
   refine for_list (K:=K) (a:=cl) (xs:=um++vl) (fun s σ' H'=>∃x6:Option V,σ'=[some (.ref b),some (.ref m),some (.ref p),some (.ref l),some (.int n),some (.int t),some (.int ii),some (.int jj),some (.ref bt),some (.ref lt),x6]∧Mix K A H' n (Fr M (3^(17*t+1+s)*WV)) m p l b q0 i o∧KeepC A b m H H'∧H' cl=some (.lst (um++vl))∧H' m=some (.lst um)∧H' l=some (.lst vl)∧NumQ K H' ((0 - z:Int):Rat) (.ref lt)∧NumQ K H' ((z:Int):Rat) (.ref bt)) ⟨_,rfl,Xj,kpj,gj,gmj,glj,lj,bj⟩ (fun s σ' H' _ ⟨_,_,_,_,e,_⟩=>SqL.of e) ?_ ?_
   ·rintro s x σ' Hk hx ⟨y6,rfl,Xk,kpk,gk,gmk,glk,lk,bk⟩
    have hs:s < (um++vl).length:=(List.getElem?_eq_some_iff.mp hx).1
    rw[List.length_append] at hs
    have mx:=List.mem_of_getElem? hx
    have rx:RowP K A Hk n (Fr M (3^(17*t+1+s)*WV)) x:=by
     obtain ⟨um',gm',_,_,rm'⟩:=Xk.gm
     obtain ⟨vl',gl',_,_,rl'⟩:=Xk.gl
     rw[gmk] at gm'
     rw[glk] at gl'
     cases gm'
     cases gl'
     rcases List.mem_append.mp mx with hx | hx
     ·exact rm' x hx
     ·exact rl' x hx
    obtain ⟨q,zs,qs,rfl,aq,gq,lq,pq,lq2,cq⟩:=rx.at
    have qcl:=rows _ mx q rfl
    obtain ⟨vj,ej,nj'⟩:=ixQ pq (j:=jj) (by lia)
    obtain ⟨vi,ei,ni'⟩:=ixQ pq (j:=ii) (by lia)
    have cj:=cq _ (getD_mem (xs:=qs) (i:=jj) (by lia))
    have ci:=cq _ (getD_mem (xs:=qs) (i:=ii) (by lia))
    have W4:3^(17*t+1+s)*WV<=2^140:=pow3_le (by lia) V1
    walk_at "w"
    refine rd_ixL (SqL.of gq) ej ?_
    walk_at "w"
    refine rd_ixL (SqL.of gq) ei ?_
    walk_at "w"
    refine ⟨_,_,_,_,rfl,lk,ni',szn_int (by lia),frP_szn M0 M1 V1 (by lia) ci,fun r3 Hl sl n3=>?_⟩
    walk_at "w"
    refine ⟨_,_,_,_,rfl,nj'.same sl,n3,frP_szn M0 M1 V1 (by lia) cj,szn_mulP (by lia) ci M0 M1 W4,fun r4 Hm sm n4=>?_⟩
    have slm:=sl.trans sm
    walk_at "w"
    refine rd_setL (slm _ _ gq) (ixN_nat (by lia)) rfl ?_
    refine ⟨_,rfl,?_,(kpk.same slm).upd (.inl aq),by rw[upd_ne qcl.symm];exact slm _ _ gk,by rw[upd_ne (fun y=>MA.am (by rw[y];exact aq))];exact slm _ _ gmk,by rw[upd_ne (fun y=>MA.al (by rw[y];exact aq))];exact slm _ _ glk,(lk.same slm).updL (slm _ _ gq),(bk.same slm).updL (slm _ _ gq)⟩
    refine ((Xk.same slm).weak fun y h=>h.mono (pow3_m (by lia))).put MA aq (slm _ _ gq) n4 ?_ jj
    rw[← Nat.add_assoc,← pow3_s]
    exact fr_step (by lia) cj ci
   ·rintro σ' Hk ⟨y6,rfl,Xk,kpk,gk,gmk,glk,lk,bk⟩
    rw[List.length_append,lm,ll] at Xk
    obtain ⟨wp,gp,lp,_,rp⟩:=id Xk.gp
    walk_at "w"
    refine ⟨⟨_,SqL.of gp⟩,?_⟩
    refine for_list (K:=K) (a:=p) (xs:=wp) (fun s σ' H'=>∃x6:Option V,σ'=[some (.ref b),some (.ref m),some (.ref p),some (.ref l),some (.int n),some (.int t),some (.int ii),some (.int jj),some (.ref bt),some (.ref lt),x6]∧Mix K A H' n (Fr M (3^(17*t+1+(n+o)+s)*WV)) m p l b q0 i o∧KeepC A b m H H'∧H' p=some (.lst wp)∧NumQ K H' ((z:Int):Rat) (.ref bt)) ⟨_,rfl,Xk,kpk,gp,bk⟩ (fun s σ' H' _ ⟨_,_,_,_,e,_⟩=>SqL.of e) ?_ ?_
    ·rintro s x σ' Hl hx ⟨w6,rfl,Xl,kpl,gl',bl⟩
     have hs:s < wp.length:=(List.getElem?_eq_some_iff.mp hx).1
     have mx:=List.mem_of_getElem? hx
     have rx:RowP K A Hl n (Fr M (3^(17*t+1+(n+o)+s)*WV)) x:=by
      obtain ⟨wp',gp',_,_,rp'⟩:=Xl.gp
      rw[gl'] at gp'
      cases gp'
      exact rp' x mx
     obtain ⟨q,zs,qs,rfl,aq,gq,lq,pq,lq2,cq⟩:=rx.at
     obtain ⟨vj,ej,nj'⟩:=ixQ pq (j:=jj) (by lia)
     obtain ⟨vi,ei,ni'⟩:=ixQ pq (j:=ii) (by lia)
     have cj:=cq _ (getD_mem (xs:=qs) (i:=jj) (by lia))
     have ci:=cq _ (getD_mem (xs:=qs) (i:=ii) (by lia))
     have W4:3^(17*t+1+(n+o)+s)*WV<=2^140:=pow3_le (by lia) V1
     walk_at "w"
     refine rd_ixL (SqL.of gq) ei ?_
     walk_at "w"
     refine rd_ixL (SqL.of gq) ej ?_
     walk_at "w"
     refine ⟨_,_,_,_,rfl,bl,nj',szn_int (by lia),frP_szn M0 M1 V1 (by lia) cj,fun r3 Hm sm n3=>?_⟩
     walk_at "w"
     refine ⟨_,_,_,_,rfl,ni'.same sm,n3,frP_szn M0 M1 V1 (by lia) ci,szn_mulP (by lia) cj M0 M1 W4,fun r4 Hn sn n4=>?_⟩
     have smn:=sm.trans sn
     walk_at "w"
     refine rd_setL (smn _ _ gq) (ixN_nat (by lia)) rfl ?_
     refine ⟨_,rfl,?_,(kpl.same smn).upd (.inl aq),by rw[upd_ne (fun y=>MA.ap (by rw[y];exact aq))];exact smn _ _ gl',(bl.same smn).updL (smn _ _ gq)⟩
     refine ((Xl.same smn).weak fun y h=>h.mono (pow3_m (by lia))).put MA aq (smn _ _ gq) n4 ?_ ii
     rw[← Nat.add_assoc,← pow3_s]
     exact fr_step (by lia) ci cj
    ·rintro σ' Hl ⟨w6,rfl,Xl,kpl,gl',bl⟩
     exact ⟨_,_,_,_,_,_,rfl,Xl.weak fun y h=>h.mono (pow3_m (by lia)),kpl⟩
  ·rintro σ' H' ⟨x1,x2,x3,x4,x5,x6,rfl,X,kp⟩
   walk_at "w"
   refine rd_newT fun r H2' s' g'=>?_
   exact done r H2' _ (by lia) g' (X.same s') (kp.same s')
theorem sc__law_parts:FnScope ["_law_bag_here","_law_n","_law_ins","_law_outs","_law_wide","_law_way","_law_first","_law_move_here","_law_put","_law_look","_law_k","_law_row_here"] ["_law_bag_here","_law_n","_law_ins","_law_outs","_law_wide"] (defScope s__law_parts):=⟨rfl,rfl,rfl,by decide +kernel,rfl,by decide +kernel,by decide +kernel⟩
theorem ok__law_parts (T : Txt K mg Z) : FnOk P w K mg base CX0 5 Z.a__law_parts Z.d__law_parts ["_law_bag_here", "_law_n", "_law_ins", "_law_outs", "_law_wide"] (sp_partsQ K) := by
  have G__law_take := ok__law_take (P := P) (w := w) (base := base) T
  have G__law_move := ok__law_move (P := P) (w := w) (base := base) T
  have G__law_row := ok__law_row (P := P) (w := w) (base := base) T
  have G__law_mixed := ok__law_mixed (P := P) (w := w) (base := base) T
  refine T.F__law_parts.ok sc__law_parts (fun vs H Q E h => ?_) (fun cdv A outer s H vs Q E hr h => ?_)
  · obtain ⟨b, n, i, o, w, c, rfl, _⟩ := h
    rfl
  · obtain ⟨b, n, i, o, w, c, rfl, hB, n8, i4, o4, w0, w1, hc, hc20, hcM, k⟩ := h
    refine ⟨_, (pss_cons (ps_set (i := 5) sc__law_parts.nd rfl (Or.inl rfl) (pe_call G__law_take (hr.mono (by decide)) rfl T.mg__law_take T.F__law_take.kp T.b__law_take .nil pass0 (pa_cons (pv 0) (pa_cons pe_int pa_nil))))
      (pss_cons (ps_set (i := 6) sc__law_parts.nd rfl (Or.inl rfl) (pe_call G__law_take (hr.mono (by decide)) rfl T.mg__law_take T.F__law_take.kp T.b__law_take .nil pass0 (pa_cons (pv 0) (pa_cons (pe_op op_add (pv 1) pe_int) pa_nil))))
      (pss_cons (ps_set (i := 7) sc__law_parts.nd rfl (Or.inl rfl) (pe_call G__law_move (hr.mono (by decide)) rfl T.mg__law_move T.F__law_move.kp T.b__law_move .nil pass0 (pa_cons (pv 0) (pa_cons (pv 1) (pa_cons (pv 5) (pa_cons (pv 6) (pa_cons (pv 4) pa_nil)))))))
      (pss_cons (ps_setC 8 ["_law_k"] ["_law_bag_here", "_law_n", "_law_wide"] [0, 1, 4] sc__law_parts.nd rfl rfl (pi_range1 rfl T.range (pa_cons (pv 2) pa_nil)) (fun _ => (pg_name (i := 0) (show List.Nodup (α := PySem.Str) ["_law_k", "_law_bag_here", "_law_n", "_law_wide"] by decide +kernel) rfl (Or.inl rfl) (Or.inl rfl))) (fun _ => pf_nil) (fun _ => (pe_call G__law_row (hr.mono (by decide)) rfl T.mg__law_row T.F__law_row.kp T.b__law_row .nil pass0 (pa_cons (pv 1) (pa_cons (pv 2) (pa_cons (pv 3) pa_nil))))))
      (pss_cons (ps_setC 9 ["_law_k"] ["_law_bag_here", "_law_n", "_law_wide"] [0, 1, 4] sc__law_parts.nd rfl rfl (pi_range1 rfl T.range (pa_cons (pv 3) pa_nil)) (fun _ => (pg_name (i := 0) (show List.Nodup (α := PySem.Str) ["_law_k", "_law_bag_here", "_law_n", "_law_wide"] by decide +kernel) rfl (Or.inl rfl) (Or.inl rfl))) (fun _ => pf_nil) (fun _ => (pe_call G__law_row (hr.mono (by decide)) rfl T.mg__law_row T.F__law_row.kp T.b__law_row .nil pass0 (pa_cons (pv 1) (pa_cons (pv 2) (pa_cons (pv 3) pa_nil))))))
      (pss_cons (ps_for PassesOwn.never rfl (pi_range1 rfl T.range (pa_cons (pv 1) pa_nil)) (pg_name (i := 10) sc__law_parts.nd rfl (Or.inl rfl) (Or.inl rfl))
        (pss_cons (ps_for PassesOwn.never rfl (pi_list (pv 8)) (pg_name (i := 11) sc__law_parts.nd rfl (Or.inl rfl) (Or.inl rfl))
        (pss_one (ps_if (PW.pt (pw_or (PW.pt (pw_and (pt_cmpR op_eq (pv 5) pe_int (nomark _)) (pw_and1 (pt_cmpR op_ge (pv 10) (pv 6) (nomark _))))) (pw_or1 (PW.pt (pw_and (pt_cmpR op_eq (pv 5) pe_int (nomark _)) (pw_and (pt_cmpR op_lt (pe_op op_add (pv 10) pe_int) (pv 1) (nomark _)) (pw_and1 (pt_cmpR op_eq (pe_call G__law_take (hr.mono (by decide)) rfl T.mg__law_take T.F__law_take.kp T.b__law_take .nil pass0 (pa_cons (pv 0) (pa_cons pe_int pa_nil))) pe_int (nomark _))))))))) (pss_one (ps_asg (pe_tup (pa_cons pe_int (pa_cons pe_int pa_nil))) (pg_sub (pv 11) (pv 10) set_list))) pss_nil)))
      (pss_one (ps_for PassesOwn.never rfl (pi_list (pv 9)) (pg_name (i := 11) sc__law_parts.nd rfl (Or.inl rfl) (Or.inl rfl))
        (pss_one (ps_if (PW.pt (pw_or (PW.pt (pw_and (pt_cmpR op_eq (pv 5) pe_int (nomark _)) (pw_and1 (pt_cmpR op_ge (pv 10) (pv 6) (nomark _))))) (pw_or1 (PW.pt (pw_and (pt_cmpR op_eq (pv 5) pe_int (nomark _)) (pw_and (pt_cmpR op_gt (pv 10) pe_int (nomark _)) (pw_and1 (pt_cmpR op_eq (pe_call G__law_take (hr.mono (by decide)) rfl T.mg__law_take T.F__law_take.kp T.b__law_take .nil pass0 (pa_cons (pv 0) (pa_cons pe_int pa_nil))) pe_int (nomark _))))))))) (pss_one (ps_asg (pe_tup (pa_cons pe_int (pa_cons pe_int pa_nil))) (pg_sub (pv 11) (pv 10) set_list))) pss_nil))))))
      (pss_one (ps_ret (pe_call G__law_mixed (hr.mono (by decide)) rfl T.mg__law_mixed T.F__law_mixed.kp T.b__law_mixed .nil pass0 (pa_cons (pv 0) (pa_cons (pv 7) (pa_cons (pv 8) (pa_cons (pv 9) pa_nil))))))))))))), ?_⟩
    refine rd_start (σ := [some (.ref b), some (.int n), some (.int i), some (.int o), some (.int w), none, none, none, none, none, none, none]) rfl ?_
    have W1 : 1 ≤ max w 6 := by lia
    obtain ⟨q0, I0, xs0, gq0⟩ := hB.inner
    walk_at "w"
    refine ⟨b, 6, rfl, hB, by decide, by decide, fun way H1 a0 a1 B1 u1 => ?_⟩
    walk_at "w"
    refine ⟨b, _, rfl, B1, by lia, by lia, fun first H2 f0 f1 B2 u2 => ?_⟩
    have u02 := u1.trans u2
    walk_at "w"
    refine ⟨b, n, w, way, first, rfl, B2, n8, w0, w1, fun m us H3 nm0 gm lm rm B3 u3 => ?_⟩
    have u03 := u02.trans u3
    walk_at "w"
    refine ⟨by lia, by lia, ?_⟩
    refine comp_bagR (n := i) (b := b) (RowF K H3) (fun xs => xs.length = n ∧ ∀ x ∈ xs, Dr (max w 6) x) B3 (by lia) (fun a u B => a.upto u B B3.at) ?_ ?_
    · rintro s H' NY NN hi u B k1
      walk_at "w"
      exact ⟨b, n, w, rfl, B, by lia, w0, w1, fun r xs H2 nr R lx dx B2 u2 => k1 _ xs _ u2 B2 ⟨lx, dx⟩ ⟨r, rfl, u.none B nr, R⟩⟩
    rintro ws puts H4 p np u4 B4 gp lp hp pr4 nx4
    have u04 := u03.trans u4
    walk_at "w"
    refine ⟨by lia, by lia, ?_⟩
    refine comp_bagR (n := o) (b := b) (RowF K H4) (fun xs => xs.length = n ∧ ∀ x ∈ xs, Dr (max w 6) x) B4 (by lia) (fun a u B => a.upto u B B4.at) ?_ ?_
    · rintro s H' NY NN hi u B k1
      walk_at "w"
      exact ⟨b, n, w, rfl, B, by lia, w0, w1, fun r xs H2 nr R lx dx B2 u2 => k1 _ xs _ u2 B2 ⟨lx, dx⟩ ⟨r, rfl, u.none B nr, R⟩⟩
    rintro vs looks H5 l nl u5 B5 gl ll hl pr5 nx5
    have u05 := u04.trans u5
    have hm0 : H m = none := u02.none B2 nm0
    have hp0 : H p = none := u03.none B3 np
    have hl0 : H l = none := u04.none B4 nl
    have mb : m ≠ b := fun z => B2.at (by rw [← z]; exact nm0)
    have pb : p ≠ b := fun z => B3.at (by rw [← z]; exact np)
    have lb : l ≠ b := fun z => B4.at (by rw [← z]; exact nl)
    have gm4 := u4.other mb gm
    have gm5 := u5.other mb gm4
    have gp5 := u5.other pb gp
    have mp : m ≠ p := fun z => by rw [z, np] at gm; cases gm
    have ml : m ≠ l := fun z => by rw [z, nl] at gm4; cases gm4
    have pl : p ≠ l := fun z => by rw [z, nl] at gp; cases gp
    have mq : m ≠ q0 := fun z => Inner.at B2 (u02.2 _ I0) (by rw [← z]; exact nm0)
    obtain ⟨A, eA⟩ : ∃ A : Addr → Prop, A = fun q => H q = none ∧ q ≠ m ∧ q ≠ p ∧ q ≠ l := ⟨_, rfl⟩
    have mkA : ∀ {q}, H q = none → q ≠ m → q ≠ p → q ≠ l → A q := fun h1 h2 h3 h4 => by rw [eA]; exact ⟨h1, h2, h3, h4⟩
    have unA : ∀ {q}, A q → H q = none ∧ q ≠ m ∧ q ≠ p ∧ q ≠ l := fun h => by rw [eA] at h; exact h
    have MA : MixA A m p l b q0 := ⟨fun z => (unA z).2.1 rfl, fun z => (unA z).2.2.1 rfl, fun z => (unA z).2.2.2 rfl, fun z => hB.at (unA z).1, (fun z => by have z1 := (unA z).1; rw [gq0] at z1; cases z1), mb, pb, lb, mp, ml, mq⟩
    clear eA
    have X5 : PtI K A n (Dr (max w 6)) m p l b q0 i o ws vs H H5 := by
      refine ⟨⟨B5, u05.2 _ I0, ⟨us, gm5, lm, MA.am, fun x hx => ?_⟩, ⟨ws, gp5, by rw [← pr4.length]; exact lp, MA.ap, fun x hx => ?_⟩, ⟨vs, gl, by rw [← pr5.length]; exact ll, MA.al, ?_⟩⟩, gp5, gl, fun c u e n1 _ _ => u05.1 c u e n1⟩
      · obtain ⟨q, qs, e, ⟨a1, a2⟩, r, z⟩ := rm x hx
        obtain ⟨xq, gq, _⟩ := id r
        have qb : q ≠ b := fun y => B2.at (by rw [← y]; exact a1)
        have r4 := r.upto u4 B3 qb
        obtain ⟨xq4, gq4, _⟩ := id r4
        exact ⟨q, qs, e, mkA (u02.none B2 a1) a2 (fun y => by rw [y, np] at gq; cases gq) (fun y => by rw [y, nl] at gq4; cases gq4), r4.upto u5 B4 qb, z⟩
      · refine RowP.upto (rowF_P (A := A) pr4 hp (fun q hq a b' => ?_) x hx) u5 B4 MA.ab
        exact mkA (u03.none B3 a) (fun y => by rw [y, gm] at a; cases a) (fun y => notin nx4 (by rw [← y]; exact hq)) (fun y => b' (by rw [y]; exact nl))
      · refine rowF_P (A := A) pr5 hl (fun q hq a b' => ?_)
        exact mkA (u04.none B4 a) (fun y => by rw [y, gm4] at a; cases a) (fun y => by rw [y, gp] at a; cases a) (fun y => notin nx5 (by rw [← y]; exact hq))
    clear rm pr4 pr5 nx4 nx5 gm gm4 gm5 gp gp5 gl hp hl
    walk_at "w"
    refine ⟨by lia, by lia, ?_⟩
    refine for_rangeN (n := n) (fun kk σ' H' => (∃ x1 x2, σ' = [some (.ref b), some (.int n), some (.int i), some (.int o), some (.int w), some (.int way), some (.int first), some (.ref m), some (.ref p), some (.ref l), x1, x2]) ∧ PtI K A n (Dr (max w 6)) m p l b q0 i o ws vs H H') ⟨⟨_, _, rfl⟩, X5⟩ ?_ ?_
    · rintro kk σ' Hj hk ⟨⟨x1, x2, rfl⟩, X⟩
      walk_at "w"
      refine ⟨⟨_, SqL.of X.gp⟩, ?_⟩
      refine for_list (K := K) (a := p) (xs := ws) (fun s σ' H' => (∃ x2, σ' = [some (.ref b), some (.int n), some (.int i), some (.int o), some (.int w), some (.int way), some (.int first), some (.ref m), some (.ref p), some (.ref l), some (.int kk), x2]) ∧ PtI K A n (Dr (max w 6)) m p l b q0 i o ws vs H H') ⟨⟨_, rfl⟩, X⟩ (fun s σ' H' _ ⟨_, e⟩ => SqL.of e.gp) ?_ ?_
      · rintro s x σ' Hk hx ⟨⟨y2, rfl⟩, X⟩
        have mx := List.mem_of_getElem? hx
        obtain ⟨q, _, rfl, _⟩ := X.row (.inl mx)
        repeat' (first | walk_at "rd" | refine ite2 (fun _ => ?_) (fun _ => ?_))
        all_goals first
          | exact ⟨⟨_, rfl⟩, X⟩
          | (refine rd_newT fun t Hb sb gb => ?_
             walk_at "w"
             obtain ⟨zs, gz, lz, Xz⟩ := (X.same sb).put MA (.inl mx) (NumQ.mk (q := 0) gb rfl) (dr_int (i := 0) (Nat.zero_le _) W1) kk
             refine rd_setL gz (ixN_nat (by lia)) rfl ?_
             exact ⟨⟨_, rfl⟩, Xz⟩)
          | (refine ⟨b, 2, rfl, X.mix.bag, by decide, by decide, fun d Hd d0 d1 Bd ud => ?_⟩
             replace X := X.upto MA ud Bd
             repeat' (first | walk_at "rd" | refine ite2 (fun _ => ?_) (fun _ => ?_))
             all_goals first
               | exact ⟨⟨_, rfl⟩, X⟩
               | (refine rd_newT fun t Hb sb gb => ?_
                  walk_at "w"
                  obtain ⟨zs, gz, lz, Xz⟩ := (X.same sb).put MA (.inl mx) (NumQ.mk (q := 0) gb rfl) (dr_int (i := 0) (Nat.zero_le _) W1) kk
                  refine rd_setL gz (ixN_nat (by lia)) rfl ?_
                  exact ⟨⟨_, rfl⟩, Xz⟩))
      · rintro σ' Hk ⟨⟨y2, rfl⟩, X⟩
        walk_at "w"
        refine ⟨⟨_, SqL.of X.gl⟩, ?_⟩
        refine for_list (K := K) (a := l) (xs := vs) (fun s σ' H' => (∃ x2, σ' = [some (.ref b), some (.int n), some (.int i), some (.int o), some (.int w), some (.int way), some (.int first), some (.ref m), some (.ref p), some (.ref l), some (.int kk), x2]) ∧ PtI K A n (Dr (max w 6)) m p l b q0 i o ws vs H H') ⟨⟨_, rfl⟩, X⟩ (fun s σ' H' _ ⟨_, e⟩ => SqL.of e.gl) ?_ ?_
        · rintro s x σ' Hk hx ⟨⟨y2, rfl⟩, X⟩
          have mx := List.mem_of_getElem? hx
          obtain ⟨q, _, rfl, _⟩ := X.row (.inr mx)
          repeat' (first | walk_at "rd" | refine ite2 (fun _ => ?_) (fun _ => ?_))
          all_goals first
            | exact ⟨⟨_, rfl⟩, X⟩
            | (refine rd_newT fun t Hb sb gb => ?_
               walk_at "w"
               obtain ⟨zs, gz, lz, Xz⟩ := (X.same sb).put MA (.inr mx) (NumQ.mk (q := 0) gb rfl) (dr_int (i := 0) (Nat.zero_le _) W1) kk
               refine rd_setL gz (ixN_nat (by lia)) rfl ?_
               exact ⟨⟨_, rfl⟩, Xz⟩)
            | (refine ⟨b, 2, rfl, X.mix.bag, by decide, by decide, fun d Hd d0 d1 Bd ud => ?_⟩
               replace X := X.upto MA ud Bd
               repeat' (first | walk_at "rd" | refine ite2 (fun _ => ?_) (fun _ => ?_))
               all_goals first
                 | exact ⟨⟨_, rfl⟩, X⟩
                 | (refine rd_newT fun t Hb sb gb => ?_
                    walk_at "w"
                    obtain ⟨zs, gz, lz, Xz⟩ := (X.same sb).put MA (.inr mx) (NumQ.mk (q := 0) gb rfl) (dr_int (i := 0) (Nat.zero_le _) W1) kk
                    refine rd_setL gz (ixN_nat (by lia)) rfl ?_
                    exact ⟨⟨_, rfl⟩, Xz⟩))
        · rintro σ' Hk ⟨⟨y2, rfl⟩, X⟩
          exact ⟨⟨_, _, rfl⟩, X⟩
    · rintro σ' Hj ⟨⟨x1, x2, rfl⟩, X⟩
      obtain ⟨M, M0, M1, XM⟩ := (X.mix.weak (C' := Dr (2 ^ c)) fun y h => ⟨Nat.le_trans h.1 hc, Nat.le_trans h.2 hc⟩).fr
      have V1 : 2 ^ c ≤ 2 ^ 20 := Nat.pow_le_pow_right (by decide) hc20
      obtain ⟨um, gmj, _, _, _⟩ := X.mix.gm
      walk_at "w"
      refine ⟨b, m, p, l, q0, n, i, o, M, 2 ^ c, A, rfl, MA, XM, n8, i4, o4, M0, Nat.le_trans M1 (Nat.pow_le_pow_right (by decide) hcM), V1, fun q hq => ?_, fun r H' g Y kp => ?_⟩
      · refine mkA ?_ (fun z => by rw [z, gmj] at hq; cases hq) (fun z => by rw [z, X.gp] at hq; cases hq) (fun z => by rw [z, X.gl] at hq; cases hq)
        cases e : H q with
        | none => rfl
        | some u =>
          have := X.kp q u e (fun z => X.mix.bag.at (by rw [← z]; exact hq)) (fun z => by have := (unA z).1; rw [e] at this; cases this) (fun z => by rw [z, hm0] at e; cases e)
          rw [hq] at this; cases this
      · obtain ⟨mv, Gm, lmv, hmv⟩ := gridP_grid (H0 := H) Y.gm fun q h => (unA h).1
        obtain ⟨pt, Gp, lpt, hpt⟩ := gridP_grid (H0 := H) Y.gp fun q h => (unA h).1
        obtain ⟨lk, Gl, llk, hlk⟩ := gridP_grid (H0 := H) Y.gl fun q h => (unA h).1
        refine k r m p l mv pt lk H' g hm0 hp0 hl0 Gm Gp Gl lmv lpt llk ⟨by lia, by lia, by lia, fun xs hx => by rw [(hmv xs hx).1, lmv], fun xs hx => by rw [(hpt xs hx).1, lmv], fun xs hx => by rw [(hlk xs hx).1, lmv]⟩ ⟨M, _, M0, Nat.le_trans M1 (Nat.pow_le_pow_right (by decide) hcM), Nat.le_trans (pow3_le (t := 60) (by decide) V1) (Nat.pow_le_pow_right (by decide) (by decide)), fun xs hx => (hmv xs hx).2, fun xs hx => (hpt xs hx).2, fun xs hx => (hlk xs hx).2⟩ Y.bag ⟨fun c' u e n1 => (X.kp.trans kp) c' u e n1 (fun z => by have := (unA z).1; rw [e] at this; cases this) (fun z => by rw [z, hm0] at e; cases e), fun q h => by rw [← Inner.inj I0 h]; exact Y.inn⟩
theorem sc__law_drawn:FnScope ["_law_bag_here","_law_n","_law_ins","_law_outs","_law_wide"] ["_law_bag_here"] (defScope s__law_drawn):=⟨rfl,rfl,rfl,by decide +kernel,rfl,by decide +kernel,by decide +kernel⟩
theorem ok__law_drawn (T:Txt K mg Z):FnOk P w K mg base CX0 6 Z.a__law_drawn Z.d__law_drawn ["_law_bag_here"] (sp_drawnQ K):=by
 have G__law_sizes:=ok__law_sizes (P:=P) (w:=w) (base:=base) T
 have G__law_parts:=ok__law_parts (P:=P) (w:=w) (base:=base) T
 refine T.F__law_drawn.ok sc__law_drawn (fun vs H Q E h=>?_) (fun cdv A outer s H vs Q E hr h=>?_)
 ·obtain ⟨b,rfl,_⟩:=h
  rfl
 ·obtain ⟨b,rfl,hB,k⟩:=h
  refine ⟨_,(pss_cons (ps_asg (pe_call G__law_sizes (hr.mono (by decide)) rfl T.mg__law_sizes T.F__law_sizes.kp T.b__law_sizes .nil pass0 (pa_cons (pv 0) pa_nil)) (pg_tup rfl (pgs_cons (pg_name (i:=1) sc__law_drawn.nd rfl (Or.inl rfl) (Or.inl rfl)) (pgs_cons (pg_name (i:=2) sc__law_drawn.nd rfl (Or.inl rfl) (Or.inl rfl)) (pgs_cons (pg_name (i:=3) sc__law_drawn.nd rfl (Or.inl rfl) (Or.inl rfl)) (pgs_cons (pg_name (i:=4) sc__law_drawn.nd rfl (Or.inl rfl) (Or.inl rfl)) pgs_nil))))))
   (pss_one (ps_ret (pe_tup (pa_cons (pe_call G__law_parts (hr.mono (by decide)) rfl T.mg__law_parts T.F__law_parts.kp T.b__law_parts .nil pass0 (pa_cons (pv 0) (pa_cons (pv 1) (pa_cons (pv 2) (pa_cons (pv 3) (pa_cons (pv 4) pa_nil)))))) (pa_cons (pe_callB (call_min2 rfl) (by rfl) T.min PyProof.Rows.boot_min (pa_cons (pv 4) (pa_cons pe_int pa_nil))) pa_nil)))))),?_⟩
  refine rd_start (σ:=[some (.ref b),none,none,none,none]) rfl ?_
  walk_at "w"
  refine ⟨b,rfl,hB,fun r n i o w H1 g1 n5 i4 o4 hw h5 B1 u1=>?_⟩
  obtain ⟨c,hc,hc20,hcM⟩:∃c:Nat,max w 6<=2^c∧c<=20∧c*((n+i+o)*n)<=800:=by
   have m1:(n+i+o)*n<=13*5:=Nat.mul_le_mul (by lia) n5
   rcases hw with z | z | ⟨z,n2⟩
   ·exact ⟨4,by have:(2:Nat)^4=16:=rfl;lia,by decide,by lia⟩
   ·exact ⟨4,by have:(2:Nat)^4=16:=rfl;lia,by decide,by lia⟩
   ·have m2:(n+i+o)*n<=10*2:=Nat.mul_le_mul (by lia) n2
    exact ⟨20,by have:(2:Nat)^20=1048576:=rfl;lia,by decide,by lia⟩
  have w1:1<=w∧w<=1000000:=by lia
  walk_at "w"
  refine ⟨b,n,i,o,w,c,rfl,B1,by lia,i4,o4,w1.1,w1.2,hc,hc20,hcM,fun r2 m p l mv pt lk H2 g2 nm0 np nl Gm Gp Gl lm lp ll D F B2 u2=>?_⟩
  have wk:∀q,H1 q=none->H q=none:=fun q h=>u1.none B1 h
  have PQ:PartsQ K H H2 r2 mv pt lk:=PartsQ.weak (H0:=H1) ⟨m,p,l,g2,nm0,np,nl,Gm,Gp,Gl⟩ wk
  walk_at "w"
  refine rd_newT fun t H3 s3 g3=>?_
  have e1:(if (1000:Int) < (w:Int) then (1000:Int) else (w:Int))=((min w 1000:Nat):Int):=by split <;> lia
  refine k t r2 (min w 1000) mv pt lk H3 ?_ (PQ.same s3) D F (by lia) (by lia) (by lia) (B2.same s3) ((u1.trans u2).same s3)
  rw[← e1]
  exact g3
theorem sc_read_whole:FnScope ["text","whole","sign"] ["text"] (defScope s_read_whole):=⟨rfl,rfl,rfl,by decide +kernel,rfl,by decide +kernel,by decide +kernel⟩
theorem ok_read_whole (T:Txt K mg Z):FnOk P w K mg base (CXE P w) 1 Z.a_read_whole Z.d_read_whole ["text"] (sp_rw2 Z.a_NoText):=by
 refine T.F_read_whole.okX sc_read_whole (fun vs H Q E h=>?_) (fun cdv A outer s H vs Q E hr h=>?_)
 ·obtain ⟨l,rfl,_⟩:=h
  rfl
 ·obtain ⟨l,rfl,hl,k,ke⟩:=h
  refine ⟨_,(pss_cons (ps_if (PW.pt (pw_or (pt_cmpR op_eq (pv 0) pe_str (nomark _)) (pw_or1 (pt_not (pt_val (pe_callB (call_all rfl) (by rfl) T.all PyProof.Rows.boot_all (pa_cons (pe_comp ["sign"] [] [] (pi_str (pv 0)) (fun _=>(pg_name (i:=0) (show List.Nodup (α:=PySem.Str) ["sign"] by decide +kernel) rfl (Or.inl rfl) (Or.inl rfl))) (fun _=>pf_nil) (fun _=>(pe_cmpR op_in_str (pv 0) (pe_glob (v:=.str (Str.ofString "0123456789")) rfl T.mg_FIGURES ⟨_,rfl⟩) (by with_unfolding_all rfl)))) pa_nil))))))) (pss_one (ps_raise0 throws_def rfl rfl T.mg_NoText T.ex_NoText)) pss_nil)
   (pss_cons (ps_if (PW.pt (pw_and (pt_val (pe_bm PySem.F.plainAttrs_str PySem.F.slot_str_startswith PySem.F.type_str_startswith mt_starts (pv 0) (pa_cons pe_str pa_nil))) (pw_and1 (pt_cmpR op_ne (pv 0) pe_str (nomark _))))) (pss_one (ps_raise0 throws_def rfl rfl T.mg_NoText T.ex_NoText)) pss_nil)
   (pss_cons (ps_set (i:=1) sc_read_whole.nd rfl (Or.inl rfl) pe_int)
   (pss_cons (ps_for own_def rfl (pi_str (pv 0)) (pg_name (i:=2) sc_read_whole.nd rfl (Or.inl rfl) (Or.inl rfl))
    (pss_one (ps_set (i:=1) sc_read_whole.nd rfl (Or.inl rfl) (pe_op op_add (pe_op op_mulS (pv 1) pe_int) (pe_bm PySem.F.plainAttrs_str PySem.F.slot_str_index PySem.F.type_str_index mt_sindex (pe_glob (v:=.str (Str.ofString "0123456789")) rfl T.mg_FIGURES ⟨_,rfl⟩) (pa_cons (pv 2) pa_nil))))))
   (pss_one (ps_ret (pv 1))))))),?_⟩
  refine rd_start (σ:=[some (.str (sl l)),none,none]) rfl ?_
  walk_at "w"
  by_cases e0:l=[]
  ·subst e0
   rw[decide_eq_true (show sl []=Str.ofString "" from sl_empty.symm)]
   walk_at "w"
   exact ke (fun n h=>h.1 rfl) _ (Same.refl _)
  rw[decide_eq_false (show ¬(sl l=Str.ofString "") from fun z=>e0 (sl_inj (z.trans sl_empty)))]
  walk_at "w"
  refine ⟨_,rfl,_,rfl,?_⟩
  refine comp_str (x:=sl l) (fun i ys H'=>H'=H∧ys=(l.take i).map fun c=>V.bl (decide (c∈[48,49,50,51,52,53,54,55,56,57]))) (by rw[sl_toList];exact big10000 (by lia)) ⟨rfl,rfl⟩ ?_ ?_
  ·rintro i c ys H' hx hlen ⟨rfl,rfl⟩
   rw[sl_toList] at hx
   walk_at "w"
   refine ⟨_,_,rfl,rfl,?_⟩
   rw[sl_figs,in_one]
   exact ⟨rfl,by rw[take_snoc hx,List.map_append];rfl⟩
  rintro ys H' hy ⟨rfl,rfl⟩ p hp
  rw[sl_toList,List.take_length]
  walk_at "w"
  refine ⟨p,l.map fun c=>decide (c∈[48,49,50,51,52,53,54,55,56,57]),rfl,SqL.of (by rw[upd_same,List.map_map];rfl),?_⟩
  have s1:Same H' (upd H' p (.lst (l.map fun c=>V.bl (decide (c∈[48,49,50,51,52,53,54,55,56,57]))))):=Same.new hp
  generalize upd H' p (.lst (l.map fun c=>V.bl (decide (c∈[48,49,50,51,52,53,54,55,56,57]))))=H1 at s1 ⊢
  by_cases w1:NumText.AllDigits l
  ·have e4:((l.map fun c=>decide (c∈[48,49,50,51,52,53,54,55,56,57])).all id)=true:=by
    rw[List.all_map,List.all_eq_true]
    intro c hc
    have:=w1 c hc
    simp
    try omega
   rw[e4]
   walk_at "w"
   refine ⟨rfl,?_⟩
   walk_at "w"
   refine ⟨_,48,rfl,rfl,?_⟩
   rw[sl_toList]
   by_cases e1:l.head?=some 48
   ·rw[decide_eq_true e1]
    walk_at "w"
    by_cases e2:l=[48]
    ·rw[decide_eq_true (show sl l=Str.ofString "0" by rw[e2,sl_zero])]
     have wh:Who l (NumText.digitsVal l):=⟨e0,w1,fun _=>e2,rfl⟩
     walk_at "w"
     refine ⟨_,rfl,_,rfl,?_⟩
     refine for_str (x:=sl l) (fun i σ' H'=>H'=H1∧∃x,σ'=[some (.str (sl l)),some (.int (NumText.digitsVal (l.take i):Nat)),x]) ⟨rfl,none,by rw[List.take_zero];rfl⟩ ?_ ?_
     ·rintro i c σ' H2 hx ⟨rfl,x,rfl⟩
      rw[sl_toList] at hx
      have hc:=w1 c (List.mem_of_getElem? hx)
      obtain ⟨r,er⟩:=figs_at c hc.1 hc.2
      walk_at "w"
      refine ⟨rfl,?_⟩
      walk_at "w"
      refine ⟨_,_,c - 48,r,rfl,rfl,er,?_⟩
      walk_at "w"
      exact ⟨rfl,_,by rw[who_take hx];push_cast;rfl⟩
     rintro σ' H2 ⟨rfl,x,rfl⟩
     rw[sl_toList,List.take_length]
     walk_at "w"
     exact k _ wh _ s1
    ·rw[decide_eq_false (show ¬sl l=Str.ofString "0" from fun z=>e2 (sl_inj (z.trans sl_zero)))]
     walk_at "w"
     exact ke (fun n h=>e2 (h.2.2.1 e1)) _ s1
   ·rw[decide_eq_false e1]
    have wh:Who l (NumText.digitsVal l):=⟨e0,w1,fun z=>absurd z e1,rfl⟩
    walk_at "w"
    refine ⟨_,rfl,_,rfl,?_⟩
    refine for_str (x:=sl l) (fun i σ' H'=>H'=H1∧∃x,σ'=[some (.str (sl l)),some (.int (NumText.digitsVal (l.take i):Nat)),x]) ⟨rfl,none,by rw[List.take_zero];rfl⟩ ?_ ?_
    ·rintro i c σ' H2 hx ⟨rfl,x,rfl⟩
     rw[sl_toList] at hx
     have hc:=w1 c (List.mem_of_getElem? hx)
     obtain ⟨r,er⟩:=figs_at c hc.1 hc.2
     walk_at "w"
     refine ⟨rfl,?_⟩
     walk_at "w"
     refine ⟨_,_,c - 48,r,rfl,rfl,er,?_⟩
     walk_at "w"
     exact ⟨rfl,_,by rw[who_take hx];push_cast;rfl⟩
    rintro σ' H2 ⟨rfl,x,rfl⟩
    rw[sl_toList,List.take_length]
    walk_at "w"
    exact k _ wh _ s1
  ·have e4:((l.map fun c=>decide (c∈[48,49,50,51,52,53,54,55,56,57])).all id)=false:=by
    rw[List.all_map,Bool.eq_false_iff]
    intro z
    rw[List.all_eq_true] at z
    refine w1 fun c hc=>?_
    have:=z c hc
    simp at this
    try omega
   rw[e4]
   walk_at "w"
   exact ke (fun n h=>w1 h.2.1) _ s1
theorem sc_read_top:FnScope ["text","top"] ["text"] (defScope s_read_top):=⟨rfl,rfl,rfl,by decide +kernel,rfl,by decide +kernel,by decide +kernel⟩
theorem ok_read_top (T:Txt K mg Z):FnOk P w K mg base (CXE P w) 2 Z.a_read_top Z.d_read_top ["text"] (sp_rt2 Z.a_NoText):=by
 have G_read_whole:=ok_read_whole (P:=P) (w:=w) (base:=base) T
 refine T.F_read_top.okX sc_read_top (fun vs H Q E h=>?_) (fun cdv A outer s H vs Q E hr h=>?_)
 ·obtain ⟨l,rfl,_⟩:=h
  rfl
 ·obtain ⟨l,rfl,hl,k,ke⟩:=h
  refine ⟨_,(pss_cons (ps_if (pt_not (pt_val (pe_bm PySem.F.plainAttrs_str PySem.F.slot_str_startswith PySem.F.type_str_startswith mt_starts (pv 0) (pa_cons pe_str pa_nil)))) (pss_one (ps_ret (pe_call G_read_whole (hr.mono (by decide)) rfl T.mg_read_whole T.F_read_whole.kp T.b_read_whole .nil pass_def (pa_cons (pv 0) pa_nil)))) pss_nil)
   (pss_cons (ps_set (i:=1) sc_read_top.nd rfl (Or.inl rfl) (pe_un un_neg (pe_call G_read_whole (hr.mono (by decide)) rfl T.mg_read_whole T.F_read_whole.kp T.b_read_whole .nil pass_def (pa_cons (pe_slice sl_strX (pv 0) (po_some pe_int) po_none) pa_nil))))
   (pss_cons (ps_if (pt_cmpR op_eq (pv 1) pe_int (nomark _)) (pss_one (ps_raise0 throws_def rfl rfl T.mg_NoText T.ex_NoText)) pss_nil)
   (pss_one (ps_ret (pv 1)))))),?_⟩
  refine rd_start (σ:=[some (.str (sl l)),none]) rfl ?_
  walk_at "w"
  refine ⟨rfl,?_⟩
  walk_at "w"
  refine ⟨_,45,rfl,rfl,?_⟩
  rw[sl_toList]
  by_cases e0:l.head?=some 45
  ·obtain ⟨r,rfl⟩:∃r,l=45 :: r:=by
    cases l with
    | nil=>cases e0
    | cons a r=>exact ⟨r,by rw[show a=45 by simpa using e0]⟩
   rw[decide_eq_true e0]
   rw[List.length_cons] at hl
   have no:(∀n,Who r n->n=0)->∀i,(45 :: r)≠intT i:=fun z i e=>by
    unfold intT at e
    split at e
    ·have w:=who_digs i.natAbs
     rw[← (List.cons.inj e).2] at w
     have:=z _ w
     lia
    ·obtain ⟨c,q,ec,_⟩:=digs_head i.natAbs
     have:=digs_all i.natAbs c (by rw[ec];simp)
     rw[ec] at e
     have:=(List.cons.inj e).1
     lia
   walk_at "w"
   refine ⟨_,rfl,by rw[List.length_cons];lia,?_⟩
   rw[show cutN (45 :: r) (some 1) none=r from cutN_from _ 1]
   walk_at "w"
   refine ⟨r,rfl,by lia,fun n w H1 s1=>?_,fun z H1 s1=>ke (no fun n w=>absurd w (z n)) _ s1⟩
   walk_at "w"
   by_cases n0:n=0
   ·subst n0
    rw[decide_eq_true (show -((0:Nat):Int)=0 by rfl)]
    walk_at "w"
    refine ke (no fun m w'=>?_) _ s1
    have a:=who_eq w
    rw[who_eq w'] at a
    exact digs_inj a
   ·rw[decide_eq_false (show ¬-((n:Nat):Int)=0 by lia)]
    walk_at "w"
    refine k _ ?_ _ s1
    unfold intT
    rw[if_pos (by lia),who_eq w]
    congr 2
    lia
  ·rw[decide_eq_false e0]
   walk_at "w"
   refine ⟨l,rfl,hl,fun n w H1 s1=>k _ ?_ _ s1,fun z H1 s1=>ke (fun i e=>?_) _ s1⟩
   ·unfold intT
    rw[if_neg (by lia),who_eq w]
    congr 1
   ·unfold intT at e
    split at e
    ·rw[e] at e0
     exact e0 rfl
    ·have w:=who_digs i.natAbs
     rw[← e] at w
     exact z _ w
theorem sc_common_divisor:FnScope ["one","other","rest"] ["one","other"] (defScope s_common_divisor):=⟨rfl,rfl,rfl,by decide +kernel,rfl,by decide +kernel,by decide +kernel⟩
theorem ok_common_divisor (T:Txt K mg Z):FnOk P w K mg base CX0 1 Z.a_common_divisor Z.d_common_divisor ["one","other"] sp_cd:=by
 refine T.F_common_divisor.ok sc_common_divisor (fun vs H Q E h=>?_) (fun cdv A outer s H vs Q E hr h=>?_)
 ·obtain ⟨a,b,rfl,_⟩:=h
  rfl
 ·obtain ⟨a,b,rfl,k⟩:=h
  refine ⟨_,(pss_cons (ps_while PassesOwn.never (pt_cmpR op_ne (pv 1) pe_int (nomark _))
    (pss_cons (ps_set (i:=2) sc_common_divisor.nd rfl (Or.inl rfl) (pe_op op_modN (pv 0) (pv 1)))
   (pss_cons (ps_set (i:=0) sc_common_divisor.nd rfl (Or.inl rfl) (pv 1))
   (pss_one (ps_set (i:=1) sc_common_divisor.nd rfl (Or.inl rfl) (pv 2))))))
   (pss_one (ps_ret (pe_callB call_abs (by rfl) T.abs PyProof.Rows.boot_abs (pa_cons (pv 0) pa_nil))))),?_⟩
  refine rd_start (σ:=[some (.int a),some (.int b),none]) rfl ?_
  walk_at "w"
  refine while_i (fun σ' H'=>∃(u v:Int) (r:Option V),σ'=[some (.int u),some (.int v),r]∧H'=H∧Int.gcd u v=Int.gcd a b) (fun σ' _=>match σ' with | [_,some (.int v),_]=>v.natAbs | _=>0) ⟨a,b,none,rfl,rfl,rfl⟩ ?_
  rintro σ' H' ⟨u,v,r,rfl,rfl,hg⟩
  walk_at "w"
  refine ite2 (fun h=>?_) (fun h=>?_)
  ·have hv:v≠0:=fun z=>by subst z;simp at h
   walk_at "w"
   refine rd_I (show v≠0 from hv) ?_
   walk_at "w"
   exact ⟨⟨v,u.fmod v,_,rfl,rfl,(gcd_fmod u v).trans hg⟩,fmod_lt u v hv⟩
  ·have hv:v=0:=by
    by_cases z:v=0
    ·exact z
    ·exfalso;apply h;simp [z]
   subst hv
   walk_at "w"
   have e:(if u < 0 then -u else u)=g a b:=by
    unfold g
    rw[← hg,Int.gcd_zero_right]
    split <;> lia
   rw[e]
   exact k
theorem sc_read_number:FnScope ["text","parts","top","bottom"] ["text"] (defScope s_read_number):=⟨rfl,rfl,rfl,by decide +kernel,rfl,by decide +kernel,by decide +kernel⟩
theorem ok_read_number (T:Txt K mg Z):FnOk P w K mg base (CXE P w) 3 Z.a_read_number Z.d_read_number ["text"] (sp_rn3 Z.a_NoText):=by
 have G_read_top:=ok_read_top (P:=P) (w:=w) (base:=base) T
 have G_read_whole:=ok_read_whole (P:=P) (w:=w) (base:=base) T
 have G_common_divisor:=ok_common_divisor (P:=P) (w:=w) (base:=base) T
 refine T.F_read_number.okX sc_read_number (fun vs H Q E h=>?_) (fun cdv A outer s H vs Q E hr h=>?_)
 ·obtain ⟨y,rfl,_⟩:=h
  rfl
 ·obtain ⟨y,rfl,h⟩:=h
  refine ⟨_,(pss_cons (ps_if (pt_not (pt_val (pe_isT rfl T.isinstance PyProof.Rows.boot_str T.str (pv 0)))) (pss_one (ps_raise0 throws_def rfl rfl T.mg_NoText T.ex_NoText)) pss_nil)
   (pss_cons (ps_set (i:=1) sc_read_number.nd rfl (Or.inl rfl) (pe_bm PySem.F.plainAttrs_str PySem.F.slot_str_partition PySem.F.type_str_partition mt_part (pv 0) (pa_cons pe_str pa_nil)))
   (pss_cons (ps_set (i:=2) sc_read_number.nd rfl (Or.inl rfl) (pe_call G_read_top (hr.mono (by decide)) rfl T.mg_read_top T.F_read_top.kp T.b_read_top .nil pass_def (pa_cons (pe_ix ix_tup (pv 1) pe_int (by intro _ _;rfl)) pa_nil)))
   (pss_cons (ps_if (pt_cmpR op_eq (pe_ix ix_tup (pv 1) pe_int (by intro _ _;rfl)) pe_str (nomark _)) (pss_one (ps_ret (pe_tup (pa_cons (pv 2) (pa_cons pe_int pa_nil))))) pss_nil)
   (pss_cons (ps_set (i:=3) sc_read_number.nd rfl (Or.inl rfl) (pe_call G_read_whole (hr.mono (by decide)) rfl T.mg_read_whole T.F_read_whole.kp T.b_read_whole .nil pass_def (pa_cons (pe_ix ix_tup (pv 1) pe_int (by intro _ _;rfl)) pa_nil)))
   (pss_cons (ps_if (PW.pt (pw_or (pt_cmpR op_lt (pv 3) pe_int (nomark _)) (pw_or1 (pt_cmpR op_ne (pe_call G_common_divisor (hr.mono (by decide)) rfl T.mg_common_divisor T.F_common_divisor.kp T.b_common_divisor .nil pass0 (pa_cons (pv 2) (pa_cons (pv 3) pa_nil))) pe_int (nomark _))))) (pss_one (ps_raise0 throws_def rfl rfl T.mg_NoText T.ex_NoText)) pss_nil)
   (pss_one (ps_ret (pe_tup (pa_cons (pv 2) (pa_cons (pv 3) pa_nil))))))))))),?_⟩
  refine rd_start (σ:=[some y,none,none,none]) rfl ?_
  rcases h with ⟨od,ke⟩ | ⟨l,rfl,hl,k,ke⟩
  ·walk_at "w"
   refine rd_isS od ?_
   walk_at "w"
   exact ke
  walk_at "w"
  refine ⟨_,_,.str _,rfl,?_⟩
  walk_at "w"
  refine ⟨rfl,?_⟩
  walk_at "w"
  refine ⟨_,_,rfl,rfl,by rw[sl_length];lia,by decide,fun p hp=>?_⟩
  rw[show Str.ofString "/"=sl [47] from sl_slash]
  have fr:∀i,47∉intT i:=fun i=>intT_free (by decide) (by decide)
  rcases slash_or l 47 with h0 | ⟨a,b,rfl,h0⟩
  ·rw[part_none h0]
   have s1:Same H (upd H p (.tup [.str (sl l),.str (sl []),.str (sl [])])):=Same.new hp
   have g1:(upd H p (.tup [.str (sl l),.str (sl []),.str (sl [])])) p=some (.tup [.str (sl l),.str (sl []),.str (sl [])]):=upd_same
   generalize upd H p (.tup [.str (sl l),.str (sl []),.str (sl [])])=H1 at s1 g1 ⊢
   walk_at "w"
   refine ⟨l,rfl,hl,fun i ei H2 s2=>?_,fun z H2 s2=>ke (fun n vn e=>?_) _ (s1.trans s2)⟩
   ·have g2:=s2 _ _ g1
    walk_at "w"
    rw[decide_eq_true (show sl []=Str.ofString "" from sl_empty.symm)]
    walk_at "w"
    refine ⟨by show 2<=sizeLine;decide,fun t ht=>?_⟩
    exact k (i,1) ⟨Int.one_pos,by simp⟩ (by rw[numT_one rfl];exact ei) t _ ((s1.trans s2).none ht) ((s1.trans s2).trans (Same.new ht)) upd_same
   ·by_cases e1:n.2=1
    ·rw[numT_one e1] at e
     exact z _ e
    ·rw[numT_cut e1] at e
     exact h0 (by rw[e];simp)
  rw[List.length_append,List.length_cons] at hl
  rw[part_some h0]
  have s1:Same H (upd H p (.tup [.str (sl a),.str (sl [47]),.str (sl b)])):=Same.new hp
  have g1:(upd H p (.tup [.str (sl a),.str (sl [47]),.str (sl b)])) p=some (.tup [.str (sl a),.str (sl [47]),.str (sl b)]):=upd_same
  generalize upd H p (.tup [.str (sl a),.str (sl [47]),.str (sl b)])=H1 at s1 g1 ⊢
  have as:∀n,Vn n->a++47 :: b=numT n->n.2≠1∧a=intT n.1∧b=digs n.2.natAbs:=fun n vn e=>by
   by_cases e1:n.2=1
   ·rw[numT_one e1] at e
    exact absurd (by rw[← e];simp) (fr n.1)
   ·rw[numT_cut e1] at e
    exact ⟨e1,cut_inj h0 (fr _) e⟩
  walk_at "w"
  refine ⟨a,rfl,by lia,fun i ei H2 s2=>?_,fun z H2 s2=>ke (fun n vn e=>z _ (as n vn e).2.1) _ (s1.trans s2)⟩
  have g2:=s2 _ _ g1
  walk_at "w"
  rw[decide_eq_false (show ¬sl [47]=Str.ofString "" from fun z=>nomatch sl_inj (z.trans sl_empty))]
  walk_at "w"
  refine ⟨b,rfl,by lia,fun m w H3 s3=>?_,fun z H3 s3=>ke (fun n vn e=>?_) _ ((s1.trans s2).trans s3)⟩
  ·have s13:=(s1.trans s2).trans s3
   have eb:=who_eq w
   have no:¬(2<=m∧Int.gcd i m=1)->∀n,Vn n->a++47 :: b≠numT n:=fun z n vn e=>by
    obtain ⟨e1,e2,e3⟩:=as n vn e
    have q1:=intT_inj (ei.symm.trans e2)
    have q2:=digs_inj (eb.symm.trans e3)
    have v1:=vn.1
    refine z ⟨by lia,?_⟩
    rw[q1,show ((m:Nat):Int)=n.2 by lia]
    exact vn.2
   walk_at "w"
   by_cases m2:m < 2
   ·rw[decide_eq_true (show ((m:Nat):Int) < 2 by lia)]
    walk_at "w"
    exact ke (no fun z=>by lia) _ s13
   rw[decide_eq_false (show ¬((m:Nat):Int) < 2 by lia)]
   walk_at "w"
   refine ⟨i,m,rfl,?_⟩
   walk_at "w"
   by_cases g0:Int.gcd i m=1
   ·rw[show g i m=1 by unfold g;rw[g0];rfl,decide_eq_true rfl]
    walk_at "w"
    refine ⟨by show 2<=sizeLine;decide,fun t ht=>?_⟩
    exact k (i,m) ⟨by show (0:Int) < m;lia,g0⟩ (by rw[numT_cut (by show ((m:Nat):Int)≠1;lia),← ei,eb];rfl) t _ (s13.none ht) (s13.trans (Same.new ht)) upd_same
   ·rw[decide_eq_false (show ¬g i m=1 from fun z=>g0 (by unfold g at z;lia))]
    walk_at "w"
    exact ke (no fun z=>g0 z.2) _ s13
  ·have:=(as n vn e).2.2
   exact z n.2.natAbs (by rw[this];exact who_digs _)
theorem sc__law_number_text:FnScope ["_law_one"] ["_law_one"] (defScope s__law_number_text):=⟨rfl,rfl,rfl,by decide +kernel,rfl,by decide +kernel,by decide +kernel⟩
theorem ok__law_number_text (T:Txt K mg Z):FnOk P w K mg base CX0 1 Z.a__law_number_text Z.d__law_number_text ["_law_one"] (sp_showN K):=by
 refine T.F__law_number_text.ok sc__law_number_text (fun vs H Q E h=>?_) (fun cdv A outer s H vs Q E hr h=>?_)
 ·obtain ⟨x,n,rfl,_⟩:=h
  rfl
 ·obtain ⟨x,n,rfl,hx,hn,k⟩:=h
  refine ⟨_,(pss_cons (ps_if (pt_cmpR op_eq (pe_ix ix_tup (pv 0) pe_int (by intro _ _;rfl)) pe_int (nomark _)) (pss_one (ps_ret (pe_callTy (call_strD rfl) (by rfl) T.str PyProof.Rows.boot_str (pa_cons (pe_ix ix_tup (pv 0) pe_int (by intro _ _;rfl)) pa_nil)))) pss_nil)
   (pss_one (ps_ret (pe_op op_add_str (pe_op op_add_str (pe_callTy (call_strD rfl) (by rfl) T.str PyProof.Rows.boot_str (pa_cons (pe_ix ix_tup (pv 0) pe_int (by intro _ _;rfl)) pa_nil)) pe_str) (pe_callTy (call_strD rfl) (by rfl) T.str PyProof.Rows.boot_str (pa_cons (pe_ix ix_tup (pv 0) pe_int (by intro _ _;rfl)) pa_nil)))))),?_⟩
  refine rd_start (σ:=[some x]) rfl ?_
  obtain ⟨h1,h2,h3,h4⟩:=id hn
  obtain ⟨p,rfl,hp⟩:=id hx
  have z1:=sz_4300 h3
  have z2:=sz_4300 h4
  have l1:=intT_sz h3
  have l2:=digs_sz h4
  have e2:intT n.2=digs n.2.natAbs:=by unfold intT;rw[if_neg (by lia)]
  walk_at "w"
  by_cases e:n.2=1
  ·rw[decide_eq_true e]
   walk_at "w"
   refine ⟨z1,?_⟩
   have et:numT n=intT n.1:=by unfold numT;rw[if_pos e,List.append_nil]
   rw[← et]
   exact k
  ·rw[decide_eq_false e]
   walk_at "w"
   refine ⟨z1,?_⟩
   walk_at "w"
   refine ⟨_,_,rfl,rfl,by rw[sl_length];exact big10000 (show (intT n.1).length+1<=_ by lia),?_⟩
   walk_at "w"
   refine ⟨z2,?_⟩
   rw[e2]
   refine ⟨_,_,rfl,rfl,?_,?_⟩
   ·rw[show Str.ofString "/"=sl [47] from sl_slash,sl_app,sl_length,sl_length,List.length_append]
    exact big10000 (show (intT n.1).length+1+(digs n.2.natAbs).length<=_ by lia)
   ·rw[show Str.ofString "/"=sl [47] from sl_slash,sl_app,sl_app]
    have et:numT n=(intT n.1++[47])++digs n.2.natAbs:=by unfold numT;rw[if_neg e,List.append_assoc];rfl
    rw[← et]
    exact k
theorem sc_words_in:FnScope ["text"] ["text"] (defScope s_words_in):=⟨rfl,rfl,rfl,by decide +kernel,rfl,by decide +kernel,by decide +kernel⟩
theorem ok_words_in (T:Txt K mg Z):FnOk P w K mg base (CXE P w) 1 Z.a_words_in Z.d_words_in ["text"] (sp_wi3 Z.a_NoText):=by
 refine T.F_words_in.okX sc_words_in (fun vs H Q E h=>?_) (fun cdv A outer s H vs Q E hr h=>?_)
 ·obtain ⟨y,rfl,_⟩:=h
  rfl
 ·obtain ⟨y,rfl,h⟩:=h
  refine ⟨_,(pss_cons (ps_if (pt_not (pt_val (pe_isT rfl T.isinstance PyProof.Rows.boot_str T.str (pv 0)))) (pss_one (ps_raise0 throws_def rfl rfl T.mg_NoText T.ex_NoText)) pss_nil)
   (pss_one (ps_ret (pe_bm PySem.F.plainAttrs_str PySem.F.slot_str_split PySem.F.type_str_split mt_split (pv 0) (pa_cons pe_str pa_nil))))),?_⟩
  refine rd_start (σ:=[some y]) rfl ?_
  rcases h with ⟨od,ke⟩ | ⟨l,rfl,hl,k⟩
  ·walk_at "w"
   refine rd_isS od ?_
   walk_at "w"
   exact ke
  walk_at "w"
  refine ⟨_,_,.str _,rfl,?_⟩
  walk_at "w"
  refine ⟨rfl,?_⟩
  walk_at "w"
  refine ⟨_,_,rfl,rfl,by rw[sl_length];exact hl,by decide,fun p hp=>?_⟩
  exact k _ _ (Same.new hp) hp (by rw[upd_same,← sl_space])
theorem sc_read_row:FnScope ["text","words"] ["text"] (defScope s_read_row):=⟨rfl,rfl,rfl,by decide +kernel,rfl,by decide +kernel,by decide +kernel⟩
theorem ok_read_row (T:Txt K mg Z):FnOk P w K mg base (CXE P w) 4 Z.a_read_row Z.d_read_row ["text"] (sp_rr3 K Z.a_NoText):=by
 have G_words_in:=ok_words_in (P:=P) (w:=w) (base:=base) T
 have G_read_number:=ok_read_number (P:=P) (w:=w) (base:=base) T
 refine T.F_read_row.okX sc_read_row (fun vs H Q E h=>?_) (fun cdv A outer s H vs Q E hr h=>?_)
 ·obtain ⟨y,rfl,_⟩:=h
  rfl
 ·obtain ⟨y,rfl,h⟩:=h
  refine ⟨_,(pss_cons (ps_set (i:=1) sc_read_row.nd rfl (Or.inl rfl) (pe_call G_words_in (hr.mono (by decide)) rfl T.mg_words_in T.F_words_in.kp T.b_words_in .nil pass_def (pa_cons (pv 0) pa_nil)))
   (pss_cons (ps_if (pt_cmpR (op_eqD (hu50 hr)) (pv 1) (pe_lst (pa_cons pe_str pa_nil)) (nomark _)) (pss_one (ps_ret (pe_lst pa_nil))) pss_nil)
   (pss_one (ps_ret (pe_compX ["word"] [] [] leave_def rfl (pi_list (pv 1)) (fun _=>(pg_name (i:=0) (show List.Nodup (α:=PySem.Str) ["word"] by decide +kernel) rfl (Or.inl rfl) (Or.inl rfl))) (fun _=>pf_nil) (fun _=>(pe_call G_read_number (hr.mono (by decide)) rfl T.mg_read_number T.F_read_number.kp T.b_read_number .nil passX (pa_cons (pv 0) pa_nil)))))))),?_⟩
  refine rd_start (σ:=[some y,none]) rfl ?_
  rcases h with ⟨od,ke⟩ | ⟨l,rfl,hl,k,ke⟩
  ·walk_at "w"
   exact .inl ⟨od,ke⟩
  obtain ⟨ws,w0,w1,ew,es⟩:=split_as l 32
  have wl:∀w∈ws,w.length<=1000:=fun w hw=>Nat.le_trans (joinL_ge (c:=32) hw) (by rw[← ew];exact hl)
  have wc:ws.length<=1001:=Nat.le_trans (joinL_cnt (c:=32)) (by rw[← ew];lia)
  walk_at "w"
  refine .inr ⟨_,rfl,by lia,fun p H1 s1 np gp=>?_⟩
  rw[es] at gp
  walk_at "w"
  refine rd_newL fun l2 H2 s2 n2 g2=>?_
  walk_at "w"
  have gp2:=s2 _ _ gp
  have pk:∀l:List (List Nat),Paired (fun a x=>kStr.R K H2 x a) (l.map sl) ((l.map sl).map V.str):=fun l=>by
   induction l with
   | nil=>exact .nil
   | cons a l ih=>exact .cons rfl ih
  refine ⟨_,_,kLst kStr,ws.map sl,[sl []],by decide,⟨p,_,rfl,SqL.of gp2,pk _⟩,⟨l2,_,rfl,SqL.of g2,.cons (congrArg V.str sl_empty) .nil⟩,?_⟩
  by_cases e0:ws=[[]]
  ·rw[decide_eq_true (show ws.map sl=[sl []] by rw[e0];rfl)]
   walk_at "w"
   refine ⟨by decide,fun l3 h3=>?_⟩
   exact k [] ⟨(fun n hn=>nomatch hn),by rw[ew,e0];rfl⟩ l3 _ ((s1.trans s2).none h3) ((s1.trans s2).trans (Same.new h3)) ⟨[],upd_same,.nil⟩
  rw[decide_eq_false (show ¬ws.map sl=[sl []] from fun z=>e0 (by
   match ws,w0,z with
   | [x],_,z=>rw[sl_inj (List.cons.inj z).1]
   | x :: y :: r,_,z=>cases (List.cons.inj z).2))]
  walk_at "w"
  refine ⟨⟨_,SqL.of gp2⟩,?_⟩
  refine comp_list (K:=K) (xs:=(ws.map sl).map V.str) (fun i ys H'=>Same H2 H'∧∃ns:List (Int×Int),(∀n∈ns,Vn n)∧ws.take i=ns.map numT∧Paired (fun n x=>NumR K H' x n) ns ys) (by rw[List.length_map,List.length_map];exact big10000 (by lia)) ⟨Same.refl _,[],(fun n hn=>nomatch hn),rfl,.nil⟩ (fun i ys H' _ ⟨s,_⟩=>SqL.of (s _ _ gp2)) ?_ ?_
  ·rintro i x ys H' hx hlen ⟨s',ns,hn,en,pr⟩
   rw[List.getElem?_map,List.getElem?_map] at hx
   obtain ⟨w,ei,rfl⟩:∃w,ws[i]?=some w∧x=.str (sl w):=by
    cases e:ws[i]? with
    | none=>rw[e] at hx;cases hx
    | some n=>rw[e] at hx;cases hx;exact ⟨n,rfl,rfl⟩
   have mw:=List.mem_of_getElem? ei
   walk_at "w"
   refine .inr ⟨w,rfl,wl w mw,fun n vn e r H4 nr s4 g4=>?_,fun z H4 s4=>ke (fun ns h=>?_) _ ((s1.trans s2).trans (s'.trans s4))⟩
   ·refine ⟨s'.trans s4,ns++[n],fun m hm=>?_,?_,paired_app (Paired.imp' (fun _ _ z=>s4.num z) pr) (.cons ⟨r,rfl,SqT.of g4⟩ .nil)⟩
    ·rcases List.mem_append.mp hm with hm | hm
     ·exact hn m hm
     ·rw[List.mem_singleton.mp hm];exact vn
    ·rw[take_snoc ei,en,List.map_append,e];rfl
   ·rcases rw_words w0 w1 ew h with ⟨_,y⟩ | y
    ·exact e0 y
    ·rw[y] at mw
     obtain ⟨n,mn,e⟩:=List.mem_map.mp mw
     exact z n (h.1 n mn) e.symm
  rintro ys H' hy ⟨s',ns,hn,en,pr⟩ l3 h3
  rw[List.length_map,List.length_map,List.take_length] at en
  have s3:Same H' (upd H' l3 (.lst ys)):=Same.new h3
  exact k ns ⟨hn,by rw[ew,en]⟩ l3 _ (((s1.trans s2).trans s').none h3) (((s1.trans s2).trans s').trans s3) ⟨ys,upd_same,Paired.imp' (fun _ _ z=>s3.num z) pr⟩
theorem sc__law_row_text:FnScope ["_law_row_here"] ["_law_row_here"] (defScope s__law_row_text):=⟨rfl,rfl,rfl,by decide +kernel,rfl,by decide +kernel,by decide +kernel⟩
theorem ok__law_row_text (T:Txt K mg Z):FnOk P w K mg base CX0 2 Z.a__law_row_text Z.d__law_row_text ["_law_row_here"] (sp_showR K):=by
 have G__law_number_text:=ok__law_number_text (P:=P) (w:=w) (base:=base) T
 refine T.F__law_row_text.ok sc__law_row_text (fun vs H Q E h=>?_) (fun cdv A outer s H vs Q E hr h=>?_)
 ·obtain ⟨p,ns,rfl,_⟩:=h
  rfl
 ·obtain ⟨p,ns,rfl,hp,hl,hn,k⟩:=h
  refine ⟨_,(pss_one (ps_ret (pe_bm PySem.F.plainAttrs_str PySem.F.slot_str_join PySem.F.type_str_join mt_join pe_str (pa_cons (pe_comp ["_law_one"] [] [] (pi_list (pv 0)) (fun _=>(pg_name (i:=0) (show List.Nodup (α:=PySem.Str) ["_law_one"] by decide +kernel) rfl (Or.inl rfl) (Or.inl rfl))) (fun _=>pf_nil) (fun _=>(pe_call G__law_number_text (hr.mono (by decide)) rfl T.mg__law_number_text T.F__law_number_text.kp T.b__law_number_text .nil pass0 (pa_cons (pv 0) pa_nil)))) pa_nil)))),?_⟩
  refine rd_start (σ:=[some (.ref p)]) rfl ?_
  obtain ⟨xs,gx,qx⟩:=id hp
  have lx:=qx.length
  walk_at "w"
  refine ⟨rfl,?_⟩
  walk_at "w"
  refine ⟨⟨_,SqL.of gx⟩,?_⟩
  refine comp_list (K:=K) (xs:=xs) (fun i ys H'=>H'=H∧ys=((ns.take i).map fun n=>sl (numT n)).map V.str) (Nat.le_of_lt (small1000 (by lia))) ⟨rfl,rfl⟩ (fun i ys H' _ ⟨e,_⟩=>by subst e;exact SqL.of gx) ?_ ?_
  ·rintro i x ys H' hx hlen ⟨rfl,rfl⟩
   obtain ⟨n,en,z⟩:=paired_at qx hx
   walk_at "w"
   exact ⟨x,n,rfl,z,hn n (List.mem_of_getElem? en),rfl,by rw[take_snoc en];simp⟩
  rintro ys H' hy ⟨rfl,rfl⟩ l hl'
  rw[List.take_of_length_le (by lia)]
  walk_at "w"
  refine ⟨_,l,ns.map fun n=>sl (numT n),rfl,rfl,by decide,upd_same,by rw[List.length_map];lia,fun y hy=>?_,?_⟩
  ·obtain ⟨n,mn,rfl⟩:=List.mem_map.mp hy
   have:=numT_sz (hn n mn)
   rw[sl_length]
   lia
  ·rw[show Str.ofString " "=sl [32] from sl_space,show (ns.map fun n=>sl (numT n))=(ns.map numT).map sl by rw[List.map_map];rfl,sl_join]
   exact k _ (Same.new hl')
theorem sc__law_is_number:FnScope ["_law_thing","_law_part"] ["_law_thing"] (defScope s__law_is_number):=⟨rfl,rfl,rfl,by decide +kernel,rfl,by decide +kernel,by decide +kernel⟩
theorem ok__law_is_number (T:Txt K mg Z):FnOk P w K mg base CX0 2 Z.a__law_is_number Z.d__law_is_number ["_law_thing"] (sp_isnumK K):=by
 have G__law_low:=ok__law_low (P:=P) (w:=w) (base:=base) T
 refine T.F__law_is_number.ok sc__law_is_number (fun vs H Q E h=>?_) (fun cdv A outer s H vs Q E hr h=>?_)
 ·obtain ⟨x,n,rfl,_⟩:=h
  rfl
 ·obtain ⟨x,n,rfl,⟨p,rfl,hp⟩,hn,k⟩:=h
  refine ⟨_,(pss_cons (ps_if (PW.pt (pw_or (pt_not (pt_val (pe_isTK rfl T.isinstance PyProof.Rows.boot_tuple T.tuple (pv 0)))) (pw_or1 (pt_cmpR op_ne (pe_callB call_len_seq (by rfl) T.len PySem.boot_len (pa_cons (pv 0) pa_nil)) pe_int (nomark _))))) (pss_one (ps_ret pe_bl)) pss_nil)
   (pss_cons (ps_for PassesOwn.never rfl (pi_tup (pv 0)) (pg_name (i:=1) sc__law_is_number.nd rfl (Or.inl rfl) (Or.inl rfl))
    (pss_one (ps_if (PW.pt (pw_or (pt_not (pt_val (pe_isTK rfl T.isinstance PyProof.Rows.boot_int T.int (pv 1)))) (pw_or1 (pt_val (pe_isTK rfl T.isinstance PyProof.Rows.boot_bool T.bool (pv 1)))))) (pss_one (ps_ret pe_bl)) pss_nil)))
   (pss_one (ps_ret (pe_and (pe_cmpR op_gt (pe_ix ix_tup (pv 0) pe_int (by intro _ _;rfl)) pe_int (nomark _)) (pe_one (pe_cmpR (op_eqD (hu50 hr)) (pe_call G__law_low (hr.mono (by decide)) rfl T.mg__law_low T.F__law_low.kp T.b__law_low .nil pass0 (pa_cons (pe_ix ix_tup (pv 0) pe_int (by intro _ _;rfl)) (pa_cons (pe_ix ix_tup (pv 0) pe_int (by intro _ _;rfl)) pa_nil))) (pv 0) (nomark _)))))))),?_⟩
  refine rd_start (σ:=[some (.ref p),none]) rfl ?_
  obtain ⟨hb,hg,_,hs⟩:=hn
  walk_at "w"
  refine .inr ⟨p,_,_,rfl,hp,rfl,?_⟩
  walk_at "w"
  refine ⟨_,_,rfl,.inr hp,?_⟩
  walk_at "w"
  try refine iteF ?_
  walk_at "w"
  refine ⟨⟨_,hp⟩,?_⟩
  refine for_tup (K:=K) (a:=p) (xs:=[.int n.1,.int n.2]) (fun i σ' H'=>H'=H∧∃x,σ'=[some (.ref p),x]) ⟨rfl,none,rfl⟩ (fun i σ' H' _ ⟨e,_⟩=>by subst e;exact hp) ?_ ?_
  ·rintro i x σ' H' hx ⟨rfl,y,rfl⟩
   obtain ⟨z,rfl⟩:∃z,x=V.int z:=by
    have hm:x∈[V.int n.1,V.int n.2]:=List.mem_of_getElem? hx
    simp only[List.mem_cons,List.not_mem_nil,or_false] at hm
    rcases hm with e | e
    ·exact ⟨_,e⟩
    ·exact ⟨_,e⟩
   walk_at "w"
   refine .inl ⟨_,_,.int z,rfl,?_⟩
   walk_at "w"
   refine .inl ⟨_,_,.int z,rfl,?_⟩
   walk_at "w"
   exact ⟨rfl,_,rfl⟩
  ·rintro σ' H' ⟨rfl,x,rfl⟩
   walk_at "w"
   rw[decide_eq_true hb]
   walk_at "w"
   refine ⟨n.1,n.2,rfl,hb,hs.mono (by decide),fun r H' s1 h'=>?_⟩
   obtain ⟨e1,e2⟩:=low_id hb hg
   walk_at "w"
   refine ⟨_,_,kNum,(lo n.1 n.2,hi n.1 n.2),n,by decide,⟨r,rfl,SqT.of h'⟩,⟨p,rfl,s1.sqt hp⟩,?_⟩
   rw[e1,e2,decide_eq_true rfl]
   exact k _ s1
theorem sc__law_is_row:FnScope ["_law_thing","_law_many"] ["_law_thing","_law_many"] (defScope s__law_is_row):=⟨rfl,rfl,rfl,by decide +kernel,rfl,by decide +kernel,by decide +kernel⟩
theorem ok__law_is_row (T:Txt K mg Z):FnOk P w K mg base CX0 3 Z.a__law_is_row Z.d__law_is_row ["_law_thing","_law_many"] (sp_isrowK K):=by
 have G__law_is_number:=ok__law_is_number (P:=P) (w:=w) (base:=base) T
 refine T.F__law_is_row.ok sc__law_is_row (fun vs H Q E h=>?_) (fun cdv A outer s H vs Q E hr h=>?_)
 ·obtain ⟨p,ns,rfl,_⟩:=h
  rfl
 ·obtain ⟨p,ns,rfl,hp,hl,hn,k⟩:=h
  refine ⟨_,(pss_cons (ps_if (PW.pt (pw_or (pt_not (pt_val (pe_isT rfl T.isinstance PyProof.Rows.boot_list T.list (pv 0)))) (pw_or1 (pt_cmpR op_ne (pe_callB call_len_seq (by rfl) T.len PySem.boot_len (pa_cons (pv 0) pa_nil)) (pv 1) (nomark _))))) (pss_one (ps_ret pe_bl)) pss_nil)
   (pss_one (ps_ret (pe_callB (call_all rfl) (by rfl) T.all PyProof.Rows.boot_all (pa_cons (pe_comp ["_law_one"] [] [] (pi_list (pv 0)) (fun _=>(pg_name (i:=0) (show List.Nodup (α:=PySem.Str) ["_law_one"] by decide +kernel) rfl (Or.inl rfl) (Or.inl rfl))) (fun _=>pf_nil) (fun _=>(pe_call G__law_is_number (hr.mono (by decide)) rfl T.mg__law_is_number T.F__law_is_number.kp T.b__law_is_number .nil pass0 (pa_cons (pv 0) pa_nil)))) pa_nil))))),?_⟩
  refine rd_start (σ:=[some (.ref p),some (.int ns.length)]) rfl ?_
  obtain ⟨xs,gx,qx⟩:=id hp
  have lx:=qx.length
  walk_at "w"
  refine ⟨_,_,.lst gx,rfl,?_⟩
  walk_at "w"
  refine ⟨_,_,rfl,.inl (SqL.of gx),?_⟩
  walk_at "w"
  rw[show ((xs.length:Nat):Int)=(ns.length:Nat) by rw[lx],decide_eq_true rfl]
  walk_at "w"
  refine ⟨⟨_,SqL.of gx⟩,?_⟩
  refine comp_list (K:=K) (xs:=xs) (fun i ys H'=>Same H H'∧ys=List.replicate i (.bl true)) (Nat.le_of_lt (small1000 (by lia))) ⟨Same.refl _,rfl⟩ (fun i ys H' _ ⟨s,_⟩=>SqL.of (s _ _ gx)) ?_ ?_
  ·rintro i x ys H' hx hlen ⟨s,rfl⟩
   obtain ⟨n,en,z⟩:=paired_at qx hx
   walk_at "w"
   exact ⟨x,n,rfl,s.num z,hn n (List.mem_of_getElem? en),fun H2 s2=>⟨s.trans s2,by rw[List.replicate_succ']⟩⟩
  ·rintro ys H' hy ⟨s,rfl⟩ l hl'
   walk_at "w"
   refine ⟨l,List.replicate xs.length true,rfl,SqL.of (by rw[upd_same];simp),?_⟩
   have e4:(List.replicate xs.length true).all id=true:=by simp
   rw[e4]
   exact k _ (s.trans (Same.new hl'))
theorem sc__law_is_grid:FnScope ["_law_thing","_law_many","_law_wide"] ["_law_thing","_law_many","_law_wide"] (defScope s__law_is_grid):=⟨rfl,rfl,rfl,by decide +kernel,rfl,by decide +kernel,by decide +kernel⟩
theorem ok__law_is_grid (T:Txt K mg Z):FnOk P w K mg base CX0 4 Z.a__law_is_grid Z.d__law_is_grid ["_law_thing","_law_many","_law_wide"] (sp_isgridK K):=by
 have G__law_is_row:=ok__law_is_row (P:=P) (w:=w) (base:=base) T
 refine T.F__law_is_grid.ok sc__law_is_grid (fun vs H Q E h=>?_) (fun cdv A outer s H vs Q E hr h=>?_)
 ·obtain ⟨p,rows,m,rfl,_⟩:=h
  rfl
 ·obtain ⟨p,rows,m,rfl,hp,hl,hm,hn,k⟩:=h
  refine ⟨_,(pss_cons (ps_if (PW.pt (pw_or (pt_not (pt_val (pe_isT rfl T.isinstance PyProof.Rows.boot_list T.list (pv 0)))) (pw_or1 (pt_cmpR op_ne (pe_callB call_len_seq (by rfl) T.len PySem.boot_len (pa_cons (pv 0) pa_nil)) (pv 1) (nomark _))))) (pss_one (ps_ret pe_bl)) pss_nil)
   (pss_one (ps_ret (pe_callB (call_all rfl) (by rfl) T.all PyProof.Rows.boot_all (pa_cons (pe_comp ["_law_row_here"] ["_law_wide"] [2] (pi_list (pv 0)) (fun _=>(pg_name (i:=0) (show List.Nodup (α:=PySem.Str) ["_law_row_here","_law_wide"] by decide +kernel) rfl (Or.inl rfl) (Or.inl rfl))) (fun _=>pf_nil) (fun _=>(pe_call G__law_is_row (hr.mono (by decide)) rfl T.mg__law_is_row T.F__law_is_row.kp T.b__law_is_row .nil pass0 (pa_cons (pv 0) (pa_cons (pv 1) pa_nil))))) pa_nil))))),?_⟩
  refine rd_start (σ:=[some (.ref p),some (.int rows.length),some (.int m)]) rfl ?_
  obtain ⟨xs,gx,qx⟩:=id hp
  have lx:=qx.length
  walk_at "w"
  refine ⟨_,_,.lst gx,rfl,?_⟩
  walk_at "w"
  refine ⟨_,_,rfl,.inl (SqL.of gx),?_⟩
  walk_at "w"
  rw[show ((xs.length:Nat):Int)=(rows.length:Nat) by rw[lx],decide_eq_true rfl]
  walk_at "w"
  refine ⟨⟨_,SqL.of gx⟩,?_⟩
  refine comp_list (K:=K) (xs:=xs) (fun i ys H'=>Same H H'∧ys=List.replicate i (.bl true)) (Nat.le_of_lt (small1000 (by lia))) ⟨Same.refl _,rfl⟩ (fun i ys H' _ ⟨s,_⟩=>SqL.of (s _ _ gx)) ?_ ?_
  ·rintro i x ys H' hx hlen ⟨s,rfl⟩
   obtain ⟨ns,en,q,rfl,z⟩:=paired_at qx hx
   obtain ⟨e1,e2⟩:=hn ns (List.mem_of_getElem? en)
   walk_at "w"
   exact ⟨q,ns,by rw[e1],z.same s,by lia,e2,fun H2 s2=>⟨s.trans s2,by rw[List.replicate_succ']⟩⟩
  ·rintro ys H' hy ⟨s,rfl⟩ l hl'
   walk_at "w"
   refine ⟨l,List.replicate xs.length true,rfl,SqL.of (by rw[upd_same];simp),?_⟩
   have e4:(List.replicate xs.length true).all id=true:=by simp
   rw[e4]
   exact k _ (s.trans (Same.new hl'))
theorem sc__law_fields:FnScope ["_law_system","_law_parts_here","_law_move_here","_law_put","_law_look","_law_n","_law_sizes_here"] ["_law_system","_law_parts_here"] (defScope s__law_fields):=⟨rfl,rfl,rfl,by decide +kernel,rfl,by decide +kernel,by decide +kernel⟩
theorem ok__law_fields (T:Txt K mg Z):FnOk P w K mg base CX0 5 Z.a__law_fields Z.d__law_fields ["_law_system","_law_parts_here"] (sp_fl2 K Z.a_System):=by
 have G__law_is_grid:=ok__law_is_grid (P:=P) (w:=w) (base:=base) T
 refine T.F__law_fields.ok sc__law_fields (fun vs H Q E h=>?_) (fun cdv A outer s H vs Q E hr h=>?_)
 ·obtain ⟨x,r,H0,H1,mv,pt,lk,rfl,_⟩:=h
  rfl
 ·obtain ⟨x,r,H0,H1,mv,pt,lk,rfl,S,PQ,D,F,k⟩:=h
  refine ⟨_,(pss_cons (ps_asg (pv 1) (pg_tup rfl (pgs_cons (pg_name (i:=2) sc__law_fields.nd rfl (Or.inl rfl) (Or.inl rfl)) (pgs_cons (pg_name (i:=3) sc__law_fields.nd rfl (Or.inl rfl) (Or.inl rfl)) (pgs_cons (pg_name (i:=4) sc__law_fields.nd rfl (Or.inl rfl) (Or.inl rfl)) pgs_nil)))))
   (pss_cons (ps_set (i:=5) sc__law_fields.nd rfl (Or.inl rfl) (pe_callB call_len_seq (by rfl) T.len PySem.boot_len (pa_cons (pv 2) pa_nil)))
   (pss_cons (ps_if (PW.pt (pw_or (pt_not (pt_val (pe_call G__law_is_grid (hr.mono (by decide)) rfl T.mg__law_is_grid T.F__law_is_grid.kp T.b__law_is_grid .nil pass0 (pa_cons (pe_fld (pv 0) rfl) (pa_cons (pv 5) (pa_cons (pv 5) pa_nil)))))) (pw_or1 (pt_not (pt_val (pe_call G__law_is_grid (hr.mono (by decide)) rfl T.mg__law_is_grid T.F__law_is_grid.kp T.b__law_is_grid .nil pass0 (pa_cons (pe_fld (pv 0) rfl) (pa_cons (pe_callB call_len_seq (by rfl) T.len PySem.boot_len (pa_cons (pv 3) pa_nil)) (pa_cons (pv 5) pa_nil))))))))) (pss_one (ps_ret pe_bl)) pss_nil)
   (pss_cons (ps_if (PW.pt (pw_or (pt_not (pt_val (pe_call G__law_is_grid (hr.mono (by decide)) rfl T.mg__law_is_grid T.F__law_is_grid.kp T.b__law_is_grid .nil pass0 (pa_cons (pe_fld (pv 0) rfl) (pa_cons (pe_callB call_len_seq (by rfl) T.len PySem.boot_len (pa_cons (pv 4) pa_nil)) (pa_cons (pv 5) pa_nil)))))) (pw_or (pt_cmpR (op_neD (hu50 hr)) (pe_fld (pv 0) rfl) (pv 2) (nomark _)) (pw_or (pt_cmpR (op_neD (hu50 hr)) (pe_fld (pv 0) rfl) (pv 3) (nomark _)) (pw_or1 (pt_cmpR (op_neD (hu50 hr)) (pe_fld (pv 0) rfl) (pv 4) (nomark _))))))) (pss_one (ps_ret pe_bl)) pss_nil)
   (pss_cons (ps_set (i:=6) sc__law_fields.nd rfl (Or.inl rfl) (pe_lst (pa_cons (pe_fld (pv 0) rfl) (pa_cons (pe_fld (pv 0) rfl) (pa_cons (pe_fld (pv 0) rfl) pa_nil)))))
   (pss_cons (ps_if (pt_val (pe_callB (call_any rfl) (by rfl) T.any PyProof.Rows.boot_any (pa_cons (pe_comp ["_law_one"] [] [] (pi_list (pv 6)) (fun _=>(pg_name (i:=0) (show List.Nodup (α:=PySem.Str) ["_law_one"] by decide +kernel) rfl (Or.inl rfl) (Or.inl rfl))) (fun _=>pf_nil) (fun _=>(pe_or (pe_isTb K rfl T.isinstance PyProof.Rows.boot_bool T.bool (pv 0)) (pe_one (pe_not (pe_isTb K rfl T.isinstance PyProof.Rows.boot_int T.int (pv 0))))))) pa_nil))) (pss_one (ps_ret pe_bl)) pss_nil)
   (pss_one (ps_ret (pe_cmpR (op_eqD (hu50 hr)) (pv 6) (pe_lst (pa_cons (pv 5) (pa_cons (pe_callB call_len_seq (by rfl) T.len PySem.boot_len (pa_cons (pv 3) pa_nil)) (pa_cons (pe_callB call_len_seq (by rfl) T.len PySem.boot_len (pa_cons (pv 4) pa_nil)) pa_nil)))) (nomark _)))))))))),?_⟩
  refine rd_start (σ:=[some (.ref x),some (.ref r),none,none,none,none,none]) rfl ?_
  obtain ⟨m,p,l,g,n1,n2,n3,Gm,Gp,Gl⟩:=id PQ
  obtain ⟨dx,a,b,c,gx,m1,m2,m3,Ga,Gb,Gc⟩:=id S
  have d1:=D.n8
  have d2:=D.i4
  have d3:=D.o4
  have lm:(mv.map (List.map nm)).length=mv.length:=List.length_map ..
  have lp:(pt.map (List.map nm)).length=pt.length:=List.length_map ..
  have ll:(lk.map (List.map nm)).length=lk.length:=List.length_map ..
  have ok:∀(rows:List (List Rat)),(∀xs∈rows,xs.length=mv.length)->GOk rows->∀ns∈rows.map (List.map nm),ns.length=mv.length∧∀n∈ns,NumOk n:=fun rows hr ho ns hn=>by
   obtain ⟨qs,hq,rfl⟩:=List.mem_map.mp hn
   refine ⟨by rw[List.length_map];exact hr qs hq,fun n hn=>?_⟩
   obtain ⟨y,hy,rfl⟩:=List.mem_map.mp hn
   exact ho qs hq y hy
  obtain ⟨ms,gm,qm,_⟩:=id Gm
  obtain ⟨ps,gp,qp,_⟩:=id Gp
  obtain ⟨ls,gl,ql,_⟩:=id Gl
  have lms:=qm.length
  have lps:=qp.length
  have lls:=ql.length
  walk_at "w"
  refine ⟨_,_,rfl,.inl (SqL.of gm),?_⟩
  rw[← lms]
  walk_at "w"
  refine ⟨x,Z.a_System,dx,_,_,rfl,gx,T.cl_System,T.na_move,sys_move,?_⟩
  walk_at "w"
  refine ⟨a,_,mv.length,by rw[lm],Ga.gridK,by rw[lm];lia,by lia,fun ns' hx=>ok mv D.mw F.1 ns' hx,fun H2 s2=>?_⟩
  walk_at "w"
  refine ⟨x,Z.a_System,dx,_,_,rfl,(s2 _ _ gx),T.cl_System,T.na_put,sys_put,?_⟩
  walk_at "w"
  refine ⟨_,_,rfl,.inl (SqL.of (s2 _ _ gp)),?_⟩
  rw[← lps]
  walk_at "w"
  refine ⟨b,_,mv.length,by rw[lp],(Gb.same s2).gridK,by rw[lp];lia,by lia,fun ns' hx=>ok pt D.pw F.2.1 ns' hx,fun H3 s3=>?_⟩
  walk_at "w"
  have s23:=s2.trans s3
  refine ⟨x,Z.a_System,dx,_,_,rfl,(s23 _ _ gx),T.cl_System,T.na_look,sys_look,?_⟩
  walk_at "w"
  refine ⟨_,_,rfl,.inl (SqL.of (s23 _ _ gl)),?_⟩
  rw[← lls]
  walk_at "w"
  refine ⟨c,_,mv.length,by rw[ll],(Gc.same s23).gridK,by rw[ll];lia,by lia,fun ns' hx=>ok lk D.lw F.2.2 ns' hx,fun H4 s4=>?_⟩
  walk_at "w"
  have s24:=s23.trans s4
  have gx4:=s24 _ _ gx
  refine ⟨x,Z.a_System,dx,_,_,rfl,gx4,T.cl_System,T.na_move,sys_move,?_⟩
  walk_at "w"
  refine ⟨_,_,kGridQ,_,_,by decide,(Ga.same s24).kind,(Gm.same s24).kind,?_⟩
  rw[decide_eq_true rfl]
  walk_at "w"
  refine ⟨x,Z.a_System,dx,_,_,rfl,gx4,T.cl_System,T.na_put,sys_put,?_⟩
  walk_at "w"
  refine ⟨_,_,kGridQ,_,_,by decide,(Gb.same s24).kind,(Gp.same s24).kind,?_⟩
  rw[decide_eq_true rfl]
  walk_at "w"
  refine ⟨x,Z.a_System,dx,_,_,rfl,gx4,T.cl_System,T.na_look,sys_look,?_⟩
  walk_at "w"
  refine ⟨_,_,kGridQ,_,_,by decide,(Gc.same s24).kind,(Gl.same s24).kind,?_⟩
  rw[decide_eq_true rfl]
  walk_at "w"
  refine ⟨x,Z.a_System,dx,_,_,rfl,gx4,T.cl_System,T.na_states,sys_states,?_⟩
  walk_at "w"
  refine ⟨x,Z.a_System,dx,_,_,rfl,gx4,T.cl_System,T.na_ins,sys_ins,?_⟩
  walk_at "w"
  refine ⟨x,Z.a_System,dx,_,_,rfl,gx4,T.cl_System,T.na_outs,sys_outs,?_⟩
  walk_at "w"
  refine rd_newL fun sz H5 s5 n5 g5=>?_
  have s25:=s24.trans s5
  walk_at "w"
  refine ⟨⟨_,SqL.of g5⟩,?_⟩
  refine comp_list (K:=K) (xs:=[V.int mv.length,V.int pt.length,V.int lk.length]) (fun i ys H'=>H'=H5∧ys=List.replicate i (V.bl false)) (Nat.le_of_lt (small1000 (by show 3<=1000;decide))) ⟨rfl,rfl⟩ (fun i ys H' _ ⟨e,_⟩=>by subst e;exact SqL.of g5) ?_ ?_
  ·rintro i v ys H' hv hlen ⟨rfl,rfl⟩
   obtain ⟨z,rfl⟩:∃z:Nat,v=V.int z:=by
    have hm:=List.mem_of_getElem? hv
    simp only[List.mem_cons,List.not_mem_nil,or_false] at hm
    rcases hm with e | e | e
    ·exact ⟨_,e⟩
    ·exact ⟨_,e⟩
    ·exact ⟨_,e⟩
   walk_at "w"
   refine ⟨_,false,.int z,rfl,?_⟩
   walk_at "w"
   refine ⟨_,true,.int z,rfl,?_⟩
   walk_at "w"
   exact ⟨rfl,by rw[List.replicate_succ'];rfl⟩
  rintro ys H' hy ⟨rfl,rfl⟩ t ht
  walk_at "w"
  refine ⟨t,[false,false,false],rfl,SqL.of upd_same,?_⟩
  have s6:Same H' (upd H' t (.lst (List.replicate 3 (V.bl false)))):=Same.new ht
  have e3:[V.int mv.length,V.int pt.length,V.int lk.length].length=3:=rfl
  rw[e3]
  generalize upd H' t (.lst (List.replicate 3 (V.bl false)))=H6 at s6 ⊢
  have e4:[false,false,false].any id=false:=rfl
  rw[e4]
  walk_at "w"
  have s26:=s25.trans s6
  refine ⟨_,_,rfl,.inl (SqL.of (s26 _ _ gp)),?_⟩
  rw[← lps]
  walk_at "w"
  refine ⟨_,_,rfl,.inl (SqL.of (s26 _ _ gl)),?_⟩
  rw[← lls]
  walk_at "w"
  refine rd_newL fun t2 H7 s7 n7 g7=>?_
  walk_at "w"
  refine ⟨_,_,kLst kInt,[(mv.length:Int),pt.length,lk.length],[(mv.length:Int),pt.length,lk.length],by decide,⟨sz,_,rfl,SqL.of ((s6.trans s7) _ _ g5),.cons rfl (.cons rfl (.cons rfl .nil))⟩,⟨t2,_,rfl,SqL.of g7,.cons rfl (.cons rfl (.cons rfl .nil))⟩,?_⟩
  rw[decide_eq_true rfl]
  exact k _ (s26.trans s7)
theorem sc_read_size:FnScope ["word","most","size"] ["word","most"] (defScope s_read_size):=⟨rfl,rfl,rfl,by decide +kernel,rfl,by decide +kernel,by decide +kernel⟩
theorem ok_read_size (T:Txt K mg Z):FnOk P w K mg base (CXE P w) 2 Z.a_read_size Z.d_read_size ["word","most"] (sp_rz2 Z.a_NoText):=by
 have G_read_whole:=ok_read_whole (P:=P) (w:=w) (base:=base) T
 refine T.F_read_size.okX sc_read_size (fun vs H Q E h=>?_) (fun cdv A outer s H vs Q E hr h=>?_)
 ·obtain ⟨l,m,rfl,_⟩:=h
  rfl
 ·obtain ⟨l,m,rfl,hl,k,ke⟩:=h
  refine ⟨_,(pss_cons (ps_set (i:=2) sc_read_size.nd rfl (Or.inl rfl) (pe_call G_read_whole (hr.mono (by decide)) rfl T.mg_read_whole T.F_read_whole.kp T.b_read_whole .nil pass_def (pa_cons (pv 0) pa_nil)))
   (pss_cons (ps_if (pt_cmpR op_gt (pv 2) (pv 1) (nomark _)) (pss_one (ps_raise0 throws_def rfl rfl T.mg_NoText T.ex_NoText)) pss_nil)
   (pss_one (ps_ret (pv 2))))),?_⟩
  refine rd_start (σ:=[some (.str (sl l)),some (.int m),none]) rfl ?_
  walk_at "w"
  refine ⟨l,rfl,hl,fun n w H1 s1=>?_,fun z H1 s1=>ke (fun n w=>absurd w (z n)) _ s1⟩
  walk_at "w"
  by_cases h0:n<=m
  ·rw[decide_eq_false (show ¬((m:Int) < (n:Int)) by lia)]
   walk_at "w"
   exact k n w h0 _ s1
  ·rw[decide_eq_true (show ((m:Int) < (n:Int)) by lia)]
   walk_at "w"
   refine ke (fun n' w'=>?_) _ s1
   have:=digs_inj ((who_eq w).symm.trans (who_eq w'))
   lia
theorem sc_cut:FnScope ["row","many","wide"] ["row","many","wide"] (defScope s_cut):=⟨rfl,rfl,rfl,by decide +kernel,rfl,by decide +kernel,by decide +kernel⟩
theorem ok_cut (T:Txt K mg Z):FnOk P w K mg base CX0 1 Z.a_cut Z.d_cut ["row","many","wide"] (sp_cutQ K):=by
 refine T.F_cut.ok sc_cut (fun vs H Q E h=>?_) (fun cdv A outer s H vs Q E hr h=>?_)
 ·obtain ⟨p,u,kk,w,rfl,_⟩:=h
  rfl
 ·obtain ⟨p,u,kk,w,rfl,Rw,lw,uk,u1,k1,k⟩:=h
  refine ⟨_,(pss_one (ps_ret (pe_comp ["turn"] ["row","wide"] [0,2] (pi_range1 rfl T.range (pa_cons (pv 1) pa_nil)) (fun _=>(pg_name (i:=0) (show List.Nodup (α:=PySem.Str) ["turn","row","wide"] by decide +kernel) rfl (Or.inl rfl) (Or.inl rfl))) (fun _=>pf_nil) (fun _=>(pe_slice (sl_listK K (by rfl)) (pv 1) (po_some (pe_op op_mulS (pv 0) (pv 2))) (po_some (pe_op op_mulS (pe_op op_add (pv 0) pe_int) (pv 2)))))))),?_⟩
  refine rd_start (σ:=[some (.ref p),some (.int u),some (.int kk)]) rfl ?_
  obtain ⟨xs,gx,qx⟩:=id Rw
  have lx:=qx.length
  walk_at "w"
  refine ⟨by lia,by lia,?_⟩
  refine comp_mapR (n:=u) (RowF K H) (fun t=>(w.drop (t*kk)).take kk) (by lia) (fun a b=>a.same b) ?_ ?_
  ·rintro i Hb NY NN hi sa k2
   have b1:i*kk+kk<=u*kk:=by rw[← Nat.succ_mul];exact Nat.mul_le_mul_right _ hi
   walk_at "w"
   refine rd_I (cmulS_l (by lia) (by lia)) ?_
   walk_at "w"
   refine rd_I (cmulS_r (by lia) (by lia)) ?_
   walk_at "w"
   rw[show ((i:Int)*(kk:Int))=((i*kk:Nat):Int) by lia,show (((i:Int)+1)*(kk:Int))=((i*kk:Nat):Int)+(kk:Int) by rw[Int.add_mul,Int.one_mul];lia]
   refine ⟨p,xs,rfl,SqL.of (sa _ _ gx),fun r hr=>?_⟩
   rw[mid_cut (by lia)]
   have sn:=Same.new (o:=.lst ((xs.drop (i*kk)).take kk)) hr
   exact k2 _ _ sn ⟨r,rfl,sa.none hr,_,upd_same,Paired.imp' (fun _ _ z=>(z.same sa).same sn) (paired_take (pair_drop qx _) _)⟩
  rintro ys Hz t ht sz g pr nx
  exact k t Hz ht sz ⟨ys,g,pr,notin nx⟩
theorem sc_read_rows:FnScope ["words","name","many","wide"] ["words","name","many","wide"] (defScope s_read_rows):=⟨rfl,rfl,rfl,by decide +kernel,rfl,by decide +kernel,by decide +kernel⟩
theorem ok_read_rows (T:Txt K mg Z):FnOk P w K mg base (CXE P w) 4 Z.a_read_rows Z.d_read_rows ["words","name","many","wide"] (sp_rg2 K Z.a_NoText):=by
 have G_cut:=ok_cut (P:=P) (w:=w) (base:=base) T
 have G_read_number:=ok_read_number (P:=P) (w:=w) (base:=base) T
 refine T.F_read_rows.okX sc_read_rows (fun vs H Q E h=>?_) (fun cdv A outer s H vs Q E hr h=>?_)
 ·obtain ⟨p,w,many,wide,ws,rfl,_⟩:=h
  rfl
 ·obtain ⟨p,w,many,wide,ws,rfl,gp,lw,m8,w8,wl,k,ke⟩:=h
  refine ⟨_,(pss_cons (ps_if (pt_cmpR op_ne (pe_ix ix_list (pv 0) pe_int (by intro _ _;rfl)) (pv 1) (nomark _)) (pss_one (ps_raise0 throws_def rfl rfl T.mg_NoText T.ex_NoText)) pss_nil)
   (pss_one (ps_ret (pe_call G_cut (hr.mono (by decide)) rfl T.mg_cut T.F_cut.kp T.b_cut .nil pass0 (pa_cons (pe_compX ["word"] [] [] leave_def rfl (pi_list (pe_slice sl_list (pv 0) (po_some pe_int) po_none)) (fun _=>(pg_name (i:=0) (show List.Nodup (α:=PySem.Str) ["word"] by decide +kernel) rfl (Or.inl rfl) (Or.inl rfl))) (fun _=>pf_nil) (fun _=>(pe_call G_read_number (hr.mono (by decide)) rfl T.mg_read_number T.F_read_number.kp T.b_read_number .nil passX (pa_cons (pv 0) pa_nil)))) (pa_cons (pv 2) (pa_cons (pv 3) pa_nil))))))),?_⟩
  refine rd_start (σ:=[some (.ref p),some (.str (sl w)),some (.int many),some (.int wide)]) rfl ?_
  have l64:=sq_le m8 w8
  obtain ⟨w0,rest,rfl⟩:∃w0 rest,ws=w0 :: rest:=by
   cases ws with
   | nil=>rw[List.length_nil] at lw;lia
   | cons a r=>exact ⟨a,r,rfl⟩
  have lr:rest.length=many*wide:=by rw[List.length_cons] at lw;lia
  walk_at "w"
  refine rd_ixL (SqL.of gp) (atI_nat (j:=0) rfl) ?_
  walk_at "w"
  by_cases e0:w0=w
  ·subst e0
   rw[decide_eq_true rfl]
   walk_at "w"
   refine rd_slL (SqL.of gp) fun l1 H1 s1 n1 g1=>?_
   rw[show (1:Int)=((1:Nat):Int) from rfl,cut_from] at g1
   have g1:H1 l1=some (.lst (stL rest)):=g1
   walk_at "w"
   refine ⟨⟨_,SqL.of g1⟩,?_⟩
   refine comp_list (K:=K) (xs:=stL rest) (fun i ys H'=>Same H1 H'∧∃ns:List (Int×Int),(∀n∈ns,Vn n)∧rest.take i=ns.map numT∧Paired (fun n x=>NumR K H' x n) ns ys) (by rw[stL_len];exact big10000 (by lia)) ⟨Same.refl _,[],(fun n hn=>nomatch hn),rfl,.nil⟩ (fun i ys H' _ ⟨s,_⟩=>SqL.of (s _ _ g1)) ?_ ?_
   ·rintro i x ys H' hx hlen ⟨s',ns,hn,en,pr⟩
    unfold stL at hx
    rw[List.getElem?_map] at hx
    obtain ⟨w,ei,rfl⟩:∃w,rest[i]?=some w∧x=.str (sl w):=by
     cases e:rest[i]? with
     | none=>rw[e] at hx;cases hx
     | some n=>rw[e] at hx;cases hx;exact ⟨n,rfl,rfl⟩
    have mw:=List.mem_of_getElem? ei
    walk_at "w"
    refine .inr ⟨w,rfl,wl w (List.mem_cons_of_mem _ mw),fun n vn e r H4 nr s4 g4=>?_,fun z H4 s4=>ke (fun g h=>?_) _ (s1.trans (s'.trans s4))⟩
    ·refine ⟨s'.trans s4,ns++[n],fun m hm=>?_,?_,paired_app (Paired.imp' (fun _ _ z=>s4.num z) pr) (.cons ⟨r,rfl,SqT.of g4⟩ .nil)⟩
     ·rcases List.mem_append.mp hm with hm | hm
      ·exact hn m hm
      ·rw[List.mem_singleton.mp hm];exact vn
     ·rw[take_snoc ei,en,List.map_append,e];rfl
    ·rw[(List.cons.inj h.2.2).2] at mw
     obtain ⟨n,vn,e⟩:=gr_num mw
     exact z n vn e
   rintro ys H2' hy ⟨s2',ns,hn,en,pr⟩ l2 n2
   rw[stL_len,List.take_length] at en
   have ln:ns.length=many*wide:=by rw[← lr,en,List.length_map]
   have s2n:Same H2' (upd H2' l2 (.lst ys)):=Same.new n2
   have g2:(upd H2' l2 (.lst ys)) l2=some (.lst ys):=upd_same
   replace pr:=Paired.imp' (fun _ _ z=>s2n.num z) pr
   generalize upd H2' l2 (.lst ys)=H2 at s2n g2 pr ⊢
   have s2:=s2'.trans s2n
   have gr:=gr_of (w:=w0) hn (congrArg (fun z=>w0 :: z) en) ln
   have R:RowQ K H2 l2 (ns.map val):=by
    refine ⟨ys,g2,?_⟩
    have:∀{ns:List (Int×Int)} {ys:List V},(∀n∈ns,Vn n)->Paired (fun n x=>NumR K H2 x n) ns ys->Paired (NumQ K H2) (ns.map val) ys:=fun {ns ys} hn pr=>by
     induction pr with
     | nil=>exact .nil
     | cons a r ih=>exact .cons (by show NumR K H2 _ (nm (val _));rw[nm_val (hn _ (List.mem_cons_self ..))];exact a) (ih fun m hm=>hn m (List.mem_cons_of_mem _ hm))
    exact this hn pr
   walk_at "w"
   refine ⟨l2,many,wide,ns.map val,rfl,R,by rw[List.length_map];exact ln,by lia,by lia,by lia,fun q H3 nq s3 G3=>?_⟩
   exact k _ gr (gr_ok gr wl) q H3 ((s1.trans s2).none nq) ((s1.trans s2).trans s3) (G3.weak (s1.trans s2))
  ·rw[decide_eq_false (show ¬sl w0=sl w from fun z=>e0 (sl_inj z))]
   walk_at "w"
   exact ke (fun g h=>e0 (List.cons.inj h.2.2).1) _ (Same.refl _)
theorem sc_want_list:FnScope ["thing","at","most"] ["thing","at","most"] (defScope s_want_list):=⟨rfl,rfl,rfl,by decide +kernel,rfl,by decide +kernel,by decide +kernel⟩
theorem ok_want_list (T:Txt K mg Z):FnOk P w K mg base CX0 1 Z.a_want_list Z.d_want_list ["thing","at","most"] sp_want:=by
 refine T.F_want_list.ok sc_want_list (fun vs H Q E h=>?_) (fun cdv A outer s H vs Q E hr h=>?_)
 ·obtain ⟨p,xs,a,m,rfl,_⟩:=h
  rfl
 ·obtain ⟨p,xs,a,m,rfl,gx,hm,k⟩:=h
  refine ⟨_,(pss_cons (ps_if (pt_not (pt_val (pe_isT rfl T.isinstance PyProof.Rows.boot_list T.list (pv 0)))) (pss_one ps_no) pss_nil)
   (pss_one (ps_if (pt_cmpR op_gt (pe_callB call_len_seq (by rfl) T.len PySem.boot_len (pa_cons (pv 0) pa_nil)) (pv 2) (nomark _)) (pss_one ps_no) pss_nil))),?_⟩
  refine rd_start (σ:=[some (.ref p),some (.int a),some (.int m)]) rfl ?_
  walk_at "w"
  refine ⟨_,_,.lst gx,rfl,?_⟩
  walk_at "w"
  refine ⟨_,_,rfl,.inl (SqL.of gx),?_⟩
  walk_at "w"
  rw[decide_eq_false (show ¬m < (xs.length:Int) by lia)]
  walk_at "w"
  exact k
theorem sc_is_whole:FnScope ["thing"] ["thing"] (defScope s_is_whole):=⟨rfl,rfl,rfl,by decide +kernel,rfl,by decide +kernel,by decide +kernel⟩
theorem ok_is_whole (T:Txt K mg Z):FnOk P w K mg base CX0 1 Z.a_is_whole Z.d_is_whole ["thing"] sp_wholeI:=by
 refine T.F_is_whole.ok sc_is_whole (fun vs H Q E h=>?_) (fun cdv A outer s H vs Q E hr h=>?_)
 ·obtain ⟨i,rfl,_⟩:=h
  rfl
 ·obtain ⟨i,rfl,k⟩:=h
  refine ⟨_,(pss_one (ps_ret (pe_and (pe_isT rfl T.isinstance PyProof.Rows.boot_int T.int (pv 0)) (pe_one (pe_not (pe_isT rfl T.isinstance PyProof.Rows.boot_bool T.bool (pv 0))))))),?_⟩
  refine rd_start (σ:=[some (.int i)]) rfl ?_
  walk_at "w"
  refine ⟨_,_,.int i,rfl,?_⟩
  walk_at "w"
  refine ⟨_,_,.int i,rfl,?_⟩
  walk_at "w"
  exact k
theorem sc_is_number:FnScope ["thing"] ["thing"] (defScope s_is_number):=⟨rfl,rfl,rfl,by decide +kernel,rfl,by decide +kernel,by decide +kernel⟩
theorem ok_is_number (T:Txt K mg Z):FnOk P w K mg base CX0 2 Z.a_is_number Z.d_is_number ["thing"] (sp_isnumP K):=by
 have G_is_whole:=ok_is_whole (P:=P) (w:=w) (base:=base) T
 have G_common_divisor:=ok_common_divisor (P:=P) (w:=w) (base:=base) T
 refine T.F_is_number.ok sc_is_number (fun vs H Q E h=>?_) (fun cdv A outer s H vs Q E hr h=>?_)
 ·obtain ⟨x,n,rfl,_⟩:=h
  rfl
 ·obtain ⟨x,n,rfl,⟨p,rfl,hp⟩,hn,k⟩:=h
  refine ⟨_,(pss_cons (ps_if (PW.pt (pw_or (pt_not (pt_val (pe_isTK rfl T.isinstance PyProof.Rows.boot_tuple T.tuple (pv 0)))) (pw_or1 (pt_cmpR op_ne (pe_callB call_len_seq (by rfl) T.len PySem.boot_len (pa_cons (pv 0) pa_nil)) pe_int (nomark _))))) (pss_one (ps_ret pe_bl)) pss_nil)
   (pss_cons (ps_if (PW.pt (pw_or (pt_not (pt_val (pe_call G_is_whole (hr.mono (by decide)) rfl T.mg_is_whole T.F_is_whole.kp T.b_is_whole .nil pass0 (pa_cons (pe_ix ix_tup (pv 0) pe_int (by intro _ _;rfl)) pa_nil)))) (pw_or1 (pt_not (pt_val (pe_call G_is_whole (hr.mono (by decide)) rfl T.mg_is_whole T.F_is_whole.kp T.b_is_whole .nil pass0 (pa_cons (pe_ix ix_tup (pv 0) pe_int (by intro _ _;rfl)) pa_nil))))))) (pss_one (ps_ret pe_bl)) pss_nil)
   (pss_one (ps_ret (pe_and (pe_cmpR op_ge (pe_ix ix_tup (pv 0) pe_int (by intro _ _;rfl)) pe_int (nomark _)) (pe_one (pe_cmpR op_eq (pe_call G_common_divisor (hr.mono (by decide)) rfl T.mg_common_divisor T.F_common_divisor.kp T.b_common_divisor .nil pass0 (pa_cons (pe_ix ix_tup (pv 0) pe_int (by intro _ _;rfl)) (pa_cons (pe_ix ix_tup (pv 0) pe_int (by intro _ _;rfl)) pa_nil))) pe_int (nomark _)))))))),?_⟩
  refine rd_start (σ:=[some (.ref p)]) rfl ?_
  obtain ⟨hb,hg,s1,s2⟩:=hn
  walk_at "w"
  refine .inr ⟨p,_,_,rfl,hp,rfl,?_⟩
  walk_at "w"
  refine ⟨_,_,rfl,.inr hp,?_⟩
  walk_at "w"
  try refine iteF ?_
  walk_at "w"
  refine ⟨n.1,rfl,?_⟩
  walk_at "w"
  refine ⟨n.2,rfl,?_⟩
  walk_at "w"
  rw[decide_eq_true (show (1:Int)<=n.2 by lia)]
  walk_at "w"
  refine ⟨n.1,n.2,rfl,?_⟩
  walk_at "w"
  have e:g n.1 n.2=1:=by unfold g;rw[hg];rfl
  rw[e,decide_eq_true rfl]
  exact k _ (Same.refl _)
theorem sc_is_row:FnScope ["thing","many"] ["thing","many"] (defScope s_is_row):=⟨rfl,rfl,rfl,by decide +kernel,rfl,by decide +kernel,by decide +kernel⟩
theorem ok_is_row (T:Txt K mg Z):FnOk P w K mg base CX0 3 Z.a_is_row Z.d_is_row ["thing","many"] (sp_isrowK K):=by
 have G_is_number:=ok_is_number (P:=P) (w:=w) (base:=base) T
 refine T.F_is_row.ok sc_is_row (fun vs H Q E h=>?_) (fun cdv A outer s H vs Q E hr h=>?_)
 ·obtain ⟨p,ns,rfl,_⟩:=h
  rfl
 ·obtain ⟨p,ns,rfl,hp,hl,hn,k⟩:=h
  refine ⟨_,(pss_cons (ps_if (PW.pt (pw_or (pt_not (pt_val (pe_isT rfl T.isinstance PyProof.Rows.boot_list T.list (pv 0)))) (pw_or1 (pt_cmpR op_ne (pe_callB call_len_seq (by rfl) T.len PySem.boot_len (pa_cons (pv 0) pa_nil)) (pv 1) (nomark _))))) (pss_one (ps_ret pe_bl)) pss_nil)
   (pss_one (ps_ret (pe_callB (call_all rfl) (by rfl) T.all PyProof.Rows.boot_all (pa_cons (pe_comp ["value"] [] [] (pi_list (pv 0)) (fun _=>(pg_name (i:=0) (show List.Nodup (α:=PySem.Str) ["value"] by decide +kernel) rfl (Or.inl rfl) (Or.inl rfl))) (fun _=>pf_nil) (fun _=>(pe_call G_is_number (hr.mono (by decide)) rfl T.mg_is_number T.F_is_number.kp T.b_is_number .nil pass0 (pa_cons (pv 0) pa_nil)))) pa_nil))))),?_⟩
  refine rd_start (σ:=[some (.ref p),some (.int ns.length)]) rfl ?_
  obtain ⟨xs,gx,qx⟩:=id hp
  have lx:=qx.length
  walk_at "w"
  refine ⟨_,_,.lst gx,rfl,?_⟩
  walk_at "w"
  refine ⟨_,_,rfl,.inl (SqL.of gx),?_⟩
  walk_at "w"
  rw[show ((xs.length:Nat):Int)=(ns.length:Nat) by rw[lx],decide_eq_true rfl]
  walk_at "w"
  refine ⟨⟨_,SqL.of gx⟩,?_⟩
  refine comp_list (K:=K) (xs:=xs) (fun i ys H'=>Same H H'∧ys=List.replicate i (.bl true)) (Nat.le_of_lt (small1000 (by lia))) ⟨Same.refl _,rfl⟩ (fun i ys H' _ ⟨s,_⟩=>SqL.of (s _ _ gx)) ?_ ?_
  ·rintro i x ys H' hx hlen ⟨s,rfl⟩
   obtain ⟨n,en,z⟩:=paired_at qx hx
   walk_at "w"
   exact ⟨x,n,rfl,s.num z,hn n (List.mem_of_getElem? en),fun H2 s2=>⟨s.trans s2,by rw[List.replicate_succ']⟩⟩
  ·rintro ys H' hy ⟨s,rfl⟩ l hl'
   walk_at "w"
   refine ⟨l,List.replicate xs.length true,rfl,SqL.of (by rw[upd_same];simp),?_⟩
   have e4:(List.replicate xs.length true).all id=true:=by simp
   rw[e4]
   exact k _ (s.trans (Same.new hl'))
theorem sc_copied_rows:FnScope ["things","wide","place","thing"] ["things","wide"] (defScope s_copied_rows):=⟨rfl,rfl,rfl,by decide +kernel,rfl,by decide +kernel,by decide +kernel⟩
theorem ok_copied_rows (T:Txt K mg Z):FnOk P w K mg base CX0 4 Z.a_copied_rows Z.d_copied_rows ["things","wide"] (sp_copR K):=by
 have G_is_row:=ok_is_row (P:=P) (w:=w) (base:=base) T
 refine T.F_copied_rows.ok sc_copied_rows (fun vs H Q E h=>?_) (fun cdv A outer s H vs Q E hr h=>?_)
 ·obtain ⟨p,H0,rows,w,rfl,_⟩:=h
  rfl
 ·obtain ⟨p,H0,rows,w,rfl,hp,hl,hw,hn,k⟩:=h
  refine ⟨_,(pss_cons (ps_for PassesOwn.never rfl (pi_enum rfl T.enumerate (pa_cons (pv 0) pa_nil)) (pg_tup rfl (pgs_cons (pg_name (i:=2) sc_copied_rows.nd rfl (Or.inl rfl) (Or.inl rfl)) (pgs_cons (pg_name (i:=3) sc_copied_rows.nd rfl (Or.inl rfl) (Or.inl rfl)) pgs_nil)))
    (pss_one (ps_if (pt_not (pt_val (pe_call G_is_row (hr.mono (by decide)) rfl T.mg_is_row T.F_is_row.kp T.b_is_row .nil pass0 (pa_cons (pv 3) (pa_cons (pv 1) pa_nil))))) (pss_one ps_no) pss_nil)))
   (pss_one (ps_ret (pe_comp ["row"] [] [] (pi_list (pv 0)) (fun _=>(pg_name (i:=0) (show List.Nodup (α:=PySem.Str) ["row"] by decide +kernel) rfl (Or.inl rfl) (Or.inl rfl))) (fun _=>pf_nil) (fun _=>(pe_callTy (call_list_ofK K (by rfl)) (by rfl) T.list PyProof.Rows.boot_list (pa_cons (pv 0) pa_nil))))))),?_⟩
  refine rd_start (σ:=[some (.ref p),some (.int w),none,none]) rfl ?_
  obtain ⟨xs,gx,qx,_⟩:=id hp
  walk_at "w"
  refine ⟨⟨_,SqL.of gx⟩,?_⟩
  refine for_enum (K:=K) (l:=p) (xs:=xs) (fun i σ' H'=>Same H H'∧∃x y,σ'=[some (.ref p),some (.int w),x,y]) ⟨Same.refl _,none,none,rfl⟩ (fun i σ' H' _ ⟨s,_⟩=>SqL.of (s _ _ gx)) ?_ ?_
  ·rintro i x σ' H' t hx ⟨s,x1,y1,rfl⟩ ht
   obtain ⟨qs,eq,q,rfl,_,Rq⟩:=paired_at qx hx
   have hm:=List.mem_of_getElem? eq
   have st:Same H' (upd H' t (.tup [.int i,.ref q])):=Same.new ht
   have gt:(upd H' t (.tup [.int i,.ref q])) t=some (.tup [.int i,.ref q]):=upd_same
   have s2:=s.trans st
   generalize upd H' t (.tup [.int i,.ref q])=H2 at st gt s2 ⊢
   have lq:(qs.map nm).length=w:=by rw[List.length_map];exact (hn qs hm).1
   walk_at "w"
   refine ⟨q,_,by rw[lq],(Rq.same s2).rowK,by rw[lq];exact hw,fun n hn'=>?_,fun H3 s3=>?_⟩
   ·obtain ⟨y,hy,rfl⟩:=List.mem_map.mp hn'
    exact (hn qs hm).2 y hy
   walk_at "w"
   exact ⟨s2.trans s3,_,_,rfl⟩
  ·rintro σ' H' ⟨s,x1,y1,rfl⟩
   walk_at "w"
   refine ⟨⟨_,SqL.of (s _ _ gx)⟩,?_⟩
   refine comp_mapL (K:=K) (F:=RowF K H0) (RowF K H) id (s _ _ gx) (Paired.imp' (fun _ _ z=>z.same s) qx) hl (fun a b=>a.same b) (fun a b=>a.same b) ?_ ?_
   ·rintro i ns x H2 NY NN en s2 ⟨u,rfl,_,zs,gz,qz⟩ k1
    walk_at "w"
    refine ⟨u,zs,rfl,.inl (SqL.of gz),fun l1 hl1=>?_⟩
    exact k1 _ _ (Same.new hl1) ⟨l1,rfl,s.none (s2.none hl1),zs,upd_same,Paired.imp' (fun _ _ z=>z.same (Same.new hl1)) qz⟩
   ·rintro ys' H2 r hr s2 g pr nx
    rw[List.map_id] at pr nx
    exact k r H2 (s.none hr) (s.trans s2) ⟨ys',g,pr,notin nx⟩
theorem sc_System___init__:FnScope ["self","move","put","look"] ["self","move","put","look"] (defScope s_System___init__):=⟨rfl,rfl,rfl,by decide +kernel,rfl,by decide +kernel,by decide +kernel⟩
theorem ok_System___init__ (T:Txt K mg Z):FnOk P w K mg base CX0 5 Z.a_System___init__ Z.d_System___init__ ["self","move","put","look"] (sp_init K Z.a_System):=by
 have G_want_list:=ok_want_list (P:=P) (w:=w) (base:=base) T
 have G_copied_rows:=ok_copied_rows (P:=P) (w:=w) (base:=base) T
 refine T.F_System___init__.ok sc_System___init__ (fun vs H Q E h=>?_) (fun cdv A outer s H vs Q E hr h=>?_)
 ·obtain ⟨x,dx,p,q,r,Hb,H0,H1,H2,mv,pt,lk,rfl,_⟩:=h
  rfl
 ·obtain ⟨x,dx,p,q,r,Hb,H0,H1,H2,mv,pt,lk,rfl,nx,ndx,nex,rfl,gp,gq,gr,D,om,op,ol,k⟩:=h
  refine ⟨_,(pss_cons (ps_expr (pe_call G_want_list (hr.mono (by decide)) rfl T.mg_want_list T.F_want_list.kp T.b_want_list .nil pass0 (pa_cons (pv 1) (pa_cons pe_int (pa_cons (pe_glob (v:=.int 8) rfl T.mg_MOST_STATES ⟨_,rfl⟩) pa_nil)))))
   (pss_cons (ps_fld (pv 0) (pe_call G_copied_rows (hr.mono (by decide)) rfl T.mg_copied_rows T.F_copied_rows.kp T.b_copied_rows .nil pass0 (pa_cons (pv 1) (pa_cons (pe_callB call_len_seq (by rfl) T.len PySem.boot_len (pa_cons (pv 1) pa_nil)) pa_nil))) rfl)
   (pss_cons (ps_fld (pv 0) (pe_callB call_len_seq (by rfl) T.len PySem.boot_len (pa_cons (pe_fld (pv 0) rfl) pa_nil)) rfl)
   (pss_cons (ps_expr (pe_call G_want_list (hr.mono (by decide)) rfl T.mg_want_list T.F_want_list.kp T.b_want_list .nil pass0 (pa_cons (pv 2) (pa_cons pe_int (pa_cons (pe_glob (v:=.int 4) rfl T.mg_MOST_PUTS ⟨_,rfl⟩) pa_nil)))))
   (pss_cons (ps_fld (pv 0) (pe_call G_copied_rows (hr.mono (by decide)) rfl T.mg_copied_rows T.F_copied_rows.kp T.b_copied_rows .nil pass0 (pa_cons (pv 2) (pa_cons (pe_fld (pv 0) rfl) pa_nil))) rfl)
   (pss_cons (ps_fld (pv 0) (pe_callB call_len_seq (by rfl) T.len PySem.boot_len (pa_cons (pe_fld (pv 0) rfl) pa_nil)) rfl)
   (pss_cons (ps_expr (pe_call G_want_list (hr.mono (by decide)) rfl T.mg_want_list T.F_want_list.kp T.b_want_list .nil pass0 (pa_cons (pv 3) (pa_cons pe_int (pa_cons (pe_glob (v:=.int 4) rfl T.mg_MOST_LOOKS ⟨_,rfl⟩) pa_nil)))))
   (pss_cons (ps_fld (pv 0) (pe_call G_copied_rows (hr.mono (by decide)) rfl T.mg_copied_rows T.F_copied_rows.kp T.b_copied_rows .nil pass0 (pa_cons (pv 3) (pa_cons (pe_fld (pv 0) rfl) pa_nil))) rfl)
   (pss_one (ps_fld (pv 0) (pe_callB call_len_seq (by rfl) T.len PySem.boot_len (pa_cons (pe_fld (pv 0) rfl) pa_nil)) rfl)))))))))),?_⟩
  refine rd_start (σ:=[some (.ref x),some (.ref p),some (.ref q),some (.ref r)]) rfl ?_
  have s0:Same Hb (upd (upd Hb dx (.own x)) x (.ins Z.a_System dx [])):=fun b o e=>by
   rw[upd_ne (ne_of_none e nx),upd_ne (ne_of_none e ndx)]
   exact e
  have hx:(upd (upd Hb dx (.own x)) x (.ins Z.a_System dx [])) x=some (.ins Z.a_System dx []):=upd_same
  have back:∀{b},(upd (upd Hb dx (.own x)) x (.ins Z.a_System dx [])) b=none->Hb b=none:=fun h=>s0.none h
  generalize upd (upd Hb dx (.own x)) x (.ins Z.a_System dx [])=Ha at s0 hx back ⊢
  obtain ⟨xs,gx,qx,_⟩:=id gp
  obtain ⟨ys,gy,qy,_⟩:=id gq
  obtain ⟨zs,gz,qz,_⟩:=id gr
  have lx:=qx.length
  have ly:=qy.length
  have lz:=qz.length
  have d1:=D.n8
  have d2:=D.i4
  have d3:=D.o4
  walk_at "w"
  refine ⟨p,xs,0,8,rfl,s0 _ _ gx,by lia,?_⟩
  walk_at "w"
  refine ⟨_,_,rfl,.inl (SqL.of (s0 _ _ gx)),?_⟩
  walk_at "w"
  refine ⟨p,H0,mv,mv.length,by rw[lx],gp.same s0,by lia,by lia,fun ws hw=>⟨D.mw ws hw,om ws hw⟩,fun a H3 na s3 Ga=>?_⟩
  have hx3:=s3 _ _ hx
  walk_at "w"
  refine ⟨x,Z.a_System,dx,_,rfl,hx3,T.cl_System,T.na_move,(by show 0 < 1000;decide),?_⟩
  have e3:Exc x H3 (upd H3 x (.ins Z.a_System dx (putF "move" (.ref a) []))):=Exc.upd
  have i3:IsIns H3 x:=⟨_,_,_,hx3⟩
  have hx4:(upd H3 x (.ins Z.a_System dx (putF "move" (.ref a) []))) x=some (.ins Z.a_System dx (putF "move" (.ref a) [])):=upd_same
  have Ga4:=Ga.exc e3 i3
  have k4:Same Hb (upd H3 x (.ins Z.a_System dx (putF "move" (.ref a) []))):=(s0.trans s3).after nx
  generalize upd H3 x (.ins Z.a_System dx (putF "move" (.ref a) []))=H4 at e3 hx4 Ga4 k4 ⊢
  walk_at "w"
  refine ⟨x,Z.a_System,dx,_,_,rfl,hx4,T.cl_System,T.na_move,(by rw[lookup_putF,if_pos rfl]),?_⟩
  obtain ⟨as,ga,qa,_⟩:=id Ga4
  have la:=qa.length
  walk_at "w"
  refine ⟨_,_,rfl,.inl (SqL.of ga),?_⟩
  walk_at "w"
  refine ⟨x,Z.a_System,dx,_,rfl,hx4,T.cl_System,T.na_states,Nat.lt_of_le_of_lt putF_len (by show 1 < 1000;decide),?_⟩
  rw[show ((as.length:Nat):Int)=((mv.length:Nat):Int) by rw[la]]
  have e4:Exc x H4 (upd H4 x (.ins Z.a_System dx (putF "states" (.int mv.length) (putF "move" (.ref a) [])))):=Exc.upd
  have i4:IsIns H4 x:=⟨_,_,_,hx4⟩
  have hx5:(upd H4 x (.ins Z.a_System dx (putF "states" (.int mv.length) (putF "move" (.ref a) [])))) x=some (.ins Z.a_System dx (putF "states" (.int mv.length) (putF "move" (.ref a) []))):=upd_same
  have Ga5:=Ga4.exc e4 i4
  have k5:Same Hb (upd H4 x (.ins Z.a_System dx (putF "states" (.int mv.length) (putF "move" (.ref a) [])))):=k4.after nx
  generalize upd H4 x (.ins Z.a_System dx (putF "states" (.int mv.length) (putF "move" (.ref a) [])))=H5 at e4 hx5 Ga5 k5 ⊢
  clear e3 e4 i3 i4 hx4 Ga4 ga qa
  walk_at "w"
  refine ⟨q,ys,1,4,rfl,k5 _ _ gy,by lia,?_⟩
  walk_at "w"
  refine ⟨x,Z.a_System,dx,_,_,rfl,hx5,T.cl_System,T.na_states,(by rw[lookup_putF,if_pos rfl]),?_⟩
  walk_at "w"
  refine ⟨q,H1,pt,mv.length,rfl,gq.same k5,by lia,by lia,fun ws hw=>⟨D.pw ws hw,op ws hw⟩,fun b H6 nb s6 Gb=>?_⟩
  have hx6:=s6 _ _ hx5
  have i6:IsIns H6 x:=⟨_,_,_,hx6⟩
  walk_at "w"
  refine ⟨x,Z.a_System,dx,_,rfl,hx6,T.cl_System,T.na_put,Nat.lt_of_le_of_lt putF_len (Nat.lt_of_le_of_lt (Nat.succ_le_succ putF_len) (by show 2 < 1000;decide)),?_⟩
  have e6:Exc x H6 (upd H6 x (.ins Z.a_System dx (putF "put" (.ref b) (putF "states" (.int mv.length) (putF "move" (.ref a) []))))):=Exc.upd
  have hx7:(upd H6 x (.ins Z.a_System dx (putF "put" (.ref b) (putF "states" (.int mv.length) (putF "move" (.ref a) []))))) x=some (.ins Z.a_System dx (putF "put" (.ref b) (putF "states" (.int mv.length) (putF "move" (.ref a) [])))):=upd_same
  have Ga7:=(Ga5.same s6).exc e6 i6
  have Gb7:=(Gb.weak k5).exc e6 i6
  have k7:Same Hb (upd H6 x (.ins Z.a_System dx (putF "put" (.ref b) (putF "states" (.int mv.length) (putF "move" (.ref a) []))))):=(k5.trans s6).after nx
  generalize upd H6 x (.ins Z.a_System dx (putF "put" (.ref b) (putF "states" (.int mv.length) (putF "move" (.ref a) []))))=H7 at e6 hx7 Ga7 Gb7 k7 ⊢
  obtain ⟨bs,gb,qb,_⟩:=id Gb7
  have lb:=qb.length
  walk_at "w"
  refine ⟨x,Z.a_System,dx,_,_,rfl,hx7,T.cl_System,T.na_put,(by rw[lookup_putF,if_pos rfl]),?_⟩
  walk_at "w"
  refine ⟨_,_,rfl,.inl (SqL.of gb),?_⟩
  walk_at "w"
  refine ⟨x,Z.a_System,dx,_,rfl,hx7,T.cl_System,T.na_ins,Nat.lt_of_le_of_lt putF_len (Nat.lt_of_le_of_lt (Nat.succ_le_succ (Nat.le_trans putF_len (Nat.succ_le_succ putF_len))) (by show 3 < 1000;decide)),?_⟩
  rw[show ((bs.length:Nat):Int)=((pt.length:Nat):Int) by rw[lb]]
  have i7:IsIns H7 x:=⟨_,_,_,hx7⟩
  have e7:Exc x H7 (upd H7 x (.ins Z.a_System dx (putF "ins" (.int pt.length) (putF "put" (.ref b) (putF "states" (.int mv.length) (putF "move" (.ref a) [])))))):=Exc.upd
  have hx8:(upd H7 x (.ins Z.a_System dx (putF "ins" (.int pt.length) (putF "put" (.ref b) (putF "states" (.int mv.length) (putF "move" (.ref a) [])))))) x=some (.ins Z.a_System dx (putF "ins" (.int pt.length) (putF "put" (.ref b) (putF "states" (.int mv.length) (putF "move" (.ref a) []))))):=upd_same
  have Ga8:=Ga7.exc e7 i7
  have Gb8:=Gb7.exc e7 i7
  have k8:Same Hb (upd H7 x (.ins Z.a_System dx (putF "ins" (.int pt.length) (putF "put" (.ref b) (putF "states" (.int mv.length) (putF "move" (.ref a) [])))))):=k7.after nx
  generalize upd H7 x (.ins Z.a_System dx (putF "ins" (.int pt.length) (putF "put" (.ref b) (putF "states" (.int mv.length) (putF "move" (.ref a) [])))))=H8 at e7 hx8 Ga8 Gb8 k8 ⊢
  clear e6 e7 i6 i7 hx7 Ga7 Gb7 gb qb
  walk_at "w"
  refine ⟨r,zs,2,4,rfl,k8 _ _ gz,by lia,?_⟩
  walk_at "w"
  refine ⟨x,Z.a_System,dx,_,_,rfl,hx8,T.cl_System,T.na_states,(by rw[lookup_putF,if_neg (by decide +kernel),lookup_putF,if_neg (by decide +kernel),lookup_putF,if_pos rfl]),?_⟩
  walk_at "w"
  refine ⟨r,H2,lk,mv.length,rfl,gr.same k8,by lia,by lia,fun ws hw=>⟨D.lw ws hw,ol ws hw⟩,fun c H9 nc s9 Gc=>?_⟩
  have hx9:=s9 _ _ hx8
  have i9:IsIns H9 x:=⟨_,_,_,hx9⟩
  walk_at "w"
  refine ⟨x,Z.a_System,dx,_,rfl,hx9,T.cl_System,T.na_look,Nat.lt_of_le_of_lt putF_len (Nat.lt_of_le_of_lt (Nat.succ_le_succ (Nat.le_trans putF_len (Nat.succ_le_succ (Nat.le_trans putF_len (Nat.succ_le_succ putF_len))))) (by show 4 < 1000;decide)),?_⟩
  have e9:Exc x H9 (upd H9 x (.ins Z.a_System dx (putF "look" (.ref c) (putF "ins" (.int pt.length) (putF "put" (.ref b) (putF "states" (.int mv.length) (putF "move" (.ref a) []))))))):=Exc.upd
  have hxA:(upd H9 x (.ins Z.a_System dx (putF "look" (.ref c) (putF "ins" (.int pt.length) (putF "put" (.ref b) (putF "states" (.int mv.length) (putF "move" (.ref a) []))))))) x=some (.ins Z.a_System dx (putF "look" (.ref c) (putF "ins" (.int pt.length) (putF "put" (.ref b) (putF "states" (.int mv.length) (putF "move" (.ref a) [])))))):=upd_same
  have GaA:=(Ga8.same s9).exc e9 i9
  have GbA:=(Gb8.same s9).exc e9 i9
  have GcA:=(Gc.weak k8).exc e9 i9
  have kA:Same Hb (upd H9 x (.ins Z.a_System dx (putF "look" (.ref c) (putF "ins" (.int pt.length) (putF "put" (.ref b) (putF "states" (.int mv.length) (putF "move" (.ref a) []))))))):=(k8.trans s9).after nx
  generalize upd H9 x (.ins Z.a_System dx (putF "look" (.ref c) (putF "ins" (.int pt.length) (putF "put" (.ref b) (putF "states" (.int mv.length) (putF "move" (.ref a) []))))))=HA at e9 hxA GaA GbA GcA kA ⊢
  obtain ⟨cs,gc,qc,_⟩:=id GcA
  have lc:=qc.length
  walk_at "w"
  refine ⟨x,Z.a_System,dx,_,_,rfl,hxA,T.cl_System,T.na_look,(by rw[lookup_putF,if_pos rfl]),?_⟩
  walk_at "w"
  refine ⟨_,_,rfl,.inl (SqL.of gc),?_⟩
  walk_at "w"
  refine ⟨x,Z.a_System,dx,_,rfl,hxA,T.cl_System,T.na_outs,Nat.lt_of_le_of_lt putF_len (Nat.lt_of_le_of_lt (Nat.succ_le_succ (Nat.le_trans putF_len (Nat.succ_le_succ (Nat.le_trans putF_len (Nat.succ_le_succ (Nat.le_trans putF_len (Nat.succ_le_succ putF_len))))))) (by show 5 < 1000;decide)),?_⟩
  rw[show ((cs.length:Nat):Int)=((lk.length:Nat):Int) by rw[lc]]
  have iA:IsIns HA x:=⟨_,_,_,hxA⟩
  exact k _ (kA.after nx) ⟨dx,a,b,c,upd_same,back na,k5.none nb,k8.none nc,(GaA.exc Exc.upd iA).weak s0,GbA.exc Exc.upd iA,GcA.exc Exc.upd iA⟩
theorem sc_read_system:FnScope ["text","words","wide","ins","outs","put_at","look_at","move","put"] ["text"] (defScope s_read_system):=⟨rfl,rfl,rfl,by decide +kernel,rfl,by decide +kernel,by decide +kernel⟩
theorem ok_read_system (T:Txt K mg Z):FnOk P w K mg base (CXE P w) 7 Z.a_read_system Z.d_read_system ["text"] (sp_rs3 K Z.a_System Z.a_NoText):=by
 have G_words_in:=ok_words_in (P:=P) (w:=w) (base:=base) T
 have G_read_size:=ok_read_size (P:=P) (w:=w) (base:=base) T
 have G_read_rows:=ok_read_rows (P:=P) (w:=w) (base:=base) T
 have G_System___init__:=ok_System___init__ (P:=P) (w:=w) (base:=base) T
 refine T.F_read_system.okX sc_read_system (fun vs H Q E h=>?_) (fun cdv A outer s H vs Q E hr h=>?_)
 ·obtain ⟨y,rfl,_⟩:=h
  rfl
 ·obtain ⟨y,rfl,h⟩:=h
  refine ⟨_,(pss_cons (ps_set (i:=1) sc_read_system.nd rfl (Or.inl rfl) (pe_call G_words_in (hr.mono (by decide)) rfl T.mg_words_in T.F_words_in.kp T.b_words_in .nil pass_def (pa_cons (pv 0) pa_nil)))
   (pss_cons (ps_if (pt_cmpR op_lt (pe_callB call_len_seq (by rfl) T.len PySem.boot_len (pa_cons (pv 1) pa_nil)) pe_int (nomark _)) (pss_one (ps_raise0 throws_def rfl rfl T.mg_NoText T.ex_NoText)) pss_nil)
   (pss_cons (ps_set (i:=2) sc_read_system.nd rfl (Or.inl rfl) (pe_call G_read_size (hr.mono (by decide)) rfl T.mg_read_size T.F_read_size.kp T.b_read_size .nil pass_def (pa_cons (pe_ix ix_list (pv 1) pe_int (by intro _ _;rfl)) (pa_cons (pe_glob (v:=.int 8) rfl T.mg_MOST_STATES ⟨_,rfl⟩) pa_nil))))
   (pss_cons (ps_set (i:=3) sc_read_system.nd rfl (Or.inl rfl) (pe_call G_read_size (hr.mono (by decide)) rfl T.mg_read_size T.F_read_size.kp T.b_read_size .nil pass_def (pa_cons (pe_ix ix_list (pv 1) pe_int (by intro _ _;rfl)) (pa_cons (pe_glob (v:=.int 4) rfl T.mg_MOST_PUTS ⟨_,rfl⟩) pa_nil))))
   (pss_cons (ps_set (i:=4) sc_read_system.nd rfl (Or.inl rfl) (pe_call G_read_size (hr.mono (by decide)) rfl T.mg_read_size T.F_read_size.kp T.b_read_size .nil pass_def (pa_cons (pe_ix ix_list (pv 1) pe_int (by intro _ _;rfl)) (pa_cons (pe_glob (v:=.int 4) rfl T.mg_MOST_LOOKS ⟨_,rfl⟩) pa_nil))))
   (pss_cons (ps_set (i:=5) sc_read_system.nd rfl (Or.inl rfl) (pe_op op_add pe_int (pe_op op_mulS (pv 2) (pv 2))))
   (pss_cons (ps_set (i:=6) sc_read_system.nd rfl (Or.inl rfl) (pe_op op_add (pe_op op_add (pv 5) pe_int) (pe_op op_mulS (pv 3) (pv 2))))
   (pss_cons (ps_if (pt_cmpR op_ne (pe_callB call_len_seq (by rfl) T.len PySem.boot_len (pa_cons (pv 1) pa_nil)) (pe_op op_add (pe_op op_add (pv 6) pe_int) (pe_op op_mulS (pv 4) (pv 2))) (nomark _)) (pss_one (ps_raise0 throws_def rfl rfl T.mg_NoText T.ex_NoText)) pss_nil)
   (pss_cons (ps_set (i:=7) sc_read_system.nd rfl (Or.inl rfl) (pe_call G_read_rows (hr.mono (by decide)) rfl T.mg_read_rows T.F_read_rows.kp T.b_read_rows .nil pass_def (pa_cons (pe_slice sl_list (pv 1) (po_some pe_int) (po_some (pv 5))) (pa_cons pe_str (pa_cons (pv 2) (pa_cons (pv 2) pa_nil))))))
   (pss_cons (ps_set (i:=8) sc_read_system.nd rfl (Or.inl rfl) (pe_call G_read_rows (hr.mono (by decide)) rfl T.mg_read_rows T.F_read_rows.kp T.b_read_rows .nil pass_def (pa_cons (pe_slice sl_list (pv 1) (po_some (pv 5)) (po_some (pv 6))) (pa_cons pe_str (pa_cons (pv 3) (pa_cons (pv 2) pa_nil))))))
   (pss_one (ps_ret (pe_make T.mk_System G_System___init__ (hr.mono (by decide)) rfl T.mg_System T.b_System___init__ .nil pass0 (pa_cons (pv 7) (pa_cons (pv 8) (pa_cons (pe_call G_read_rows (hr.mono (by decide)) rfl T.mg_read_rows T.F_read_rows.kp T.b_read_rows .nil pass_def (pa_cons (pe_slice sl_list (pv 1) (po_some (pv 6)) po_none) (pa_cons pe_str (pa_cons (pv 4) (pa_cons (pv 2) pa_nil))))) pa_nil)))))))))))))))),?_⟩
  refine rd_start (σ:=[some y,none,none,none,none,none,none,none,none]) rfl ?_
  rcases h with ⟨od,ke⟩ | ⟨l,ws,rfl,hl,wl,w0,w1,ew,k,ke⟩
  ·walk_at "w"
   exact .inl ⟨od,ke⟩
  have es:Txt.split (sl l) (sl [32])=ws.map sl:=by rw[ew];exact split_join w0 w1
  walk_at "w"
  refine .inr ⟨_,rfl,by lia,fun p H1 s1 np gp=>?_⟩
  rw[es,stL_sl] at gp
  have lS:(stL ws).length=ws.length:=stL_len _
  walk_at "w"
  refine ⟨_,_,rfl,.inl (SqL.of gp),?_⟩
  walk_at "w"
  by_cases l3:ws.length < 3
  ·rw[decide_eq_true (show (((stL ws).length:Nat):Int) < 3 by lia)]
   walk_at "w"
   exact ke (fun mv pt lk h=>by have:=(sy_cut h).1;lia) _ s1
  rw[decide_eq_false (show ¬(((stL ws).length:Nat):Int) < 3 by lia)]
  obtain ⟨a0,e0⟩:∃a,ws[0]?=some a:=⟨_,List.getElem?_eq_getElem (by lia)⟩
  obtain ⟨a1,e1⟩:∃a,ws[1]?=some a:=⟨_,List.getElem?_eq_getElem (by lia)⟩
  obtain ⟨a2,e2⟩:∃a,ws[2]?=some a:=⟨_,List.getElem?_eq_getElem (by lia)⟩
  have ix:∀{j:Nat} {a:List Nat},ws[j]?=some a->(stL ws)[j]?=some (.str (sl a)):=fun e=>by unfold stL;rw[List.getElem?_map,e];rfl
  walk_at "w"
  refine rd_ixL (SqL.of gp) (atI_nat (j:=0) (ix e0)) ?_
  walk_at "w"
  refine ⟨a0,8,rfl,wl _ (List.mem_of_getElem? e0),fun n wn n8 H2 s2=>?_,fun z H2 s2=>ke (fun mv pt lk h=>?_) _ (s1.trans s2)⟩
  rotate_left
  ·have q:=(sy_cut h).2.1
   rw[e0] at q
   have:=z mv.length (by rw[Option.some.inj q];exact who_digs _)
   have:=h.1.n8
   lia
  have gp2:=s2 _ _ gp
  walk_at "w"
  refine rd_ixL (SqL.of gp2) (atI_nat (j:=1) (ix e1)) ?_
  walk_at "w"
  have s12:=s1.trans s2
  refine ⟨a1,4,rfl,wl _ (List.mem_of_getElem? e1),fun i wi i4 H3 s3=>?_,fun z H3 s3=>ke (fun mv pt lk h=>?_) _ (s12.trans s3)⟩
  rotate_left
  ·have q:=(sy_cut h).2.2.1
   rw[e1] at q
   have:=z pt.length (by rw[Option.some.inj q];exact who_digs _)
   have:=h.1.i4
   lia
  have gp3:=s3 _ _ gp2
  walk_at "w"
  refine rd_ixL (SqL.of gp3) (atI_nat (j:=2) (ix e2)) ?_
  walk_at "w"
  have s13:=s12.trans s3
  refine ⟨a2,4,rfl,wl _ (List.mem_of_getElem? e2),fun o wo o4 H4 s4=>?_,fun z H4 s4=>ke (fun mv pt lk h=>?_) _ (s13.trans s4)⟩
  rotate_left
  ·have q:=(sy_cut h).2.2.2.1
   rw[e2] at q
   have:=z lk.length (by rw[Option.some.inj q];exact who_digs _)
   have:=h.1.o4
   lia
  have gp4:=s4 _ _ gp3
  have s14:=s13.trans s4
  have q1:=sq_le n8 n8
  have q2:=sq_le i4 n8
  have q3:=sq_le o4 n8
  rw[who_eq wn] at e0
  rw[who_eq wi] at e1
  rw[who_eq wo] at e2
  have sy:∀mv pt lk,SyT ws mv pt lk->mv.length=n∧pt.length=i∧lk.length=o∧SysD mv pt lk∧ws.length=6+n*n+i*n+o*n∧ws.drop 3=(wM :: gw mv)++(wP :: gw pt)++(wL :: gw lk):=fun mv pt lk h=>by
   obtain ⟨c1,c2,c3,c4,c5⟩:=sy_cut h
   rw[e0] at c2
   rw[e1] at c3
   rw[e2] at c4
   have z0:=digs_inj (Option.some.inj c2)
   have z1:=digs_inj (Option.some.inj c3)
   have z2:=digs_inj (Option.some.inj c4)
   exact ⟨z0.symm,z1.symm,z2.symm,h.1,by rw[c1,← z0,← z1,← z2],c5⟩
  walk_at "w"
  refine rd_I (cmulS_l (by lia) (by lia)) ?_
  walk_at "w"
  refine rd_I (cmulS_l (by lia) (by lia)) ?_
  walk_at "w"
  refine ⟨_,_,rfl,.inl (SqL.of gp4),?_⟩
  walk_at "w"
  refine rd_I (cmulS_l (by lia) (by lia)) ?_
  walk_at "w"
  have c1:(n:Int)*(n:Int)=((n*n:Nat):Int):=by lia
  have c2:(i:Int)*(n:Int)=((i*n:Nat):Int):=by lia
  have c3:(o:Int)*(n:Int)=((o*n:Nat):Int):=by lia
  rw[c1,c2,c3]
  by_cases lw:ws.length=6+n*n+i*n+o*n
  rotate_left
  ·rw[decide_eq_false (show ¬(((stL ws).length:Nat):Int)=_ by rw[lS];lia)]
   walk_at "w"
   exact ke (fun mv pt lk h=>lw (sy mv pt lk h).2.2.2.2.1) _ s14
  rw[decide_eq_true (show (((stL ws).length:Nat):Int)=_ by rw[lS,lw];lia)]
  walk_at "w"
  refine rd_slL (SqL.of gp4) fun l5 H5 s5 n5 g5=>?_
  rw[show (3:Int)=((3:Nat):Int) from rfl,show ((4:Int)+((n*n:Nat):Int))=((3:Nat):Int)+((1+n*n:Nat):Int) by lia,mid_cut (by lia)] at g5
  have st3:∀a b,((stL ws).drop a).take b=stL ((ws.drop a).take b):=fun a b=>by unfold stL;rw[List.map_take,List.map_drop]
  rw[st3] at g5
  have gp5:=s5 _ _ gp4
  have s15:=s14.trans s5
  have inW:∀a b,∀x∈(ws.drop a).take b,x.length<=1000:=fun a b x hx=>wl x (List.mem_of_mem_drop (List.mem_of_mem_take hx))
  walk_at "w"
  refine ⟨l5,wM,n,n,(ws.drop 3).take (1+n*n),by rw[sl_M],g5,by rw[List.length_take,List.length_drop];lia,by lia,by lia,inW _ _,fun g1 G1 ok1 qm H6 nm6 s6 G6=>?_,fun z H6 s6=>ke (fun mv pt lk h=>?_) _ (s15.trans s6)⟩
  rotate_left
  ·obtain ⟨y1,y2,y3,D,y4,y5⟩:=sy mv pt lk h
   have:=(part_cut y5).1
   rw[List.length_cons,gw_len D.mw,y1,Nat.add_comm] at this
   exact z mv ⟨fun xs hx=>by rw[D.mw xs hx,y1],y1,this⟩
  have gp6:=s6 _ _ gp5
  walk_at "w"
  refine rd_slL (SqL.of gp6) fun l7 H7 s7 n7 g7=>?_
  rw[show ((4:Int)+((n*n:Nat):Int))=((3+(1+n*n):Nat):Int) by lia,show (((3+(1+n*n):Nat):Int)+1+((i*n:Nat):Int))=((3+(1+n*n):Nat):Int)+((1+i*n:Nat):Int) by lia,mid_cut (by lia),st3] at g7
  have gp7:=s7 _ _ gp6
  have s17:=(s15.trans s6).trans s7
  walk_at "w"
  refine ⟨l7,wP,i,n,(ws.drop (3+(1+n*n))).take (1+i*n),by rw[sl_P],g7,by rw[List.length_take,List.length_drop];lia,by lia,by lia,inW _ _,fun g2 G2 ok2 qp H8 np8 s8 G8=>?_,fun z H8 s8=>ke (fun mv pt lk h=>?_) _ (s17.trans s8)⟩
  rotate_left
  ·obtain ⟨y1,y2,y3,D,y4,y5⟩:=sy mv pt lk h
   have:=(part_cut y5).2.1
   rw[List.length_cons,List.length_cons,gw_len D.mw,gw_len D.pw,y1,y2,Nat.add_comm _ 1,Nat.add_comm _ 1] at this
   exact z pt ⟨fun xs hx=>by rw[D.pw xs hx,y1],y2,this⟩
  have gp8:=s8 _ _ gp7
  walk_at "w"
  refine rd_slL (SqL.of gp8) fun l9 H9 s9 n9 g9=>?_
  have st4:∀a,(stL ws).drop a=stL (ws.drop a):=fun a=>by unfold stL;rw[List.map_drop]
  rw[show (4:Int)+((n*n:Nat):Int)+1+((i*n:Nat):Int)=((3+(1+n*n)+(1+i*n):Nat):Int) by lia,cut_from,st4] at g9
  have s19:=(s17.trans s8).trans s9
  walk_at "w"
  refine ⟨l9,wL,o,n,ws.drop (3+(1+n*n)+(1+i*n)),by rw[sl_L],g9,by rw[List.length_drop];lia,by lia,by lia,fun x hx=>wl x (List.mem_of_mem_drop hx),fun g3 G3 ok3 ql HA nlA sA GA=>?_,fun z HA sA=>ke (fun mv pt lk h=>?_) _ (s19.trans sA)⟩
  rotate_left
  ·obtain ⟨y1,y2,y3,D,y4,y5⟩:=sy mv pt lk h
   have:=(part_cut y5).2.2
   rw[List.length_cons,List.length_cons,gw_len D.mw,gw_len D.pw,y1,y2,Nat.add_comm (n*n) 1,Nat.add_comm (i*n) 1] at this
   exact z lk ⟨fun xs hx=>by rw[D.lw xs hx,y1],y3,this⟩
  walk_at "w"
  have s1A:=s19.trans sA
  have s6A:=(s7.trans s8).trans (s9.trans sA)
  have s8A:=s9.trans sA
  have D:SysD g1 g2 g3:=⟨by rw[G1.2.1];exact n8,by rw[G2.2.1];exact i4,by rw[G3.2.1];exact o4,fun xs hx=>by rw[G1.2.1];exact G1.1 xs hx,fun xs hx=>by rw[G1.2.1];exact G2.1 xs hx,fun xs hx=>by rw[G1.2.1];exact G3.1 xs hx⟩
  have fin:SyT ws g1 g2 g3:=sy_of D (by rw[G1.2.1];exact e0) (by rw[G2.2.1];exact e1) (by rw[G3.2.1];exact e2) (part_join G1.2.2 G2.2.2 G3.2.2)
  intro x dx nx ndx nex
  refine ⟨x,dx,qm,qp,ql,HA,_,_,_,g1,g2,g3,rfl,nx,ndx,nex,rfl,G6.same s6A,G8.same s8A,GA,D,ok1,ok2,ok3,fun HB sB SB=>?_⟩
  exact ⟨rfl,k g1 g2 g3 fin x HB (s1A.none nx) (s1A.trans sB) (SB.weak s1A)⟩
theorem sc__law_system_text:FnScope ["_law_parts_here","_law_words","_law_word","_law_grid","_law_row_here"] ["_law_parts_here"] (defScope s__law_system_text):=⟨rfl,rfl,rfl,by decide +kernel,rfl,by decide +kernel,by decide +kernel⟩
theorem ok__law_system_text (T:Txt K mg Z):FnOk P w K mg base CX0 2 Z.a__law_system_text Z.d__law_system_text ["_law_parts_here"] (sp_textS K):=by
 have G__law_number_text:=ok__law_number_text (P:=P) (w:=w) (base:=base) T
 refine T.F__law_system_text.ok sc__law_system_text (fun vs H Q E h=>?_) (fun cdv A outer s H vs Q E hr h=>?_)
 ·obtain ⟨r,H0,mv,pt,lk,rfl,_⟩:=h
  rfl
 ·obtain ⟨r,H0,mv,pt,lk,rfl,S,D,o1,o2,o3,k⟩:=h
  refine ⟨_,(pss_cons (ps_set (i:=1) sc__law_system_text.nd rfl (Or.inl rfl) (pe_lst (pa_cons (pe_callTy (call_strD rfl) (by rfl) T.str PyProof.Rows.boot_str (pa_cons (pe_callB call_len_seq (by rfl) T.len PySem.boot_len (pa_cons (pe_ix ix_tup (pv 0) pe_int (by intro _ _;rfl)) pa_nil)) pa_nil)) (pa_cons (pe_callTy (call_strD rfl) (by rfl) T.str PyProof.Rows.boot_str (pa_cons (pe_callB call_len_seq (by rfl) T.len PySem.boot_len (pa_cons (pe_ix ix_tup (pv 0) pe_int (by intro _ _;rfl)) pa_nil)) pa_nil)) (pa_cons (pe_callTy (call_strD rfl) (by rfl) T.str PyProof.Rows.boot_str (pa_cons (pe_callB call_len_seq (by rfl) T.len PySem.boot_len (pa_cons (pe_ix ix_tup (pv 0) pe_int (by intro _ _;rfl)) pa_nil)) pa_nil)) pa_nil)))))
   (pss_cons (ps_for PassesOwn.never rfl (pi_list (pe_lst (pa_cons (pe_tup (pa_cons pe_str (pa_cons (pe_ix ix_tup (pv 0) pe_int (by intro _ _;rfl)) pa_nil))) (pa_cons (pe_tup (pa_cons pe_str (pa_cons (pe_ix ix_tup (pv 0) pe_int (by intro _ _;rfl)) pa_nil))) (pa_cons (pe_tup (pa_cons pe_str (pa_cons (pe_ix ix_tup (pv 0) pe_int (by intro _ _;rfl)) pa_nil))) pa_nil))))) (pg_tup rfl (pgs_cons (pg_name (i:=2) sc__law_system_text.nd rfl (Or.inl rfl) (Or.inl rfl)) (pgs_cons (pg_name (i:=3) sc__law_system_text.nd rfl (Or.inl rfl) (Or.inl rfl)) pgs_nil)))
    (pss_cons (ps_expr (pe_bm PySem.F.plainAttrs_list PySem.F.slot_list_append PySem.F.type_list_append mt_append (pv 1) (pa_cons (pv 2) pa_nil)))
   (pss_one (ps_for PassesOwn.never rfl (pi_list (pv 3)) (pg_name (i:=4) sc__law_system_text.nd rfl (Or.inl rfl) (Or.inl rfl))
    (pss_one (ps_expr (pe_bm PySem.F.plainAttrs_list PySem.F.slot_list_extend PySem.F.type_list_extend mt_extend (pv 1) (pa_cons (pe_comp ["_law_one"] [] [] (pi_list (pv 4)) (fun _=>(pg_name (i:=0) (show List.Nodup (α:=PySem.Str) ["_law_one"] by decide +kernel) rfl (Or.inl rfl) (Or.inl rfl))) (fun _=>pf_nil) (fun _=>(pe_call G__law_number_text (hr.mono (by decide)) rfl T.mg__law_number_text T.F__law_number_text.kp T.b__law_number_text .nil pass0 (pa_cons (pv 0) pa_nil)))) pa_nil))))))))
   (pss_one (ps_ret (pe_bm PySem.F.plainAttrs_str PySem.F.slot_str_join PySem.F.type_str_join mt_join pe_str (pa_cons (pv 1) pa_nil)))))),?_⟩
  refine rd_start (σ:=[some (.ref r),none,none,none,none]) rfl ?_
  have d8:=D.n8
  have d4:=D.i4
  have d5:=D.o4
  have q1:=sq_le D.n8 D.n8
  have q2:=sq_le D.i4 D.n8
  have q3:=sq_le D.o4 D.n8
  have sm:∀n:Nat,n<=8->(((n:Nat):Int)).natAbs < 10^4300:=fun n hn=>sz_4300 (show Sz 8000 ((n:Nat):Int) from Nat.lt_of_lt_of_le (show ((n:Nat):Int).natAbs < 2^10 by lia) (Nat.pow_le_pow_right (by decide) (by decide)))
  have tn:∀n:Nat,intT ((n:Nat):Int)=digs n:=fun m=>by unfold intT;rw[if_neg (by lia),Int.natAbs_natCast]
  obtain ⟨am,ap,al,gr,a1,a2,a3,Gm,Gp,Gl⟩:=id S
  obtain ⟨xm,gm,qm,_⟩:=id Gm
  obtain ⟨xp,gp,qp,_⟩:=id Gp
  obtain ⟨xl,gl0,ql,_⟩:=id Gl
  have lm:=qm.length
  have lp:=qp.length
  have ll:=ql.length
  walk_at "w"
  refine ⟨_,_,rfl,.inl (SqL.of gm),?_⟩
  rw[← lm]
  walk_at "w"
  refine ⟨sm _ d8,?_⟩
  walk_at "w"
  refine ⟨_,_,rfl,.inl (SqL.of gp),?_⟩
  rw[← lp]
  walk_at "w"
  refine ⟨sm _ (by lia),?_⟩
  walk_at "w"
  refine ⟨_,_,rfl,.inl (SqL.of gl0),?_⟩
  rw[← ll]
  walk_at "w"
  refine ⟨sm _ (by lia),?_⟩
  rw[tn,tn,tn]
  walk_at "w"
  refine rd_newL fun l H1 s1 nl gl=>?_
  have gr1:=s1 _ _ gr
  walk_at "w"
  refine rd_newT fun t1 H2 s2 g2=>?_
  have gr2:=s2 _ _ gr1
  walk_at "w"
  refine rd_newT fun t2 H3 s3 g3=>?_
  have gr3:=s3 _ _ gr2
  walk_at "w"
  refine rd_newT fun t3 H4 s4 g4=>?_
  walk_at "w"
  refine rd_newL fun lt H5 s5 n5 g5=>?_
  have s25:=(s2.trans s3).trans (s4.trans s5)
  have gl5:=s25 _ _ gl
  have h5:=s5 _ _ g4
  have h4:=(s4.trans s5) _ _ g3
  have h3:=(s3.trans (s4.trans s5)) _ _ g2
  have ne:∀{t:Addr} {o:List V},H5 t=some (.tup o)->t≠l:=fun e z=>by rw[z,gl5] at e;cases e
  have lt5:lt≠l:=fun z=>by have:=(s2.trans (s3.trans s4)) _ _ gl;rw[← z,n5] at this;cases this
  have sm5:Same H (hole H5 l):=same_hole (s1.trans s25) nl
  have m3:=hole_get h3 (ne h3)
  have m4:=hole_get h4 (ne h4)
  have m5:=hole_get h5 (ne h5)
  have mt:=hole_get g5 lt5
  rw[sl_M] at m3
  rw[sl_P] at m4
  rw[sl_L] at m5
  have GM:=Gm.same sm5
  have GP:=Gp.same sm5
  have GL:=Gl.same sm5
  have pick:∀(i:Nat) (v:V),[V.ref t1,V.ref t2,V.ref t3][i]?=some v->∃(t a:Addr) (w:List Nat) (g:List (List Rat)),v=.ref t∧hole H5 l t=some (.tup [.str (sl w),.ref a])∧GridQ K H0 (hole H5 l) a g∧(∀xs∈g,xs.length=mv.length)∧g.length<=8∧GOk g∧[wM :: gw mv,wP :: gw pt,wL :: gw lk][i]?=some (w :: gw g):=fun i v hv=>by
   rcases i with _ | _ | _ | i
   ·cases hv;exact ⟨t1,_,wM,mv,rfl,m3,GM,D.mw,d8,o1,rfl⟩
   ·cases hv;exact ⟨t2,_,wP,pt,rfl,m4,GP,D.pw,by lia,o2,rfl⟩
   ·cases hv;exact ⟨t3,_,wL,lk,rfl,m5,GL,D.lw,by lia,o3,rfl⟩
   ·cases hv
  have lenB:∀i,i<=3->([digs mv.length,digs pt.length,digs lk.length]++([wM :: gw mv,wP :: gw pt,wL :: gw lk].take i).flatten).length<=134:=fun i hi=>by
   have e:=sysW_le D
   rw[sysW_len D] at e
   have l1:=gw_len D.mw
   have l2:=gw_len D.pw
   have l3:=gw_len D.lw
   rcases i with _ | _ | _ | _ | i
   ·show 3<=134;decide
   ·simp;lia
   ·simp;lia
   ·simp;lia
   ·lia
  have fin:[digs mv.length,digs pt.length,digs lk.length]++([wM :: gw mv,wP :: gw pt,wL :: gw lk].take 3).flatten=sysW mv pt lk:=by unfold sysW;simp
  have hs5:Same (hole H5 l) H5:=hole_same
  have hml:hole H5 l l=none:=hole_at
  generalize hole H5 l=Hm at pick mt sm5 hs5 hml ⊢
  walk_at "w"
  refine ⟨⟨_,SqL.of g5⟩,?_⟩
  refine for_list (K:=K) (a:=lt) (xs:=[.ref t1,.ref t2,.ref t3]) (fun i σ' H'=>Same Hm H'∧∃y1 y2 y3,σ'=[some (.ref r),some (.ref l),y1,y2,y3]∧H' l=some (.lst (stL ([digs mv.length,digs pt.length,digs lk.length]++([wM :: gw mv,wP :: gw pt,wL :: gw lk].take i).flatten)))) ⟨hs5,_,_,_,rfl,gl5⟩ (fun i σ' H' _ ⟨e,_⟩=>SqL.of (e _ _ mt)) ?_ ?_
  ·rintro i v σ' H6 hv ⟨s6,y1,y2,y3,rfl,gl6⟩
   obtain ⟨t,a,w,g,rfl,gt,Gg,gw1,g8,og,eP⟩:=pick i v hv
   have i3:i < 3:=by have:=(List.getElem?_eq_some_iff.mp hv).1;simpa using this
   have lB:=lenB (i+1) (by lia)
   rw[take_snoc eP,List.flatten_append,List.flatten_singleton,← List.append_assoc,List.length_append,List.length_cons] at lB
   have gt6:=s6 _ _ gt
   walk_at "w"
   refine ⟨.inl ⟨rfl,_,SqL.of gl6⟩,?_⟩
   walk_at "w"
   refine ⟨l,_,_,rfl,rfl,gl6,small1000 (by rw[stL_len];lia),?_⟩
   have s7:=s6.after (r:=l) (o:=.lst (stL ([digs mv.length,digs pt.length,digs lk.length]++([wM :: gw mv,wP :: gw pt,wL :: gw lk].take i).flatten)++[.str (sl w)])) hml
   have gl7:(upd H6 l (.lst (stL ([digs mv.length,digs pt.length,digs lk.length]++([wM :: gw mv,wP :: gw pt,wL :: gw lk].take i).flatten)++[.str (sl w)]))) l=some (.lst (stL ([digs mv.length,digs pt.length,digs lk.length]++([wM :: gw mv,wP :: gw pt,wL :: gw lk].take i).flatten++[w]))):=by rw[upd_same];exact congrArg (fun z=>some (HO.lst z)) (stL_app _ [w]).symm
   generalize upd H6 l (.lst (stL ([digs mv.length,digs pt.length,digs lk.length]++([wM :: gw mv,wP :: gw pt,wL :: gw lk].take i).flatten)++[.str (sl w)]))=H7 at s7 gl7 ⊢
   generalize hws:[digs mv.length,digs pt.length,digs lk.length]++([wM :: gw mv,wP :: gw pt,wL :: gw lk].take i).flatten=ws at lB gl7 gl6 ⊢
   obtain ⟨xs,gxs,qxs,_⟩:=Gg.same s7
   have lf:=gw_len gw1
   have sq8:=sq_le g8 d8
   have glm:Hm a=some (.lst xs):=by
    obtain ⟨xs',gx',_⟩:=Gg
    have:=s7 _ _ gx'
    rw[gxs] at this
    cases this
    exact gx'
   walk_at "w"
   refine ⟨⟨_,SqL.of gxs⟩,?_⟩
   refine for_list (K:=K) (a:=a) (xs:=xs) (fun j σ' H'=>Same Hm H'∧∃y3,σ'=[some (.ref r),some (.ref l),some (.str (sl w)),some (.ref a),y3]∧H' l=some (.lst (stL (ws++[w]++gw (g.take j))))) ⟨s7,_,rfl,by rw[List.take_zero];show H7 l=some (.lst (stL (ws++[w]++[])));rw[List.append_nil];exact gl7⟩ (fun j σ' H' _ ⟨e,_⟩=>SqL.of (e _ _ glm)) ?_ ?_
   ·rintro j v σ' H8 hv ⟨s8,y3,rfl,gl8⟩
    obtain ⟨qs,eq,q,rfl,_,Rq⟩:=paired_at qxs hv
    have mq:=List.mem_of_getElem? eq
    have lq:=gw1 qs mq
    obtain ⟨xs',gx',qx',_⟩:=Gg.same s8
    have gg:=s8 _ _ glm
    rw[gx'] at gg
    cases gg
    obtain ⟨qs',eq',q',e',_,ys,gy,qy⟩:=paired_at qx' hv
    rw[eq] at eq'
    cases eq'
    cases e'
    have ly:=qy.length
    have lG:(gw (g.take j)).length+qs.length<=(gw g).length:=by
     have e:gw g=gw (g.take j)++((qs.map fun q=>numT (nm q))++gw (g.drop (j+1))):=by
      unfold gw
      rw[← List.map_append,← List.map_append]
      congr 1
      have hj:j < g.length:=(List.getElem?_eq_some_iff.mp eq).1
      have e2:g=g.take j++(qs :: g.drop (j+1)):=by
       have e3:=List.getElem_cons_drop hj
       rw[(List.getElem?_eq_some_iff.mp eq).2] at e3
       rw[e3,List.take_append_drop]
      conv=>lhs;rw[e2,List.flatten_append,List.flatten_cons]
     rw[e,List.length_append,List.length_append,List.length_map]
     lia
    walk_at "w"
    refine ⟨.inl ⟨rfl,_,SqL.of gl8⟩,?_⟩
    walk_at "w"
    refine ⟨⟨_,SqL.of gy⟩,?_⟩
    refine comp_list (K:=K) (xs:=ys) (fun m zs H'=>H'=H8∧zs=stL ((qs.take m).map fun q=>numT (nm q))) (Nat.le_of_lt (small1000 (by lia))) ⟨rfl,rfl⟩ (fun m zs H' _ ⟨e,_⟩=>by subst e;exact SqL.of gy) ?_ ?_
    ·rintro m v zs H' hv hlen ⟨rfl,rfl⟩
     obtain ⟨u,eu,hu⟩:=paired_at qy hv
     walk_at "w"
     exact ⟨v,nm u,rfl,hu,og qs mq u (List.mem_of_getElem? eu),rfl,by rw[take_snoc eu,List.map_append,stL_app];rfl⟩
    rintro zs H' hz ⟨rfl,rfl⟩ lb hlb
    rw[List.take_of_length_le (by lia)]
    have s9:Same H' (upd H' lb (.lst (stL (qs.map fun q=>numT (nm q))))):=Same.new hlb
    have g9:(upd H' lb (.lst (stL (qs.map fun q=>numT (nm q))))) lb=some (.lst (stL (qs.map fun q=>numT (nm q)))):=upd_same
    generalize upd H' lb (.lst (stL (qs.map fun q=>numT (nm q))))=H9 at s9 g9 ⊢
    have gl9:=s9 _ _ gl8
    walk_at "w"
    refine ⟨l,lb,_,_,rfl,rfl,gl9,g9,Nat.le_of_lt (small1000 (by rw[stL_len,stL_len,List.length_append,List.length_append,List.length_singleton,List.length_map];lia)),?_⟩
    walk_at "w"
    refine ⟨(s8.trans s9).after hml,_,rfl,?_⟩
    rw[upd_same,← stL_app,List.append_assoc (ws++[w])]
    congr 3
    unfold gw
    rw[take_snoc eq,List.flatten_append,List.flatten_singleton,List.map_append]
   rintro σ' H8 ⟨s8,y3,rfl,gl8⟩
   have lxs:=qxs.length
   rw[List.take_of_length_le (by lia)] at gl8
   walk_at "w"
   refine ⟨s8,_,_,_,rfl,?_⟩
   rw[gl8,take_snoc eP,List.flatten_append,List.flatten_singleton,← List.append_assoc,hws,List.append_assoc]
   rfl
  rintro σ' H6 ⟨s6,y1,y2,y3,rfl,gl6⟩
  rw[show [V.ref t1,V.ref t2,V.ref t3].length=3 from rfl,fin] at gl6
  walk_at "w"
  refine ⟨rfl,?_⟩
  walk_at "w"
  refine ⟨_,l,(sysW mv pt lk).map sl,rfl,rfl,by decide,by rw[stL_sl];exact gl6,by rw[List.length_map];have:=sysW_le D;lia,fun y hy=>?_,?_⟩
  ·obtain ⟨w,hw,rfl⟩:=List.mem_map.mp hy
   have:=(sysW_mem D o1 o2 o3 hw).2
   rw[sl_length]
   lia
  ·rw[show Str.ofString " "=sl [32] from sl_space,sl_join]
   exact k _ (sm5.trans s6)
theorem sc__law_right_ones:FnScope ["_law_one","_law_row_here","_law_parts_here"] ["_law_one","_law_row_here","_law_parts_here"] (defScope s__law_right_ones):=⟨rfl,rfl,rfl,by decide +kernel,rfl,by decide +kernel,by decide +kernel⟩
theorem ok__law_right_ones (T:Txt K mg Z):FnOk P w K mg base CX0 8 Z.a__law_right_ones Z.d__law_right_ones ["_law_one","_law_row_here","_law_parts_here"] (sp_ri3 K Z.a_System):=by
 have G_read_number:=ok_read_number (P:=P) (w:=w) (base:=base) T
 have G__law_number_text:=ok__law_number_text (P:=P) (w:=w) (base:=base) T
 have G_read_row:=ok_read_row (P:=P) (w:=w) (base:=base) T
 have G__law_row_text:=ok__law_row_text (P:=P) (w:=w) (base:=base) T
 have G__law_fields:=ok__law_fields (P:=P) (w:=w) (base:=base) T
 have G_read_system:=ok_read_system (P:=P) (w:=w) (base:=base) T
 have G__law_system_text:=ok__law_system_text (P:=P) (w:=w) (base:=base) T
 refine T.F__law_right_ones.ok sc__law_right_ones (fun vs H Q E h=>?_) (fun cdv A outer s H vs Q E hr h=>?_)
 ·obtain ⟨x,r,t,n,ns,H0,mv,pt,lk,rfl,_⟩:=h
  rfl
 ·obtain ⟨x,r,t,n,ns,H0,mv,pt,lk,rfl,N,vn,ok,ln,M,l5,hm,S,D,o1,o2,o3,wl,k⟩:=h
  refine ⟨_,(pss_cons (ps_if (PW.pt (pw_or (pt_cmpR (op_neD (hu50 hr)) (pe_call G_read_number (hr.mono (by decide)) rfl T.mg_read_number T.F_read_number.kp T.b_read_number .nil passN (pa_cons (pe_call G__law_number_text (hr.mono (by decide)) rfl T.mg__law_number_text T.F__law_number_text.kp T.b__law_number_text .nil pass0 (pa_cons (pv 0) pa_nil)) pa_nil)) (pv 0) (nomark _)) (pw_or1 (pt_cmpR (op_neD (hu50 hr)) (pe_call G_read_row (hr.mono (by decide)) rfl T.mg_read_row T.F_read_row.kp T.b_read_row .nil passN (pa_cons (pe_call G__law_row_text (hr.mono (by decide)) rfl T.mg__law_row_text T.F__law_row_text.kp T.b__law_row_text .nil pass0 (pa_cons (pv 1) pa_nil)) pa_nil)) (pv 1) (nomark _))))) (pss_one (ps_ret pe_bl)) pss_nil)
   (pss_one (ps_ret (pe_call G__law_fields (hr.mono (by decide)) rfl T.mg__law_fields T.F__law_fields.kp T.b__law_fields .nil pass0 (pa_cons (pe_call G_read_system (hr.mono (by decide)) rfl T.mg_read_system T.F_read_system.kp T.b_read_system .nil passN (pa_cons (pe_call G__law_system_text (hr.mono (by decide)) rfl T.mg__law_system_text T.F__law_system_text.kp T.b__law_system_text .nil pass0 (pa_cons (pv 2) pa_nil)) pa_nil)) (pa_cons (pv 2) pa_nil)))))),?_⟩
  refine rd_start (σ:=[some x,some (.ref r),some (.ref t)]) rfl ?_
  walk_at "w"
  refine ⟨_,n,rfl,N,ok,?_⟩
  walk_at "w"
  refine .inr ⟨numT n,rfl,by lia,fun m vm e q H1 nq s1 g1=>?_,fun z=>absurd rfl (z n vn)⟩
  obtain rfl:=numT_inj vn vm e
  have N1:=s1.num N
  walk_at "w"
  refine ⟨_,_,kNum,n,n,by decide,⟨q,rfl,SqT.of g1⟩,N1,?_⟩
  rw[decide_eq_true rfl]
  walk_at "w"
  refine ⟨r,ns,rfl,M.same s1,by lia,fun n hn=>(hm n hn).2.1,fun H2 s2=>?_⟩
  walk_at "w"
  have jl:(joinL 32 (ns.map numT)).length<=305:=Nat.le_trans (joinL_le 32 60 _ fun w hw=>by obtain ⟨n,mn,rfl⟩:=List.mem_map.mp hw;exact (hm n mn).2.2) (by rw[List.length_map];lia)
  refine .inr ⟨_,rfl,by lia,fun ms rt q2 H3 nq s3 M3=>?_,fun z=>?_⟩
  rotate_left
  ·exact absurd ⟨fun n hn=>(hm n hn).1,rfl⟩ (z ns)
  obtain rfl:=rw_uniq ⟨fun n hn=>(hm n hn).1,rfl⟩ rt
  have s13:=(s1.trans s2).trans s3
  walk_at "w"
  refine ⟨_,_,kRow,ns,ns,by decide,M3.kind,(M.same s13).kind,?_⟩
  rw[decide_eq_true rfl]
  walk_at "w"
  refine ⟨t,H0,mv,pt,lk,rfl,S.same s13,D,o1,o2,o3,fun H4 s4=>?_⟩
  walk_at "w"
  have lj:(joinL 32 (sysW mv pt lk)).length<=90000:=Nat.le_trans (joinL_le 32 650 _ wl) (Nat.le_trans (Nat.mul_le_mul_right _ (sysW_le D)) (by decide))
  refine .inr ⟨_,sysW mv pt lk,rfl,by lia,fun w hw=>Nat.le_trans (wl w hw) (by decide),by unfold sysW;simp,sys_32,rfl,fun mv' pt' lk' sy y H5 ny s5 Y=>?_,fun z=>absurd ⟨D,rfl⟩ (z mv pt lk)⟩
  obtain ⟨rfl,rfl,rfl⟩:=sy_uniq ⟨D,rfl⟩ sy
  have s15:=(s13.trans s4).trans s5
  walk_at "w"
  exact ⟨y,t,_,H0,mv,pt,lk,rfl,Y,S.same s15,D,⟨o1,o2,o3⟩,fun H6 s6=>k _ (s15.trans s6)⟩
  
theorem bd__law_odd:∃x1 x2 x3 x4 x5 x6 x7 x8 x9:Expr,x1=(PySem.Expr.Constant PySem.Const.none 0 ⟨346,21,346,25⟩)∧x2=(PySem.Expr.Constant (PySem.Const.int 3) 0 ⟨346,27,346,28⟩)∧x3=(PySem.Expr.Constant (PySem.Const.bool true) 0 ⟨346,30,346,34⟩)∧x4=(PySem.Expr.Tuple (elts:=[ (PySem.Expr.Constant (PySem.Const.int 1) 0 ⟨346,37,346,38⟩),(PySem.Expr.Constant (PySem.Const.int 1) 0 ⟨346,40,346,41⟩)]) (k:=0) (pos:=⟨346,36,346,42⟩))∧x5=(PySem.Expr.List [] ⟨346,44,346,46⟩)∧x6=(PySem.Expr.List [(PySem.Expr.Constant (PySem.Const.str "1") 0 ⟨346,49,346,52⟩)] ⟨346,48,346,53⟩)∧x7=(PySem.Expr.Dict [] [] ⟨346,55,346,57⟩)∧x8=(PySem.Expr.Tuple [(PySem.Expr.Constant (PySem.Const.str "1") 0 ⟨346,60,346,63⟩)] 0 ⟨346,59,346,65⟩)∧x9=(PySem.Expr.BinOp (left:=(PySem.Expr.Constant (PySem.Const.int 10) 0 ⟨346,67,346,69⟩)) (op:=PySem.Operator.Pow) (right:=(PySem.Expr.Constant (PySem.Const.int 12) 0 ⟨346,73,346,75⟩)) (pos:=⟨346,67,346,75⟩))∧defBody s__law_odd=[ (PySem.Stmt.Assign (targets:=[(PySem.Expr.Name "_law_odd_here" ⟨346,4,346,17⟩)]) (value:=(PySem.Expr.List (elts:=[x1,x2,x3,x4,x5,x6,x7,x8,x9]) (pos:=⟨346,20,346,76⟩))) (pos:=⟨346,4,346,76⟩)),(PySem.Stmt.Return (value:=(some (PySem.Expr.Subscript (value:=(PySem.Expr.Name "_law_odd_here" ⟨347,11,347,24⟩)) (slice:=(PySem.Expr.Call (func:=(PySem.Expr.Name "_law_take" ⟨347,25,347,34⟩)) (args:=[ (PySem.Expr.Name "_law_bag_here" ⟨347,35,347,48⟩),(PySem.Expr.Call (func:=(PySem.Expr.Name "len" ⟨347,50,347,53⟩)) (args:=[(PySem.Expr.Name "_law_odd_here" ⟨347,54,347,67⟩)]) (keywords:=[]) (pos:=⟨347,50,347,68⟩))]) (keywords:=[]) (pos:=⟨347,25,347,69⟩))) (pos:=⟨347,11,347,70⟩)))) (pos:=⟨347,4,347,70⟩))]:=⟨_,_,_,_,_,_,_,_,_,rfl,rfl,rfl,rfl,rfl,rfl,rfl,rfl,rfl,by with_unfolding_all rfl⟩
theorem sc__law_odd:FnScope ["_law_bag_here","_law_odd_here"] ["_law_bag_here"] (defScope s__law_odd):=⟨rfl,rfl,rfl,by decide +kernel,rfl,by decide +kernel,by decide +kernel⟩
theorem ok__law_odd (T:Txt K mg Z):FnOk P w K mg base CX0 2 Z.a__law_odd Z.d__law_odd ["_law_bag_here"] sp_od3:=by
 have G__law_take:=ok__law_take (P:=P) (w:=w) (base:=base) T
 refine T.F__law_odd.ok sc__law_odd (fun vs H Q E h=>?_) (fun cdv A outer s H vs Q E hr h=>?_)
 ·obtain ⟨b,rfl,_⟩:=h
  rfl
 ·obtain ⟨b,rfl,B,k⟩:=h
  obtain ⟨x1,x2,x3,x4,x5,x6,x7,x8,x9,hx1,hx2,hx3,hx4,hx5,hx6,hx7,hx8,hx9,hbd⟩:=bd__law_odd
  rw[hbd]
  refine ⟨_,(pss_cons (ps_set (i:=1) sc__law_odd.nd rfl (Or.inl rfl) (pe_lst (pa_consE hx1 pe_non (pa_consE hx2 pe_int (pa_consE hx3 pe_bl (pa_consE hx4 (pe_tup (pa_cons pe_int (pa_cons pe_int pa_nil))) (pa_consE hx5 (pe_lst pa_nil) (pa_consE hx6 (pe_lst (pa_cons pe_str pa_nil)) (pa_consE hx7 pe_dnew (pa_consE hx8 (pe_tup (pa_cons pe_str pa_nil)) (pa_consE hx9 (pe_op op_pow pe_int pe_int) pa_nil)))))))))))
   (pss_one (ps_ret (pe_ix ix_list (pv 1) (pe_call G__law_take (hr.mono (by decide)) rfl T.mg__law_take T.F__law_take.kp T.b__law_take .nil pass0 (pa_cons (pv 0) (pa_cons (pe_callB call_len_seq (by rfl) T.len PySem.boot_len (pa_cons (pv 1) pa_nil)) pa_nil))) (by intro _ _;rfl))))),?_⟩
  refine rd_start (σ:=[some (.ref b),none]) rfl ?_
  walk_at "w"
  refine rd_newT fun t1 H1 s1 g1=>?_
  walk_at "w"
  refine rd_newL fun l2 H2 s2 n2 g2=>?_
  walk_at "w"
  refine rd_newL fun l3 H3 s3 n3 g3=>?_
  walk_at "w"
  refine rd_dnew fun d4 H4 s4 g4=>?_
  walk_at "w"
  refine rd_newT fun t5 H5 s5 g5=>?_
  walk_at "w"
  refine rd_newL fun l6 H6 s6 n6 g6=>?_
  have s46:=s5.trans s6
  have s36:=s4.trans s46
  have s26:=s3.trans s36
  have s16:=s2.trans s26
  have s06:=s1.trans s16
  have B6:=B.same s06
  walk_at "w"
  refine ⟨_,_,rfl,.inl (SqL.of g6),?_⟩
  walk_at "w"
  refine ⟨b,9,rfl,B6,by decide,by decide,fun v H7 v0 v1 B7 u7=>?_⟩
  have nb:l6≠b:=fun z=>(B.same (s1.trans (s2.trans (s3.trans (s4.trans s5))))).at (by rw[← z];exact n6)
  obtain ⟨x,ex,mx,_⟩:=atI_some (xs:=[V.non,V.int 3,V.bl true,V.ref t1,V.ref l2,V.ref l3,V.ref d4,V.ref t5,V.int (10^(12:Int).toNat)]) v0 (by simpa using v1)
  have fin:Od H6 x∧x≠.ref b:=by
   simp only[List.mem_cons,List.not_mem_nil,or_false] at mx
   rcases mx with rfl | rfl | rfl | rfl | rfl | rfl | rfl | rfl | rfl
   ·exact ⟨⟨.non,(fun _ z=>nomatch z)⟩,(fun z=>nomatch z)⟩
   ·exact ⟨⟨.int _,(fun _ z=>nomatch z)⟩,(fun z=>nomatch z)⟩
   ·exact ⟨⟨.bl _,(fun _ z=>nomatch z)⟩,(fun z=>nomatch z)⟩
   ·exact ⟨⟨.tup (s16 _ _ g1),(fun _ z=>nomatch z)⟩,fun z=>bag_ne B6 (s16 _ _ g1) (fun _ q=>nomatch q) (V.ref.inj z)⟩
   ·exact ⟨⟨.lst (s26 _ _ g2),(fun _ z=>nomatch z)⟩,fun z=>(B.same s1).at (by rw[← V.ref.inj z];exact n2)⟩
   ·exact ⟨⟨.lst (s36 _ _ g3),(fun _ z=>nomatch z)⟩,fun z=>(B.same (s1.trans s2)).at (by rw[← V.ref.inj z];exact n3)⟩
   ·exact ⟨⟨.dic (s46 _ _ g4),(fun _ z=>nomatch z)⟩,fun z=>bag_ne B6 (s46 _ _ g4) (fun _ q=>nomatch q) (V.ref.inj z)⟩
   ·exact ⟨⟨.tup (s6 _ _ g5),(fun _ z=>nomatch z)⟩,fun z=>bag_ne B6 (s6 _ _ g5) (fun _ q=>nomatch q) (V.ref.inj z)⟩
   ·exact ⟨⟨.int _,(fun _ z=>nomatch z)⟩,(fun z=>nomatch z)⟩
  walk_at "w"
  refine rd_ixL (SqL.of (u7.other nb g6)) ex ?_
  exact k x H7 (fin.1.upto u7 fin.2) fin.2 B7 (s06.upto.trans u7)
theorem bd__law_bad_number : ∃ x1 x2 x3 x4 x5 x6 x7 x8 x9 x10 x11 x12 x13 x14 x15 x16 x17 x18 x19 x20 x21 x22 x23 x24 x25 x26 x27 x28 x29 x30 : Expr, x1 = (PySem.Expr.Constant (PySem.Const.str "") 0 ⟨336, 16, 336, 18⟩) ∧ x2 = (PySem.Expr.Constant (PySem.Const.str "-") 0 ⟨336, 20, 336, 23⟩) ∧ x3 = (PySem.Expr.Constant (PySem.Const.str "+1") 0 ⟨336, 25, 336, 29⟩) ∧ x4 = (PySem.Expr.Constant (PySem.Const.str "01") 0 ⟨336, 31, 336, 35⟩) ∧ x5 = (PySem.Expr.Constant (PySem.Const.str "-01") 0 ⟨336, 37, 336, 42⟩) ∧ x6 = (PySem.Expr.Constant (PySem.Const.str "-0") 0 ⟨336, 44, 336, 48⟩) ∧ x7 = (PySem.Expr.Constant (PySem.Const.str "00") 0 ⟨336, 50, 336, 54⟩) ∧ x8 = (PySem.Expr.Constant (PySem.Const.str "0/5") 0 ⟨336, 56, 336, 61⟩) ∧ x9 = (PySem.Expr.Constant (PySem.Const.str "2/4") 0 ⟨336, 63, 336, 68⟩) ∧ x10 = (PySem.Expr.Constant (PySem.Const.str "-6/4") 0 ⟨336, 70, 336, 76⟩) ∧ x11 = (PySem.Expr.Constant (PySem.Const.str "3/1") 0 ⟨336, 78, 336, 83⟩) ∧ x12 = (PySem.Expr.Constant (PySem.Const.str "0/1") 0 ⟨336, 85, 336, 90⟩) ∧ x13 = (PySem.Expr.Constant (PySem.Const.str "1/0") 0 ⟨336, 92, 336, 97⟩) ∧ x14 = (PySem.Expr.Constant (PySem.Const.str "1/-2") 0 ⟨336, 99, 336, 105⟩) ∧ x15 = (PySem.Expr.Constant (PySem.Const.str "-1/-2") 0 ⟨336, 107, 336, 114⟩) ∧ x16 = (PySem.Expr.Constant (PySem.Const.str "1/02") 0 ⟨336, 116, 336, 122⟩) ∧ x17 = (PySem.Expr.Constant (PySem.Const.str "1/2/3") 0 ⟨337, 27, 337, 34⟩) ∧ x18 = (PySem.Expr.Constant (PySem.Const.str "a") 0 ⟨337, 36, 337, 39⟩) ∧ x19 = (PySem.Expr.Constant (PySem.Const.str "1.0") 0 ⟨337, 41, 337, 46⟩) ∧ x20 = (PySem.Expr.Constant (PySem.Const.str "/2") 0 ⟨337, 48, 337, 52⟩) ∧ x21 = (PySem.Expr.Constant (PySem.Const.str "1/") 0 ⟨337, 54, 337, 58⟩) ∧ x22 = (PySem.Expr.Constant (PySem.Const.str "--1") 0 ⟨337, 60, 337, 65⟩) ∧ x23 = (PySem.Expr.Constant (PySem.Const.str "1e3") 0 ⟨337, 67, 337, 72⟩) ∧ x24 = (PySem.Expr.Constant (PySem.Const.str "0x1") 0 ⟨337, 74, 337, 79⟩) ∧ x25 = (PySem.Expr.Constant (PySem.Const.str "1_0") 0 ⟨337, 81, 337, 86⟩) ∧ x26 = (PySem.Expr.Constant (PySem.Const.str "1/+2") 0 ⟨337, 88, 337, 94⟩) ∧ x27 = (PySem.Expr.Constant (PySem.Const.str "1//2") 0 ⟨337, 96, 337, 102⟩) ∧ x28 = (PySem.Expr.Constant (PySem.Const.str "- 1") 0 ⟨337, 104, 337, 109⟩) ∧ x29 = (PySem.Expr.Constant (PySem.Const.str "1 /2") 0 ⟨337, 111, 337, 117⟩) ∧ x30 = (PySem.Expr.Constant (PySem.Const.str "1/2a") 0 ⟨337, 119, 337, 125⟩) ∧ defBody s__law_bad_number = [ (PySem.Stmt.Assign (targets := [(PySem.Expr.Name "_law_bad" ⟨336, 4, 336, 12⟩)]) (value := (PySem.Expr.List (elts := [x1, x2, x3, x4, x5, x6, x7, x8, x9, x10, x11, x12, x13, x14, x15, x16]) (pos := ⟨336, 15, 336, 123⟩))) (pos := ⟨336, 4, 336, 123⟩)), (PySem.Stmt.Assign (targets := [(PySem.Expr.Name "_law_bad" ⟨337, 4, 337, 12⟩)]) (value := (PySem.Expr.BinOp (left := (PySem.Expr.Name "_law_bad" ⟨337, 15, 337, 23⟩)) (op := PySem.Operator.Add) (right := (PySem.Expr.List (elts := [x17, x18, x19, x20, x21, x22, x23, x24, x25, x26, x27, x28, x29, x30]) (pos := ⟨337, 26, 337, 126⟩))) (pos := ⟨337, 15, 337, 126⟩))) (pos := ⟨337, 4, 337, 126⟩)), (PySem.Stmt.Assign (targets := [(PySem.Expr.Name "_law_bad" ⟨338, 4, 338, 12⟩)]) (value := (PySem.Expr.BinOp (left := (PySem.Expr.Name "_law_bad" ⟨338, 15, 338, 23⟩)) (op := PySem.Operator.Add) (right := (PySem.Expr.List (elts := [ (PySem.Expr.Constant (PySem.Const.str " 7") 0 ⟨338, 27, 338, 31⟩), (PySem.Expr.Constant (PySem.Const.str "7 ") 0 ⟨338, 33, 338, 37⟩), (PySem.Expr.Constant (PySem.Const.str "7\n") 0 ⟨338, 39, 338, 44⟩), (PySem.Expr.Constant (PySem.Const.str "-1/2 ") 0 ⟨338, 46, 338, 53⟩)]) (pos := ⟨338, 26, 338, 54⟩))) (pos := ⟨338, 15, 338, 54⟩))) (pos := ⟨338, 4, 338, 54⟩)), (PySem.Stmt.Return (value := (some (PySem.Expr.Subscript (value := (PySem.Expr.Name "_law_bad" ⟨339, 11, 339, 19⟩)) (slice := (PySem.Expr.Call (func := (PySem.Expr.Name "_law_take" ⟨339, 20, 339, 29⟩)) (args := [ (PySem.Expr.Name "_law_bag_here" ⟨339, 30, 339, 43⟩), (PySem.Expr.Call (func := (PySem.Expr.Name "len" ⟨339, 45, 339, 48⟩)) (args := [(PySem.Expr.Name "_law_bad" ⟨339, 49, 339, 57⟩)]) (keywords := []) (pos := ⟨339, 45, 339, 58⟩))]) (keywords := []) (pos := ⟨339, 20, 339, 59⟩))) (pos := ⟨339, 11, 339, 60⟩)))) (pos := ⟨339, 4, 339, 60⟩))] := ⟨_, _, _, _, _, _, _, _, _, _, _, _, _, _, _, _, _, _, _, _, _, _, _, _, _, _, _, _, _, _, rfl, rfl, rfl, rfl, rfl, rfl, rfl, rfl, rfl, rfl, rfl, rfl, rfl, rfl, rfl, rfl, rfl, rfl, rfl, rfl, rfl, rfl, rfl, rfl, rfl, rfl, rfl, rfl, rfl, rfl, by with_unfolding_all rfl⟩

theorem sc__law_bad_number:FnScope ["_law_bag_here","_law_bad"] ["_law_bag_here"] (defScope s__law_bad_number):=⟨rfl,rfl,rfl,by decide +kernel,rfl,by decide +kernel,by decide +kernel⟩
theorem ok__law_bad_number (T:Txt K mg Z):FnOk P w K mg base CX0 2 Z.a__law_bad_number Z.d__law_bad_number ["_law_bag_here"] sp_bn3:=by
 have G__law_take:=ok__law_take (P:=P) (w:=w) (base:=base) T
 refine T.F__law_bad_number.ok sc__law_bad_number (fun vs H Q E h=>?_) (fun cdv A outer s H vs Q E hr h=>?_)
 ·obtain ⟨b,rfl,_⟩:=h
  rfl
 ·obtain ⟨b,rfl,B,k⟩:=h
  obtain ⟨x1,x2,x3,x4,x5,x6,x7,x8,x9,x10,x11,x12,x13,x14,x15,x16,x17,x18,x19,x20,x21,x22,x23,x24,x25,x26,x27,x28,x29,x30,hx1,hx2,hx3,hx4,hx5,hx6,hx7,hx8,hx9,hx10,hx11,hx12,hx13,hx14,hx15,hx16,hx17,hx18,hx19,hx20,hx21,hx22,hx23,hx24,hx25,hx26,hx27,hx28,hx29,hx30,hbd⟩:=bd__law_bad_number
  rw[hbd]
  refine ⟨_,(pss_cons (ps_set (i:=1) sc__law_bad_number.nd rfl (Or.inl rfl) (pe_lst (pa_consE hx1 pe_str (pa_consE hx2 pe_str (pa_consE hx3 pe_str (pa_consE hx4 pe_str (pa_consE hx5 pe_str (pa_consE hx6 pe_str (pa_consE hx7 pe_str (pa_consE hx8 pe_str (pa_consE hx9 pe_str (pa_consE hx10 pe_str (pa_consE hx11 pe_str (pa_consE hx12 pe_str (pa_consE hx13 pe_str (pa_consE hx14 pe_str (pa_consE hx15 pe_str (pa_consE hx16 pe_str pa_nil))))))))))))))))))
   (pss_cons (ps_set (i:=1) sc__law_bad_number.nd rfl (Or.inl rfl) (pe_op op_cat (pv 1) (pe_lst (pa_consE hx17 pe_str (pa_consE hx18 pe_str (pa_consE hx19 pe_str (pa_consE hx20 pe_str (pa_consE hx21 pe_str (pa_consE hx22 pe_str (pa_consE hx23 pe_str (pa_consE hx24 pe_str (pa_consE hx25 pe_str (pa_consE hx26 pe_str (pa_consE hx27 pe_str (pa_consE hx28 pe_str (pa_consE hx29 pe_str (pa_consE hx30 pe_str pa_nil)))))))))))))))))
   (pss_cons (ps_set (i:=1) sc__law_bad_number.nd rfl (Or.inl rfl) (pe_op op_cat (pv 1) (pe_lst (pa_cons pe_str (pa_cons pe_str (pa_cons pe_str (pa_cons pe_str pa_nil)))))))
   (pss_one (ps_ret (pe_ix ix_list (pv 1) (pe_call G__law_take (hr.mono (by decide)) rfl T.mg__law_take T.F__law_take.kp T.b__law_take .nil pass0 (pa_cons (pv 0) (pa_cons (pe_callB call_len_seq (by rfl) T.len PySem.boot_len (pa_cons (pv 1) pa_nil)) pa_nil))) (by intro _ _;rfl))))))),?_⟩
  refine rd_start (σ:=[some (.ref b),none]) rfl ?_
  walk_at "w"
  refine rd_newL fun l1 H1 s1 n1 g1=>?_
  walk_at "w"
  refine rd_newL fun l2 H2 s2 n2 g2=>?_
  walk_at "w"
  refine rd_cat (s2 _ _ g1) g2 (by decide) fun l3 H3 s3 n3 g3=>?_
  walk_at "w"
  refine rd_newL fun l4 H4 s4 n4 g4=>?_
  walk_at "w"
  refine rd_cat (s4 _ _ g3) g4 (by decide) fun l5 H5 s5 n5 g5=>?_
  have s15:=(((s1.trans s2).trans s3).trans s4).trans s5
  have B5:=B.same s15
  rw[badW_V] at g5
  have l34:(stL (badW.map (joinL 32))).length=34:=rfl
  walk_at "w"
  refine ⟨_,_,rfl,.inl (SqL.of g5),?_⟩
  rw[l34]
  walk_at "w"
  refine ⟨b,34,rfl,B5,by decide,by decide,fun v H6 v0 v1 B6 u6=>?_⟩
  have nb:l5≠b:=fun z=>(B.same (((s1.trans s2).trans s3).trans s4)).at (by rw[← z];exact n5)
  have g6:=u6.other nb g5
  obtain ⟨x,ex,mx,_⟩:=atI_some (xs:=stL (badW.map (joinL 32))) v0 (by rw[l34];lia)
  unfold stL at mx
  rw[List.map_map] at mx
  obtain ⟨wl,hw,rfl⟩:=List.mem_map.mp mx
  walk_at "w"
  refine rd_ixL (SqL.of g6) ex ?_
  exact k wl H6 hw B6 (s15.upto.trans u6)
theorem sc__law_bad_row:FnScope ["_law_bag_here","_law_row_here","_law_words","_law_way","_law_at","_law_bad"] ["_law_bag_here","_law_row_here"] (defScope s__law_bad_row):=⟨rfl,rfl,rfl,by decide +kernel,rfl,by decide +kernel,by decide +kernel⟩
theorem ok__law_bad_row (T:Txt K mg Z):FnOk P w K mg base CX0 3 Z.a__law_bad_row Z.d__law_bad_row ["_law_bag_here","_law_row_here"] (sp_br3 K):=by
 have G__law_number_text:=ok__law_number_text (P:=P) (w:=w) (base:=base) T
 have G__law_take:=ok__law_take (P:=P) (w:=w) (base:=base) T
 have G__law_bad_number:=ok__law_bad_number (P:=P) (w:=w) (base:=base) T
 refine T.F__law_bad_row.ok sc__law_bad_row (fun vs H Q E h=>?_) (fun cdv A outer s H vs Q E hr h=>?_)
 ·obtain ⟨b,p,ns,rfl,_⟩:=h
  rfl
 ·obtain ⟨b,p,ns,rfl,B,hp,hl,hn,k⟩:=h
  refine ⟨_,(pss_cons (ps_setC 2 ["_law_one"] [] [] sc__law_bad_row.nd rfl rfl (pi_list (pv 1)) (fun _=>(pg_name (i:=0) (show List.Nodup (α:=PySem.Str) ["_law_one"] by decide +kernel) rfl (Or.inl rfl) (Or.inl rfl))) (fun _=>pf_nil) (fun _=>(pe_call G__law_number_text (hr.mono (by decide)) rfl T.mg__law_number_text T.F__law_number_text.kp T.b__law_number_text .nil pass0 (pa_cons (pv 0) pa_nil))))
   (pss_cons (ps_set (i:=3) sc__law_bad_row.nd rfl (Or.inl rfl) (pe_call G__law_take (hr.mono (by decide)) rfl T.mg__law_take T.F__law_take.kp T.b__law_take .nil pass0 (pa_cons (pv 0) (pa_cons pe_int pa_nil))))
   (pss_cons (ps_set (i:=4) sc__law_bad_row.nd rfl (Or.inl rfl) (pe_call G__law_take (hr.mono (by decide)) rfl T.mg__law_take T.F__law_take.kp T.b__law_take .nil pass0 (pa_cons (pv 0) (pa_cons (pe_op op_add (pe_callB call_len_seq (by rfl) T.len PySem.boot_len (pa_cons (pv 2) pa_nil)) pe_int) pa_nil))))
   (pss_cons (ps_if (pt_cmpR op_eq (pv 3) pe_int (nomark _)) (pss_one (ps_ret (pe_op op_add_str pe_str (pe_bm PySem.F.plainAttrs_str PySem.F.slot_str_join PySem.F.type_str_join mt_join pe_str (pa_cons (pv 2) pa_nil))))) pss_nil)
   (pss_cons (ps_if (pt_cmpR op_eq (pv 3) pe_int (nomark _)) (pss_one (ps_ret (pe_op op_add_str (pe_bm PySem.F.plainAttrs_str PySem.F.slot_str_join PySem.F.type_str_join mt_join pe_str (pa_cons (pv 2) pa_nil)) (pe_ix ix_list (pe_lst (pa_cons pe_str (pa_cons pe_str pa_nil))) (pe_call G__law_take (hr.mono (by decide)) rfl T.mg__law_take T.F__law_take.kp T.b__law_take .nil pass0 (pa_cons (pv 0) (pa_cons pe_int pa_nil))) (by intro _ _;rfl))))) pss_nil)
   (pss_consM (ps_if (PW.pt (pw_and (pt_cmpR op_eq (pv 3) pe_int (nomark _)) (pw_and1 (pt_cmpR op_gt (pe_callB call_len_seq (by rfl) T.len PySem.boot_len (pa_cons (pv 2) pa_nil)) pe_int (nomark _))))) (pss_cons (ps_set (i:=4) sc__law_bad_row.nd rfl (Or.inl rfl) (pe_op op_add (pe_call G__law_take (hr.mono (by decide)) rfl T.mg__law_take T.F__law_take.kp T.b__law_take .nil pass0 (pa_cons (pv 0) (pa_cons (pe_op op_sub (pe_callB call_len_seq (by rfl) T.len PySem.boot_len (pa_cons (pv 2) pa_nil)) pe_int) pa_nil))) pe_int))
   (pss_one (ps_ret (pe_op op_add_str (pe_op op_add_str (pe_bm PySem.F.plainAttrs_str PySem.F.slot_str_join PySem.F.type_str_join mt_join pe_str (pa_cons (pe_slice sl_list (pv 2) po_none (po_some (pv 4))) pa_nil)) (pe_ix ix_list (pe_lst (pa_cons pe_str (pa_cons pe_str (pa_cons pe_str (pa_cons pe_str (pa_cons pe_str (pa_cons pe_str pa_nil))))))) (pe_call G__law_take (hr.mono (by decide)) rfl T.mg__law_take T.F__law_take.kp T.b__law_take .nil pass0 (pa_cons (pv 0) (pa_cons pe_int pa_nil))) (by intro _ _;rfl))) (pe_bm PySem.F.plainAttrs_str PySem.F.slot_str_join PySem.F.type_str_join mt_join pe_str (pa_cons (pe_slice sl_list (pv 2) (po_some (pv 4)) po_none) pa_nil)))))) pss_nil)
   (pss_cons (ps_set (i:=5) sc__law_bad_row.nd rfl (Or.inl rfl) (pe_call G__law_bad_number (hr.mono (by decide)) rfl T.mg__law_bad_number T.F__law_bad_number.kp T.b__law_bad_number .nil pass0 (pa_cons (pv 0) pa_nil)))
   (pss_consM (ps_if (pt_cmpR op_eq (pv 5) pe_str (nomark _)) (pss_one (ps_set (i:=5) sc__law_bad_row.nd rfl (Or.inl rfl) pe_str)) pss_nil)
   (pss_one (ps_ret (pe_bm PySem.F.plainAttrs_str PySem.F.slot_str_join PySem.F.type_str_join mt_join pe_str (pa_cons (pe_op op_cat (pe_op op_cat (pe_slice sl_list (pv 2) po_none (po_some (pv 4))) (pe_lst (pa_cons (pv 5) pa_nil))) (pe_slice sl_list (pv 2) (po_some (pv 4)) po_none)) pa_nil)))))))))))),?_⟩
  refine rd_start (σ:=[some (.ref b),some (.ref p),none,none,none,none]) rfl ?_
  obtain ⟨xs,gx,qx⟩:=id hp
  have lx:=qx.length
  walk_at "w"
  refine ⟨⟨_,SqL.of gx⟩,?_⟩
  refine comp_list (K:=K) (xs:=xs) (fun i ys H'=>H'=H∧ys=stL ((ns.take i).map numT)) (Nat.le_of_lt (small1000 (by lia))) ⟨rfl,rfl⟩ (fun i ys H' _ ⟨e,_⟩=>by subst e;exact SqL.of gx) ?_ ?_
  ·rintro i x ys H' hx hlen ⟨rfl,rfl⟩
   obtain ⟨n,en,z⟩:=paired_at qx hx
   walk_at "w"
   exact ⟨x,n,rfl,z,(hn n (List.mem_of_getElem? en)).1,rfl,by rw[take_snoc en,List.map_append,stL_app];rfl⟩
  rintro ys H' hy ⟨rfl,rfl⟩ wd nwd
  rw[List.take_of_length_le (by lia)]
  obtain ⟨W,hW⟩:∃W,W=ns.map numT:=⟨_,rfl⟩
  rw[← hW]
  have lW:W.length<=5:=by rw[hW,List.length_map];exact hl
  have wW:∀w∈W,w.length<=60:=fun w hw=>by
   rw[hW] at hw
   obtain ⟨n,mn,rfl⟩:=List.mem_map.mp hw
   exact (hn n mn).2
  have sW:∀w∈W,32∉w:=fun w hw=>by
   rw[hW] at hw
   obtain ⟨n,mn,rfl⟩:=List.mem_map.mp hw
   exact numT_32 n
  have s1:Same H' (upd H' wd (.lst (stL W))):=Same.new nwd
  have g1:(upd H' wd (.lst (stL W))) wd=some (.lst (stL W)):=upd_same
  generalize upd H' wd (.lst (stL W))=H1 at s1 g1 ⊢
  have B1:=B.same s1
  have wb:wd≠b:=fun z=>B.at (by rw[← z];exact nwd)
  have lS:(stL W).length=W.length:=stL_len _
  have jW:=joinL_le 32 60 W wW
  have jW':(joinL 32 W).length<=305:=Nat.le_trans jW (Nat.mul_le_mul_right _ lW)
  walk_at "w"
  refine ⟨b,4,rfl,B1,by decide,by decide,fun y H2 y0 y1 B2 u2=>?_⟩
  have g2:=u2.other wb g1
  walk_at "w"
  refine ⟨_,_,rfl,.inl (SqL.of g2),?_⟩
  rw[lS]
  walk_at "w"
  refine ⟨b,_,rfl,B2,by lia,by lia,fun a H3 a0 a1 B3 u3=>?_⟩
  obtain ⟨a,rfl⟩:=Int.eq_ofNat_of_zero_le a0
  have g3:=u3.other wb g2
  have u03:=(s1.upto.trans u2).trans u3
  have g3':H3 wd=some (.lst ((W.map sl).map V.str)):=by rw[stL_sl];exact g3
  walk_at "w"
  refine ite2 (fun h0=>?_) (fun h0=>?_)
  ·walk_at "w"
   refine ⟨rfl,?_⟩
   walk_at "w"
   refine ⟨_,wd,(W).map sl,rfl,rfl,by decide,g3',by rw[List.length_map];lia,fun y hy=>?_,?_⟩
   ·obtain ⟨w,mw,rfl⟩:=List.mem_map.mp hy
    have:=wW w mw
    rw[sl_length]
    lia
   first | rw[show Str.ofString " "=sl [32] from sl_space,sl_join] | rw[sl_join]
   refine ⟨_,_,rfl,rfl,by rw[sl_length,sl_length];exact big10000 (show 1+_<=_ by lia),?_⟩
   rw[sl_app]
   exact k _ H3 (by rw[List.length_append];show 1+_<=_;lia) (no_ahead sW) B3 u03
  walk_at "w"
  refine ite2 (fun h1=>?_) (fun h1=>?_)
  ·walk_at "w"
   refine ⟨rfl,?_⟩
   walk_at "w"
   refine ⟨_,wd,(W).map sl,rfl,rfl,by decide,g3',by rw[List.length_map];lia,fun y hy=>?_,?_⟩
   ·obtain ⟨w,mw,rfl⟩:=List.mem_map.mp hy
    have:=wW w mw
    rw[sl_length]
    lia
   first | rw[show Str.ofString " "=sl [32] from sl_space,sl_join] | rw[sl_join]
   walk_at "w"
   refine rd_newL fun q4 H4 s4 n4 g4=>?_
   walk_at "w"
   refine ⟨b,2,rfl,B3.same s4,by decide,by decide,fun v H5 v0 v1 B5 u5=>?_⟩
   have g5:=u5.other (fun z=>B3.at (by rw[← z];exact n4)) g4
   obtain ⟨z,ez,mz,_⟩:=atI_some (xs:=[V.str (sl [32]),V.str (Str.ofString "\n")]) v0 (by simpa using v1)
   have u05:=(u03.trans s4.upto).trans u5
   walk_at "w"
   refine rd_ixL (SqL.of g5) ez ?_
   simp only[List.mem_cons,List.not_mem_nil,or_false] at mz
   rcases mz with rfl | rfl
   ·refine ⟨_,_,rfl,rfl,by rw[sl_length,sl_length];exact big10000 (show _+1<=_ by lia),?_⟩
    rw[sl_app]
    exact k _ H5 (by rw[List.length_append];show _+1<=_;lia) (no_behind sW) B5 u05
   ·rw[show Str.ofString "\n"=sl [10] by decide +kernel]
    refine ⟨_,_,rfl,rfl,by rw[sl_length,sl_length];exact big10000 (show _+1<=_ by lia),?_⟩
    rw[sl_app]
    exact k _ H5 (by rw[List.length_append];show _+1<=_;lia) (sign_row (c:=10) (by simp) (by unfold BadS;lia)) B5 u05
  walk_at "w"
  refine ⟨fun σ' H'=>H'=H3∧σ'=[some (.ref b),some (.ref p),some (.ref wd),some (.int y),some (.int (a:Nat)),none],?_,?_⟩
  ·walk_at "w"
   refine ite2 (fun h2=>?_) (fun h2=>?_)
   rotate_left
   ·walk_at "w"
    exact ⟨rfl,rfl⟩
   walk_at "w"
   refine ⟨_,_,rfl,.inl (SqL.of g3),?_⟩
   rw[lS]
   walk_at "w"
   refine ite2 (fun h3=>?_) (fun h3=>?_)
   rotate_left
   ·walk_at "w"
    exact ⟨rfl,rfl⟩
   have h3:=of_decide_eq_true h3
   walk_at "w"
   refine ⟨_,_,rfl,.inl (SqL.of g3),?_⟩
   rw[lS]
   walk_at "w"
   refine ⟨b,_,rfl,B3,by lia,by lia,fun v H4 v0 v1 B4 u4=>?_⟩
   obtain ⟨v,rfl⟩:=Int.eq_ofNat_of_zero_le v0
   have g4:=u4.other wb g3
   have u04:=u03.trans u4
   walk_at "w"
   rw[show ((v:Nat):Int)+1=((v+1:Nat):Int) by lia]
   have v2:v+1 < W.length:=by lia
   have v3:0 < v+1:=by lia
   generalize v+1=c at v2 v3 ⊢
   refine ⟨rfl,?_⟩
   walk_at "w"
   refine rd_slL (SqL.of g4) fun l5 H5 s5 n5 g5=>?_
   rw[cut_upto] at g5
   have st1:(stL W).take c=stL (W.take c):=by unfold stL;rw[List.map_take]
   have st2:(stL W).drop c=stL (W.drop c):=by unfold stL;rw[List.map_drop]
   rw[st1,← stL_sl] at g5
   walk_at "w"
   have tl:∀w∈W.take c,w.length<=60:=fun w mw=>wW w (List.mem_of_mem_take mw)
   have dl:∀w∈W.drop c,w.length<=60:=fun w mw=>wW w (List.mem_of_mem_drop mw)
   have lt:(W.take c).length=c:=by rw[List.length_take];lia
   have ld:(W.drop c).length<=5:=by rw[List.length_drop];lia
   have jt:(joinL 32 (W.take c)).length<=305:=Nat.le_trans (joinL_le 32 60 _ tl) (by rw[lt];lia)
   have jd:(joinL 32 (W.drop c)).length<=305:=Nat.le_trans (joinL_le 32 60 _ dl) (Nat.mul_le_mul_right _ ld)
   refine ⟨_,l5,(W.take c).map sl,rfl,rfl,by decide,g5,by rw[List.length_map];lia,fun y hy=>?_,?_⟩
   ·obtain ⟨w,mw,rfl⟩:=List.mem_map.mp hy
    have:=tl w mw
    rw[sl_length]
    lia
   first | rw[show Str.ofString " "=sl [32] from sl_space,sl_join] | rw[sl_join]
   walk_at "w"
   refine rd_newL fun q6 H6 s6 n6 g6=>?_
   rw[seps_V] at g6
   have s46:=s5.trans s6
   walk_at "w"
   refine ⟨b,6,rfl,B4.same s46,by decide,by decide,fun x H7 x0 x1 B7 u7=>?_⟩
   have g7:=u7.other (fun z=>(B4.same s5).at (by rw[← z];exact n6)) g6
   have gw7:=u7.other wb (s46 _ _ g4)
   have u07:=(u04.trans s46.upto).trans u7
   obtain ⟨z,ez,mz,_⟩:=atI_some (xs:=stL seps) x0 (by rw[stL_len];exact x1)
   obtain ⟨sp,hsp,rfl⟩:=List.mem_map.mp mz
   obtain ⟨ls,NO⟩:=sep_no (A:=W.take c) (B:=W.drop c) hsp (fun z=>by rw[z,List.length_nil] at lt;lia) (fun z=>by have:=congrArg List.length z;rw[List.length_drop] at this;simp at this;lia) (fun w hw=>by rw[List.take_append_drop] at hw;exact sW w hw)
   walk_at "w"
   refine rd_ixL (SqL.of g7) ez ?_
   walk_at "w"
   refine ⟨_,_,rfl,rfl,by rw[sl_length,sl_length];exact big10000 (by lia),?_⟩
   rw[sl_app]
   walk_at "w"
   refine ⟨rfl,?_⟩
   walk_at "w"
   refine rd_slL (SqL.of gw7) fun l8 H8 s8 n8 g8=>?_
   rw[cut_from,st2,← stL_sl] at g8
   walk_at "w"
   refine ⟨_,l8,(W.drop c).map sl,rfl,rfl,by decide,g8,by rw[List.length_map];lia,fun y hy=>?_,?_⟩
   ·obtain ⟨w,mw,rfl⟩:=List.mem_map.mp hy
    have:=dl w mw
    rw[sl_length]
    lia
   first | rw[show Str.ofString " "=sl [32] from sl_space,sl_join] | rw[sl_join]
   walk_at "w"
   refine ⟨_,_,rfl,rfl,by rw[sl_length,sl_length,List.length_append];exact big10000 (by lia),?_⟩
   rw[sl_app]
   exact k _ H8 (by rw[List.length_append,List.length_append];lia) NO (B7.same s8) (u07.trans s8.upto)
  rintro σ' H' ⟨rfl,rfl⟩
  walk_at "w"
  refine ⟨b,rfl,B3,fun wl H4 hw B4 u4=>?_⟩
  have g4:=u4.other wb g3
  have u04:=u03.trans u4
  have BW:=bad_of hw
  walk_at "w"
  refine ⟨fun σ' H'=>H'=H4∧∃wl,σ'=[some (.ref b),some (.ref p),some (.ref wd),some (.int y),some (.int (a:Nat)),some (.str (sl (joinL 32 wl)))]∧wl≠[]∧(∀w∈wl,32∉w)∧(∃w∈wl,nuB w=false)∧wl≠[[]]∧(∀w∈wl,w.length<=10)∧wl.length<=2,?_,?_⟩
  ·walk_at "w"
   by_cases e0:joinL 32 wl=[]
   ·rw[decide_eq_true (show sl (joinL 32 wl)=Str.ofString "" by rw[e0,sl_empty])]
    walk_at "w"
    exact ⟨rfl,[[120]],by rw[show Str.ofString "x"=sl [120] by decide +kernel];rfl,by simp,by simp,⟨[120],by simp,by decide +kernel⟩,by simp,by simp,by simp⟩
   ·rw[decide_eq_false (show ¬sl (joinL 32 wl)=Str.ofString "" from fun z=>e0 (sl_inj (z.trans sl_empty)))]
    walk_at "w"
    obtain ⟨w,mw,gw⟩:=BW.bd
    exact ⟨rfl,wl,rfl,BW.w0,BW.w1,⟨w,mw,good_nu gw⟩,fun z=>e0 (by rw[z];rfl),BW.le,BW.l2⟩
  clear BW hw
  rintro σ' H5 ⟨rfl,wl,rfl,h0,h1,h2,h3,h4,h5⟩
  walk_at "w"
  refine ⟨rfl,?_⟩
  walk_at "w"
  refine rd_slL (SqL.of g4) fun l5 H6 s6 n6 g6=>?_
  have st1:(stL W).take a=stL (W.take a):=by unfold stL;rw[List.map_take]
  have st2:(stL W).drop a=stL (W.drop a):=by unfold stL;rw[List.map_drop]
  rw[cut_to (by lia),st1] at g6
  have lt:(W.take a).length=a:=by rw[List.length_take];lia
  have ld:(W.drop a).length<=5:=by rw[List.length_drop];lia
  walk_at "w"
  refine rd_newL fun l7 H7 s7 n7 g7=>?_
  walk_at "w"
  refine rd_cat (s7 _ _ g6) g7 (by rw[stL_len];exact big10000 (show _+1<=_ by lia)) fun l8 H8 s8 n8 g8=>?_
  have s68:=(s6.trans s7).trans s8
  walk_at "w"
  refine rd_slL (SqL.of (s68 _ _ g4)) fun l9 H9 s9 n9 g9=>?_
  rw[cut_from,st2] at g9
  walk_at "w"
  refine rd_cat (s9 _ _ g8) g9 (by rw[List.length_append,stL_len,stL_len];exact big10000 (show _+1+_<=_ by lia)) fun lA HA sA nA gA=>?_
  have gA':HA lA=some (.lst (((W.take a++[joinL 32 wl]++W.drop a).map sl).map V.str)):=by rw[gA,stL_sl,stL_app,stL_app];rfl
  have s5A:=(s68.trans s9).trans sA
  have jl:(joinL 32 wl).length<=22:=Nat.le_trans (joinL_le 32 10 _ h4) (Nat.mul_le_mul_right _ h5)
  have aw:∀w∈W.take a++[joinL 32 wl]++W.drop a,w.length<=60:=fun w hw=>by
   simp only[List.mem_append,List.mem_singleton] at hw
   rcases hw with (hw | hw) | hw
   ·exact wW w (List.mem_of_mem_take hw)
   ·rw[hw];lia
   ·exact wW w (List.mem_of_mem_drop hw)
  have lAA:(W.take a++[joinL 32 wl]++W.drop a).length<=6:=by rw[List.length_append,List.length_append,List.length_drop,lt];show a+1+_<=_;lia
  walk_at "w"
  refine ⟨_,lA,(W.take a++[joinL 32 wl]++W.drop a).map sl,rfl,rfl,by decide,gA',by rw[List.length_map];lia,fun y hy=>?_,?_⟩
  ·obtain ⟨w,mw,rfl⟩:=List.mem_map.mp hy
   have:=aw w mw
   rw[sl_length]
   lia
  first | rw[show Str.ofString " "=sl [32] from sl_space,sl_join] | rw[sl_join]
  exact k _ HA (Nat.le_trans (joinL_le 32 60 _ aw) (Nat.le_trans (Nat.mul_le_mul_right _ lAA) (by decide))) (no_put (fun w hw=>by rw[List.take_append_drop] at hw;exact sW w hw) h0 h1 h2 h3) (B4.same s5A) (u04.trans s5A.upto)
  
theorem bd__law_bad_sizes:∃x1 x2 x3 x4 x5 x6 x7 x8 x9 x10 x11 x12:Expr,x1=(PySem.Expr.Constant (PySem.Const.str "0") 0 ⟨372,16,372,19⟩)∧x2=(PySem.Expr.Constant (PySem.Const.str "5") 0 ⟨372,21,372,24⟩)∧x3=(PySem.Expr.Constant (PySem.Const.str "0") 0 ⟨372,26,372,29⟩)∧x4=(PySem.Expr.Constant (PySem.Const.str "move") 0 ⟨372,31,372,37⟩)∧x5=(PySem.Expr.Constant (PySem.Const.str "put") 0 ⟨372,39,372,44⟩)∧x6=(PySem.Expr.Constant (PySem.Const.str "look") 0 ⟨372,46,372,52⟩)∧x7=(PySem.Expr.Constant (PySem.Const.str "0") 0 ⟨374,16,374,19⟩)∧x8=(PySem.Expr.Constant (PySem.Const.str "0") 0 ⟨374,21,374,24⟩)∧x9=(PySem.Expr.Constant (PySem.Const.str "5") 0 ⟨374,26,374,29⟩)∧x10=(PySem.Expr.Constant (PySem.Const.str "move") 0 ⟨374,31,374,37⟩)∧x11=(PySem.Expr.Constant (PySem.Const.str "put") 0 ⟨374,39,374,44⟩)∧x12=(PySem.Expr.Constant (PySem.Const.str "look") 0 ⟨374,46,374,52⟩)∧defBody s__law_bad_sizes=[ (PySem.Stmt.Assign (targets:=[(PySem.Expr.Name "_law_n" ⟨364,4,364,10⟩)]) (value:=(PySem.Expr.Call (func:=(PySem.Expr.Name "int" ⟨364,13,364,16⟩)) (args:=[ (PySem.Expr.Subscript (value:=(PySem.Expr.Name "_law_words" ⟨364,17,364,27⟩)) (slice:=(PySem.Expr.Constant (PySem.Const.int 0) 0 ⟨364,28,364,29⟩)) (pos:=⟨364,17,364,30⟩))]) (keywords:=[]) (pos:=⟨364,13,364,31⟩))) (pos:=⟨364,4,364,31⟩)),(PySem.Stmt.Assign (targets:=[(PySem.Expr.Name "_law_way" ⟨365,4,365,12⟩)]) (value:=(PySem.Expr.Call (func:=(PySem.Expr.Name "_law_take" ⟨365,15,365,24⟩)) (args:=[ (PySem.Expr.Name "_law_bag_here" ⟨365,25,365,38⟩),(PySem.Expr.Constant (PySem.Const.int 6) 0 ⟨365,40,365,41⟩)]) (keywords:=[]) (pos:=⟨365,15,365,42⟩))) (pos:=⟨365,4,365,42⟩)),(PySem.Stmt.If (test:=(PySem.Expr.Compare (left:=(PySem.Expr.Name "_law_way" ⟨366,7,366,15⟩)) (ops:=[PySem.CmpOp.Eq]) (comparators:=[(PySem.Expr.Constant (PySem.Const.int 0) 0 ⟨366,19,366,20⟩)]) (pos:=⟨366,7,366,20⟩))) (body:=[ (PySem.Stmt.Return (value:=(some (PySem.Expr.BinOp (left:=(PySem.Expr.List (elts:=[ (PySem.Expr.Call (func:=(PySem.Expr.Name "str" ⟨367,16,367,19⟩)) (args:=[ (PySem.Expr.BinOp (left:=(PySem.Expr.Name "_law_n" ⟨367,20,367,26⟩)) (op:=PySem.Operator.Add) (right:=(PySem.Expr.Constant (PySem.Const.int 1) 0 ⟨367,29,367,30⟩)) (pos:=⟨367,20,367,30⟩))]) (keywords:=[]) (pos:=⟨367,16,367,31⟩))]) (pos:=⟨367,15,367,32⟩))) (op:=PySem.Operator.Add) (right:=(PySem.Expr.Subscript (value:=(PySem.Expr.Name "_law_words" ⟨367,35,367,45⟩)) (slice:=(PySem.Expr.Slice (lower:=(some (PySem.Expr.Constant (PySem.Const.int 1) 0 ⟨367,46,367,47⟩))) (upper:=none) (step:=none) (pos:=⟨367,46,367,48⟩))) (pos:=⟨367,35,367,49⟩))) (pos:=⟨367,15,367,49⟩)))) (pos:=⟨367,8,367,49⟩))]) (orelse:=[]) (pos:=⟨366,4,367,49⟩)),(PySem.Stmt.If (test:=(PySem.Expr.Compare (left:=(PySem.Expr.Name "_law_way" ⟨368,7,368,15⟩)) (ops:=[PySem.CmpOp.Eq]) (comparators:=[(PySem.Expr.Constant (PySem.Const.int 1) 0 ⟨368,19,368,20⟩)]) (pos:=⟨368,7,368,20⟩))) (body:=[ (PySem.Stmt.Assign (targets:=[(PySem.Expr.Name "_law_at" ⟨369,8,369,15⟩)]) (value:=(PySem.Expr.Call (func:=(PySem.Expr.Name "_law_take" ⟨369,18,369,27⟩)) (args:=[ (PySem.Expr.Name "_law_bag_here" ⟨369,28,369,41⟩),(PySem.Expr.Constant (PySem.Const.int 3) 0 ⟨369,43,369,44⟩)]) (keywords:=[]) (pos:=⟨369,18,369,45⟩))) (pos:=⟨369,8,369,45⟩)),(PySem.Stmt.Return (value:=(some (PySem.Expr.BinOp (left:=(PySem.Expr.BinOp (left:=(PySem.Expr.Subscript (value:=(PySem.Expr.Name "_law_words" ⟨370,15,370,25⟩)) (slice:=(PySem.Expr.Slice none (some (PySem.Expr.Name "_law_at" ⟨370,27,370,34⟩)) none ⟨370,26,370,34⟩)) (pos:=⟨370,15,370,35⟩))) (op:=PySem.Operator.Add) (right:=(PySem.Expr.List (elts:=[ (PySem.Expr.BinOp (left:=(PySem.Expr.Subscript (value:=(PySem.Expr.List (elts:=[ (PySem.Expr.Constant (PySem.Const.str "0") 0 ⟨370,40,370,43⟩),(PySem.Expr.Constant (PySem.Const.str "+") 0 ⟨370,45,370,48⟩)]) (pos:=⟨370,39,370,49⟩))) (slice:=(PySem.Expr.Call (func:=(PySem.Expr.Name "_law_take" ⟨370,50,370,59⟩)) (args:=[ (PySem.Expr.Name "_law_bag_here" ⟨370,60,370,73⟩),(PySem.Expr.Constant (PySem.Const.int 2) 0 ⟨370,75,370,76⟩)]) (keywords:=[]) (pos:=⟨370,50,370,77⟩))) (pos:=⟨370,39,370,78⟩))) (op:=PySem.Operator.Add) (right:=(PySem.Expr.Subscript (value:=(PySem.Expr.Name "_law_words" ⟨370,81,370,91⟩)) (slice:=(PySem.Expr.Name "_law_at" ⟨370,92,370,99⟩)) (pos:=⟨370,81,370,100⟩))) (pos:=⟨370,39,370,100⟩))]) (pos:=⟨370,38,370,101⟩))) (pos:=⟨370,15,370,101⟩))) (op:=PySem.Operator.Add) (right:=(PySem.Expr.Subscript (value:=(PySem.Expr.Name "_law_words" ⟨370,104,370,114⟩)) (slice:=(PySem.Expr.Slice (lower:=(some (PySem.Expr.BinOp (left:=(PySem.Expr.Name "_law_at" ⟨370,115,370,122⟩)) (op:=PySem.Operator.Add) (right:=(PySem.Expr.Constant (PySem.Const.int 1) 0 ⟨370,125,370,126⟩)) (pos:=⟨370,115,370,126⟩)))) (upper:=none) (step:=none) (pos:=⟨370,115,370,127⟩))) (pos:=⟨370,104,370,128⟩))) (pos:=⟨370,15,370,128⟩)))) (pos:=⟨370,8,370,128⟩))]) (orelse:=[]) (pos:=⟨368,4,370,128⟩)),(PySem.Stmt.If (test:=(PySem.Expr.Compare (left:=(PySem.Expr.Name "_law_way" ⟨371,7,371,15⟩)) (ops:=[PySem.CmpOp.Eq]) (comparators:=[(PySem.Expr.Constant (PySem.Const.int 2) 0 ⟨371,19,371,20⟩)]) (pos:=⟨371,7,371,20⟩))) (body:=[ (PySem.Stmt.Return (value:=(some (PySem.Expr.List (elts:=[x1,x2,x3,x4,x5,x6]) (pos:=⟨372,15,372,53⟩)))) (pos:=⟨372,8,372,53⟩))]) (orelse:=[]) (pos:=⟨371,4,372,53⟩)),(PySem.Stmt.If (test:=(PySem.Expr.Compare (left:=(PySem.Expr.Name "_law_way" ⟨373,7,373,15⟩)) (ops:=[PySem.CmpOp.Eq]) (comparators:=[(PySem.Expr.Constant (PySem.Const.int 3) 0 ⟨373,19,373,20⟩)]) (pos:=⟨373,7,373,20⟩))) (body:=[ (PySem.Stmt.Return (value:=(some (PySem.Expr.List (elts:=[x7,x8,x9,x10,x11,x12]) (pos:=⟨374,15,374,53⟩)))) (pos:=⟨374,8,374,53⟩))]) (orelse:=[]) (pos:=⟨373,4,374,53⟩)),(PySem.Stmt.If (test:=(PySem.Expr.Compare (left:=(PySem.Expr.Name "_law_way" ⟨375,7,375,15⟩)) (ops:=[PySem.CmpOp.Eq]) (comparators:=[(PySem.Expr.Constant (PySem.Const.int 4) 0 ⟨375,19,375,20⟩)]) (pos:=⟨375,7,375,20⟩))) (body:=[ (PySem.Stmt.Return (value:=(some (PySem.Expr.BinOp (left:=(PySem.Expr.BinOp (left:=(PySem.Expr.List (elts:=[ (PySem.Expr.Constant (PySem.Const.str "9") 0 ⟨376,16,376,19⟩),(PySem.Expr.Constant (PySem.Const.str "0") 0 ⟨376,21,376,24⟩),(PySem.Expr.Constant (PySem.Const.str "0") 0 ⟨376,26,376,29⟩),(PySem.Expr.Constant (PySem.Const.str "move") 0 ⟨376,31,376,37⟩)]) (pos:=⟨376,15,376,38⟩))) (op:=PySem.Operator.Add) (right:=(PySem.Expr.BinOp (left:=(PySem.Expr.List [(PySem.Expr.Constant (PySem.Const.str "0") 0 ⟨376,42,376,45⟩)] ⟨376,41,376,46⟩)) (op:=PySem.Operator.Mult) (right:=(PySem.Expr.Constant (PySem.Const.int 81) 0 ⟨376,49,376,51⟩)) (pos:=⟨376,41,376,51⟩))) (pos:=⟨376,15,376,51⟩))) (op:=PySem.Operator.Add) (right:=(PySem.Expr.List (elts:=[ (PySem.Expr.Constant (PySem.Const.str "put") 0 ⟨376,55,376,60⟩),(PySem.Expr.Constant (PySem.Const.str "look") 0 ⟨376,62,376,68⟩)]) (pos:=⟨376,54,376,69⟩))) (pos:=⟨376,15,376,69⟩)))) (pos:=⟨376,8,376,69⟩))]) (orelse:=[]) (pos:=⟨375,4,376,69⟩)),(PySem.Stmt.Return (value:=(some (PySem.Expr.BinOp (left:=(PySem.Expr.BinOp (left:=(PySem.Expr.Subscript (value:=(PySem.Expr.Name "_law_words" ⟨377,11,377,21⟩)) (slice:=(PySem.Expr.Slice (lower:=none) (upper:=(some (PySem.Expr.Constant (PySem.Const.int 2) 0 ⟨377,23,377,24⟩))) (step:=none) (pos:=⟨377,22,377,24⟩))) (pos:=⟨377,11,377,25⟩))) (op:=PySem.Operator.Add) (right:=(PySem.Expr.List [(PySem.Expr.Constant (PySem.Const.str "-1") 0 ⟨377,29,377,33⟩)] ⟨377,28,377,34⟩)) (pos:=⟨377,11,377,34⟩))) (op:=PySem.Operator.Add) (right:=(PySem.Expr.Subscript (value:=(PySem.Expr.Name "_law_words" ⟨377,37,377,47⟩)) (slice:=(PySem.Expr.Slice (lower:=(some (PySem.Expr.Constant (PySem.Const.int 3) 0 ⟨377,48,377,49⟩))) (upper:=none) (step:=none) (pos:=⟨377,48,377,50⟩))) (pos:=⟨377,37,377,51⟩))) (pos:=⟨377,11,377,51⟩)))) (pos:=⟨377,4,377,51⟩))]:=⟨_,_,_,_,_,_,_,_,_,_,_,_,rfl,rfl,rfl,rfl,rfl,rfl,rfl,rfl,rfl,rfl,rfl,rfl,by with_unfolding_all rfl⟩
theorem sc__law_bad_sizes:FnScope ["_law_bag_here","_law_words","_law_n","_law_way","_law_at"] ["_law_bag_here","_law_words"] (defScope s__law_bad_sizes):=⟨rfl,rfl,rfl,by decide +kernel,rfl,by decide +kernel,by decide +kernel⟩
theorem ok__law_bad_sizes (T:Txt K mg Z):FnOk P w K mg base CX0 2 Z.a__law_bad_sizes Z.d__law_bad_sizes ["_law_bag_here","_law_words"] sp_bz3:=by
 have G__law_take:=ok__law_take (P:=P) (w:=w) (base:=base) T
 refine T.F__law_bad_sizes.ok sc__law_bad_sizes (fun vs H Q E h=>?_) (fun cdv A outer s H vs Q E hr h=>?_)
 ·obtain ⟨b,p,mv,pt,lk,rfl,_⟩:=h
  rfl
 ·obtain ⟨b,p,mv,pt,lk,rfl,B,pb,gp,D,wl,k⟩:=h
  obtain ⟨x1,x2,x3,x4,x5,x6,x7,x8,x9,x10,x11,x12,hx1,hx2,hx3,hx4,hx5,hx6,hx7,hx8,hx9,hx10,hx11,hx12,hbd⟩:=bd__law_bad_sizes
  rw[hbd]
  refine ⟨_,(pss_cons (ps_set (i:=2) sc__law_bad_sizes.nd rfl (Or.inl rfl) (pe_callTy call_intD (by rfl) T.int PyProof.Rows.boot_int (pa_cons (pe_ix ix_list (pv 1) pe_int (by intro _ _;rfl)) pa_nil)))
   (pss_cons (ps_set (i:=3) sc__law_bad_sizes.nd rfl (Or.inl rfl) (pe_call G__law_take (hr.mono (by decide)) rfl T.mg__law_take T.F__law_take.kp T.b__law_take .nil pass0 (pa_cons (pv 0) (pa_cons pe_int pa_nil))))
   (pss_cons (ps_if (pt_cmpR op_eq (pv 3) pe_int (nomark _)) (pss_one (ps_ret (pe_op op_cat (pe_lst (pa_cons (pe_callTy (call_strD rfl) (by rfl) T.str PyProof.Rows.boot_str (pa_cons (pe_op op_add (pv 2) pe_int) pa_nil)) pa_nil)) (pe_slice sl_list (pv 1) (po_some pe_int) po_none)))) pss_nil)
   (pss_cons (ps_if (pt_cmpR op_eq (pv 3) pe_int (nomark _)) (pss_cons (ps_set (i:=4) sc__law_bad_sizes.nd rfl (Or.inl rfl) (pe_call G__law_take (hr.mono (by decide)) rfl T.mg__law_take T.F__law_take.kp T.b__law_take .nil pass0 (pa_cons (pv 0) (pa_cons pe_int pa_nil))))
   (pss_one (ps_ret (pe_op op_cat (pe_op op_cat (pe_slice sl_list (pv 1) po_none (po_some (pv 4))) (pe_lst (pa_cons (pe_op op_add_str (pe_ix ix_list (pe_lst (pa_cons pe_str (pa_cons pe_str pa_nil))) (pe_call G__law_take (hr.mono (by decide)) rfl T.mg__law_take T.F__law_take.kp T.b__law_take .nil pass0 (pa_cons (pv 0) (pa_cons pe_int pa_nil))) (by intro _ _;rfl)) (pe_ix ix_list (pv 1) (pv 4) (by intro _ _;rfl))) pa_nil))) (pe_slice sl_list (pv 1) (po_some (pe_op op_add (pv 4) pe_int)) po_none))))) pss_nil)
   (pss_cons (ps_if (pt_cmpR op_eq (pv 3) pe_int (nomark _)) (pss_one (ps_ret (pe_lst (pa_consE hx1 pe_str (pa_consE hx2 pe_str (pa_consE hx3 pe_str (pa_consE hx4 pe_str (pa_consE hx5 pe_str (pa_consE hx6 pe_str pa_nil))))))))) pss_nil)
   (pss_cons (ps_if (pt_cmpR op_eq (pv 3) pe_int (nomark _)) (pss_one (ps_ret (pe_lst (pa_consE hx7 pe_str (pa_consE hx8 pe_str (pa_consE hx9 pe_str (pa_consE hx10 pe_str (pa_consE hx11 pe_str (pa_consE hx12 pe_str pa_nil))))))))) pss_nil)
   (pss_cons (ps_if (pt_cmpR op_eq (pv 3) pe_int (nomark _)) (pss_one (ps_ret (pe_op op_cat (pe_op op_cat (pe_lst (pa_cons pe_str (pa_cons pe_str (pa_cons pe_str (pa_cons pe_str pa_nil))))) (pe_op op_rep (pe_lst (pa_cons pe_str pa_nil)) pe_int)) (pe_lst (pa_cons pe_str (pa_cons pe_str pa_nil)))))) pss_nil)
   (pss_one (ps_ret (pe_op op_cat (pe_op op_cat (pe_slice sl_list (pv 1) po_none (po_some pe_int)) (pe_lst (pa_cons pe_str pa_nil))) (pe_slice sl_list (pv 1) (po_some pe_int) po_none))))))))))),?_⟩
  refine rd_start (σ:=[some (.ref b),some (.ref p),none,none,none]) rfl ?_
  have n8:=D.n8
  have i4:=D.i4
  have o4:=D.o4
  obtain ⟨c,c0,c1,c2,_⟩:=sy_cut ⟨D,rfl⟩
  have w32:∀w∈sysW mv pt lk,32∉w:=sys_32
  generalize sysW mv pt lk=ws at gp wl c c0 c1 c2 w32
  have q1:=sq_le n8 n8
  have q2:=sq_le i4 n8
  have q3:=sq_le o4 n8
  have lS:(stL ws).length=ws.length:=stL_len _
  have ix:∀{j:Nat} {a:List Nat},ws[j]?=some a->(stL ws)[j]?=some (.str (sl a)):=fun e=>by unfold stL;rw[List.getElem?_map,e];rfl
  walk_at "w"
  refine rd_ixL (SqL.of gp) (atI_nat (j:=0) (ix c0)) ?_
  walk_at "w"
  refine ⟨(who_digs _).1,digs_all _,by have:=digs_short (m:=mv.length) (by lia);lia,?_⟩
  rw[digs_val]
  walk_at "w"
  refine ⟨b,6,rfl,B,by decide,by decide,fun y H1 y0 y1 B1 u1=>?_⟩
  have gp1:=u1.other pb gp
  have w3:2 < ws.length:=by lia
  have sm:((mv.length:Int)+1).natAbs < 10^4300:=sz_4300 (show Sz 8000 _ from Nat.lt_of_lt_of_le (show ((mv.length:Int)+1).natAbs < 2^10 by lia) (Nat.pow_le_pow_right (by decide) (by decide)))
  have tn:intT ((mv.length:Int)+1)=digs (mv.length+1):=by unfold intT;rw[if_neg (by lia)];rfl
  walk_at "w"
  refine ite2 (fun h0=>?_) (fun h0=>?_)
  ·walk_at "w"
   refine ⟨sm,?_⟩
   rw[tn]
   walk_at "w"
   refine rd_newL fun q2 H2 s2 n2 g2=>?_
   walk_at "w"
   refine rd_slL (SqL.of (s2 _ _ gp1)) fun q3 H3 s3 n3 g3=>?_
   rw[show (1:Int)=((1:Nat):Int) from rfl,cut_from,bz_st.2] at g3
   walk_at "w"
   have ld:(ws.drop 1).length=ws.length - 1:=List.length_drop
   refine rd_cat (s3 _ _ g2) g3 (by rw[stL_len,ld];exact big10000 (show 1+_<=_ by lia)) fun q4 H4 s4 n4 g4=>?_
   have s14:=(s2.trans s3).trans s4
   exact k q4 (digs (mv.length+1) :: ws.drop 1) H4 g4 (by simp) (fun w hw=>by
    rcases List.mem_cons.mp hw with rfl | hw
    ·exact Nat.le_trans (digs_short (by lia)) (by decide)
    ·exact Nat.le_trans (wl w (List.mem_of_mem_drop hw)) (by decide)) (fun w hw=>by
    rcases List.mem_cons.mp hw with rfl | hw
    ·exact fun z=>by have:=digs_all _ 32 z;lia
    ·exact w32 w (List.mem_of_mem_drop hw)) (by rw[List.length_cons,ld];lia) (no_more (i:=pt.length) (o:=lk.length) (by rw[List.getElem?_drop];exact c1) (by rw[List.getElem?_drop];exact c2) (by rw[ld];lia)) (B1.same s14) (u1.trans s14.upto)
  walk_at "w"
  refine ite2 (fun h1=>?_) (fun h1=>?_)
  ·walk_at "w"
   refine ⟨b,3,rfl,B1,by decide,by decide,fun a H2 a0 a1 B2 u2=>?_⟩
   obtain ⟨a,rfl⟩:=Int.eq_ofNat_of_zero_le a0
   have gp2:=u2.other pb gp1
   have aw:a < ws.length:=by lia
   obtain ⟨m,m8,ea⟩:∃m,m<=8∧ws[a]?=some (digs m):=by
    rcases (show a=0∨a=1∨a=2 by lia) with rfl | rfl | rfl
    ·exact ⟨_,n8,c0⟩
    ·exact ⟨_,by lia,c1⟩
    ·exact ⟨_,by lia,c2⟩
   have pm:=pre_bad m m8
   have dm:=digs_short (m:=m) (by lia)
   walk_at "w"
   refine rd_slL (SqL.of gp2) fun q3 H3 s3 n3 g3=>?_
   rw[cut_upto,bz_st.1] at g3
   walk_at "w"
   refine rd_newL fun q4 H4 s4 n4 g4=>?_
   have s34:=s3.trans s4
   walk_at "w"
   refine ⟨b,2,rfl,B2.same s34,by decide,by decide,fun v H5 v0 v1 B5 u5=>?_⟩
   have g5:=u5.other (fun z=>(B2.same s3).at (by rw[← z];exact n4)) g4
   have gp5:=u5.other pb (s34 _ _ gp2)
   have g35:=u5.other (fun z=>B2.at (by rw[← z];exact n3)) (s4 _ _ g3)
   have u05:=((u1.trans u2).trans s34.upto).trans u5
   obtain ⟨z,ez,mz,_⟩:=atI_some (xs:=[V.str (Str.ofString "0"),V.str (Str.ofString "+")]) v0 (by simpa using v1)
   walk_at "w"
   refine rd_ixL (SqL.of g5) ez ?_
   obtain ⟨c,rfl,gc,c32⟩:∃c,z=.str (sl [c])∧goodW (c :: digs m)=false∧32≠c:=by
    simp only[List.mem_cons,List.not_mem_nil,or_false] at mz
    rcases mz with rfl | rfl
    ·exact ⟨48,by rw[show Str.ofString "0"=sl [48] by decide +kernel],pm.1,by decide⟩
    ·exact ⟨43,by rw[show Str.ofString "+"=sl [43] by decide +kernel],pm.2,by decide⟩
   walk_at "w"
   refine rd_ixL (SqL.of gp5) (atI_nat (ix ea)) ?_
   walk_at "w"
   refine ⟨_,_,rfl,rfl,by rw[sl_length,sl_length];exact big10000 (show 1+_<=_ by lia),?_⟩
   rw[sl_app]
   walk_at "w"
   refine rd_newL fun q6 H6 s6 n6 g6=>?_
   walk_at "w"
   have lt:(ws.take a).length<=ws.length:=by rw[List.length_take];lia
   have ld:(ws.drop (a+1)).length<=ws.length:=by rw[List.length_drop];lia
   refine rd_cat (s6 _ _ g35) g6 (by rw[stL_len];exact big10000 (show _+1<=_ by lia)) fun q7 H7 s7 n7 g7=>?_
   have s67:=s6.trans s7
   walk_at "w"
   refine rd_slL (SqL.of (s67 _ _ gp5)) fun q8 H8 s8 n8 g8=>?_
   rw[show ((a:Nat):Int)+1=((a+1:Nat):Int) by lia,cut_from,bz_st.2] at g8
   walk_at "w"
   refine rd_cat (s8 _ _ g7) g8 (by rw[List.length_append,stL_len,stL_len];exact big10000 (show _+1+_<=_ by lia)) fun q9 H9 s9 n9 g9=>?_
   have s59:=(s67.trans s8).trans s9
   have gg:H9 q9=some (.lst (stL (ws.take a++[c :: digs m]++ws.drop (a+1)))):=by rw[g9,stL_app,stL_app];rfl
   have l9:=cut_len (w:=c :: digs m) aw
   exact k q9 _ H9 gg (fun z=>by rw[z] at l9;rw[List.length_nil] at l9;lia) (cut_word (P:=fun w=>w.length<=660) (fun w hw=>Nat.le_trans (wl w hw) (by decide)) (by show _+1<=_;lia)) (cut_word (P:=fun w=>32∉w) w32 (fun z=>by
    rcases List.mem_cons.mp z with z | z
    ·exact c32 z
    ·have:=digs_all _ 32 z;lia)) (by rw[l9];lia) (no_sys (List.mem_of_getElem? (cut_at aw)) gc) (B5.same s59) (u05.trans s59.upto)
  walk_at "w"
  refine ite2 (fun h2=>?_) (fun h2=>?_)
  ·walk_at "w"
   refine rd_newL fun q2 H2 s2 n2 g2=>?_
   rw[bz2_V] at g2
   exact k q2 bz2 H2 g2 (by decide) (by decide) (by decide) (by decide) no_bz2 (B1.same s2) (u1.trans s2.upto)
  walk_at "w"
  refine ite2 (fun h3=>?_) (fun h3=>?_)
  ·walk_at "w"
   refine rd_newL fun q2 H2 s2 n2 g2=>?_
   rw[bz3_V] at g2
   exact k q2 bz3 H2 g2 (by decide) (by decide) (by decide) (by decide) no_bz3 (B1.same s2) (u1.trans s2.upto)
  walk_at "w"
  refine ite2 (fun h4=>?_) (fun h4=>?_)
  ·walk_at "w"
   refine rd_newL fun q2 H2 s2 n2 g2=>?_
   walk_at "w"
   refine rd_newL fun q3 H3 s3 n3 g3=>?_
   walk_at "w"
   refine rd_rep (k:=81) g3 (by decide) fun q4 H4 s4 n4 g4=>?_
   walk_at "w"
   refine rd_cat ((s3.trans s4) _ _ g2) g4 (by rw[List.length_replicate];exact big10000 (show 4+81<=_ by decide)) fun q5 H5 s5 n5 g5=>?_
   walk_at "w"
   refine rd_newL fun q6 H6 s6 n6 g6=>?_
   walk_at "w"
   refine rd_cat (s6 _ _ g5) g6 (by rw[List.length_append,List.length_replicate];exact big10000 (show 4+81+2<=_ by decide)) fun q7 H7 s7 n7 g7=>?_
   rw[bz4_V] at g7
   have s17:=((((s2.trans s3).trans s4).trans s5).trans s6).trans s7
   exact k q7 bz4 H7 g7 (by decide) (by decide) (by decide) (by decide) no_bz4 (B1.same s17) (u1.trans s17.upto)
  walk_at "w"
  refine rd_slL (SqL.of gp1) fun q2 H2 s2 n2 g2=>?_
  rw[show (2:Int)=((2:Nat):Int) from rfl,cut_upto,bz_st.1] at g2
  walk_at "w"
  refine rd_newL fun q3 H3 s3 n3 g3=>?_
  walk_at "w"
  have lt:(ws.take 2).length<=ws.length:=by rw[List.length_take];lia
  have ld:(ws.drop 3).length<=ws.length:=by rw[List.length_drop];lia
  refine rd_cat (s3 _ _ g2) g3 (by rw[stL_len];exact big10000 (show _+1<=_ by lia)) fun q4 H4 s4 n4 g4=>?_
  have s14:=(s2.trans s3).trans s4
  walk_at "w"
  refine rd_slL (SqL.of (s14 _ _ gp1)) fun q5 H5 s5 n5 g5=>?_
  rw[show (3:Int)=((3:Nat):Int) from rfl,cut_from,bz_st.2] at g5
  walk_at "w"
  refine rd_cat (s5 _ _ g4) g5 (by rw[List.length_append,stL_len,stL_len];exact big10000 (show _+1+_<=_ by lia)) fun q6 H6 s6 n6 g6=>?_
  have s16:=(s14.trans s5).trans s6
  have gg:H6 q6=some (.lst (stL (ws.take 2++[[45,49]]++ws.drop 3))):=by rw[g6,show Str.ofString "-1"=sl [45,49] by decide +kernel,stL_app,stL_app];rfl
  have l6:=cut_len (w:=[45,49]) w3
  exact k q6 _ H6 gg (fun z=>by rw[z] at l6;rw[List.length_nil] at l6;lia) (cut_word (P:=fun w=>w.length<=660) (fun w hw=>Nat.le_trans (wl w hw) (by decide)) (by decide)) (cut_word (P:=fun w=>32∉w) w32 (by decide)) (by rw[l6];lia) (no_neg w3) (B1.same s16) (u1.trans s16.upto)
  
theorem bd__law_bad_system:∃x1 x2 x3 x4 x5 x6 x7 x8 x9 x10 x11 x12 x13:Expr,x1=(PySem.Expr.Constant (PySem.Const.str "moved") 0 ⟨391,22,391,29⟩)∧x2=(PySem.Expr.Constant (PySem.Const.str "Put") 0 ⟨391,31,391,36⟩)∧x3=(PySem.Expr.Constant (PySem.Const.str "") 0 ⟨391,38,391,40⟩)∧x4=(PySem.Expr.Constant (PySem.Const.str "look.") 0 ⟨391,42,391,49⟩)∧x5=(PySem.Expr.Constant (PySem.Const.str "0") 0 ⟨391,51,391,54⟩)∧x6=(PySem.Expr.Constant (PySem.Const.str "mov") 0 ⟨391,56,391,61⟩)∧x7=(PySem.Expr.Constant (PySem.Const.str "") 0 ⟨397,21,397,23⟩)∧x8=(PySem.Expr.Constant (PySem.Const.str " ") 0 ⟨397,25,397,28⟩)∧x9=(PySem.Expr.Constant (PySem.Const.str "move put look") 0 ⟨397,30,397,45⟩)∧x10=(PySem.Expr.Constant (PySem.Const.str "0") 0 ⟨397,47,397,50⟩)∧x11=(PySem.Expr.Constant (PySem.Const.str "0 0") 0 ⟨397,52,397,57⟩)∧x12=(PySem.Expr.Constant (PySem.Const.str "0 0 0") 0 ⟨397,59,397,66⟩)∧x13=(PySem.Expr.Constant (PySem.Const.str "1 1 1 move") 0 ⟨397,68,397,80⟩)∧defBody s__law_bad_system=[ (PySem.Stmt.Assign (targets:=[(PySem.Expr.Name "_law_words" ⟨379,4,379,14⟩)]) (value:=(PySem.Expr.Call (func:=(PySem.Expr.Attribute (value:=(PySem.Expr.Call (func:=(PySem.Expr.Name "_law_system_text" ⟨379,17,379,33⟩)) (args:=[(PySem.Expr.Name "_law_parts_here" ⟨379,34,379,49⟩)]) (keywords:=[]) (pos:=⟨379,17,379,50⟩))) (attr:="split") (pos:=⟨379,17,379,56⟩))) (args:=[(PySem.Expr.Constant (PySem.Const.str " ") 0 ⟨379,57,379,60⟩)]) (keywords:=[]) (pos:=⟨379,17,379,61⟩))) (pos:=⟨379,4,379,61⟩)),(PySem.Stmt.Assign (targets:=[(PySem.Expr.Name "_law_way" ⟨380,4,380,12⟩)]) (value:=(PySem.Expr.Call (func:=(PySem.Expr.Name "_law_take" ⟨380,15,380,24⟩)) (args:=[ (PySem.Expr.Name "_law_bag_here" ⟨380,25,380,38⟩),(PySem.Expr.Constant (PySem.Const.int 6) 0 ⟨380,40,380,41⟩)]) (keywords:=[]) (pos:=⟨380,15,380,42⟩))) (pos:=⟨380,4,380,42⟩)),(PySem.Stmt.Assign (targets:=[(PySem.Expr.Name "_law_at" ⟨381,4,381,11⟩)]) (value:=(PySem.Expr.Call (func:=(PySem.Expr.Name "_law_take" ⟨381,14,381,23⟩)) (args:=[ (PySem.Expr.Name "_law_bag_here" ⟨381,24,381,37⟩),(PySem.Expr.Call (func:=(PySem.Expr.Name "len" ⟨381,39,381,42⟩)) (args:=[(PySem.Expr.Name "_law_words" ⟨381,43,381,53⟩)]) (keywords:=[]) (pos:=⟨381,39,381,54⟩))]) (keywords:=[]) (pos:=⟨381,14,381,55⟩))) (pos:=⟨381,4,381,55⟩)),(PySem.Stmt.If (test:=(PySem.Expr.Compare (left:=(PySem.Expr.Name "_law_way" ⟨382,7,382,15⟩)) (ops:=[PySem.CmpOp.Eq]) (comparators:=[(PySem.Expr.Constant (PySem.Const.int 0) 0 ⟨382,19,382,20⟩)]) (pos:=⟨382,7,382,20⟩))) (body:=[ (PySem.Stmt.Return (value:=(some (PySem.Expr.Call (func:=(PySem.Expr.Attribute (value:=(PySem.Expr.Constant (PySem.Const.str " ") 0 ⟨383,15,383,18⟩)) (attr:="join") (pos:=⟨383,15,383,23⟩))) (args:=[ (PySem.Expr.BinOp (left:=(PySem.Expr.Subscript (value:=(PySem.Expr.Name "_law_words" ⟨383,24,383,34⟩)) (slice:=(PySem.Expr.Slice none (some (PySem.Expr.Name "_law_at" ⟨383,36,383,43⟩)) none ⟨383,35,383,43⟩)) (pos:=⟨383,24,383,44⟩))) (op:=PySem.Operator.Add) (right:=(PySem.Expr.Subscript (value:=(PySem.Expr.Name "_law_words" ⟨383,47,383,57⟩)) (slice:=(PySem.Expr.Slice (lower:=(some (PySem.Expr.BinOp (left:=(PySem.Expr.Name "_law_at" ⟨383,58,383,65⟩)) (op:=PySem.Operator.Add) (right:=(PySem.Expr.Constant (PySem.Const.int 1) 0 ⟨383,68,383,69⟩)) (pos:=⟨383,58,383,69⟩)))) (upper:=none) (step:=none) (pos:=⟨383,58,383,70⟩))) (pos:=⟨383,47,383,71⟩))) (pos:=⟨383,24,383,71⟩))]) (keywords:=[]) (pos:=⟨383,15,383,72⟩)))) (pos:=⟨383,8,383,72⟩))]) (orelse:=[]) (pos:=⟨382,4,383,72⟩)),(PySem.Stmt.If (test:=(PySem.Expr.Compare (left:=(PySem.Expr.Name "_law_way" ⟨384,7,384,15⟩)) (ops:=[PySem.CmpOp.Eq]) (comparators:=[(PySem.Expr.Constant (PySem.Const.int 1) 0 ⟨384,19,384,20⟩)]) (pos:=⟨384,7,384,20⟩))) (body:=[ (PySem.Stmt.Assign (targets:=[(PySem.Expr.Name "_law_rest" ⟨385,8,385,17⟩)]) (value:=(PySem.Expr.Subscript (value:=(PySem.Expr.Name "_law_words" ⟨385,20,385,30⟩)) (slice:=(PySem.Expr.Slice (lower:=(some (PySem.Expr.BinOp (left:=(PySem.Expr.Name "_law_at" ⟨385,31,385,38⟩)) (op:=PySem.Operator.Add) (right:=(PySem.Expr.Call (func:=(PySem.Expr.Name "_law_take" ⟨385,41,385,50⟩)) (args:=[ (PySem.Expr.Name "_law_bag_here" ⟨385,51,385,64⟩),(PySem.Expr.Constant (PySem.Const.int 2) 0 ⟨385,66,385,67⟩)]) (keywords:=[]) (pos:=⟨385,41,385,68⟩))) (pos:=⟨385,31,385,68⟩)))) (upper:=none) (step:=none) (pos:=⟨385,31,385,69⟩))) (pos:=⟨385,20,385,70⟩))) (pos:=⟨385,8,385,70⟩)),(PySem.Stmt.Return (value:=(some (PySem.Expr.Call (func:=(PySem.Expr.Attribute (value:=(PySem.Expr.Constant (PySem.Const.str " ") 0 ⟨386,15,386,18⟩)) (attr:="join") (pos:=⟨386,15,386,23⟩))) (args:=[ (PySem.Expr.BinOp (left:=(PySem.Expr.BinOp (left:=(PySem.Expr.Subscript (value:=(PySem.Expr.Name "_law_words" ⟨386,24,386,34⟩)) (slice:=(PySem.Expr.Slice none (some (PySem.Expr.Name "_law_at" ⟨386,36,386,43⟩)) none ⟨386,35,386,43⟩)) (pos:=⟨386,24,386,44⟩))) (op:=PySem.Operator.Add) (right:=(PySem.Expr.List (elts:=[ (PySem.Expr.Call (func:=(PySem.Expr.Name "_law_bad_number" ⟨386,48,386,63⟩)) (args:=[(PySem.Expr.Name "_law_bag_here" ⟨386,64,386,77⟩)]) (keywords:=[]) (pos:=⟨386,48,386,78⟩))]) (pos:=⟨386,47,386,79⟩))) (pos:=⟨386,24,386,79⟩))) (op:=PySem.Operator.Add) (right:=(PySem.Expr.Name "_law_rest" ⟨386,82,386,91⟩)) (pos:=⟨386,24,386,91⟩))]) (keywords:=[]) (pos:=⟨386,15,386,92⟩)))) (pos:=⟨386,8,386,92⟩))]) (orelse:=[]) (pos:=⟨384,4,386,92⟩)),(PySem.Stmt.If (test:=(PySem.Expr.Compare (left:=(PySem.Expr.Name "_law_way" ⟨387,7,387,15⟩)) (ops:=[PySem.CmpOp.Eq]) (comparators:=[(PySem.Expr.Constant (PySem.Const.int 2) 0 ⟨387,19,387,20⟩)]) (pos:=⟨387,7,387,20⟩))) (body:=[ (PySem.Stmt.Return (value:=(some (PySem.Expr.Call (func:=(PySem.Expr.Attribute (value:=(PySem.Expr.Constant (PySem.Const.str " ") 0 ⟨388,15,388,18⟩)) (attr:="join") (pos:=⟨388,15,388,23⟩))) (args:=[ (PySem.Expr.Call (func:=(PySem.Expr.Name "_law_bad_sizes" ⟨388,24,388,38⟩)) (args:=[(PySem.Expr.Name "_law_bag_here" ⟨388,39,388,52⟩),(PySem.Expr.Name "_law_words" ⟨388,54,388,64⟩)]) (keywords:=[]) (pos:=⟨388,24,388,65⟩))]) (keywords:=[]) (pos:=⟨388,15,388,66⟩)))) (pos:=⟨388,8,388,66⟩))]) (orelse:=[]) (pos:=⟨387,4,388,66⟩)),(PySem.Stmt.If (test:=(PySem.Expr.Compare (left:=(PySem.Expr.Name "_law_way" ⟨389,7,389,15⟩)) (ops:=[PySem.CmpOp.Eq]) (comparators:=[(PySem.Expr.Constant (PySem.Const.int 3) 0 ⟨389,19,389,20⟩)]) (pos:=⟨389,7,389,20⟩))) (body:=[ (PySem.Stmt.Assign (targets:=[(PySem.Expr.Name "_law_word" ⟨390,8,390,17⟩)]) (value:=(PySem.Expr.Subscript (value:=(PySem.Expr.List (elts:=[ (PySem.Expr.Constant (PySem.Const.str "move") 0 ⟨390,21,390,27⟩),(PySem.Expr.Constant (PySem.Const.str "put") 0 ⟨390,29,390,34⟩),(PySem.Expr.Constant (PySem.Const.str "look") 0 ⟨390,36,390,42⟩)]) (pos:=⟨390,20,390,43⟩))) (slice:=(PySem.Expr.Call (func:=(PySem.Expr.Name "_law_take" ⟨390,44,390,53⟩)) (args:=[ (PySem.Expr.Name "_law_bag_here" ⟨390,54,390,67⟩),(PySem.Expr.Constant (PySem.Const.int 3) 0 ⟨390,69,390,70⟩)]) (keywords:=[]) (pos:=⟨390,44,390,71⟩))) (pos:=⟨390,20,390,72⟩))) (pos:=⟨390,8,390,72⟩)),(PySem.Stmt.Assign (targets:=[(PySem.Expr.Name "_law_other" ⟨391,8,391,18⟩)]) (value:=(PySem.Expr.Subscript (value:=(PySem.Expr.List (elts:=[x1,x2,x3,x4,x5,x6]) (pos:=⟨391,21,391,62⟩))) (slice:=(PySem.Expr.Call (func:=(PySem.Expr.Name "_law_take" ⟨391,63,391,72⟩)) (args:=[ (PySem.Expr.Name "_law_bag_here" ⟨391,73,391,86⟩),(PySem.Expr.Constant (PySem.Const.int 6) 0 ⟨391,88,391,89⟩)]) (keywords:=[]) (pos:=⟨391,63,391,90⟩))) (pos:=⟨391,21,391,91⟩))) (pos:=⟨391,8,391,91⟩)),(PySem.Stmt.Return (value:=(some (PySem.Expr.Call (func:=(PySem.Expr.Attribute (value:=(PySem.Expr.Constant (PySem.Const.str " ") 0 ⟨392,15,392,18⟩)) (attr:="join") (pos:=⟨392,15,392,23⟩))) (args:=[ (PySem.Expr.ListComp (elt:=(PySem.Expr.Subscript (value:=(PySem.Expr.List (elts:=[(PySem.Expr.Name "_law_one" ⟨392,26,392,34⟩),(PySem.Expr.Name "_law_other" ⟨392,36,392,46⟩)]) (pos:=⟨392,25,392,47⟩))) (slice:=(PySem.Expr.Call (func:=(PySem.Expr.Name "int" ⟨392,48,392,51⟩)) (args:=[ (PySem.Expr.Compare (left:=(PySem.Expr.Name "_law_one" ⟨392,52,392,60⟩)) (ops:=[PySem.CmpOp.Eq]) (comparators:=[(PySem.Expr.Name "_law_word" ⟨392,64,392,73⟩)]) (pos:=⟨392,52,392,73⟩))]) (keywords:=[]) (pos:=⟨392,48,392,74⟩))) (pos:=⟨392,25,392,75⟩))) (generators:=[ { target:=(PySem.Expr.Name "_law_one" ⟨392,80,392,88⟩),iter:=(PySem.Expr.Name "_law_words" ⟨392,92,392,102⟩),ifs:=[],is_async:=0:PySem.Comprehension }]) (scope:={ kind:=PySem.ScopeKind.function,names:=[ (PySem.Str.ofString ".0",PySem.NameKind.local),(PySem.Str.ofString "_law_one",PySem.NameKind.local),(PySem.Str.ofString "int",PySem.NameKind.globalImplicit),(PySem.Str.ofString "_law_other",PySem.NameKind.free),(PySem.Str.ofString "_law_word",PySem.NameKind.free)],isGenerator:=false,isCoroutine:=false,more:=[]:PySem.Scope }) (pos:=⟨392,24,392,103⟩))]) (keywords:=[]) (pos:=⟨392,15,392,104⟩)))) (pos:=⟨392,8,392,104⟩))]) (orelse:=[]) (pos:=⟨389,4,392,104⟩)),(PySem.Stmt.If (test:=(PySem.Expr.Compare (left:=(PySem.Expr.Name "_law_way" ⟨393,7,393,15⟩)) (ops:=[PySem.CmpOp.Eq]) (comparators:=[(PySem.Expr.Constant (PySem.Const.int 4) 0 ⟨393,19,393,20⟩)]) (pos:=⟨393,7,393,20⟩))) (body:=[ (PySem.Stmt.Assign (targets:=[(PySem.Expr.Name "_law_turned" ⟨394,8,394,19⟩)]) (value:=(PySem.Expr.Dict (keys:=[ (some (PySem.Expr.Constant (PySem.Const.str "move") 0 ⟨394,23,394,29⟩)),(some (PySem.Expr.Constant (PySem.Const.str "look") 0 ⟨394,39,394,45⟩))]) (values:=[ (PySem.Expr.Constant (PySem.Const.str "look") 0 ⟨394,31,394,37⟩),(PySem.Expr.Constant (PySem.Const.str "move") 0 ⟨394,47,394,53⟩)]) (pos:=⟨394,22,394,54⟩))) (pos:=⟨394,8,394,54⟩)),(PySem.Stmt.Return (value:=(some (PySem.Expr.Call (func:=(PySem.Expr.Attribute (value:=(PySem.Expr.Constant (PySem.Const.str " ") 0 ⟨395,15,395,18⟩)) (attr:="join") (pos:=⟨395,15,395,23⟩))) (args:=[ (PySem.Expr.ListComp (elt:=(PySem.Expr.Call (func:=(PySem.Expr.Attribute (PySem.Expr.Name "_law_turned" ⟨395,25,395,36⟩) "get" ⟨395,25,395,40⟩)) (args:=[(PySem.Expr.Name "_law_one" ⟨395,41,395,49⟩),(PySem.Expr.Name "_law_one" ⟨395,51,395,59⟩)]) (keywords:=[]) (pos:=⟨395,25,395,60⟩))) (generators:=[ { target:=(PySem.Expr.Name "_law_one" ⟨395,65,395,73⟩),iter:=(PySem.Expr.Name "_law_words" ⟨395,77,395,87⟩),ifs:=[],is_async:=0:PySem.Comprehension }]) (scope:={ kind:=PySem.ScopeKind.function,names:=[ (PySem.Str.ofString ".0",PySem.NameKind.local),(PySem.Str.ofString "_law_one",PySem.NameKind.local),(PySem.Str.ofString "_law_turned",PySem.NameKind.free)],isGenerator:=false,isCoroutine:=false,more:=[]:PySem.Scope }) (pos:=⟨395,24,395,88⟩))]) (keywords:=[]) (pos:=⟨395,15,395,89⟩)))) (pos:=⟨395,8,395,89⟩))]) (orelse:=[]) (pos:=⟨393,4,395,89⟩)),(PySem.Stmt.Assign (targets:=[(PySem.Expr.Name "_law_text" ⟨396,4,396,13⟩)]) (value:=(PySem.Expr.Call (func:=(PySem.Expr.Attribute (value:=(PySem.Expr.Constant (PySem.Const.str " ") 0 ⟨396,16,396,19⟩)) (attr:="join") (pos:=⟨396,16,396,24⟩))) (args:=[(PySem.Expr.Name "_law_words" ⟨396,25,396,35⟩)]) (keywords:=[]) (pos:=⟨396,16,396,36⟩))) (pos:=⟨396,4,396,36⟩)),(PySem.Stmt.Assign (targets:=[(PySem.Expr.Name "_law_odd_here" ⟨397,4,397,17⟩)]) (value:=(PySem.Expr.List (elts:=[x7,x8,x9,x10,x11,x12,x13]) (pos:=⟨397,20,397,81⟩))) (pos:=⟨397,4,397,81⟩)),(PySem.Stmt.Assign (targets:=[(PySem.Expr.Name "_law_odd_here" ⟨398,4,398,17⟩)]) (value:=(PySem.Expr.BinOp (left:=(PySem.Expr.Name "_law_odd_here" ⟨398,20,398,33⟩)) (op:=PySem.Operator.Add) (right:=(PySem.Expr.List (elts:=[ (PySem.Expr.BinOp (left:=(PySem.Expr.Constant (PySem.Const.str " ") 0 ⟨398,37,398,40⟩)) (op:=PySem.Operator.Add) (right:=(PySem.Expr.Name "_law_text" ⟨398,43,398,52⟩)) (pos:=⟨398,37,398,52⟩)),(PySem.Expr.BinOp (left:=(PySem.Expr.Name "_law_text" ⟨398,54,398,63⟩)) (op:=PySem.Operator.Add) (right:=(PySem.Expr.Constant (PySem.Const.str " ") 0 ⟨398,66,398,69⟩)) (pos:=⟨398,54,398,69⟩))]) (pos:=⟨398,36,398,70⟩))) (pos:=⟨398,20,398,70⟩))) (pos:=⟨398,4,398,70⟩)),(PySem.Stmt.Assign (targets:=[(PySem.Expr.Name "_law_odd_here" ⟨399,4,399,17⟩)]) (value:=(PySem.Expr.BinOp (left:=(PySem.Expr.Name "_law_odd_here" ⟨399,20,399,33⟩)) (op:=PySem.Operator.Add) (right:=(PySem.Expr.List (elts:=[ (PySem.Expr.BinOp (left:=(PySem.Expr.Name "_law_text" ⟨399,37,399,46⟩)) (op:=PySem.Operator.Add) (right:=(PySem.Expr.Constant (PySem.Const.str "\n") 0 ⟨399,49,399,53⟩)) (pos:=⟨399,37,399,53⟩)),(PySem.Expr.Call (func:=(PySem.Expr.Attribute (value:=(PySem.Expr.Constant (PySem.Const.str "  ") 0 ⟨399,55,399,59⟩)) (attr:="join") (pos:=⟨399,55,399,64⟩))) (args:=[(PySem.Expr.Name "_law_words" ⟨399,65,399,75⟩)]) (keywords:=[]) (pos:=⟨399,55,399,76⟩))]) (pos:=⟨399,36,399,77⟩))) (pos:=⟨399,20,399,77⟩))) (pos:=⟨399,4,399,77⟩)),(PySem.Stmt.Return (value:=(some (PySem.Expr.Subscript (value:=(PySem.Expr.Name "_law_odd_here" ⟨400,11,400,24⟩)) (slice:=(PySem.Expr.Call (func:=(PySem.Expr.Name "_law_take" ⟨400,25,400,34⟩)) (args:=[ (PySem.Expr.Name "_law_bag_here" ⟨400,35,400,48⟩),(PySem.Expr.Call (func:=(PySem.Expr.Name "len" ⟨400,50,400,53⟩)) (args:=[(PySem.Expr.Name "_law_odd_here" ⟨400,54,400,67⟩)]) (keywords:=[]) (pos:=⟨400,50,400,68⟩))]) (keywords:=[]) (pos:=⟨400,25,400,69⟩))) (pos:=⟨400,11,400,70⟩)))) (pos:=⟨400,4,400,70⟩))]:=⟨_,_,_,_,_,_,_,_,_,_,_,_,_,rfl,rfl,rfl,rfl,rfl,rfl,rfl,rfl,rfl,rfl,rfl,rfl,rfl,by with_unfolding_all rfl⟩
theorem sc__law_bad_system:FnScope ["_law_bag_here","_law_parts_here","_law_words","_law_way","_law_at","_law_rest","_law_word","_law_other","_law_turned","_law_text","_law_odd_here"] ["_law_bag_here","_law_parts_here"] (defScope s__law_bad_system):=⟨rfl,rfl,rfl,by decide +kernel,rfl,by decide +kernel,by decide +kernel⟩
theorem ok__law_bad_system (T:Txt K mg Z):FnOk P w K mg base CX0 3 Z.a__law_bad_system Z.d__law_bad_system ["_law_bag_here","_law_parts_here"] (sp_bs3 K):=by
 have G__law_system_text:=ok__law_system_text (P:=P) (w:=w) (base:=base) T
 have G__law_take:=ok__law_take (P:=P) (w:=w) (base:=base) T
 have G__law_bad_number:=ok__law_bad_number (P:=P) (w:=w) (base:=base) T
 have G__law_bad_sizes:=ok__law_bad_sizes (P:=P) (w:=w) (base:=base) T
 refine T.F__law_bad_system.ok sc__law_bad_system (fun vs H Q E h=>?_) (fun cdv A outer s H vs Q E hr h=>?_)
 ·obtain ⟨b,r,H0,mv,pt,lk,rfl,_⟩:=h
  rfl
 ·obtain ⟨b,r,H0,mv,pt,lk,rfl,B,S,D,o1,o2,o3,wl,k⟩:=h
  obtain ⟨x1,x2,x3,x4,x5,x6,x7,x8,x9,x10,x11,x12,x13,hx1,hx2,hx3,hx4,hx5,hx6,hx7,hx8,hx9,hx10,hx11,hx12,hx13,hbd⟩:=bd__law_bad_system
  rw[hbd]
  refine ⟨_,(pss_cons (ps_set (i:=2) sc__law_bad_system.nd rfl (Or.inl rfl) (pe_bm PySem.F.plainAttrs_str PySem.F.slot_str_split PySem.F.type_str_split mt_split (pe_call G__law_system_text (hr.mono (by decide)) rfl T.mg__law_system_text T.F__law_system_text.kp T.b__law_system_text .nil pass0 (pa_cons (pv 1) pa_nil)) (pa_cons pe_str pa_nil)))
   (pss_cons (ps_set (i:=3) sc__law_bad_system.nd rfl (Or.inl rfl) (pe_call G__law_take (hr.mono (by decide)) rfl T.mg__law_take T.F__law_take.kp T.b__law_take .nil pass0 (pa_cons (pv 0) (pa_cons pe_int pa_nil))))
   (pss_cons (ps_set (i:=4) sc__law_bad_system.nd rfl (Or.inl rfl) (pe_call G__law_take (hr.mono (by decide)) rfl T.mg__law_take T.F__law_take.kp T.b__law_take .nil pass0 (pa_cons (pv 0) (pa_cons (pe_callB call_len_seq (by rfl) T.len PySem.boot_len (pa_cons (pv 2) pa_nil)) pa_nil))))
   (pss_cons (ps_if (pt_cmpR op_eq (pv 3) pe_int (nomark _)) (pss_one (ps_ret (pe_bm PySem.F.plainAttrs_str PySem.F.slot_str_join PySem.F.type_str_join mt_join pe_str (pa_cons (pe_op op_cat (pe_slice sl_list (pv 2) po_none (po_some (pv 4))) (pe_slice sl_list (pv 2) (po_some (pe_op op_add (pv 4) pe_int)) po_none)) pa_nil)))) pss_nil)
   (pss_cons (ps_if (pt_cmpR op_eq (pv 3) pe_int (nomark _)) (pss_cons (ps_set (i:=5) sc__law_bad_system.nd rfl (Or.inl rfl) (pe_slice sl_list (pv 2) (po_some (pe_op op_add (pv 4) (pe_call G__law_take (hr.mono (by decide)) rfl T.mg__law_take T.F__law_take.kp T.b__law_take .nil pass0 (pa_cons (pv 0) (pa_cons pe_int pa_nil))))) po_none))
   (pss_one (ps_ret (pe_bm PySem.F.plainAttrs_str PySem.F.slot_str_join PySem.F.type_str_join mt_join pe_str (pa_cons (pe_op op_cat (pe_op op_cat (pe_slice sl_list (pv 2) po_none (po_some (pv 4))) (pe_lst (pa_cons (pe_call G__law_bad_number (hr.mono (by decide)) rfl T.mg__law_bad_number T.F__law_bad_number.kp T.b__law_bad_number .nil pass0 (pa_cons (pv 0) pa_nil)) pa_nil))) (pv 5)) pa_nil))))) pss_nil)
   (pss_cons (ps_if (pt_cmpR op_eq (pv 3) pe_int (nomark _)) (pss_one (ps_ret (pe_bm PySem.F.plainAttrs_str PySem.F.slot_str_join PySem.F.type_str_join mt_join pe_str (pa_cons (pe_call G__law_bad_sizes (hr.mono (by decide)) rfl T.mg__law_bad_sizes T.F__law_bad_sizes.kp T.b__law_bad_sizes .nil pass0 (pa_cons (pv 0) (pa_cons (pv 2) pa_nil))) pa_nil)))) pss_nil)
   (pss_cons (ps_if (pt_cmpR op_eq (pv 3) pe_int (nomark _)) (pss_cons (ps_set (i:=6) sc__law_bad_system.nd rfl (Or.inr rfl) (pe_ix ix_list (pe_lst (pa_cons pe_str (pa_cons pe_str (pa_cons pe_str pa_nil)))) (pe_call G__law_take (hr.mono (by decide)) rfl T.mg__law_take T.F__law_take.kp T.b__law_take .nil pass0 (pa_cons (pv 0) (pa_cons pe_int pa_nil))) (by intro _ _;rfl)))
   (pss_cons (ps_set (i:=7) sc__law_bad_system.nd rfl (Or.inr rfl) (pe_ix ix_list (pe_lst (pa_consE hx1 pe_str (pa_consE hx2 pe_str (pa_consE hx3 pe_str (pa_consE hx4 pe_str (pa_consE hx5 pe_str (pa_consE hx6 pe_str pa_nil))))))) (pe_call G__law_take (hr.mono (by decide)) rfl T.mg__law_take T.F__law_take.kp T.b__law_take .nil pass0 (pa_cons (pv 0) (pa_cons pe_int pa_nil))) (by intro _ _;rfl)))
   (pss_one (ps_ret (pe_bm PySem.F.plainAttrs_str PySem.F.slot_str_join PySem.F.type_str_join mt_join pe_str (pa_cons (pe_comp ["_law_one"] ["_law_other","_law_word"] [7,6] (pi_list (pv 2)) (fun _=>(pg_name (i:=0) (show List.Nodup (α:=PySem.Str) ["_law_one","_law_other","_law_word"] by decide +kernel) rfl (Or.inl rfl) (Or.inl rfl))) (fun _=>pf_nil) (fun _=>(pe_ix (ix_listK K (by rfl)) (pe_lst (pa_cons (pv 0) (pa_cons (pv 1) pa_nil))) (pe_callTy call_intB (by rfl) T.int PyProof.Rows.boot_int (pa_cons (pe_cmpR op_eq (pv 0) (pv 2) (nomark _)) pa_nil)) (by intro _ _;rfl)))) pa_nil)))))) pss_nil)
   (pss_cons (ps_if (pt_cmpR op_eq (pv 3) pe_int (nomark _)) (pss_cons (ps_set (i:=8) sc__law_bad_system.nd rfl (Or.inr rfl) (pe_disp (pps_cons pe_str pe_str (pps_cons pe_str pe_str pps_nil)) rfl rfl (by simp) (by decide)))
   (pss_one (ps_ret (pe_bm PySem.F.plainAttrs_str PySem.F.slot_str_join PySem.F.type_str_join mt_join pe_str (pa_cons (pe_comp ["_law_one"] ["_law_turned"] [8] (pi_list (pv 2)) (fun _=>(pg_name (i:=0) (show List.Nodup (α:=PySem.Str) ["_law_one","_law_turned"] by decide +kernel) rfl (Or.inl rfl) (Or.inl rfl))) (fun _=>pf_nil) (fun _=>(pe_dgetO (hu50 hr) (pv 1) (pv 0) (pv 0) ⟨rfl,rfl,rfl,rfl⟩))) pa_nil))))) pss_nil)
   (pss_cons (ps_set (i:=9) sc__law_bad_system.nd rfl (Or.inl rfl) (pe_bm PySem.F.plainAttrs_str PySem.F.slot_str_join PySem.F.type_str_join mt_join pe_str (pa_cons (pv 2) pa_nil)))
   (pss_cons (ps_set (i:=10) sc__law_bad_system.nd rfl (Or.inl rfl) (pe_lst (pa_consE hx7 pe_str (pa_consE hx8 pe_str (pa_consE hx9 pe_str (pa_consE hx10 pe_str (pa_consE hx11 pe_str (pa_consE hx12 pe_str (pa_consE hx13 pe_str pa_nil)))))))))
   (pss_cons (ps_set (i:=10) sc__law_bad_system.nd rfl (Or.inl rfl) (pe_op op_cat (pv 10) (pe_lst (pa_cons (pe_op op_add_str pe_str (pv 9)) (pa_cons (pe_op op_add_str (pv 9) pe_str) pa_nil)))))
   (pss_cons (ps_set (i:=10) sc__law_bad_system.nd rfl (Or.inl rfl) (pe_op op_cat (pv 10) (pe_lst (pa_cons (pe_op op_add_str (pv 9) pe_str) (pa_cons (pe_bm PySem.F.plainAttrs_str PySem.F.slot_str_join PySem.F.type_str_join mt_join2 pe_str (pa_cons (pv 2) pa_nil)) pa_nil)))))
   (pss_one (ps_ret (pe_ix ix_list (pv 10) (pe_call G__law_take (hr.mono (by decide)) rfl T.mg__law_take T.F__law_take.kp T.b__law_take .nil pass0 (pa_cons (pv 0) (pa_cons (pe_callB call_len_seq (by rfl) T.len PySem.boot_len (pa_cons (pv 10) pa_nil)) pa_nil))) (by intro _ _;rfl)))))))))))))))),?_⟩
  refine rd_start (σ:=[some (.ref b),some (.ref r),none,none,none,none,none,none,none,none,none]) rfl ?_
  have l1:=sysW_le D
  have sy:SyT (sysW mv pt lk) mv pt lk:=⟨D,rfl⟩
  obtain ⟨c,c0,c1,c2,_⟩:=sy_cut sy
  have w32:∀w∈sysW mv pt lk,32∉w:=sys_32
  have w0:sysW mv pt lk≠[]:=by unfold sysW;simp
  obtain ⟨W,hW⟩:∃W,W=sysW mv pt lk:=⟨_,rfl⟩
  have wW:∀w∈W,w.length<=650:=by rw[hW];exact wl
  have lj:(joinL 32 W).length<=90000:=Nat.le_trans (joinL_le 32 650 _ wW) (Nat.le_trans (Nat.mul_le_mul_right _ (by rw[hW];exact l1)) (by decide))
  have es:Txt.split (sl (joinL 32 W)) (sl [32])=W.map sl:=split_join (by rw[hW];exact w0) (by rw[hW];exact w32)
  walk_at "w"
  refine ⟨r,H0,mv,pt,lk,rfl,S,D,o1,o2,o3,fun H1 s1=>?_⟩
  rw[← hW] at w0 w32 sy c c0 c1 c2 l1 ⊢
  have l6:6<=W.length:=by lia
  walk_at "w"
  refine ⟨rfl,?_⟩
  walk_at "w"
  refine ⟨_,_,rfl,rfl,by rw[sl_length];lia,by decide,fun p np=>?_⟩
  rw[show Str.ofString " "=sl [32] from sl_space,es,stL_sl]
  have s2:Same H1 (upd H1 p (.lst (stL W))):=Same.new np
  have gp:(upd H1 p (.lst (stL W))) p=some (.lst (stL W)):=upd_same
  generalize upd H1 p (.lst (stL W))=H2 at s2 gp ⊢
  have s12:=s1.trans s2
  have B2:=B.same s12
  have pb:p≠b:=fun z=>(B.same s1).at (by rw[← z];exact np)
  have lS:(stL W).length=W.length:=stL_len _
  walk_at "w"
  refine ⟨b,6,rfl,B2,by decide,by decide,fun y H3 y0 y1 B3 u3=>?_⟩
  have g3:=u3.other pb gp
  walk_at "w"
  refine ⟨_,_,rfl,.inl (SqL.of g3),?_⟩
  rw[lS]
  walk_at "w"
  refine ⟨b,_,rfl,B3,by lia,by lia,fun a H4 a0 a1 B4 u4=>?_⟩
  obtain ⟨a,rfl⟩:=Int.eq_ofNat_of_zero_le a0
  have aw:a < W.length:=by lia
  have g4:=u4.other pb g3
  have u04:=(s12.upto.trans u3).trans u4
  have wW':∀w∈W,w.length<=660:=fun w hw=>Nat.le_trans (wW w hw) (by decide)
  have lt:(W.take a).length=a:=by rw[List.length_take];lia
  walk_at "w"
  refine ite2 (fun h0=>?_) (fun h0=>?_)
  ·walk_at "w"
   refine ⟨rfl,?_⟩
   walk_at "w"
   refine rd_slL (SqL.of g4) fun q5 H5 s5 n5 g5=>?_
   rw[cut_upto,bz_st.1] at g5
   walk_at "w"
   refine rd_slL (SqL.of (s5 _ _ g4)) fun q6 H6 s6 n6 g6=>?_
   rw[show ((a:Nat):Int)+1=((a+1:Nat):Int) by lia,cut_from,bz_st.2] at g6
   walk_at "w"
   have ld:(W.drop (a+1)).length=W.length - (a+1):=List.length_drop
   refine rd_cat (s6 _ _ g5) g6 (by rw[stL_len,stL_len,lt,ld];exact big10000 (by lia)) fun q7 H7 s7 n7 g7=>?_
   have s47:=(s5.trans s6).trans s7
   have gg:H7 q7=some (.lst (((W.take a++W.drop (a+1)).map sl).map V.str)):=by rw[g7,stL_sl,stL_app]
   have ln:(W.take a++W.drop (a+1)).length<=134:=by rw[List.length_append,lt,ld];lia
   have wl2:∀w∈W.take a++W.drop (a+1),w.length<=660∧32∉w:=fun w hw=>by
    rcases List.mem_append.mp hw with z | z
    ·have:=List.mem_of_mem_take z;exact ⟨wW' w this,w32 w this⟩
    ·have:=List.mem_of_mem_drop z;exact ⟨wW' w this,w32 w this⟩
   walk_at "w"
   refine ⟨_,q7,(W.take a++W.drop (a+1)).map sl,rfl,rfl,by decide,gg,by rw[List.length_map];lia,fun y hy=>?_,?_⟩
   ·obtain ⟨w,mw,rfl⟩:=List.mem_map.mp hy
    have:=(fun w hw=>(wl2 w hw).1) w mw
    rw[sl_length]
    lia
   first | rw[show Str.ofString " "=sl [32] from sl_space,sl_join] | rw[sl_join]
   exact k _ H7 (rf_ws (fun w hw=>(wl2 w hw).1) (by lia) (fun z=>by have:=congrArg List.length z;rw[List.length_append,lt,ld,List.length_nil] at this;lia) (fun w hw=>(wl2 w hw).2) (no_drop sy aw)) (B4.same s47) (u04.trans s47.upto)
  walk_at "w"
  refine ite2 (fun h1=>?_) (fun h1=>?_)
  ·walk_at "w"
   refine ⟨b,2,rfl,B4,by decide,by decide,fun t H5 t0 t1 B5 u5=>?_⟩
   obtain ⟨t,rfl⟩:=Int.eq_ofNat_of_zero_le t0
   have g5:=u5.other pb g4
   walk_at "w"
   refine rd_slL (SqL.of g5) fun q6 H6 s6 n6 g6=>?_
   rw[show ((a:Nat):Int)+((t:Nat):Int)=((a+t:Nat):Int) by lia,cut_from,bz_st.2] at g6
   have B6:=B5.same s6
   walk_at "w"
   refine ⟨rfl,?_⟩
   walk_at "w"
   refine rd_slL (SqL.of (s6 _ _ g5)) fun q7 H7 s7 n7 g7=>?_
   rw[cut_upto,bz_st.1] at g7
   have B7:=B6.same s7
   walk_at "w"
   refine ⟨b,rfl,B7,fun wl H8 hw B8 u8=>?_⟩
   have g78:=u8.other (fun z=>B6.at (by rw[← z];exact n7)) g7
   have g68:=u8.other (fun z=>B5.at (by rw[← z];exact n6)) (s7 _ _ g6)
   have BW:=bad_of hw
   have jl:(joinL 32 wl).length<=22:=Nat.le_trans (joinL_le 32 10 _ BW.le) (Nat.mul_le_mul_right _ BW.l2)
   have l2:=BW.l2
   have u08:=((u04.trans u5).trans (s6.trans s7).upto).trans u8
   walk_at "w"
   refine rd_newL fun q9 H9 s9 n9 g9=>?_
   walk_at "w"
   refine rd_cat (s9 _ _ g78) g9 (by rw[stL_len,lt];exact big10000 (show _+1<=_ by lia)) fun qa HA sa na ga=>?_
   have s9a:=s9.trans sa
   walk_at "w"
   have ld:(W.drop (a+t)).length<=W.length - a:=by rw[List.length_drop];lia
   refine rd_cat ga (s9a _ _ g68) (by rw[List.length_append,stL_len,stL_len,lt];exact big10000 (show _+1+_<=_ by lia)) fun qb HB sb nb gb=>?_
   have s8b:=s9a.trans sb
   have gg:HB qb=some (.lst (((W.take a++[joinL 32 wl]++W.drop (a+t)).map sl).map V.str)):=by rw[gb,stL_sl,stL_app,stL_app];rfl
   have ln:(W.take a++[joinL 32 wl]++W.drop (a+t)).length<=135:=by rw[List.length_append,List.length_append,lt];show a+1+_<=_;lia
   have ln2:(W.take a++wl++W.drop (a+t)).length<=136:=by rw[List.length_append,List.length_append,lt];lia
   have wl2:∀w∈W.take a++[joinL 32 wl]++W.drop (a+t),w.length<=660:=fun w hw=>by
    simp only[List.mem_append,List.mem_singleton] at hw
    rcases hw with (hw | hw) | hw
    ·exact wW' w (List.mem_of_mem_take hw)
    ·rw[hw];lia
    ·exact wW' w (List.mem_of_mem_drop hw)
   have wl3:∀w∈W.take a++wl++W.drop (a+t),w.length<=660∧32∉w:=fun w hw=>by
    simp only[List.mem_append] at hw
    rcases hw with (hw | hw) | hw
    ·have:=List.mem_of_mem_take hw;exact ⟨wW' w this,w32 w this⟩
    ·exact ⟨Nat.le_trans (BW.le w hw) (by decide),BW.w1 w hw⟩
    ·have:=List.mem_of_mem_drop hw;exact ⟨wW' w this,w32 w this⟩
   walk_at "w"
   refine ⟨_,qb,(W.take a++[joinL 32 wl]++W.drop (a+t)).map sl,rfl,rfl,by decide,gg,by rw[List.length_map];lia,fun y hy=>?_,?_⟩
   ·obtain ⟨w,mw,rfl⟩:=List.mem_map.mp hy
    have:=wl2 w mw
    rw[sl_length]
    lia
   first | rw[show Str.ofString " "=sl [32] from sl_space,sl_join] | rw[sl_join]
   rw[join_in BW.w0]
   obtain ⟨x,mx,gx⟩:=BW.bd
   exact k _ HB (rf_ws (fun w hw=>(wl3 w hw).1) (by lia) (fun z=>BW.w0 (List.append_eq_nil_iff.mp (List.append_eq_nil_iff.mp z).1).2) (fun w hw=>(wl3 w hw).2) (no_sys (List.mem_append_left _ (List.mem_append_right _ mx)) gx)) (B8.same s8b) (u08.trans s8b.upto)
  walk_at "w"
  refine ite2 (fun h2=>?_) (fun h2=>?_)
  ·walk_at "w"
   refine ⟨rfl,?_⟩
   walk_at "w"
   refine ⟨b,p,mv,pt,lk,rfl,B4,pb,by rw[← hW];exact g4,D,wl,fun q ws H5 g5 ne le sp ln no B5 u5=>?_⟩
   rw[← stL_sl] at g5
   walk_at "w"
   refine ⟨_,q,(ws).map sl,rfl,rfl,by decide,g5,by rw[List.length_map];lia,fun y hy=>?_,?_⟩
   ·obtain ⟨w,mw,rfl⟩:=List.mem_map.mp hy
    have:=le w mw
    rw[sl_length]
    lia
   first | rw[show Str.ofString " "=sl [32] from sl_space,sl_join] | rw[sl_join]
   exact k _ H5 (rf_ws le (by lia) ne sp no) B5 (u04.trans u5)
  walk_at "w"
  refine ite2 (fun h3=>?_) (fun h3=>?_)
  ·walk_at "w"
   refine rd_newL fun q5 H5 s5 n5 g5=>?_
   walk_at "w"
   refine ⟨b,3,rfl,B4.same s5,by decide,by decide,fun v H6 v0 v1 B6 u6=>?_⟩
   have g6:=u6.other (fun z=>B4.at (by rw[← z];exact n5)) g5
   have gp6:=u6.other pb (s5 _ _ g4)
   obtain ⟨z,ez,mz,_⟩:=atI_some (xs:=[V.str (Str.ofString "move"),V.str (Str.ofString "put"),V.str (Str.ofString "look")]) v0 (by simpa using v1)
   walk_at "w"
   refine rd_ixL (SqL.of g6) ez ?_
   obtain ⟨x,rfl,hx⟩:∃x,z=.str (sl x)∧(x=wM∨x=wP∨x=wL):=by
    simp only[List.mem_cons,List.not_mem_nil,or_false] at mz
    rcases mz with rfl | rfl | rfl
    ·exact ⟨wM,by with_unfolding_all rfl,.inl rfl⟩
    ·exact ⟨wP,by with_unfolding_all rfl,.inr (.inl rfl)⟩
    ·exact ⟨wL,by with_unfolding_all rfl,.inr (.inr rfl)⟩
   walk_at "w"
   refine rd_newL fun q7 H7 s7 n7 g7=>?_
   walk_at "w"
   refine ⟨b,6,rfl,B6.same s7,by decide,by decide,fun v' H8 v0' v1' B8 u8=>?_⟩
   have g8:=u8.other (fun z=>B6.at (by rw[← z];exact n7)) g7
   have gp8:=u8.other pb (s7 _ _ gp6)
   have u08:=(((u04.trans s5.upto).trans u6).trans s7.upto).trans u8
   rw[othW_V] at g8
   obtain ⟨z,ez,mz,_⟩:=atI_some (xs:=stL othW) v0' (by rw[stL_len];exact v1')
   obtain ⟨o,ho,rfl⟩:=List.mem_map.mp mz
   walk_at "w"
   refine rd_ixL (SqL.of g8) ez ?_
   walk_at "w"
   refine ⟨rfl,?_⟩
   walk_at "w"
   refine ⟨⟨_,SqL.of gp8⟩,?_⟩
   refine comp_list (K:=K) (xs:=stL W) (fun i ys H'=>Same H8 H'∧ys=stL ((W.take i).map fun w=>if w=x then o else w)) (Nat.le_of_lt (small1000 (by rw[lS];lia))) ⟨Same.refl _,rfl⟩ (fun i ys H' _ ⟨e,_⟩=>SqL.of (e _ _ gp8)) ?_ ?_
   ·rintro i v ys H' hv hlen ⟨sm,rfl⟩
    obtain ⟨w,hw,rfl⟩:=st_at hv
    walk_at "w"
    refine rd_newL fun q9 H9 s9 n9 g9=>?_
    walk_at "w"
    have fin:∀z,z=(if w=x then o else w)->Same H8 H9∧stL ((W.take i).map fun w=>if w=x then o else w)++[V.str (sl z)]=stL ((W.take (i+1)).map fun w=>if w=x then o else w):=fun z ez=>⟨sm.trans s9,by rw[take_snoc hw,List.map_append,stL_app,ez];rfl⟩
    by_cases e:w=x
    ·rw[decide_eq_true (show sl w=sl x by rw[e])]
     walk_at "w"
     exact fin o (by rw[if_pos e])
    ·rw[decide_eq_false (show ¬sl w=sl x from fun z=>e (sl_inj z))]
     walk_at "w"
     exact fin w (by rw[if_neg e])
   rintro ys H9 hy ⟨s9,rfl⟩ qa nqa
   rw[List.take_of_length_le (by rw[lS];lia)]
   have wo:∀w∈W.map (fun w=>if w=x then o else w),w.length<=660∧32∉w:=map_all (P:=fun w=>w.length<=660∧32∉w) fun w hw=>by
    by_cases e:w=x
    ·rw[if_pos e]
     have:∀o∈othW,o.length<=660∧32∉o:=by decide
     exact this o ho
    ·rw[if_neg e];exact ⟨wW' w hw,w32 w hw⟩
   have NO:=no_swap (ws:=W) hx ho
   have lm:(W.map fun w=>if w=x then o else w).length=W.length:=List.length_map ..
   have ne:(W.map fun w=>if w=x then o else w)≠[]:=fun z=>by rw[z,List.length_nil] at lm;lia
   generalize (W.map fun w=>if w=x then o else w)=W2 at wo NO lm ne ⊢
   have sa:Same H9 (upd H9 qa (.lst (stL W2))):=Same.new nqa
   have ga:(upd H9 qa (.lst (stL W2))) qa=some (.lst ((W2.map sl).map V.str)):=by rw[upd_same,stL_sl]
   generalize upd H9 qa (.lst (stL W2))=HA at sa ga ⊢
   have s8a:=s9.trans sa
   walk_at "w"
   refine ⟨_,qa,(W2).map sl,rfl,rfl,by decide,ga,by rw[List.length_map];lia,fun y hy=>?_,?_⟩
   ·obtain ⟨w,mw,rfl⟩:=List.mem_map.mp hy
    have:=(fun w hw=>(wo w hw).1) w mw
    rw[sl_length]
    lia
   first | rw[show Str.ofString " "=sl [32] from sl_space,sl_join] | rw[sl_join]
   exact k _ HA (rf_ws (fun w hw=>(wo w hw).1) (by lia) ne (fun w hw=>(wo w hw).2) NO) (B8.same s8a) (u08.trans s8a.upto)
  walk_at "w"
  refine ite2 (fun h4=>?_) (fun h4=>?_)
  ·walk_at "w"
   unfold tDisp
   intro d nd
   repeat (first | walk_at "rd" | unfold tPairs)
   refine ⟨upd_same,trnD,rfl,by decide,?_⟩
   rw[upd_upd]
   have s5:Same H4 (upd H4 d (.dK (mergeK [] trnD))):=Same.new nd
   have g5:(upd H4 d (.dK (mergeK [] trnD))) d=some (.dK (mergeK [] trnD)):=upd_same
   generalize upd H4 d (.dK (mergeK [] trnD))=H5 at s5 g5 ⊢
   have gp5:=s5 _ _ g4
   walk_at "w"
   refine ⟨rfl,?_⟩
   walk_at "w"
   refine ⟨⟨_,SqL.of gp5⟩,?_⟩
   refine comp_list (K:=K) (xs:=stL W) (fun i ys H'=>H'=H5∧ys=stL ((W.take i).map trn)) (Nat.le_of_lt (small1000 (by rw[lS];lia))) ⟨rfl,rfl⟩ (fun i ys H' _ ⟨e,_⟩=>by subst e;exact SqL.of gp5) ?_ ?_
   ·rintro i v ys H' hv hlen ⟨rfl,rfl⟩
    obtain ⟨w,hw,rfl⟩:=st_at hv
    walk_at "w"
    unfold tDGet2
    walk_at "w"
    refine ⟨.inl ⟨_,.inl g5⟩,?_⟩
    walk_at "w"
    refine ⟨_,.inl ⟨_,.inr (sl w),.inl g5,rfl,rfl⟩,?_⟩
    rw[trnD_get]
    exact ⟨rfl,by rw[take_snoc hw,List.map_append,stL_app];rfl⟩
   rintro ys H9 hy ⟨rfl,rfl⟩ qa nqa
   rw[List.take_of_length_le (by rw[lS];lia)]
   have wo:∀w∈W.map trn,w.length<=660∧32∉w:=map_all (P:=fun w=>w.length<=660∧32∉w) fun w hw=>trn_or (P:=fun w=>w.length<=660∧32∉w) (by decide) (by decide) ⟨wW' w hw,w32 w hw⟩
   have NO:=no_trn sy
   have lm:(W.map trn).length=W.length:=List.length_map ..
   have ne:W.map trn≠[]:=fun z=>by rw[z,List.length_nil] at lm;lia
   generalize W.map trn=W2 at wo NO lm ne ⊢
   have sa:Same H9 (upd H9 qa (.lst (stL W2))):=Same.new nqa
   have ga:(upd H9 qa (.lst (stL W2))) qa=some (.lst ((W2.map sl).map V.str)):=by rw[upd_same,stL_sl]
   generalize upd H9 qa (.lst (stL W2))=HA at sa ga ⊢
   have s8a:=s5.trans sa
   walk_at "w"
   refine ⟨_,qa,(W2).map sl,rfl,rfl,by decide,ga,by rw[List.length_map];lia,fun y hy=>?_,?_⟩
   ·obtain ⟨w,mw,rfl⟩:=List.mem_map.mp hy
    have:=(fun w hw=>(wo w hw).1) w mw
    rw[sl_length]
    lia
   first | rw[show Str.ofString " "=sl [32] from sl_space,sl_join] | rw[sl_join]
   exact k _ HA (rf_ws (fun w hw=>(wo w hw).1) (by lia) ne (fun w hw=>(wo w hw).2) NO) (B4.same s8a) (u04.trans s8a.upto)
  walk_at "w"
  refine ⟨rfl,?_⟩
  walk_at "w"
  have g4':H4 p=some (.lst ((W.map sl).map V.str)):=by rw[stL_sl];exact g4
  refine ⟨_,p,(W).map sl,rfl,rfl,by decide,g4',by rw[List.length_map];lia,fun y hy=>?_,?_⟩
  ·obtain ⟨w,mw,rfl⟩:=List.mem_map.mp hy
   have:=wW w mw
   rw[sl_length]
   lia
  first | rw[show Str.ofString " "=sl [32] from sl_space,sl_join] | rw[sl_join]
  have OA:=@odd_all W
  have ls:∀{m:Nat},m<=3->(joinL 32 W).length+m<=sizeLine:=fun h=>big10000 (by lia)
  walk_at "w"
  refine rd_newL fun q5 H5 s5 n5 g5=>?_
  have e5:=oddA_V
  rw[show Str.ofString " "=sl [32] from sl_space] at e5
  rw[e5] at g5
  walk_at "w"
  refine ⟨_,_,rfl,rfl,by rw[sl_length,sl_length,Nat.add_comm];exact ls (m:=1) (by decide),?_⟩
  rw[sl_app]
  walk_at "w"
  refine ⟨_,_,rfl,rfl,by rw[sl_length,sl_length];exact ls (m:=1) (by decide),?_⟩
  rw[sl_app]
  walk_at "w"
  refine rd_newL fun q6 H6 s6 n6 g6=>?_
  walk_at "w"
  refine rd_cat (s6 _ _ g5) g6 (by rw[stL_len];exact big10000 (show 7+2<=_ by decide)) fun q7 H7 s7 n7 g7=>?_
  have s47:=(s5.trans s6).trans s7
  walk_at "w"
  rw[show Str.ofString "\n"=sl [10] by decide +kernel]
  refine ⟨_,_,rfl,rfl,by rw[sl_length,sl_length];exact ls (m:=1) (by decide),?_⟩
  rw[sl_app]
  walk_at "w"
  refine ⟨rfl,?_⟩
  walk_at "w"
  refine ⟨_,p,W.map sl,rfl,rfl,by decide,s47 _ _ g4',by rw[List.length_map];lia,fun y hy=>?_,?_⟩
  ·obtain ⟨w,mw,rfl⟩:=List.mem_map.mp hy
   have:=wW w mw
   rw[sl_length]
   lia
  rw[show Str.ofString "  "=sl [32,32] by decide +kernel,sl_join2]
  walk_at "w"
  refine rd_newL fun q8 H8 s8 n8 g8=>?_
  walk_at "w"
  refine rd_cat (s8 _ _ g7) g8 (by rw[List.length_append,stL_len];exact big10000 (show 7+2+2<=_ by decide)) fun q9 H9 s9 n9 g9=>?_
  have s49:=(s47.trans s8).trans s9
  have B9:=B4.same s49
  have nb:q9≠b:=fun z=>(B4.same (s47.trans s8)).at (by rw[← z];exact n9)
  walk_at "w"
  refine ⟨_,_,rfl,.inl (SqL.of g9),?_⟩
  walk_at "w"
  refine ⟨b,11,by rw[List.length_append,List.length_append,stL_len];rfl,B9,by decide,by decide,fun v HA v0 v1 BA ua=>?_⟩
  have ga:=ua.other nb g9
  obtain ⟨z,ez,mz,_⟩:=atI_some (xs:=stL (oddA.map (joinL 32))++[V.str (sl ([32]++joinL 32 W)),V.str (sl (joinL 32 W++[32]))]++[V.str (sl (joinL 32 W++[10])),V.str (sl (joinL 32 (dbl W)))]) v0 (by rw[List.length_append,List.length_append,stL_len];exact v1)
  walk_at "w"
  refine rd_ixL (SqL.of ga) ez ?_
  obtain ⟨l,rfl,hl⟩:=OA wW w32 l6 l1 mz
  exact k l HA hl BA ((u04.trans s49.upto).trans ua)
  
theorem sc__law_strewn:FnScope ["_law_bag_here","_law_text","_law_signs","_law_at"] ["_law_bag_here","_law_text"] (defScope s__law_strewn):=⟨rfl,rfl,rfl,by decide +kernel,rfl,by decide +kernel,by decide +kernel⟩
theorem ok__law_strewn (T:Txt K mg Z):FnOk P w K mg base CX0 2 Z.a__law_strewn Z.d__law_strewn ["_law_bag_here","_law_text"] sp_st3:=by
 have G__law_take:=ok__law_take (P:=P) (w:=w) (base:=base) T
 refine T.F__law_strewn.ok sc__law_strewn (fun vs H Q E h=>?_) (fun cdv A outer s H vs Q E hr h=>?_)
 ·obtain ⟨b,l,rfl,_⟩:=h
  rfl
 ·obtain ⟨b,l,rfl,B,hl,k⟩:=h
  refine ⟨_,(pss_cons (ps_set (i:=2) sc__law_strewn.nd rfl (Or.inl rfl) pe_str)
   (pss_cons (ps_set (i:=2) sc__law_strewn.nd rfl (Or.inl rfl) (pe_op op_add_str (pe_op op_add_str (pv 2) pe_str) pe_str))
   (pss_cons (ps_set (i:=3) sc__law_strewn.nd rfl (Or.inl rfl) (pe_call G__law_take (hr.mono (by decide)) rfl T.mg__law_take T.F__law_take.kp T.b__law_take .nil pass0 (pa_cons (pv 0) (pa_cons (pe_op op_add (pe_callB call_len_str (by rfl) T.len PySem.boot_len (pa_cons (pv 1) pa_nil)) pe_int) pa_nil))))
   (pss_one (ps_ret (pe_op op_add_str (pe_op op_add_str (pe_slice sl_strX (pv 1) po_none (po_some (pv 3))) (pe_ix ix_str (pv 2) (pe_call G__law_take (hr.mono (by decide)) rfl T.mg__law_take T.F__law_take.kp T.b__law_take .nil pass0 (pa_cons (pv 0) (pa_cons (pe_callB call_len_str (by rfl) T.len PySem.boot_len (pa_cons (pv 2) pa_nil)) pa_nil))) (by intro _ _;rfl))) (pe_slice sl_strX (pv 1) (po_some (pe_op op_add (pv 3) (pe_call G__law_take (hr.mono (by decide)) rfl T.mg__law_take T.F__law_take.kp T.b__law_take .nil pass0 (pa_cons (pv 0) (pa_cons pe_int pa_nil))))) po_none))))))),?_⟩
  refine rd_start (σ:=[some (.ref b),some (.str (sl l)),none,none]) rfl ?_
  have lb:(sl l).length<=sizeLine:=by rw[sl_length];exact big10000 (by lia)
  walk_at "w"
  refine ⟨_,_,rfl,rfl,big10000 (by decide +kernel),?_⟩
  walk_at "w"
  refine ⟨_,_,rfl,rfl,big10000 (by decide +kernel),?_⟩
  walk_at "w"
  refine ⟨lb,?_⟩
  rw[sl_length]
  walk_at "w"
  refine ⟨b,_,rfl,B,by lia,by lia,fun a H1 a0 a1 B1 u1=>?_⟩
  obtain ⟨a,rfl⟩:=Int.eq_ofNat_of_zero_le a0
  walk_at "w"
  refine rd_slX (by lia) (cutN_to l a) ?_
  walk_at "w"
  refine ⟨big10000 (by decide +kernel),?_⟩
  rw[sgL_V]
  walk_at "w"
  refine ⟨b,_,rfl,B1,by decide +kernel,by decide +kernel,fun v H2 v0 v1 B2 u2=>?_⟩
  walk_at "w"
  refine rd_ixC v0 (by rw[sl_length] at v1;exact v1) (by decide) fun c hc=>?_
  have lt:(l.take a).length=a:=by rw[List.length_take];lia
  walk_at "w"
  refine ⟨_,_,rfl,rfl,by rw[sl_length,sl_length,lt];exact big10000 (show a+1<=_ by lia),?_⟩
  rw[sl_app]
  walk_at "w"
  refine ⟨b,2,rfl,B2,by decide,by decide,fun d H3 d0 d1 B3 u3=>?_⟩
  obtain ⟨d,rfl⟩:=Int.eq_ofNat_of_zero_le d0
  walk_at "w"
  refine rd_slX (by lia) (show cutN l (some ((a:Int)+(d:Int))) none=l.drop (a+d) by rw[show (a:Int)+(d:Int)=((a+d:Nat):Int) by lia];exact cutN_from ..) ?_
  have ld:(l.drop (a+d)).length<=l.length - a:=by rw[List.length_drop];lia
  walk_at "w"
  refine ⟨_,_,rfl,rfl,by rw[sl_length,sl_length,List.length_append,lt];exact big10000 (show a+1+_<=_ by lia),?_⟩
  rw[sl_app]
  exact k _ c H3 (by simp) (sgL_bad c hc) (by rw[List.length_append,List.length_append,lt];show a+1+_<=_;lia) B3 ((u1.trans u2).trans u3)
theorem sc__law_refused:FnScope ["_law_reader","_law_text","e"] ["_law_reader","_law_text"] (defScope s__law_refused):=⟨rfl,rfl,rfl,by decide +kernel,rfl,by decide +kernel,by decide +kernel⟩
theorem ok__law_refused (T:Txt K mg Z):FnOk P w K mg base CX0 8 Z.a__law_refused Z.d__law_refused ["_law_reader","_law_text"] (sp_rf3 [Z.a_read_number,Z.a_read_row,Z.a_read_system]):=by
 have G_read_number:=ok_read_number (P:=P) (w:=w) (base:=base) T
 have G_read_row:=ok_read_row (P:=P) (w:=w) (base:=base) T
 have G_read_system:=ok_read_system (P:=P) (w:=w) (base:=base) T
 refine T.F__law_refused.ok sc__law_refused (fun vs H Q E h=>?_) (fun cdv A outer s H vs Q E hr h=>?_)
 ·obtain ⟨k,f,y,rfl,_⟩:=h
  rfl
 ·obtain ⟨k,f,y,rfl,k3,hf,hy,k9⟩:=h
  refine ⟨_,(pss_cons (ps_try rfl rfl (fun _ _ _ hX=>(pss_one (ps_expr (pe_callV (L:=[(Z.a_read_number,(sp_rn3 Z.a_NoText)),(Z.a_read_row,(sp_rr3 K Z.a_NoText)),(Z.a_read_system,(sp_rs3 K Z.a_System Z.a_NoText))]) (by intro p hp;simp only[List.mem_cons,List.not_mem_nil,or_false] at hp;rcases hp with rfl | rfl | rfl;exact ⟨⟨_,_,_,G_read_number,hr.mono (by decide),T.F_read_number.kp ,T.b_read_number⟩⟩;exact ⟨⟨_,_,_,G_read_row,hr.mono (by decide),T.F_read_row.kp ,T.b_read_row⟩⟩;exact ⟨⟨_,_,_,G_read_system,hr.mono (by decide),T.F_read_system.kp ,T.b_read_system⟩⟩) hX (pv 0) (pa_cons (pv 1) pa_nil)))))
   (hb_as (i:=2) rfl rfl T.mg_SumError sc__law_refused.nd rfl rfl (fun _=>(pss_cons (ps_if (pt_val (pe_callB call_isEt (by rfl) T.isinstance PyProof.Rows.boot_isinstance (pa_cons (pv 2) (pa_cons (pe_tup (pa_cons (pe_glob (v:=.ref Z.a_NoFit) rfl T.mg_NoFit rfl) (pa_cons (pe_glob (v:=.ref Z.a_NoName) rfl T.mg_NoName rfl) (pa_cons (pe_glob (v:=.ref Z.a_NoNumber) rfl T.mg_NoNumber rfl) (pa_cons (pe_glob (v:=.ref Z.a_NoThing) rfl T.mg_NoThing rfl) (pa_cons (pe_glob (v:=.ref Z.a_NotSeen) rfl T.mg_NotSeen rfl) (pa_cons (pe_glob (v:=.ref Z.a_NotSteered) rfl T.mg_NotSteered rfl) (pa_cons (pe_glob (v:=.ref Z.a_Taken) rfl T.mg_Taken rfl) (pa_cons (pe_glob (v:=.ref Z.a_TooMany) rfl T.mg_TooMany rfl) (pa_cons (pe_glob (v:=.ref Z.a_Wrong) rfl T.mg_Wrong rfl) pa_nil)))))))))) pa_nil)))) (pss_one (ps_ret pe_bl)) pss_nil)
   (pss_one (ps_ret (pe_and (pe_isEC rfl T.isinstance rfl T.mg_NoText (pv 2)) (pe_one (pe_isEB rfl T.isinstance PyProof.Rows.Boot.«ValueError» T.ValueError (pv 2)))))))) hb_nil))
   (pss_one (ps_ret pe_bl))),?_⟩
  refine rd_start (σ:=[some (.ref f),some y,none]) rfl ?_
  walk_at "w"
  refine rd_try ?_
  walk_at "w"
  rcases (show k=0∨k=1∨k=2 by lia) with rfl | rfl | rfl
  ·cases hf
   refine rd_callV ?_
   walk_at "w"
   refine ⟨_,_,rfl,List.mem_cons_self ..,?_⟩
   walk_at "w"
   rcases hy with od | ⟨l,ws,rfl,R⟩
   ·refine .inl ⟨od,?_⟩
    have s1:=Same.refl H
    refine .inl ⟨T.xm_NoText_SumError,fun ea hea=>?_⟩
    have se:Same H (upd H ea (exO ea (.ref Z.a_NoText) none)):=Same.new hea
    have ge:(upd H ea (exO ea (.ref Z.a_NoText) none)) ea=some (exO ea (.ref Z.a_NoText) none):=upd_same
    generalize upd H ea (exO ea (.ref Z.a_NoText) none)=He at se ge ⊢
    walk_at "w"
    refine rd_newT fun tp Hf sf gf=>?_
    have ge2:=sf _ _ ge
    walk_at "w"
    refine ⟨ea,Z.a_NoText,tp,[Z.a_NoFit,Z.a_NoName,Z.a_NoNumber,Z.a_NoThing,Z.a_NotSeen,Z.a_NotSteered,Z.a_Taken,Z.a_TooMany,Z.a_Wrong],false,rfl,ge2,T.xc_NoText,gf,T.ka_NoText_0,?_⟩
    walk_at "w"
    refine ⟨ea,_,_,rfl,ge2,.inl ⟨T.ki_NoText_NoText,?_⟩⟩
    walk_at "w"
    refine ⟨ea,_,_,rfl,ge2,.inl ⟨T.ki_NoText_ValueError,?_⟩⟩
    exact k9 Hf (s1.trans (se.trans sf))
   ·refine .inr ⟨l,rfl,R.l1 (by decide),fun n vn en r H1 nr s1 h1=>?_,fun z H1 s1=>?_⟩
    ·cases R.no with
     | num z=>exact absurd (z n vn en) (fun q=>q)
    ·refine .inl ⟨T.xm_NoText_SumError,fun ea hea=>?_⟩
     have se:Same H1 (upd H1 ea (exO ea (.ref Z.a_NoText) none)):=Same.new hea
     have ge:(upd H1 ea (exO ea (.ref Z.a_NoText) none)) ea=some (exO ea (.ref Z.a_NoText) none):=upd_same
     generalize upd H1 ea (exO ea (.ref Z.a_NoText) none)=He at se ge ⊢
     walk_at "w"
     refine rd_newT fun tp Hf sf gf=>?_
     have ge2:=sf _ _ ge
     walk_at "w"
     refine ⟨ea,Z.a_NoText,tp,[Z.a_NoFit,Z.a_NoName,Z.a_NoNumber,Z.a_NoThing,Z.a_NotSeen,Z.a_NotSteered,Z.a_Taken,Z.a_TooMany,Z.a_Wrong],false,rfl,ge2,T.xc_NoText,gf,T.ka_NoText_0,?_⟩
     walk_at "w"
     refine ⟨ea,_,_,rfl,ge2,.inl ⟨T.ki_NoText_NoText,?_⟩⟩
     walk_at "w"
     refine ⟨ea,_,_,rfl,ge2,.inl ⟨T.ki_NoText_ValueError,?_⟩⟩
     exact k9 Hf (s1.trans (se.trans sf))
  ·cases hf
   refine rd_callV ?_
   walk_at "w"
   refine ⟨_,_,rfl,List.mem_cons_of_mem _ (List.mem_cons_self ..),?_⟩
   walk_at "w"
   rcases hy with od | ⟨l,ws,rfl,R⟩
   ·refine .inl ⟨od,?_⟩
    have s1:=Same.refl H
    refine .inl ⟨T.xm_NoText_SumError,fun ea hea=>?_⟩
    have se:Same H (upd H ea (exO ea (.ref Z.a_NoText) none)):=Same.new hea
    have ge:(upd H ea (exO ea (.ref Z.a_NoText) none)) ea=some (exO ea (.ref Z.a_NoText) none):=upd_same
    generalize upd H ea (exO ea (.ref Z.a_NoText) none)=He at se ge ⊢
    walk_at "w"
    refine rd_newT fun tp Hf sf gf=>?_
    have ge2:=sf _ _ ge
    walk_at "w"
    refine ⟨ea,Z.a_NoText,tp,[Z.a_NoFit,Z.a_NoName,Z.a_NoNumber,Z.a_NoThing,Z.a_NotSeen,Z.a_NotSteered,Z.a_Taken,Z.a_TooMany,Z.a_Wrong],false,rfl,ge2,T.xc_NoText,gf,T.ka_NoText_0,?_⟩
    walk_at "w"
    refine ⟨ea,_,_,rfl,ge2,.inl ⟨T.ki_NoText_NoText,?_⟩⟩
    walk_at "w"
    refine ⟨ea,_,_,rfl,ge2,.inl ⟨T.ki_NoText_ValueError,?_⟩⟩
    exact k9 Hf (s1.trans (se.trans sf))
   ·refine .inr ⟨l,rfl,R.l1 (by decide),fun ns hn p H1 np s1 h1=>?_,fun z H1 s1=>?_⟩
    ·cases R.no with
     | row z=>exact absurd (z ns hn) (fun q=>q)
    ·refine .inl ⟨T.xm_NoText_SumError,fun ea hea=>?_⟩
     have se:Same H1 (upd H1 ea (exO ea (.ref Z.a_NoText) none)):=Same.new hea
     have ge:(upd H1 ea (exO ea (.ref Z.a_NoText) none)) ea=some (exO ea (.ref Z.a_NoText) none):=upd_same
     generalize upd H1 ea (exO ea (.ref Z.a_NoText) none)=He at se ge ⊢
     walk_at "w"
     refine rd_newT fun tp Hf sf gf=>?_
     have ge2:=sf _ _ ge
     walk_at "w"
     refine ⟨ea,Z.a_NoText,tp,[Z.a_NoFit,Z.a_NoName,Z.a_NoNumber,Z.a_NoThing,Z.a_NotSeen,Z.a_NotSteered,Z.a_Taken,Z.a_TooMany,Z.a_Wrong],false,rfl,ge2,T.xc_NoText,gf,T.ka_NoText_0,?_⟩
     walk_at "w"
     refine ⟨ea,_,_,rfl,ge2,.inl ⟨T.ki_NoText_NoText,?_⟩⟩
     walk_at "w"
     refine ⟨ea,_,_,rfl,ge2,.inl ⟨T.ki_NoText_ValueError,?_⟩⟩
     exact k9 Hf (s1.trans (se.trans sf))
  ·cases hf
   refine rd_callV ?_
   walk_at "w"
   refine ⟨_,_,rfl,List.mem_cons_of_mem _ (List.mem_cons_of_mem _ (List.mem_cons_self ..)),?_⟩
   walk_at "w"
   rcases hy with od | ⟨l,ws,rfl,R⟩
   ·refine .inl ⟨od,?_⟩
    have s1:=Same.refl H
    refine .inl ⟨T.xm_NoText_SumError,fun ea hea=>?_⟩
    have se:Same H (upd H ea (exO ea (.ref Z.a_NoText) none)):=Same.new hea
    have ge:(upd H ea (exO ea (.ref Z.a_NoText) none)) ea=some (exO ea (.ref Z.a_NoText) none):=upd_same
    generalize upd H ea (exO ea (.ref Z.a_NoText) none)=He at se ge ⊢
    walk_at "w"
    refine rd_newT fun tp Hf sf gf=>?_
    have ge2:=sf _ _ ge
    walk_at "w"
    refine ⟨ea,Z.a_NoText,tp,[Z.a_NoFit,Z.a_NoName,Z.a_NoNumber,Z.a_NoThing,Z.a_NotSeen,Z.a_NotSteered,Z.a_Taken,Z.a_TooMany,Z.a_Wrong],false,rfl,ge2,T.xc_NoText,gf,T.ka_NoText_0,?_⟩
    walk_at "w"
    refine ⟨ea,_,_,rfl,ge2,.inl ⟨T.ki_NoText_NoText,?_⟩⟩
    walk_at "w"
    refine ⟨ea,_,_,rfl,ge2,.inl ⟨T.ki_NoText_ValueError,?_⟩⟩
    exact k9 Hf (s1.trans (se.trans sf))
   ·refine .inr ⟨l,ws,rfl,R.l2,R.wl,R.w0,R.w1,R.ew,fun mv pt lk hs x H1 nx s1 h1=>?_,fun z H1 s1=>?_⟩
    ·cases R.no with
     | sys z=>exact absurd (z mv pt lk hs) (fun q=>q)
    ·refine .inl ⟨T.xm_NoText_SumError,fun ea hea=>?_⟩
     have se:Same H1 (upd H1 ea (exO ea (.ref Z.a_NoText) none)):=Same.new hea
     have ge:(upd H1 ea (exO ea (.ref Z.a_NoText) none)) ea=some (exO ea (.ref Z.a_NoText) none):=upd_same
     generalize upd H1 ea (exO ea (.ref Z.a_NoText) none)=He at se ge ⊢
     walk_at "w"
     refine rd_newT fun tp Hf sf gf=>?_
     have ge2:=sf _ _ ge
     walk_at "w"
     refine ⟨ea,Z.a_NoText,tp,[Z.a_NoFit,Z.a_NoName,Z.a_NoNumber,Z.a_NoThing,Z.a_NotSeen,Z.a_NotSteered,Z.a_Taken,Z.a_TooMany,Z.a_Wrong],false,rfl,ge2,T.xc_NoText,gf,T.ka_NoText_0,?_⟩
     walk_at "w"
     refine ⟨ea,_,_,rfl,ge2,.inl ⟨T.ki_NoText_NoText,?_⟩⟩
     walk_at "w"
     refine ⟨ea,_,_,rfl,ge2,.inl ⟨T.ki_NoText_ValueError,?_⟩⟩
     exact k9 Hf (s1.trans (se.trans sf))
theorem sc_law:FnScope ["_law_script","_law_bag_here","_law_parts_here","_law_wide","_law_row_here","_law_one","_law_odd_here","_law_bad","_law_readers","_law_turn","_law_k"] ["_law_script"] (defScope s_law):=⟨rfl,rfl,rfl,by decide +kernel,rfl,by decide +kernel,by decide +kernel⟩
theorem ok_law (T:Txt K mg Z):FnOk P w K mg base CX0 9 Z.a_law Z.d_law ["_law_script"] (sp_law K):=by
 have G__law_bag:=ok__law_bag (P:=P) (w:=w) (base:=base) T
 have G__law_drawn:=ok__law_drawn (P:=P) (w:=w) (base:=base) T
 have G__law_row:=ok__law_row (P:=P) (w:=w) (base:=base) T
 have G__law_take:=ok__law_take (P:=P) (w:=w) (base:=base) T
 have G__law_number:=ok__law_number (P:=P) (w:=w) (base:=base) T
 have G__law_right_ones:=ok__law_right_ones (P:=P) (w:=w) (base:=base) T
 have G__law_odd:=ok__law_odd (P:=P) (w:=w) (base:=base) T
 have G__law_bad_number:=ok__law_bad_number (P:=P) (w:=w) (base:=base) T
 have G__law_bad_row:=ok__law_bad_row (P:=P) (w:=w) (base:=base) T
 have G__law_bad_system:=ok__law_bad_system (P:=P) (w:=w) (base:=base) T
 have G__law_strewn:=ok__law_strewn (P:=P) (w:=w) (base:=base) T
 have G__law_number_text:=ok__law_number_text (P:=P) (w:=w) (base:=base) T
 have G__law_row_text:=ok__law_row_text (P:=P) (w:=w) (base:=base) T
 have G__law_refused:=ok__law_refused (P:=P) (w:=w) (base:=base) T
 have G_read_number:=ok_read_number (P:=P) (w:=w) (base:=base) T
 have G_read_row:=ok_read_row (P:=P) (w:=w) (base:=base) T
 have G_read_system:=ok_read_system (P:=P) (w:=w) (base:=base) T
 refine T.F_law.ok sc_law (fun vs H Q E h=>?_) (fun cdv A outer s H vs Q E hr h=>?_)
 ·obtain ⟨a,ns,rfl,_⟩:=h
  rfl
 ·obtain ⟨a,ns,rfl,hS,hlen,k⟩:=h
  refine ⟨_,(pss_cons (ps_set (i:=1) sc_law.nd rfl (Or.inl rfl) (pe_call G__law_bag (hr.mono (by decide)) rfl T.mg__law_bag T.F__law_bag.kp T.b__law_bag .nil pass0 (pa_cons (pv 0) pa_nil)))
   (pss_cons (ps_asg (pe_call G__law_drawn (hr.mono (by decide)) rfl T.mg__law_drawn T.F__law_drawn.kp T.b__law_drawn .nil pass0 (pa_cons (pv 1) pa_nil)) (pg_tup rfl (pgs_cons (pg_name (i:=2) sc_law.nd rfl (Or.inl rfl) (Or.inl rfl)) (pgs_cons (pg_name (i:=3) sc_law.nd rfl (Or.inl rfl) (Or.inl rfl)) pgs_nil))))
   (pss_cons (ps_set (i:=4) sc_law.nd rfl (Or.inl rfl) (pe_call G__law_row (hr.mono (by decide)) rfl T.mg__law_row T.F__law_row.kp T.b__law_row .nil pass0 (pa_cons (pv 1) (pa_cons (pe_call G__law_take (hr.mono (by decide)) rfl T.mg__law_take T.F__law_take.kp T.b__law_take .nil pass0 (pa_cons (pv 1) (pa_cons pe_int pa_nil))) (pa_cons pe_int pa_nil)))))
   (pss_cons (ps_set (i:=5) sc_law.nd rfl (Or.inl rfl) (pe_call G__law_number (hr.mono (by decide)) rfl T.mg__law_number T.F__law_number.kp T.b__law_number .nil pass0 (pa_cons (pv 1) (pa_cons pe_int pa_nil))))
   (pss_cons (ps_if (pt_not (pt_val (pe_call G__law_right_ones (hr.mono (by decide)) rfl T.mg__law_right_ones T.F__law_right_ones.kp T.b__law_right_ones .nil pass0 (pa_cons (pv 5) (pa_cons (pv 4) (pa_cons (pv 2) pa_nil)))))) (pss_one (ps_ret pe_bl)) pss_nil)
   (pss_cons (ps_set (i:=6) sc_law.nd rfl (Or.inl rfl) (pe_call G__law_odd (hr.mono (by decide)) rfl T.mg__law_odd T.F__law_odd.kp T.b__law_odd .nil pass0 (pa_cons (pv 1) pa_nil)))
   (pss_cons (ps_set (i:=7) sc_law.nd rfl (Or.inl rfl) (pe_lst (pa_cons (pe_call G__law_bad_number (hr.mono (by decide)) rfl T.mg__law_bad_number T.F__law_bad_number.kp T.b__law_bad_number .nil pass0 (pa_cons (pv 1) pa_nil)) (pa_cons (pe_call G__law_bad_row (hr.mono (by decide)) rfl T.mg__law_bad_row T.F__law_bad_row.kp T.b__law_bad_row .nil pass0 (pa_cons (pv 1) (pa_cons (pv 4) pa_nil))) (pa_cons (pe_call G__law_bad_system (hr.mono (by decide)) rfl T.mg__law_bad_system T.F__law_bad_system.kp T.b__law_bad_system .nil pass0 (pa_cons (pv 1) (pa_cons (pv 2) pa_nil))) pa_nil)))))
   (pss_consM (ps_if (pt_cmpR op_eq (pe_call G__law_take (hr.mono (by decide)) rfl T.mg__law_take T.F__law_take.kp T.b__law_take .nil pass0 (pa_cons (pv 1) (pa_cons pe_int pa_nil))) pe_int (nomark _)) (pss_one (ps_set (i:=7) sc_law.nd rfl (Or.inl rfl) (pe_lst (pa_cons (pe_call G__law_strewn (hr.mono (by decide)) rfl T.mg__law_strewn T.F__law_strewn.kp T.b__law_strewn .nil pass0 (pa_cons (pv 1) (pa_cons (pe_call G__law_number_text (hr.mono (by decide)) rfl T.mg__law_number_text T.F__law_number_text.kp T.b__law_number_text .nil pass0 (pa_cons (pv 5) pa_nil)) pa_nil))) (pa_cons (pe_call G__law_strewn (hr.mono (by decide)) rfl T.mg__law_strewn T.F__law_strewn.kp T.b__law_strewn .nil pass0 (pa_cons (pv 1) (pa_cons (pe_call G__law_row_text (hr.mono (by decide)) rfl T.mg__law_row_text T.F__law_row_text.kp T.b__law_row_text .nil pass0 (pa_cons (pv 4) pa_nil)) pa_nil))) (pa_cons (pe_ix ix_list (pv 7) pe_int (by intro _ _;rfl)) pa_nil)))))) pss_nil)
   (pss_cons (ps_set (i:=8) sc_law.nd rfl (Or.inl rfl) (pe_lst (pa_cons (pe_glob (v:=.ref Z.a_read_number) rfl T.mg_read_number rfl) (pa_cons (pe_glob (v:=.ref Z.a_read_row) rfl T.mg_read_row rfl) (pa_cons (pe_glob (v:=.ref Z.a_read_system) rfl T.mg_read_system rfl) pa_nil)))))
   (pss_cons (ps_for PassesOwn.never rfl (pi_range1 rfl T.range (pa_cons pe_int pa_nil)) (pg_name (i:=9) sc_law.nd rfl (Or.inl rfl) (Or.inl rfl))
    (pss_one (ps_for PassesOwn.never rfl (pi_range1 rfl T.range (pa_cons pe_int pa_nil)) (pg_name (i:=10) sc_law.nd rfl (Or.inl rfl) (Or.inl rfl))
    (pss_one (ps_if (PW.pt (pw_or (pt_not (pt_val (pe_call G__law_refused (hr.mono (by decide)) rfl T.mg__law_refused T.F__law_refused.kp T.b__law_refused .nil pass0 (pa_cons (pe_ix ix_list (pv 8) (pv 10) (by intro _ _;rfl)) (pa_cons (pv 6) pa_nil))))) (pw_or1 (pt_not (pt_val (pe_call G__law_refused (hr.mono (by decide)) rfl T.mg__law_refused T.F__law_refused.kp T.b__law_refused .nil pass0 (pa_cons (pe_ix ix_list (pv 8) (pv 10) (by intro _ _;rfl)) (pa_cons (pe_ix ix_list (pv 7) (pv 10) (by intro _ _;rfl)) pa_nil)))))))) (pss_one (ps_ret pe_bl)) pss_nil)))))
   (pss_one (ps_ret (pe_call G__law_right_ones (hr.mono (by decide)) rfl T.mg__law_right_ones T.F__law_right_ones.kp T.b__law_right_ones .nil pass0 (pa_cons (pv 5) (pa_cons (pv 4) (pa_cons (pv 2) pa_nil)))))))))))))))),?_⟩
  refine rd_start (σ:=[some (.ref a),none,none,none,none,none,none,none,none,none,none]) rfl ?_
  walk_at "w"
  refine ⟨a,ns,rfl,hS,hlen,fun b H0 hb0 B0 s0=>?_⟩
  walk_at "w"
  refine ⟨b,rfl,B0,fun t1 r1 w1 mv pt lk H1 g1 PQ D F n5 w0 w2 B1 u1=>?_⟩
  have wl:=sf_word D F
  obtain ⟨o1,o2,o3⟩:=F.ok
  walk_at "w"
  refine ⟨b,6,rfl,B1,by decide,by decide,fun c H2 c0 c1 B2 u2=>?_⟩
  obtain ⟨c,rfl⟩:=Int.eq_ofNat_of_zero_le c0
  walk_at "w"
  refine ⟨b,c,9,rfl,B2,by lia,by decide,by decide,fun r2 xs H3 n3 R3 lx dx B3 u3=>?_⟩
  have nb:r2≠b:=fun z=>B2.at (by rw[← z];exact n3)
  walk_at "w"
  refine ⟨b,9,rfl,B3,by decide,by decide,fun r3 x H4 hx N4 B4 u4=>?_⟩
  have P4:=PQ.upto ((u2.trans u3).trans u4) B1 B0.at
  have R4:=rowk_upto (rowq_k R3) u4 B3 nb
  obtain ⟨v4,k4,l4⟩:=dr_all hx
  have hm:∀n∈xs.map nm,Vn n∧NumOk n∧(numT n).length<=60:=fun n hn=>by
   obtain ⟨y,my,rfl⟩:=List.mem_map.mp hn
   exact dr_all (dx y my)
  have lm:(xs.map nm).length<=5:=by rw[List.length_map];lia
  generalize xs.map nm=ms at R4 hm lm
  walk_at "w"
  refine ⟨_,r2,r1,nm x,ms,H0,mv,pt,lk,rfl,N4,v4,k4,l4,R4,lm,hm,P4,D,o1,o2,o3,wl,fun H5 s5=>?_⟩
  walk_at "w"
  refine ⟨b,rfl,B4.same s5,fun od H6 OD ob B6 u6=>?_⟩
  walk_at "w"
  refine ⟨b,rfl,B6,fun wb H7 hw B7 u7=>?_⟩
  walk_at "w"
  have B5:=B4.same s5
  have R7:=rowk_upto (R4.same s5) (u6.trans u7) B5 nb
  refine ⟨b,r2,ms,rfl,B7,R7,lm,fun n hn=>(hm n hn).2,fun lr H8 lr1 NR B8 u8=>?_⟩
  have P8:=(P4.same s5).upto ((u6.trans u7).trans u8) B5 B0.at
  walk_at "w"
  refine ⟨b,r1,H0,mv,pt,lk,rfl,B8,P8,D,o1,o2,o3,wl,fun ls H9 RS B9 u9=>?_⟩
  walk_at "w"
  refine rd_newL fun q HA sA nA gA=>?_
  have BA:=B9.same sA
  have uA:=(((u6.trans u7).trans u8).trans u9).trans sA.upto
  have qb:q≠b:=fun z=>B9.at (by rw[← z];exact nA)
  have BW:=bad_of hw
  have RN:∃ws,Rf (joinL 32 wb) ws 0:=rf_num (Nat.le_trans (joinL_le 32 10 _ BW.le) (Nat.le_trans (Nat.mul_le_mul_right _ BW.l2) (by decide))) (no_num BW.no)
  have RR:=rf_row lr1 NR
  walk_at "w"
  refine ⟨fun σ' H'=>Bag H' b∧Upto b HA H'∧∃q' l0 l1,σ'=[some (.ref a),some (.ref b),some (.ref r1),some (.int w1),some (.ref r2),some (.ref r3),some od,some (.ref q'),none,none,none]∧H' q'=some (.lst [.str (sl l0),.str (sl l1),.str (sl ls)])∧q'≠b∧(∃ws,Rf l0 ws 0)∧(∃ws,Rf l1 ws 1),?_,?_⟩
  ·walk_at "w"
   refine ⟨b,3,rfl,BA,by decide,by decide,fun d HB d0 d1 BB uB=>?_⟩
   walk_at "w"
   refine ite2 (fun h0=>?_) (fun h0=>?_)
   rotate_left
   ·walk_at "w"
    exact ⟨BB,uB,q,_,_,rfl,uB.other qb gA,qb,RN,RR⟩
   walk_at "w"
   have N5:=N4.same s5
   have NB:=numr_upto N5 (uA.trans uB) (B4.same s5)
   have RB:=rowk_upto (R4.same s5) (uA.trans uB) (B4.same s5) nb
   refine ⟨_,nm x,rfl,NB,k4,?_⟩
   walk_at "w"
   refine ⟨b,_,rfl,BB,by lia,fun l0 c0 HC m0 e0 j0 BC uC=>?_⟩
   walk_at "w"
   have RC:=rowk_upto RB uC BB nb
   refine ⟨r2,ms,rfl,RC,by lia,fun n hn=>(hm n hn).2.1,fun HD sD=>?_⟩
   have jl:(joinL 32 (ms.map numT)).length<=305:=Nat.le_trans (joinL_le 32 60 _ fun w hw=>by obtain ⟨n,mn,rfl⟩:=List.mem_map.mp hw;exact (hm n mn).2.2) (by rw[List.length_map];lia)
   walk_at "w"
   refine ⟨b,_,rfl,BC.same sD,by lia,fun l1 c1 HE m1 e1 j1 BE uE=>?_⟩
   have gE:=uE.other qb (sD _ _ (uC.other qb (uB.other qb gA)))
   walk_at "w"
   refine rd_newL fun q' HF sF nF gF=>?_
   walk_at "w"
   exact ⟨BE.same sF,((((uB.trans uC).trans sD.upto).trans uE).trans sF.upto),q',_,_,rfl,gF,(fun z=>BE.at (by rw[← z];exact nF)),rf_num (by lia) (sign_num m0 e0),rf_row (by lia) (sign_row m1 e1)⟩
  rintro σ' HB ⟨BB,uB,q',l0,l1,rfl,gq,nq,⟨v0,F0⟩,⟨v1,F1⟩⟩
  walk_at "w"
  refine rd_newL fun rl HC sC nC gC=>?_
  have BC:=BB.same sC
  have gqC:=sC _ _ gq
  have ODC:=((OD.upto (((u7.trans u8).trans u9).trans sA.upto) ob).upto uB ob).same sC
  obtain ⟨ws2,F2⟩:=RS
  walk_at "w"
  refine ⟨by lia,by lia,?_⟩
  refine for_rangeN (n:=2) (fun i σ' H'=>Same HC H'∧∃y z,σ'=[some (.ref a),some (.ref b),some (.ref r1),some (.int w1),some (.ref r2),some (.ref r3),some od,some (.ref q'),some (.ref rl),y,z]) ⟨Same.refl _,_,_,rfl⟩ ?_ ?_
  rotate_left
  ·rintro σ' HD ⟨sD,y,z,rfl⟩
   walk_at "w"
   have s5D:=uA.trans (uB.trans (sC.trans sD).upto)
   refine ⟨_,r2,r1,nm x,ms,H0,mv,pt,lk,rfl,numr_upto (N4.same s5) s5D (B4.same s5),v4,k4,l4,rowk_upto (R4.same s5) s5D (B4.same s5) nb,lm,hm,(P4.same s5).upto s5D (B4.same s5) B0.at,D,o1,o2,o3,wl,fun HE sE=>?_⟩
   walk_at "w"
   exact k _
  rintro i σ' HD hi ⟨sD,y,z,rfl⟩
  walk_at "w"
  refine ⟨by lia,by lia,?_⟩
  refine for_rangeN (n:=3) (fun j σ' H'=>Same HC H'∧∃z,σ'=[some (.ref a),some (.ref b),some (.ref r1),some (.int w1),some (.ref r2),some (.ref r3),some od,some (.ref q'),some (.ref rl),some (.int (i:Nat)),z]) ⟨sD,_,rfl⟩ ?_ ?_
  rotate_left
  ·rintro σ' HE ⟨sE,z,rfl⟩
   walk_at "w"
   exact ⟨sE,_,_,rfl⟩
  rintro j σ' HE hj ⟨sE,z,rfl⟩
  obtain ⟨f,hf⟩:∃f,[Z.a_read_number,Z.a_read_row,Z.a_read_system][j]?=some f:=⟨_,List.getElem?_eq_getElem hj⟩
  have hfv:[V.ref Z.a_read_number,V.ref Z.a_read_row,V.ref Z.a_read_system][j]?=some (.ref f):=by
   have:=congrArg (Option.map V.ref) hf
   rw[← List.getElem?_map] at this
   exact this
  obtain ⟨lb,wsb,hb,Fb⟩:∃lb wsb,[V.str (sl l0),V.str (sl l1),V.str (sl ls)][j]?=some (.str (sl lb))∧Rf lb wsb j:=by
   rcases (show j=0∨j=1∨j=2 by lia) with rfl | rfl | rfl
   ·exact ⟨_,_,rfl,F0⟩
   ·exact ⟨_,_,rfl,F1⟩
   ·exact ⟨_,_,rfl,F2⟩
  walk_at "w"
  refine rd_ixL (SqL.of (sE _ _ gC)) (atI_nat hfv) ?_
  walk_at "w"
  refine ⟨j,f,od,rfl,hj,hf,.inl (ODC.same sE),fun HF sF=>?_⟩
  walk_at "w"
  refine rd_ixL (SqL.of (sF _ _ (sE _ _ gC))) (atI_nat hfv) ?_
  walk_at "w"
  refine rd_ixL (SqL.of (sF _ _ (sE _ _ gqC))) (atI_nat hb) ?_
  walk_at "w"
  refine ⟨j,f,_,rfl,hj,hf,.inr ⟨lb,wsb,rfl,Fb⟩,fun HG sG=>?_⟩
  walk_at "w"
  exact ⟨(sE.trans sF).trans sG,_,rfl⟩
  
end
theorem ln1 {P:List Value->Prop} (h:∀x0,P [x0]):∀us:List Value,us.length=1->P us
 | [x0],_=>h x0
theorem ln2 {P:List Value->Prop} (h:∀x0 x1,P [x0,x1]):∀us:List Value,us.length=2->P us
 | [x0,x1],_=>h x0 x1
theorem ln3 {P:List Value->Prop} (h:∀x0 x1 x2,P [x0,x1,x2]):∀us:List Value,us.length=3->P us
 | [x0,x1,x2],_=>h x0 x1 x2
theorem ln4 {P:List Value->Prop} (h:∀x0 x1 x2 x3,P [x0,x1,x2,x3]):∀us:List Value,us.length=4->P us
 | [x0,x1,x2,x3],_=>h x0 x1 x2 x3
theorem ln5 {P:List Value->Prop} (h:∀x0 x1 x2 x3 x4,P [x0,x1,x2,x3,x4]):∀us:List Value,us.length=5->P us
 | [x0,x1,x2,x3,x4],_=>h x0 x1 x2 x3 x4
theorem all_mk {l:PySem.W.OpenLaw} {w:World} {K:PySem.W.Frag} {h:Heap} {mg:Str->Option Value} {fa:Addr} (X:K.In h) (G:h.Ns mainGlobals mg) (hfa:mg "law"=some (.ref fa))
  {C:Addr} (aC:PySem.W.nsIn K mainGlobals "System"=some (some (.ref C)))
  {f0:Addr} {od0 an0:Option Addr} {sl0:Array (Option Value)} {oc0 kV0 dc0 pm0 cd0 ct0:Value}
  (a0:PySem.W.nsIn K mainGlobals "_law_bag"=some (some (.ref f0))) (l0:K.lookup f0=some ⟨oc0,od0,.func (PySem.W.fnOf "_law_bag" "_law_bag" (defArgs s__law_bag) (defBody s__law_bag) (defScope s__law_bag) .none kV0 dc0 pm0 an0 cd0 ct0),sl0⟩) (c0:PySem.W.codeIn K cd0 "_law_bag"=true) (k0:PySem.W.keepIn K (.ref f0)=true)
  {f1:Addr} {od1 an1:Option Addr} {sl1:Array (Option Value)} {oc1 kV1 dc1 pm1 cd1 ct1:Value}
  (a1:PySem.W.nsIn K mainGlobals "_law_take"=some (some (.ref f1))) (l1:K.lookup f1=some ⟨oc1,od1,.func (PySem.W.fnOf "_law_take" "_law_take" (defArgs s__law_take) (defBody s__law_take) (defScope s__law_take) .none kV1 dc1 pm1 an1 cd1 ct1),sl1⟩) (c1:PySem.W.codeIn K cd1 "_law_take"=true) (k1:PySem.W.keepIn K (.ref f1)=true)
  {f2:Addr} {od2 an2:Option Addr} {sl2:Array (Option Value)} {oc2 kV2 dc2 pm2 cd2 ct2:Value}
  (a2:PySem.W.nsIn K mainGlobals "_law_sizes"=some (some (.ref f2))) (l2:K.lookup f2=some ⟨oc2,od2,.func (PySem.W.fnOf "_law_sizes" "_law_sizes" (defArgs s__law_sizes) (defBody s__law_sizes) (defScope s__law_sizes) .none kV2 dc2 pm2 an2 cd2 ct2),sl2⟩) (c2:PySem.W.codeIn K cd2 "_law_sizes"=true) (k2:PySem.W.keepIn K (.ref f2)=true)
  {f3:Addr} {od3 an3:Option Addr} {sl3:Array (Option Value)} {oc3 kV3 dc3 pm3 cd3 ct3:Value}
  (a3:PySem.W.nsIn K mainGlobals "_law_low"=some (some (.ref f3))) (l3:K.lookup f3=some ⟨oc3,od3,.func (PySem.W.fnOf "_law_low" "_law_low" (defArgs s__law_low) (defBody s__law_low) (defScope s__law_low) .none kV3 dc3 pm3 an3 cd3 ct3),sl3⟩) (c3:PySem.W.codeIn K cd3 "_law_low"=true) (k3:PySem.W.keepIn K (.ref f3)=true)
  {f4:Addr} {od4 an4:Option Addr} {sl4:Array (Option Value)} {oc4 kV4 dc4 pm4 cd4 ct4:Value}
  (a4:PySem.W.nsIn K mainGlobals "_law_number"=some (some (.ref f4))) (l4:K.lookup f4=some ⟨oc4,od4,.func (PySem.W.fnOf "_law_number" "_law_number" (defArgs s__law_number) (defBody s__law_number) (defScope s__law_number) .none kV4 dc4 pm4 an4 cd4 ct4),sl4⟩) (c4:PySem.W.codeIn K cd4 "_law_number"=true) (k4:PySem.W.keepIn K (.ref f4)=true)
  {f5:Addr} {od5 an5:Option Addr} {sl5:Array (Option Value)} {oc5 kV5 dc5 pm5 cd5 ct5:Value}
  (a5:PySem.W.nsIn K mainGlobals "_law_row"=some (some (.ref f5))) (l5:K.lookup f5=some ⟨oc5,od5,.func (PySem.W.fnOf "_law_row" "_law_row" (defArgs s__law_row) (defBody s__law_row) (defScope s__law_row) .none kV5 dc5 pm5 an5 cd5 ct5),sl5⟩) (c5:PySem.W.codeIn K cd5 "_law_row"=true) (k5:PySem.W.keepIn K (.ref f5)=true)
  {f6:Addr} {od6 an6:Option Addr} {sl6:Array (Option Value)} {oc6 kV6 dc6 pm6 cd6 ct6:Value}
  (a6:PySem.W.nsIn K mainGlobals "_law_move"=some (some (.ref f6))) (l6:K.lookup f6=some ⟨oc6,od6,.func (PySem.W.fnOf "_law_move" "_law_move" (defArgs s__law_move) (defBody s__law_move) (defScope s__law_move) .none kV6 dc6 pm6 an6 cd6 ct6),sl6⟩) (c6:PySem.W.codeIn K cd6 "_law_move"=true) (k6:PySem.W.keepIn K (.ref f6)=true)
  {f7:Addr} {od7 an7:Option Addr} {sl7:Array (Option Value)} {oc7 kV7 dc7 pm7 cd7 ct7:Value}
  (a7:PySem.W.nsIn K mainGlobals "_law_sum"=some (some (.ref f7))) (l7:K.lookup f7=some ⟨oc7,od7,.func (PySem.W.fnOf "_law_sum" "_law_sum" (defArgs s__law_sum) (defBody s__law_sum) (defScope s__law_sum) .none kV7 dc7 pm7 an7 cd7 ct7),sl7⟩) (c7:PySem.W.codeIn K cd7 "_law_sum"=true) (k7:PySem.W.keepIn K (.ref f7)=true)
  {f8:Addr} {od8 an8:Option Addr} {sl8:Array (Option Value)} {oc8 kV8 dc8 pm8 cd8 ct8:Value}
  (a8:PySem.W.nsIn K mainGlobals "_law_plus"=some (some (.ref f8))) (l8:K.lookup f8=some ⟨oc8,od8,.func (PySem.W.fnOf "_law_plus" "_law_plus" (defArgs s__law_plus) (defBody s__law_plus) (defScope s__law_plus) .none kV8 dc8 pm8 an8 cd8 ct8),sl8⟩) (c8:PySem.W.codeIn K cd8 "_law_plus"=true) (k8:PySem.W.keepIn K (.ref f8)=true)
  {f9:Addr} {od9 an9:Option Addr} {sl9:Array (Option Value)} {oc9 kV9 dc9 pm9 cd9 ct9:Value}
  (a9:PySem.W.nsIn K mainGlobals "_law_prod"=some (some (.ref f9))) (l9:K.lookup f9=some ⟨oc9,od9,.func (PySem.W.fnOf "_law_prod" "_law_prod" (defArgs s__law_prod) (defBody s__law_prod) (defScope s__law_prod) .none kV9 dc9 pm9 an9 cd9 ct9),sl9⟩) (c9:PySem.W.codeIn K cd9 "_law_prod"=true) (k9:PySem.W.keepIn K (.ref f9)=true)
  {f10:Addr} {od10 an10:Option Addr} {sl10:Array (Option Value)} {oc10 kV10 dc10 pm10 cd10 ct10:Value}
  (a10:PySem.W.nsIn K mainGlobals "_law_by"=some (some (.ref f10))) (l10:K.lookup f10=some ⟨oc10,od10,.func (PySem.W.fnOf "_law_by" "_law_by" (defArgs s__law_by) (defBody s__law_by) (defScope s__law_by) .none kV10 dc10 pm10 an10 cd10 ct10),sl10⟩) (c10:PySem.W.codeIn K cd10 "_law_by"=true) (k10:PySem.W.keepIn K (.ref f10)=true)
  {f11:Addr} {od11 an11:Option Addr} {sl11:Array (Option Value)} {oc11 kV11 dc11 pm11 cd11 ct11:Value}
  (a11:PySem.W.nsIn K mainGlobals "_law_mixed"=some (some (.ref f11))) (l11:K.lookup f11=some ⟨oc11,od11,.func (PySem.W.fnOf "_law_mixed" "_law_mixed" (defArgs s__law_mixed) (defBody s__law_mixed) (defScope s__law_mixed) .none kV11 dc11 pm11 an11 cd11 ct11),sl11⟩) (c11:PySem.W.codeIn K cd11 "_law_mixed"=true) (k11:PySem.W.keepIn K (.ref f11)=true)
  {f12:Addr} {od12 an12:Option Addr} {sl12:Array (Option Value)} {oc12 kV12 dc12 pm12 cd12 ct12:Value}
  (a12:PySem.W.nsIn K mainGlobals "_law_parts"=some (some (.ref f12))) (l12:K.lookup f12=some ⟨oc12,od12,.func (PySem.W.fnOf "_law_parts" "_law_parts" (defArgs s__law_parts) (defBody s__law_parts) (defScope s__law_parts) .none kV12 dc12 pm12 an12 cd12 ct12),sl12⟩) (c12:PySem.W.codeIn K cd12 "_law_parts"=true) (k12:PySem.W.keepIn K (.ref f12)=true)
  {f13:Addr} {od13 an13:Option Addr} {sl13:Array (Option Value)} {oc13 kV13 dc13 pm13 cd13 ct13:Value}
  (a13:PySem.W.nsIn K mainGlobals "_law_drawn"=some (some (.ref f13))) (l13:K.lookup f13=some ⟨oc13,od13,.func (PySem.W.fnOf "_law_drawn" "_law_drawn" (defArgs s__law_drawn) (defBody s__law_drawn) (defScope s__law_drawn) .none kV13 dc13 pm13 an13 cd13 ct13),sl13⟩) (c13:PySem.W.codeIn K cd13 "_law_drawn"=true) (k13:PySem.W.keepIn K (.ref f13)=true)
  {f14:Addr} {od14 an14:Option Addr} {sl14:Array (Option Value)} {oc14 kV14 dc14 pm14 cd14 ct14:Value}
  (a14:PySem.W.nsIn K mainGlobals "read_whole"=some (some (.ref f14))) (l14:K.lookup f14=some ⟨oc14,od14,.func (PySem.W.fnOf "read_whole" "read_whole" (defArgs s_read_whole) (defBody s_read_whole) (defScope s_read_whole) .none kV14 dc14 pm14 an14 cd14 ct14),sl14⟩) (c14:PySem.W.codeIn K cd14 "read_whole"=true) (k14:PySem.W.keepIn K (.ref f14)=true)
  {f15:Addr} {od15 an15:Option Addr} {sl15:Array (Option Value)} {oc15 kV15 dc15 pm15 cd15 ct15:Value}
  (a15:PySem.W.nsIn K mainGlobals "read_top"=some (some (.ref f15))) (l15:K.lookup f15=some ⟨oc15,od15,.func (PySem.W.fnOf "read_top" "read_top" (defArgs s_read_top) (defBody s_read_top) (defScope s_read_top) .none kV15 dc15 pm15 an15 cd15 ct15),sl15⟩) (c15:PySem.W.codeIn K cd15 "read_top"=true) (k15:PySem.W.keepIn K (.ref f15)=true)
  {f16:Addr} {od16 an16:Option Addr} {sl16:Array (Option Value)} {oc16 kV16 dc16 pm16 cd16 ct16:Value}
  (a16:PySem.W.nsIn K mainGlobals "common_divisor"=some (some (.ref f16))) (l16:K.lookup f16=some ⟨oc16,od16,.func (PySem.W.fnOf "common_divisor" "common_divisor" (defArgs s_common_divisor) (defBody s_common_divisor) (defScope s_common_divisor) .none kV16 dc16 pm16 an16 cd16 ct16),sl16⟩) (c16:PySem.W.codeIn K cd16 "common_divisor"=true) (k16:PySem.W.keepIn K (.ref f16)=true)
  {f17:Addr} {od17 an17:Option Addr} {sl17:Array (Option Value)} {oc17 kV17 dc17 pm17 cd17 ct17:Value}
  (a17:PySem.W.nsIn K mainGlobals "read_number"=some (some (.ref f17))) (l17:K.lookup f17=some ⟨oc17,od17,.func (PySem.W.fnOf "read_number" "read_number" (defArgs s_read_number) (defBody s_read_number) (defScope s_read_number) .none kV17 dc17 pm17 an17 cd17 ct17),sl17⟩) (c17:PySem.W.codeIn K cd17 "read_number"=true) (k17:PySem.W.keepIn K (.ref f17)=true)
  {f18:Addr} {od18 an18:Option Addr} {sl18:Array (Option Value)} {oc18 kV18 dc18 pm18 cd18 ct18:Value}
  (a18:PySem.W.nsIn K mainGlobals "_law_number_text"=some (some (.ref f18))) (l18:K.lookup f18=some ⟨oc18,od18,.func (PySem.W.fnOf "_law_number_text" "_law_number_text" (defArgs s__law_number_text) (defBody s__law_number_text) (defScope s__law_number_text) .none kV18 dc18 pm18 an18 cd18 ct18),sl18⟩) (c18:PySem.W.codeIn K cd18 "_law_number_text"=true) (k18:PySem.W.keepIn K (.ref f18)=true)
  {f19:Addr} {od19 an19:Option Addr} {sl19:Array (Option Value)} {oc19 kV19 dc19 pm19 cd19 ct19:Value}
  (a19:PySem.W.nsIn K mainGlobals "words_in"=some (some (.ref f19))) (l19:K.lookup f19=some ⟨oc19,od19,.func (PySem.W.fnOf "words_in" "words_in" (defArgs s_words_in) (defBody s_words_in) (defScope s_words_in) .none kV19 dc19 pm19 an19 cd19 ct19),sl19⟩) (c19:PySem.W.codeIn K cd19 "words_in"=true) (k19:PySem.W.keepIn K (.ref f19)=true)
  {f20:Addr} {od20 an20:Option Addr} {sl20:Array (Option Value)} {oc20 kV20 dc20 pm20 cd20 ct20:Value}
  (a20:PySem.W.nsIn K mainGlobals "read_row"=some (some (.ref f20))) (l20:K.lookup f20=some ⟨oc20,od20,.func (PySem.W.fnOf "read_row" "read_row" (defArgs s_read_row) (defBody s_read_row) (defScope s_read_row) .none kV20 dc20 pm20 an20 cd20 ct20),sl20⟩) (c20:PySem.W.codeIn K cd20 "read_row"=true) (k20:PySem.W.keepIn K (.ref f20)=true)
  {f21:Addr} {od21 an21:Option Addr} {sl21:Array (Option Value)} {oc21 kV21 dc21 pm21 cd21 ct21:Value}
  (a21:PySem.W.nsIn K mainGlobals "_law_row_text"=some (some (.ref f21))) (l21:K.lookup f21=some ⟨oc21,od21,.func (PySem.W.fnOf "_law_row_text" "_law_row_text" (defArgs s__law_row_text) (defBody s__law_row_text) (defScope s__law_row_text) .none kV21 dc21 pm21 an21 cd21 ct21),sl21⟩) (c21:PySem.W.codeIn K cd21 "_law_row_text"=true) (k21:PySem.W.keepIn K (.ref f21)=true)
  {f22:Addr} {od22 an22:Option Addr} {sl22:Array (Option Value)} {oc22 kV22 dc22 pm22 cd22 ct22:Value}
  (a22:PySem.W.nsIn K mainGlobals "_law_is_number"=some (some (.ref f22))) (l22:K.lookup f22=some ⟨oc22,od22,.func (PySem.W.fnOf "_law_is_number" "_law_is_number" (defArgs s__law_is_number) (defBody s__law_is_number) (defScope s__law_is_number) .none kV22 dc22 pm22 an22 cd22 ct22),sl22⟩) (c22:PySem.W.codeIn K cd22 "_law_is_number"=true) (k22:PySem.W.keepIn K (.ref f22)=true)
  {f23:Addr} {od23 an23:Option Addr} {sl23:Array (Option Value)} {oc23 kV23 dc23 pm23 cd23 ct23:Value}
  (a23:PySem.W.nsIn K mainGlobals "_law_is_row"=some (some (.ref f23))) (l23:K.lookup f23=some ⟨oc23,od23,.func (PySem.W.fnOf "_law_is_row" "_law_is_row" (defArgs s__law_is_row) (defBody s__law_is_row) (defScope s__law_is_row) .none kV23 dc23 pm23 an23 cd23 ct23),sl23⟩) (c23:PySem.W.codeIn K cd23 "_law_is_row"=true) (k23:PySem.W.keepIn K (.ref f23)=true)
  {f24:Addr} {od24 an24:Option Addr} {sl24:Array (Option Value)} {oc24 kV24 dc24 pm24 cd24 ct24:Value}
  (a24:PySem.W.nsIn K mainGlobals "_law_is_grid"=some (some (.ref f24))) (l24:K.lookup f24=some ⟨oc24,od24,.func (PySem.W.fnOf "_law_is_grid" "_law_is_grid" (defArgs s__law_is_grid) (defBody s__law_is_grid) (defScope s__law_is_grid) .none kV24 dc24 pm24 an24 cd24 ct24),sl24⟩) (c24:PySem.W.codeIn K cd24 "_law_is_grid"=true) (k24:PySem.W.keepIn K (.ref f24)=true)
  {f25:Addr} {od25 an25:Option Addr} {sl25:Array (Option Value)} {oc25 kV25 dc25 pm25 cd25 ct25:Value}
  (a25:PySem.W.nsIn K mainGlobals "_law_fields"=some (some (.ref f25))) (l25:K.lookup f25=some ⟨oc25,od25,.func (PySem.W.fnOf "_law_fields" "_law_fields" (defArgs s__law_fields) (defBody s__law_fields) (defScope s__law_fields) .none kV25 dc25 pm25 an25 cd25 ct25),sl25⟩) (c25:PySem.W.codeIn K cd25 "_law_fields"=true) (k25:PySem.W.keepIn K (.ref f25)=true)
  {f26:Addr} {od26 an26:Option Addr} {sl26:Array (Option Value)} {oc26 kV26 dc26 pm26 cd26 ct26:Value}
  (a26:PySem.W.nsIn K mainGlobals "read_size"=some (some (.ref f26))) (l26:K.lookup f26=some ⟨oc26,od26,.func (PySem.W.fnOf "read_size" "read_size" (defArgs s_read_size) (defBody s_read_size) (defScope s_read_size) .none kV26 dc26 pm26 an26 cd26 ct26),sl26⟩) (c26:PySem.W.codeIn K cd26 "read_size"=true) (k26:PySem.W.keepIn K (.ref f26)=true)
  {f27:Addr} {od27 an27:Option Addr} {sl27:Array (Option Value)} {oc27 kV27 dc27 pm27 cd27 ct27:Value}
  (a27:PySem.W.nsIn K mainGlobals "cut"=some (some (.ref f27))) (l27:K.lookup f27=some ⟨oc27,od27,.func (PySem.W.fnOf "cut" "cut" (defArgs s_cut) (defBody s_cut) (defScope s_cut) .none kV27 dc27 pm27 an27 cd27 ct27),sl27⟩) (c27:PySem.W.codeIn K cd27 "cut"=true) (k27:PySem.W.keepIn K (.ref f27)=true)
  {f28:Addr} {od28 an28:Option Addr} {sl28:Array (Option Value)} {oc28 kV28 dc28 pm28 cd28 ct28:Value}
  (a28:PySem.W.nsIn K mainGlobals "read_rows"=some (some (.ref f28))) (l28:K.lookup f28=some ⟨oc28,od28,.func (PySem.W.fnOf "read_rows" "read_rows" (defArgs s_read_rows) (defBody s_read_rows) (defScope s_read_rows) .none kV28 dc28 pm28 an28 cd28 ct28),sl28⟩) (c28:PySem.W.codeIn K cd28 "read_rows"=true) (k28:PySem.W.keepIn K (.ref f28)=true)
  {f29:Addr} {od29 an29:Option Addr} {sl29:Array (Option Value)} {oc29 kV29 dc29 pm29 cd29 ct29:Value}
  (a29:PySem.W.nsIn K mainGlobals "want_list"=some (some (.ref f29))) (l29:K.lookup f29=some ⟨oc29,od29,.func (PySem.W.fnOf "want_list" "want_list" (defArgs s_want_list) (defBody s_want_list) (defScope s_want_list) .none kV29 dc29 pm29 an29 cd29 ct29),sl29⟩) (c29:PySem.W.codeIn K cd29 "want_list"=true) (k29:PySem.W.keepIn K (.ref f29)=true)
  {f30:Addr} {od30 an30:Option Addr} {sl30:Array (Option Value)} {oc30 kV30 dc30 pm30 cd30 ct30:Value}
  (a30:PySem.W.nsIn K mainGlobals "is_whole"=some (some (.ref f30))) (l30:K.lookup f30=some ⟨oc30,od30,.func (PySem.W.fnOf "is_whole" "is_whole" (defArgs s_is_whole) (defBody s_is_whole) (defScope s_is_whole) .none kV30 dc30 pm30 an30 cd30 ct30),sl30⟩) (c30:PySem.W.codeIn K cd30 "is_whole"=true) (k30:PySem.W.keepIn K (.ref f30)=true)
  {f31:Addr} {od31 an31:Option Addr} {sl31:Array (Option Value)} {oc31 kV31 dc31 pm31 cd31 ct31:Value}
  (a31:PySem.W.nsIn K mainGlobals "is_number"=some (some (.ref f31))) (l31:K.lookup f31=some ⟨oc31,od31,.func (PySem.W.fnOf "is_number" "is_number" (defArgs s_is_number) (defBody s_is_number) (defScope s_is_number) .none kV31 dc31 pm31 an31 cd31 ct31),sl31⟩) (c31:PySem.W.codeIn K cd31 "is_number"=true) (k31:PySem.W.keepIn K (.ref f31)=true)
  {f32:Addr} {od32 an32:Option Addr} {sl32:Array (Option Value)} {oc32 kV32 dc32 pm32 cd32 ct32:Value}
  (a32:PySem.W.nsIn K mainGlobals "is_row"=some (some (.ref f32))) (l32:K.lookup f32=some ⟨oc32,od32,.func (PySem.W.fnOf "is_row" "is_row" (defArgs s_is_row) (defBody s_is_row) (defScope s_is_row) .none kV32 dc32 pm32 an32 cd32 ct32),sl32⟩) (c32:PySem.W.codeIn K cd32 "is_row"=true) (k32:PySem.W.keepIn K (.ref f32)=true)
  {f33:Addr} {od33 an33:Option Addr} {sl33:Array (Option Value)} {oc33 kV33 dc33 pm33 cd33 ct33:Value}
  (a33:PySem.W.nsIn K mainGlobals "copied_rows"=some (some (.ref f33))) (l33:K.lookup f33=some ⟨oc33,od33,.func (PySem.W.fnOf "copied_rows" "copied_rows" (defArgs s_copied_rows) (defBody s_copied_rows) (defScope s_copied_rows) .none kV33 dc33 pm33 an33 cd33 ct33),sl33⟩) (c33:PySem.W.codeIn K cd33 "copied_rows"=true) (k33:PySem.W.keepIn K (.ref f33)=true)
  {f34:Addr} {od34 an34:Option Addr} {sl34:Array (Option Value)} {oc34 kV34 dc34 pm34 cd34 ct34:Value}
  (a34:PySem.W.findIn K (.ref C) "__init__"=some (some (.ref f34))) (i34:PySem.W.isFn K (.ref f34)=true) (l34:K.lookup f34=some ⟨oc34,od34,.func (PySem.W.fnOf "__init__" "System.__init__" (defArgs s_System___init__) (defBody s_System___init__) (defScope s_System___init__) .none kV34 dc34 pm34 an34 cd34 ct34),sl34⟩) (c34:PySem.W.codeIn K cd34 "System.__init__"=true) (k34:PySem.W.keepIn K (.ref f34)=true)
  {f35:Addr} {od35 an35:Option Addr} {sl35:Array (Option Value)} {oc35 kV35 dc35 pm35 cd35 ct35:Value}
  (a35:PySem.W.nsIn K mainGlobals "read_system"=some (some (.ref f35))) (l35:K.lookup f35=some ⟨oc35,od35,.func (PySem.W.fnOf "read_system" "read_system" (defArgs s_read_system) (defBody s_read_system) (defScope s_read_system) .none kV35 dc35 pm35 an35 cd35 ct35),sl35⟩) (c35:PySem.W.codeIn K cd35 "read_system"=true) (k35:PySem.W.keepIn K (.ref f35)=true)
  {f36:Addr} {od36 an36:Option Addr} {sl36:Array (Option Value)} {oc36 kV36 dc36 pm36 cd36 ct36:Value}
  (a36:PySem.W.nsIn K mainGlobals "_law_system_text"=some (some (.ref f36))) (l36:K.lookup f36=some ⟨oc36,od36,.func (PySem.W.fnOf "_law_system_text" "_law_system_text" (defArgs s__law_system_text) (defBody s__law_system_text) (defScope s__law_system_text) .none kV36 dc36 pm36 an36 cd36 ct36),sl36⟩) (c36:PySem.W.codeIn K cd36 "_law_system_text"=true) (k36:PySem.W.keepIn K (.ref f36)=true)
  {f37:Addr} {od37 an37:Option Addr} {sl37:Array (Option Value)} {oc37 kV37 dc37 pm37 cd37 ct37:Value}
  (a37:PySem.W.nsIn K mainGlobals "_law_right_ones"=some (some (.ref f37))) (l37:K.lookup f37=some ⟨oc37,od37,.func (PySem.W.fnOf "_law_right_ones" "_law_right_ones" (defArgs s__law_right_ones) (defBody s__law_right_ones) (defScope s__law_right_ones) .none kV37 dc37 pm37 an37 cd37 ct37),sl37⟩) (c37:PySem.W.codeIn K cd37 "_law_right_ones"=true) (k37:PySem.W.keepIn K (.ref f37)=true)
  {f38:Addr} {od38 an38:Option Addr} {sl38:Array (Option Value)} {oc38 kV38 dc38 pm38 cd38 ct38:Value}
  (a38:PySem.W.nsIn K mainGlobals "_law_odd"=some (some (.ref f38))) (l38:K.lookup f38=some ⟨oc38,od38,.func (PySem.W.fnOf "_law_odd" "_law_odd" (defArgs s__law_odd) (defBody s__law_odd) (defScope s__law_odd) .none kV38 dc38 pm38 an38 cd38 ct38),sl38⟩) (c38:PySem.W.codeIn K cd38 "_law_odd"=true) (k38:PySem.W.keepIn K (.ref f38)=true)
  {f39:Addr} {od39 an39:Option Addr} {sl39:Array (Option Value)} {oc39 kV39 dc39 pm39 cd39 ct39:Value}
  (a39:PySem.W.nsIn K mainGlobals "_law_bad_number"=some (some (.ref f39))) (l39:K.lookup f39=some ⟨oc39,od39,.func (PySem.W.fnOf "_law_bad_number" "_law_bad_number" (defArgs s__law_bad_number) (defBody s__law_bad_number) (defScope s__law_bad_number) .none kV39 dc39 pm39 an39 cd39 ct39),sl39⟩) (c39:PySem.W.codeIn K cd39 "_law_bad_number"=true) (k39:PySem.W.keepIn K (.ref f39)=true)
  {f40:Addr} {od40 an40:Option Addr} {sl40:Array (Option Value)} {oc40 kV40 dc40 pm40 cd40 ct40:Value}
  (a40:PySem.W.nsIn K mainGlobals "_law_bad_row"=some (some (.ref f40))) (l40:K.lookup f40=some ⟨oc40,od40,.func (PySem.W.fnOf "_law_bad_row" "_law_bad_row" (defArgs s__law_bad_row) (defBody s__law_bad_row) (defScope s__law_bad_row) .none kV40 dc40 pm40 an40 cd40 ct40),sl40⟩) (c40:PySem.W.codeIn K cd40 "_law_bad_row"=true) (k40:PySem.W.keepIn K (.ref f40)=true)
  {f41:Addr} {od41 an41:Option Addr} {sl41:Array (Option Value)} {oc41 kV41 dc41 pm41 cd41 ct41:Value}
  (a41:PySem.W.nsIn K mainGlobals "_law_bad_sizes"=some (some (.ref f41))) (l41:K.lookup f41=some ⟨oc41,od41,.func (PySem.W.fnOf "_law_bad_sizes" "_law_bad_sizes" (defArgs s__law_bad_sizes) (defBody s__law_bad_sizes) (defScope s__law_bad_sizes) .none kV41 dc41 pm41 an41 cd41 ct41),sl41⟩) (c41:PySem.W.codeIn K cd41 "_law_bad_sizes"=true) (k41:PySem.W.keepIn K (.ref f41)=true)
  {f42:Addr} {od42 an42:Option Addr} {sl42:Array (Option Value)} {oc42 kV42 dc42 pm42 cd42 ct42:Value}
  (a42:PySem.W.nsIn K mainGlobals "_law_bad_system"=some (some (.ref f42))) (l42:K.lookup f42=some ⟨oc42,od42,.func (PySem.W.fnOf "_law_bad_system" "_law_bad_system" (defArgs s__law_bad_system) (defBody s__law_bad_system) (defScope s__law_bad_system) .none kV42 dc42 pm42 an42 cd42 ct42),sl42⟩) (c42:PySem.W.codeIn K cd42 "_law_bad_system"=true) (k42:PySem.W.keepIn K (.ref f42)=true)
  {f43:Addr} {od43 an43:Option Addr} {sl43:Array (Option Value)} {oc43 kV43 dc43 pm43 cd43 ct43:Value}
  (a43:PySem.W.nsIn K mainGlobals "_law_strewn"=some (some (.ref f43))) (l43:K.lookup f43=some ⟨oc43,od43,.func (PySem.W.fnOf "_law_strewn" "_law_strewn" (defArgs s__law_strewn) (defBody s__law_strewn) (defScope s__law_strewn) .none kV43 dc43 pm43 an43 cd43 ct43),sl43⟩) (c43:PySem.W.codeIn K cd43 "_law_strewn"=true) (k43:PySem.W.keepIn K (.ref f43)=true)
  {f44:Addr} {od44 an44:Option Addr} {sl44:Array (Option Value)} {oc44 kV44 dc44 pm44 cd44 ct44:Value}
  (a44:PySem.W.nsIn K mainGlobals "_law_refused"=some (some (.ref f44))) (l44:K.lookup f44=some ⟨oc44,od44,.func (PySem.W.fnOf "_law_refused" "_law_refused" (defArgs s__law_refused) (defBody s__law_refused) (defScope s__law_refused) .none kV44 dc44 pm44 an44 cd44 ct44),sl44⟩) (c44:PySem.W.codeIn K cd44 "_law_refused"=true) (k44:PySem.W.keepIn K (.ref f44)=true)
  {f45:Addr} {od45 an45:Option Addr} {sl45:Array (Option Value)} {oc45 kV45 dc45 pm45 cd45 ct45:Value}
  (a45:PySem.W.nsIn K mainGlobals "law"=some (some (.ref f45))) (l45:K.lookup f45=some ⟨oc45,od45,.func (PySem.W.fnOf "law" "law" (defArgs s_law) (defBody s_law) (defScope s_law) .none kV45 dc45 pm45 an45 cd45 ct45),sl45⟩) (c45:PySem.W.codeIn K cd45 "law"=true) (k45:PySem.W.keepIn K (.ref f45)=true)
  {st0:Tok} (cs0:PySem.W.nsIn K mainGlobals "FIGURES"=some (some (.str (Str.ofString "0123456789") st0)))
  {it0:Tok} (ci0:PySem.W.nsIn K mainGlobals "MOST_STATES"=some (some (.int 8 it0)))
  {it1:Tok} (ci1:PySem.W.nsIn K mainGlobals "MOST_PUTS"=some (some (.int 4 it1)))
  {it2:Tok} (ci2:PySem.W.nsIn K mainGlobals "MOST_LOOKS"=some (some (.int 4 it2)))
  (pg:PySem.W.plainGet K C Str.empty=true) (hd:PySem.W.hasDictIn K C=true) (po:PySem.W.plainOver K C=true) (sa:PySem.W.findIn K (.ref C) "__setattr__"=some (some (.builtin "object.__setattr__"))) (mk:PySem.W.makesIn K C=true) (kc:PySem.W.keepIn K (.ref C)=true)
  (n_move:PySem.W.findIn K (.ref C) "move"=some none)
  (n_states:PySem.W.findIn K (.ref C) "states"=some none)
  (n_put:PySem.W.findIn K (.ref C) "put"=some none)
  (n_ins:PySem.W.findIn K (.ref C) "ins"=some none)
  (n_look:PySem.W.findIn K (.ref C) "look"=some none)
  (n_outs:PySem.W.findIn K (.ref C) "outs"=some none)
  {x_SumError:Addr} (xa_SumError:PySem.W.nsIn K mainGlobals "SumError"=some (some (.ref x_SumError)))
  {x_Wrong:Addr} (xa_Wrong:PySem.W.nsIn K mainGlobals "Wrong"=some (some (.ref x_Wrong)))
  {x_NoThing:Addr} (xa_NoThing:PySem.W.nsIn K mainGlobals "NoThing"=some (some (.ref x_NoThing)))
  {x_TooMany:Addr} (xa_TooMany:PySem.W.nsIn K mainGlobals "TooMany"=some (some (.ref x_TooMany)))
  {x_NoNumber:Addr} (xa_NoNumber:PySem.W.nsIn K mainGlobals "NoNumber"=some (some (.ref x_NoNumber)))
  {x_NoFit:Addr} (xa_NoFit:PySem.W.nsIn K mainGlobals "NoFit"=some (some (.ref x_NoFit)))
  {x_NotSteered:Addr} (xa_NotSteered:PySem.W.nsIn K mainGlobals "NotSteered"=some (some (.ref x_NotSteered)))
  {x_NotSeen:Addr} (xa_NotSeen:PySem.W.nsIn K mainGlobals "NotSeen"=some (some (.ref x_NotSeen)))
  {x_NoText:Addr} (xa_NoText:PySem.W.nsIn K mainGlobals "NoText"=some (some (.ref x_NoText)))
  {x_NoName:Addr} (xa_NoName:PySem.W.nsIn K mainGlobals "NoName"=some (some (.ref x_NoName)))
  {x_Taken:Addr} (xa_Taken:PySem.W.nsIn K mainGlobals "Taken"=some (some (.ref x_Taken)))
  (xe_NoText:PySem.W.excIn K x_NoText vErr "ValueError.__new__"=true)
  (xm_NoText_SumError:PySem.W.exmOne K (.ref x_NoText) (.ref x_SumError)=some true)
  (ki_NoText_NoText:PySem.W.kitOne K (.ref x_NoText) (.ref x_NoText)=some true)
  (ki_NoText_ValueError:PySem.W.kitOne K (.ref x_NoText) (.type "ValueError")=some true)
  (ka_NoText_0:PySem.W.kitAny K (.ref x_NoText) [.ref x_NoFit,.ref x_NoName,.ref x_NoNumber,.ref x_NoThing,.ref x_NotSeen,.ref x_NotSteered,.ref x_Taken,.ref x_TooMany,.ref x_Wrong]=some false)
  (ga_NoText:PySem.W.findIn K (.ref x_NoText) "__getattribute__"=some (some (.builtin "BaseException.__getattribute__")))
  (gt_NoText:PySem.W.findIn K (.ref x_NoText) "__getattr__"=some none)
  (mb_NoText:PySem.W.mroIn K x_NoText (.type "BaseException")=some true)
  (mo_NoText:PySem.W.mroIn K x_NoText (.type "object")=some true)
  (hd_NoText:PySem.W.hasDictIn K x_NoText=true)
  (ca_NoText:PySem.W.findIn K (.ref x_NoText) "__class__"=some (some (.builtin "object.__class__")))
  (sg_:PySem.W.specialIn K (.builtin "object.__class__") "__get__"=some (some (.builtin "getset_descriptor.__get__")))
  (tk_:PySem.W.takesIn K (.builtin "object.__class__")=some true)
  (z_abs:PySem.W.nsIn K mainGlobals "abs"=some none)
  (z_len:PySem.W.nsIn K mainGlobals "len"=some none)
  (z_min:PySem.W.nsIn K mainGlobals "min"=some none)
  (z_range:PySem.W.nsIn K mainGlobals "range"=some none)
  (z_int:PySem.W.nsIn K mainGlobals "int"=some none)
  (z_all:PySem.W.nsIn K mainGlobals "all"=some none)
  (z_isinstance:PySem.W.nsIn K mainGlobals "isinstance"=some none)
  (z_str:PySem.W.nsIn K mainGlobals "str"=some none)
  (z_tuple:PySem.W.nsIn K mainGlobals "tuple"=some none)
  (z_bool:PySem.W.nsIn K mainGlobals "bool"=some none)
  (z_list:PySem.W.nsIn K mainGlobals "list"=some none)
  (z_any:PySem.W.nsIn K mainGlobals "any"=some none)
  (z_enumerate:PySem.W.nsIn K mainGlobals "enumerate"=some none)
  (z_ValueError:PySem.W.nsIn K mainGlobals "ValueError"=some none)
  : ∃fd:FuncData,(∀(s:Shared) (v:Value),BindsTo s fd ⟨[v],[]⟩ [("_law_script",v)])∧∀base:Heap,K.In base->base.Ns mainGlobals mg->FnOk l.prog w K mg base CX0 9 fa fd ["_law_script"] (sp_law K):=by
 have e:=hfa.symm.trans (PySem.W.mg_of X G a45)
 cases e
 have F0:=fun_mk (st:=s__law_bag) l0 c0 k0
 have F1:=fun_mk (st:=s__law_take) l1 c1 k1
 have F2:=fun_mk (st:=s__law_sizes) l2 c2 k2
 have F3:=fun_mk (st:=s__law_low) l3 c3 k3
 have F4:=fun_mk (st:=s__law_number) l4 c4 k4
 have F5:=fun_mk (st:=s__law_row) l5 c5 k5
 have F6:=fun_mk (st:=s__law_move) l6 c6 k6
 have F7:=fun_mk (st:=s__law_sum) l7 c7 k7
 have F8:=fun_mk (st:=s__law_plus) l8 c8 k8
 have F9:=fun_mk (st:=s__law_prod) l9 c9 k9
 have F10:=fun_mk (st:=s__law_by) l10 c10 k10
 have F11:=fun_mk (st:=s__law_mixed) l11 c11 k11
 have F12:=fun_mk (st:=s__law_parts) l12 c12 k12
 have F13:=fun_mk (st:=s__law_drawn) l13 c13 k13
 have F14:=fun_mk (st:=s_read_whole) l14 c14 k14
 have F15:=fun_mk (st:=s_read_top) l15 c15 k15
 have F16:=fun_mk (st:=s_common_divisor) l16 c16 k16
 have F17:=fun_mk (st:=s_read_number) l17 c17 k17
 have F18:=fun_mk (st:=s__law_number_text) l18 c18 k18
 have F19:=fun_mk (st:=s_words_in) l19 c19 k19
 have F20:=fun_mk (st:=s_read_row) l20 c20 k20
 have F21:=fun_mk (st:=s__law_row_text) l21 c21 k21
 have F22:=fun_mk (st:=s__law_is_number) l22 c22 k22
 have F23:=fun_mk (st:=s__law_is_row) l23 c23 k23
 have F24:=fun_mk (st:=s__law_is_grid) l24 c24 k24
 have F25:=fun_mk (st:=s__law_fields) l25 c25 k25
 have F26:=fun_mk (st:=s_read_size) l26 c26 k26
 have F27:=fun_mk (st:=s_cut) l27 c27 k27
 have F28:=fun_mk (st:=s_read_rows) l28 c28 k28
 have F29:=fun_mk (st:=s_want_list) l29 c29 k29
 have F30:=fun_mk (st:=s_is_whole) l30 c30 k30
 have F31:=fun_mk (st:=s_is_number) l31 c31 k31
 have F32:=fun_mk (st:=s_is_row) l32 c32 k32
 have F33:=fun_mk (st:=s_copied_rows) l33 c33 k33
 have F34:=fun_mk (st:=s_System___init__) l34 c34 k34
 have F35:=fun_mk (st:=s_read_system) l35 c35 k35
 have F36:=fun_mk (st:=s__law_system_text) l36 c36 k36
 have F37:=fun_mk (st:=s__law_right_ones) l37 c37 k37
 have F38:=fun_mk (st:=s__law_odd) l38 c38 k38
 have F39:=fun_mk (st:=s__law_bad_number) l39 c39 k39
 have F40:=fun_mk (st:=s__law_bad_row) l40 c40 k40
 have F41:=fun_mk (st:=s__law_bad_sizes) l41 c41 k41
 have F42:=fun_mk (st:=s__law_bad_system) l42 c42 k42
 have F43:=fun_mk (st:=s__law_strewn) l43 c43 k43
 have F44:=fun_mk (st:=s__law_refused) l44 c44 k44
 have F45:=fun_mk (st:=s_law) l45 c45 k45
 have T:Txt K mg { a__law_bag:=f0,d__law_bag:=_,a__law_take:=f1,d__law_take:=_,a__law_sizes:=f2,d__law_sizes:=_,a__law_low:=f3,d__law_low:=_,a__law_number:=f4,d__law_number:=_,a__law_row:=f5,d__law_row:=_,a__law_move:=f6,d__law_move:=_,a__law_sum:=f7,d__law_sum:=_,a__law_plus:=f8,d__law_plus:=_,a__law_prod:=f9,d__law_prod:=_,a__law_by:=f10,d__law_by:=_,a__law_mixed:=f11,d__law_mixed:=_,a__law_parts:=f12,d__law_parts:=_,a__law_drawn:=f13,d__law_drawn:=_,a_read_whole:=f14,d_read_whole:=_,a_read_top:=f15,d_read_top:=_,a_common_divisor:=f16,d_common_divisor:=_,a_read_number:=f17,d_read_number:=_,a__law_number_text:=f18,d__law_number_text:=_,a_words_in:=f19,d_words_in:=_,a_read_row:=f20,d_read_row:=_,a__law_row_text:=f21,d__law_row_text:=_,a__law_is_number:=f22,d__law_is_number:=_,a__law_is_row:=f23,d__law_is_row:=_,a__law_is_grid:=f24,d__law_is_grid:=_,a__law_fields:=f25,d__law_fields:=_,a_read_size:=f26,d_read_size:=_,a_cut:=f27,d_cut:=_,a_read_rows:=f28,d_read_rows:=_,a_want_list:=f29,d_want_list:=_,a_is_whole:=f30,d_is_whole:=_,a_is_number:=f31,d_is_number:=_,a_is_row:=f32,d_is_row:=_,a_copied_rows:=f33,d_copied_rows:=_,a_System___init__:=f34,d_System___init__:=_,a_read_system:=f35,d_read_system:=_,a__law_system_text:=f36,d__law_system_text:=_,a__law_right_ones:=f37,d__law_right_ones:=_,a__law_odd:=f38,d__law_odd:=_,a__law_bad_number:=f39,d__law_bad_number:=_,a__law_bad_row:=f40,d__law_bad_row:=_,a__law_bad_sizes:=f41,d__law_bad_sizes:=_,a__law_bad_system:=f42,d__law_bad_system:=_,a__law_strewn:=f43,d__law_strewn:=_,a__law_refused:=f44,d__law_refused:=_,a_law:=fa,d_law:=_,t_MOST_STATES:=it0,t_MOST_PUTS:=it1,t_MOST_LOOKS:=it2,t_FIGURES:=st0,a_System:=C,a_SumError:=x_SumError,a_Wrong:=x_Wrong,a_NoThing:=x_NoThing,a_TooMany:=x_TooMany,a_NoNumber:=x_NoNumber,a_NoFit:=x_NoFit,a_NotSteered:=x_NotSteered,a_NotSeen:=x_NotSeen,a_NoText:=x_NoText,a_NoName:=x_NoName,a_Taken:=x_Taken }:={
  mg__law_bag:=PySem.W.mg_of X G a0
  b__law_bag:=F0.binds (ps:=["_law_script"]) fun _ _ _ _ _ _=>by refine ln1 ?_;intros;rfl
  F__law_bag:=F0
  mg__law_take:=PySem.W.mg_of X G a1
  b__law_take:=F1.binds (ps:=["_law_bag_here","_law_many"]) fun _ _ _ _ _ _=>by refine ln2 ?_;intros;rfl
  F__law_take:=F1
  mg__law_sizes:=PySem.W.mg_of X G a2
  b__law_sizes:=F2.binds (ps:=["_law_bag_here"]) fun _ _ _ _ _ _=>by refine ln1 ?_;intros;rfl
  F__law_sizes:=F2
  mg__law_low:=PySem.W.mg_of X G a3
  b__law_low:=F3.binds (ps:=["_law_top","_law_bottom"]) fun _ _ _ _ _ _=>by refine ln2 ?_;intros;rfl
  F__law_low:=F3
  mg__law_number:=PySem.W.mg_of X G a4
  b__law_number:=F4.binds (ps:=["_law_bag_here","_law_wide"]) fun _ _ _ _ _ _=>by refine ln2 ?_;intros;rfl
  F__law_number:=F4
  mg__law_row:=PySem.W.mg_of X G a5
  b__law_row:=F5.binds (ps:=["_law_bag_here","_law_many","_law_wide"]) fun _ _ _ _ _ _=>by refine ln3 ?_;intros;rfl
  F__law_row:=F5
  mg__law_move:=PySem.W.mg_of X G a6
  b__law_move:=F6.binds (ps:=["_law_bag_here","_law_n","_law_way","_law_first","_law_wide"]) fun _ _ _ _ _ _=>by refine ln5 ?_;intros;rfl
  F__law_move:=F6
  mg__law_sum:=PySem.W.mg_of X G a7
  b__law_sum:=F7.binds (ps:=["_law_one","_law_other"]) fun _ _ _ _ _ _=>by refine ln2 ?_;intros;rfl
  F__law_sum:=F7
  mg__law_plus:=PySem.W.mg_of X G a8
  b__law_plus:=F8.binds (ps:=["_law_one","_law_other"]) fun _ _ _ _ _ _=>by refine ln2 ?_;intros;rfl
  F__law_plus:=F8
  mg__law_prod:=PySem.W.mg_of X G a9
  b__law_prod:=F9.binds (ps:=["_law_one","_law_other"]) fun _ _ _ _ _ _=>by refine ln2 ?_;intros;rfl
  F__law_prod:=F9
  mg__law_by:=PySem.W.mg_of X G a10
  b__law_by:=F10.binds (ps:=["_law_factor","_law_row_here"]) fun _ _ _ _ _ _=>by refine ln2 ?_;intros;rfl
  F__law_by:=F10
  mg__law_mixed:=PySem.W.mg_of X G a11
  b__law_mixed:=F11.binds (ps:=["_law_bag_here","_law_move_here","_law_put","_law_look"]) fun _ _ _ _ _ _=>by refine ln4 ?_;intros;rfl
  F__law_mixed:=F11
  mg__law_parts:=PySem.W.mg_of X G a12
  b__law_parts:=F12.binds (ps:=["_law_bag_here","_law_n","_law_ins","_law_outs","_law_wide"]) fun _ _ _ _ _ _=>by refine ln5 ?_;intros;rfl
  F__law_parts:=F12
  mg__law_drawn:=PySem.W.mg_of X G a13
  b__law_drawn:=F13.binds (ps:=["_law_bag_here"]) fun _ _ _ _ _ _=>by refine ln1 ?_;intros;rfl
  F__law_drawn:=F13
  mg_read_whole:=PySem.W.mg_of X G a14
  b_read_whole:=F14.binds (ps:=["text"]) fun _ _ _ _ _ _=>by refine ln1 ?_;intros;rfl
  F_read_whole:=F14
  mg_read_top:=PySem.W.mg_of X G a15
  b_read_top:=F15.binds (ps:=["text"]) fun _ _ _ _ _ _=>by refine ln1 ?_;intros;rfl
  F_read_top:=F15
  mg_common_divisor:=PySem.W.mg_of X G a16
  b_common_divisor:=F16.binds (ps:=["one","other"]) fun _ _ _ _ _ _=>by refine ln2 ?_;intros;rfl
  F_common_divisor:=F16
  mg_read_number:=PySem.W.mg_of X G a17
  b_read_number:=F17.binds (ps:=["text"]) fun _ _ _ _ _ _=>by refine ln1 ?_;intros;rfl
  F_read_number:=F17
  mg__law_number_text:=PySem.W.mg_of X G a18
  b__law_number_text:=F18.binds (ps:=["_law_one"]) fun _ _ _ _ _ _=>by refine ln1 ?_;intros;rfl
  F__law_number_text:=F18
  mg_words_in:=PySem.W.mg_of X G a19
  b_words_in:=F19.binds (ps:=["text"]) fun _ _ _ _ _ _=>by refine ln1 ?_;intros;rfl
  F_words_in:=F19
  mg_read_row:=PySem.W.mg_of X G a20
  b_read_row:=F20.binds (ps:=["text"]) fun _ _ _ _ _ _=>by refine ln1 ?_;intros;rfl
  F_read_row:=F20
  mg__law_row_text:=PySem.W.mg_of X G a21
  b__law_row_text:=F21.binds (ps:=["_law_row_here"]) fun _ _ _ _ _ _=>by refine ln1 ?_;intros;rfl
  F__law_row_text:=F21
  mg__law_is_number:=PySem.W.mg_of X G a22
  b__law_is_number:=F22.binds (ps:=["_law_thing"]) fun _ _ _ _ _ _=>by refine ln1 ?_;intros;rfl
  F__law_is_number:=F22
  mg__law_is_row:=PySem.W.mg_of X G a23
  b__law_is_row:=F23.binds (ps:=["_law_thing","_law_many"]) fun _ _ _ _ _ _=>by refine ln2 ?_;intros;rfl
  F__law_is_row:=F23
  mg__law_is_grid:=PySem.W.mg_of X G a24
  b__law_is_grid:=F24.binds (ps:=["_law_thing","_law_many","_law_wide"]) fun _ _ _ _ _ _=>by refine ln3 ?_;intros;rfl
  F__law_is_grid:=F24
  mg__law_fields:=PySem.W.mg_of X G a25
  b__law_fields:=F25.binds (ps:=["_law_system","_law_parts_here"]) fun _ _ _ _ _ _=>by refine ln2 ?_;intros;rfl
  F__law_fields:=F25
  mg_read_size:=PySem.W.mg_of X G a26
  b_read_size:=F26.binds (ps:=["word","most"]) fun _ _ _ _ _ _=>by refine ln2 ?_;intros;rfl
  F_read_size:=F26
  mg_cut:=PySem.W.mg_of X G a27
  b_cut:=F27.binds (ps:=["row","many","wide"]) fun _ _ _ _ _ _=>by refine ln3 ?_;intros;rfl
  F_cut:=F27
  mg_read_rows:=PySem.W.mg_of X G a28
  b_read_rows:=F28.binds (ps:=["words","name","many","wide"]) fun _ _ _ _ _ _=>by refine ln4 ?_;intros;rfl
  F_read_rows:=F28
  mg_want_list:=PySem.W.mg_of X G a29
  b_want_list:=F29.binds (ps:=["thing","at","most"]) fun _ _ _ _ _ _=>by refine ln3 ?_;intros;rfl
  F_want_list:=F29
  mg_is_whole:=PySem.W.mg_of X G a30
  b_is_whole:=F30.binds (ps:=["thing"]) fun _ _ _ _ _ _=>by refine ln1 ?_;intros;rfl
  F_is_whole:=F30
  mg_is_number:=PySem.W.mg_of X G a31
  b_is_number:=F31.binds (ps:=["thing"]) fun _ _ _ _ _ _=>by refine ln1 ?_;intros;rfl
  F_is_number:=F31
  mg_is_row:=PySem.W.mg_of X G a32
  b_is_row:=F32.binds (ps:=["thing","many"]) fun _ _ _ _ _ _=>by refine ln2 ?_;intros;rfl
  F_is_row:=F32
  mg_copied_rows:=PySem.W.mg_of X G a33
  b_copied_rows:=F33.binds (ps:=["things","wide"]) fun _ _ _ _ _ _=>by refine ln2 ?_;intros;rfl
  F_copied_rows:=F33
  b_System___init__:=F34.binds (ps:=["self","move","put","look"]) fun _ _ _ _ _ _=>by refine ln4 ?_;intros;rfl
  F_System___init__:=F34
  mg_read_system:=PySem.W.mg_of X G a35
  b_read_system:=F35.binds (ps:=["text"]) fun _ _ _ _ _ _=>by refine ln1 ?_;intros;rfl
  F_read_system:=F35
  mg__law_system_text:=PySem.W.mg_of X G a36
  b__law_system_text:=F36.binds (ps:=["_law_parts_here"]) fun _ _ _ _ _ _=>by refine ln1 ?_;intros;rfl
  F__law_system_text:=F36
  mg__law_right_ones:=PySem.W.mg_of X G a37
  b__law_right_ones:=F37.binds (ps:=["_law_one","_law_row_here","_law_parts_here"]) fun _ _ _ _ _ _=>by refine ln3 ?_;intros;rfl
  F__law_right_ones:=F37
  mg__law_odd:=PySem.W.mg_of X G a38
  b__law_odd:=F38.binds (ps:=["_law_bag_here"]) fun _ _ _ _ _ _=>by refine ln1 ?_;intros;rfl
  F__law_odd:=F38
  mg__law_bad_number:=PySem.W.mg_of X G a39
  b__law_bad_number:=F39.binds (ps:=["_law_bag_here"]) fun _ _ _ _ _ _=>by refine ln1 ?_;intros;rfl
  F__law_bad_number:=F39
  mg__law_bad_row:=PySem.W.mg_of X G a40
  b__law_bad_row:=F40.binds (ps:=["_law_bag_here","_law_row_here"]) fun _ _ _ _ _ _=>by refine ln2 ?_;intros;rfl
  F__law_bad_row:=F40
  mg__law_bad_sizes:=PySem.W.mg_of X G a41
  b__law_bad_sizes:=F41.binds (ps:=["_law_bag_here","_law_words"]) fun _ _ _ _ _ _=>by refine ln2 ?_;intros;rfl
  F__law_bad_sizes:=F41
  mg__law_bad_system:=PySem.W.mg_of X G a42
  b__law_bad_system:=F42.binds (ps:=["_law_bag_here","_law_parts_here"]) fun _ _ _ _ _ _=>by refine ln2 ?_;intros;rfl
  F__law_bad_system:=F42
  mg__law_strewn:=PySem.W.mg_of X G a43
  b__law_strewn:=F43.binds (ps:=["_law_bag_here","_law_text"]) fun _ _ _ _ _ _=>by refine ln2 ?_;intros;rfl
  F__law_strewn:=F43
  mg__law_refused:=PySem.W.mg_of X G a44
  b__law_refused:=F44.binds (ps:=["_law_reader","_law_text"]) fun _ _ _ _ _ _=>by refine ln2 ?_;intros;rfl
  F__law_refused:=F44
  F_law:=F45
  abs:=PySem.W.mg_none_of X G z_abs
  len:=PySem.W.mg_none_of X G z_len
  min:=PySem.W.mg_none_of X G z_min
  range:=PySem.W.mg_none_of X G z_range
  int:=PySem.W.mg_none_of X G z_int
  all:=PySem.W.mg_none_of X G z_all
  isinstance:=PySem.W.mg_none_of X G z_isinstance
  str:=PySem.W.mg_none_of X G z_str
  tuple:=PySem.W.mg_none_of X G z_tuple
  bool:=PySem.W.mg_none_of X G z_bool
  list:=PySem.W.mg_none_of X G z_list
  any:=PySem.W.mg_none_of X G z_any
  enumerate:=PySem.W.mg_none_of X G z_enumerate
  ValueError:=PySem.W.mg_none_of X G z_ValueError
  mg_MOST_STATES:=PySem.W.mg_of X G ci0
  mg_MOST_PUTS:=PySem.W.mg_of X G ci1
  mg_MOST_LOOKS:=PySem.W.mg_of X G ci2
  mg_FIGURES:=PySem.W.mg_of X G cs0
  mg_System:=PySem.W.mg_of X G aC
  cl_System:=⟨pg,hd,po,sa⟩
  na_move:=n_move
  na_states:=n_states
  na_put:=n_put
  na_ins:=n_ins
  na_look:=n_look
  na_outs:=n_outs
  mk_System:=⟨mk,a34,i34,kc⟩
  mg_SumError:=PySem.W.mg_of X G xa_SumError
  mg_Wrong:=PySem.W.mg_of X G xa_Wrong
  mg_NoThing:=PySem.W.mg_of X G xa_NoThing
  mg_TooMany:=PySem.W.mg_of X G xa_TooMany
  mg_NoNumber:=PySem.W.mg_of X G xa_NoNumber
  mg_NoFit:=PySem.W.mg_of X G xa_NoFit
  mg_NotSteered:=PySem.W.mg_of X G xa_NotSteered
  mg_NotSeen:=PySem.W.mg_of X G xa_NotSeen
  mg_NoText:=PySem.W.mg_of X G xa_NoText
  mg_NoName:=PySem.W.mg_of X G xa_NoName
  mg_Taken:=PySem.W.mg_of X G xa_Taken
  ex_NoText:=xe_NoText
  xm_NoText_SumError:=xm_NoText_SumError
  ki_NoText_NoText:=ki_NoText_NoText
  ki_NoText_ValueError:=ki_NoText_ValueError
  ka_NoText_0:=ka_NoText_0
  xc_NoText:=⟨ga_NoText,gt_NoText,mb_NoText,mo_NoText,hd_NoText,ca_NoText,sg_,tk_⟩ }
 exact ⟨_,fun s v=>.of_eq rfl,fun base _ _=>ok_law T⟩
theorem walk {l:PySem.W.OpenLaw} {q:Program} {loose:List Str} {XP:(Str->Option Value)->Heap->Prop} {YP:World->Heap->Prop} {d:DefRec} {K:Params->PySem.W.Frag} (hn:l.most=some 63) (hdf:d.params.defaults=[])
  (hY:∀(w:World) (h:Heap),YP w h->(K w.params).In h)
  (F:∀(w:World) (mg:Str->Option Value) (fa:Addr) (h:Heap),(K w.params).In h->h.Ns mainGlobals mg->mg d.name=some (.ref fa) →
   ∃fd:FuncData,(∀(s:Shared) (u:Value),BindsTo s fd ⟨[u],[]⟩ [("_law_script",u)])∧∀base:Heap,(K w.params).In base->base.Ns mainGlobals mg->FnOk l.prog w (K w.params) mg base CX0 9 fa fd ["_law_script"] (sp_law (K w.params))) :
  PySem.W.WalkO q loose XP YP l.row.toRowW d [] (fun f vs=>PySem.call f vs) :=
 L2.walk_of (n:=63) (k:=9) (x:="_law_script") (CX:=fun _=>CX0) (sp:=fun w=>sp_law (K w.params)) hn (by decide) hdf ⟨rfl,by decide,by decide⟩ hY F (fun _ _ a ns hl _ hS=>⟨a,ns,rfl,hS,hl,fun _=>rfl⟩) fun _ _ _ _ _ z=>z
end Lw
namespace PySem.W.Fast
def tw11722922507643412123:=()
def tw11715837508290294581:=()
def tw160540409899203616:=()
def tw5581498053550559414:=()
def tw15825711941756294954:=()
def tw6473443408937355791:=()
def tw2174751146479164871:=()
def tw11325034588683381956:=()
def tw6519839813846517409:=()
def tw9072649511575666515:=()
def tw10344066744659082271:=()
def tw11946727129923103339:=()
def tw16709572078463440764:=()
def tw8793598936120286322:=()
def tw10072567395028068341:=()
def tw8498208036245262935:=()
def tw6382675519630941121:=()
def tw12674564452566532050:=()
def tw6361688089187846872:=()
def tw12906096271174936275:=()
def tw13180353399877265380:=()
def tw14560745545954528042:=()
def tw4627609543429463408:=()
def tw17627814731861872114:=()
def tw12322691412034412521:=()
def tw8262193587431330084:=()
def tw17156774555323835211:=()
def tw8430757134285018217:=()
def tw2167183807164141160:=()
def tw1084300520328263652:=()
def tw11181766267413938186:=()
def tw10917971071632396643:=()
def tw11850300968801964910:=()
def tw1000092425348607437:=()
def tw4078615095882842888:=()
def tw10863621925318734107:=()
def tw411187934843117271:=()
def tw9182696798066220478:=()
def tw4033679486532770861:=()
def tw11304366659163223638:=()
def tw10673392055229027330:=()
def tw18094484084560164913:=()
def tw9952009486927932571:=()
def tw3932174182298445953:=()
def tw12585217258685253994:=()
def tw13370238358556395067:=()
def tw5742871618088653592:=()
def tw893434983853237069:=()
def tw10691766786141753130:=()
def tw9914132383128794529:=()
def tw3107370412241645321:=()
def tw15726973856681208765:=()
def tw10298676469451423955:=()
def tw17658813183588834829:=()
def tw9963700682261841608:=()
def tw9436350919877871507:=()
def tw17306401564275594967:=()
def tw9591368867476839430:=()
def tw4994007678585146096:=()
def tw5862018477090384011:=()
def tw17774599159405713079:=()
def tw1624164521437674937:=()
def tw8273631408562675387:=()
def tw12150616730118360777:=()
def tw8628337590099858776:=()
def tw1278945208079185222:=()
def tw9707468849411576281:=()
def tw10012571509639975246:=()
def tw698274770522784775:=()
def tw15016235420485357737:=()
def tw4451374891184958145:=()
def tw11263241034185580476:=()
def tw13858177497208060310:=()
def tw732674165383519608:=()
def tw11344624867202695003:=()
def tw4306824864373126770:=()
def tw300202461262667262:=()
def tw11364450600329670651:=()
def tw15785117679674019242:=()
def tw7324544098986358212:=()
def tw11958667301318463336:=()
def tw14648447787494817065:=()
def tw16903697309873919812:=()
def tw17171639255308291336:=()
def tw110394842205244064:=()
def tw5219035442467264697:=()
def tw14899208616289975963:=()
def tw8167064832178505944:=()
def tw7850665173436097923:=()
def tw8871323804963420247:=()
def tw3060813672496853740:=()
def tw10479277997357838642:=()
def tw17030734026464067420:=()
def tw11899600696685722589:=()
def tw2429225256474577033:=()
def tw15801060140628480363:=()
def tw8326636685505600222:=()
def tw1059529491946818054:=()
def tw488937930755507147:=()
def tw7180768944363763312:=()
def tw16387554210693642515:=()
def tw5906600540565484077:=()
def tw13749669811591482983:=()
def tw18208279857507834032:=()
def tw17780712711819770781:=()
def tw8518712063808524734:=()
def tw2111894657292754478:=()
def tw17784203273670423558:=()
def tw13587070181985119287:=()
def tw8393603564993628951:=()
def tw12515119265462635309:=()
def tw4488359795468019535:=()
def tw390270669512000980:=()
def tw14410161239817629867:=()
def tw16619364956059217522:=()
def tw15368696468932193718:=()
def tw5840791627089971907:=()
def tw14790512710249710876:=()
def tw2324779861976335871:=()
def tw10596945018286448006:=()
def tw2970279227842579009:=()
def tw16175949128336566598:=()
def tw4526696748209242007:=()
def tw17176628965314874448:=()
def tw11976031925573110503:=()
def tw12193276526778041795:=()
def tw17945160676360135501:=()
def tw10587479031226824989:=()
def tw8627300835970195269:=()
def tw13902300835563573226:=()
def tw15915947563547991887:=()
def tw3508453848103226328:=()
def tw16056486130505819608:=()
def tw11789687445625109019:=()
def tw16332153853155461900:=()
def tw12119160540074986183:=()
def tw17842199486157794911:=()
def tw11337817382983892053:=()
def tw3497852955664223744:=()
def tw10731066411585979093:=()
def tw6715911502581955655:=()
def tw1822469401401694911:=()
def tw5345563600469124418:=()
def tw1958602004723989977:=()
def tw1129089482278647026:=()
def tw5160631894443375700:=()
def tw16082149557551320949:=()
def tw874969750194484843:=()
def tw11080961991262156499:=()
def tw9555695977292277095:=()
def tw6630385909977307471:=()
def tw13886814261337200701:=()
def tw4836588822528527142:=()
def tw9366837687153654371:=()
def tw3761180251266498134:=()
def tw15419870991375131480:=()
def tw13496664626589562421:=()
def tw16922096762130016253:=()
def tw3612934664359441781:=()
def tw14327363668346950387:=()
def tw149507402793764091:=()
def tw9952225066688709855:=()
def tw1972207174880300290:=()
def tw7233964754171348061:=()
def tw7082370991213327626:=()
def tw2969438288716174486:=()
def tw8415418686983321874:=()
def tw7394362048232609634:=()
def tw8029165640532193853:=()
def tw2774220812516266180:=()
def tw15932634558600537684:=()
def tw7046127451658176897:=()
def tw16109001419127952014:=()
def tw8812306864735586343:=()
def tw16791215929196978255:=()
def tw13552170963471743741:=()
def tw4757401720373976062:=()
def tw14341761180822317896:=()
def tw13327527181558863812:=()
def tw1077102380886405809:=()
def tw13008160113878180740:=()
def tw11048272183714141747:=()
def tw9421041502836547018:=()
def tw17143263465581640877:=()
def tw16887626577011374831:=()
def tw14357905757264193223:=()
def tw10539791531494805756:=()
def tw13730128952657973853:=()
def tw12501166585622632569:=()
def tw17837483680166180581:=()
def tw6652583706369221327:=()
def tw7350024160746808885:=()
def tw4727480970278932493:=()
def tw9580309540242629165:=()
def tw17847179807096601012:=()
def tw2252752795089824258:=()
def tw12471146949697592537:=()
def tw15462887561531523814:=()
def tw8688965626053842127:=()
def tw10344899192097122460:=()
def tw16667920321465890544:=()
def tw2280931451748840915:=()
def tw10527591533078609204:=()
def tw3143463210027709350:=()
def tw12425246572284106215:=()
def tw9543974228684300167:=()
def tw3659577700399507025:=()
def tw8313634435187317353:=()
def tw3412073753897286333:=()
def tw12742369445141106531:=()
def tw11464167487856269207:=()
def tw2212947641249618853:=()
def tw1127589276660268258:=()
def tw16206412363739401940:=()
def tw13826823998227049787:=()
def tw3523109675465703617:=()
def tw15000757404253208084:=()
def tw10598613253671293757:=()
def tw10210132681866800519:=()
def tw13136993166788984842:=()
def tw8059463310429544690:=()
def tw15420387495922573861:=()
def tw4589913517779671108:=()
def tw2026061011926564756:=()
def tw3260134615165250620:=()
def tw16136905605022705498:=()
def tw6640035823137621924:=()
def tw8730992043111081693:=()
def tw17743912638274372356:=()
def tw628247833984235501:=()
def tw17740837330781057544:=()
def tw12580089961707359489:=()
def tw12686051440043835840:=()
def tw10835836542964756708:=()
def tw315016090865161518:=()
def tw16367874495269617289:=()
def tw7324351889273306033:=()
def tw2115075774169503588:=()
def tw1070822700037325646:=()
def tw3022107887590786290:=()
def tw18013787433591348651:=()
def tw11627656169881044421:=()
def tw13092344373488418000:=()
def tw10938350732620034522:=()
def tw16337775132674598633:=()
def tw10976930172946435605:=()
def tw6818927059125453010:=()
def tw2706480719199422553:=()
def tw5202922944388082870:=()
def tw5690693106836692406:=()
def tw5408483150462933665:=()
def tw12820851517100129780:=()
def tw10162061726261518372:=()
def tw13218884194708597520:=()
def tw1632157047002301656:=()
def tw18139638641748574328:=()
def tw8811954248291543939:=()
def tw12422567167251345134:=()
def tw14682162585922026633:=()
def tw6081758254357147835:=()
def tw8667992633248609598:=()
def tw11806371507543936905:=()
def tw10242030736325788967:=()
def tw16927862297436939718:=()
def tw16341581627124618432:=()
def tw11385456787523586538:=()
def tw6811235861131810369:=()
def tw13528716015813466048:=()
def tw6996515404987523711:=()
def tw17536527592894572007:=()
def tw3318771590261170816:=()
def tw9989426335933091294:=()
def tw11377699527420710176:=()
def tw4404143143081579567:=()
def tw4782273387734186551:=()
def tw5753288491897884590:=()
def tw6511183545948611585:=()
def tw16470188265355949003:=()
def tw14217382940729714863:=()
def tw7779115652435582657:=()
def tw5889378216349767545:=()
def tw17309963440209266364:=()
def tw8769912786028848813:=()
def tw12448965163957416131:=()
def tw7588257515315986600:=()
def tw192697782778263861:=()
def tw1163680761931087903:=()
def tw10133198808899155620:=()
def tw16405645099615701322:=()
def tw8723852908057810694:=()
def tw17400586825967027812:=()
def tw15786897728268952246:=()
def tw16444917151506167189:=()
def tw18323122382080278280:=()
def tw143947479698021784:=()
def tw16362308164064856440:=()
def tw8517509646073447379:=()
def tw3996806950128895339:=()
def tw15140733647772263538:=()
def tw11391846170194077358:=()
def tw9416467807818248804:=()
def tw8177943882932650245:=()
def tw1165196900622819644:=()
def tw13571342509224122007:=()
def tw4430454415739812916:=()
def tw9433573398763690379:=()
def tw14770750773890069841:=()
def tw505735694377757024:=()
def tw10656393036383637427:=()
def tw13325855369150182091:=()
def tw6603053133657383869:=()
def tw6548088059068306021:=()
def tw11037611068514036216:=()
def tw15740988508458573474:=()
def tw9371543587874716955:=()
def tw10163404702273580312:=()
def tw13849580110178177503:=()
def tw13102040031082827468:=()
def tw7568892975555135556:=()
def tw2461032583704970288:=()
def tw10017357935004171202:=()
def tw14748105400505501663:=()
def tw13196683382912641875:=()
def tw14764138605993221806:=()
def tw2785557167280276351:=()
def tw5920513677878002746:=()
def tw11951521787358277256:=()
def tw5676036873321413071:=()
def tw10433581037993958830:=()
def tw13076616765549544210:=()
def tw9073120649245207903:=()
def tw17839894965494408669:=()
def tw11593654897680644998:=()
def tw1501514716610325022:=()
def tw12998702971385638162:=()
def tw8738865601657539259:=()
def tw17615851139565806093:=()
def tw7678646409532849909:=()
def tw1223084604230876248:=()
def tw2523212906437066907:=()
def tw12550256996455377614:=()
def tw11344094330999786911:=()
def tw4151398891653429553:=()
def tw10543055734826594997:=()
def tw18249637123887773490:=()
def tw9087293340049416033:=()
def tw13721436289464318319:=()
def tw17318610728693950342:=()
def tw13254137431026494132:=()
def tw4799677021330096363:=()
def tw14788063315913982150:=()
def tw1464484248616961199:=()
def tw2501153329164566471:=()
def tw10724627594066788974:=()
def tw4129427656086298264:=()
def tw609139567213075102:=()
def tw3112595724402352213:=()
def tw11398199162320591301:=()
def tw17132943216985552843:=()
def tw5511163350131964825:=()
def tw10579005144272360352:=()
def tw6771508636965417480:=()
def tw7727140496721774350:=()
def tw942966274674573356:=()
def tw13840479211111476414:=()
def tw8986751284851210429:=()
def tw10002739458001361519:=()
def tw12399234773880270360:=()
def tw16885857263432455471:=()
def tw8658905508685943481:=()
def tw3134630960433712977:=()
def tw17736659659778186366:=()
def tw18027233546219707135:=()
def tw3632903879475964150:=()
def tw446801604260310198:=()
def tw13007235756522284582:=()
def tw13037734379370909943:=()
def tw4737388209920882715:=()
def tw11385106204568092383:=()
def tw7930604522023984005:=()
def tw12046898791402497693:=()
def tw11300811616129172801:=()
def tw9802782560525673791:=()
def tw5462995396109830375:=()
def tw13660104308294328855:=()
def tw5100550762540974706:=()
def tw17055550982877013025:=()
def tw13344663946688599846:=()
def tw14064764467820576843:=()
def tw13266378770100533831:=()
def tw17002860056193931402:=()
def tw7343252370974624974:=()
def tw18381660724507474127:=()
def tw8417165022337545387:=()
def tw4393256621752892840:=()
def tw285284002689367133:=()
def tw13984967367109117817:=()
def tw10808172458065035933:=()
def tw12483500694387394814:=()
def tw17462172668492905907:=()
def tw6787549184757515019:=()
def tw13073294814608808499:=()
def tw9651305688016697114:=()
def tw3571512780919355149:=()
def tw15092896289873091738:=()
def tw15613759185211950222:=()
def tw3599725115541627457:=()
def tw1828985452313395979:=()
def tw2076872468636632421:=()
def tw17517173476052226391:=()
def tw2749782668903390348:=()
def tw492140320516371163:=()
def tw11323573870410256410:=()
def tw17952284925002396770:=()
def tw2347550493458855793:=()
def tw11448870842676171281:=()
def tw11134833003536219771:=()
def tw14966718943699869316:=()
def tw15440625081565078611:=()
def tw13271881239073186933:=()
def tw4763148316403676572:=()
def tw13042057538841746738:=()
def tw7479220100299114522:=()
def tw18170125643231426285:=()
def tw2901215415702350447:=()
def tw6151743097846862149:=()
def tw5717561688548916263:=()
def tw11469474577163019646:=()
def tw3055371374208348338:=()
def tw3030472094867918616:=()
def tw9855271670658875847:=()
def tw17187231574419082110:=()
def tw6232638051028642937:=()
def tw15873835642391973249:=()
def tw2978476035777771857:=()
def tw4227003945897665363:=()
def tw17582033955570516199:=()
def tw17984538032585581445:=()
def tw1618730057448383827:=()
def tw14751355493254192174:=()
def tw12836900616840403452:=()
def tw1289820553800732414:=()
def tw12974781558445731833:=()
def tw5409214828399310772:=()
def tw9503112092155827046:=()
def tw9260719725226698061:=()
def tw5374245140492400860:=()
def tw14018963205142265475:=()
def tw4373638292797578603:=()
def tw13878098100242060840:=()
def tw57156916090318787:=()
def tw13123009711717955222:=()
def tw10785526821049713778:=()
def tw1303425473746797289:=()
def tw8220160403651650025:=()
def tw2063424668819251493:=()
def tw9251369666394384262:=()
def tw4878550686631190278:=()
def tw18413905548047033475:=()
def tw6354778482897289360:=()
theorem te11722922507643412123:True:=trivial
end PySem.W.Fast
open PySem PySem.W PyProof.Rows
set_option maxRecDepth 100000 in
set_option maxHeartbeats 0 in
theorem PySem.Challenge.cw_helmsum_k93_texts_refused_holds : PySem.Challenge.rw_helmsum_k93_texts_refused.Holds := by
 w_on;o_law;k_head;(case hw=>w_witness2)
 k_fill
 refine Lw.walk (l:=PySem.Challenge.rw_helmsum_k93_texts_refused) rfl rfl (fun w h Y=>PySem.W.kIn_of Y) ?F
 case F =>
  intro w mg fa h KX G hmg
  refine' Lw.all_mk KX G hmg ?aC ?a0 ?l0 ?c0 ?k0 ?a1 ?l1 ?c1 ?k1 ?a2 ?l2 ?c2 ?k2 ?a3 ?l3 ?c3 ?k3 ?a4 ?l4 ?c4 ?k4 ?a5 ?l5 ?c5 ?k5 ?a6 ?l6 ?c6 ?k6 ?a7 ?l7 ?c7 ?k7 ?a8 ?l8 ?c8 ?k8 ?a9 ?l9 ?c9 ?k9 ?a10 ?l10 ?c10 ?k10 ?a11 ?l11 ?c11 ?k11 ?a12 ?l12 ?c12 ?k12 ?a13 ?l13 ?c13 ?k13 ?a14 ?l14 ?c14 ?k14 ?a15 ?l15 ?c15 ?k15 ?a16 ?l16 ?c16 ?k16 ?a17 ?l17 ?c17 ?k17 ?a18 ?l18 ?c18 ?k18 ?a19 ?l19 ?c19 ?k19 ?a20 ?l20 ?c20 ?k20 ?a21 ?l21 ?c21 ?k21 ?a22 ?l22 ?c22 ?k22 ?a23 ?l23 ?c23 ?k23 ?a24 ?l24 ?c24 ?k24 ?a25 ?l25 ?c25 ?k25 ?a26 ?l26 ?c26 ?k26 ?a27 ?l27 ?c27 ?k27 ?a28 ?l28 ?c28 ?k28 ?a29 ?l29 ?c29 ?k29 ?a30 ?l30 ?c30 ?k30 ?a31 ?l31 ?c31 ?k31 ?a32 ?l32 ?c32 ?k32 ?a33 ?l33 ?c33 ?k33 ?a34 ?i34 ?l34 ?c34 ?k34 ?a35 ?l35 ?c35 ?k35 ?a36 ?l36 ?c36 ?k36 ?a37 ?l37 ?c37 ?k37 ?a38 ?l38 ?c38 ?k38 ?a39 ?l39 ?c39 ?k39 ?a40 ?l40 ?c40 ?k40 ?a41 ?l41 ?c41 ?k41 ?a42 ?l42 ?c42 ?k42 ?a43 ?l43 ?c43 ?k43 ?a44 ?l44 ?c44 ?k44 ?a45 ?l45 ?c45 ?k45 ?cs0 ?ci0 ?ci1 ?ci2 ?pg ?hd ?po ?sa ?mk ?kc ?n_move ?n_states ?n_put ?n_ins ?n_look ?n_outs ?xa_SumError ?xa_Wrong ?xa_NoThing ?xa_TooMany ?xa_NoNumber ?xa_NoFit ?xa_NotSteered ?xa_NotSeen ?xa_NoText ?xa_NoName ?xa_Taken ?xe_NoText ?xm_NoText_SumError ?ki_NoText_NoText ?ki_NoText_ValueError ?ka_NoText_0 ?ga_NoText ?gt_NoText ?mb_NoText ?mo_NoText ?hd_NoText ?ca_NoText ?sg_ ?tk_ ?z_abs ?z_len ?z_min ?z_range ?z_int ?z_all ?z_isinstance ?z_str ?z_tuple ?z_bool ?z_list ?z_any ?z_enumerate ?z_ValueError
  (case aC=>k_is)
  (case a0=>k_is)
  (case l0=>k_is)
  (case c0=>k_is)
  (case k0=>k_is)
  (case a1=>k_is)
  (case l1=>k_is)
  (case c1=>k_is)
  (case k1=>k_is)
  (case a2=>k_is)
  (case l2=>k_is)
  (case c2=>k_is)
  (case k2=>k_is)
  (case a3=>k_is)
  (case l3=>k_is)
  (case c3=>k_is)
  (case k3=>k_is)
  (case a4=>k_is)
  (case l4=>k_is)
  (case c4=>k_is)
  (case k4=>k_is)
  (case a5=>k_is)
  (case l5=>k_is)
  (case c5=>k_is)
  (case k5=>k_is)
  (case a6=>k_is)
  (case l6=>k_is)
  (case c6=>k_is)
  (case k6=>k_is)
  (case a7=>k_is)
  (case l7=>k_is)
  (case c7=>k_is)
  (case k7=>k_is)
  (case a8=>k_is)
  (case l8=>k_is)
  (case c8=>k_is)
  (case k8=>k_is)
  (case a9=>k_is)
  (case l9=>k_is)
  (case c9=>k_is)
  (case k9=>k_is)
  (case a10=>k_is)
  (case l10=>k_is)
  (case c10=>k_is)
  (case k10=>k_is)
  (case a11=>k_is)
  (case l11=>k_is)
  (case c11=>k_is)
  (case k11=>k_is)
  (case a12=>k_is)
  (case l12=>k_is)
  (case c12=>k_is)
  (case k12=>k_is)
  (case a13=>k_is)
  (case l13=>k_is)
  (case c13=>k_is)
  (case k13=>k_is)
  (case a14=>k_is)
  (case l14=>k_is)
  (case c14=>k_is)
  (case k14=>k_is)
  (case a15=>k_is)
  (case l15=>k_is)
  (case c15=>k_is)
  (case k15=>k_is)
  (case a16=>k_is)
  (case l16=>k_is)
  (case c16=>k_is)
  (case k16=>k_is)
  (case a17=>k_is)
  (case l17=>k_is)
  (case c17=>k_is)
  (case k17=>k_is)
  (case a18=>k_is)
  (case l18=>k_is)
  (case c18=>k_is)
  (case k18=>k_is)
  (case a19=>k_is)
  (case l19=>k_is)
  (case c19=>k_is)
  (case k19=>k_is)
  (case a20=>k_is)
  (case l20=>k_is)
  (case c20=>k_is)
  (case k20=>k_is)
  (case a21=>k_is)
  (case l21=>k_is)
  (case c21=>k_is)
  (case k21=>k_is)
  (case a22=>k_is)
  (case l22=>k_is)
  (case c22=>k_is)
  (case k22=>k_is)
  (case a23=>k_is)
  (case l23=>k_is)
  (case c23=>k_is)
  (case k23=>k_is)
  (case a24=>k_is)
  (case l24=>k_is)
  (case c24=>k_is)
  (case k24=>k_is)
  (case a25=>k_is)
  (case l25=>k_is)
  (case c25=>k_is)
  (case k25=>k_is)
  (case a26=>k_is)
  (case l26=>k_is)
  (case c26=>k_is)
  (case k26=>k_is)
  (case a27=>k_is)
  (case l27=>k_is)
  (case c27=>k_is)
  (case k27=>k_is)
  (case a28=>k_is)
  (case l28=>k_is)
  (case c28=>k_is)
  (case k28=>k_is)
  (case a29=>k_is)
  (case l29=>k_is)
  (case c29=>k_is)
  (case k29=>k_is)
  (case a30=>k_is)
  (case l30=>k_is)
  (case c30=>k_is)
  (case k30=>k_is)
  (case a31=>k_is)
  (case l31=>k_is)
  (case c31=>k_is)
  (case k31=>k_is)
  (case a32=>k_is)
  (case l32=>k_is)
  (case c32=>k_is)
  (case k32=>k_is)
  (case a33=>k_is)
  (case l33=>k_is)
  (case c33=>k_is)
  (case k33=>k_is)
  (case a34=>k_is)
  (case i34=>k_is)
  (case l34=>k_is)
  (case c34=>k_is)
  (case k34=>k_is)
  (case a35=>k_is)
  (case l35=>k_is)
  (case c35=>k_is)
  (case k35=>k_is)
  (case a36=>k_is)
  (case l36=>k_is)
  (case c36=>k_is)
  (case k36=>k_is)
  (case a37=>k_is)
  (case l37=>k_is)
  (case c37=>k_is)
  (case k37=>k_is)
  (case a38=>k_is)
  (case l38=>k_is)
  (case c38=>k_is)
  (case k38=>k_is)
  (case a39=>k_is)
  (case l39=>k_is)
  (case c39=>k_is)
  (case k39=>k_is)
  (case a40=>k_is)
  (case l40=>k_is)
  (case c40=>k_is)
  (case k40=>k_is)
  (case a41=>k_is)
  (case l41=>k_is)
  (case c41=>k_is)
  (case k41=>k_is)
  (case a42=>k_is)
  (case l42=>k_is)
  (case c42=>k_is)
  (case k42=>k_is)
  (case a43=>k_is)
  (case l43=>k_is)
  (case c43=>k_is)
  (case k43=>k_is)
  (case a44=>k_is)
  (case l44=>k_is)
  (case c44=>k_is)
  (case k44=>k_is)
  (case a45=>k_is)
  (case l45=>k_is)
  (case c45=>k_is)
  (case k45=>k_is)
  (case cs0=>k_is)
  (case ci0=>k_is)
  (case ci1=>k_is)
  (case ci2=>k_is)
  (case pg=>k_is)
  (case hd=>k_is)
  (case po=>k_is)
  (case sa=>k_is)
  (case mk=>k_is)
  (case kc=>k_is)
  (case n_move=>k_is)
  (case n_states=>k_is)
  (case n_put=>k_is)
  (case n_ins=>k_is)
  (case n_look=>k_is)
  (case n_outs=>k_is)
  (case xa_SumError=>k_is)
  (case xa_Wrong=>k_is)
  (case xa_NoThing=>k_is)
  (case xa_TooMany=>k_is)
  (case xa_NoNumber=>k_is)
  (case xa_NoFit=>k_is)
  (case xa_NotSteered=>k_is)
  (case xa_NotSeen=>k_is)
  (case xa_NoText=>k_is)
  (case xa_NoName=>k_is)
  (case xa_Taken=>k_is)
  (case xe_NoText=>k_exc)
  (case xm_NoText_SumError=>kts_exm)
  (case ki_NoText_NoText=>kit_is)
  (case ki_NoText_ValueError=>kit_is)
  (case ka_NoText_0=>kit_is)
  (case ga_NoText=>k_is)
  (case gt_NoText=>k_is)
  (case mb_NoText=>k_is)
  (case mo_NoText=>k_is)
  (case hd_NoText=>k_is)
  (case ca_NoText=>k_is)
  (case sg_=>k_is)
  (case tk_=>k_is)
  (case z_abs=>k_is)
  (case z_len=>k_is)
  (case z_min=>k_is)
  (case z_range=>k_is)
  (case z_int=>k_is)
  (case z_all=>k_is)
  (case z_isinstance=>k_is)
  (case z_str=>k_is)
  (case z_tuple=>k_is)
  (case z_bool=>k_is)
  (case z_list=>k_is)
  (case z_any=>k_is)
  (case z_enumerate=>k_is)
  (case z_ValueError=>k_is)