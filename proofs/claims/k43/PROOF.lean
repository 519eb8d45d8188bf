import PyProof.Rows.All
import Wide.All
import OpenK.AllK
import Wide.FinOn
import Lean
import PyProof.EqAt
import PyProof.EqKinds
import PyProof.TupleCall
import PyProof.NeKinds
import PySem.Challenge.RW_helmsum_k43_whole_reach_grows_and_stands
set_option Elab.async false
set_option linter.all false
set_option maxRecDepth 100000
namespace L2
open PySem PySem.Spec PyProof.Rows

abbrev Key := Sum Int Str
def keyIs : Key → Value → Bool
  | .inl k, v => Value.isInt k v
  | .inr x, v => Value.isStrOf x v
def keyH (w : World) : Key → Int
  | .inl k => hashInt k
  | .inr x => hashStr w x
theorem keyIs_shape : ∀ {k : Key} {v : Value}, keyIs k v = true → (∃ i t, k = Sum.inl i ∧ v = Value.int i t) ∨ (∃ x t, k = Sum.inr x ∧ v = Value.str x t)
  | .inl i, v, h => by
    obtain ⟨t, e⟩ := Value.isInt_shape (k := i) (v := v) h
    exact .inl ⟨i, t, rfl, e⟩
  | .inr x, v, h => by
    obtain ⟨t, e⟩ := Value.isStrOf_shape (x := x) (v := v) h
    exact .inr ⟨x, t, rfl, e⟩
theorem key_ll (a b : Int) : decide ((Sum.inl a : Key) = Sum.inl b) = (a == b) := by
  by_cases e : a = b
  · subst e; simp
  · have h : ¬ (Sum.inl a : Key) = Sum.inl b := fun q => e (Sum.inl.inj q)
    rw [decide_eq_false h]
    exact (beq_eq_false_iff_ne.mpr e).symm
theorem key_rr (a b : Str) : decide ((Sum.inr a : Key) = Sum.inr b) = decide (a = b) := by
  by_cases e : a = b
  · subst e; simp
  · have h : ¬ (Sum.inr a : Key) = Sum.inr b := fun q => e (Sum.inr.inj q)
    rw [decide_eq_false h, decide_eq_false e]
theorem key_lr (a : Int) (b : Str) : decide ((Sum.inl a : Key) = Sum.inr b) = false := decide_eq_false (fun q => nomatch q)
theorem key_rl (a : Str) (b : Int) : decide ((Sum.inr a : Key) = Sum.inl b) = false := decide_eq_false (fun q => nomatch q)

def mixKind (prog : Program) (w : World) : PySem.KeyKind prog w Key where
  is := keyIs
  hash := keyH w
  inj := fun v a b ha hb => by
    rcases keyIs_shape ha with ⟨i, t, rfl, rfl⟩ | ⟨x, t, rfl, rfl⟩
    · rcases keyIs_shape hb with ⟨j, u, rfl, e⟩ | ⟨y, u, rfl, e⟩
      · injection e with e1 _; rw [e1]
      · exact nomatch e
    · rcases keyIs_shape hb with ⟨j, u, rfl, e⟩ | ⟨y, u, rfl, e⟩
      · exact nomatch e
      · injection e with e1 _; rw [e1]
  byValue := fun k v h => by
    rcases keyIs_shape h with ⟨i, t, rfl, rfl⟩ | ⟨x, t, rfl, rfl⟩ <;> rfl
  pyHash := fun hv h => by
    rcases keyIs_shape hv with ⟨i, t, rfl, rfl⟩ | ⟨x, t, rfl, rfl⟩
    · exact wpAny_pyHash_int h
    · exact wpAny_pyHash_str h
  eqBool := fun hu hv h => by
    rcases keyIs_shape hu with ⟨i, t, rfl, rfl⟩ | ⟨x, t, rfl, rfl⟩
    · rcases keyIs_shape hv with ⟨j, u, rfl, rfl⟩ | ⟨y, u, rfl, rfl⟩
      · rw [key_ll] at h; exact wpAny_eqBool_int h
      · rw [key_lr] at h; exact SeqAt.EqAt.int_str i t y u _ _ _ _ h
    · rcases keyIs_shape hv with ⟨j, u, rfl, rfl⟩ | ⟨y, u, rfl, rfl⟩
      · rw [key_rl] at h; exact SeqAt.EqAt.str_int x t j u _ _ _ _ h
      · rw [key_rr] at h; exact wpAny_eqBool_str h
  «strs» := fun k x t v h => by
    rcases keyIs_shape h with ⟨i, u, rfl, e⟩ | ⟨y, u, rfl, e⟩
    · exact nomatch e
    · injection e with e1 _
      subst e1
      cases v <;> rfl

end L2

namespace L2
open PySem PySem.Spec PyProof.Rows

inductive V where
  | non | bl (b : Bool) | int (i : Int) | str (x : Str) | byt (b : Array UInt8) | flt (b : UInt64) | ref (a : Addr) | ty (n : String)
  deriving DecidableEq

def RelV : V → Value → Prop
  | .non, u => u = Value.none
  | .bl b, u => u = Value.bool b
  | .int i, u => ∃ t, u = Value.int i t
  | .str x, u => ∃ t, u = Value.str x t
  | .byt b, u => ∃ t, u = Value.bytes b t
  | .flt b, u => ∃ t, u = Value.float b t
  | .ref a, u => u = Value.ref a
  | .ty n, u => u = Value.type n

abbrev Vals : List V → List Value → Prop := Paired RelV
theorem Vals.length {xs : List V} {us : List Value} (r : Vals xs us) : xs.length = us.length := Paired.length r
theorem Vals.get : ∀ {xs : List V} {us : List Value} {i : Nat} {x : V}, Vals xs us → xs[i]? = some x → ∃ u, us[i]? = some u ∧ RelV x u
  | _, _, _, _, .nil, e => by simp at e
  | _, _, 0, _, .cons r _, e => by simp at e; subst e; exact ⟨_, rfl, r⟩
  | _, _, i + 1, x, .cons _ t, e => by
    obtain ⟨u, h1, h2⟩ := Vals.get (i := i) (x := x) t (by simpa using e)
    exact ⟨u, by simpa using h1, h2⟩
theorem Vals.set {x : V} {u : Value} (r : RelV x u) : ∀ {xs : List V} {us : List Value} (i : Nat), Vals xs us → Vals (xs.set i x) (us.set i u)
  | _, _, _, .nil => .nil
  | _, _, 0, .cons _ t => .cons r t
  | _, _, i + 1, .cons q t => .cons q (Vals.set r i t)
theorem Vals.append : ∀ {xs ys : List V} {us ws : List Value}, Vals xs us → Vals ys ws → Vals (xs ++ ys) (us ++ ws)
  | _, _, _, _, .nil, s => s
  | _, _, _, _, .cons r t, s => .cons r (Vals.append t s)
theorem Vals.take : ∀ {xs : List V} {us : List Value} (n : Nat), Vals xs us → Vals (xs.take n) (us.take n)
  | _, _, 0, _ => .nil
  | _, _, _ + 1, .nil => .nil
  | _, _, n + 1, .cons r t => .cons r (Vals.take n t)
theorem Vals.drop : ∀ {xs : List V} {us : List Value} (n : Nat), Vals xs us → Vals (xs.drop n) (us.drop n)
  | _, _, 0, r => r
  | _, _, _ + 1, .nil => .nil
  | _, _, n + 1, .cons _ t => Vals.drop n t
def RelO : Option V → Option Value → Prop
  | some v, some u => RelV v u
  | none, none => True
  | _, _ => False
def KV {κ : Type} : List (κ × V) → List (κ × Value) → Prop := Paired fun (p : κ × V) (q : κ × Value) => p.1 = q.1 ∧ RelV p.2 q.2

def kV : Key → V
  | .inl i => .int i
  | .inr x => .str x

inductive HO where
  | lst (xs : List V)
  | tup (xs : List V)
  | dK (kvs : List (Key × V)) | dT (kvs : List (List Key × V))
  | set (S : Int → Bool) (n : Nat)
  | ins (C dx : Addr) (fs : List (Str × V))
  | own (x : Addr)
  | xd (fs : List (Str × V))
  | met (f x : Addr)
  | rng (lo hi : Int)
  | frz (o : Obj) (u : HO)
  | tbl (ps : Array Value)
  | ext (φ : Heap → Prop)

abbrev Hp := Addr → Option HO
def upd (H : Hp) (a : Addr) (o : HO) : Hp := fun b => if b = a then some o else H b
theorem upd_same {H : Hp} {a : Addr} {o : HO} : upd H a o a = some o := by unfold upd; rw [if_pos rfl]
theorem upd_ne {H : Hp} {a b : Addr} {o : HO} (h : b ≠ a) : upd H a o b = H b := by unfold upd; rw [if_neg h]
theorem ne_of_none {H : Hp} {a b : Addr} {o : HO} (h : H a = some o) (h' : H b = none) : a ≠ b := by
  intro e; subst e; rw [h] at h'; cases h'

section
variable (P : Program) (w : World)
def ObjOk (H : Hp) (h : Heap) (a : Addr) : HO → Prop
  | .lst xs => xs.length ≤ sizeLine ∧ ∃ (its : List Value) (n : Nat), Vals xs its ∧ h.get? a = some { cls := .type "list", data := .seq its.toArray n }
  | .tup xs => xs.length ≤ sizeLine ∧ ∃ its : List Value, Vals xs its ∧ IsTup h a its.toArray
  | .dK kvs => kvs.length ≤ sizeLine ∧ (a == sysModules) = false ∧ ∃ vs, KV kvs vs ∧ h.DictOf (mixKind P w) a vs
  | .dT kvs => kvs.length ≤ sizeLine ∧ (a == sysModules) = false ∧ ∃ xs : List (List Key × Addr × Value),
      Paired (fun (p : List Key × V) (q : List Key × Addr × Value) => p.1 = q.1 ∧ H q.2.1 = some (.tup (p.1.map kV)) ∧ RelV p.2 q.2.2) kvs xs ∧
      ∃ o es ep, h.get? a = some o ∧ o.ExactDict ∧ o.data = .dict es ep ∧ es.toList = xs.map (entryOfKey (tupleKind (mixKind P w))) ∧ (xs.map (·.1)).Nodup
  | .set S n => h.SetOf (intKind P w) a S n
  | .ins C dx fs => H dx = some (.own a) ∧ fs.length ≤ 1000 ∧ dx ≠ a ∧ h.get? a = some (PySem.W.instObj C dx) ∧
      ∃ mA, h.Ns1 dx mA ∧ (∀ f, RelO (fs.lookup f) (mA f)) ∧ PySem.Within mA (fs.map (·.1))
  | .own _ => ∃ o, h.get? a = some o
  | .xd fs => ∃ mA, h.Ns1 a mA ∧ ∀ f, RelO (fs.lookup f) (mA f)
  | .rng lo hi => ∃ t u v, h.get? a = some { cls := .type "range", data := .fields #[.int lo t, .int hi u, .int 1 v] }
  | .frz o u => h.get? a = some o ∧ ObjOk H h a u
  | .tbl ps => h.get? a = some { cls := .none, data := .fields ps }
  | .met f x => h.get? a = some (PySem.W.methodObj (.ref f) (.ref x))
  | .ext φ => φ h ∧ (∃ o, h.get? a = some o) ∧ ∀ h1 h2 : Heap, φ h1 → (∀ o, h1.get? a = some o → h2.get? a = some o) → φ h2
def HOk (H : Hp) (h : Heap) : Prop := ∀ a o, H a = some o → ObjOk P w H h a o
end

section
variable {P : Program} {w : World} {H H' : Hp} {h h' : Heap} {a : Addr} {o : HO}
theorem ObjOk.lt (x : ObjOk P w H h a o) : a < h.objs.size := by
  cases o with
  | lst xs => obtain ⟨_, _, _, _, e⟩ := x; exact Heap.lt_size e
  | tup xs => obtain ⟨_, _, _, p⟩ := x; exact p.lt
  | dK kvs => obtain ⟨_, _, _, _, o, _, _, e, _⟩ := x; exact Heap.lt_size e
  | dT kvs => obtain ⟨_, _, _, _, o, _, _, e, _⟩ := x; exact Heap.lt_size e
  | set S n => obtain ⟨o, _, _, _, e, _⟩ := x; exact Heap.lt_size e
  | ins C dx fs => obtain ⟨_, _, _, e, _⟩ := x; exact Heap.lt_size e
  | own y => obtain ⟨_, e⟩ := x; exact Heap.lt_size e
  | xd fs => obtain ⟨_, ⟨_, _, _, e, _⟩, _⟩ := x; exact Heap.lt_size e
  | rng lo hi => obtain ⟨_, _, _, e⟩ := x; exact Heap.lt_size e
  | frz ob u => obtain ⟨e, _⟩ := x; exact Heap.lt_size e
  | tbl ps => exact Heap.lt_size (show h.get? a = some _ from x)
  | met f y => exact Heap.lt_size (show h.get? a = some _ from x)
  | ext φ => obtain ⟨_, ⟨_, e⟩, _⟩ := x; exact Heap.lt_size e
theorem Paired.mapP {α β : Type} {F G : α → β → Prop} : ∀ {l₁ : List α} {l₂ : List β}, Paired F l₁ l₂ → (∀ a b, F a b → G a b) → Paired G l₁ l₂
  | _, _, .nil, _ => .nil
  | _, _, .cons r t, f => .cons (f _ _ r) (Paired.mapP t f)
theorem Paired.imp' {α β : Type} {F G : α → β → Prop} (f : ∀ a b, F a b → G a b) {l₁ : List α} {l₂ : List β} (r : Paired F l₁ l₂) : Paired G l₁ l₂ := Paired.mapP r f
theorem ObjOk.stay (x : ObjOk P w H h a o) (k : ∀ b u, (b = a ∨ H b = some (.own a)) → h.get? b = some u → h'.get? b = some u)
    (ho : ∀ b, H b = some (.own a) → H' b = some (.own a)) (ht : ∀ b xs, H b = some (.tup xs) → H' b = some (.tup xs)) : ObjOk P w H' h' a o := by
  induction o with
  | lst xs => obtain ⟨z, its, n, r, e⟩ := x; exact ⟨z, its, n, r, k _ _ (.inl rfl) e⟩
  | tup xs => obtain ⟨z, its, r, ob, e, c⟩ := x; exact ⟨z, its, r, ob, k _ _ (.inl rfl) e, c⟩
  | dK kvs => obtain ⟨z, y, vs, r, ob, es, ep, e, c⟩ := x; exact ⟨z, y, vs, r, ob, es, ep, k _ _ (.inl rfl) e, c⟩
  | dT kvs =>
    obtain ⟨z, y, xs, r, ob, es, ep, e, c⟩ := x
    exact ⟨z, y, xs, Paired.mapP r fun p q z => ⟨z.1, ht _ _ z.2.1, z.2.2⟩, ob, es, ep, k _ _ (.inl rfl) e, c⟩
  | set S n => obtain ⟨ob, es, ep, t, e, c⟩ := x; exact ⟨ob, es, ep, t, k _ _ (.inl rfl) e, c⟩
  | ins C dx fs =>
    obtain ⟨d, z, ne, e, mA, ⟨od, es, ep, e2, c⟩, r⟩ := x
    exact ⟨ho _ d, z, ne, k _ _ (.inl rfl) e, mA, ⟨od, es, ep, k _ _ (.inr d) e2, c⟩, r⟩
  | own y => obtain ⟨ob, e⟩ := x; exact ⟨ob, k _ _ (.inl rfl) e⟩
  | xd fs => obtain ⟨mA, ⟨od, es, ep, e, c⟩, r⟩ := x; exact ⟨mA, ⟨od, es, ep, k _ _ (.inl rfl) e, c⟩, r⟩
  | rng lo hi => obtain ⟨t, u, v, e⟩ := x; exact ⟨t, u, v, k _ _ (.inl rfl) e⟩
  | frz ob u ih => obtain ⟨e, q⟩ := x; exact ⟨k _ _ (.inl rfl) e, ih q⟩
  | tbl ps =>
    have e : h.get? a = some { cls := .none, data := .fields ps } := x
    show h'.get? a = some { cls := .none, data := .fields ps }
    exact k a _ (.inl rfl) e
  | met f y =>
    have e : h.get? a = some (PySem.W.methodObj (.ref f) (.ref y)) := x
    show h'.get? a = some (PySem.W.methodObj (.ref f) (.ref y))
    exact k a _ (.inl rfl) e
  | ext φ => obtain ⟨p, ⟨o, e⟩, st⟩ := x; exact ⟨st _ _ p fun o q => k _ _ (.inl rfl) q, ⟨o, k _ _ (.inl rfl) e⟩, st⟩
theorem HOk.lt (x : HOk P w H h) (e : H a = some o) : a < h.objs.size := (x a o e).lt
theorem HOk.fresh (x : HOk P w H h) (e : h.objs.size ≤ a) : H a = none := by
  cases q : H a with
  | none => rfl
  | some u => exact absurd (Nat.lt_of_lt_of_le (x.lt q) e) (Nat.lt_irrefl _)
theorem HOk.kept (x : HOk P w H h) (k : ∀ b u, h.get? b = some u → h'.get? b = some u) : HOk P w H h' := fun a o e =>
  (x a o e).stay (fun b u _ q => k b u q) (fun _ q => q) fun _ _ q => q
theorem HOk.laid (x : HOk P w H h) (k : ∀ b u, h.get? b = some u → h'.get? b = some u) (hp : h.objs.size ≤ a) (new : ObjOk P w (upd H a o) h' a o) : HOk P w (upd H a o) h' := fun b u e => by
  have hn := x.fresh hp
  by_cases hb : b = a
  · subst hb; rw [upd_same] at e; cases e; exact new
  · rw [upd_ne hb] at e
    exact (x b u e).stay (fun c v _ q => k c v q) (fun c q => by rw [upd_ne (ne_of_none q hn)]; exact q) fun c xs q => by rw [upd_ne (ne_of_none q hn)]; exact q
end

def Rd (H : Hp) (a : Addr) (u : HO) : Prop := H a = some u ∨ ∃ o, H a = some (.frz o u)
theorem Rd.ok {P : Program} {w : World} {H : Hp} {h : Heap} {a : Addr} {u : HO} (r : Rd H a u) (x : HOk P w H h) : ObjOk P w H h a u := by
  rcases r with r | ⟨o, r⟩
  · exact x a u r
  · obtain ⟨_, q⟩ := x a _ r
    exact q
def Mut : Option HO → Prop
  | some (.lst _) => True
  | some (.dK _) => True
  | some (.dT _) => True
  | some (.set _ _) => True
  | some (.ins _ _ _) => True
  | some (.ext _) => True
  | _ => False
section
variable {P : Program} {w : World} {H : Hp} {h h' : Heap} {x e : Addr} {o' : HO}
theorem HOk.write (ok : HOk P w H h) (mu : Mut (H x)) (he : e = x ∨ H e = some (.own x)) (k : ∀ b u, b ≠ e → h.get? b = some u → h'.get? b = some u) (heo : ∃ u, h'.get? e = some u)
    (new : ObjOk P w (upd H x o') h' x o') : HOk P w (upd H x o') h' := fun b u q => by
  have nown : ∀ c y, H c = some (.own y) → c ≠ x := fun c y r z => by subst z; rw [r] at mu; exact mu
  have ntup : ∀ c xs, H c = some (.tup xs) → c ≠ x := fun c xs r z => by subst z; rw [r] at mu; exact mu
  by_cases hb : b = x
  · subst hb; rw [upd_same] at q; cases q; exact new
  · rw [upd_ne hb] at q
    by_cases hbe : b = e
    · have q' : H b = some (.own x) := by
        rcases he with z | z
        · exact absurd (hbe.trans z) hb
        · rw [hbe]; exact z
      rw [q] at q'; cases q'
      obtain ⟨v, hv⟩ := heo
      exact ⟨v, by rw [hbe]; exact hv⟩
    · refine (ok b u q).stay (fun c v hc r => k c v ?_ r) (fun c r => by rw [upd_ne (nown c b r)]; exact r) fun c xs r => by rw [upd_ne (ntup c xs r)]; exact r
      rcases hc with rfl | hc
      · exact hbe
      · rintro rfl
        rcases he with z | z
        · exact nown c b hc z
        · rw [hc] at z; cases z; exact hb rfl
end

structure Un (fs ex : List Addr) (H H' : Hp) (h h' : Heap) : Prop where
  keep : ∀ b o, h.get? b = some o → H b = none → b ∉ fs → b ∉ ex → h'.get? b = some o
  slot : ∀ b o, h.get? b = some o → H b = none → b ∈ fs → b ∉ ex → ∃ sl, h'.get? b = some { o with slots := sl }
  free : ∀ b o, h.get? b = some o → H b = none → b ∉ ex → H' b = none
  there : ∀ b o, h.get? b = some o → b ∉ ex → ∃ o', h'.get? b = some o'
  tups : ∀ b xs, H b = some (.tup xs) → H' b = some (.tup xs)
  frzs : ∀ b o u, H b = some (.frz o u) → H' b = some (.frz o u)
  tbls : ∀ b ps, H b = some (.tbl ps) → ∃ more, H' b = some (.tbl (ps ++ more))
section
variable {fs fs' ex ex' : List Addr} {H H1 H2 : Hp} {h h1 h2 h' : Heap} {a x e : Addr} {o : HO}
theorem Un.any (u : Un fs ex H H1 h h1) {b : Addr} {ob : Obj} (q : h.get? b = some ob) (n : H b = none) (hx : b ∉ ex) : ∃ sl, h1.get? b = some { ob with slots := sl } := by
  by_cases hb : b ∈ fs
  · exact u.slot b ob q n hb hx
  · exact ⟨ob.slots, u.keep b ob q n hb hx⟩
theorem Un.kept (k : ∀ b u, h.get? b = some u → h'.get? b = some u) : Un fs ex H H h h' :=
  ⟨fun b ob q _ _ _ => k b ob q, fun b ob q _ _ _ => ⟨ob.slots, k b ob q⟩, fun _ _ _ n _ => n, fun b ob q _ => ⟨ob, k b ob q⟩, fun _ _ q => q, fun _ _ _ q => q, fun _ ps q => ⟨#[], by rw [q]; simp⟩⟩
theorem Un.refl : Un fs ex H H h h := Un.kept fun _ _ q => q
theorem Un.laid (k : ∀ b u, h.get? b = some u → h'.get? b = some u) (hp : h.objs.size ≤ a) (hn : H a = none) : Un fs ex H (upd H a o) h h' where
  keep := fun b u q _ _ _ => k b u q
  slot := fun b u q _ _ _ => ⟨u.slots, k b u q⟩
  free := fun b u q n _ => by rw [upd_ne (Nat.ne_of_lt (Nat.lt_of_lt_of_le (Heap.lt_size q) hp))]; exact n
  there := fun b u q _ => ⟨u, k b u q⟩
  tups := fun b xs q => by rw [upd_ne (ne_of_none q hn)]; exact q
  frzs := fun b u xs q => by rw [upd_ne (ne_of_none q hn)]; exact q
  tbls := fun b ps q => ⟨#[], by rw [upd_ne (ne_of_none q hn), q]; simp⟩
theorem Un.write (mu : Mut (H x)) (he : e = x ∨ H e = some (.own x)) (k : ∀ b u, b ≠ e → h.get? b = some u → h'.get? b = some u) (heo : ∃ u, h'.get? e = some u) : Un fs ex H (upd H x o) h h' := by
  have hx : ∀ b, H b = none → b ≠ x := fun b n z => by subst z; rw [n] at mu; exact mu
  have hb : ∀ b, H b = none → b ≠ e := fun b n z => by
    subst z
    rcases he with r | r
    · exact hx b n r
    · rw [n] at r; cases r
  have hm : ∀ b u, H b = some u → ¬ Mut (some u) → b ≠ x := fun b u q nm z => by subst z; rw [q] at mu; exact nm mu
  refine ⟨fun b u q n _ _ => k b u (hb b n) q, fun b u q n _ _ => ⟨u.slots, k b u (hb b n) q⟩, fun b u q n _ => by rw [upd_ne (hx b n)]; exact n, fun b u q _ => ?_,
    fun b xs q => by rw [upd_ne (hm b _ q fun z => z)]; exact q, fun b u xs q => by rw [upd_ne (hm b _ q fun z => z)]; exact q, fun b ps q => ⟨#[], by rw [upd_ne (hm b _ q fun z => z), q]; simp⟩⟩
  by_cases hbe : b = e
  · subst hbe; exact heo
  · exact ⟨u, k b u hbe q⟩
end

def trk (h : Heap) (H : Hp) : List Addr := (List.range h.objs.size).filter fun a => (H a).isSome
def hidT (h : Heap) (H : Hp) : Heap := PySem.W.hideAll h (trk h H)
theorem hidT_size (h : Heap) (H : Hp) : (hidT h H).objs.size = h.objs.size := PySem.W.hideAll_size _ _
theorem hidT_get {h : Heap} {H : Hp} {b : Addr} {o : Obj} (e : h.get? b = some o) (n : H b = none) : (hidT h H).get? b = some o :=
  PySem.W.hideAll_get _ e fun hm => by
    have q : (H b).isSome = true := (List.mem_filter.mp hm).2
    rw [n] at q; simp at q
theorem of_hidT {h : Heap} {H : Hp} {b : Addr} {o : Obj} (e : (hidT h H).get? b = some o) : h.get? b = some o ∧ H b = none := by
  have e' : h.get? b = some o := PySem.W.of_hideAll (trk h H) e
  refine ⟨e', ?_⟩
  cases q : H b with
  | none => rfl
  | some x =>
    have hm : b ∈ trk h H := List.mem_filter.mpr ⟨List.mem_range.mpr (Heap.lt_size e'), by simp [q]⟩
    have z : (hidT h H).get? b = none := PySem.W.hideAll_none (trk h H) hm
    rw [z] at e; cases e

end L2

namespace L2
open PySem PySem.Spec PyProof.Rows

structure Mod (K : PySem.W.Frag) (mg : Str → Option Value) (base : Heap) : Prop where
  kin : K.In base
  glob : base.Ns mainGlobals mg
  blt : ∃ mb, base.Ns builtinsNs mb ∧ ∀ x : Str, x ≠ "__name__" → mb x = bootBuiltins x
  nolimit : base.NoLimit

structure Cx where
  prog : Program
  w : World
  K : PySem.W.Frag
  mg : Str → Option Value
  base : Heap
  A : Around
  N : List Str
  s₀ : Shared
  H₀ : Hp
  env : Env
  outer : List Env
  stack : List Env
  ex : List Addr
  fn : Str → Bool
  calm : Bool
  pn : List (Addr × Obj)
  xe : Value → Shared → Prop
def frs (l : List Env) : List Addr := l.filterMap (·.frame)
abbrev Cx.fs (X : Cx) : List Addr := frs X.outer

def Vis (sc : Scope) (x : Str) : Prop := sc.names.lookup x = some .local ∨ sc.names.lookup x = some .cell ∨ sc.names.lookup x = some .free
def Loc (sc : Scope) (x : Str) : Prop := sc.names.lookup x = some .local ∨ sc.names.lookup x = some .cell
def Look (env : Env) (h : Heap) (m : Str → Option Value) (x : Str) (u : Value) : Prop :=
  (env.kindOf x = some .local ∧ m x = some u) ∨ ((env.kindOf x = some .cell ∨ env.kindOf x = some .free) ∧ ∃ c, env.cells.lookup x = some c ∧ h.IsCell c (some u))

structure Cx.Ok (X : Cx) : Prop where
  mod : Mod X.K X.mg X.base
  kind : X.env.scope.kind = .function
  glob : X.env.globals = mainGlobals
  blt : X.env.builtins = builtinsNs
  above : X.s₀.heap.objs.size ≤ X.env.locals
  inj : ∀ x y c, X.env.cells.lookup x = some c → X.env.cells.lookup y = some c → x = y
  has : ∀ x, (X.env.kindOf x = some .cell ∨ X.env.kindOf x = some .free) → ∃ c, X.env.cells.lookup x = some c
  cab : ∀ x c, X.fn x = true → X.env.cells.lookup x = some c → X.s₀.heap.objs.size ≤ c
  hd : X.calm = true → X.A.handled = none
  frames : X.A.frames = some X.stack
  stk : X.stack = X.outer ∨ (X.stack = X.env :: X.outer ∧ X.env.frame = some X.env.locals)
  exf : ∀ b ∈ X.ex, b ≠ X.env.locals ∧ ∀ x c, X.env.cells.lookup x = some c → c ≠ b
  bs : ∀ b o, X.base.get? b = some o → X.s₀.heap.get? b = some o ∧ X.H₀ b = none
  bsz : X.base.objs.size ≤ X.s₀.heap.objs.size
  noex : ∀ b o, X.base.get? b = some o → b ∉ X.ex
  exfs : ∀ b ∈ X.ex, b ∉ X.fs
  funs : X.s₀.heap.FunFrames X.base X.outer
  frf : ∀ b ∈ X.fs, X.H₀ b = none

structure Inv (X : Cx) (pins : List (Addr × Obj)) (σ : List (Option V)) (H : Hp) (s : Shared) : Prop where
  ok : X.Ok
  os : s.os = X.s₀.os
  bare : AllBare s.gens
  base : Un X.fs X.ex X.H₀ H X.s₀.heap s.heap
  loc : ∃ m, s.heap.Ns X.env.locals m ∧ ∀ (i : Nat) (x : Str) (v : V), X.N[i]? = some x → σ[i]? = some (some v) → Vis X.env.scope x → ∃ u, RelV v u ∧ Look X.env s.heap m x u
  cell : ∀ x c, X.env.cells.lookup x = some c → ∃ v, s.heap.IsCell c v
  free : H X.env.locals = none
  freeC : ∀ x c, X.env.cells.lookup x = some c → H c = none
  pin : ∀ p ∈ X.pn ++ pins, s.heap.get? p.1 = some p.2 ∧ H p.1 = none ∧ p.1 ≠ X.env.locals ∧ p.1 ∉ X.fs ∧ ∀ v, p.2.data ≠ .cell v
  hok : HOk X.prog X.w H s.heap
  len : σ.length = X.N.length

section
variable {X : Cx} {pins : List (Addr × Obj)} {σ : List (Option V)} {H H' : Hp} {s : Shared} {h' : Heap}

theorem Cx.Ok.nofr (ok : X.Ok) {b : Addr} {o : Obj} (e : X.base.get? b = some o) : b ∉ X.fs := fun hb => by
  have := (ok.funs.mem hb).1
  rw [e] at this; cases this
theorem Inv.bs (I : Inv X pins σ H s) : ∀ b o, X.base.get? b = some o → s.heap.get? b = some o ∧ H b = none := fun b o e =>
  ⟨I.base.keep b o (I.ok.bs b o e).1 (I.ok.bs b o e).2 (I.ok.nofr e) (I.ok.noex b o e), I.base.free b o (I.ok.bs b o e).1 (I.ok.bs b o e).2 (I.ok.noex b o e)⟩
theorem Inv.bk (I : Inv X pins σ H s) : ∀ b o, X.base.get? b = some o → s.heap.get? b = some o := fun b o e => (I.bs b o e).1
theorem Inv.mod (I : Inv X pins σ H s) : Mod X.K X.mg X.base := I.ok.mod
theorem Inv.kIn (I : Inv X pins σ H s) : X.K.In s.heap := I.ok.mod.kin.keeps I.bk
theorem Inv.lt (I : Inv X pins σ H s) : X.env.locals < s.heap.objs.size := let ⟨_, hn, _⟩ := I.loc; hn.lt
theorem Inv.sz (I : Inv X pins σ H s) : X.s₀.heap.objs.size ≤ s.heap.objs.size := Nat.le_trans I.ok.above (Nat.le_of_lt I.lt)
theorem Inv.nofs (I : Inv X pins σ H s) {a : Addr} (h : s.heap.objs.size ≤ a) : a ∉ X.fs := fun hb => by
  obtain ⟨_, o, ho, _⟩ := I.ok.funs.mem hb
  exact absurd (Nat.lt_of_lt_of_le (Heap.lt_size ho) (Nat.le_trans I.sz h)) (Nat.lt_irrefl _)
theorem Inv.cne (I : Inv X pins σ H s) : ∀ x c, X.env.cells.lookup x = some c → c ≠ X.env.locals := fun x c e z => by
  obtain ⟨v, o, ho, hd⟩ := I.cell x c e
  obtain ⟨m, ⟨o', es, ep, ho', hd', _⟩, _⟩ := I.loc
  rw [z, ho'] at ho; cases ho; rw [hd'] at hd; cases hd
theorem Inv.funs (I : Inv X pins σ H s) : s.heap.FunFrames X.base X.outer := by
  have all : ∀ (l : List Env), (∀ b ∈ frs l, b ∈ X.fs) → X.s₀.heap.FunFrames X.base l → s.heap.FunFrames X.base l := by
    intro l
    induction l with
    | nil => intro _ _; trivial
    | cons env r ih =>
      intro hs hl
      obtain ⟨hk, ⟨L, o, hf, hn, ho, hd⟩, hr⟩ := hl
      have hL : L ∈ X.fs := hs L (by unfold frs; rw [List.filterMap_cons, hf]; exact List.mem_cons_self)
      obtain ⟨sl, e⟩ := I.base.slot L o ho (I.ok.frf L hL) hL fun z => I.ok.exfs L z hL
      exact ⟨hk, ⟨L, _, hf, hn, e, hd⟩, ih (fun b hb => hs b (by unfold frs; rw [List.filterMap_cons, hf]; exact List.mem_cons_of_mem _ hb)) hr⟩
  exact all X.outer (fun _ hb => hb) I.ok.funs

theorem Inv.stack (I : Inv X pins σ H s) : s.heap.FunFrames X.base X.stack := by
  rcases I.ok.stk with e | ⟨e, hf⟩
  · rw [e]; exact I.funs
  · rw [e]
    obtain ⟨m, hn, _⟩ := I.loc
    refine .cons (by rw [I.ok.kind]; decide) hf hn ?_ I.funs
    exact Heap.get?_none_of_le (Nat.le_trans I.ok.bsz I.ok.above)
theorem Inv.stkSub (I : Inv X pins σ H s) : ∀ b ∈ frs X.stack, b ∈ X.env.locals :: X.fs := fun b hb => by
  rcases I.ok.stk with e | ⟨e, hf⟩
  · rw [e] at hb; exact List.mem_cons_of_mem _ hb
  · rw [e] at hb
    unfold frs at hb
    rw [List.filterMap_cons, hf] at hb
    exact hb
theorem Inv.stkFree (I : Inv X pins σ H s) : ∀ b ∈ frs X.stack, H b = none := fun b hb => by
  rcases List.mem_cons.mp (I.stkSub b hb) with e | hb
  · rw [e]; exact I.free
  · obtain ⟨_, o, ho, _⟩ := I.ok.funs.mem hb
    exact I.base.free b o ho (I.ok.frf b hb) fun z => I.ok.exfs b z hb

theorem Inv.step {g' : Array GenState} {t' : Nat} {d' : Drawn} {ch : List Addr} (I : Inv X pins σ H s)
    (hch : ∀ b ∈ ch, (b ∈ X.ex ∨ X.s₀.heap.objs.size ≤ b) ∧ b ≠ X.env.locals ∧ (∀ x c, X.env.cells.lookup x = some c → c ≠ b) ∧ ∀ p ∈ X.pn ++ pins, p.1 ≠ b)
    (keep : ∀ b o, b ≠ X.env.locals → b ∉ X.fs → b ∉ ch → s.heap.get? b = some o → H b = none → h'.get? b = some o)
    (slot : ∀ b o, b ≠ X.env.locals → b ∈ X.fs → b ∉ ch → s.heap.get? b = some o → H b = none → ∃ sl, h'.get? b = some { o with slots := sl }) (free : ∀ b o, b ∉ ch → s.heap.get? b = some o → H b = none → H' b = none)
    (there : ∀ b o, b ∉ ch → s.heap.get? b = some o → ∃ o', h'.get? b = some o')
    (tups : ∀ b xs, H b = some (.tup xs) → H' b = some (.tup xs)) (frzs : ∀ b o u, H b = some (.frz o u) → H' b = some (.frz o u)) (tbls : ∀ b ps, H b = some (.tbl ps) → ∃ more, H' b = some (.tbl (ps ++ more)))
    (ns : ∀ m, s.heap.Ns X.env.locals m → h'.Ns X.env.locals m) (hok : HOk X.prog X.w H' h') (hg : AllBare g') :
    Inv X pins σ H' { s with heap := h', gens := g', drawn := d', toks := t' } := by
  have neL : ∀ b o, X.s₀.heap.get? b = some o → b ≠ X.env.locals := fun b o e => Nat.ne_of_lt (Nat.lt_of_lt_of_le (Heap.lt_size e) I.ok.above)
  have neC : ∀ b o, X.s₀.heap.get? b = some o → b ∉ X.ex → b ∉ ch := fun b o e hx hb => by
    rcases (hch b hb).1 with z | z
    · exact hx z
    · exact absurd (Nat.lt_of_lt_of_le (Heap.lt_size e) z) (Nat.lt_irrefl _)
  have cellK : ∀ x c, X.env.cells.lookup x = some c → ∀ v, s.heap.IsCell c v → h'.IsCell c v := fun x c e v ⟨o, ho, hd⟩ => by
    have nch : c ∉ ch := fun z => (hch c z).2.2.1 x c e rfl
    by_cases hc : c ∈ X.fs
    · obtain ⟨sl, q⟩ := slot c o (I.cne x c e) hc nch ho (I.freeC x c e)
      exact ⟨_, q, hd⟩
    · exact ⟨o, keep c o (I.cne x c e) hc nch ho (I.freeC x c e), hd⟩
  refine ⟨I.ok, I.os, hg, ⟨fun b o e n hb hx => ?_, fun b o e n hb hx => ?_, fun b o e n hx => ?_, fun b o e hx => ?_, fun b xs e => tups b xs (I.base.tups b xs e), fun b o xs e => frzs b o xs (I.base.frzs b o xs e), fun b ps e => ?_⟩, ?_, fun x c e => ?_, ?_, fun x c e => ?_, fun p hp => ?_, hok, I.len⟩
  · exact keep b o (neL b o e) hb (neC b o e hx) (I.base.keep b o e n hb hx) (I.base.free b o e n hx)
  · obtain ⟨sl, e1⟩ := I.base.slot b o e n hb hx
    obtain ⟨sl', e2⟩ := slot b _ (neL b o e) hb (neC b o e hx) e1 (I.base.free b o e n hx)
    exact ⟨sl', e2⟩
  · obtain ⟨o', e1⟩ := I.base.there b o e hx
    exact free b o' (neC b o e hx) e1 (I.base.free b o e n hx)
  · obtain ⟨o', e1⟩ := I.base.there b o e hx
    exact there b o' (neC b o e hx) e1
  · obtain ⟨m1, e1⟩ := I.base.tbls b ps e
    obtain ⟨m2, e2⟩ := tbls b _ e1
    exact ⟨m1 ++ m2, by rw [e2, Array.append_assoc]⟩
  · obtain ⟨m, hn, hl⟩ := I.loc
    refine ⟨m, ns m hn, fun i x v e1 e2 e3 => ?_⟩
    obtain ⟨u, r, l⟩ := hl i x v e1 e2 e3
    refine ⟨u, r, ?_⟩
    rcases l with l | ⟨k, c, e, z⟩
    · exact .inl l
    · exact .inr ⟨k, c, e, cellK x c e _ z⟩
  · obtain ⟨v, z⟩ := I.cell x c e
    exact ⟨v, cellK x c e v z⟩
  · obtain ⟨m, ⟨o, _, _, ho, _⟩, _⟩ := I.loc
    exact free _ o (fun z => (hch _ z).2.1 rfl) ho I.free
  · obtain ⟨v, o, ho, hd⟩ := I.cell x c e
    exact free c o (fun z => (hch c z).2.2.1 x c e rfl) ho (I.freeC x c e)
  · obtain ⟨e, n, ne, nf, d⟩ := I.pin p hp
    have nch : p.1 ∉ ch := fun z => (hch p.1 z).2.2.2 p hp rfl
    exact ⟨keep p.1 p.2 ne nf nch e n, free p.1 p.2 nch e n, ne, nf, d⟩
theorem Inv.un {t' : Nat} (I : Inv X pins σ H s) (u : Un X.fs [] H H' s.heap h') (hok : HOk X.prog X.w H' h') : Inv X pins σ H' { s with heap := h', toks := t' } := by
  obtain ⟨m, ⟨o, es, ep, ho, r⟩, _⟩ := id I.loc
  obtain ⟨sl, hL⟩ := u.any ho I.free (by simp)
  exact I.step (g' := s.gens) (d' := s.drawn) (ch := []) (fun _ z => nomatch z) (fun b o _ hb _ e n => u.keep b o e n hb (by simp)) (fun b o _ hb _ e n => u.slot b o e n hb (by simp)) (fun b o _ e n => u.free b o e n (by simp)) (fun b o _ e => u.there b o e (by simp)) u.tups u.frzs u.tbls (fun m' hm => by
    obtain ⟨o', es', ep', ho', r'⟩ := hm
    rw [ho] at ho'; cases ho'
    exact ⟨_, es', ep', hL, r'⟩) hok I.bare
theorem Inv.call {g' : Array GenState} {t' : Nat} {d' : Drawn} {ch : List Addr} (I : Inv X pins σ H s) (u : Un (frs X.stack) ch H H' s.heap h') (hok : HOk X.prog X.w H' h') (hg : AllBare g')
    (hch : ∀ b ∈ ch, (b ∈ X.ex ∨ X.s₀.heap.objs.size ≤ b) ∧ b ≠ X.env.locals ∧ (∀ x c, X.env.cells.lookup x = some c → c ≠ b) ∧ ∀ p ∈ X.pn ++ pins, p.1 ≠ b) :
    Inv X pins σ H' { s with heap := h', gens := g', drawn := d', toks := t' } := by
  obtain ⟨m, ⟨o, es, ep, ho, r⟩, _⟩ := id I.loc
  obtain ⟨sl, hL⟩ := u.any ho I.free fun z => (hch _ z).2.1 rfl
  exact I.step (ch := ch) hch (fun b o hL hb hc e n => u.keep b o e n (fun z => (List.mem_cons.mp (I.stkSub b z)).elim hL hb) hc) (fun b o _ _ hc e n => u.any e n hc) (fun b o hc e n => u.free b o e n hc) (fun b o hc e => u.there b o e hc) u.tups u.frzs u.tbls (fun m' hm => by
    obtain ⟨o', es', ep', ho', r'⟩ := hm
    rw [ho] at ho'; cases ho'
    exact ⟨_, es', ep', hL, r'⟩) hok hg
theorem Inv.turned {t' : Nat} {it : Addr} (I : Inv X pins σ H s) (k : ∀ b o, b ≠ it → s.heap.get? b = some o → h'.get? b = some o) (hn : H it = none) (hL : it ≠ X.env.locals)
    (h1 : it ∈ X.ex ∨ X.s₀.heap.objs.size ≤ it) (h2 : ∀ x c, X.env.cells.lookup x = some c → c ≠ it) (h3 : ∀ p ∈ X.pn ++ pins, p.1 ≠ it) : Inv X pins σ H { s with heap := h', toks := t' } := by
  have nit : ∀ b u, H b = some u → b ≠ it := fun b u e z => by rw [z, hn] at e; cases e
  refine I.step (g' := s.gens) (d' := s.drawn) (ch := [it]) (fun b hb => ?_) (fun b o _ _ hc e _ => k b o (fun z => hc (by simp [z])) e) (fun b o _ _ hc e _ => ⟨o.slots, k b o (fun z => hc (by simp [z])) e⟩) (fun _ _ _ _ n => n)
    (fun b o hc e => ⟨o, k b o (fun z => hc (by simp [z])) e⟩) (fun _ _ e => e) (fun _ _ _ e => e) (fun b ps e => ⟨#[], by rw [e]; simp⟩) (fun m hm => ?_) (fun b u e => ?_) I.bare
  · have e : b = it := by simpa using hb
    subst e
    exact ⟨h1, hL, h2, h3⟩
  · obtain ⟨o, es, ep, ho, r⟩ := hm
    exact ⟨o, es, ep, k _ o (Ne.symm hL) ho, r⟩
  · refine (I.hok b u e).stay (fun c v hc q => k c v ?_ q) (fun _ q => q) fun _ _ q => q
    rcases hc with z | z
    · rw [z]; exact nit b u e
    · exact nit c _ z
theorem Inv.tok (I : Inv X pins σ H s) (t : Nat) : Inv X pins σ H { s with toks := t } := I.un (h' := s.heap) (t' := t) Un.refl I.hok
theorem Inv.kept {t' : Nat} (I : Inv X pins σ H s) (k : ∀ b u, s.heap.get? b = some u → h'.get? b = some u) : Inv X pins σ H { s with heap := h', toks := t' } := I.un (Un.kept k) (I.hok.kept k)
theorem Inv.laid {a : Addr} {o : HO} {t' : Nat} (I : Inv X pins σ H s) (k : ∀ b u, s.heap.get? b = some u → h'.get? b = some u) (hp : s.heap.objs.size ≤ a) (new : ObjOk X.prog X.w (upd H a o) h' a o) :
    Inv X pins σ (upd H a o) { s with heap := h', toks := t' } := I.un (Un.laid k hp (I.hok.fresh hp)) (I.hok.laid k hp new)
theorem Inv.write {x e : Addr} {o : HO} {t' : Nat} (I : Inv X pins σ H s) (mu : Mut (H x)) (he : e = x ∨ H e = some (.own x)) (k : ∀ b u, b ≠ e → s.heap.get? b = some u → h'.get? b = some u) (heo : ∃ u, h'.get? e = some u)
    (new : ObjOk X.prog X.w (upd H x o) h' x o) : Inv X pins σ (upd H x o) { s with heap := h', toks := t' } := I.un (Un.write mu he k heo) (I.hok.write mu he k heo new)
theorem Inv.pins_of {pins' : List (Addr × Obj)} (I : Inv X pins σ H s) (h : ∀ p ∈ pins', s.heap.get? p.1 = some p.2 ∧ H p.1 = none ∧ p.1 ≠ X.env.locals ∧ p.1 ∉ X.fs ∧ ∀ v, p.2.data ≠ .cell v) : Inv X pins' σ H s :=
  ⟨I.ok, I.os, I.bare, I.base, I.loc, I.cell, I.free, I.freeC, fun p hp => (List.mem_append.mp hp).elim (fun z => I.pin p (List.mem_append_left _ z)) (h p), I.hok, I.len⟩

theorem nodup_ix {N : List Str} (hN : N.Nodup) {i j : Nat} {x : Str} (a : N[i]? = some x) (b : N[j]? = some x) : i = j := by
  obtain ⟨h1, e1⟩ := List.getElem?_eq_some_iff.mp a
  obtain ⟨h2, e2⟩ := List.getElem?_eq_some_iff.mp b
  exact (List.getElem_inj hN).mp (e1.trans e2.symm)

theorem store_ok2 {M : Model} {A : Around} {E : Value → Shared → Prop} {i : Nat} {x : Str} {v : V} {u : Value} {Q : Unit → Shared → Prop} (I : Inv X pins σ H s) (hN : X.N.Nodup) (hi : X.N[i]? = some x) (hx : Loc X.env.scope x) (r : RelV v u)
    (h : ∀ s', Inv X pins (σ.set i (some v)) H s' → (∃ a, Heap.SameBut a s.heap s'.heap ∧ (a = X.env.locals ∨ X.env.cells.lookup x = some a)) → Q () s') (hf : X.fn x = true ∨ X.env.scope.names.lookup x = some .local := by first | exact .inl rfl | exact .inr rfl | assumption) : wpAny M A (storeName X.env x u) Q E s := by
  obtain ⟨m, hn, hl⟩ := id I.loc
  have hcls : (X.env.scope.kind == .class || (X.env.scope.kind == .module && X.env.locals != X.env.globals)) = false := by rw [I.ok.kind]; rfl
  have hiσ : i < σ.length := by rw [I.len]; exact (List.getElem?_eq_some_iff.mp hi).1
  have cne := I.cne
  have tracked : ∀ {a : Addr} {h' : Heap}, (∃ o, s.heap.get? a = some o ∧ H a = none) → Heap.SameBut a s.heap h' → HOk X.prog X.w H h' := fun {a h'} ha hs b ob e => by
    obtain ⟨_, _, hfree⟩ := ha
    refine (I.hok b ob e).stay (fun c w' hc q => (hs.2 c ?_).trans q) (fun _ q => q) fun _ _ q => q
    rintro rfl
    rcases hc with rfl | hc
    · rw [hfree] at e; cases e
    · rw [hfree] at hc; cases hc
  rcases hx with hk | hk
  · refine wpAny_storeName_local hk hn (fun h' hn' hs => ?_) hcls
    obtain ⟨oL, _, _, hoL, _⟩ := id hn
    refine h _ ⟨I.ok, I.os, I.bare, ⟨fun b o e n hb hx => ?_, fun b o e n hb hx => ?_, I.base.free, fun b o e hx => ?_, I.base.tups, I.base.frzs, I.base.tbls⟩, ⟨_, hn', fun j y v' e1 e2 e3 => ?_⟩, fun y c e => ?_, I.free, I.freeC, fun p hp => ?_, tracked ⟨oL, hoL, I.free⟩ hs, by simpa using I.len⟩ ⟨_, hs, .inl rfl⟩
    · exact (hs.2 b (Nat.ne_of_lt (Nat.lt_of_lt_of_le (Heap.lt_size e) I.ok.above))).trans (I.base.keep b o e n hb hx)
    · obtain ⟨sl, e1⟩ := I.base.slot b o e n hb hx
      exact ⟨sl, (hs.2 b (Nat.ne_of_lt (Nat.lt_of_lt_of_le (Heap.lt_size e) I.ok.above))).trans e1⟩
    · obtain ⟨o', e1⟩ := I.base.there b o e hx
      exact ⟨o', (hs.2 b (Nat.ne_of_lt (Nat.lt_of_lt_of_le (Heap.lt_size e) I.ok.above))).trans e1⟩
    · by_cases hj : j = i
      · subst hj
        rw [hi] at e1; cases e1
        rw [List.getElem?_set_self hiσ] at e2
        cases e2
        exact ⟨u, r, .inl ⟨hk, by simp⟩⟩
      · rw [List.getElem?_set_ne (Ne.symm hj)] at e2
        obtain ⟨u', r', q⟩ := hl j y v' e1 e2 e3
        refine ⟨u', r', ?_⟩
        rcases q with ⟨k, e⟩ | ⟨k, c, e, z⟩
        · refine .inl ⟨k, ?_⟩
          have : y ≠ x := fun e => hj (nodup_ix hN e1 (e ▸ hi))
          simp [this, e]
        · exact .inr ⟨k, c, e, z.sameBut hs (cne y c e)⟩
    · obtain ⟨w', z⟩ := I.cell y c e
      exact ⟨w', z.sameBut hs (cne y c e)⟩
    · obtain ⟨e, n, ne, nf, d⟩ := I.pin p hp
      exact ⟨(hs.2 p.1 ne).trans e, n, ne, nf, d⟩
  · have hfn : X.fn x = true := by
      rcases hf with z | z
      · exact z
      · rw [z] at hk; cases hk
    obtain ⟨c, hc⟩ := I.ok.has x (.inl hk)
    obtain ⟨w', z⟩ := I.cell x c hc
    refine wpAny_storeName_cell I.ok.kind hk hc z (fun h' hc' hs => ?_)
    obtain ⟨oc, hoc, hocd⟩ := id z
    refine h { s with heap := h' } ⟨I.ok, I.os, I.bare, ⟨fun b o e n hb hx => ?_, fun b o e n hb hx => ?_, I.base.free, fun b o e hx => ?_, I.base.tups, I.base.frzs, I.base.tbls⟩, ⟨m, hn.sameBut hs (Ne.symm (cne x c hc)), fun j y v' e1 e2 e3 => ?_⟩, fun y c' e => ?_, I.free, I.freeC, fun p hp => ?_, tracked ⟨oc, hoc, I.freeC x c hc⟩ hs, by simpa using I.len⟩ ⟨c, hs, .inr hc⟩
    · exact (hs.2 b (Nat.ne_of_lt (Nat.lt_of_lt_of_le (Heap.lt_size e) (I.ok.cab x c hfn hc)))).trans (I.base.keep b o e n hb hx)
    · obtain ⟨sl, e1⟩ := I.base.slot b o e n hb hx
      exact ⟨sl, (hs.2 b (Nat.ne_of_lt (Nat.lt_of_lt_of_le (Heap.lt_size e) (I.ok.cab x c hfn hc)))).trans e1⟩
    · obtain ⟨o', e1⟩ := I.base.there b o e hx
      exact ⟨o', (hs.2 b (Nat.ne_of_lt (Nat.lt_of_lt_of_le (Heap.lt_size e) (I.ok.cab x c hfn hc)))).trans e1⟩
    · by_cases hj : j = i
      · subst hj
        rw [hi] at e1; cases e1
        rw [List.getElem?_set_self hiσ] at e2
        cases e2
        exact ⟨u, r, .inr ⟨.inl hk, c, hc, hc'⟩⟩
      · rw [List.getElem?_set_ne (Ne.symm hj)] at e2
        obtain ⟨u', r', q⟩ := hl j y v' e1 e2 e3
        refine ⟨u', r', ?_⟩
        rcases q with q | ⟨k, c', e, z'⟩
        · exact .inl q
        · refine .inr ⟨k, c', e, z'.sameBut hs ?_⟩
          rintro rfl
          exact hj (nodup_ix hN e1 (I.ok.inj _ _ _ e hc ▸ hi))
    · by_cases hcc : c' = c
      · subst hcc; exact ⟨_, hc'⟩
      · obtain ⟨w2, z2⟩ := I.cell y c' e
        exact ⟨w2, z2.sameBut hs hcc⟩
    · obtain ⟨e, n, ne, nf, d⟩ := I.pin p hp
      refine ⟨(hs.2 p.1 ?_).trans e, n, ne, nf, d⟩
      intro q
      rw [q, hoc] at e
      have q' : oc = p.2 := Option.some.inj e
      exact d w' (by rw [← q']; exact hocd)
theorem store_ok {M : Model} {A : Around} {E : Value → Shared → Prop} {i : Nat} {x : Str} {v : V} {u : Value} {Q : Unit → Shared → Prop} (I : Inv X pins σ H s) (hN : X.N.Nodup) (hi : X.N[i]? = some x) (hx : Loc X.env.scope x) (r : RelV v u)
    (h : ∀ s', Inv X pins (σ.set i (some v)) H s' → Q () s') (hf : X.fn x = true ∨ X.env.scope.names.lookup x = some .local := by first | exact .inl rfl | exact .inr rfl | assumption) : wpAny M A (storeName X.env x u) Q E s :=
  store_ok2 I hN hi hx r (fun s' I' _ => h s' I') hf
theorem Inv.call' {s' : Shared} {ch : List Addr} (I : Inv X pins σ H s) (ho : s'.os = s.os) (u : Un (frs X.stack) ch H H' s.heap s'.heap) (hok : HOk X.prog X.w H' s'.heap) (hg : AllBare s'.gens)
    (hch : ∀ b ∈ ch, (b ∈ X.ex ∨ X.s₀.heap.objs.size ≤ b) ∧ b ≠ X.env.locals ∧ (∀ x c, X.env.cells.lookup x = some c → c ≠ b) ∧ ∀ p ∈ X.pn ++ pins, p.1 ≠ b) : Inv X pins σ H' s' := by
  obtain ⟨h', g', d', t', o'⟩ := s'
  have e : o' = s.os := ho
  subst e
  exact I.call (g' := g') (t' := t') (d' := d') u hok hg hch
end

abbrev XK := Value → Option Addr → Hp → Prop
abbrev St := List (Option V)
abbrev VK := V → Hp → Prop
abbrev TE := St → Hp → VK → Prop
abbrev TT := St → Hp → (Bool → Hp → Prop) → Prop
abbrev TA := St → Hp → (List V → Hp → Prop) → Prop
structure Ends where
  nx : St → Hp → Prop
  rt : VK
  bk : St → Hp → Prop := fun _ _ => False
  ct : St → Hp → Prop := fun _ _ => False
abbrev TS := Ends → St → Hp → Prop

def EP (X : Cx) (pins : List (Addr × Obj)) (σ : St) (Q : VK) (u : Value) (s' : Shared) : Prop := ∃ v H', Inv X pins σ H' s' ∧ RelV v u ∧ Q v H'
def TP (X : Cx) (pins : List (Addr × Obj)) (σ : St) (Q : Bool → Hp → Prop) (b : Bool) (s' : Shared) : Prop := ∃ H', Inv X pins σ H' s' ∧ Q b H'
def AP (X : Cx) (pins : List (Addr × Obj)) (σ : St) (Q : List V → Hp → Prop) (us : List Value) (s' : Shared) : Prop := ∃ vs H', Inv X pins σ H' s' ∧ Vals vs us ∧ Q vs H'
def SP (X : Cx) (pins : List (Addr × Obj)) (D : Ends) (f : Flow) (s' : Shared) : Prop :=
  match f with
  | .next => ∃ σ' H', Inv X pins σ' H' s' ∧ D.nx σ' H'
  | .brk => ∃ σ' H', Inv X pins σ' H' s' ∧ D.bk σ' H'
  | .cont => ∃ σ' H', Inv X pins σ' H' s' ∧ D.ct σ' H'
  | .ret u => ∃ v σ' H', Inv X pins σ' H' s' ∧ RelV v u ∧ D.rt v H'

def PE (X : Cx) (e : Expr) (t : TE) : Prop :=
  ∀ (pins : List (Addr × Obj)) (s : Shared) (σ : St) (H : Hp) (Q : VK), Inv X pins σ H s → t σ H Q → wpAny (model X.prog X.w) X.A (eval e X.env) (EP X pins σ Q) X.xe s
def PT (X : Cx) (e : Expr) (t : TT) : Prop :=
  ∀ (pins : List (Addr × Obj)) (s : Shared) (σ : St) (H : Hp) (Q : Bool → Hp → Prop), Inv X pins σ H s → t σ H Q → wpAny (model X.prog X.w) X.A (isTrue e X.env (eval e X.env)) (TP X pins σ Q) X.xe s
def PW (X : Cx) (e : Expr) (t : TT) : Prop :=
  ∀ (whole : Sem Value) (pins : List (Addr × Obj)) (s : Shared) (σ : St) (H : Hp) (Q : Bool → Hp → Prop), Inv X pins σ H s → t σ H Q → wpAny (model X.prog X.w) X.A (isTrue e X.env whole) (TP X pins σ Q) X.xe s
theorem PW.pt {X : Cx} {e : Expr} {t : TT} (h : PW X e t) : PT X e t := h _
def PA (X : Cx) (es : List Expr) (t : TA) : Prop :=
  ∀ (pos : Pos) (pins : List (Addr × Obj)) (s : Shared) (σ : St) (H : Hp) (Q : List V → Hp → Prop), Inv X pins σ H s → t σ H Q → wpAny (model X.prog X.w) X.A (spliced (backTo pos (starEach es X.env))) (AP X pins σ Q) X.xe s
def PS (X : Cx) (st : Stmt) (t : TS) : Prop :=
  ∀ (pins : List (Addr × Obj)) (s : Shared) (σ : St) (H : Hp) (D : Ends), Inv X pins σ H s → t D σ H → wpAny (model X.prog X.w) X.A (exec st X.env) (SP X pins D) X.xe s
def PSs (X : Cx) (st : List Stmt) (t : TS) : Prop :=
  ∀ (pins : List (Addr × Obj)) (s : Shared) (σ : St) (H : Hp) (D : Ends), Inv X pins σ H s → t D σ H → wpAny (model X.prog X.w) X.A (execs st X.env) (SP X pins D) X.xe s
theorem thn {α : Type} {t : Sem α} {Q Q' : α → Shared → Prop} {M : Model} {A : Around} {E : Value → Shared → Prop} {s : Shared} (h : wpAny M A t Q E s) (hQ : ∀ a s, Q a s → Q' a s) : wpAny M A t Q' E s := wpAny_mono h hQ fun _ _ x => x
end L2

namespace L2
open PySem PySem.Spec PyProof.Rows
section
variable {X : Cx}

def tVar (i : Nat) : TE := fun σ H Q => ∃ v, σ[i]? = some (some v) ∧ Q v H
def tC (v : V) : TE := fun _ H Q => Q v H
theorem pe_var {i : Nat} {x : Str} {pos : Pos} (hN : X.N[i]? = some x) (hv : Vis X.env.scope x) (hd : (x == ("__debug__" : Str)) = false := by decide) (hcd : (x == ("__classdict__" : Str)) = false := by decide) : PE X (.Name x pos) (tVar i) := by
  intro pins s σ H Q I h
  obtain ⟨v, e, h⟩ := h
  obtain ⟨m, hn, hl⟩ := I.loc
  obtain ⟨u, r, l⟩ := hl i x v hN e hv
  have fin : EP X pins σ Q u s := ⟨v, H, I, r, h⟩
  rcases l with ⟨hk, hm⟩ | ⟨hk, c, hc, hcell⟩
  · exact wpAny_Name (wpAny_loadName_local I.ok.kind hk hn hm fin) hd
  · rcases hk with hk | hk
    · exact wpAny_Name (wpAny_loadName_cell I.ok.kind hk hc hcell fin) hd
    · exact wpAny_Name (wpAny_loadName_free I.ok.kind hk hc hcell fin hcd) hd
theorem pe_int {i j pos} : PE X (.Constant (.int i) j pos) (tC (.int i)) := fun _ _ _ H _ I h => wpAny_Constant_int ⟨.int i, H, I.tok _, ⟨_, rfl⟩, h⟩
theorem pe_bl {b j pos} : PE X (.Constant (.bool b) j pos) (tC (.bl b)) := fun _ _ _ H _ I h => Constant_bool ⟨.bl b, H, I, rfl, h⟩
theorem pe_non {j pos} : PE X (.Constant .none j pos) (tC .non) := fun _ _ _ H _ I h => Constant_none ⟨.non, H, I, rfl, h⟩
def Gl (X : Cx) (x : Str) : Prop := X.env.kindOf x = some .globalImplicit
theorem ld_glob {E : Value → Shared → Prop} {pins : List (Addr × Obj)} {s : Shared} {σ : St} {H : Hp} {x : Str} {u : Value} {pos : Pos} {Q : Value → Shared → Prop} (I : Inv X pins σ H s) (hg : Gl X x) (hm : X.mg x = some u) (h : Q u s)
    (hd : (x == ("__debug__" : Str)) = false := by decide) : wpAny (model X.prog X.w) X.A (eval (.Name x pos) X.env) Q E s :=
  Calls.Name_function_global I.ok.kind hg (Calls.loadGlobal_global (by rw [I.ok.glob]; exact I.mod.glob.keeps I.bk) hm h) hd
theorem ld_blt {E : Value → Shared → Prop} {pins : List (Addr × Obj)} {s : Shared} {σ : St} {H : Hp} {x : Str} {u : Value} {pos : Pos} {Q : Value → Shared → Prop} (I : Inv X pins σ H s) (hg : Gl X x) (hm : X.mg x = none) (hv : bootBuiltins x = some u) (h : Q u s)
    (hn : x ≠ "__name__" := by decide) (hd : (x == ("__debug__" : Str)) = false := by decide) : wpAny (model X.prog X.w) X.A (eval (.Name x pos) X.env) Q E s := by
  obtain ⟨mb, h1, h2⟩ := I.mod.blt
  exact Calls.Name_function_global I.ok.kind hg (Calls.loadGlobal_builtin (by rw [I.ok.glob]; exact I.mod.glob.keeps I.bk) hm (by rw [I.ok.blt]; exact h1.keeps I.bk) ((h2 x hn).trans hv) h) hd
theorem pe_glob {x : Str} {v : V} {u : Value} {pos : Pos} (hg : Gl X x) (hm : X.mg x = some u) (r : RelV v u) (hd : (x == ("__debug__" : Str)) = false := by decide) : PE X (.Name x pos) (tC v) :=
  fun _ _ _ H _ I h => ld_glob I hg hm ⟨v, H, I, r, h⟩ hd
theorem pe_bltn {x : Str} {v : V} {u : Value} {pos : Pos} (hg : Gl X x) (hm : X.mg x = none) (hv : bootBuiltins x = some u) (r : RelV v u) (hn : x ≠ "__name__" := by decide) (hd : (x == ("__debug__" : Str)) = false := by decide) : PE X (.Name x pos) (tC v) :=
  fun _ _ _ H _ I h => ld_blt I hg hm hv ⟨v, H, I, r, h⟩ hn hd

variable {a b : Expr} {ta tb : TE} {pos : Pos}
def tB (t : TE) : TT := fun σ H Q => t σ H fun x H1 => ∃ c, x = .bl c ∧ Q c H1
theorem pt_val {e : Expr} {t : TE} (h : PE X e t) (he : ∀ whole, isTrue e X.env whole = (do let v ← whole; standAt e.pos; holding [v] (truthy v)) := by intro _; rfl) : PT X e (tB t) := by
  intro pins s σ H Q I hw
  refine isTrue_plain (thn (h pins s σ H _ I hw) fun v s1 ⟨x, H1, I1, r1, q1⟩ => ?_) (he _)
  obtain ⟨d, rfl, q⟩ := q1
  cases r1
  exact wpAny_truthy_bool ⟨H1, I1, q⟩

variable {tA tB' : TT} {rest : List Expr}
def tAnd (t u : TT) : TT := fun σ H Q => t σ H fun c H1 => if c = true then u σ H1 Q else Q false H1
def tOr (t u : TT) : TT := fun σ H Q => t σ H fun c H1 => if c = true then Q true H1 else u σ H1 Q
def tNot (t : TT) : TT := fun σ H Q => t σ H fun c H1 => Q (!c) H1
theorem pw_and1 (ha : PT X a tA) : PW X (.BoolOp .And [a] pos) tA := by
  intro wh pins s σ H Q I h
  refine isTrue_and (thn (ha pins s σ H Q I h) fun c s1 e => ?_)
  cases c with
  | true => exact isTrue_and_nil e
  | false => exact e
theorem pw_or1 (ha : PT X a tA) : PW X (.BoolOp .Or [a] pos) tA := by
  intro wh pins s σ H Q I h
  refine isTrue_or (thn (ha pins s σ H Q I h) fun c s1 e => ?_)
  cases c with
  | false => exact isTrue_or_nil e
  | true => exact e
theorem pw_and (ha : PT X a tA) (hb : PW X (.BoolOp .And (b :: rest) pos) tB') : PW X (.BoolOp .And (a :: b :: rest) pos) (tAnd tA tB') := by
  intro wh pins s σ H Q I h
  refine isTrue_and (thn (ha pins s σ H _ I h) fun c s1 ⟨H1, I1, q1⟩ => ?_)
  cases c with
  | true => exact hb wh pins s1 σ H1 Q I1 q1
  | false => exact ⟨H1, I1, q1⟩
theorem pw_or (ha : PT X a tA) (hb : PW X (.BoolOp .Or (b :: rest) pos) tB') : PW X (.BoolOp .Or (a :: b :: rest) pos) (tOr tA tB') := by
  intro wh pins s σ H Q I h
  refine isTrue_or (thn (ha pins s σ H _ I h) fun c s1 ⟨H1, I1, q1⟩ => ?_)
  cases c with
  | true => exact ⟨H1, I1, q1⟩
  | false => exact hb wh pins s1 σ H1 Q I1 q1
theorem pt_not (ha : PT X a tA) : PT X (.UnaryOp .Not a pos) (tNot tA) := by
  intro pins s σ H Q I h
  exact isTrue_not (ha pins s σ H (fun c H1 => Q (!c) H1) I h)
def tAndV (ta tb : TE) : TE := fun σ H Q => ta σ H fun x H1 => ∃ c, x = .bl c ∧ if c = true then tb σ H1 Q else Q (.bl false) H1
def tNotV (ta : TE) : TE := fun σ H Q => ta σ H fun x H1 => ∃ c, x = .bl c ∧ Q (.bl (!c)) H1
theorem pe_one {op} {t : TE} (h : PE X a t) : PE X (.BoolOp op [a] pos) t := fun pins s σ H Q I hw => BoolOp_one (h pins s σ H Q I hw)
theorem pe_and (ha : PE X a ta) (hb : PE X (.BoolOp .And (b :: rest) pos) tb) : PE X (.BoolOp .And (a :: b :: rest) pos) (tAndV ta tb) := by
  intro pins s σ H Q I h
  refine BoolOp_and (thn (ha pins s σ H _ I h) fun v s1 ⟨x, H1, I1, r1, q1⟩ => ?_)
  obtain ⟨c, rfl, q1⟩ := q1
  cases r1
  refine wpAny_truthy_bool ?_
  cases c with
  | true => exact hb pins s1 σ H1 Q I1 q1
  | false => exact ⟨.bl false, H1, I1, rfl, q1⟩
theorem pe_not (ha : PE X a ta) : PE X (.UnaryOp .Not a pos) (tNotV ta) := by
  intro pins s σ H Q I h
  refine UnaryOp_ (thn (ha pins s σ H _ I h) fun v s1 ⟨x, H1, I1, r1, q1⟩ => ?_)
  obtain ⟨c, rfl, q1⟩ := q1
  cases r1
  exact not_of (wpAny_truthy_bool ⟨.bl (!c), H1, I1, rfl, q1⟩)
end
end L2

namespace L2
open PySem PySem.Spec PyProof.Rows

def SqL (K : PySem.W.Frag) (H : Hp) (a : Addr) (xs : List V) : Prop :=
  Rd H a (.lst xs) ∨
    ∃ (o : Obj) (its : Array Value) (n : Nat), K.lookup a = some o ∧ o.cls = .type "list" ∧ o.dict = none ∧ o.data = .seq its n ∧ its.size ≤ sizeLine ∧ Vals xs its.toList
def SqT (K : PySem.W.Frag) (H : Hp) (a : Addr) (xs : List V) : Prop :=
  Rd H a (.tup xs) ∨
    ∃ (o : Obj) (its : Array Value) (n : Nat), K.lookup a = some o ∧ o.cls = .type "tuple" ∧ o.data = .seq its n ∧ its.size ≤ sizeLine ∧ Vals xs its.toList
def absV : Value → Option V
  | .none => some .non
  | .bool b => some (.bl b)
  | .int i _ => some (.int i)
  | .str x _ => some (.str x)
  | .bytes b _ => some (.byt b)
  | .float b _ => some (.flt b)
  | .ref a => some (.ref a)
  | .type n => some (.ty n)
  | _ => none
theorem RelV.abs {x : V} {u : Value} (r : RelV x u) : absV u = some x := by
  cases x with
  | non => cases r; rfl
  | bl _ => cases r; rfl
  | int _ => obtain ⟨t, rfl⟩ := r; rfl
  | str _ => obtain ⟨t, rfl⟩ := r; rfl
  | byt _ => obtain ⟨t, rfl⟩ := r; rfl
  | flt _ => obtain ⟨t, rfl⟩ := r; rfl
  | ref _ => cases r; rfl
  | ty _ => cases r; rfl
theorem RelV.inj {x y : V} {u : Value} (r : RelV x u) (q : RelV y u) : x = y := Option.some.inj (r.abs.symm.trans q.abs)
theorem Vals.inj : ∀ {xs ys : List V} {us : List Value}, Vals xs us → Vals ys us → xs = ys
  | _, _, _, .nil, .nil => rfl
  | _, _, _, .cons r t, .cons r' t' => by rw [r.inj r', Vals.inj t t']
section
variable {X : Cx} {pins : List (Addr × Obj)} {σ : St} {H : Hp} {s : Shared} {a : Addr} {xs ys : List V}
theorem SqL.of {K : PySem.W.Frag} (h : H a = some (.lst xs)) : SqL K H a xs := .inl (.inl h)
theorem SqT.of {K : PySem.W.Frag} (h : H a = some (.tup xs)) : SqT K H a xs := .inl (.inl h)
theorem Inv.list (I : Inv X pins σ H s) (h : SqL X.K H a xs) : ∃ its : List Value, Vals xs its ∧ PlainL s.heap a its.toArray ∧ xs.length ≤ sizeLine := by
  rcases h with h | ⟨o, its, n, hk, hc, hd, hs, hz, r⟩
  · obtain ⟨z, its, n, r, e⟩ := h.ok I.hok
    exact ⟨its, r, ⟨_, n, e, rfl, rfl, rfl⟩, z⟩
  · refine ⟨its.toList, r, ⟨o, n, I.kIn a o hk, hc, hd, by simpa using hs⟩, ?_⟩
    have e := r.length
    simp only [Array.length_toList] at e
    omega
theorem Inv.tuple (I : Inv X pins σ H s) (h : SqT X.K H a xs) : ∃ its : List Value, Vals xs its ∧ IsTup s.heap a its.toArray ∧ xs.length ≤ sizeLine := by
  rcases h with h | ⟨o, its, n, hk, hc, hs, hz, r⟩
  · obtain ⟨z, its, r, p⟩ := h.ok I.hok
    exact ⟨its, r, p, z⟩
  · refine ⟨its.toList, r, ⟨o, I.kIn a o hk, hc, n, by simpa using hs⟩, ?_⟩
    have e := r.length
    simp only [Array.length_toList] at e
    omega
theorem Inv.list_inj (I : Inv X pins σ H s) (h : SqL X.K H a xs) (h' : SqL X.K H a ys) : xs = ys := by
  obtain ⟨its, r, ⟨o, n, e, _, _, d⟩, _⟩ := I.list h
  obtain ⟨its', r', ⟨o', n', e', _, _, d'⟩, _⟩ := I.list h'
  rw [e] at e'; cases e'
  rw [d] at d'
  injection d' with d1 _
  have : its = its' := by simpa using congrArg Array.toList d1
  subst this
  exact r.inj r'
theorem Inv.tuple_inj (I : Inv X pins σ H s) (h : SqT X.K H a xs) (h' : SqT X.K H a ys) : xs = ys := by
  obtain ⟨its, r, ⟨o, e, _, n, d⟩, _⟩ := I.tuple h
  obtain ⟨its', r', ⟨o', e', _, n', d'⟩, _⟩ := I.tuple h'
  rw [e] at e'; cases e'
  rw [d] at d'
  injection d' with d1 _
  have : its = its' := by simpa using congrArg Array.toList d1
  subst this
  exact r.inj r'
end

abbrev Cx.wish (X : Cx) (E : Value → Shared → Prop) : Cx := { X with xe := E }
abbrev Cx.nox (X : Cx) : Cx := X.wish fun _ _ => False
theorem Cx.Ok.wish {X : Cx} (ok : X.Ok) (E : Value → Shared → Prop) : (X.wish E).Ok :=
  ⟨ok.mod, ok.kind, ok.glob, ok.blt, ok.above, ok.inj, ok.has, ok.cab, ok.hd, ok.frames, ok.stk, ok.exf, ok.bs, ok.bsz, ok.noex, ok.exfs, ok.funs, ok.frf⟩
theorem Cx.Ok.unwish {X : Cx} {E : Value → Shared → Prop} (ok : (X.wish E).Ok) : X.Ok :=
  ⟨ok.mod, ok.kind, ok.glob, ok.blt, ok.above, ok.inj, ok.has, ok.cab, ok.hd, ok.frames, ok.stk, ok.exf, ok.bs, ok.bsz, ok.noex, ok.exfs, ok.funs, ok.frf⟩
section
variable {X : Cx} {pins : List (Addr × Obj)} {σ : St} {H : Hp} {s : Shared} {E : Value → Shared → Prop}
theorem Inv.wish (I : Inv X pins σ H s) (E : Value → Shared → Prop) : Inv (X.wish E) pins σ H s := ⟨I.ok.wish E, I.os, I.bare, I.base, I.loc, I.cell, I.free, I.freeC, I.pin, I.hok, I.len⟩
theorem Inv.unwish (I : Inv (X.wish E) pins σ H s) : Inv X pins σ H s := ⟨I.ok.unwish, I.os, I.bare, I.base, I.loc, I.cell, I.free, I.freeC, I.pin, I.hok, I.len⟩
theorem SP.unwish {D : Ends} {f : Flow} {s' : Shared} (h : SP (X.wish E) pins D f s') : SP X pins D f s' := by
  cases f with
  | next => obtain ⟨σ', H', I, q⟩ := h; exact ⟨σ', H', I.unwish, q⟩
  | brk => obtain ⟨σ', H', I, q⟩ := h; exact ⟨σ', H', I.unwish, q⟩
  | cont => obtain ⟨σ', H', I, q⟩ := h; exact ⟨σ', H', I.unwish, q⟩
  | ret u => obtain ⟨v, σ', H', I, r, q⟩ := h; exact ⟨v, σ', H', I.unwish, r, q⟩
theorem PSs.nox {st : List Stmt} {t : TS} (h : PSs X.nox st t) : PSs X st t := fun pins s σ H D I hw =>
  wpAny_mono (h pins s σ H D (I.wish _) hw) (fun _ _ q => q.unwish) fun _ _ z => False.elim z
end

section
variable {X : Cx} {st : Stmt} {rest : List Stmt} {t u : TS} {e : Expr} {te : TE} {pos : Pos}
def tNext : TS := fun D σ H => D.nx σ H
def tSeq (t u : TS) : TS := fun D σ H => t { D with nx := u D } σ H
theorem pss_nil : PSs X [] tNext := fun _ _ σ H _ I h => wpAny_execs_nil ⟨σ, H, I, h⟩
theorem pss_cons (h1 : PS X st t) (h2 : PSs X rest u) : PSs X (st :: rest) (tSeq t u) := by
  intro pins s σ H D I h
  refine wpAny_execs_cons (thn (h1 pins s σ H { D with nx := u D } I h) fun f s1 q => ?_)
  cases f with
  | next =>
    obtain ⟨σ', H', I', q⟩ := q
    exact h2 pins s1 σ' H' D I' q
  | ret v => exact q
  | brk => exact q
  | cont => exact q
theorem pss_one (h1 : PS X st t) : PSs X [st] t := by
  intro pins s σ H D I h
  refine wpAny_execs_cons (thn (h1 pins s σ H D I h) fun f s1 q => ?_)
  cases f with
  | next => exact wpAny_execs_nil q
  | ret v => exact q
  | brk => exact q
  | cont => exact q
theorem Inv.quiet {pins : List (Addr × Obj)} {σ : St} {H : Hp} {s : Shared} (I : Inv X pins σ H s) : interactive X.env = false := by simp [interactive, I.ok.kind]
def tDrop (te : TE) : TS := fun D σ H => te σ H fun _ H1 => D.nx σ H1
theorem ps_expr (he : PE X e te) (hs : swapsWith e none pos.line X.env = pure false := by rfl) : PS X (.Expr e pos) (tDrop te) := by
  intro pins s σ H D I h
  exact wpAny_Expr_any (thn (he pins s σ H _ I h) fun v s1 ⟨x, H1, I1, r1, q1⟩ => ⟨σ, H1, I1, q1⟩) I.quiet hs
def tRet (te : TE) : TS := fun D σ H => te σ H D.rt
theorem ps_ret (he : PE X e te) : PS X (.Return (some e) pos) (tRet te) := by
  intro pins s σ H D I h
  exact wpAny_Return_some (thn (he pins s σ H _ I h) fun v s1 ⟨x, H1, I1, r1, q1⟩ => ⟨x, σ, H1, I1, r1, q1⟩)
def tIfS (c : TT) (t u : TS) : TS := fun D σ H => c σ H fun b H1 => if b = true then t D σ H1 else u D σ H1
theorem ps_if {c : Expr} {a b : List Stmt} {tc : TT} (hc : PT X c tc) (ha : PSs X a t) (hb : PSs X b u) : PS X (.If c a b pos) (tIfS tc t u) := by
  intro pins s σ H D I h
  refine wpAny_If (thn (hc pins s σ H _ I h) fun d s1 ⟨H1, I1, q1⟩ => ?_)
  cases d with
  | true => exact ha pins s1 σ H1 D I1 q1
  | false => exact hb pins s1 σ H1 D I1 q1
end

abbrev TG := V → St → Hp → (St → Hp → Prop) → Prop
abbrev TGs := List V → St → Hp → (St → Hp → Prop) → Prop
def PG (X : Cx) (target : Expr) (t : TG) : Prop :=
  ∀ (pins : List (Addr × Obj)) (s : Shared) (σ : St) (H : Hp) (v : V) (u : Value) (Q : St → Hp → Prop), Inv X pins σ H s → RelV v u → t v σ H Q →
    wpAny (model X.prog X.w) X.A (assign target X.env u) (fun _ s' => ∃ σ' H', Inv X pins σ' H' s' ∧ Q σ' H') X.xe s
def PGs (X : Cx) (ts : List Expr) (t : TGs) : Prop :=
  ∀ (pins : List (Addr × Obj)) (s : Shared) (σ : St) (H : Hp) (vs : List V) (us : List Value) (Q : St → Hp → Prop), Inv X pins σ H s → Vals vs us → t vs σ H Q →
    wpAny (model X.prog X.w) X.A (assignInOrder ((assignEach ts X.env).map (·.2)) us) (fun _ s' => ∃ σ' H', Inv X pins σ' H' s' ∧ Q σ' H') X.xe s
abbrev TSet := V → V → V → Hp → (Hp → Prop) → Prop
def PSet (X : Cx) (t : TSet) : Prop :=
  ∀ (pins : List (Addr × Obj)) (s : Shared) (σ : St) (H : Hp) (o i v : V) (ov iv u : Value) (Q : Hp → Prop), Inv X pins σ H s → RelV o ov → RelV i iv → RelV v u → t o i v H Q →
    wpAny (model X.prog X.w) X.A (setItem ov iv u) (fun _ s' => ∃ H', Inv X pins σ H' s' ∧ Q H') X.xe s
abbrev TIp := V → V → Hp → VK → Prop
def PIp (X : Cx) (op : Operator) (t : TIp) : Prop :=
  ∀ (pins : List (Addr × Obj)) (s : Shared) (σ : St) (H : Hp) (x y : V) (v u : Value) (Q : VK), Inv X pins σ H s → RelV x v → RelV y u → t x y H Q →
    wpAny (model X.prog X.w) X.A (inplaceOp op v u) (EP X pins σ Q) X.xe s
section
variable {X : Cx} {pos : Pos}
def gName (i : Nat) : TG := fun v σ H Q => Q (σ.set i (some v)) H
theorem pg_name {i : Nat} {x : Str} (hN : X.N.Nodup) (hi : X.N[i]? = some x) (hx : Loc X.env.scope x) (hf : X.fn x = true ∨ X.env.scope.names.lookup x = some .local := by first | exact .inl rfl | exact .inr rfl | assumption) : PG X (.Name x pos) (gName i) := by
  intro pins s σ H v u Q I r h
  exact wpAny_assign_Name (store_ok I hN hi hx r (fun s' I' => ⟨_, H, I', h⟩) hf)
def gNil : TGs := fun vs σ H Q => vs = [] ∧ Q σ H
def gCons (t : TG) (u : TGs) : TGs := fun vs σ H Q => ∃ v r, vs = v :: r ∧ t v σ H fun σ' H' => u r σ' H' Q
theorem pgs_nil : PGs X [] gNil := by
  intro pins s σ H vs us Q I r h
  obtain ⟨e, h⟩ := h
  subst e
  cases r
  exact assignInOrder_nil ⟨σ, H, I, h⟩
theorem pgs_cons {e : Expr} {es : List Expr} {t : TG} {u : TGs} (h1 : PG X e t) (h2 : PGs X es u)
    (hs : (assignEach (e :: es) X.env).map (·.2) = assign e X.env :: (assignEach es X.env).map (·.2) := by rfl) : PGs X (e :: es) (gCons t u) := by
  intro pins s σ H vs us Q I r h
  obtain ⟨v, vr, e1, h⟩ := h
  subst e1
  cases r with
  | cons r rr =>
    rw [hs]
    refine assignInOrder_cons (thn (h1 pins s σ H _ _ _ I r h) fun _ s1 ⟨σ1, H1, I1, q1⟩ => ?_)
    exact h2 pins s1 σ1 H1 _ _ Q I1 rr q1
def gTup (K : PySem.W.Frag) (n : Nat) (t : TGs) : TG := fun v σ H Q => ∃ a xs, v = .ref a ∧ SqT K H a xs ∧ xs.length = n ∧ t xs σ H Q
theorem pg_tup {es : List Expr} {k : Nat} {t : TGs} {n : Nat} (hc : X.calm = true) (h : PGs X es t)
    (hn : (assignEach es X.env).length = n := by rfl) (hst : (assignEach es X.env).findIdx? (·.1) = none := by rfl) : PG X (.Tuple es k pos) (gTup X.K n t) := by
  intro pins s σ H v u Q I r hw
  obtain ⟨a, xs, e1, hq, hl, hw⟩ := hw
  subst e1
  cases r
  obtain ⟨its, rv, ht, hz⟩ := I.tuple hq
  refine assign_Tuple_tuple (I.ok.hd hc) ht (by simp [hn, ← hl, rv.length]) hst fun h' hx => ?_
  have I1 : Inv X pins σ H { s with heap := h' } := I.kept (t' := s.toks) fun b o e => hx b o (Nat.ne_of_lt (Heap.lt_size e)) e
  exact h pins _ σ H xs _ Q I1 (by simpa using rv) hw
def gSub (to ti : TE) (t : TSet) : TG := fun v σ H Q => to σ H fun o H1 => ti σ H1 fun i H2 => t o i v H2 fun H3 => Q σ H3
theorem pg_sub {o i : Expr} {to ti : TE} {t : TSet} (ho : PE X o to) (hi : PE X i ti) (hs : PSet X t)
    (ha : ∀ v, assign (.Subscript o i pos) X.env v = (do
      let ov ← holding [v] (eval o X.env)
      let iv ← holding [v, ov] (eval i X.env)
      standAt pos
      holding [v, ov, iv] (setItem ov iv v)
      release [v, ov, iv] []) := by intro _; rfl) : PG X (.Subscript o i pos) (gSub to ti t) := by
  intro pins s σ H v u Q I r h
  rw [ha]
  refine wpAny_bind (wpAny_holding (thn (ho pins s σ H _ I h) fun ov s1 ⟨x, H1, I1, r1, q1⟩ => ?_))
  refine wpAny_bind (wpAny_holding (thn (hi pins s1 σ H1 _ I1 q1) fun iv s2 ⟨y, H2, I2, r2, q2⟩ => ?_))
  refine wpAny_bind (wpAny_standAt (wpAny_bind (wpAny_holding (thn (hs pins s2 σ H2 x y v ov iv u _ I2 r1 r2 r q2) fun _ s3 ⟨H3, I3, q3⟩ => ?_))))
  exact wpAny_release ⟨σ, H3, I3, q3⟩
def tAsg (te : TE) (g : TG) : TS := fun D σ H => te σ H fun x H1 => g x σ H1 D.nx
theorem ps_asg {tg e : Expr} {te : TE} {g : TG} (he : PE X e te) (hg : PG X tg g) (hs : swapsWithSole [tg] e pos.line X.env = pure false := by rfl) (hw : swappedStores [tg] e X.env = pure none := by rfl)
    (h1 : (assignEach [tg] X.env).map (·.2) = [assign tg X.env] := by rfl) : PS X (.Assign [tg] e pos) (tAsg te g) := by
  intro pins s σ H D I h
  refine wpAny_Assign_stores (thn (he pins s σ H _ I h) fun v s1 ⟨x, H1, I1, r1, q1⟩ => ?_) hs hw
  rw [h1]
  exact thn (hg pins s1 σ H1 x v _ I1 r1 q1) fun _ s2 q => q
theorem ps_set {i : Nat} {x : Str} {e : Expr} {te : TE} {pos' : Pos} (hN : X.N.Nodup) (hi : X.N[i]? = some x) (hx : Loc X.env.scope x) (he : PE X e te) (hs : swapsWith e (some (.Name x pos')) pos.line X.env = pure false := by rfl) (hf : X.fn x = true ∨ X.env.scope.names.lookup x = some .local := by first | exact .inl rfl | exact .inr rfl | assumption) :
    PS X (.Assign [.Name x pos'] e pos) (tAsg te (gName i)) := by
  intro pins s σ H D I h
  refine wpAny_Assign_Name (thn (he pins s σ H _ I h) fun v s1 ⟨y, H1, I1, r1, q1⟩ => ?_) hs
  exact store_ok I1 hN hi hx r1 (fun s2 I2 => ⟨_, H1, I2, q1⟩) hf
def tPar (i j : Nat) (ta : TA) : TS := fun D σ H => ta σ H fun vs H1 => ∃ v w, vs = [v, w] ∧ D.nx ((σ.set i (some v)).set j (some w)) H1
theorem ps_par {i j : Nat} {x y : Str} {a b : Expr} {ta : TA} {px py pt : Pos} {kt k2 pt2} (hc : X.calm = true) (hN : X.N.Nodup) (hi : X.N[i]? = some x) (hj : X.N[j]? = some y) (hij : i ≠ j)
    (hx : X.env.scope.names.lookup x = some .local) (hy : X.env.scope.names.lookup y = some .local) (ha : PA X [a, b] ta)
    (hw : swappedStores [.Tuple [.Name x px, .Name y py] kt pt] (.Tuple [a, b] k2 pt2) X.env = pure (some [x, y]))
    (hs : swapsWithSole [.Tuple [.Name x px, .Name y py] kt pt] (.Tuple [a, b] k2 pt2) pos.line X.env = pure false := by rfl) :
    PS X (.Assign [.Tuple [.Name x px, .Name y py] kt pt] (.Tuple [a, b] k2 pt2) pos) (tPar i j ta) := by
  intro pins s σ H D I h
  rw [exec_Assign_arm]
  refine wpAny_bind (wpAny_standAt ?_)
  rw [hs]
  refine wpAny_bind (wpAny_pure ?_)
  rw [if_neg (by decide)]
  refine wpAny_bind (Tuple_ (thn (ha _ pins s σ H _ I h) fun us s1 ⟨vs, H1, I1, r1, q1⟩ => ?_))
  obtain ⟨v, w, e1, q1⟩ := q1
  subst e1
  obtain ⟨u1, u2, rfl, rv, rw'⟩ : ∃ u1 u2, us = [u1, u2] ∧ RelV v u1 ∧ RelV w u2 := by
    cases r1 with
    | cons p q =>
      cases q with
      | cons p' q' =>
        cases q'
        exact ⟨_, _, rfl, p, p'⟩
  refine wpAny_newObj_type ?_ (by show 2 ≤ sizeLine; decide)
  have I2 : Inv X pins σ H1 { s1 with heap := s1.heap.push { cls := .type "tuple", data := .seq [u1, u2].toArray } } := I1.kept (t' := s1.toks) fun b o e => Heap.get?_push_of_some _ e
  rw [hw]
  refine wpAny_bind (wpAny_pure ?_)
  show wpAny (model X.prog X.w) X.A (do rule "assign.swapped-stores"; let items ← unpackItems (.ref s1.heap.objs.size) 2 none; assignInOrder [fun v => bindName X.env y v, fun v => bindName X.env x v] items.reverse; pure Flow.next) _ _ _
  refine wpAny_bind (wpAny_rule (wpAny_bind (unpackItems_tuple (items := #[u1, u2]) (I.ok.hd hc) (IsTup.new s1.heap _) fun h' hx' => ?_)))
  have I3 := I2.kept (h' := h') (t' := s1.toks) fun b o e => hx' b o (Nat.ne_of_lt (Heap.lt_size e)) e
  show wpAny _ _ (assignInOrder [fun v => bindName X.env y v, fun v => bindName X.env x v] [u2, u1] >>= fun _ => pure Flow.next) _ _ _
  refine wpAny_bind (assignInOrder_cons (wpAny_bindName (store_ok I3 hN hj (.inl hy) rw' (fun s2 I4 => ?_) (.inr hy))))
  refine assignInOrder_cons (wpAny_bindName (store_ok I4 hN hi (.inl hx) rv (fun s3 I5 => assignInOrder_nil (wpAny_pure ?_)) (.inr hx)))
  rw [List.set_comm _ _ (Ne.symm hij)] at I5
  exact ⟨_, H1, I5, q1⟩
def tAugS (to ti te : TE) (tget : V → V → Hp → VK → Prop) (tip : TIp) (tset : TSet) : TS := fun D σ H => to σ H fun o H1 => ti σ H1 fun i H2 => tget o i H2 fun x H3 => te σ H3 fun y H4 => tip x y H4 fun z H5 => tset o i z H5 fun H6 => D.nx σ H6
def PGet (X : Cx) (t : V → V → Hp → VK → Prop) : Prop :=
  ∀ (pins : List (Addr × Obj)) (s : Shared) (σ : St) (H : Hp) (o i : V) (ov iv : Value) (Q : VK), Inv X pins σ H s → RelV o ov → RelV i iv → t o i H Q →
    wpAny (model X.prog X.w) X.A (getItem ov iv) (EP X pins σ Q) X.xe s
theorem ps_augS {o i e : Expr} {to ti te : TE} {tget : V → V → Hp → VK → Prop} {tip : TIp} {tset : TSet} {op : Operator} {tpos : Pos} (ho : PE X o to) (hi : PE X i ti) (hg : PGet X tget) (he : PE X e te) (hp : PIp X op tip) (hs : PSet X tset)
    (ha : ∀ ov iv new, augStore i ov iv new = (do holding [new, ov, iv] (setItem ov iv new); release [new, ov, iv] []; pure .next) := by intros; rfl) : PS X (.AugAssign (.Subscript o i tpos) op e pos) (tAugS to ti te tget tip tset) := by
  intro pins s σ H D I h
  refine wpAny_AugAssign_SubscriptAny (thn (ho pins s σ H _ I h) fun ov s1 ⟨x1, H1, I1, r1, q1⟩ => ?_) ha
  refine thn (hi pins s1 σ H1 _ I1 q1) fun iv s2 ⟨x2, H2, I2, r2, q2⟩ => ?_
  refine thn (hg pins s2 σ H2 x1 x2 ov iv _ I2 r1 r2 q2) fun old s3 ⟨x3, H3, I3, r3, q3⟩ => ?_
  refine thn (he pins s3 σ H3 _ I3 q3) fun v s4 ⟨x4, H4, I4, r4, q4⟩ => ?_
  refine thn (hp pins s4 σ H4 x3 x4 old v _ I4 r3 r4 q4) fun new s5 ⟨x5, H5, I5, r5, q5⟩ => ?_
  exact thn (hs pins s5 σ H5 x1 x2 x5 ov iv new _ I5 r1 r2 r5 q5) fun _ s6 ⟨H6, I6, q6⟩ => ⟨σ, H6, I6, q6⟩
def ipI (f : Int → Int → Int) : TIp := fun x y H Q => ∃ i j, x = .int i ∧ y = .int j ∧ Q (.int (f i j)) H
theorem ip_add : PIp X .Add (ipI fun i j => i + j) := by
  intro pins s σ H x y v u Q I r1 r2 h
  obtain ⟨i, j, e1, e2, q⟩ := h
  subst e1; subst e2
  obtain ⟨t, rfl⟩ := r1
  obtain ⟨t', rfl⟩ := r2
  exact iadd_int ⟨.int _, H, I.tok _, ⟨_, rfl⟩, q⟩
end

section
variable {X : Cx} {pos : Pos}
def tWhile (c : TT) (tb : TS) : TS := fun D σ H => ∃ W : Nat → St → Hp → Prop, (∃ m, W m σ H) ∧ ∀ m σ H, W m σ H →
  c σ H fun b H1 => if b = true then ∃ N : St → Hp → Prop, (∀ σ' H', N σ' H' → ∃ m', m' < m ∧ W m' σ' H') ∧ tb { D with nx := N, ct := N, bk := D.nx } σ H1 else D.nx σ H1
theorem ps_while {c : Expr} {body : List Stmt} {tc : TT} {tb : TS} (hp : PassesOwn (model X.prog X.w) X.A X.env X.xe) (hc : PT X c tc) (hb : PSs X body tb) : PS X (.While c body [] pos) (tWhile tc tb) := by
  intro pins s σ H D I h
  obtain ⟨W, ⟨m0, w0⟩, turn⟩ := h
  refine wpAny_While (codeAny_whileLoop (fun n s' => ∃ σ' H', Inv X pins σ' H' s' ∧ W n σ' H') ?_ m0 ⟨σ, H, I, w0⟩)
  rintro n s1 ⟨σ1, H1, I1, w1⟩
  refine wpAny_passesOwn hp (thn (hc pins s1 σ1 H1 _ I1 (turn n σ1 H1 w1)) fun b s2 ⟨H2, I2, q2⟩ => ?_)
  cases b with
  | true =>
    obtain ⟨N, hN, q2⟩ := q2
    rw [if_pos rfl]
    refine wpAny_passesOwn hp (thn (hb pins s2 σ1 H2 _ I2 q2) fun f s3 q3 => ?_)
    cases f with
    | next =>
      obtain ⟨σ3, H3, I3, n3⟩ := q3
      obtain ⟨m', hm, w3⟩ := hN σ3 H3 n3
      exact ⟨m', hm, σ3, H3, I3, w3⟩
    | cont =>
      obtain ⟨σ3, H3, I3, n3⟩ := q3
      obtain ⟨m', hm, w3⟩ := hN σ3 H3 n3
      exact ⟨m', hm, σ3, H3, I3, w3⟩
    | brk => exact q3
    | ret v => exact q3
  | false =>
    rw [if_neg Bool.false_ne_true]
    exact wpAny_execs_nil ⟨σ1, H2, I2, q2⟩
end

structure It where
  go : Nat → Hp → Prop
  yld : Nat → Hp → V → Hp → Prop
  stop : Nat → Hp → Prop
def FpOk (X : Cx) (pins : List (Addr × Obj)) (H : Hp) (b : Addr) : Prop :=
  H b = none ∧ b ≠ X.env.locals ∧ b ∉ X.fs ∧ (b ∈ X.ex ∨ X.s₀.heap.objs.size ≤ b) ∧ (∀ x c, X.env.cells.lookup x = some c → c ≠ b) ∧ ∀ p ∈ X.pn ++ pins, p.1 ≠ b
theorem Inv.fpOk {X : Cx} {pins : List (Addr × Obj)} {σ : St} {H H' : Hp} {s : Shared} {b : Addr} (I : Inv X pins σ H s) (hb : s.heap.objs.size ≤ b) (hn : H' b = none) : FpOk X pins H' b := by
  refine ⟨hn, Nat.ne_of_gt (Nat.lt_of_lt_of_le I.lt hb), I.nofs hb, .inr (Nat.le_trans I.sz hb), fun x c e z => ?_, fun p hp z => ?_⟩
  · obtain ⟨v, q⟩ := I.cell x c e
    exact absurd (Nat.lt_of_lt_of_le q.lt (by rw [z]; exact hb)) (Nat.lt_irrefl _)
  · exact absurd (Nat.lt_of_lt_of_le (Heap.lt_size (I.pin p hp).1) (by rw [z]; exact hb)) (Nat.lt_irrefl _)
structure Turn (P : Program) (w : World) (K : PySem.W.Frag) (tg : Expr) (J : It) (fp : List Addr) (it : Addr) (tn : Nat → Heap → Prop) : Prop where
  mem : it ∈ fp
  obj : ∀ i h, tn i h → ∀ b ∈ fp, ∃ o, h.get? b = some o ∧ ∀ v, o.data ≠ .cell v
  keep : ∀ i h h', tn i h → (∀ b ∈ fp, ∀ o, h.get? b = some o → h'.get? b = some o) → tn i h'
  item : ∀ (X : Cx), X.prog = P → X.w = w → X.K = K → X.calm = true → ∀ (i : Nat) (pins : List (Addr × Obj)) (s : Shared) (σ : St) (H : Hp) (E : Value → Shared → Prop), Inv X pins σ H s → (∀ b ∈ fp, FpOk X pins H b) → tn i s.heap → J.go i H →
    wpAny (model P w) X.A (pyNext (.ref it)) (fun r s1 => ∃ u, r = some u ∧
      wpAny (model P w) X.A (letOwnedTupleGo tg (.ref it) u) (fun _ s2 => ∃ x H', Inv X pins σ H' s2 ∧ RelV x u ∧ J.yld i H x H' ∧ tn (i + 1) s2.heap ∧ ∀ b ∈ fp, H' b = none) E s1) E s
  done : ∀ (X : Cx), X.prog = P → X.w = w → X.K = K → X.calm = true → ∀ (i : Nat) (pins : List (Addr × Obj)) (s : Shared) (σ : St) (H : Hp) (E : Value → Shared → Prop), Inv X pins σ H s → (∀ b ∈ fp, FpOk X pins H b) → tn i s.heap → J.stop i H →
    wpAny (model P w) X.A (pyNext (.ref it)) (fun r s1 => r = none ∧ Inv X pins σ H s1) E s
  self : ∀ (A : Around) (i : Nat) (s : Shared) (Q : Value → Shared → Prop) (E : Value → Shared → Prop), tn i s.heap → Q (.ref it) s → wpAny (model P w) A (pyIter (.ref it)) Q E s
abbrev TI := St → Hp → (It → Hp → Prop) → Prop
def PIE (X : Cx) (pins : List (Addr × Obj)) (σ : St) (tg : Expr) (R : It → Hp → Prop) (itv : Value) (s2 : Shared) : Prop :=
  ∃ (it : Addr) (fp : List Addr) (tn : Nat → Heap → Prop) (J : It) (H' : Hp), itv = .ref it ∧ Inv X pins σ H' s2 ∧ Turn X.prog X.w X.K tg J fp it tn ∧ tn 0 s2.heap ∧ (∀ b ∈ fp, FpOk X pins H' b) ∧ R J H'
def PI (X : Cx) (tg iter : Expr) (wi : TI) : Prop :=
  ∀ (pins : List (Addr × Obj)) (s : Shared) (σ : St) (H : Hp) (R : It → Hp → Prop), Inv X pins σ H s → wi σ H R →
    wpAny (model X.prog X.w) X.A (eval iter X.env) (fun v s1 => wpAny (model X.prog X.w) X.A (pyIter v) (PIE X pins σ tg R) X.xe s1) X.xe s

theorem go_of {M : Model} {A : Around} {E : Value → Shared → Prop} {s : Shared} {tg : Expr} {it : Addr} {u : Value} {o : Obj} {n : String} {vs : Array Value} {Q : Unit → Shared → Prop} (ho : s.heap.get? it = some o) (hc : o.cls = .type n) (hd : o.data = .fields vs)
    (hn : ["enumerate", "zip", "dict_itemiterator", "dict_reverseitemiterator", "odict_iterator", "itertools.zip_longest", "itertools.pairwise"].contains n = false) (hQ : Q () s) : wpAny M A (letOwnedTupleGo tg (.ref it) u) Q E s := by
  unfold letOwnedTupleGo
  cases tg <;> first
    | exact wpAny_pure hQ
    | (cases u <;> first
        | exact wpAny_pure hQ
        | (refine wpAny_bind (wpAny_load ho ?_)
           rw [hc, hd]
           show wpAny M A (if (["enumerate", "zip", "dict_itemiterator", "dict_reverseitemiterator", "odict_iterator", "itertools.zip_longest", "itertools.pairwise"].contains n && vs[0]? == some (rawInt _)) = true then _ else _) Q E s
           rw [if_neg (by intro h; rw [hn, Bool.false_and] at h; cases h)]
           exact wpAny_pure hQ))

def Itl (K : PySem.W.Frag) (a : Addr) : It :=
  ⟨fun i H => ∃ xs x, SqL K H a xs ∧ xs[i]? = some x, fun i H x H' => H' = H ∧ ∀ xs, SqL K H a xs → xs[i]? = some x, fun i H => ∃ xs, SqL K H a xs ∧ xs.length ≤ i⟩
def Itr (lo : Int) (n : Nat) : It := ⟨fun i _ => i < n, fun i H x H' => H' = H ∧ x = .int (lo + i), fun i _ => n ≤ i⟩
theorem turn_list {P : Program} {w : World} {K : PySem.W.Frag} {tg : Expr} (a it : Addr) : Turn P w K tg (Itl K a) [it] it (fun i h => h.IsListIter it a i) where
  mem := by simp
  obj := fun i h st b hb => by
    have e : b = it := by simpa using hb
    subst e
    obtain ⟨o, e, c, d⟩ := st
    exact ⟨o, e, fun v z => by rw [d] at z; cases z⟩
  keep := fun i h h' st k => st.at fun o e => k it (by simp) o e
  item := by
    intro X hP hw hK hc i pins s σ H E I hf st hg
    subst hP hw hK
    obtain ⟨xs, x, hq, hx⟩ := hg
    obtain ⟨its, rv, p, hz⟩ := I.list hq
    obtain ⟨u, hu, ru⟩ := rv.get hx
    obtain ⟨f0, f1, f2, f3, f4, f5⟩ := hf it (by simp)
    refine wpAny_pyNext_list_item st p.isList (x := u) (by simpa using hu) fun h' st' sb => ?_
    have I1 : Inv X pins σ H { s with heap := h' } := I.turned (t' := s.toks) (fun b o hb e => (sb.2 b hb).trans e) f0 f1 f3 f4 f5
    obtain ⟨o, e, c, d⟩ := id st'
    exact ⟨u, rfl, go_of (s := { s with heap := h' }) e c d (by decide) ⟨x, H, I1, ru, ⟨rfl, fun ys hy => by rw [I.list_inj hy hq]; exact hx⟩, st', fun b hb => (hf b hb).1⟩⟩
  done := by
    intro X hP hw hK hc i pins s σ H E I hf st hg
    subst hP hw hK
    obtain ⟨xs, hq, hx⟩ := hg
    obtain ⟨its, rv, p, hz⟩ := I.list hq
    obtain ⟨f0, f1, f2, f3, f4, f5⟩ := hf it (by simp)
    have hl := rv.length
    exact wpAny_pyNext_list_end (I.ok.hd hc) st p.isList (by simp; omega) fun h' eb => ⟨rfl, I.turned (t' := s.toks) (fun b o hb e => eb b o hb e) f0 f1 f3 f4 f5⟩
  self := fun _ _ _ _ _ st h => wpAny_pyIter_listiter st h
theorem turn_range {P : Program} {w : World} {K : PySem.W.Frag} {tg : Expr} (it : Addr) (lo : Int) (n : Nat) : Turn P w K tg (Itr lo n) [it] it (fun i h => IsRangeIter h it (lo + (i : Nat) * 1) ((n : Int) - (i : Nat)) 1) where
  mem := by simp
  obj := fun i h st b hb => by
    have e : b = it := by simpa using hb
    subst e
    exact ⟨_, st, fun v z => by
      have z' : Data.fields _ = Data.cell v := z
      cases z'⟩
  keep := fun i h h' st k => k it (by simp) _ st
  item := by
    intro X hP hw hK hc i pins s σ H E I hf st hg
    subst hP hw hK
    obtain ⟨f0, f1, f2, f3, f4, f5⟩ := hf it (by simp)
    have W := Walks.range (prog := X.prog) (w := X.w) (I.ok.hd hc) it lo 1 n
    refine W.item i s _ _ hg st fun v h' tk hv st' kk => ?_
    obtain ⟨t, rfl⟩ := hv
    have I1 : Inv X pins σ H { s with heap := h', toks := tk } := I.turned (fun b o hb e => kk b o (by simpa using hb) e) f0 f1 f3 f4 f5
    refine ⟨_, rfl, go_of (s := { s with heap := h', toks := tk }) (n := "range_iterator") st' rfl rfl (by decide) ⟨.int (lo + i), H, I1, ⟨t, ?_⟩, ⟨rfl, rfl⟩, st', fun b hb => (hf b hb).1⟩⟩
    rw [Int.mul_one]
  done := by
    intro X hP hw hK hc i pins s σ H E I hf st hg
    subst hP hw hK
    obtain ⟨f0, f1, f2, f3, f4, f5⟩ := hf it (by simp)
    exact wpAny_pyNext_range_end (I.ok.hd hc) st (by have : n ≤ i := hg; omega) fun h' eb => ⟨rfl, I.turned (t' := s.toks) (fun b o hb e => eb b o hb e) f0 f1 f3 f4 f5⟩
  self := fun _ _ _ _ _ st h => wpAny_pyIter_rangeiter st h
end L2

namespace L2
open PySem PySem.Spec PyProof.Rows
section
variable {X : Cx} {tg : Expr}
def iList (K : PySem.W.Frag) (tl : TE) : TI := fun σ H R => tl σ H fun x H1 => ∃ a, x = .ref a ∧ (∃ xs, SqL K H1 a xs) ∧ R (Itl K a) H1
theorem pi_list {l : Expr} {tl : TE} (hl : PE X l tl) : PI X tg l (iList X.K tl) := by
  intro pins s σ H R I h
  refine thn (hl pins s σ H _ I h) fun v s1 ⟨x, H1, I1, r1, q1⟩ => ?_
  obtain ⟨a, e, ⟨xs, hq⟩, q⟩ := q1
  subst e
  cases r1
  obtain ⟨its, rv, p, hz⟩ := I1.list hq
  refine wpAny_pyIter_list p.isList ?_
  refine ⟨s1.heap.objs.size, [s1.heap.objs.size], _, _, H1, rfl, I1.kept (t' := s1.toks) fun b o e => Heap.get?_push_of_some _ e, turn_list a _, ⟨_, Heap.get?_push_size _ rfl, rfl, rfl⟩, fun b hb => ?_, q⟩
  have e : b = s1.heap.objs.size := by simpa using hb
  subst e
  exact I1.fpOk (Nat.le_refl _) (I1.hok.fresh (Nat.le_refl _))
theorem range_it {pins : List (Addr × Obj)} {σ : St} {H : Hp} {s : Shared} {R : It → Hp → Prop} {E : Value → Shared → Prop} {lo hi : Int} {t u v : Tok} {tk : Nat} (I : Inv X pins σ H s) (h1 : -(2 ^ 62) ≤ lo) (h2 : lo < 2 ^ 62) (h3 : -(2 ^ 62) ≤ hi) (h4 : hi < 2 ^ 62)
    (q : R (Itr lo (hi - lo).toNat) H) : wpAny (model X.prog X.w) X.A (pyIter (.ref s.heap.objs.size)) (PIE X pins σ tg R) E { s with heap := s.heap.push { cls := .type "range", data := .fields #[.int lo t, .int hi u, .int 1 v] }, toks := tk } := by
  refine wpAny_pyIter_range (IsRange.new ..) (small_one h1 h2 h3 h4) ?_
  have I1 : Inv X pins σ H { s with heap := s.heap.push { cls := .type "range", data := .fields #[.int lo t, .int hi u, .int 1 v] }, toks := tk } := I.kept fun b o e => Heap.get?_push_of_some _ e
  refine ⟨(s.heap.push { cls := .type "range", data := .fields #[.int lo t, .int hi u, .int 1 v] }).objs.size, [(s.heap.push { cls := .type "range", data := .fields #[.int lo t, .int hi u, .int 1 v] }).objs.size], _, _, H, rfl,
    I1.kept (t' := tk) fun b o e => Heap.get?_push_of_some _ e, turn_range _ lo (hi - lo).toNat, ?_, fun b hb => ?_, q⟩
  · have e1 : lo + ((0 : Nat) : Int) * 1 = lo := by simp
    have e2 : (((hi - lo).toNat : Nat) : Int) - ((0 : Nat) : Int) = Builtin.Range.rangeSize lo hi 1 := by rw [rangeSize_one]; split <;> omega
    show IsRangeIter _ _ (lo + ((0 : Nat) : Int) * 1) ((((hi - lo).toNat : Nat) : Int) - ((0 : Nat) : Int)) 1
    rw [e1, e2]
    exact Heap.get?_push_size _ rfl
  · have e : b = (s.heap.push { cls := .type "range", data := .fields #[.int lo t, .int hi u, .int 1 v] }).objs.size := by simpa using hb
    subst e
    exact I1.fpOk (Nat.le_refl _) (I1.hok.fresh (Nat.le_refl _))
def iRng1 (ta : TA) : TI := fun σ H R => ta σ H fun vs H1 => ∃ j : Int, vs = [.int j] ∧ -(2 ^ 62) ≤ j ∧ j < 2 ^ 62 ∧ R (Itr 0 j.toNat) H1
def iRng2 (ta : TA) : TI := fun σ H R => ta σ H fun vs H1 => ∃ i j : Int, vs = [.int i, .int j] ∧ (-(2 ^ 62) ≤ i ∧ i < 2 ^ 62 ∧ -(2 ^ 62) ≤ j ∧ j < 2 ^ 62) ∧ R (Itr i (j - i).toNat) H1
theorem pi_range1 {a : Expr} {ta : TA} {p pos : Pos} (hg : Gl X "range") (hm : X.mg "range" = none) (ha : PA X [a] ta) (hs : starEach [a] X.env = [(false, eval a X.env)] := by rfl) : PI X tg (.Call (.Name "range" p) [a] [] pos) (iRng1 ta) := by
  intro pins s σ H R I h
  refine Call_ (ld_blt I hg hm boot_range (PyProof.Rows.callWith_type1 (thn (ha pos pins s σ H _ I h) fun us s1 ⟨vs, H1, I1, r1, q1⟩ => ?_) hs rfl))
  obtain ⟨j, e, q1, q2, q⟩ := q1
  subst e
  cases r1 with
  | cons r rr =>
    cases rr
    obtain ⟨t, rfl⟩ := r
    exact call_range_1 (range_it I1 (by omega) (by omega) q1 q2 (by simpa using q))
theorem pi_range2 {a b : Expr} {ta : TA} {p pos : Pos} (hg : Gl X "range") (hm : X.mg "range" = none) (ha : PA X [a, b] ta) (hs : starEach [a, b] X.env = [(false, eval a X.env), (false, eval b X.env)] := by rfl) (hs2 : starEach [b] X.env = [(false, eval b X.env)] := by rfl) :
    PI X tg (.Call (.Name "range" p) [a, b] [] pos) (iRng2 ta) := by
  intro pins s σ H R I h
  refine Call_ (ld_blt I hg hm boot_range (PyProof.Rows.callWith_type1 (thn (ha pos pins s σ H _ I h) fun us s1 ⟨vs, H1, I1, r1, q1⟩ => ?_) (by rw [hs, hs2]) (by rw [hs2]; rfl)))
  obtain ⟨i, j, e, ⟨q1, q2, q3, q4⟩, q⟩ := q1
  subst e
  cases r1 with
  | cons r rr =>
    cases rr with
    | cons r' rr =>
      cases rr
      obtain ⟨t, rfl⟩ := r
      obtain ⟨t', rfl⟩ := r'
      exact call_range_2 (range_it I1 q1 q2 q3 q4 q)

def tFor (wi : TI) (g : TG) (tb : TS) : TS := fun D σ H => wi σ H fun J H1 => ∃ W : Nat → Nat → St → Hp → Prop, (∃ m, W 0 m σ H1) ∧ ∀ i m σ H, W i m σ H →
  (J.stop i H ∧ D.nx σ H) ∨ (J.go i H ∧ ∃ N : St → Hp → Prop, (∀ σ' H', N σ' H' → ∃ m', m' < m ∧ W (i + 1) m' σ' H') ∧ ∀ x H', J.yld i H x H' → g x σ H' fun σ2 H2 => tb { D with nx := N, ct := N, bk := D.nx } σ2 H2)
def pinsAt (fp : List Addr) (h : Heap) : List (Addr × Obj) := fp.filterMap fun b => (h.get? b).map fun o => (b, o)
theorem mem_pinsAt {fp : List Addr} {h : Heap} {b : Addr} {o : Obj} (hb : b ∈ fp) (e : h.get? b = some o) : (b, o) ∈ pinsAt fp h := List.mem_filterMap.mpr ⟨b, hb, by rw [e]; rfl⟩
theorem of_pinsAt {fp : List Addr} {h : Heap} {p : Addr × Obj} (hp : p ∈ pinsAt fp h) : p.1 ∈ fp ∧ h.get? p.1 = some p.2 := by
  obtain ⟨b, hb, e⟩ := List.mem_filterMap.mp hp
  cases q : h.get? b with
  | none => rw [q] at e; cases e
  | some o =>
    rw [q] at e
    have e' : (b, o) = p := Option.some.inj e
    subst e'
    exact ⟨hb, q⟩
theorem Inv.pinned {pins : List (Addr × Obj)} {σ : St} {H : Hp} {s : Shared} {fp : List Addr} (I : Inv X pins σ H s) (hf : ∀ b ∈ fp, FpOk X pins H b) (ho : ∀ b ∈ fp, ∃ o, s.heap.get? b = some o ∧ ∀ v, o.data ≠ .cell v) : Inv X (pins ++ pinsAt fp s.heap) σ H s :=
  I.pins_of fun p hp => (List.mem_append.mp hp).elim (fun z => I.pin p (List.mem_append_right _ z)) fun z => by
    obtain ⟨hb, e⟩ := of_pinsAt z
    obtain ⟨f0, f1, f2, _⟩ := hf p.1 hb
    obtain ⟨o, e', d⟩ := ho p.1 hb
    rw [e] at e'; cases e'
    exact ⟨e, f0, f1, f2, d⟩
theorem Inv.unpinned {pins pl : List (Addr × Obj)} {σ : St} {H : Hp} {s : Shared} (I : Inv X (pins ++ pl) σ H s) : Inv X pins σ H s := I.pins_of fun p hp => I.pin p (List.mem_append_right _ (List.mem_append_left _ hp))
theorem ps_for {iter : Expr} {body : List Stmt} {wi : TI} {g : TG} {tb : TS} {pos : Pos} (hp : PassesOwn (model X.prog X.w) X.A X.env X.xe) (hc : X.calm = true) (hi : PI X tg iter wi) (hg : PG X tg g) (hb : PSs X body tb)
    (hs : ∀ x, foldedSetIterable iter X.env x = pure x := by intro _; rfl) : PS X (.For tg iter body [] pos) (tFor wi g tb) := by
  intro pins s σ H D I h
  refine wpAny_For (thn (hi pins s σ H _ I h) fun v s1 h1 => thn h1 fun itv s2 h2 => ?_) hs
  obtain ⟨it, fp, tn, J, H2, e, I2, T, st2, f2, W, ⟨m0, w0⟩, turn⟩ := h2
  subst e
  -- what stays true of the iterator's objects through the loop
  have stat : ∀ {H' : Hp}, (∀ b ∈ fp, H' b = none) → ∀ b ∈ fp, FpOk X pins H' b := fun hn b hb => ⟨hn b hb, (f2 b hb).2⟩
  refine codeAny_forLoop_any (fun n s' => ∃ i σ' H', Inv X pins σ' H' s' ∧ tn i s'.heap ∧ (∀ b ∈ fp, H' b = none) ∧ W i n σ' H') ?_ m0 ⟨0, σ, H2, I2, st2, fun b hb => (f2 b hb).1, w0⟩
  rintro n s3 ⟨i, σ3, H3, I3, st3, fr3, w3⟩
  rcases turn i n σ3 H3 w3 with ⟨stop, qn⟩ | ⟨go, N, hN, step⟩
  · refine wpAny_passesOwn hp (thn (T.done X rfl rfl rfl hc i pins s3 σ3 H3 X.xe I3 (stat fr3) st3 stop) fun r s4 ⟨hr, I4⟩ => ?_)
    subst hr
    exact wpAny_execs_nil ⟨σ3, H3, I4, qn⟩
  · refine wpAny_passesOwn hp (thn (T.item X rfl rfl rfl hc i pins s3 σ3 H3 X.xe I3 (stat fr3) st3 go) fun r s4 ⟨u, hr, h4⟩ => ?_)
    subst hr
    refine wpAny_passesOwn hp (thn h4 fun _ s5 ⟨x, H5, I5, r5, y5, st5, fr5⟩ => ?_)
    have I5' := I5.pinned (stat fr5) (T.obj _ _ st5)
    refine wpAny_passesOwn hp (thn (hg _ s5 σ3 H5 x u _ I5' r5 (step x H5 y5)) fun _ s6 ⟨σ6, H6, I6, q6⟩ => ?_)
    refine wpAny_passesOwn hp (thn (hb _ s6 σ6 H6 _ I6 q6) fun f s7 q7 => ?_)
    have again : ∀ {σ7 : St} {H7 : Hp}, Inv X (pins ++ pinsAt fp s5.heap) σ7 H7 s7 → N σ7 H7 → ∃ m, m < n ∧ ∃ i σ' H', Inv X pins σ' H' s7 ∧ tn i s7.heap ∧ (∀ b ∈ fp, H' b = none) ∧ W i m σ' H' := fun {σ7 H7} I7 n7 => by
      obtain ⟨m', hm, w7⟩ := hN σ7 H7 n7
      refine ⟨m', hm, i + 1, σ7, H7, I7.unpinned, T.keep _ _ _ st5 fun b hb o e => (I7.pin (b, o) (List.mem_append_right _ (List.mem_append_right _ (mem_pinsAt hb e)))).1, fun b hb => ?_, w7⟩
      obtain ⟨o, e, d⟩ := T.obj _ _ st5 b hb
      exact (I7.pin (b, o) (List.mem_append_right _ (List.mem_append_right _ (mem_pinsAt hb e)))).2.1
    cases f with
    | next => obtain ⟨σ7, H7, I7, n7⟩ := q7; exact again I7 n7
    | cont => obtain ⟨σ7, H7, I7, n7⟩ := q7; exact again I7 n7
    | brk => obtain ⟨σ7, H7, I7, q7⟩ := q7; exact ⟨σ7, H7, I7.unpinned, q7⟩
    | ret v => obtain ⟨x7, σ7, H7, I7, r7, q7⟩ := q7; exact ⟨x7, σ7, H7, I7.unpinned, r7, q7⟩
end

theorem for_list {K : PySem.W.Frag} {a : Addr} {xs : List V} {g : TG} {tb : TS} {D : Ends} {σ : St} {H : Hp} (Pv : Nat → St → Hp → Prop) (h0 : Pv 0 σ H) (hl : ∀ i σ H, i ≤ xs.length → Pv i σ H → SqL K H a xs)
    (hs : ∀ i x σ H, xs[i]? = some x → Pv i σ H → g x σ H fun σ2 H2 => tb { D with nx := Pv (i + 1), ct := Pv (i + 1), bk := D.nx } σ2 H2) (hd : ∀ σ H, Pv xs.length σ H → D.nx σ H) :
    ∃ W : Nat → Nat → St → Hp → Prop, (∃ m, W 0 m σ H) ∧ ∀ i m σ H, W i m σ H →
      ((Itl K a).stop i H ∧ D.nx σ H) ∨ ((Itl K a).go i H ∧ ∃ N : St → Hp → Prop, (∀ σ' H', N σ' H' → ∃ m', m' < m ∧ W (i + 1) m' σ' H') ∧ ∀ x H', (Itl K a).yld i H x H' → g x σ H' fun σ2 H2 => tb { D with nx := N, ct := N, bk := D.nx } σ2 H2) := by
  refine ⟨fun i m σ H => m = xs.length - i ∧ i ≤ xs.length ∧ Pv i σ H, ⟨xs.length, by simp, Nat.zero_le _, h0⟩, ?_⟩
  rintro i m σ H ⟨rfl, hi, p⟩
  have q := hl i σ H hi p
  by_cases hlt : i < xs.length
  · refine .inr ⟨⟨xs, xs[i], q, by simp [hlt]⟩, Pv (i + 1), fun σ' H' p' => ⟨xs.length - (i + 1), by omega, rfl, hlt, p'⟩, fun x H' y => ?_⟩
    obtain ⟨e, y⟩ := y
    subst e
    exact hs i x σ _ (y xs q) p
  · have e : i = xs.length := by omega
    subst e
    exact .inl ⟨⟨xs, q, Nat.le_refl _⟩, hd σ H p⟩
theorem for_range {lo : Int} {n : Nat} {g : TG} {tb : TS} {D : Ends} {σ : St} {H : Hp} (Pv : Nat → St → Hp → Prop) (h0 : Pv 0 σ H)
    (hs : ∀ i σ H, i < n → Pv i σ H → g (.int (lo + i)) σ H fun σ2 H2 => tb { D with nx := Pv (i + 1), ct := Pv (i + 1), bk := D.nx } σ2 H2) (hd : ∀ σ H, Pv n σ H → D.nx σ H) :
    ∃ W : Nat → Nat → St → Hp → Prop, (∃ m, W 0 m σ H) ∧ ∀ i m σ H, W i m σ H →
      ((Itr lo n).stop i H ∧ D.nx σ H) ∨ ((Itr lo n).go i H ∧ ∃ N : St → Hp → Prop, (∀ σ' H', N σ' H' → ∃ m', m' < m ∧ W (i + 1) m' σ' H') ∧ ∀ x H', (Itr lo n).yld i H x H' → g x σ H' fun σ2 H2 => tb { D with nx := N, ct := N, bk := D.nx } σ2 H2) := by
  refine ⟨fun i m σ H => m = n - i ∧ i ≤ n ∧ Pv i σ H, ⟨n, by simp, Nat.zero_le _, h0⟩, ?_⟩
  rintro i m σ H ⟨rfl, hi, p⟩
  by_cases hlt : i < n
  · refine .inr ⟨hlt, Pv (i + 1), fun σ' H' p' => ⟨n - (i + 1), by omega, rfl, hlt, p'⟩, fun x H' y => ?_⟩
    obtain ⟨e, y⟩ := y
    subst e y
    exact hs i σ _ hlt p
  · have e : i = n := by omega
    subst e
    exact .inl ⟨Nat.le_refl _, hd σ H p⟩
end L2

namespace L2
open PySem PySem.Spec PyProof.Rows

abbrev R2 := V → V → Hp → VK → Prop
def OpR (X : Cx) (f : Value → Value → Sem Value) (r : R2) : Prop :=
  ∀ (pins : List (Addr × Obj)) (s : Shared) (σ : St) (H : Hp) (x y : V) (v u : Value) (Q : VK), Inv X pins σ H s → RelV x v → RelV y u → r x y H Q →
    wpAny (model X.prog X.w) X.A (f v u) (EP X pins σ Q) X.xe s
def UnR (X : Cx) (f : Value → Sem Value) (r : V → Hp → VK → Prop) : Prop :=
  ∀ (pins : List (Addr × Obj)) (s : Shared) (σ : St) (H : Hp) (x : V) (v : Value) (Q : VK), Inv X pins σ H s → RelV x v → r x H Q →
    wpAny (model X.prog X.w) X.A (f v) (EP X pins σ Q) X.xe s
def CallR (X : Cx) (f : Value) (r : List V → Hp → VK → Prop) : Prop :=
  ∀ (pins : List (Addr × Obj)) (s : Shared) (σ : St) (H : Hp) (xs : List V) (us : List Value) (Q : VK), Inv X pins σ H s → Vals xs us → r xs H Q →
    wpAny (model X.prog X.w) X.A (call f us) (EP X pins σ Q) X.xe s
def tOp (r : R2) (ta tb : TE) : TE := fun σ H Q => ta σ H fun x H1 => tb σ H1 fun y H2 => r x y H2 Q
def tUn (r : V → Hp → VK → Prop) (ta : TE) : TE := fun σ H Q => ta σ H fun x H1 => r x H1 Q
def rI (C : Int → Int → Prop) (g : Int → Int → V) : R2 := fun x y H Q => ∃ i j, x = .int i ∧ y = .int j ∧ C i j ∧ Q (g i j) H
def rI0 (g : Int → Int → V) : R2 := fun x y H Q => ∃ i j, x = .int i ∧ y = .int j ∧ Q (g i j) H
def rU (g : Int → V) : V → Hp → VK → Prop := fun x H Q => ∃ i, x = .int i ∧ Q (g i) H

section
variable {X : Cx} {a b c : Expr} {ta tb tc : TE} {pos : Pos}

theorem binT (ha : PE X a ta) (hb : PE X b tb) {pins : List (Addr × Obj)} {s : Shared} {σ : St} {H : Hp} {R : V → V → Hp → Prop} (I : Inv X pins σ H s)
    (h : ta σ H fun x H1 => tb σ H1 fun y H2 => R x y H2) {Q : Value → Shared → Prop} {f : Value → Value → Sem Value}
    (hf : ∀ v u s2 x y H2, Inv X pins σ H2 s2 → RelV x v → RelV y u → R x y H2 → wpAny (model X.prog X.w) X.A (f v u) Q X.xe s2) :
    wpAny (model X.prog X.w) X.A (eval a X.env) (fun v s₁ => wpAny (model X.prog X.w) X.A (eval b X.env) (fun u s₂ => wpAny (model X.prog X.w) X.A (f v u) Q X.xe s₂) X.xe s₁) X.xe s := by
  refine thn (ha pins s σ H _ I h) fun v s1 ⟨x, H1, I1, r1, q1⟩ => ?_
  refine thn (hb pins s1 σ H1 _ I1 q1) fun u s2 ⟨y, H2, I2, r2, q2⟩ => ?_
  exact hf v u s2 x y H2 I2 r1 r2 q2

theorem pe_op {op : Operator} {r : R2} (ho : OpR X (binaryOp op) r) (ha : PE X a ta) (hb : PE X b tb) : PE X (.BinOp a op b pos) (tOp r ta tb) := by
  intro pins s σ H Q I h
  exact wpAny_BinOp (binT ha hb I h fun v u s2 x y H2 I2 rx ry q => ho pins s2 σ H2 x y v u Q I2 rx ry q)
theorem pe_un {op : UnaryOp} {r : V → Hp → VK → Prop} (ho : UnR X (unaryOp op) r) (ha : PE X a ta) : PE X (.UnaryOp op a pos) (tUn r ta) := by
  intro pins s σ H Q I h
  exact UnaryOp_ (thn (ha pins s σ H _ I h) fun v s1 ⟨x, H1, I1, r1, q1⟩ => ho pins s1 σ H1 x v Q I1 r1 q1)
theorem opI {f : Value → Value → Sem Value} {C : Int → Int → Prop} {g : Int → Int → Int}
    (rule : ∀ (i j : Int) (t u : Tok) (s : Shared) (Q : Value → Shared → Prop) (E : Value → Shared → Prop), C i j → Q (.int (g i j) s.toks) { s with toks := s.toks + 1 } → wpAny (model X.prog X.w) X.A (f (.int i t) (.int j u)) Q E s) :
    OpR X f (rI C fun i j => .int (g i j)) := by
  intro pins s σ H x y v u Q I rx ry h
  obtain ⟨i, j, rfl, rfl, hc, q⟩ := h
  obtain ⟨t, rfl⟩ := rx
  obtain ⟨t', rfl⟩ := ry
  exact rule i j t t' s _ _ hc ⟨.int (g i j), H, I.tok _, ⟨_, rfl⟩, q⟩
theorem opI0 {f : Value → Value → Sem Value} {g : Int → Int → Int}
    (rule : ∀ (i j : Int) (t u : Tok) (s : Shared) (Q : Value → Shared → Prop) (E : Value → Shared → Prop), Q (.int (g i j) s.toks) { s with toks := s.toks + 1 } → wpAny (model X.prog X.w) X.A (f (.int i t) (.int j u)) Q E s) :
    OpR X f (rI0 fun i j => .int (g i j)) := by
  intro pins s σ H x y v u Q I rx ry h
  obtain ⟨i, j, rfl, rfl, q⟩ := h
  obtain ⟨t, rfl⟩ := rx
  obtain ⟨t', rfl⟩ := ry
  exact rule i j t t' s _ _ ⟨.int (g i j), H, I.tok _, ⟨_, rfl⟩, q⟩
theorem opB0 {f : Value → Value → Sem Value} {g : Int → Int → Bool}
    (rule : ∀ (i j : Int) (t u : Tok) (s : Shared) (Q : Value → Shared → Prop) (E : Value → Shared → Prop), Q (.bool (g i j)) s → wpAny (model X.prog X.w) X.A (f (.int i t) (.int j u)) Q E s) :
    OpR X f (rI0 fun i j => .bl (g i j)) := by
  intro pins s σ H x y v u Q I rx ry h
  obtain ⟨i, j, rfl, rfl, q⟩ := h
  obtain ⟨t, rfl⟩ := rx
  obtain ⟨t', rfl⟩ := ry
  exact rule i j t t' s _ _ ⟨.bl (g i j), H, I, rfl, q⟩

def CMul (i j : Int) : Prop := (-(2 ^ 64) < i ∧ i < 2 ^ 64) ∨ (-(2 ^ 64) < j ∧ j < 2 ^ 64)
theorem CMul.ok {i j : Int} (h : CMul i j) : IntMulOk i j := by
  rcases h with ⟨h1, h2⟩ | ⟨h1, h2⟩
  · exact .of_left (intBits_le_64 h1 h2)
  · exact .of_right (intBits_le_64 h1 h2)
theorem op_add : OpR X (binaryOp .Add) (rI0 fun i j => .int (i + j)) := opI0 fun _ _ _ _ _ _ _ q => add_int q
theorem op_sub : OpR X (binaryOp .Sub) (rI0 fun i j => .int (i - j)) := opI0 fun _ _ _ _ _ _ _ q => sub_int q
theorem op_mod : OpR X (binaryOp .Mod) (rI (fun _ j => 0 < j) fun i j => .int (i % j)) := opI fun i j _ _ _ _ _ hc q => by
  have h1 : (0 : Int) < j := hc
  exact mod_int' (by omega) (by rw [Int.fmod_eq_emod_of_nonneg i (by omega)]; exact q)
theorem op_modN : OpR X (binaryOp .Mod) (rI (fun _ j => j ≠ 0) fun i j => .int (i.fmod j)) := opI fun _ _ _ _ _ _ _ hc q => mod_int' hc q
theorem unI {f : Value → Sem Value} {g : Int → Int}
    (rule : ∀ (i : Int) (t : Tok) (s : Shared) (Q : Value → Shared → Prop) (E : Value → Shared → Prop), Q (.int (g i) s.toks) { s with toks := s.toks + 1 } → wpAny (model X.prog X.w) X.A (f (.int i t)) Q E s) :
    UnR X f (rU fun i => .int (g i)) := by
  intro pins s σ H x v Q I rx h
  obtain ⟨i, rfl, q⟩ := h
  obtain ⟨t, rfl⟩ := rx
  exact rule i t s _ _ ⟨.int (g i), H, I.tok _, ⟨_, rfl⟩, q⟩
theorem un_neg : UnR X (unaryOp .USub) (rU fun i => .int (-i)) := unI fun _ _ _ _ _ q => neg_int q
end

def scal : V → V → Bool
  | .non, .non => true | .non, .int _ => true | .int _, .non => true | .non, .bl _ => true | .bl _, .non => true | .non, .str _ => true | .str _, .non => true
  | .int _, .int _ => true | .bl _, .bl _ => true | .str _, .str _ => true | .byt _, .byt _ => true
  | .int _, .str _ => true | .str _, .int _ => true | .bl _, .str _ => true | .str _, .bl _ => true
  | _, _ => false
def rEq : R2 := fun x y H Q => scal x y = true ∧ Q (.bl (decide (x = y))) H
def rNe : R2 := fun x y H Q => scal x y = true ∧ Q (.bl (!decide (x = y))) H

theorem dec_int {i j : Int} : decide (V.int i = V.int j) = (i == j) := by
  rw [Bool.eq_iff_iff]
  simp
theorem dec_bl {i j : Bool} : decide (V.bl i = V.bl j) = (i == j) := by
  rw [Bool.eq_iff_iff]
  simp
theorem dec_str {i j : Str} : decide (V.str i = V.str j) = (i == j) := by
  rw [Bool.eq_iff_iff]
  simp
theorem dec_byt {i j : Array UInt8} : decide (V.byt i = V.byt j) = (i.toList == j.toList) := by
  rw [Bool.eq_iff_iff]
  cases i
  cases j
  simp

section
variable {X : Cx} {a b c : Expr} {ta tb tc : TE} {pos : Pos}
theorem fin_bl {pins : List (Addr × Obj)} {σ : St} {H : Hp} {s : Shared} {Q : VK} {k k' : Bool} (I : Inv X pins σ H s) (q : Q (.bl k) H) (e : k = k') : EP X pins σ Q (.bool k') s := by
  subst e
  exact ⟨.bl k, H, I, rfl, q⟩
theorem op_eq : OpR X (compareOp .Eq) rEq := by
  intro pins s σ H x y v u Q I rx ry h
  obtain ⟨hs, q⟩ := h
  cases x with
  | non =>
    cases rx
    cases y with
    | non => cases ry; exact PySem.EqNone.eq_none_none (fin_bl I q (by simp))
    | bl j => cases ry; exact PySem.EqNone.eq_none_bool (fin_bl I q (by simp))
    | int j => obtain ⟨t', rfl⟩ := ry; exact PySem.EqNone.eq_none_int (fin_bl I q (by simp))
    | str j => obtain ⟨t', rfl⟩ := ry; exact PySem.EqNone.eq_none_str (fin_bl I q (by simp))
    | _ => exact absurd (show false = true from hs) Bool.false_ne_true
  | bl i =>
    cases rx
    cases y with
    | non => cases ry; exact PySem.EqNone.eq_bool_none (fin_bl I q (by simp))
    | bl j => cases ry; exact eq_bool (fin_bl I q dec_bl)
    | str j => obtain ⟨t', rfl⟩ := ry; exact PySem.EqMixed.eq_bool_str (fin_bl I q (by simp))
    | _ => exact absurd (show false = true from hs) Bool.false_ne_true
  | int i =>
    obtain ⟨t, rfl⟩ := rx
    cases y with
    | non => cases ry; exact PySem.EqNone.eq_int_none (fin_bl I q (by simp))
    | int j => obtain ⟨t', rfl⟩ := ry; exact eq_int (fin_bl I q dec_int)
    | str j => obtain ⟨t', rfl⟩ := ry; exact PySem.EqMixed.eq_int_str (fin_bl I q (by simp))
    | _ => exact absurd (show false = true from hs) Bool.false_ne_true
  | str i =>
    obtain ⟨t, rfl⟩ := rx
    cases y with
    | non => cases ry; exact PySem.EqNone.eq_str_none (fin_bl I q (by simp))
    | bl j => cases ry; exact PySem.EqMixed.eq_str_bool (fin_bl I q (by simp))
    | int j => obtain ⟨t', rfl⟩ := ry; exact PySem.EqMixed.eq_str_int (fin_bl I q (by simp))
    | str j => obtain ⟨t', rfl⟩ := ry; exact eq_str (fin_bl I q dec_str)
    | _ => exact absurd (show false = true from hs) Bool.false_ne_true
  | byt i =>
    obtain ⟨t, rfl⟩ := rx
    cases y with
    | byt j => obtain ⟨t', rfl⟩ := ry; exact PySem.W.eq_bytes (fin_bl I q dec_byt)
    | _ => exact absurd (show false = true from hs) Bool.false_ne_true
  | _ => cases y <;> exact absurd (show false = true from hs) Bool.false_ne_true
theorem op_ne : OpR X (compareOp .NotEq) rNe := by
  intro pins s σ H x y v u Q I rx ry h
  obtain ⟨hs, q⟩ := h
  cases x with
  | non =>
    cases rx
    cases y with
    | non => cases ry; exact PySem.EqNone.ne_none_none (fin_bl I q (by simp))
    | bl j => cases ry; exact PySem.EqNone.ne_none_bool (fin_bl I q (by simp))
    | int j => obtain ⟨t', rfl⟩ := ry; exact PySem.EqNone.ne_none_int (fin_bl I q (by simp))
    | str j => obtain ⟨t', rfl⟩ := ry; exact PySem.EqNone.ne_none_str (fin_bl I q (by simp))
    | _ => exact absurd (show false = true from hs) Bool.false_ne_true
  | bl i =>
    cases rx
    cases y with
    | non => cases ry; exact PySem.EqNone.ne_bool_none (fin_bl I q (by simp))
    | bl j => cases ry; exact ne_bool (fin_bl I q (congrArg not dec_bl))
    | str j => obtain ⟨t', rfl⟩ := ry; exact PySem.EqMixed.ne_bool_str (fin_bl I q (by simp))
    | _ => exact absurd (show false = true from hs) Bool.false_ne_true
  | int i =>
    obtain ⟨t, rfl⟩ := rx
    cases y with
    | non => cases ry; exact PySem.EqNone.ne_int_none (fin_bl I q (by simp))
    | int j => obtain ⟨t', rfl⟩ := ry; exact ne_int (fin_bl I q (congrArg not dec_int))
    | str j => obtain ⟨t', rfl⟩ := ry; exact PySem.EqMixed.ne_int_str (fin_bl I q (by simp))
    | _ => exact absurd (show false = true from hs) Bool.false_ne_true
  | str i =>
    obtain ⟨t, rfl⟩ := rx
    cases y with
    | non => cases ry; exact PySem.EqNone.ne_str_none (fin_bl I q (by simp))
    | bl j => cases ry; exact PySem.EqMixed.ne_str_bool (fin_bl I q (by simp))
    | int j => obtain ⟨t', rfl⟩ := ry; exact PySem.EqMixed.ne_str_int (fin_bl I q (by simp))
    | str j => obtain ⟨t', rfl⟩ := ry; exact ne_str (fin_bl I q (congrArg not dec_str))
    | _ => exact absurd (show false = true from hs) Bool.false_ne_true
  | byt i =>
    obtain ⟨t, rfl⟩ := rx
    cases y with
    | byt j => obtain ⟨t', rfl⟩ := ry; exact PySem.W.ne_bytes (fin_bl I q (congrArg not dec_byt))
    | _ => exact absurd (show false = true from hs) Bool.false_ne_true
  | _ => cases y <;> exact absurd (show false = true from hs) Bool.false_ne_true

theorem op_lt : OpR X (compareOp .Lt) (rI0 fun i j => .bl (decide (i < j))) := opB0 fun _ _ _ _ _ _ _ q => lt_int q
theorem op_le : OpR X (compareOp .LtE) (rI0 fun i j => .bl (decide (i ≤ j))) := opB0 fun _ _ _ _ _ _ _ q => le_int q
theorem op_gt : OpR X (compareOp .Gt) (rI0 fun i j => .bl (decide (j < i))) := opB0 fun _ _ _ _ _ _ _ q => gt_int q
theorem op_ge : OpR X (compareOp .GtE) (rI0 fun i j => .bl (decide (j ≤ i))) := opB0 fun _ _ _ _ _ _ _ q => ge_int q
theorem op_notN : OpR X (compareOp .IsNot) (fun x y H Q => y = .non ∧ Q (.bl (!decide (x = .non))) H) := by
  intro pins s σ H x y v u Q I rx ry h
  obtain ⟨rfl, q⟩ := h
  cases ry
  refine isnot_none_gen (fin_bl I q ?_)
  cases x <;> first
    | (cases rx; rfl)
    | (obtain ⟨t, rfl⟩ := rx; rfl)

theorem nomark (b : Expr) {op : CmpOp} (h : op ≠ .In := by decide) (h2 : op ≠ .NotIn := by decide) : behindInMarks op b = false := by
  have e1 : (op == CmpOp.In) = false := by cases op <;> first | rfl | exact absurd rfl h
  have e2 : (op == CmpOp.NotIn) = false := by cases op <;> first | rfl | exact absurd rfl h2
  cases b <;> simp [behindInMarks, e1, e2]
theorem pe_cmpR {op : CmpOp} {r : R2} (ho : OpR X (compareOp op) r) (ha : PE X a ta) (hb : PE X b tb) (hm : behindInMarks op b = false) : PE X (.Compare a [op] [b] pos) (tOp r ta tb) := by
  intro pins s σ H Q I h
  exact wpAny_Compare1 (binT ha hb I h fun v u s2 x y H2 I2 rx ry q => ho pins s2 σ H2 x y v u Q I2 rx ry q) hm
def tTest (t : TE) : TT := fun σ H Q => t σ H fun x H' => ∃ k, x = .bl k ∧ Q k H'
theorem pt_cmpR {op : CmpOp} {r : R2} (ho : OpR X (compareOp op) r) (ha : PE X a ta) (hb : PE X b tb) (hm : behindInMarks op b = false) : PT X (.Compare a [op] [b] pos) (tTest (tOp r ta tb)) := by
  intro pins s σ H Q I h
  refine wpAny_isTrue_Compare1 (thn (ha pins s σ H _ I h) fun v s1 ⟨x, H1, I1, r1, q1⟩ => thn (hb pins s1 σ H1 _ I1 q1) fun u s2 ⟨y, H2, I2, r2, q2⟩ =>
    thn (ho pins s2 σ H2 x y v u _ I2 r1 r2 q2) fun c s3 ⟨z, H3, I3, r3, k, e, q3⟩ => ?_) hm
  subst e
  cases r3
  exact wpAny_truthy_bool ⟨H3, I3, q3⟩
theorem line63 : (sizeLine : Nat) < 2 ^ 63 := by rw [sizeLine_eq]; decide
theorem vals1 {x : V} {us : List Value} (r : Vals [x] us) : ∃ u, us = [u] ∧ RelV x u := by
  cases r with
  | cons r1 r2 => cases r2; exact ⟨_, rfl, r1⟩
theorem vals2 {x y : V} {us : List Value} (r : Vals [x, y] us) : ∃ u w', us = [u, w'] ∧ RelV x u ∧ RelV y w' := by
  cases r with
  | cons r1 r2 =>
    cases r2 with
    | cons r3 r4 => cases r4; exact ⟨_, _, rfl, r1, r3⟩
theorem call_abs : CallR X (.builtin "abs") (fun xs H Q => ∃ i, xs = [.int i] ∧ Q (.int (if i < 0 then -i else i)) H) := by
  intro pins s σ H xs us Q I r h
  obtain ⟨i, rfl, q⟩ := h
  obtain ⟨u, rfl, t, rfl⟩ := vals1 r
  exact call_abs_int fun u tk => ⟨.int (if i < 0 then -i else i), H, I.tok _, ⟨_, rfl⟩, q⟩
theorem call_min2 (hc : X.calm = true) : CallR X (.builtin "min") (fun xs H Q => ∃ i j, xs = [.int i, .int j] ∧ Q (.int (if j < i then j else i)) H) := by
  intro pins s σ H xs us Q I r h
  obtain ⟨i, j, rfl, q⟩ := h
  obtain ⟨u, w', rfl, ⟨t, rfl⟩, ⟨t', rfl⟩⟩ := vals2 r
  refine min_two_ints (I.ok.hd hc) fun h' tk k => ⟨_, H, I.kept k, ?_, q⟩
  by_cases hj : j < i
  · rw [if_pos hj, if_pos hj]; exact ⟨_, rfl⟩
  · rw [if_neg hj, if_neg hj]; exact ⟨_, rfl⟩
end
end L2

namespace L2
open PySem PySem.Spec PyProof.Rows

structure ObjM (h : Heap) (x dx C : Addr) (mA : Str → Option Value) : Prop where
  obj : h.get? x = some (PySem.W.instObj C dx)
  ns : h.Ns1 dx mA
  ne : dx ≠ x

theorem lookIn_ns {h : Heap} {dx : Addr} {mA : Str → Option Value} (n : h.Ns1 dx mA) : ∃ od, h.get? dx = some od ∧ ∀ name, PySem.W.lookIn name od = some (mA name) := by
  obtain ⟨o, es, ep, ho, hd, hk, _, hm⟩ := n
  refine ⟨o, ho, fun name => ?_⟩
  have e := hm name
  unfold nsFind findBy at e
  rw [← Array.find?_toList] at e
  unfold PySem.W.lookIn
  rw [hd]
  dsimp only
  split
  · rename_i y q
    rw [q] at e
    exact congrArg some e
  · rename_i q
    rw [q] at e
    have a : es.toList.any (·.refKey) = false := by
      rw [List.any_eq_false]
      intro y hy
      obtain ⟨z, t, hkey⟩ := hk y (Array.mem_toList_iff.mp hy)
      simp [DictEntry.refKey, hkey]
    have a' : ¬ es.toList.any (·.refKey) = true := by rw [a]; exact Bool.false_ne_true
    rw [if_neg a']
    exact congrArg some e

theorem ObjM.look {h : Heap} {x dx C : Addr} {mA : Str → Option Value} (I : ObjM h x dx C mA) : ∃ od, PySem.W.InstAt h x (PySem.W.instObj C dx) C (some od) ∧ ∀ name, PySem.W.lookIn name od = some (mA name) :=
  let ⟨od, ho, hl⟩ := lookIn_ns I.ns
  ⟨od, ⟨I.obj, rfl, rfl, ho⟩, hl⟩

section
variable {prog : Program} {w : World} {A : Around} {E : Value → Shared → Prop} {s : Shared} {K : PySem.W.Frag} {x dx C f : Addr} {mA : Str → Option Value} {name : Str} {v : Value}

theorem get_map {expr : Bool} {Q : Value → Shared → Prop} (X : K.In s.heap) (I : ObjM s.heap x dx C mA) (hg : PySem.W.plainGet K C name = true) (hh : PySem.W.hasDictIn K C = true)
    (ha : PySem.W.findIn K (.ref C) name = some none) (hv : mA name = some v) (hv' : PySem.W.handedIn v = true) (h : Q v { s with toks := s.toks + 1 }) :
    wpAny (model prog w) A (getAttr (.ref x) name expr) Q E s := by
  obtain ⟨od, J, hl⟩ := I.look
  exact PySem.W.get_value X J (PySem.W.plainGet_of hg).1 (PySem.W.findObj_own hh ha rfl (by rw [hl, hv])) hv' h

theorem set_map {ns : List Str} {Q : Unit → Shared → Prop} (X : K.In s.heap) (I : ObjM s.heap x dx C mA)
    (hs : PySem.W.findIn K (.ref C) "__setattr__" = some (some (.builtin "object.__setattr__"))) (hp : PySem.W.plainOver K C = true) (ht : PySem.W.takerIn K C name = some none) (hh : PySem.W.hasDictIn K C = true)
    (hw : PySem.Within mA ns) (hsz : ns.length ≤ sizeLine)
    (h : ∀ h', ObjM h' x dx C (fun y => if y = name then some v else mA y) → Heap.SameBut dx s.heap h' → Q () { s with heap := h', toks := s.toks + 2 }) :
    wpAny (model prog w) A (setAttr (.ref x) name v) Q E s := by
  obtain ⟨od, J, hl⟩ := I.look
  refine PySem.W.set_plain X J hs (PySem.W.osa_open (s := { s with toks := s.toks + 1 }) (r := none) X J hp ht fun b => ?_)
  obtain ⟨cd, hc, hd'⟩ := PySem.W.any_some hh
  have hx : s.heap.get? x = some ⟨.ref C, some dx, .plain, #[]⟩ := I.obj
  refine wpAny_bind (wpAny_pure (wpAny_bind (wpAny_bind (wpAny_loadPart hx (wpAny_bind (PySem.W.Looks.here (s := { s with toks := s.toks + 1 }) (PySem.W.looks_clsIn X hc) ?_))))))
  rw [hd']
  refine wpAny_pure (a := some dx) (wpAny_bind (wpAny_pure (wpAny_bind ?_)))
  refine wpAny_nsSet1 (s := { s with toks := s.toks + 1 }) I.ns fun h' hn2 hs2 => ?_
  obtain ⟨oD, esD, epD, hoD, hdD, hcD⟩ := hn2.count (PySem.Within.cons name v hw)
  refine wpAny_bind (wpAny_lookBehind hoD (by rw [hdD]; exact pastItsLine_dict (Nat.le_trans hcD (by rw [List.length_cons]; omega))) ?_)
  exact wpAny_pure (h _ ⟨(hs2.2 _ (Ne.symm I.ne)).trans I.obj, hn2, I.ne⟩ hs2)

theorem make_map {R : Result → Shared → Prop} {vs : List Value} {kw : List (Str × Value)} (X : K.In s.heap) (hm : PySem.W.makesIn K C = true)
    (hi : PySem.W.findIn K (.ref C) "__init__" = some (some (.ref f))) (hf : PySem.W.typeIn K (.ref f) = some (.type "function"))
    (h : codeAny (model prog w) (A.under (.builtin "type.__call__" ⟨.ref C :: vs, kw⟩)) (.call (.ref f) ⟨.ref (s.heap.objs.size + 1) :: vs, kw⟩) (PySem.W.InitBack (s.heap.objs.size + 1) R)
      { s with heap := (s.heap.push PySem.W.emptyDict).push (PySem.W.instObj C s.heap.objs.size) }) :
    codeAny (model prog w) A (.call (.ref C) ⟨vs, kw⟩) R s := by
  obtain ⟨hh, g, d, t, os⟩ := s
  exact PySem.W.make_core (PySem.W.makes_of X hm) (PySem.W.looks_findIn X hi) (fun self => PySem.W.bind_fn X self hf) (.inl rfl) h
end

def putF (f : Str) (v : V) : List (Str × V) → List (Str × V)
  | [] => [(f, v)]
  | (g, x) :: r => if g = f then (g, v) :: r else (g, x) :: putF f v r
theorem lookup_putF (f g : Str) (v : V) : ∀ fs : List (Str × V), (putF f v fs).lookup g = if g = f then some v else fs.lookup g
  | [] => by
    show List.lookup g [(f, v)] = _
    by_cases h : g = f
    · have hb : (g == f) = true := beq_iff_eq.mpr h
      simp only [List.lookup, hb, if_pos h]
    · have hb : (g == f) = false := beq_eq_false_iff_ne.mpr h
      simp only [List.lookup, hb, if_neg h]
  | (k, x) :: r => by
    have ih := lookup_putF f g v r
    rw [show putF f v ((k, x) :: r) = (if k = f then (k, v) :: r else (k, x) :: putF f v r) from rfl]
    by_cases hk : k = f
    · rw [if_pos hk]
      by_cases h : g = k
      · have hb : (g == k) = true := beq_iff_eq.mpr h
        simp only [List.lookup, hb, if_pos (h.trans hk)]
      · have hb : (g == k) = false := beq_eq_false_iff_ne.mpr h
        simp only [List.lookup, hb, if_neg (fun e : g = f => h (e.trans hk.symm))]
    · rw [if_neg hk]
      by_cases h : g = k
      · have hb : (g == k) = true := beq_iff_eq.mpr h
        simp only [List.lookup, hb, if_neg (fun e : g = f => hk (h.symm.trans e))]
      · have hb : (g == k) = false := beq_eq_false_iff_ne.mpr h
        simp only [List.lookup, hb]
        exact ih
theorem keys_putF (f : Str) (v : V) : ∀ fs : List (Str × V), f ∈ (putF f v fs).map (·.1) ∧ ∀ g, g ∈ fs.map (·.1) → g ∈ (putF f v fs).map (·.1)
  | [] => ⟨by simp [putF], fun g h => by simp at h⟩
  | (k, x) :: r => by
    obtain ⟨i1, i2⟩ := keys_putF f v r
    rw [show putF f v ((k, x) :: r) = (if k = f then (k, v) :: r else (k, x) :: putF f v r) from rfl]
    by_cases hk : k = f
    · rw [if_pos hk]
      subst hk
      exact ⟨by simp, fun g h => by simpa using h⟩
    · rw [if_neg hk]
      refine ⟨?_, fun g h => ?_⟩
      · rw [List.map_cons]
        exact List.mem_cons_of_mem _ i1
      · rw [List.map_cons] at h ⊢
        rcases List.mem_cons.mp h with e | e
        · exact List.mem_cons.mpr (.inl e)
        · exact List.mem_cons_of_mem _ (i2 g e)
theorem length_putF (f : Str) (v : V) : ∀ fs : List (Str × V), (putF f v fs).length ≤ fs.length + 1
  | [] => by simp [putF]
  | (k, x) :: r => by
    have ih := length_putF f v r
    rw [show putF f v ((k, x) :: r) = (if k = f then (k, v) :: r else (k, x) :: putF f v r) from rfl]
    by_cases hk : k = f
    · rw [if_pos hk, List.length_cons, List.length_cons]; omega
    · rw [if_neg hk, List.length_cons, List.length_cons]; omega

theorem RelO.some_of {v : V} {o : Option Value} (r : RelO (some v) o) : ∃ u, o = some u ∧ RelV v u := by
  cases o with
  | none => exact (show False from r).elim
  | some u => exact ⟨u, rfl, r⟩
theorem handed_of {v : V} {u : Value} (r : RelV v u) : PySem.W.handedIn u = true := by
  cases v with
  | non => cases (show u = Value.none from r); rfl
  | bl b => cases (show u = Value.bool b from r); rfl
  | int i => obtain ⟨t, e⟩ := (show ∃ t, u = Value.int i t from r); cases e; rfl
  | str x => obtain ⟨t, e⟩ := (show ∃ t, u = Value.str x t from r); cases e; rfl
  | byt b => obtain ⟨t, e⟩ := (show ∃ t, u = Value.bytes b t from r); cases e; rfl
  | flt b => obtain ⟨t, e⟩ := (show ∃ t, u = Value.float b t from r); cases e; rfl
  | ref a => cases (show u = Value.ref a from r); rfl
  | ty n => cases (show u = Value.type n from r); rfl

section
variable {P : Program} {w : World} {H H' : Hp} {h h' : Heap} {a C dx : Addr} {fs fs' : List (Str × V)}
theorem ins_get (hok : HOk P w H h) (e : H a = some (.ins C dx fs)) : ∃ mA, ObjM h a dx C mA ∧ (∀ f, RelO (fs.lookup f) (mA f)) ∧ PySem.Within mA (fs.map (·.1)) ∧ fs.length ≤ 1000 ∧ H dx = some (.own a) := by
  obtain ⟨d, z, ne, ob, mA, n, r, q⟩ := (show ObjOk P w H h a (.ins C dx fs) from hok a _ e)
  exact ⟨mA, ⟨ob, n, ne⟩, r, q, z, d⟩
end

structure Cls (K : PySem.W.Frag) (C : Addr) : Prop where
  pg : PySem.W.plainGet K C Str.empty = true
  hd : PySem.W.hasDictIn K C = true
  po : PySem.W.plainOver K C = true
  sa : PySem.W.findIn K (.ref C) "__setattr__" = some (some (.builtin "object.__setattr__"))
theorem Cls.get {K : PySem.W.Frag} {C : Addr} (c : Cls K C) (f : Str) : PySem.W.plainGet K C f = true := c.pg
def NoAttr (K : PySem.W.Frag) (C : Addr) (f : Str) : Prop := PySem.W.findIn K (.ref C) f = some none
theorem NoAttr.taker {K : PySem.W.Frag} {C : Addr} {f : Str} (n : NoAttr K C f) : PySem.W.takerIn K C f = some none := by
  unfold PySem.W.takerIn
  rw [show PySem.W.findIn K (.ref C) f = some none from n]
  rfl
structure Con (K : PySem.W.Frag) (C : Addr) (f : Str) (v : V) (u : Value) : Prop where
  at_ : PySem.W.findIn K (.ref C) f = some (some u)
  rel : RelV v u
  get : PySem.W.specialIn K u "__get__" = some none
  cp : PySem.W.copiedNames.contains f = false
structure Meth (K : PySem.W.Frag) (C : Addr) (m : Str) (f : Addr) : Prop where
  at_ : PySem.W.findIn K (.ref C) m = some (some (.ref f))
  fn : PySem.W.isFn K (.ref f) = true
  kp : PySem.W.keepIn K (.ref f) = true

section
variable {X : Cx} {pins : List (Addr × Obj)} {σ : St} {H : Hp} {s : Shared} {a C dx : Addr} {fs : List (Str × V)} {f : Str} {v : V} {A : Around} {E : Value → Shared → Prop}

theorem getattr_ok {b : Bool} {Q : Value → Shared → Prop} (I : Inv X pins σ H s) (e : H a = some (.ins C dx fs)) (c : Cls X.K C) (n : NoAttr X.K C f) (l : fs.lookup f = some v)
    (h : ∀ u s', Inv X pins σ H s' → RelV v u → Q u s') : wpAny (model X.prog X.w) A (getAttr (.ref a) f b) Q E s := by
  obtain ⟨mA, O, r, _, _, _⟩ := ins_get I.hok e
  obtain ⟨u, hu, ru⟩ := RelO.some_of (v := v) (o := mA f) (by rw [← l]; exact r f)
  exact get_map I.kIn O (c.get f) c.hd n hu (handed_of ru) (h u _ (I.tok _) ru)

theorem setattr_ok {y : V} {u : Value} {Q : Unit → Shared → Prop} (I : Inv X pins σ H s) (e : H a = some (.ins C dx fs)) (c : Cls X.K C) (n : NoAttr X.K C f) (hl : fs.length < 1000) (ry : RelV y u)
    (h : ∀ s', Inv X pins σ (upd H a (.ins C dx (putF f y fs))) s' → Q () s') : wpAny (model X.prog X.w) A (setAttr (.ref a) f u) Q E s := by
  obtain ⟨mA, O, r, wi, _, ho⟩ := ins_get I.hok e
  have hz : (fs.map (·.1)).length ≤ sizeLine := by rw [List.length_map, sizeLine_eq]; omega
  refine set_map I.kIn O c.sa c.po n.taker c.hd wi hz fun h' O' sb => h _ ?_
  have hd : ∃ o, h'.get? dx = some o := let ⟨o, _, _, e', _⟩ := O'.ns; ⟨o, e'⟩
  refine I.write (x := a) (e := dx) (by rw [e]; exact True.intro) (.inr ho) (fun b q hb z => (sb.2 b hb).trans z) hd ?_
  refine ⟨by rw [upd_ne O.ne]; exact ho, ?_, O.ne, O'.obj, _, O'.ns, fun g => ?_, fun g hg => ?_⟩
  · have := length_putF f y fs; omega
  · show RelO ((putF f y fs).lookup g) (if g = f then some u else mA g)
    rw [lookup_putF]
    by_cases q : g = f
    · rw [if_pos q, if_pos q]; exact ry
    · rw [if_neg q, if_neg q]; exact r g
  · by_cases q : g = f
    · rw [q]; exact (keys_putF f y fs).1
    · refine (keys_putF f y fs).2 g (wi g fun z => hg ?_)
      show (if g = f then some u else mA g) = none
      rw [if_neg q]; exact z

theorem Inv.made (I : Inv X pins σ H s) : Inv X pins σ (upd (upd H s.heap.objs.size (.own (s.heap.objs.size + 1))) (s.heap.objs.size + 1) (.ins C s.heap.objs.size []))
    { s with heap := (s.heap.push PySem.W.emptyDict).push (PySem.W.instObj C s.heap.objs.size) } := by
  have e1 : (s.heap.push PySem.W.emptyDict).get? s.heap.objs.size = some PySem.W.emptyDict := Heap.get?_push_size s.heap rfl
  have e2 : ((s.heap.push PySem.W.emptyDict).push (PySem.W.instObj C s.heap.objs.size)).get? (s.heap.objs.size + 1) = some (PySem.W.instObj C s.heap.objs.size) := by
    have := Heap.get?_push_size (s.heap.push PySem.W.emptyDict) (o := PySem.W.instObj C s.heap.objs.size) rfl
    rwa [Heap.size_push] at this
  have e3 : (s.heap.push PySem.W.emptyDict).Ns s.heap.objs.size (fun _ => none) := ⟨PySem.W.emptyDict, #[], _, e1, rfl, (fun e he => absurd he (by simp)), fun _ => rfl⟩
  have I1 := I.laid (a := s.heap.objs.size) (o := .own (s.heap.objs.size + 1)) (h' := s.heap.push PySem.W.emptyDict) (t' := s.toks) (fun b u q => Heap.get?_push_of_some _ q) (Nat.le_refl _) ⟨_, e1⟩
  refine I1.laid (a := s.heap.objs.size + 1) (o := .ins C s.heap.objs.size []) (t' := s.toks) (fun b u q => Heap.get?_push_of_some _ q) (Nat.le_of_eq (Heap.size_push _ _)) ?_
  have ne : s.heap.objs.size ≠ s.heap.objs.size + 1 := Nat.ne_of_lt (Nat.lt_succ_self _)
  refine ⟨by rw [upd_ne ne, upd_same], Nat.zero_le _, ne, e2, fun _ => none, (Heap.Ns1.of_empty e3).at fun o q => Heap.get?_push_of_some _ q, fun _ => True.intro, fun y hy => absurd rfl hy⟩

theorem attr_of {prog : Program} {w : World} {env : Env} {e : Expr} {f : Str} {pos : Pos} {s : Shared} {Q : Value → Shared → Prop} (hb : attributeBase e f env (eval e env) = eval e env)
    (h : wpAny (model prog w) A (eval e env) (fun o s₁ => wpAny (model prog w) A (getAttr o f true) Q E s₁) E s) : wpAny (model prog w) A (eval (.Attribute e f pos) env) Q E s :=
  Attribute_any_ h (by rw [arm_eval_Attribute, hb])
end

def tFld (K : PySem.W.Frag) (ta : TE) (f : Str) : TE := fun σ H Q => ta σ H fun x H1 => ∃ a C dx fs v, x = .ref a ∧ H1 a = some (.ins C dx fs) ∧ Cls K C ∧ NoAttr K C f ∧ fs.lookup f = some v ∧ Q v H1
def sFld (K : PySem.W.Frag) (ta tv : TE) (f : Str) : TS := fun D σ H => tv σ H fun y H1 => ta σ H1 fun x H2 => ∃ a C dx fs, x = .ref a ∧ H2 a = some (.ins C dx fs) ∧ Cls K C ∧ NoAttr K C f ∧ fs.length < 1000 ∧
  D.nx σ (upd H2 a (.ins C dx (putF f y fs)))
section
variable {X : Cx} {o e value : Expr} {f : Str} {pos pos' tpos : Pos} {ta tv : TE}
theorem pe_fld (he : PE X e ta) (hb : attributeBase e f X.env (eval e X.env) = eval e X.env) : PE X (.Attribute e f pos) (tFld X.K ta f) := by
  intro pins s σ H Q I h
  refine attr_of hb (thn (he pins s σ H _ I h) fun u s1 ⟨x, H1, I1, rx, a, C, dx, fs, v, ex, ea, c, n, l, q⟩ => ?_)
  subst ex
  obtain rfl : u = Value.ref a := rx
  exact getattr_ok I1 ea c n l fun u' s2 I2 ru => ⟨v, H1, I2, ru, q⟩
theorem ps_fld (ha : PE X o ta) (hv : PE X value tv) (hs : swapsWith value (some (.Attribute o f pos')) pos.line X.env = pure false) : PS X (.Assign [.Attribute o f pos'] value pos) (sFld X.K ta tv f) := by
  intro pins s σ H D I h
  refine plainObj_wpAny_Assign_Attribute (thn (hv pins s σ H _ I h) fun u s1 ⟨y, H1, I1, ry, q⟩ => thn (ha pins s1 σ H1 _ I1 q) fun ov s2 ⟨x, H2, I2, rx, a, C, dx, fs, ex, ea, c, n, l, q2⟩ => ?_) hs
  subst ex
  obtain rfl : ov = Value.ref a := rx
  exact setattr_ok I2 ea c n l ry fun s3 I3 => ⟨σ, _, I3, q2⟩
end

section
variable {X : Cx} {pins : List (Addr × Obj)} {σ : St} {H : Hp} {s : Shared} {A : Around} {E : Value → Shared → Prop} {Q : Value → Shared → Prop} {c : Value} {b : Bool}
inductive TyOf (K : PySem.W.Frag) (H : Hp) : V → Value → Prop where
  | non : TyOf K H .non (.type "NoneType")
  | bl (x : Bool) : TyOf K H (.bl x) (.type "bool")
  | int (i : Int) : TyOf K H (.int i) (.type "int")
  | str (x : Str) : TyOf K H (.str x) (.type "str")
  | flt (x : UInt64) : TyOf K H (.flt x) (.type "float")
  | lst {a : Addr} {xs : List V} (e : H a = some (.lst xs)) : TyOf K H (.ref a) (.type "list")
  | frz {a : Addr} {o : Obj} {xs : List V} (e : H a = some (.frz o (.lst xs))) : TyOf K H (.ref a) (.type "list")
  | tup {a : Addr} {xs : List V} (e : H a = some (.tup xs)) : TyOf K H (.ref a) (.type "tuple")
  | dK {a : Addr} {kvs : List (Key × V)} (e : H a = some (.dK kvs)) : TyOf K H (.ref a) (.type "dict")
  | dT {a : Addr} {kvs : List (List Key × V)} (e : H a = some (.dT kvs)) : TyOf K H (.ref a) (.type "dict")
  | ins {a C dx : Addr} {fs : List (Str × V)} (e : H a = some (.ins C dx fs)) (cl : Cls K C) (ha : PySem.W.findIn K (.ref C) "__class__" = some (some (.builtin "object.__class__")))
      (hn : PySem.W.specialIn K (.builtin "object.__class__") "__get__" = some (some (.builtin "getset_descriptor.__get__"))) (htk : PySem.W.takesIn K (.builtin "object.__class__") = some true)
      (hm : PySem.W.mroIn K C (.type "object") = some true) : TyOf K H (.ref a) (.ref C)
theorem isinst_ok {x : V} {u t : Value} (I : Inv X pins σ H s) (rx : RelV x u) (ty : TyOf X.K H x t) (e : PySem.W.kitOne X.K t c = some b) (h : ∀ tk, Q (.bool b) { s with toks := tk }) :
    wpAny (model X.prog X.w) A (call (.builtin "isinstance") [u, c]) Q E s := by
  cases ty with
  | non => cases (show u = Value.none from rx); exact PySem.W.kia_one PySem.W.kitx_none I.kIn True.intro e (fun z => nomatch z) h
  | bl y => cases (show u = Value.bool y from rx); exact PySem.W.kia_one PySem.W.kitx_bool I.kIn True.intro e (fun z => nomatch z) h
  | int i => obtain ⟨t, q⟩ := (show ∃ t, u = Value.int i t from rx); cases q; exact PySem.W.kia_one PySem.W.kitx_int I.kIn True.intro e (fun z => nomatch z) h
  | str y => obtain ⟨t, q⟩ := (show ∃ t, u = Value.str y t from rx); cases q; exact PySem.W.kia_one PySem.W.kitx_str I.kIn True.intro e (fun z => nomatch z) h
  | flt y => obtain ⟨t, q⟩ := (show ∃ t, u = Value.float y t from rx); cases q; exact PySem.W.kia_one PySem.W.kitx_float I.kIn True.intro e (fun z => nomatch z) h
  | @lst a xs ea =>
    cases (show u = Value.ref a from rx)
    obtain ⟨_, _, n, _, h1⟩ := (show ObjOk X.prog X.w H s.heap a (.lst xs) from I.hok a _ ea)
    exact PySem.W.kia_one PySem.W.kitx_list I.kIn ⟨_, h1, rfl⟩ e (fun z => nomatch z) h
  | @frz a ob xs ea =>
    cases (show u = Value.ref a from rx)
    obtain ⟨_, _, _, n, _, h1⟩ := (show ObjOk X.prog X.w H s.heap a (.frz ob (.lst xs)) from I.hok a _ ea)
    exact PySem.W.kia_one PySem.W.kitx_list I.kIn ⟨_, h1, rfl⟩ e (fun z => nomatch z) h
  | @tup a xs ea =>
    cases (show u = Value.ref a from rx)
    obtain ⟨_, _, _, p⟩ := (show ObjOk X.prog X.w H s.heap a (.tup xs) from I.hok a _ ea)
    obtain ⟨o, h1, h2, _⟩ := p
    exact PySem.W.kia_one PySem.W.kitx_tuple I.kIn ⟨o, h1, h2⟩ e (fun z => nomatch z) h
  | @dK a kvs ea =>
    cases (show u = Value.ref a from rx)
    obtain ⟨_, _, vs, _, p⟩ := (show ObjOk X.prog X.w H s.heap a (.dK kvs) from I.hok a _ ea)
    obtain ⟨o, es, ep, h1, h2, _⟩ := p
    exact PySem.W.kia_one PySem.W.kitx_dict I.kIn ⟨o, h1, h2.1⟩ e (fun z => nomatch z) h
  | @dT a kvs ea =>
    cases (show u = Value.ref a from rx)
    obtain ⟨_, _, xs, _, o, es, ep, h1, h2, _⟩ := (show ObjOk X.prog X.w H s.heap a (.dT kvs) from I.hok a _ ea)
    exact PySem.W.kia_one PySem.W.kitx_dict I.kIn ⟨o, h1, h2.1⟩ e (fun z => nomatch z) h
  | @ins a C dx fs ea cl ha hn htk hm =>
    cases (show u = Value.ref a from rx)
    obtain ⟨mA, O, _⟩ := ins_get I.hok ea
    obtain ⟨od, J, _⟩ := O.look
    exact PySem.W.kia_one (PySem.W.kitx_own (cl.get _) cl.hd ha hn htk hm) I.kIn J e (fun z => nomatch z) h
end
end L2

namespace L2
open PySem PySem.Spec PyProof.Rows

structure Room (k : Nat) (A : Around) : Prop where
  hd : A.handled = none
  dp : A.depth + 3 * k + 5 < recursionLimit
  un : A.units + 16 * k + 200 < cLine
theorem Room.mono {j k : Nat} {A : Around} (r : Room k A) (h : j ≤ k) : Room j A := ⟨r.hd, by have := r.dp; omega, by have := r.un; omega⟩
theorem Room.deeper {k : Nat} {A : Around} (r : Room (k + 1) A) (env : Env) : Room k (A.deeper env) :=
  ⟨r.hd, by have := r.dp; show A.depth + 1 + 3 * k + 5 < _; omega, by have := r.un; show A.units + 3 + 16 * k + 200 < _; omega⟩
theorem make_depth {A : Around} {C : Addr} {us : List Value} {kw : List (Str × Value)} : (A.under (.builtin "type.__call__" ⟨.ref C :: us, kw⟩)).depth = A.depth + 1 := by
  first | rfl | simp [Around.under, Code.weight, Code.isCreation, Code.isGuard, Code.isCaller, Code.frames, Code.isFrame, guardIds]
theorem make_units {A : Around} {C : Addr} {us : List Value} {kw : List (Str × Value)} : (A.under (.builtin "type.__call__" ⟨.ref C :: us, kw⟩)).units = A.units + 1 := by
  first | rfl | simp [Around.under, Code.cUnits, Code.frames, Code.isFrame]
theorem Room.make {k : Nat} {A : Around} (r : Room (k + 1) A) (C : Addr) (us : List Value) (kw : List (Str × Value)) : Room k (A.under (.builtin "type.__call__" ⟨.ref C :: us, kw⟩)) :=
  ⟨r.hd, by have := r.dp; rw [make_depth]; omega, by have := r.un; rw [make_units]; omega⟩
theorem Room.depth {k : Nat} {A : Around} (r : Room k A) : A.depth < recursionLimit := by have := r.dp; omega
theorem Room.units {k : Nat} {A : Around} (r : Room k A) : A.units + 64 < cLine := by have := r.un; omega
def tNil : TA := fun _ H Q => Q [] H
def tCons (ta : TE) (tr : TA) : TA := fun σ H Q => ta σ H fun x H1 => tr σ H1 fun xs H2 => Q (x :: xs) H2
section
variable {X : Cx} {e : Expr} {es : List Expr} {te : TE} {t : TA} {pos : Pos}
theorem pa_nil : PA X [] tNil := fun _ _ _ _ H Q I h => Calls.spliced_nil ⟨[], H, I, .nil, h⟩
theorem pa_cons (ha : PE X e te) (hr : PA X es t) (hs : starEach (e :: es) X.env = (false, eval e X.env) :: starEach es X.env := by rfl) : PA X (e :: es) (tCons te t) := by
  intro pos pins s σ H Q I h
  rw [hs]
  show wpAny _ _ (spliced ((false, eval e X.env) :: backTo pos (starEach es X.env))) _ _ s
  refine Calls.spliced_cons (thn (ha pins s σ H _ I h) fun u s1 ⟨x, H1, I1, r1, q1⟩ => ?_)
  exact thn (hr pos pins s1 σ H1 _ I1 q1) fun us s2 ⟨xs, H2, I2, r2, q2⟩ => ⟨x :: xs, H2, I2, .cons r1 r2, q2⟩

def tTup (t : TA) : TE := fun σ H Q => t σ H fun xs H1 => xs.length ≤ sizeLine ∧ ∀ p, H1 p = none → Q (.ref p) (upd H1 p (.tup xs))
def tLst (t : TA) : TE := fun σ H Q => t σ H fun xs H1 => xs.length ≤ sizeLine ∧ ∀ p, H1 p = none → Q (.ref p) (upd H1 p (.lst xs))
theorem pe_tup {x1} (h : PA X es t) : PE X (.Tuple es x1 pos) (tTup t) := by
  intro pins s σ H Q I hq
  refine wpAny_Tuple_spliced (thn (h pos pins s σ H _ I hq) fun us s1 ⟨xs, H1, I1, r, z, q⟩ => ⟨by rw [← r.length]; exact z, ?_⟩)
  have hf : H1 s1.heap.objs.size = none := I1.hok.fresh (Nat.le_refl _)
  refine ⟨.ref s1.heap.objs.size, upd H1 s1.heap.objs.size (.tup xs), I1.laid (t' := s1.toks) (fun b u e => Heap.get?_push_of_some _ e) (Nat.le_refl _) ?_, rfl, q _ hf⟩
  exact ⟨z, us, r, ⟨_, Heap.get?_push_size _ rfl, rfl, _, rfl⟩⟩
theorem pe_lst (h : PA X es t) : PE X (.List es pos) (tLst t) := by
  intro pins s σ H Q I hq
  refine wpAny_List_spliced (thn (h pos pins s σ H _ I hq) fun us s1 ⟨xs, H1, I1, r, z, q⟩ => ⟨by rw [← r.length]; exact z, ?_⟩)
  have hf : H1 s1.heap.objs.size = none := I1.hok.fresh (Nat.le_refl _)
  refine ⟨.ref s1.heap.objs.size, upd H1 s1.heap.objs.size (.lst xs), I1.laid (t' := s1.toks) (fun b u e => Heap.get?_push_of_some _ e) (Nat.le_refl _) ?_, rfl, q _ hf⟩
  exact ⟨z, us, 0, r, Heap.get?_push_size _ rfl⟩
end

abbrev Sp := List V → Hp → VK → XK → Prop
abbrev CXT := List Env → Hp → Shared → XK → Value → Shared → Prop

structure Env0 (P : Program) (w : World) (K : PySem.W.Frag) (mg : Str → Option Value) (base : Heap) (A : Around) (outer : List Env) (s : Shared) (H : Hp) : Prop where
  frames : A.frames = some outer
  mod : Mod K mg base
  bs : ∀ b o, base.get? b = some o → s.heap.get? b = some o ∧ H b = none
  bsz : base.objs.size ≤ s.heap.objs.size
  funs : s.heap.FunFrames base outer
  frf : ∀ b ∈ frs outer, H b = none
  hok : HOk P w H s.heap
  bare : AllBare s.gens
def CE (outer : List Env) (P : Program) (w : World) (H : Hp) (s : Shared) (Q : VK) (u : Value) (s' : Shared) : Prop :=
  ∃ v H', s'.os = s.os ∧ AllBare s'.gens ∧ Un (frs outer) [] H H' s.heap s'.heap ∧ HOk P w H' s'.heap ∧ RelV v u ∧ Q v H'
def CR (CX : CXT) (outer : List Env) (P : Program) (w : World) (H : Hp) (s : Shared) (Q : VK) (E : XK) (r : Result) (s' : Shared) : Prop :=
  match r with
  | .ok (.ret u) => CE outer P w H s Q u s'
  | .ok _ => False
  | .error e => CX outer H s E e s'
structure FnOk (P : Program) (w : World) (K : PySem.W.Frag) (mg : Str → Option Value) (base : Heap) (CX : CXT) (k : Nat) (f : Addr) (fd : FuncData) (ps : List Str) (sp : Sp) : Prop where
  len : ∀ vs H Q E, sp vs H Q E → vs.length = ps.length
  run : ∀ (A : Around) (outer : List Env) (s : Shared) (H : Hp) (args : Args) (us : List Value) (vs : List V) (Q : VK) (E : XK), Room k A → Env0 P w K mg base A outer s H → BindsTo s fd args (ps.zip us) → Vals vs us → sp vs H Q E →
    codeAny (model P w) A (.call (.ref f) args) (CR CX outer P w H s Q E) s
theorem Env0.make {P : Program} {w : World} {K : PySem.W.Frag} {mg : Str → Option Value} {base : Heap} {A : Around} {outer : List Env} {s : Shared} {H : Hp} (e : Env0 P w K mg base A outer s H) (C : Addr) (us : List Value) (kw : List (Str × Value)) :
    Env0 P w K mg base (A.under (.builtin "type.__call__" ⟨.ref C :: us, kw⟩)) outer s H := ⟨by first | exact e.frames | (simpa [Around.under, Code.envs, Code.isFrame, pushEnvs] using e.frames), e.mod, e.bs, e.bsz, e.funs, e.frf, e.hok, e.bare⟩
section
variable {X : Cx} {pins : List (Addr × Obj)} {σ : St} {H : Hp} {s s' : Shared}
theorem Inv.env0 (I : Inv X pins σ H s) : Env0 X.prog X.w X.K X.mg X.base X.A X.stack s H :=
  ⟨I.ok.frames, I.ok.mod, I.bs, Nat.le_trans I.ok.bsz I.sz, I.stack, I.stkFree, I.hok, I.bare⟩
theorem Inv.after {Q : VK} {u : Value} (I : Inv X pins σ H s) (h : CE X.stack X.prog X.w H s Q u s') : EP X pins σ Q u s' := by
  obtain ⟨v, H', os, bare, un, hok, r, q⟩ := h
  obtain ⟨hh, g, d, t, os'⟩ := s'
  obtain rfl : os' = s.os := os
  exact ⟨v, H', I.call (h' := hh) (g' := g) (d' := d) (t' := t) (ch := []) un hok bare (fun b z => absurd z (by simp)), r, q⟩
end

def tCall (sp : Sp) (dvs : List V) (E : XK) (t : TA) : TE := fun σ H Q => t σ H fun vs H1 => sp (vs ++ dvs) H1 Q E
def tMake (C : Addr) (sp : Sp) (dvs : List V) (E : XK) (t : TA) : TE := fun σ H Q => t σ H fun vs H1 => ∀ x dx, H1 x = none → H1 dx = none → dx ≠ x →
  sp (.ref x :: (vs ++ dvs)) (upd (upd H1 dx (.own x)) x (.ins C dx [])) (fun v H2 => v = .non ∧ Q (.ref x) H2) E

def Binds (K : PySem.W.Frag) (fd : FuncData) (ps : List Str) (ds : List Value) : Prop :=
  ∀ (s : Shared) (us : List Value), K.In s.heap → (us ++ ds).length = ps.length → BindsTo s fd ⟨us, []⟩ (ps.zip (us ++ ds))
theorem Binds.all {K : PySem.W.Frag} {fd : FuncData} {ps : List Str} (h : ∀ us : List Value, us.length = ps.length → bindArgs fd ⟨us, []⟩ = pure (ps.zip us)) : Binds K fd ps [] := fun s us _ hl => by
  rw [List.append_nil] at hl ⊢
  exact .of_eq (h us hl)

def Passes (CX : CXT) (X : Cx) (E : XK) : Prop := ∀ (pins : List (Addr × Obj)) (σ : St) (H : Hp) (s : Shared) (e : Value) (s' : Shared), Inv X pins σ H s → CX X.stack H s E e s' → X.xe e s'

section
variable {X : Cx} {CX : CXT} {k : Nat} {f C : Addr} {fd : FuncData} {ps : List Str} {sp : Sp} {dvs : List V} {ds : List Value} {E : XK} {x m : Str} {p pos apos : Pos} {e o : Expr} {es : List Expr} {ta : TE} {t : TA}

theorem run_fn {pins : List (Addr × Obj)} {σ : St} {H : Hp} {s : Shared} {Q : VK} {us : List Value} {vs : List V} (F : FnOk X.prog X.w X.K X.mg X.base CX k f fd ps sp) (hr : Room k X.A) (hb : Binds X.K fd ps ds) (hd : Vals dvs ds) (hx : Passes CX X E)
    (I : Inv X pins σ H s) (r : Vals vs us) (h : sp (vs ++ dvs) H Q E) : wpAny (model X.prog X.w) X.A (call (.ref f) us) (EP X pins σ Q) X.xe s := by
  have r2 : Vals (vs ++ dvs) (us ++ ds) := r.append hd
  have hl : (us ++ ds).length = ps.length := by rw [← r2.length]; exact F.len _ _ _ _ h
  refine wpAny_call (codeAny_mono (F.run X.A X.stack s H ⟨us, []⟩ (us ++ ds) (vs ++ dvs) Q E hr I.env0 (hb s us I.kIn hl) r2 h) fun r s' hq => ?_)
  cases r with
  | error e => exact hx pins σ H s e s' I hq
  | ok fl =>
    cases fl with
    | ret u => exact I.after hq
    | next => exact False.elim hq
    | brk => exact False.elim hq
    | cont => exact False.elim hq

theorem pe_call (F : FnOk X.prog X.w X.K X.mg X.base CX k f fd ps sp) (hr : Room k X.A) (hg : Gl X x) (hm : X.mg x = some (.ref f)) (hk : PySem.W.keepIn X.K (.ref f) = true) (hb : Binds X.K fd ps ds) (hd : Vals dvs ds) (hx : Passes CX X E)
    (ha : PA X (e :: es) t) (hdb : (x == ("__debug__" : Str)) = false := by decide) (he : starEach (e :: es) X.env = (false, eval e X.env) :: starEach es X.env := by rfl) (hpl : (backTo pos (starEach es X.env)).any (·.1) = false := by rfl) :
    PE X (.Call (.Name x p) (e :: es) [] pos) (tCall sp dvs E t) := by
  intro pins s σ H Q I h
  refine wpAny_Call_Name_kw (ld_glob I hg hm ?_ hdb)
  refine PySem.W.callWith_K (h₀ := X.base) I.ok.mod.kin hk (thn (ha pos pins s σ H _ I h) fun us s1 ⟨vs, H1, I1, r, q⟩ => ⟨I1.kIn, ?_⟩) he hpl
  exact run_fn F hr hb hd hx I1 r q
structure Mk (K : PySem.W.Frag) (C f : Addr) : Prop where
  makes : PySem.W.makesIn K C = true
  init : PySem.W.findIn K (.ref C) "__init__" = some (some (.ref f))
  fn : PySem.W.isFn K (.ref f) = true
  kp : PySem.W.keepIn K (.ref C) = true

theorem run_make {pins : List (Addr × Obj)} {σ : St} {H : Hp} {s : Shared} {Q : VK} {us : List Value} {vs : List V} (M : Mk X.K C f) (F : FnOk X.prog X.w X.K X.mg X.base CX k f fd ps sp) (hr : Room (k + 1) X.A) (hb : Binds X.K fd ps ds) (hd : Vals dvs ds)
    (hx : Passes CX X E) (I : Inv X pins σ H s) (r : Vals vs us)
    (h : ∀ x dx, H x = none → H dx = none → dx ≠ x → sp (.ref x :: (vs ++ dvs)) (upd (upd H dx (.own x)) x (.ins C dx [])) (fun v H2 => v = .non ∧ Q (.ref x) H2) E) :
    wpAny (model X.prog X.w) X.A (call (.ref C) us) (EP X pins σ Q) X.xe s := by
  have hq := h (s.heap.objs.size + 1) s.heap.objs.size (I.hok.fresh (Nat.le_succ _)) (I.hok.fresh (Nat.le_refl _)) (Nat.ne_of_lt (Nat.lt_succ_self _))
  have I2 := Inv.made (C := C) I
  have r2 : Vals (V.ref (s.heap.objs.size + 1) :: (vs ++ dvs)) (Value.ref (s.heap.objs.size + 1) :: (us ++ ds)) := .cons rfl (r.append hd)
  have hl : (Value.ref (s.heap.objs.size + 1) :: us ++ ds).length = ps.length := by
    have e := r2.length
    rw [F.len _ _ _ _ hq] at e
    exact e.symm
  refine wpAny_call (make_map (f := f) I.kIn M.makes M.init (beq_iff_eq.mp M.fn) (codeAny_mono (F.run _ X.stack _ _ ⟨Value.ref (s.heap.objs.size + 1) :: us, []⟩ (Value.ref (s.heap.objs.size + 1) :: (us ++ ds)) _ _ E (hr.make C us [])
    (I2.env0.make C us []) (hb _ (Value.ref (s.heap.objs.size + 1) :: us) I2.kIn hl) r2 hq) fun r s' hq' => ?_))
  cases r with
  | error e => exact hx pins σ _ _ e s' I2 hq'
  | ok fl =>
    cases fl with
    | ret u =>
      obtain ⟨v, H', I3, rv, ev, q3⟩ := I2.after hq'
      subst ev
      exact ⟨rv, ⟨V.ref (s.heap.objs.size + 1), H', I3, rfl, q3⟩⟩
    | next => exact False.elim hq'
    | brk => exact False.elim hq'
    | cont => exact False.elim hq'
theorem pe_make (M : Mk X.K C f) (F : FnOk X.prog X.w X.K X.mg X.base CX k f fd ps sp) (hr : Room (k + 1) X.A) (hg : Gl X x) (hm : X.mg x = some (.ref C)) (hb : Binds X.K fd ps ds) (hd : Vals dvs ds) (hx : Passes CX X E)
    (ha : PA X (e :: es) t) (hdb : (x == ("__debug__" : Str)) = false := by decide) (he : starEach (e :: es) X.env = (false, eval e X.env) :: starEach es X.env := by rfl) (hpl : (backTo pos (starEach es X.env)).any (·.1) = false := by rfl) :
    PE X (.Call (.Name x p) (e :: es) [] pos) (tMake C sp dvs E t) := by
  intro pins s σ H Q I h
  refine wpAny_Call_Name_kw (ld_glob I hg hm ?_ hdb)
  refine PySem.W.callWith_K (h₀ := X.base) I.ok.mod.kin M.kp (thn (ha pos pins s σ H _ I h) fun us s1 ⟨vs, H1, I1, r, q⟩ => ⟨I1.kIn, ?_⟩) he hpl
  exact run_make M F hr hb hd hx I1 r q
end

section
variable {X : Cx} {CX : CXT} {k : Nat} {f C : Addr} {fd : FuncData} {ps ks : List Str} {sp : Sp} {E : XK} {x m : Str} {p pos apos kpos : Pos} {e o : Expr} {es : List Expr} {kws : List Keyword} {te ta : TE} {t tk : TA} {nm : Option Str}
structure KBinds (K : PySem.W.Frag) (fd : FuncData) (ps ks : List Str) (g : List Value → List Value → List Value) (gV : List V → List V → List V) : Prop where
  to : ∀ (s : Shared) (us ws : List Value), K.In s.heap → (g us ws).length = ps.length → BindsTo s fd ⟨us, ks.zip ws⟩ (ps.zip (g us ws))
  rel : ∀ {vs : List V} {us : List Value} {zs : List V} {ws : List Value}, Vals vs us → Vals zs ws → Vals (gV vs zs) (g us ws)
variable {g : List Value → List Value → List Value} {gV : List V → List V → List V}
end

structure FnScope (N P : List Str) (sc : Scope) : Prop where
  kind : sc.kind = .function
  co : sc.isCoroutine = false
  gen : sc.isGenerator = false
  nd : N.Nodup
  pre : N.take P.length = P
  par : ∀ x ∈ P, sc.names.lookup x = some .local ∨ sc.names.lookup x = some .cell
  nofree : ∀ y ∈ sc.names, y.2 ≠ .free

theorem bindL_out {kindOf : Str → Option NameKind} {x : Str} : ∀ {binds : List (Str × Value)} {m : Str → Option Value}, (∀ v, (x, v) ∉ binds) → bindL kindOf binds m x = m x
  | [], _, _ => rfl
  | (n, v) :: r, m, h => by
    unfold bindL
    rw [bindL_out fun w hw => h w (List.mem_cons_of_mem _ hw)]
    split
    · have : x ≠ n := by rintro rfl; exact h v List.mem_cons_self
      simp [this]
    · rfl
theorem bindC_out {kindOf : Str → Option NameKind} {x : Str} : ∀ {binds : List (Str × Value)} {m : Str → Option Value}, (∀ v, (x, v) ∉ binds) → bindC kindOf binds m x = m x
  | [], _, _ => rfl
  | (n, v) :: r, m, h => by
    unfold bindC
    rw [bindC_out fun w hw => h w (List.mem_cons_of_mem _ hw)]
    split
    · rfl
    · have : x ≠ n := by rintro rfl; exact h v List.mem_cons_self
      simp [this]
theorem bindL_get {kindOf : Str → Option NameKind} {x : Str} {v : Value} : ∀ {P : List Str} {vs : List Value} {i : Nat} {m : Str → Option Value}, P.Nodup → P[i]? = some x → vs[i]? = some v → kindOf x = some .local →
    bindL kindOf (P.zip vs) m x = some v
  | [], _, _, _, _, h, _, _ => by simp at h
  | _ :: _, [], _, _, _, _, h, _ => by simp at h
  | p :: P, w :: vs, 0, m, nd, h1, h2, hk => by
    simp at h1 h2; subst h1; subst h2
    show bindL kindOf ((p, w) :: P.zip vs) m p = _
    unfold bindL
    rw [bindL_out fun v hv => (List.nodup_cons.mp nd).1 (List.of_mem_zip hv).1, if_pos hk]
    simp
  | p :: P, w :: vs, i + 1, m, nd, h1, h2, hk => by
    show bindL kindOf ((p, w) :: P.zip vs) m x = _
    unfold bindL
    exact bindL_get (i := i) (List.nodup_cons.mp nd).2 (by simpa using h1) (by simpa using h2) hk
theorem bindC_get {kindOf : Str → Option NameKind} {x : Str} {v : Value} : ∀ {P : List Str} {vs : List Value} {i : Nat} {m : Str → Option Value}, P.Nodup → P[i]? = some x → vs[i]? = some v → kindOf x ≠ some .local →
    bindC kindOf (P.zip vs) m x = some v
  | [], _, _, _, _, h, _, _ => by simp at h
  | _ :: _, [], _, _, _, _, h, _ => by simp at h
  | p :: P, w :: vs, 0, m, nd, h1, h2, hk => by
    simp at h1 h2; subst h1; subst h2
    show bindC kindOf ((p, w) :: P.zip vs) m p = _
    unfold bindC
    rw [bindC_out fun v hv => (List.nodup_cons.mp nd).1 (List.of_mem_zip hv).1, if_neg hk]
    simp
  | p :: P, w :: vs, i + 1, m, nd, h1, h2, hk => by
    show bindC kindOf ((p, w) :: P.zip vs) m x = _
    unfold bindC
    exact bindC_get (i := i) (List.nodup_cons.mp nd).2 (by simpa using h1) (by simpa using h2) hk

def start (N : List Str) (vs : List V) : St := vs.map some ++ List.replicate (N.length - vs.length) none

def cxOf (CX : CXT) (P : Program) (w : World) (K : PySem.W.Frag) (mg : Str → Option Value) (base : Heap) (N : List Str) (qual : Str) (scope : Scope) (f : Addr) (cd : Value) (A : Around) (outer : List Env) (s : Shared) (H : Hp) (E : XK) : Cx where
  prog := P
  w := w
  K := K
  mg := mg
  base := base
  A := A.deeper (envOfC qual scope s.heap.objs.size f cd)
  N := N
  s₀ := s
  H₀ := H
  env := envOfC qual scope s.heap.objs.size f cd
  outer := outer
  stack := envOfC qual scope s.heap.objs.size f cd :: outer
  ex := []
  calm := true
  fn := fun _ => true
  pn := []
  xe := fun e s' => wpAny (model P w) (A.deeper (envOfC qual scope s.heap.objs.size f cd)) (leaving (envOfC qual scope s.heap.objs.size f cd) e) (fun _ s'' => CX outer H s E e s'') (fun e' s'' => CX outer H s E e' s'') s'

theorem cell_has {sc : Scope} {n : Nat} {x : Str} (h : sc.names.lookup x = some .cell) : ∃ c, (cellsFrom n sc.names []).lookup x = some c := by
  have q := PySem.W.cellsFrom_some sc.names n [] (.inl h)
  exact Option.isSome_iff_exists.mp q

theorem inv_start {CX : CXT} {P : Program} {w : World} {K : PySem.W.Frag} {mg : Str → Option Value} {base : Heap} {N ps : List Str} {qual : Str} {scope : Scope} {f : Addr} {cd : Value} {A : Around} {outer : List Env} {s s1 : Shared} {H : Hp} {E : XK} {us : List Value} {vs : List V}
    (S : FnScope N ps scope) (hd : A.handled = none) (e0 : Env0 P w K mg base A outer s H) (hl : vs.length = ps.length) (r : Vals vs us)
    (x : InCallC s s.heap.objs.size (bindL (envOfC qual scope s.heap.objs.size f cd).kindOf (ps.zip us) fun _ => none) (cellsFrom (s.heap.objs.size + 1) scope.names []) (bindC (envOfC qual scope s.heap.objs.size f cd).kindOf (ps.zip us) fun _ => none) s1) :
    Inv (cxOf CX P w K mg base N qual scope f cd A outer s H E) [] (start N vs) H s1 := by
  have hpl : ps.length ≤ N.length := by have := congrArg List.length S.pre; rw [List.length_take] at this; omega
  obtain ⟨h1, tk, rfl, hk⟩ := x.done
  have noA : ∀ b : Addr, b ∉ (cxOf CX P w K mg base N qual scope f cd A outer s H E).ex := fun b z => absurd (show b ∈ ([] : List Addr) from z) (by simp)
  refine ⟨⟨e0.mod, S.kind, rfl, rfl, Nat.le_refl _, fun y z c h1 h2 => ?_, fun y hy => ?_, fun y c _ h => ?_, fun _ => hd, Around.frames_deeper e0.frames, .inr ⟨rfl, rfl⟩, fun b z => absurd z (noA b), e0.bs, e0.bsz, fun b _ _ => noA b, fun b z => absurd z (noA b), e0.funs, e0.frf⟩,
    rfl, e0.bare, Un.kept hk, ⟨_, x.toInCall.ns, fun i y v h1 h2 h3 => ?_⟩, fun y c h => ⟨_, x.cell y c h⟩, e0.hok.fresh (Nat.le_refl _), fun y c h => ?_, fun p hp => absurd (show p ∈ ([] : List (Addr × Obj)) from hp) (by simp), e0.hok.kept hk, ?_⟩
  · exact name_of_addr x.apart (PySem.mem_of_lookup h1) (PySem.mem_of_lookup h2)
  · have hy : scope.names.lookup y = some .cell ∨ scope.names.lookup y = some .free := hy
    rcases hy with hy | hy
    · exact cell_has hy
    · exact absurd rfl (S.nofree _ (PySem.mem_of_lookup hy))
  · exact Nat.le_of_lt (x.above y c (PySem.mem_of_lookup h))
  · have hi : i < vs.length := by
      unfold start at h2
      by_cases hi : i < vs.length
      · exact hi
      · rw [List.getElem?_append_right (by simpa using hi)] at h2
        rw [List.getElem?_replicate] at h2
        split at h2 <;> cases h2
    have ha : vs[i]? = some v := by
      unfold start at h2
      rw [List.getElem?_append_left (by simpa using hi), List.getElem?_map] at h2
      cases e : vs[i]? with
      | none => rw [e] at h2; cases h2
      | some a => rw [e] at h2; cases h2; rfl
    obtain ⟨u, hu, rv⟩ := r.get ha
    have hp : ps[i]? = some y := by
      rw [← S.pre, List.getElem?_take_of_lt (by omega)]; exact h1
    have ndP : ps.Nodup := by rw [← S.pre]; exact S.nd.sublist (List.take_sublist _ _)
    refine ⟨u, rv, ?_⟩
    rcases S.par y (List.mem_of_getElem? hp) with k | k
    · exact .inl ⟨k, bindL_get ndP hp hu k⟩
    · obtain ⟨c, e⟩ := cell_has (n := s.heap.objs.size + 1) k
      refine .inr ⟨.inl k, c, e, ?_⟩
      have q := x.cell y c e
      rw [bindC_get ndP hp hu (by show scope.names.lookup y ≠ _; rw [k]; decide)] at q
      exact q
  · exact e0.hok.fresh (Nat.le_of_lt (x.above y c (PySem.mem_of_lookup h)))
  · unfold start
    show _ = N.length
    rw [List.length_append, List.length_map, List.length_replicate]
    omega

theorem fn_of {CX : CXT} {P : Program} {w : World} {K : PySem.W.Frag} {mg : Str → Option Value} {base : Heap} {k : Nat} {f : Addr} {name qual : Str} {params : Arguments} {body : List Stmt} {scope : Scope} {dV kV doc pm cdv ct oc : Value} {an od : Option Addr}
    {osl : Array (Option Value)} {N ps : List Str} {sp : Sp} (lk : K.lookup f = some ⟨oc, od, .func (PySem.W.fnOf name qual params body scope dV kV doc pm an cdv ct), osl⟩) (hcd : PySem.W.codeIn K cdv qual = true) (S : FnScope N ps scope)
    (len : ∀ vs H Q E, sp vs H Q E → vs.length = ps.length)
    (hbody : ∀ (A : Around) (outer : List Env) (s : Shared) (H : Hp) (vs : List V) (Q : VK) (E : XK), Room k (A.deeper (envOfC qual scope s.heap.objs.size f cdv)) → sp vs H Q E →
      ∃ t, PSs (cxOf CX P w K mg base N qual scope f cdv A outer s H E) body t ∧ t { nx := fun _ H' => Q .non H', rt := Q } (start N vs) H) :
    FnOk P w K mg base CX (k + 1) f (PySem.W.fnOf name qual params body scope dV kV doc pm an cdv ct) ps sp := by
  refine ⟨len, fun A outer s H args us vs Q E hr e0 hb r hsp => ?_⟩
  have hl := len _ _ _ _ hsp
  have KX : K.In s.heap := e0.mod.kin.keeps fun b o e => (e0.bs b o e).1
  have lim : s.heap.NoLimit := e0.mod.nolimit.keeps fun b o e => (e0.bs b o e).1
  have hkind : ∀ y ∈ ps.zip us, scope.names.lookup y.1 = some .local ∨ (scope.names.lookup y.1 = some .cell ∧ ((cellsFrom (s.heap.objs.size + 1) scope.names []).lookup y.1).isSome = true) := fun ⟨n, v⟩ hy => by
    rcases S.par n (List.of_mem_zip hy).1 with q | q
    · exact .inl q
    · exact .inr ⟨q, PySem.W.cellsFrom_some _ _ _ (.inl q)⟩
  refine codeAny_call_function hr.depth (KX _ _ lk) rfl S.co S.gen rfl (PySem.W.codeRec_of KX hcd) (hb _ _ _ _ ?_)
  refine wpAny_newFunctionEnv_cells S.kind hkind fun env he s1 x => ?_
  subst he
  refine ⟨lim.keeps x.toInCall.keep, codeAny_func ?_⟩
  obtain ⟨t, ht, hq⟩ := hbody A outer s H vs Q E (hr.deeper _) hsp
  have I : Inv (cxOf CX P w K mg base N qual scope f cdv A outer s H E) [] (start N vs) H s1 := inv_start S hr.hd e0 hl r x
  refine wpAny_mono (ht [] s1 (start N vs) H _ I hq) (fun fl s' hs => ?_) fun e s' hs => hs
  have fin : ∀ {σ' : St} {H' : Hp} {v : V} {u : Value}, Inv (cxOf CX P w K mg base N qual scope f cdv A outer s H E) [] σ' H' s' → RelV v u → Q v H' → CE outer P w H s Q u s' :=
    fun {σ' H' v u} J rv q => ⟨v, H', J.os, J.bare, J.base, J.hok, rv, q⟩
  cases fl with
  | ret u =>
    obtain ⟨v, σ', H', J, rv, q⟩ := hs
    exact fin J rv q
  | next =>
    obtain ⟨σ', H', J, q⟩ := hs
    exact fin (v := V.non) (u := Value.none) J rfl q
  | brk =>
    obtain ⟨_, _, _, q⟩ := hs
    exact False.elim q
  | cont =>
    obtain ⟨_, _, _, q⟩ := hs
    exact False.elim q
end L2

namespace L2
open PySem PySem.Spec PyProof.Rows
section
variable {X : Cx} {x : Str} {p pos : Pos} {e : Expr} {es : List Expr} {t : TA} {id T : String} {r : List V → Hp → VK → Prop}

def tCB (r : List V → Hp → VK → Prop) (t : TA) : TE := fun σ H Q => t σ H fun vs H1 => r vs H1 Q
theorem pe_callB (hc : CallR X (.builtin id) r) (hg : Gl X x) (hm : X.mg x = none) (hv : bootBuiltins x = some (.builtin id)) (ha : PA X (e :: es) t) (hn : x ≠ "__name__" := by decide) (hdb : (x == ("__debug__" : Str)) = false := by decide)
    (he : starEach (e :: es) X.env = (false, eval e X.env) :: starEach es X.env := by rfl) (hpl : (backTo pos (starEach es X.env)).any (·.1) = false := by rfl) : PE X (.Call (.Name x p) (e :: es) [] pos) (tCB r t) := by
  intro pins s σ H Q I h
  refine wpAny_Call_Name_kw (ld_blt I hg hm hv ?_ hn hdb)
  exact PyProof.Rows.callWith_builtin1 (thn (ha pos pins s σ H _ I h) fun us s1 ⟨vs, H1, I1, r1, q1⟩ => hc pins s1 σ H1 vs us Q I1 r1 q1) he hpl
theorem pe_callTy (hc : CallR X (.type T) r) (hg : Gl X x) (hm : X.mg x = none) (hv : bootBuiltins x = some (.type T)) (ha : PA X (e :: es) t) (hn : x ≠ "__name__" := by decide) (hdb : (x == ("__debug__" : Str)) = false := by decide)
    (he : starEach (e :: es) X.env = (false, eval e X.env) :: starEach es X.env := by rfl) (hpl : (backTo pos (starEach es X.env)).any (·.1) = false := by rfl) : PE X (.Call (.Name x p) (e :: es) [] pos) (tCB r t) := by
  intro pins s σ H Q I h
  refine wpAny_Call_Name_kw (ld_blt I hg hm hv ?_ hn hdb)
  exact PyProof.Rows.callWith_type1 (thn (ha pos pins s σ H _ I h) fun us s1 ⟨vs, H1, I1, r1, q1⟩ => hc pins s1 σ H1 vs us Q I1 r1 q1) he hpl
end
end L2

namespace HT
open PySem PyProof.Rows

section
open PySem.SeqAt
open PySem.AutoSeq1 (wpAny_loadPart')
open PySem.MeetsSeq PySem.MeetsSeq2 PySem.MeetsSeq3

end

section
variable {prog : Program} {w : World} {A : Around} {E : Value → Shared → Prop} {s : Shared}

def sIx (n d : Nat) : Option Int → Nat
  | none => d
  | some v => if v < 0 then (v + (n : Int)).toNat else min v.toNat n
theorem sIx_none (n d : Nat) : sIx n d none = d := rfl
theorem sIx_nat (n d k : Nat) : sIx n d (some (k : Int)) = min k n := by
  show (if (k : Int) < 0 then ((k : Int) + (n : Int)).toNat else min (k : Int).toNat n) = min k n
  rw [if_neg (by omega), Int.toNat_natCast]
end
end HT

namespace L2
open PySem PySem.Spec PyProof.Rows

abbrev TO := St → Hp → (Option Int → Hp → Prop) → Prop
def PO (X : Cx) (e : Option Expr) (t : TO) : Prop :=
  ∀ (pins : List (Addr × Obj)) (s : Shared) (σ : St) (H : Hp) (Q : Option Int → Hp → Prop), Inv X pins σ H s → t σ H Q →
    wpAny (model X.prog X.w) X.A (evalPart e X.env) (fun u s' => ∃ o H', Inv X pins σ H' s' ∧ IsPart u o ∧ Q o H') X.xe s
def tNoPart : TO := fun _ H Q => Q none H
def tPart (t : TE) : TO := fun σ H Q => t σ H fun x H1 => ∃ i, x = .int i ∧ Q (some i) H1

theorem intsAre_of {ns : List Int} : ∀ {us : List Value}, Vals (ns.map V.int) us → IntsAre us ns := by
  induction ns with
  | nil => intro us r; rw [List.map_nil] at r; cases r; exact .nil
  | cons n ns ih =>
    intro us r
    rw [List.map_cons] at r
    cases r with
    | cons r1 r2 =>
      obtain ⟨t, e⟩ := r1
      subst e
      exact .cons n t (ih r2)

section
variable {X : Cx} {e : Expr} {te : TE} {lo hi : Option Expr} {tl th : TO} {pos p2 : Pos}

theorem po_none : PO X none tNoPart := by
  intro pins s σ H Q I h
  rw [evalPart_none]
  exact wpAny_pure ⟨none, H, I, .none, h⟩
theorem po_some (h : PE X e te) : PO X (some e) (tPart te) := by
  intro pins s σ H Q I hw
  rw [evalPart_some]
  refine thn (h pins s σ H _ I hw) fun u s1 ⟨x, H1, I1, r1, q1⟩ => ?_
  obtain ⟨i, rfl, q⟩ := q1
  obtain ⟨t, rfl⟩ := r1
  exact ⟨some i, H1, I1, .int i t, q⟩

def SlR (X : Cx) (r : V → Option Int → Option Int → Hp → VK → Prop) : Prop :=
  ∀ (pins : List (Addr × Obj)) (s : Shared) (σ : St) (H : Hp) (x : V) (v vl vu : Value) (lo hi : Option Int) (sl : Addr) (Q : VK), Inv X pins σ H s → RelV x v → s.heap.IsSliceOf sl vl vu .none → IsPart vl lo → IsPart vu hi → r x lo hi H Q →
    ∃ T id, typeLookup (.type T) "__getitem__" = pure (some (.builtin id)) ∧ s.TypeIs v T ∧ wpAny (model X.prog X.w) X.A (getItem v (.ref sl)) (EP X pins σ Q) X.xe s
def tSl (r : V → Option Int → Option Int → Hp → VK → Prop) (te : TE) (tl th : TO) : TE := fun σ H Q => te σ H fun x H1 => tl σ H1 fun l H2 => th σ H2 fun u H3 => r x l u H3 Q
theorem pe_slice {r : V → Option Int → Option Int → Hp → VK → Prop} (hr : SlR X r) (he : PE X e te) (hl : PO X lo tl) (hu : PO X hi th) : PE X (.Subscript e (.Slice lo hi none p2) pos) (tSl r te tl th) := by
  intro pins s σ H Q I h
  refine Subscript_ (thn (he pins s σ H _ I h) fun v s1 ⟨x, H1, I1, r1, q1⟩ => ?_)
  refine wpAny_Slice (thn (hl pins s1 σ H1 _ I1 q1) fun vl s2 ⟨l, H2, I2, pl, q2⟩ => thn (hu pins s2 σ H2 _ I2 q2) fun vu s3 ⟨u, H3, I3, pu, q3⟩ => ?_)
  rw [evalPart_none]
  refine wpAny_pure ?_
  have I4 : Inv X pins σ H3 { s3 with heap := s3.heap.push { cls := .type "slice", data := .fields #[vl, vu, .none] } } := I3.kept (t' := s3.toks) fun b ob q => Heap.get?_push_of_some _ q
  obtain ⟨T, id, hT, ht, hg⟩ := hr pins { s3 with heap := s3.heap.push { cls := .type "slice", data := .fields #[vl, vu, .none] } } σ H3 x v vl vu l u s3.heap.objs.size Q I4 r1 (Heap.IsSliceOf.new ..) pl pu q3
  show wpAny (model X.prog X.w) X.A (subscriptTail e (.Slice lo hi none p2) v (.ref s3.heap.objs.size)) (EP X pins σ Q) X.xe { s3 with heap := s3.heap.push { cls := .type "slice", data := .fields #[vl, vu, .none] } }
  exact tail_any (ops := [.ref s3.heap.objs.size, v]) ht hT hg (by with_unfolding_all rfl)

def cutV (xs : List V) (lo hi : Option Int) : List V := (xs.drop (HT.sIx xs.length 0 lo)).take (HT.sIx xs.length xs.length hi - HT.sIx xs.length 0 lo)
theorem cutV_length (xs : List V) (lo hi : Option Int) : (cutV xs lo hi).length ≤ xs.length := by
  unfold cutV
  rw [List.length_take, List.length_drop]
  omega
end
end L2

namespace L2
open PySem PySem.Spec PyProof.Rows

def ixN (n : Nat) (i : Int) : Option Nat := if 0 ≤ i then (if i < n then some i.toNat else none) else if -(n : Int) ≤ i then some (i + n).toNat else none
def atI {α : Type} (xs : List α) (i : Int) : Option α := (ixN xs.length i).bind fun j => xs[j]?
theorem ixN_seq {n : Nat} {i : Int} {j : Nat} (h : ixN n i = some j) : seqIndex? i n = some j ∧ j < n ∧ -(n : Int) ≤ i ∧ i < n := by
  unfold ixN at h
  by_cases h0 : 0 ≤ i
  · rw [if_pos h0] at h
    by_cases h1 : i < n
    · rw [if_pos h1] at h
      have e : i.toNat = j := Option.some.inj h
      exact ⟨by rw [seqIndex_of h0 h1, e], by omega, by omega, h1⟩
    · rw [if_neg h1] at h; cases h
  · rw [if_neg h0] at h
    by_cases h1 : -(n : Int) ≤ i
    · rw [if_pos h1] at h
      have e : (i + n).toNat = j := Option.some.inj h
      exact ⟨by rw [seqIndex_neg (by omega) h1, e], by omega, h1, by omega⟩
    · rw [if_neg h1] at h; cases h
theorem atI_get {α : Type} {xs : List α} {i : Int} {v : α} (h : atI xs i = some v) : ∃ j, seqIndex? i xs.length = some j ∧ xs[j]? = some v ∧ j < xs.length ∧ -(xs.length : Int) ≤ i ∧ i < xs.length := by
  unfold atI at h
  cases e : ixN xs.length i with
  | none => rw [e] at h; cases h
  | some j =>
    rw [e] at h
    obtain ⟨h1, h2, h3, h4⟩ := ixN_seq e
    exact ⟨j, h1, h, h2, h3, h4⟩
theorem atI_nat {α : Type} {xs : List α} {j : Nat} {v : α} (h : xs[j]? = some v) : atI xs (j : Int) = some v := by
  have hj : j < xs.length := (List.getElem?_eq_some_iff.mp h).1
  have e : ixN xs.length (j : Int) = some j := by
    unfold ixN
    rw [if_pos (by omega), if_pos (by omega)]; simp
  unfold atI; rw [e]; exact h
theorem atI_last {α : Type} (xs : List α) (v : α) : atI (xs ++ [v]) (-1) = some v := by
  have hl : (xs ++ [v]).length = xs.length + 1 := by simp
  have e : ixN (xs ++ [v]).length (-1) = some xs.length := by
    unfold ixN
    rw [hl, if_neg (by decide), if_pos (by omega)]
    congr 1
    omega
  unfold atI
  rw [e]
  show (xs ++ [v])[xs.length]? = some v
  simp

def PlainIx (b : Expr) : Prop := ∀ o i, subscripted b false o i = operate [o, i] (getItem o i)
def IxR (X : Cx) (r : R2) : Prop :=
  ∀ (value slice : Expr) (pins : List (Addr × Obj)) (s : Shared) (σ : St) (H : Hp) (x y : V) (v u : Value) (Q : VK), Inv X pins σ H s → RelV x v → RelV y u → r x y H Q →
    subscripted slice false v u = operate [v, u] (getItem v u) → wpAny (model X.prog X.w) X.A (subscriptTail value slice v u) (EP X pins σ Q) X.xe s
def MtR (X : Cx) (id : String) (r : V → List V → Hp → VK → Prop) : Prop :=
  ∀ (pins : List (Addr × Obj)) (s : Shared) (σ : St) (H : Hp) (x : V) (xs : List V) (v : Value) (us : List Value) (Q : VK), Inv X pins σ H s → RelV x v → Vals xs us → r x xs H Q →
    wpAny (model X.prog X.w) X.A (call (.builtin id) (v :: us)) (EP X pins σ Q) X.xe s
section
variable {X : Cx} {a b : Expr} {ta tb : TE} {pos : Pos}
theorem pe_ix {r : R2} (hr : IxR X r) (ha : PE X a ta) (hb : PE X b tb) (hs : PlainIx b) : PE X (.Subscript a b pos) (tOp r ta tb) := by
  intro pins s σ H Q I h
  exact Subscript_ (binT ha hb I h fun v u s2 x y H2 I2 rx ry q => hr a b pins s2 σ H2 x y v u Q I2 rx ry q (hs _ _))

def rIxL (K : PySem.W.Frag) : R2 := fun x y H Q => ∃ p xs i v, x = .ref p ∧ y = .int i ∧ SqL K H p xs ∧ atI xs i = some v ∧ Q v H
def rIxT (K : PySem.W.Frag) : R2 := fun x y H Q => ∃ p xs i v, x = .ref p ∧ y = .int i ∧ SqT K H p xs ∧ atI xs i = some v ∧ Q v H
theorem ix_list : IxR X (rIxL X.K) := by
  intro value slice pins s σ H x y v u Q I rx ry h hs
  obtain ⟨p, xs, i, z, rfl, rfl, hq, he, q⟩ := h
  cases rx
  obtain ⟨t, rfl⟩ := ry
  obtain ⟨its, r, pl, hz⟩ := I.list hq
  obtain ⟨j, h1, h2, h3, h4, h5⟩ := atI_get he
  obtain ⟨w, ew, rw'⟩ := r.get h2
  have hl := r.length
  have hn := line63
  have fin : EP X pins σ Q w s := ⟨z, H, I, rw', q⟩
  by_cases h0 : 0 ≤ i
  · have hj : i.toNat = j := by
      rw [seqIndex_of h0 h5] at h1
      exact Option.some.inj h1
    exact item_listR pl.isList h0 (by omega) (by rw [hj]; simpa using ew) fin hs
  · have hj : (i + (its.toArray.size : Int)).toNat = j := by
      rw [seqIndex_neg (by omega) h4] at h1
      rw [List.size_toArray, ← hl]
      exact Option.some.inj h1
    exact subscriptTail_builtinR (x := w) pl.isList.typeIs slot_list_getitem.lookup
      (wpAny_getItem_list_neg (Q := fun r s' => r = w ∧ EP X pins σ Q r s') pl.isList (by omega) (by rw [List.size_toArray] <;> omega) (by omega) (by rw [hj]; simpa using ew) ⟨rfl, fin⟩) hs
theorem ix_tup : IxR X (rIxT X.K) := by
  intro value slice pins s σ H x y v u Q I rx ry h hs
  obtain ⟨p, xs, i, z, rfl, rfl, hq, he, q⟩ := h
  cases rx
  obtain ⟨t, rfl⟩ := ry
  obtain ⟨its, r, pl, hz⟩ := I.tuple hq
  obtain ⟨j, h1, h2, h3, h4, h5⟩ := atI_get he
  obtain ⟨w, ew, rw'⟩ := r.get h2
  have hl := r.length
  have hn := line63
  have fin : EP X pins σ Q w s := ⟨z, H, I, rw', q⟩
  exact subscriptTail_builtinR (x := w) pl.typeIs slot_tuple_getitem.lookup
    (getItem_tuple (j := j) (Q := fun r s' => r = w ∧ EP X pins σ Q r s') pl (by omega) (by omega) (by rw [List.size_toArray, ← hl]; exact h1) (by simpa using ew) ⟨rfl, fin⟩) hs
theorem mapSeq_set (its : List Value) (n j : Nat) (u : Value) : Obj.mapSeq (·.setIfInBounds j u) { cls := .type "list", data := .seq its.toArray n } = { cls := .type "list", data := .seq (its.set j u).toArray n } := by
  simp [Obj.mapSeq]
theorem Inv.lst {pins : List (Addr × Obj)} {σ : St} {H : Hp} {s : Shared} {p : Addr} {xs : List V} (I : Inv X pins σ H s) (h : H p = some (.lst xs)) :
    ∃ (its : List Value) (n : Nat), Vals xs its ∧ s.heap.get? p = some { cls := .type "list", data := .seq its.toArray n } ∧ xs.length ≤ sizeLine := by
  obtain ⟨z, its, n, r, e⟩ := I.hok p _ h
  exact ⟨its, n, r, e, z⟩
theorem Inv.lstUpd {pins : List (Addr × Obj)} {σ : St} {H : Hp} {s : Shared} {p : Addr} {xs ys : List V} {its its' : List Value} {n n' : Nat} {f : Obj → Obj} (I : Inv X pins σ H s) (h : H p = some (.lst xs))
    (ho : s.heap.get? p = some { cls := .type "list", data := .seq its.toArray n }) (hf : f { cls := .type "list", data := .seq its.toArray n } = { cls := .type "list", data := .seq its'.toArray n' }) (r : Vals ys its') (hz : ys.length ≤ sizeLine) (t : Nat) :
    Inv X pins σ (upd H p (.lst ys)) { s with heap := s.heap.update p f, toks := t } := by
  have e : (s.heap.update p f).get? p = some { cls := .type "list", data := .seq its'.toArray n' } := by
    rw [Heap.get?_update_self f ho (by rw [hf] <;> rfl), hf]
  refine I.write (x := p) (e := p) (by rw [h]; trivial) (.inl rfl) (fun b u hb q => (Heap.get?_update_other _ _ (Ne.symm hb)).trans q) ⟨_, e⟩ ?_
  exact ⟨hz, its', n', r, e⟩
def rSetL : V → V → V → Hp → (Hp → Prop) → Prop := fun o i v H Q => ∃ p xs k j, o = .ref p ∧ i = .int k ∧ H p = some (.lst xs) ∧ ixN xs.length k = some j ∧ Q (upd H p (.lst (xs.set j v)))
theorem set_list : PSet X rSetL := by
  intro pins s σ H o i v ov iv u Q I ro ri rv h
  obtain ⟨p, xs, k, j, rfl, rfl, hp, hj, q⟩ := h
  cases ro
  obtain ⟨t, rfl⟩ := ri
  obtain ⟨its, n, r, ho, hz⟩ := I.lst hp
  obtain ⟨h1, h2, h3, h4⟩ := ixN_seq hj
  have hl := r.length
  have hn := line63
  have I' : Inv X pins σ (upd H p (.lst (xs.set j v))) { s with heap := s.heap.update p (Obj.mapSeq (·.setIfInBounds j u)) } :=
    I.lstUpd hp ho (mapSeq_set its n j u) (r.set rv j) (by rw [List.length_set]; exact hz) s.toks
  by_cases h0 : 0 ≤ k
  · have hk : k.toNat = j := by
      rw [seqIndex_of h0 h4] at h1
      exact Option.some.inj h1
    exact PySem.W.ki_setAt ho h0 (by omega) (by rw [List.size_toArray, ← hl]; exact h4) (by rw [hk]; exact ⟨_, I', q⟩)
  · have hk : (k + (its.toArray.size : Int)).toNat = j := by
      rw [seqIndex_neg (by omega) h3] at h1
      rw [List.size_toArray, ← hl]
      exact Option.some.inj h1
    exact PySem.W.ki_setBack ho (by omega) (by rw [List.size_toArray, ← hl]; exact h3) (by omega) (by rw [hk]; exact ⟨_, I', q⟩)

theorem slice_bounds (lo hi : Option Int) (n : Nat) : (sliceBounds lo hi none n).1 = ((HT.sIx n 0 lo : Nat) : Int) ∧ (sliceBounds lo hi none n).2.1 = ((HT.sIx n n hi : Nat) : Int) ∧ (sliceBounds lo hi none n).2.2 = 1 := by
  refine ⟨?_, ?_, rfl⟩
  · cases lo with
    | none => simp [sliceBounds, HT.sIx]
    | some i =>
      simp only [sliceBounds, HT.sIx, Option.getD_none, show (1 : Int) > 0 by decide, if_true]
      by_cases h : i < 0
      · simp only [h, if_true] <;> omega
      · simp only [h, if_false] <;> omega
  · cases hi with
    | none => simp [sliceBounds, HT.sIx]
    | some i =>
      simp only [sliceBounds, HT.sIx, Option.getD_none, show (1 : Int) > 0 by decide, if_true]
      by_cases h : i < 0
      · simp only [h, if_true] <;> omega
      · simp only [h, if_false] <;> omega
theorem slicePick_cut (its : List Value) (lo hi : Option Int) : slicePick its.toArray lo hi none = ((its.drop (HT.sIx its.length 0 lo)).take (HT.sIx its.length its.length hi - HT.sIx its.length 0 lo)).toArray := by
  obtain ⟨h1, h2, h3⟩ := slice_bounds lo hi its.toArray.size
  unfold slicePick
  rw [h1, h2, h3]
  simp only [sliceRange_one, pick_run, List.size_toArray] <;> rfl
def rSlL (K : PySem.W.Frag) : V → Option Int → Option Int → Hp → VK → Prop := fun x lo hi H Q => ∃ a xs, x = .ref a ∧ SqL K H a xs ∧ ∀ p, H p = none → Q (.ref p) (upd H p (.lst (cutV xs lo hi)))
theorem sl_list : SlR X (rSlL X.K) := by
  intro pins s σ H x v vl vu lo hi sl Q I rx hs pl pu h
  obtain ⟨a, xs, rfl, hx, q⟩ := h
  cases rx
  obtain ⟨its, r, ht, hz⟩ := I.list hx
  have hlen := r.length
  refine ⟨"list", _, slot_list_getitem.lookup, ht.isList.typeIs, ?_⟩
  refine wpAny_getItem_list_slice ht.isList hs pl pu .none (by simp) ?_ (by rw [List.size_toArray] <;> omega)
  rw [slicePick_cut, ← hlen]
  refine ⟨.ref s.heap.objs.size, _, I.laid (t' := s.toks) (o := .lst (cutV xs lo hi)) (fun b ob q => Heap.get?_push_of_some _ q) (Nat.le_refl _) ?_, rfl, q _ (I.hok.fresh (Nat.le_refl _))⟩
  exact ⟨Nat.le_trans (cutV_length xs lo hi) hz, _, 0, (r.drop (HT.sIx xs.length 0 lo)).take (HT.sIx xs.length xs.length hi - HT.sIx xs.length 0 lo), Heap.get?_push_size _ rfl⟩

theorem call_len_seq : CallR X (.builtin "len") (fun xs H Q => ∃ p ys, xs = [.ref p] ∧ (SqL X.K H p ys ∨ SqT X.K H p ys) ∧ Q (.int ys.length) H) := by
  intro pins s σ H xs us Q I r h
  obtain ⟨p, ys, rfl, hq, q⟩ := h
  obtain ⟨u, rfl, rx⟩ := vals1 r
  cases rx
  have hn := line63
  rcases hq with hq | hq
  · obtain ⟨its, r', pl, hz⟩ := I.list hq
    have hlen := r'.length
    exact Calls.call_len_list pl.isList (by simp only [List.size_toArray] <;> omega) ⟨.int ys.length, H, I.tok _, ⟨s.toks + 1, by rw [List.size_toArray, hlen]⟩, q⟩
  · obtain ⟨its, r', pl, hz⟩ := I.tuple hq
    have hlen := r'.length
    exact len_tuple pl (by simp only [List.size_toArray] <;> omega) ⟨.int ys.length, H, I.tok _, ⟨s.toks + 1, by rw [List.size_toArray, hlen]⟩, q⟩
theorem call_list_of : CallR X (.type "list") (fun xs H Q => ∃ p ys, xs = [.ref p] ∧ (SqL X.K H p ys ∨ SqT X.K H p ys) ∧ ∀ l, H l = none → Q (.ref l) (upd H l (.lst ys))) := by
  intro pins s σ H xs us Q I r h
  obtain ⟨p, ys, rfl, hq, q⟩ := h
  obtain ⟨u, rfl, rx⟩ := vals1 r
  cases rx
  have fin : ∀ (its : List Value), Vals ys its → ys.length ≤ sizeLine → ∀ (h' : Heap) (c' : Nat), (∀ b o', s.heap.get? b = some o' → h'.get? b = some o') →
      h'.get? s.heap.objs.size = some { cls := .type "list", dict := none, data := .seq its.toArray c', slots := #[] } → EP X pins σ Q (.ref s.heap.objs.size) { s with heap := h' } := fun its r' hz h' c' kp e =>
    ⟨.ref s.heap.objs.size, _, I.laid (t' := s.toks) kp (Nat.le_refl _) (show ObjOk X.prog X.w _ h' _ (.lst ys) from ⟨hz, its, c', r', e⟩), rfl, q _ (I.hok.fresh (Nat.le_refl _))⟩
  rcases hq with hq | hq
  · obtain ⟨its, r', pl, hz⟩ := I.list hq
    have hlen := r'.length
    obtain ⟨o, ho, hc, n, hd⟩ := pl.isList
    exact call_list_seq p (.inl rfl) ho hc hd (fun h' c' kp e => fin its r' hz h' c' kp e) (by simp only [List.size_toArray] <;> omega)
  · obtain ⟨its, r', pl, hz⟩ := I.tuple hq
    have hlen := r'.length
    obtain ⟨o, ho, hc, n, hd⟩ := pl
    exact call_list_seq p (.inr rfl) ho hc hd (fun h' c' kp e => fin its r' hz h' c' kp e) (by simp only [List.size_toArray] <;> omega)
def tyV (K : PySem.W.Frag) (T : String) (x : V) (H : Hp) : Prop := match x with
  | .str _ => T = "str"
  | .int _ => T = "int"
  | .ref p => (T = "list" ∧ ∃ xs, SqL K H p xs) ∨ (T = "tuple" ∧ ∃ o, K.lookup p = some o ∧ o.cls = .type "tuple" ∧ o.dict = none) ∨
      (T = "dict" ∧ ((∃ kvs, H p = some (.dK kvs)) ∨ ∃ kvs, H p = some (.dT kvs))) ∨ (T = "set" ∧ ∃ S n, H p = some (.set S n))
  | _ => False
theorem tyV_is {pins : List (Addr × Obj)} {σ : St} {H : Hp} {s : Shared} {T : String} {x : V} {v : Value} (I : Inv X pins σ H s) (r : RelV x v) (ty : tyV X.K T x H) :
    s.TypeIs v T ∧ ∀ a, v = .ref a → ∃ ob, s.heap.get? a = some ob ∧ ob.dict = none := by
  cases x with
  | str z =>
    obtain ⟨t, rfl⟩ := r
    cases (show T = "str" from ty)
    exact ⟨typeIs_str s z t, fun _ e => nomatch e⟩
  | int i =>
    obtain ⟨t, rfl⟩ := r
    cases (show T = "int" from ty)
    exact ⟨typeIs_int s i t, fun _ e => nomatch e⟩
  | ref p =>
    cases r
    rcases ty with ⟨rfl, xs, hq⟩ | ⟨rfl, o, hk, hc, hd⟩ | ⟨rfl, hk⟩ | ⟨rfl, S, n, hk⟩
    · obtain ⟨its, _, pl, _⟩ := I.list hq
      refine ⟨pl.isList.typeIs, fun a e => ?_⟩
      cases e
      obtain ⟨o, n, e, c, hd, _⟩ := pl
      exact ⟨o, e, hd⟩
    · refine ⟨⟨o, I.kIn p o hk, hc⟩, fun a e => ?_⟩
      cases e
      exact ⟨o, I.kIn _ o hk, hd⟩
    · have z : ∃ o, s.heap.get? p = some o ∧ o.ExactDict := by
        rcases hk with ⟨kvs, hk⟩ | ⟨kvs, hk⟩
        · obtain ⟨_, _, _, _, o, _, _, e, ex, _⟩ := I.hok p _ hk
          exact ⟨o, e, ex⟩
        · obtain ⟨_, _, _, _, o, _, _, e, ex, _⟩ := I.hok p _ hk
          exact ⟨o, e, ex⟩
      obtain ⟨o, e, ex⟩ := z
      refine ⟨⟨o, e, ex.1⟩, fun a e2 => ?_⟩
      cases e2
      exact ⟨o, e, ex.2.1⟩
    · obtain ⟨o, _, _, _, e, ex, _⟩ := I.hok p _ hk
      refine ⟨⟨o, e, ex.1⟩, fun a e2 => ?_⟩
      cases e2
      exact ⟨o, e, ex.2.1⟩
  | _ => exact False.elim ty
def tBM (K : PySem.W.Frag) (T : String) (r : V → List V → Hp → VK → Prop) (to : TE) (t : TA) : TE := fun σ H Q => to σ H fun x H1 => tyV K T x H1 ∧ t σ H1 fun xs H2 => r x xs H2 Q
variable {o e : Expr} {es : List Expr} {to : TE} {t : TA} {name : Str} {apos cpos : Pos} {T id : String} {r : V → List V → Hp → VK → Prop}
theorem pe_bm (pa : PlainAttrs T) (slot : Slot T name id) (hty : typeOf (.builtin id) = pure (.type "method_descriptor")) (hm : MtR X id r) (ho : PE X o to) (ha : PA X (e :: es) t)
    (hbase : attributeBase o name X.env (eval o X.env) = eval o X.env := by rfl)
    (hfew : ((backTo cpos (starEach (e :: es) X.env)).all (fun x => !x.1) && (backToKw cpos (keywordEach [] X.env)).all (fun x => x.1.isSome)
      && decide ((e :: es).length + ([] : List Keyword).length + (if ([] : List Keyword).isEmpty then 0 else 1) < 30)) = true := by rfl)
    (hline : (apos.endLine == cpos.line) = true := by rfl) (hs : starEach (e :: es) X.env = (false, eval e X.env) :: starEach es X.env := by rfl) (hplain : (backTo cpos (starEach es X.env)).any (·.1) = false := by rfl) :
    PE X (.Call (.Attribute o name apos) (e :: es) [] cpos) (tBM X.K T r to t) := by
  intro pins s σ H Q I h
  refine wpAny_Call_method_late hbase hfew hline rfl (thn (ho pins s σ H _ I h) fun v s1 ⟨x, H1, I1, r1, ty, q1⟩ => ?_)
  obtain ⟨h1, h2⟩ := tyV_is I1 r1 ty
  refine ⟨T, id, pa, slot, hty, h1, h2, ?_⟩
  have hA := ha cpos pins s1 σ H1 _ I1 q1
  rw [hs] at hA ⊢
  refine Calls.callWith_builtin (by show (false || (backTo cpos (starEach es X.env)).any (·.1)) = false; rw [hplain] <;> rfl) (Calls.evalArgs_plain ?_)
  exact thn hA fun us s2 ⟨vs, H2, I2, r2, q2⟩ => hm pins s2 σ H2 x vs v us Q I2 r1 r2 q2
/- xs.append(e), list.index on a module's tuple .. are MtR facts of 06m -/
end
end L2

namespace L2
open PySem PySem.Spec PyProof.Rows

def MtM (X : Cx) (id : String) (r : V → List V → Hp → VK → Prop) : Prop :=
  ∀ (pins : List (Addr × Obj)) (s : Shared) (σ : St) (H : Hp) (x : V) (xs : List V) (v : Value) (us : List Value) (Q : VK), Inv X pins σ H s → RelV x v → Vals xs us → r x xs H Q →
    wpAny (model X.prog X.w) X.A (call (.builtin id) (v :: us)) (EP X pins σ Q) X.xe s

theorem Vals.one : ∀ {x : V} {us : List Value}, Vals [x] us → ∃ u, us = [u] ∧ RelV x u
  | _, _, .cons r .nil => ⟨_, rfl, r⟩
theorem Vals.eraseIdx : ∀ {xs : List V} {us : List Value} (i : Nat), Vals xs us → Vals (xs.eraseIdx i) (us.eraseIdx i)
  | _, _, _, .nil => .nil
  | _, _, 0, .cons _ t => t
  | _, _, i + 1, .cons r t => .cons r (Vals.eraseIdx i t)
theorem Vals.rep {xs : List V} {us : List Value} (h : Vals xs us) : ∀ k : Nat, Vals (List.replicate k xs).flatten (List.replicate k us).flatten
  | 0 => .nil
  | k + 1 => by
    rw [List.replicate_succ, List.replicate_succ, List.flatten_cons, List.flatten_cons]
    exact Vals.append h (Vals.rep h k)
theorem len_erase {α : Type} : ∀ (l : List α) (i : Nat), (l.eraseIdx i).length ≤ l.length
  | [], _ => Nat.le_refl _
  | _ :: _, 0 => Nat.le_succ _
  | _ :: r, i + 1 => Nat.succ_le_succ (len_erase r i)
theorem foldl_rep (its : List Value) : ∀ (k : Nat) (acc : List Value),
    List.foldl (fun x1 x2 => x1 ++ x2) acc.toArray (List.replicate k its.toArray) = (acc ++ (List.replicate k its).flatten).toArray
  | 0, acc => by simp
  | k + 1, acc => by
    have e : acc.toArray ++ its.toArray = (acc ++ its).toArray := by simp
    have e2 : (acc ++ its) ++ (List.replicate k its).flatten = acc ++ (List.replicate (k + 1) its).flatten := by
      rw [List.replicate_succ, List.flatten_cons, List.append_assoc]
    rw [← e2, ← foldl_rep its k (acc ++ its), ← e, List.replicate_succ, List.foldl_cons]

section
variable {X : Cx} {pins : List (Addr × Obj)} {σ : St} {H : Hp} {s : Shared} {l b : Addr} {xs ys zs : List V}

theorem Inv.lset {its its' : List Value} {n : Nat} {f : Array Value → Array Value} {t' : Nat} (I : Inv X pins σ H s) (hH : H l = some (.lst xs))
    (e : s.heap.get? l = some { cls := .type "list", data := .seq its.toArray n }) (hf : f its.toArray = its'.toArray) (hv : Vals ys its') (hz : ys.length ≤ sizeLine) :
    Inv X pins σ (upd H l (.lst ys)) { s with heap := s.heap.update l (Obj.mapSeq f), toks := t' } := by
  have q := PySem.IsL.update e f
  rw [hf] at q
  refine I.write (x := l) (e := l) (by rw [hH]; exact trivial) (.inl rfl) (fun b' u hb hu => (Heap.get?_update_other s.heap (Obj.mapSeq f) (Ne.symm hb)).trans hu) ⟨_, q⟩ ?_
  exact ⟨hz, its', _, hv, q⟩
theorem Inv.lnew {its : List Value} {t' : Nat} (I : Inv X pins σ H s) (hv : Vals ys its) (hz : ys.length ≤ sizeLine) :
    Inv X pins σ (upd H s.heap.objs.size (.lst ys)) { s with heap := s.heap.push { cls := .type "list", data := .seq its.toArray }, toks := t' } :=
  I.laid (fun _ _ q => Heap.get?_push_of_some _ q) (Nat.le_refl _) ⟨hz, its, 0, hv, Heap.get?_push_size _ rfl⟩
theorem Inv.fresh (I : Inv X pins σ H s) : H s.heap.objs.size = none := I.hok.fresh (Nat.le_refl _)
theorem Inv.lstM (I : Inv X pins σ H s) (hH : H l = some (.lst xs)) : xs.length ≤ sizeLine ∧ ∃ (its : List Value) (n : Nat), Vals xs its ∧ xs.length = its.length ∧ s.heap.get? l = some { cls := .type "list", data := .seq its.toArray n } := by
  obtain ⟨z, its, n, r, e⟩ := I.hok l _ hH
  exact ⟨z, its, n, r, r.length, e⟩

theorem notLongL {n : Nat} (h : n ≤ sizeLine) : Builtin.List.listTooLong n = false := by
  unfold Builtin.List.listTooLong
  exact decide_eq_false (by omega)
end

section
variable {X : Cx}

def rAppend : V → List V → Hp → VK → Prop := fun x vs H Q => ∃ l xs y, x = .ref l ∧ vs = [y] ∧ H l = some (.lst xs) ∧ xs.length < sizeLine ∧ Q .non (upd H l (.lst (xs ++ [y])))
theorem mt_append : MtM X "list.append" rAppend := by
  intro pins s σ H x vs v us Q I rx rv h
  obtain ⟨l, xs, y, rfl, rfl, hH, hz, q⟩ := h
  cases rx
  obtain ⟨u, rfl, ru⟩ := rv.one
  obtain ⟨z, its, n, r, hl, e⟩ := I.lstM hH
  refine call_meets F.slot_list_append ⟨_, e, rfl⟩ F.entry_list_append (F.args_list_append_2 _ _) (PySem.list_append l its.toArray n u (by rw [List.size_toArray]; omega)) ⟨e, ?_⟩
  refine ⟨.non, _, I.lset (its' := its ++ [u]) hH e (by simp) (r.append (.cons ru .nil)) ?_, rfl, q⟩
  rw [List.length_append, List.length_singleton]
  omega

def rPopAt : V → List V → Hp → VK → Prop := fun x vs H Q => ∃ l xs i k y, x = .ref l ∧ vs = [.int i] ∧ H l = some (.lst xs) ∧ -(2 ^ 63) ≤ i ∧ i < 2 ^ 63 ∧ seqIndex? i xs.length = some k ∧ xs[k]? = some y ∧ Q y (upd H l (.lst (xs.eraseIdx k)))
theorem mt_popAt : MtM X "list.pop" rPopAt := by
  intro pins s σ H x vs v us Q I rx rv h
  obtain ⟨l, xs, i, k, y, rfl, rfl, hH, h1, h2, hk, hy, q⟩ := h
  cases rx
  obtain ⟨u, rfl, ru⟩ := rv.one
  obtain ⟨t, rfl⟩ := ru
  obtain ⟨z, its, n, r, hl, e⟩ := I.lstM hH
  obtain ⟨w, hw, rw'⟩ := r.get hy
  refine call_meets F.slot_list_pop ⟨_, e, rfl⟩ F.entry_list_pop (F.args_list_pop_2 _ _)
    (MeetsSeq.list_pop_at l its.toArray n i t k w (fitsIndex_both h1 h2) (by rw [List.size_toArray, ← hl]; exact hk) (by rw [← Array.getElem?_toList]; exact hw) (by rw [List.size_toArray]; omega)) ⟨e, ?_⟩
  refine ⟨y, _, I.lset (its' := its.eraseIdx k) hH e ?_ (r.eraseIdx k) ?_, rw', q⟩
  · show its.toArray.eraseIdxIfInBounds k = (its.eraseIdx k).toArray
    rw [List.eraseIdxIfInBounds_toArray]
  · have := len_erase xs k
    omega

def rCat : R2 := fun x y H Q => ∃ l b xs zs, x = .ref l ∧ y = .ref b ∧ H l = some (.lst xs) ∧ H b = some (.lst zs) ∧ xs.length + zs.length ≤ sizeLine ∧ ∀ p, H p = none → Q (.ref p) (upd H p (.lst (xs ++ zs)))
theorem op_cat : OpR X (binaryOp .Add) rCat := by
  intro pins s σ H x y v u Q I rx ry h
  obtain ⟨l, b, xs, zs, rfl, rfl, hH, hB, hz, q⟩ := h
  cases rx
  cases ry
  obtain ⟨z, its, n, r, hl, e⟩ := I.lstM hH
  obtain ⟨z2, its2, n2, r2, hl2, e2⟩ := I.lstM hB
  refine PySem.P.add_list e e2 ?_ (by rw [List.size_toArray, List.size_toArray]; omega)
  have ea : its.toArray ++ its2.toArray = (its ++ its2).toArray := by simp
  rw [ea]
  exact ⟨.ref _, _, I.lnew (t' := s.toks) (r.append r2) (by rw [List.length_append]; omega), rfl, q _ I.fresh⟩
def rRep : R2 := fun x y H Q => ∃ l k xs, x = .ref l ∧ y = .int k ∧ H l = some (.lst xs) ∧ -(2 ^ 63) ≤ k ∧ k < 2 ^ 63 ∧ xs.length * k.toNat ≤ sizeLine ∧
  ∀ p, H p = none → Q (.ref p) (upd H p (.lst (List.replicate k.toNat xs).flatten))
theorem len_rep {α : Type} (xs : List α) (k : Nat) : (List.replicate k xs).flatten.length = k * xs.length := by
  induction k with
  | zero => simp
  | succ k ih => rw [List.replicate_succ, List.flatten_cons, List.length_append, ih, Nat.succ_mul, Nat.add_comm]
theorem op_rep : OpR X (binaryOp .Mult) rRep := by
  intro pins s σ H x y v u Q I rx ry h
  obtain ⟨l, k, xs, rfl, rfl, hH, h1, h2, hz, q⟩ := h
  cases rx
  obtain ⟨t, rfl⟩ := ry
  obtain ⟨z, its, n, r, hl, e⟩ := I.lstM hH
  have hlen : its.toArray.size * k.toNat ≤ sizeLine := by rw [List.size_toArray, ← hl]; exact hz
  have hcap : ¬ its.toArray.size * k.toNat > (2 ^ 63 - 1) / 8 := by
    have : (sizeLine : Nat) ≤ (2 ^ 63 - 1) / 8 := by decide
    omega
  have hfit : ¬ (!Builtin.List.listFitsIndex k) = true := by
    rw [fitsIndex_both h1 h2]
    exact Bool.false_ne_true
  have hlong : ¬ Builtin.List.listTooLong (its.toArray.size * k.toNat) = true := by
    rw [notLongL hlen]
    exact Bool.false_ne_true
  have hnew : List.foldl (fun x1 x2 => x1 ++ x2) #[] (List.replicate (if its.toArray.isEmpty = true then 0 else k.toNat) its.toArray) = (List.replicate k.toNat its).flatten.toArray := by
    have f0 : ∀ m : Nat, List.foldl (fun x1 x2 => x1 ++ x2) #[] (List.replicate m its.toArray) = (List.replicate m its).flatten.toArray := fun m => by
      have := foldl_rep its m []
      rw [List.nil_append] at this
      exact this
    rw [f0]
    cases its with
    | nil => simp
    | cons a r' => rw [if_neg (by simp)]
  refine wpAny_binaryOp_repeat_ref (T := "list") (U := "int") (by decide) ⟨_, e, rfl⟩ (fun s' => typeIs_int s' k t) noFill_list_mul F.fills_int_mul F.slot_int_rmul repeat_list F.slot_int_index.lookup
    (call_meets F.slot_int_rmul (typeIs_int s k t) F.entry_int_rmul (F.args_int_rmul_2 _ _) (int___rmul___int_list k t l its.toArray n)
      ⟨e, rfl, ⟨_, e, rfl⟩, call_meets F.slot_list_mul ⟨_, e, rfl⟩ F.entry_list_mul (F.args_list_mul_2 _ _) (AutoListH.list___mul___list_int_3 l its.toArray n k t hfit hcap hlong) ⟨e, ?_⟩⟩)
  rw [hnew]
  exact ⟨.ref _, _, I.lnew (t' := s.toks) (r.rep k.toNat) (by rw [len_rep, Nat.mul_comm]; exact hz), rfl, q _ I.fresh⟩

end


end L2

namespace Att
open PySem PySem.W PySem.Calls PyProof.Rows

theorem ints_of_wellAll {P : Params} {h : Heap} : ∀ (ns : List Int) (vs : List Value), WellAll P h vs (ns.map WData.int) → IntsAre vs ns := by
  intro ns
  induction ns with
  | nil =>
    intro vs w
    rw [List.map_nil] at w
    cases w
    exact .nil
  | cons n ns ih =>
    intro vs w
    rw [List.map_cons] at w
    cases w with
    | cons a b =>
      cases a
      exact .cons _ _ (ih _ b)

theorem script_of {l : OpenLaw} {n : Nat} (hn : l.most = some n) {P : Params} {h : Heap} {args : List WData} {vals : List Value}
    (hpre : l.row.toRowW.claim.pre args = true) (hwl : WellAll P h vals args) :
    ∃ a vs ns, vals = [Value.ref a] ∧ args = [WData.list (ns.map WData.int)] ∧ h.get? a = some { cls := .type "list", data := .seq vs.toArray } ∧ IntsAre vs ns ∧ ns.length ≤ n := by
  have hsh : WShape.hasAll [] args [.list .int] = true := (pre_splitW hpre).1
  have hc : l.pre.holds [] { args := args } = true := (pre_splitW hpre).2
  obtain ⟨d, r, rfl, h1, h2⟩ := hasAllW_cons hsh
  obtain rfl := hasAllW_nil h2
  obtain ⟨xs, rfl, h3⟩ := hasW_list h1
  obtain ⟨ns, rfl⟩ := items_int h3
  have hlen : ns.length ≤ n := by
    unfold OpenLaw.pre at hc
    have h4 : (WTm.not (.lt (.lit (.int (n : Int))) (.len (.arg 0)))).holds [] { args := [.list (ns.map .int)] } = true := by
      have h4 := (holds_andW hc).1
      rw [hn] at h4
      exact h4
    have h5 := condW_of h4 (w_not (w_lt w_lit (w_len_list (w_arg rfl))))
    rw [List.length_map] at h5
    refine Nat.le_of_not_lt fun q => ?_
    have q' : (n : Int) < ((ns.length : Nat) : Int) := by omega
    first
      | (rw [decide_eq_true q'] at h5; exact absurd h5 (by decide))
      | (simp at h5; omega)
  cases hwl with
  | cons w1 w2 =>
    cases w2
    cases w1 with
    | list ho hall => exact ⟨_, _, ns, rfl, rfl, ho, ints_of_wellAll ns _ hall, hlen⟩

theorem post_true (l : OpenLaw) (args : List WData) : l.row.toRowW.claim.post args (.bool true) args = true :=
  postW_of (r := l.row.toRowW) (X := (true == true))
    (show WShape.has [] (.bool true) .bool = true by first | rfl | decide | simp [WShape.has, WShape.arms, WShape.armsAll])
    (show (WTm.eq .res (.lit (.bool true))).value [] { args := args, res := some (.bool true), after := args } = some (.bool (true == true)) from w_eq_bool (w_res rfl) w_lit) rfl

theorem attach_call {l : OpenLaw} {n : Nat} {q : Program} {loose : List Str} {XP : (Str → Option Value) → Heap → Prop} {YP : World → Heap → Prop} {d : DefRec}
    (hn : l.most = some n) (hdf : d.params.defaults = [])
    (call : ∀ (w : World) (s₀ s₁ : Shared) (mg mb : Str → Option Value) (fa : Addr) (o : Obj) (pm cd doc : Value) (a : Addr) (vs : List Value) (ns : List Int),
      Ground q loose [] XP w s₀ mg mb s₁.heap → YP w s₁.heap →
      s₁.heap.get? fa = some o → o.data = .func (docDef d.name d.params d.body d.scope pm cd doc) → s₁.heap.CodeRec cd d.name → mg d.name = some (.ref fa) →
      s₁.heap.get? a = some { cls := .type "list", data := .seq vs.toArray } → IntsAre vs ns → ns.length ≤ n → s₁.gens = #[] →
      codeAny (model l.prog w) callerA (.call (.ref fa) ⟨[.ref a], []⟩) (fun r s' => r = .ok (.ret (.bool true)) ∧ OldK s₁.heap s'.heap ∧ s'.os = s₁.os ∧ AllBare s'.gens) s₁) :
    WalkO q loose XP YP l.row.toRowW d [] (fun f vs => PySem.call f vs) := by
  intro w s₀ s₁ mg mb G Y fa o pm cd doc dV kV ho hd hcd hD hmg hg args vals as hpre hlay hrd hwl hlo
  obtain rfl : dV = .none := Dflts.none hD hdf
  obtain rfl : kV = .none := Dflts.noKw hD
  obtain ⟨a, vs, ns, rfl, rfl, hobj, hints, hlen⟩ := script_of hn hpre hwl
  refine enter_call (codeAny_mono (call w s₀ s₁ mg mb fa o pm cd doc a vs ns G Y ho (fd_plain hd) hcd hmg hobj hints hlen hg) fun r s' hq => ?_)
  obtain ⟨rfl, h2, h3, h4⟩ := hq
  exact ⟨.inl ⟨.bool true, .bool true, [], rfl, fun _ => rfl, .bool true, post_true l _, fun _ => ⟨List.Pairwise.nil, fun _ hm => (nomatch hm)⟩⟩, h2, h3, h4⟩

section
variable {prog : Program} {w : World} {A : Around} {E : Value → Shared → Prop} {s : Shared} {K : Frag}

end
end Att

namespace L2
open PySem PySem.Spec PyProof.Rows

theorem vals_ints : ∀ {vs : List Value} {ns : List Int}, IntsAre vs ns → Vals (ns.map V.int) vs
  | _, _, .nil => .nil
  | _, _, .cons n t h => .cons ⟨t, rfl⟩ (vals_ints h)

def Only (H : Hp) : Prop := ∀ b, H b = none ∨ ∃ o xs, H b = some (.frz o (.lst xs))

theorem law_call {P : Program} {w : World} {K : PySem.W.Frag} {mg mb : Str → Option Value} {CX : CXT} {k : Nat} {fa a : Addr} {fd : FuncData} {x : Str} {sp : Sp} {s₁ : Shared} {vs : List Value} {ns : List Int}
    (KX : K.In s₁.heap) (hns : s₁.heap.Ns mainGlobals mg) (hb : s₁.heap.Ns builtinsNs mb) (hbb : ∀ x : Str, x ≠ "__name__" → mb x = bootBuiltins x) (hlim : s₁.heap.NoLimit) (hg : s₁.gens = #[])
    (ha : s₁.heap.get? a = some { cls := .type "list", data := .seq vs.toArray }) (hi : IntsAre vs ns) (hl : ns.length ≤ sizeLine) (hr : Room k callerA)
    (F : ∀ base : Heap, K.In base → base.Ns mainGlobals mg → FnOk P w K mg base CX k fa fd [x] sp) (hbind : ∀ (s : Shared) (u : Value), BindsTo s fd ⟨[u], []⟩ [(x, u)])
    (hsp : ∀ H : Hp, Only H → SqL K H a (ns.map V.int) → sp [.ref a] H (fun v _ => v = .bl true) fun _ _ _ => False)
    (hCX : ∀ H e s', CX [] H s₁ (fun _ _ _ => False) e s' → False) :
    codeAny (model P w) callerA (.call (.ref fa) ⟨[.ref a], []⟩) (fun r s' => r = .ok (.ret (.bool true)) ∧ OldK s₁.heap s'.heap ∧ s'.os = s₁.os ∧ AllBare s'.gens) s₁ := by
  have rv := vals_ints hi
  have lenV := hi.length
  -- from an abstract heap in which nothing but the script may be tracked
  have core : ∀ H : Hp, Only H → SqL K H a (ns.map V.int) → HOk P w H s₁.heap → (∀ b, H b ≠ none → b = a) → (H a ≠ none → K.lookup a = none) →
      codeAny (model P w) callerA (.call (.ref fa) ⟨[.ref a], []⟩) (fun r s' => r = .ok (.ret (.bool true)) ∧ OldK s₁.heap s'.heap ∧ s'.os = s₁.os ∧ AllBare s'.gens) s₁ := by
    intro H hO hS hok hA hK
    have base_of : ∀ {b : Addr} {o : Obj}, s₁.heap.get? b = some o → H b = none → (hidT s₁.heap H).get? b = some o := fun e n => hidT_get e n
    have noA : ∀ {b : Addr} {o : Obj} {es : Array DictEntry} {ep : Nat}, s₁.heap.get? b = some o → o.data = .dict es ep → H b = none := fun {b o es ep} e d => by
      cases q : H b with
      | none => rfl
      | some u =>
        have e' : b = a := hA b (by rw [q]; simp)
        subst e'
        rw [ha] at e; cases e
        have d' : Data.seq vs.toArray _ = Data.dict es ep := d
        cases d'
    have nsK : ∀ {b : Addr} {m : Str → Option Value}, s₁.heap.Ns b m → (hidT s₁.heap H).Ns b m := fun {b m} ⟨o, es, ep, e, d, r⟩ => ⟨o, es, ep, base_of e (noA e d), d, r⟩
    have hKb : K.In (hidT s₁.heap H) := fun b o e => base_of (KX b o e) (by
      cases q : H b with
      | none => rfl
      | some u =>
        have e' : b = a := hA b (by rw [q]; simp)
        subst e'
        rw [hK (by rw [q]; simp)] at e; cases e)
    have hM : Mod K mg (hidT s₁.heap H) := ⟨hKb, nsK hns, ⟨mb, nsK hb, hbb⟩, let ⟨mc, h1, h2⟩ := hlim; ⟨mc, nsK h1, h2⟩⟩
    have e0 : Env0 P w K mg (hidT s₁.heap H) callerA [] s₁ H := ⟨rfl, hM, fun b o e => of_hidT e, Nat.le_of_eq (hidT_size _ _), trivial, fun b hb => absurd (show b ∈ ([] : List Addr) from hb) (by simp), hok, .of_eq hg⟩
    refine codeAny_mono ((F _ hKb (nsK hns)).run callerA [] s₁ H ⟨[.ref a], []⟩ [.ref a] [.ref a] _ _ hr e0 (hbind s₁ (.ref a)) (.cons rfl .nil) (hsp H hO hS)) fun r s' h => ?_
    cases r with
    | error e => exact (hCX H e s' h).elim
    | ok fl =>
      cases fl with
      | next => exact False.elim h
      | brk => exact False.elim h
      | cont => exact False.elim h
      | ret u =>
        obtain ⟨v, H', os, bare, un, hok', r', q⟩ := h
        have q' : v = .bl true := q
        subst q'
        obtain rfl : u = Value.bool true := r'
        refine ⟨rfl, OldK.of_keep fun b o e => ?_, os, bare⟩
        cases q : H b with
        | none => exact un.keep b o e q (by intro z; exact absurd (show b ∈ ([] : List Addr) from z) (by simp)) (by simp)
        | some u =>
          rcases hO b with z | ⟨ob, xs, z⟩
          · rw [q] at z; cases z
          · have z2 := un.frzs b ob _ z
            obtain ⟨e1, _⟩ := hok b _ z
            obtain ⟨e2, _⟩ := hok' b _ z2
            rw [e] at e1; cases e1
            exact e2
  cases hk : K.lookup a with
  | some o =>
    -- the script is one of the module's own objects
    have e := KX a o hk
    rw [ha] at e
    cases e
    refine core (fun _ => none) (fun _ => .inl rfl) (.inr ⟨_, vs.toArray, _, hk, rfl, rfl, rfl, by rw [List.size_toArray, lenV]; exact hl, by simpa using rv⟩) (fun b u z => by have z' : (none : Option HO) = some u := z; cases z') (fun b z => absurd rfl z) fun z => absurd rfl z
  | none =>
    refine core (fun b => if b = a then some (.frz { cls := .type "list", data := .seq vs.toArray } (.lst (ns.map V.int))) else none) (fun b => ?_) (.inl (.inr ⟨{ cls := .type "list", data := .seq vs.toArray }, if_pos rfl⟩)) (fun b u z => ?_) (fun b z => ?_) fun _ => hk
    · by_cases hb : b = a
      · exact .inr ⟨_, _, if_pos hb⟩
      · exact .inl (if_neg hb)
    · by_cases hb : b = a
      · have z' := (if_pos hb).symm.trans z
        cases z'
        subst hb
        exact ⟨ha, by rw [List.length_map]; exact hl, vs, _, rv, ha⟩
      · have z' := (if_neg hb).symm.trans z
        cases z'
    · by_cases hb : b = a
      · exact hb
      · exact absurd (if_neg hb) z
end L2

namespace L2
open PySem PySem.Spec PyProof.Rows

theorem walk_of {l : PySem.W.OpenLaw} {n k : Nat} {q : Program} {loose : List Str} {XP : (Str → Option Value) → Heap → Prop} {YP : World → Heap → Prop} {d : DefRec} {K : Params → PySem.W.Frag} {CX : World → CXT} {sp : World → Sp} {x : Str}
    (hn : l.most = some n) (hn2 : n ≤ sizeLine) (hdf : d.params.defaults = []) (hr : Room k callerA)
    (hY : ∀ (w : World) (h : Heap), YP w h → (K w.params).In h)
    (F : ∀ (w : World) (mg : Str → Option Value) (fa : Addr) (h : Heap), (K w.params).In h → h.Ns mainGlobals mg → mg d.name = some (.ref fa) →
      ∃ fd : FuncData, (∀ (s : Shared) (u : Value), BindsTo s fd ⟨[u], []⟩ [(x, u)]) ∧
        ∀ base : Heap, (K w.params).In base → base.Ns mainGlobals mg → FnOk l.prog w (K w.params) mg base (CX w) k fa fd [x] (sp w))
    (hsp : ∀ (w : World) (H : Hp) (a : Addr) (ns : List Int), ns.length ≤ n → Only H → SqL (K w.params) H a (ns.map V.int) → sp w [.ref a] H (fun v _ => v = .bl true) fun _ _ _ => False)
    (hCX : ∀ (w : World) (H : Hp) (s : Shared) (e : Value) (s' : Shared), CX w [] H s (fun _ _ _ => False) e s' → False) :
    PySem.W.WalkO q loose XP YP l.row.toRowW d [] (fun f vs => PySem.call f vs) := by
  refine Att.attach_call hn hdf fun w s₀ s₁ mg mb fa o pm cd doc a vs ns G Y ho hd hcd hmg hobj hints hlen hg => ?_
  have KX := hY w _ Y
  obtain ⟨fd, hb, hF⟩ := F w mg fa _ KX G.T.g hmg
  exact law_call KX G.T.g G.T.b G.T.builtins G.T.nolimit hg hobj hints (Nat.le_trans hlen hn2) hr hF hb (fun H hO hS => hsp w H a ns hlen hO hS) fun H e s' => hCX w H s₁ e s'
end L2

/- THE LAST THEOREM (shape; LID, My.* are yours):
   My.Adr: a structure of the addresses that your layer names (classes, functions); My.Txt K t: a structure (Prop) of the equations over K;
   My.txt_mk : {K} {implicit addresses ..} (e1 : nsIn K mainGlobals "law" = some (some (.ref f))) (e2 : K.lookup f = some ⟨oc, od, .func (fnOf "law" "law" params body scope dV kV doc pm an cdv ct), sl⟩) (e3 : codeIn K cdv "law" = true) .. : ∃ t, My.Txt K t

set_option maxRecDepth 100000 in
set_option maxHeartbeats 0 in
theorem PySem.Challenge.cw_LID_holds : PySem.Challenge.rw_LID.Holds := by
  w_on; o_law; k_head; (case hw => w_witness2)
  k_fill
  refine L2.walk_of (l := PySem.Challenge.rw_LID) (n := 63) (k := 40) (x := "script") (CX := fun w => ..) (sp := fun _ => My.sp_law) rfl (by decide) rfl ⟨rfl, by decide, by decide⟩ (fun w h Y => PySem.W.kIn_of Y) ?F ?S ?C
  case F =>
    intro w mg fa h KX G hmg
    have T : ∃ t, My.Txt (L2.KOf KX) t := by
      dsimp only [L2.KOf]                          -- K must stand as «<heap const> w.params» for k_is
      refine' My.txt_mk ?e1 ?e2 ?e3 ..
      (case e1 => PySem.W.k_is)                    -- in the order: a name -> its address -> its object -> its parts
      (case e2 => PySem.W.k_is)
      ..
    obtain ⟨t, T⟩ := T
    have e0 := hmg.symm.trans (PySem.W.mg_of KX G T.law)
    cases e0                                       -- fa is the law's own address
    exact ⟨_, fun s u => .of_eq rfl, fun base kb nb => My.law_fn T kb nb⟩     -- if «.of_eq rfl» comes too early: refine' ⟨_, ?b, fun base kb nb => My.law_fn T kb nb⟩; exact fun s u => .of_eq rfl
  case S => exact fun w H a ns hl hO hS => ..
  case C => exact ..
(the tactic k_is has no namespace: write k_is) -/

namespace L2
open PySem PySem.Spec PyProof.Rows

def inClass (s : Stmt) (j : Nat) : Stmt := match s with
  | .ClassDef _ _ _ body _ _ _ _ _ _ _ => body.getD j (.Pass ⟨0, 0, 0, 0⟩)
  | _ => .Pass ⟨0, 0, 0, 0⟩
def defArgs (s : Stmt) : Arguments := match s with
  | .FunctionDef _ a _ _ _ _ _ _ _ _ => a
  | _ => { posonlyargs := [], args := [], vararg := none, kwonlyargs := [], kw_defaults := [], kwarg := none, defaults := [] }
def defBody (s : Stmt) : List Stmt := match s with
  | .FunctionDef _ _ b _ _ _ _ _ _ _ => b
  | _ => []
def defScope (s : Stmt) : Scope := match s with
  | .FunctionDef _ _ _ _ _ _ sc _ _ _ => sc
  | _ => { kind := .function, names := [], isGenerator := false, isCoroutine := false }

abbrev CX0 : CXT := fun _ _ _ _ _ _ => False
abbrev E0 : XK := fun _ _ _ => False
theorem pass0 {X : Cx} : Passes CX0 X E0 := fun _ _ _ _ _ _ _ h => h.elim

structure Fun (K : PySem.W.Frag) (x qual : Str) (st : Stmt) (f : Addr) (fd : FuncData) : Prop where
  ex : ∃ (oc : Value) (od : Option Addr) (kV doc pm : Value) (an : Option Addr) (cdv ct : Value) (osl : Array (Option Value)),
    fd = PySem.W.fnOf x qual (defArgs st) (defBody st) (defScope st) .none kV doc pm an cdv ct ∧ K.lookup f = some ⟨oc, od, .func fd, osl⟩ ∧ PySem.W.codeIn K cdv qual = true
  kp : PySem.W.keepIn K (.ref f) = true
section
variable {P : Program} {w : World} {K : PySem.W.Frag} {mg : Str → Option Value} {base : Heap}
theorem Fun.ok {x qual : Str} {st : Stmt} {f : Addr} {fd : FuncData} {N ps : List Str} {k : Nat} {sp : Sp} (F : Fun K x qual st f fd) (S : FnScope N ps (defScope st)) (len : ∀ vs H Q E, sp vs H Q E → vs.length = ps.length)
    (hbody : ∀ (cdv : Value) (A : Around) (outer : List Env) (s : Shared) (H : Hp) (vs : List V) (Q : VK) (E : XK), Room k (A.deeper (envOfC qual (defScope st) s.heap.objs.size f cdv)) → sp vs H Q E →
      ∃ t, PSs (cxOf CX0 P w K mg base N qual (defScope st) f cdv A outer s H E).nox (defBody st) t ∧ t { nx := fun _ H' => Q .non H', rt := Q } (start N vs) H) : FnOk P w K mg base CX0 (k + 1) f fd ps sp := by
  obtain ⟨oc, od, kV, doc, pm, an, cdv, ct, osl, rfl, lk, hcd⟩ := F.ex
  refine fn_of lk hcd S len fun A outer s H vs Q E hr hsp => ?_
  obtain ⟨t, h, q⟩ := hbody cdv A outer s H vs Q E hr hsp
  exact ⟨t, h.nox, q⟩
theorem Fun.binds {x qual : Str} {st : Stmt} {f : Addr} {fd : FuncData} {ps : List Str} (F : Fun K x qual st f fd)
    (h : ∀ (kV doc pm : Value) (an : Option Addr) (cdv ct : Value) (us : List Value), us.length = ps.length → bindArgs (PySem.W.fnOf x qual (defArgs st) (defBody st) (defScope st) .none kV doc pm an cdv ct) ⟨us, []⟩ = pure (ps.zip us)) : Binds K fd ps [] := by
  obtain ⟨oc, od, kV, doc, pm, an, cdv, ct, osl, rfl, lk, hcd⟩ := F.ex
  exact .all (h kV doc pm an cdv ct)
theorem fun_mk {x qual : Str} {st : Stmt} {f : Addr} {oc : Value} {od an : Option Addr} {osl : Array (Option Value)} {kV doc pm cdv ct : Value} (l : K.lookup f = some ⟨oc, od, .func (PySem.W.fnOf x qual (defArgs st) (defBody st) (defScope st) .none kV doc pm an cdv ct), osl⟩)
    (c : PySem.W.codeIn K cdv qual = true) (k : PySem.W.keepIn K (.ref f) = true) : Fun K x qual st f (PySem.W.fnOf x qual (defArgs st) (defBody st) (defScope st) .none kV doc pm an cdv ct) := ⟨⟨oc, od, kV, doc, pm, an, cdv, ct, osl, rfl, l, c⟩, k⟩
end
theorem small1000 {n : Nat} (h : n ≤ 1000) : n < sizeLine := Nat.lt_of_le_of_lt h (by decide)

section
variable {X : Cx}
theorem pv (i : Nat) {x : Str} {pos : Pos} (hN : X.N[i]? = some x := by rfl) (hv : Vis X.env.scope x := by first | exact Or.inl rfl | exact Or.inr (Or.inl rfl) | exact Or.inr (Or.inr rfl)) (hd : (x == ("__debug__" : Str)) = false := by decide)
    (hcd : (x == ("__classdict__" : Str)) = false := by decide) : PE X (.Name x pos) (tVar i) := pe_var hN hv hd hcd
end

theorem iteF {A B : Prop} (h : B) : if false = true then A else B := by
  rw [if_neg Bool.false_ne_true]
  exact h
theorem iteT {A B : Prop} (h : A) : if true = true then A else B := by
  rw [if_pos rfl]
  exact h
theorem ite2 {c A B : Prop} [Decidable c] (h1 : c → A) (h2 : ¬ c → B) : if c then A else B := by
  by_cases h : c
  · rw [if_pos h]
    exact h1 h
  · rw [if_neg h]
    exact h2 h
def Same (H H' : Hp) : Prop := ∀ b o, H b = some o → H' b = some o
theorem Same.refl (H : Hp) : Same H H := fun _ _ h => h
theorem Same.trans {H H1 H2 : Hp} (a : Same H H1) (b : Same H1 H2) : Same H H2 := fun c o h => b c o (a c o h)
theorem Same.free {H H' : Hp} (e : Same H H') {l : Addr} (h : H' l = Option.none) : H l = Option.none := by
  cases q : H l with
  | none => rfl
  | some o =>
    rw [e l o q] at h
    cases h
theorem Same.seq {K : PySem.W.Frag} {H H' : Hp} {a : Addr} {xs : List V} (e : Same H H') (h : SqL K H a xs) : SqL K H' a xs := by
  rcases h with (h | ⟨o, h⟩) | h
  · exact .inl (.inl (e _ _ h))
  · exact .inl (.inr ⟨o, e _ _ h⟩)
  · exact .inr h

end L2

namespace Nm
theorem gcd_fmod (a b : Int) : Int.gcd b (a.fmod b) = Int.gcd a b := by
 rw [Int.fmod_def, Int.gcd_comm a b]
 apply Nat.dvd_antisymm
 ·apply Int.dvd_gcd
  ·exact Int.gcd_dvd_left ..
  ·have h1 := Int.gcd_dvd_left (a := b) (b := a - b * a.fdiv b)
   have h2 := Int.gcd_dvd_right (a := b) (b := a - b * a.fdiv b)
   have h3 := Int.dvd_add h2 (Int.dvd_mul_of_dvd_left (c := a.fdiv b) h1)
   rwa [Int.sub_add_cancel] at h3
 ·apply Int.dvd_gcd
  ·exact Int.gcd_dvd_left ..
  ·exact Int.dvd_sub (Int.gcd_dvd_right ..) (Int.dvd_mul_of_dvd_left (Int.gcd_dvd_left ..))
theorem gcd_emod (a b : Int) : Int.gcd b (a % b) = Int.gcd a b := by
 rw [Int.emod_def, Int.gcd_comm a b]
 apply Nat.dvd_antisymm
 ·apply Int.dvd_gcd
  ·exact Int.gcd_dvd_left ..
  ·have h1 := Int.gcd_dvd_left (a := b) (b := a - b * (a / b))
   have h2 := Int.gcd_dvd_right (a := b) (b := a - b * (a / b))
   have h3 := Int.dvd_add h2 (Int.dvd_mul_of_dvd_left (c := a / b) h1)
   rwa [Int.sub_add_cancel] at h3
 ·apply Int.dvd_gcd
  ·exact Int.gcd_dvd_left ..
  ·exact Int.dvd_sub (Int.gcd_dvd_right ..) (Int.dvd_mul_of_dvd_left (Int.gcd_dvd_left ..))
theorem fmod_lt (a b : Int) (h : b ≠ 0) : (a.fmod b).natAbs < b.natAbs := by
 rcases Int.lt_or_gt_of_ne h with h | h
 ·have e : a.fmod b = -((-a).fmod (-b)) := by
   have := Int.neg_fmod_neg (-a) (-b)
   simp only [Int.neg_neg] at this
   exact this
  have h1 := Int.fmod_nonneg_of_pos (-a) (b := -b) (by omega)
  have h2 := Int.fmod_lt_of_pos (-a) (b := -b) (by omega)
  omega
 ·have h1 := Int.fmod_nonneg_of_pos a h
  have h2 := Int.fmod_lt_of_pos a h
  omega
def g (t b : Int) : Int := (Int.gcd t b : Int)
def lo (t b : Int) : Int := t / g t b
def hi (t b : Int) : Int := b / g t b
theorem g_pos {t b : Int} (h : b ≠ 0) : 0 < g t b := by
 unfold g
 have : 0 < Int.gcd t b := Int.gcd_pos_of_ne_zero_right _ h
 omega
theorem lo_mul (t b : Int) : lo t b * g t b = t := Int.ediv_mul_cancel (Int.gcd_dvd_left ..)
theorem hi_mul (t b : Int) : hi t b * g t b = b := Int.ediv_mul_cancel (Int.gcd_dvd_right ..)
theorem hi_pos {t b : Int} (h : 0 < b) : 0 < hi t b := by
 have h1 := g_pos (t := t) (b := b) (by omega)
 have h2 := hi_mul t b
 by_cases h3 : 0 < hi t b
 ·exact h3
 ·have : hi t b * g t b <= 0 := Int.mul_nonpos_of_nonpos_of_nonneg (by omega) (by omega)
  omega
theorem lohi_gcd {t b : Int} (h : b ≠ 0) : Int.gcd (lo t b) (hi t b) = 1 := by
 have h1 := g_pos (t := t) h
 have e := Int.gcd_mul_right (lo t b) (g t b) (hi t b)
 rw [lo_mul, hi_mul] at e
 have e2 : (g t b).natAbs = Int.gcd t b := by unfold g; simp
 rw [e2] at e
 have h2 : 0 < Int.gcd t b := Int.gcd_pos_of_ne_zero_right _ h
 exact Nat.eq_of_mul_eq_mul_right h2 (by rw [<- e, Nat.one_mul])
theorem lohi_cross (t b : Int) : lo t b * b = t * hi t b := by
 have h1 := lo_mul t b
 have h2 := hi_mul t b
 calc lo t b * b = lo t b * (hi t b * g t b) := by rw [h2]
  _ = (lo t b * g t b) * hi t b := by rw [Int.mul_comm (hi t b), <- Int.mul_assoc]
  _ = t * hi t b := by rw [h1]
theorem dvd_of_cop {a b c : Int} (h : Int.gcd a b = 1) (hd : a ∣ b * c) : a ∣ c := by
 have h1 : a.natAbs ∣ b.natAbs * c.natAbs := by rw [<- Int.natAbs_mul]; exact Int.natAbs_dvd_natAbs.mpr hd
 have h2 : Nat.Coprime a.natAbs b.natAbs := h
 exact Int.natAbs_dvd_natAbs.mp (h2.dvd_of_dvd_mul_left h1)
theorem uniq {a b c d : Int} (hb : 0 < b) (hd : 0 < d) (h1 : Int.gcd a b = 1) (h2 : Int.gcd c d = 1) (e : a * d = c * b) : a = c /\ b = d := by
 have e1 : b ∣ d := by
  have : b ∣ a * d := ⟨c, by rw [e, Int.mul_comm]⟩
  exact dvd_of_cop (by rw [Int.gcd_comm]; exact h1) this
 have e2 : d ∣ b := by
  have : d ∣ c * b := ⟨a, by rw [<- e, Int.mul_comm]⟩
  exact dvd_of_cop (by rw [Int.gcd_comm]; exact h2) this
 have e3 : b = d := Int.dvd_antisymm (by omega) (by omega) e1 e2
 subst e3
 exact ⟨Int.eq_of_mul_eq_mul_right (by omega) e, rfl⟩
theorem natAbs_mul_le {a b : Int} (h : b ≠ 0) : a.natAbs <= (a * b).natAbs := by
 rw [Int.natAbs_mul]
 exact Nat.le_mul_of_pos_right _ (Int.natAbs_pos.mpr h)
theorem lo_le {t b : Int} (h : b ≠ 0) : (lo t b).natAbs <= t.natAbs := by
 have := natAbs_mul_le (a := lo t b) (b := g t b) (by have := g_pos (t := t) h; omega)
 rwa [lo_mul] at this
theorem hi_le {t b : Int} (h : b ≠ 0) : (hi t b).natAbs <= b.natAbs := by
 have := natAbs_mul_le (a := hi t b) (b := g t b) (by have := g_pos (t := t) h; omega)
 rwa [hi_mul] at this
def Sz (k : Nat) (x : Int) : Prop := x.natAbs < 2 ^ k
theorem Sz.mono {j k : Nat} {x : Int} (h : Sz j x) (l : j <= k) : Sz k x := Nat.lt_of_lt_of_le h (Nat.pow_le_pow_right (by decide) l)
theorem Sz.mul {j k : Nat} {x y : Int} (h1 : Sz j x) (h2 : Sz k y) : Sz (j + k) (x * y) := by
 unfold Sz at *
 rw [Int.natAbs_mul, Nat.pow_add]
 exact Nat.mul_lt_mul'' h1 h2
theorem Sz.neg {k : Nat} {x : Int} (h : Sz k x) : Sz k (-x) := by unfold Sz at *; rw [Int.natAbs_neg]; exact h
theorem Sz.le {k : Nat} {x y : Int} (h : Sz k y) (l : x.natAbs <= y.natAbs) : Sz k x := Nat.lt_of_le_of_lt l h
theorem Sz.hi {k : Nat} {t b : Int} (h : Sz k b) (hb : b ≠ 0) : Sz k (hi t b) := h.le (hi_le hb)
end Nm
namespace L2
open PySem PySem.Spec PyProof.Rows

structure Bk (env : Env) (scope : Scope) (own capN : List Str) : Prop where
 kind : scope.kind = .function
 locs : ∀ y ∈ scope.names, y.2 = .local -> scope.names.lookup y.1 = some .local
 ownk : ∀ x ∈ own, scope.names.lookup x = some .local ∨ scope.names.lookup x = some .cell
 cells : ∀ y ∈ scope.names, y.2 = .cell -> y.1 ∈ own /\ y.1 ∉ capN
 frees : ∀ y ∈ scope.names, y.2 = .free -> y.1 ∈ capN /\ y.1 ∉ own
 capf : ∀ x ∈ capN, scope.names.lookup x = some .free
 caps : ∀ x ∈ capN, env.kindOf x = some .cell ∨ env.kindOf x = some .free

def bkS (scope : Scope) (own capN : List Str) : Bool :=
 decide (scope.kind = .function) && scope.names.all (fun y => decide (y.2 = .local -> scope.names.lookup y.1 = some .local) && decide (y.2 = .cell -> y.1 ∈ own /\ y.1 ∉ capN) && decide (y.2 = .free -> y.1 ∈ capN /\ y.1 ∉ own)) &&
 own.all (fun x => decide (scope.names.lookup x = some .local ∨ scope.names.lookup x = some .cell)) && capN.all fun x => decide (scope.names.lookup x = some .free)
def capsB (env : Env) : List Str -> Bool
 | [] => true
 | x :: r => (match env.kindOf x with | some .cell => true | some .free => true | _ => false) && capsB env r
theorem capsB_ok {env : Env} : ∀ {capN : List Str}, capsB env capN = true -> ∀ x ∈ capN, env.kindOf x = some .cell ∨ env.kindOf x = some .free
 | [], _, _, h => nomatch h
 | y :: r, h, x, hx => by
  unfold capsB at h
  rw [Bool.and_eq_true] at h
  rcases List.mem_cons.mp hx with e | hx
  ·subst e
   have h1 := h.1
   split at h1
   ·rename_i e; exact .inl e
   ·rename_i e; exact .inr e
   ·cases h1
  ·exact capsB_ok h.2 x hx
theorem Bk.of {env : Env} {scope : Scope} {own capN : List Str} (h1 : bkS scope own capN = true) (h2 : capsB env capN = true) : Bk env scope own capN := by
 unfold bkS at h1
 rw [Bool.and_eq_true, Bool.and_eq_true, Bool.and_eq_true, List.all_eq_true, List.all_eq_true, List.all_eq_true] at h1
 obtain ⟨⟨⟨a1, a2⟩, a3⟩, a4⟩ := h1
 have a2' : ∀ y ∈ scope.names, (y.2 = .local -> scope.names.lookup y.1 = some .local) /\ (y.2 = .cell -> y.1 ∈ own /\ y.1 ∉ capN) /\ (y.2 = .free -> y.1 ∈ capN /\ y.1 ∉ own) := fun y hy => by
  have q := a2 y hy
  rw [Bool.and_eq_true, Bool.and_eq_true] at q
  exact ⟨of_decide_eq_true q.1.1, of_decide_eq_true q.1.2, of_decide_eq_true q.2⟩
 exact ⟨of_decide_eq_true a1, fun y hy => (a2' y hy).1, fun x hx => of_decide_eq_true (a3 x hx), fun y hy => (a2' y hy).2.1, fun y hy => (a2' y hy).2.2, fun x hx => of_decide_eq_true (a4 x hx), capsB_ok h2⟩

def capCells (env : Env) : List (Str × NameKind) -> List (Str × Addr) -> List (Str × Addr)
 | [], acc => acc
 | (n, k) :: r, acc => if k == .free then capCells env r ((n, (env.cells.lookup n).getD 0) :: acc) else capCells env r acc
theorem capCells_app (env : Env) : ∀ (names : List (Str × NameKind)) (acc : List (Str × Addr)), capCells env names acc = capCells env names [] ++ acc
 | [], _ => rfl
 | (n, k) :: r, acc => by
  unfold capCells
  split
  ·rw [capCells_app env r (_ :: acc), capCells_app env r [_], List.append_assoc]; rfl
  ·exact capCells_app env r acc
theorem capCells_mem (env : Env) : ∀ (names : List (Str × NameKind)) {x : Str} {c : Addr}, (x, c) ∈ capCells env names [] -> (x, NameKind.free) ∈ names /\ c = (env.cells.lookup x).getD 0
 | [], _, _, h => nomatch h
 | (n, k) :: r, x, c, h => by
  unfold capCells at h
  split at h
  ·rename_i hk
   have ek : k = .free := by simpa using hk
   subst ek
   rw [capCells_app] at h
   rcases List.mem_append.mp h with h | h
   ·have q := capCells_mem env r h
    exact ⟨List.mem_cons_of_mem _ q.1, q.2⟩
   ·have e : (x, c) = (n, (env.cells.lookup n).getD 0) := by simpa using h
    cases e
    exact ⟨List.mem_cons_self, rfl⟩
  ·have q := capCells_mem env r h
   exact ⟨List.mem_cons_of_mem _ q.1, q.2⟩
theorem lookup_some_of_mem {α : Type} : ∀ {l : List (Str × α)} {x : Str} {c : α}, (x, c) ∈ l -> ∃ d, l.lookup x = some d
 | (k, v) :: r, x, c, h => by
  rw [List.lookup_cons]
  cases hb : x == k with
  | true => exact ⟨v, rfl⟩
  | false =>
   rcases List.mem_cons.mp h with e | h
   ·cases e; simp at hb
   ·exact lookup_some_of_mem h
theorem capCells_has (env : Env) : ∀ (names : List (Str × NameKind)) {x : Str}, (x, NameKind.free) ∈ names -> ∃ c, (x, c) ∈ capCells env names []
 | (n, k) :: r, x, h => by
  unfold capCells
  rcases List.mem_cons.mp h with e | h
  ·cases e
   rw [if_pos (by decide), capCells_app]
   exact ⟨_, List.mem_append_right _ List.mem_cons_self⟩
  ·obtain ⟨c, q⟩ := capCells_has env r h
   split
   ·rw [capCells_app]; exact ⟨c, List.mem_append_left _ q⟩
   ·exact ⟨c, q⟩
theorem closureFor_cap {scope : Scope} {env : Env} (h : ∀ y ∈ scope.names, y.2 = .free -> ∃ c, env.cells.lookup y.1 = some c) : closureFor scope env = pure (capCells env scope.names []) := by
 have gen : ∀ (names : List (Str × NameKind)) (acc : List (Str × Addr)) (f : Str × NameKind -> List (Str × Addr) -> Sem (ForInStep (List (Str × Addr)))),
   (∀ name kind cells, f (name, kind) cells = if kind == .free then (do let a <- cellOf env name; pure (.yield ((name, a) :: cells))) else pure (.yield cells)) →
   (∀ y ∈ names, y.2 = .free -> ∃ c, env.cells.lookup y.1 = some c) -> forIn names acc f = pure (capCells env names acc) := by
  intro names
  induction names with
  | nil => intro acc f hf _; rw [List.forIn_nil]; rfl
  | cons y r ih =>
   intro acc f hf hh
   obtain ⟨n, k⟩ := y
   rw [List.forIn_cons, hf]
   unfold capCells
   by_cases hk : (k == NameKind.free) = true
   ·obtain ⟨c, hc⟩ := hh (n, k) List.mem_cons_self (by simpa using hk)
    have hc' : env.cells.lookup n = some c := hc
    have e : cellOf env n = pure c := by unfold cellOf; rw [hc']
    rw [if_pos hk, if_pos hk, e, hc']
    simp only [pure_bind, Option.getD_some]
    exact ih _ f hf fun y hy => hh y (List.mem_cons_of_mem _ hy)
   ·rw [if_neg hk, if_neg hk]
    simp only [pure_bind]
    exact ih _ f hf fun y hy => hh y (List.mem_cons_of_mem _ hy)
 simp only [closureFor]
 rw [gen scope.names [] _ (fun name kind cells => by cases hkc : kind == NameKind.free <;> simp [hkc]) h]
 rfl

theorem cellsFrom_app : ∀ (names : List (Str × NameKind)) (n : Nat) (acc : List (Str × Addr)), cellsFrom n names acc = cellsFrom n names [] ++ acc
 | [], _, _ => rfl
 | (x, k) :: r, n, acc => by
  unfold cellsFrom
  split
  ·rw [cellsFrom_app r (n + 1) (_ :: acc), cellsFrom_app r (n + 1) [_], List.append_assoc]; rfl
  ·exact cellsFrom_app r n acc
theorem cellsFrom_mem : ∀ (names : List (Str × NameKind)) (n : Nat) {x : Str} {c : Addr}, (x, c) ∈ cellsFrom n names [] -> (x, NameKind.cell) ∈ names
 | [], _, _, _, h => nomatch h
 | (y, k) :: r, n, x, c, h => by
  unfold cellsFrom at h
  split at h
  ·rename_i hk
   have ek : k = .cell := by simpa using hk
   subst ek
   rw [cellsFrom_app] at h
   rcases List.mem_append.mp h with h | h
   ·exact List.mem_cons_of_mem _ (cellsFrom_mem r _ h)
   ·have e : (x, c) = (y, n) := by simpa using h
    cases e
    exact List.mem_cons_self
  ·exact List.mem_cons_of_mem _ (cellsFrom_mem r _ h)

def blkEnv (env : Env) (scope : Scope) (C : Addr) : Env :=
 { scope := relabel scope env, locals := C, globals := env.globals, cells := cellsFrom (C + 1) scope.names (capCells env scope.names []), qual := env.qual, func := none, code := env.code, frame := env.frame, builtins := env.builtins }

theorem newBlockEnv {M : Model} {A : Around} {E : Value -> Shared -> Prop} {s : Shared} {scope : Scope} {g : Addr} {cl : List (Str × Addr)} {qual : Str} {env : Env} {Q : Env -> Shared -> Prop}
  (h : Q (newEnv scope s.heap.objs.size g (cellsFrom (s.heap.objs.size + 1) scope.names cl) qual none .none (some env) builtinsNs) { s with heap := pushCells (s.heap.push { cls := .type "dict", data := .dict #[] }) scope.names }) :
  wpAny M A (newFunctionEnv scope g cl [] qual none .none (some env)) Q E s := by
 simp only [newFunctionEnv, Option.isSome_some, if_true]
 refine wpAny_bind (wpAny_alloc ?_)
 refine wpAny_bind (wpAny_layCells _ (fun name kind cells => by cases hkc : kind == NameKind.cell <;> simp [hkc]) _ _ _ _ ?_)
 rw [show ({ s with heap := s.heap.push { cls := .type "dict", data := .dict #[] } } : Shared).heap.objs.size = s.heap.objs.size + 1 from Heap.size_push ..]
 rw [List.forIn_nil]
 exact wpAny_bind (wpAny_pure (wpAny_pure h))

theorem relabel_look {scope : Scope} {env : Env} {x : Str} : ∀ {k : NameKind}, (relabel scope env).names.lookup x = some k -> ∃ k0, scope.names.lookup x = some k0 /\ (k = k0 ∨ (k0 = .free /\ k = .cell)) := by
 unfold relabel
 show ∀ {k : NameKind}, (scope.names.map fun (n, k) => if (k == NameKind.free && env.scope.kind == .function && env.kindOf n == some .cell) then (n, NameKind.cell) else (n, k)).lookup x = some k -> _
 induction scope.names with
 | nil => intro k h; cases h
 | cons y r ih =>
  intro k h
  obtain ⟨n, k1⟩ := y
  rw [List.map_cons, List.lookup_cons] at h
  rw [List.lookup_cons]
  by_cases hc : (k1 == NameKind.free && env.scope.kind == .function && env.kindOf n == some .cell) = true
  ·simp only [hc, if_true] at h
   cases hb : x == n with
   | true =>
    simp only [hb] at h
    have e1 : k1 = .free := by
     rw [Bool.and_eq_true, Bool.and_eq_true] at hc
     simpa using hc.1.1
    cases h
    exact ⟨k1, rfl, .inr ⟨e1, rfl⟩⟩
   | false => simp only [hb] at h; exact ih h
  ·have hc' : (k1 == NameKind.free && env.scope.kind == .function && env.kindOf n == some .cell) = false := by simpa using hc
   simp only [hc', Bool.false_eq_true, if_false] at h
   cases hb : x == n with
   | true => simp only [hb] at h; cases h; exact ⟨_, rfl, .inl rfl⟩
   | false => simp only [hb] at h; exact ih h
theorem relabel_cap {scope : Scope} {env : Env} {x : Str} : scope.names.lookup x = some .free -> (relabel scope env).names.lookup x = some .cell ∨ (relabel scope env).names.lookup x = some .free := by
 unfold relabel
 show _ -> (scope.names.map fun (n, k) => if (k == NameKind.free && env.scope.kind == .function && env.kindOf n == some .cell) then (n, NameKind.cell) else (n, k)).lookup x = some .cell ∨ (scope.names.map fun (n, k) => if (k == NameKind.free && env.scope.kind == .function && env.kindOf n == some .cell) then (n, NameKind.cell) else (n, k)).lookup x = some .free
 induction scope.names with
 | nil => intro h; cases h
 | cons y r ih =>
  intro h
  obtain ⟨n, k1⟩ := y
  rw [List.lookup_cons] at h
  rw [List.map_cons]
  by_cases hc : (k1 == NameKind.free && env.scope.kind == .function && env.kindOf n == some .cell) = true
  ·simp only [hc, if_true, List.lookup_cons]
   cases hb : x == n with
   | true => exact .inl rfl
   | false => rw [hb] at h; exact ih h
  ·have hc' : (k1 == NameKind.free && env.scope.kind == .function && env.kindOf n == some .cell) = false := by simpa using hc
   simp only [hc', Bool.false_eq_true, if_false, List.lookup_cons]
   cases hb : x == n with
   | true => rw [hb] at h; cases h; exact .inr rfl
   | false => rw [hb] at h; exact ih h

structure Bz where
 s : Shared
 H : Hp
 fp : List Addr
 C : Addr
def blk (X : Cx) (own capN : List Str) (scope : Scope) (Z : Bz) : Cx where
 prog := X.prog
 w := X.w
 K := X.K
 mg := X.mg
 base := X.base
 A := X.A
 N := own ++ capN
 s₀ := Z.s
 H₀ := Z.H
 env := blkEnv X.env scope Z.C
 outer := X.stack
 stack := X.stack
 ex := Z.fp
 fn := fun x => own.contains x
 calm := true
 pn := []
 xe := fun _ _ => False

section
variable {X : Cx} {pins : List (Addr × Obj)} {σ : St} {own capN : List Str} {scope : Scope} {Z : Bz}

theorem blk_cells (B : Bk X.env scope own capN) (I : Inv X pins σ Z.H Z.s) {x : Str} {c : Addr} (h : (blkEnv X.env scope Z.C).cells.lookup x = some c) :
  (x ∈ own /\ (x, c) ∈ cellsFrom (Z.C + 1) scope.names []) ∨ (x ∈ capN /\ x ∉ own /\ X.env.cells.lookup x = some c) := by
 have h' : (cellsFrom (Z.C + 1) scope.names (capCells X.env scope.names [])).lookup x = some c := h
 rw [cellsFrom_app] at h'
 rcases List.mem_append.mp (mem_of_lookup h') with m | m
 ·exact .inl ⟨(B.cells _ (cellsFrom_mem _ _ m) rfl).1, m⟩
 ·obtain ⟨m1, e⟩ := capCells_mem _ _ m
  obtain ⟨q1, q2⟩ := B.frees _ m1 rfl
  obtain ⟨d, hd⟩ := I.ok.has x (B.caps x q1)
  rw [hd] at e
  exact .inr ⟨q1, q2, by rw [hd, e]; rfl⟩
theorem blk_cap (B : Bk X.env scope own capN) (I : Inv X pins σ Z.H Z.s) {x : Str} {c : Addr} (hx : x ∈ capN) (h : X.env.cells.lookup x = some c) : (blkEnv X.env scope Z.C).cells.lookup x = some c := by
 have hm : (x, NameKind.free) ∈ scope.names := mem_of_lookup (B.capf x hx)
 obtain ⟨c1, m1⟩ := capCells_has X.env scope.names hm
 have hs : ∃ d, (blkEnv X.env scope Z.C).cells.lookup x = some d := by
  show ∃ d, (cellsFrom (Z.C + 1) scope.names (capCells X.env scope.names [])).lookup x = some d
  rw [cellsFrom_app]
  exact lookup_some_of_mem (List.mem_append_right _ m1)
 obtain ⟨d, hd⟩ := hs
 rcases blk_cells B I hd with ⟨q, m⟩ | ⟨_, _, q⟩
 ·exact absurd hx (B.cells _ (cellsFrom_mem _ _ m) rfl).2
 ·rw [h] at q; cases q; exact hd
theorem own_cells (h : Heap) (C : Addr) (hC : h.objs.size = C + 1) (names : List (Str × NameKind)) : CellsOk (pushCells h names) (C + 1) (cellsFrom (C + 1) names []) := by
 have q := cellsFrom_ok names h (C + 1) [] ⟨fun _ _ hm => (nomatch hm), List.Pairwise.nil⟩ (by rw [hC]; exact Nat.le_refl _)
 rwa [hC] at q

theorem cell_lt (I : Inv X pins σ Z.H Z.s) {x : Str} {c : Addr} (h : X.env.cells.lookup x = some c) : @LT.lt Nat instLTNat c Z.s.heap.objs.size := by
 obtain ⟨v, q⟩ := I.cell x c h
 exact q.lt

theorem blk_ok {h1 : Heap} (I : Inv X pins σ Z.H Z.s) (hc : X.calm = true) (B : Bk X.env scope own capN) (hC : Z.s.heap.objs.size <= Z.C) (hcl : CellsOk h1 (Z.C + 1) (cellsFrom (Z.C + 1) scope.names []))
  (hf : ∀ b ∈ Z.fp, FpOk X pins Z.H b /\ @LT.lt Nat instLTNat b Z.s.heap.objs.size) : (blk X own capN scope Z).Ok := by
 refine ⟨I.ok.mod, B.kind, I.ok.glob, I.ok.blt, hC, fun x y c h1 h2 => ?_, fun x hx => ?_, fun x c hx h => ?_, fun _ => I.ok.hd hc, I.ok.frames, .inl rfl, fun b hb => ⟨?_, fun x c h => ?_⟩, I.bs, Nat.le_trans I.ok.bsz I.sz, fun b o e hb => ?_, fun b hb hz => ?_, I.stack, I.stkFree⟩
 ·rcases blk_cells B I h1 with ⟨q1, m1⟩ | ⟨q1, n1, m1⟩ <;> rcases blk_cells B I h2 with ⟨q2, m2⟩ | ⟨q2, n2, m2⟩
  ·exact name_of_addr hcl.apart m1 m2
  ·have l1 := (hcl.empty _ _ m1).2
   have l2 := cell_lt I m2
   omega
  ·have l1 := (hcl.empty _ _ m2).2
   have l2 := cell_lt I m1
   omega
  ·exact I.ok.inj x y c m1 m2
 ·have hx' : (relabel scope X.env).names.lookup x = some .cell ∨ (relabel scope X.env).names.lookup x = some .free := hx
  have hk : scope.names.lookup x = some .cell ∨ scope.names.lookup x = some .free := by
   rcases hx' with h | h
   ·obtain ⟨k0, e, q | ⟨q, _⟩⟩ := relabel_look h
    ·exact .inl (by rw [e, <- q])
    ·exact .inr (by rw [e, q])
   ·obtain ⟨k0, e, q | ⟨_, q⟩⟩ := relabel_look h
    ·exact .inr (by rw [e, <- q])
    ·cases q
  show ∃ c, (cellsFrom (Z.C + 1) scope.names (capCells X.env scope.names [])).lookup x = some c
  rcases hk with h | h
  ·exact Option.isSome_iff_exists.mp (PySem.W.cellsFrom_some scope.names (Z.C + 1) _ (.inl h))
  ·obtain ⟨c, m⟩ := capCells_has X.env scope.names (mem_of_lookup h)
   rw [cellsFrom_app]
   exact lookup_some_of_mem (List.mem_append_right _ m)
 ·have ho : x ∈ own := by have hx' : own.contains x = true := hx; simpa using hx'
  rcases blk_cells B I h with ⟨_, m⟩ | ⟨_, n, _⟩
  ·have := (hcl.empty _ _ m).2
   have hC' : Z.s.heap.objs.size <= Z.C := hC
   show Z.s.heap.objs.size <= c
   omega
  ·exact absurd ho n
 ·intro e
  have e' : @Eq Nat b Z.C := e
  have := (hf b hb).2
  omega
 ·have l := (hf b hb).2
  rcases blk_cells B I h with ⟨_, m⟩ | ⟨_, _, m⟩
  ·intro e
   have e' : @Eq Nat c b := e
   have := (hcl.empty _ _ m).2
   omega
  ·exact (hf b hb).1.2.2.2.2.1 x c m
 ·obtain ⟨_, _, _, f3, _⟩ := (hf b hb).1
  rcases f3 with f3 | f3
  ·exact I.ok.noex b o e f3
  ·exact absurd (Nat.lt_of_lt_of_le (Heap.lt_size e) (Nat.le_trans I.ok.bsz f3)) (Nat.lt_irrefl _)
 ·obtain ⟨_, f1, f2, _⟩ := (hf b hb).1
  rcases List.mem_cons.mp (I.stkSub b hz) with e | e
  ·exact f1 e
  ·exact f2 e

def st0 (k : Nat) (cap : List Nat) (σ : St) : St := List.replicate k none ++ cap.map fun j => (σ[j]?).join

def CapOk (X : Cx) (capN : List Str) (cap : List Nat) : Prop := cap.map (fun j => X.N[j]?) = capN.map some

theorem CapOk.get {cap : List Nat} (h : CapOk X capN cap) {i : Nat} {x : Str} (e : capN[i]? = some x) : ∃ j, cap[i]? = some j /\ X.N[j]? = some x := by
 have q := congrArg (fun l => l[i]?) h
 simp only [List.getElem?_map, e, Option.map_some] at q
 cases hc : cap[i]? with
 | none => rw [hc] at q; cases q
 | some j => rw [hc] at q; exact ⟨j, rfl, by simpa using q⟩

theorem cap_look {cap : List Nat} {h' : Heap} {m : Str -> Option Value} (I : Inv X pins σ Z.H Z.s) (B : Bk X.env scope own capN) (hcap : CapOk X capN cap)
  (kc : ∀ x c, X.env.cells.lookup x = some c -> ∀ v, Z.s.heap.IsCell c v -> h'.IsCell c v) {i : Nat} {x : Str} {v : V} (e1 : (own ++ capN)[i]? = some x) (e2 : (st0 own.length cap σ)[i]? = some (some v)) :
  ∃ u, RelV v u /\ Look (blkEnv X.env scope Z.C) h' m x u := by
 have hi : own.length <= i := by
  by_cases hi : own.length <= i
  ·exact hi
  ·exfalso
   unfold st0 at e2
   rw [List.getElem?_append_left (by simpa using hi), List.getElem?_replicate] at e2
   split at e2 <;> cases e2
 rw [List.getElem?_append_right hi] at e1
 unfold st0 at e2
 rw [List.getElem?_append_right (by simpa using hi), List.length_replicate, List.getElem?_map] at e2
 obtain ⟨j, hj, hN⟩ := hcap.get e1
 rw [hj] at e2
 have e3 : (σ[j]?).join = some v := by simpa using e2
 have e4 : σ[j]? = some (some v) := by
  cases q : σ[j]? with
  | none => rw [q] at e3; cases e3
  | some o => rw [q] at e3; simp at e3; rw [e3]
 have hx : x ∈ capN := List.mem_of_getElem? e1
 have hk := B.caps x hx
 obtain ⟨m0, _, hl⟩ := I.loc
 obtain ⟨u, r, l⟩ := hl j x v hN e4 (.inr hk)
 refine ⟨u, r, .inr ⟨relabel_cap (B.capf x hx), ?_⟩⟩
 rcases l with ⟨hk2, _⟩ | ⟨_, c, hc, z⟩
 ·rcases hk with hk | hk
  ·rw [hk] at hk2; cases hk2
  ·rw [hk] at hk2; cases hk2
 ·exact ⟨c, blk_cap B I hx hc, kc x c hc _ z⟩

theorem fs_lt (I : Inv X pins σ Z.H Z.s) {b : Addr} (h : b ∈ frs X.stack) : @LT.lt Nat instLTNat b Z.s.heap.objs.size := by
 obtain ⟨_, o, ho, _⟩ := I.stack.mem h
 exact Heap.lt_size ho

theorem blk_inv {cap : List Nat} {h1 : Heap} {D : Addr} {oD : Obj} {t1 : Nat} (I : Inv X pins σ Z.H Z.s) (hc : X.calm = true) (B : Bk X.env scope own capN) (hcap : CapOk X capN cap) (hC : Z.s.heap.objs.size <= Z.C)
  (hcl : CellsOk h1 (Z.C + 1) (cellsFrom (Z.C + 1) scope.names [])) (hf : ∀ b ∈ Z.fp, FpOk X pins Z.H b /\ @LT.lt Nat instLTNat b Z.s.heap.objs.size)
  (hk : ∀ b o, Z.s.heap.get? b = some o -> h1.get? b = some o) (hn : h1.Ns Z.C fun _ => none) (hD : Z.s.heap.objs.size <= D) (hDC : D ≠ Z.C) (hoD : h1.get? D = some oD) (hdD : ∀ v, oD.data ≠ .cell v) :
  Inv (blk X own capN scope Z) [(D, oD)] (st0 own.length cap σ) Z.H { Z.s with heap := h1, toks := t1 } := by
 refine ⟨blk_ok I hc B hC hcl hf, rfl, I.bare, Un.kept hk, ⟨_, hn, fun i x v e1 e2 _ => cap_look I B hcap (fun x c _ v z => z.keeps hk) e1 e2⟩, fun x c h => ?_, I.hok.fresh hC, fun x c h => ?_, fun p hp => ?_, I.hok.kept hk, ?_⟩
 ·rcases blk_cells B I h with ⟨_, m⟩ | ⟨_, _, m⟩
  ·exact ⟨none, (hcl.empty _ _ m).1⟩
  ·obtain ⟨v, q⟩ := I.cell x c m
   exact ⟨v, q.keeps hk⟩
 ·rcases blk_cells B I h with ⟨_, m⟩ | ⟨_, _, m⟩
  ·exact I.hok.fresh (by have := (hcl.empty _ _ m).2; omega)
  ·exact I.freeC x c m
 ·have e : p = (D, oD) := by simpa [blk] using hp
  subst e
  exact ⟨hoD, I.hok.fresh hD, hDC, fun z => Nat.lt_irrefl _ (Nat.lt_of_lt_of_le (fs_lt I z) hD), hdD⟩
 ·show (st0 own.length cap σ).length = (own ++ capN).length
  have := congrArg List.length hcap
  simp only [List.length_map] at this
  unfold st0
  simp [this]

theorem blk_late {cap : List Nat} {pins' : List (Addr × Obj)} {σ' : St} {H' : Hp} {s' : Shared} (I : Inv X pins σ Z.H Z.s) (B : Bk X.env scope own capN) (hcap : CapOk X capN cap) (hf : ∀ b ∈ Z.fp, FpOk X pins Z.H b /\ @LT.lt Nat instLTNat b Z.s.heap.objs.size)
  (J : Inv (blk X own capN scope Z) pins' σ' H' s') : Inv (blk X own capN scope Z) pins' (st0 own.length cap σ) H' s' := by
 refine ⟨J.ok, J.os, J.bare, J.base, ?_, J.cell, J.free, J.freeC, J.pin, J.hok, ?_⟩
 ·obtain ⟨m, hn, _⟩ := J.loc
  refine ⟨m, hn, fun i x v e1 e2 _ => cap_look I B hcap (fun x c hx v z => ?_) e1 e2⟩
  obtain ⟨o, ho, hd⟩ := z
  obtain ⟨sl, e⟩ := J.base.any ho (I.freeC x c hx) fun z => (hf c z).1.2.2.2.2.1 x c hx rfl
  exact ⟨_, e, hd⟩
 ·show (st0 own.length cap σ).length = (own ++ capN).length
  have := congrArg List.length hcap
  simp only [List.length_map] at this
  unfold st0
  simp [this]

theorem blk_end {σ' : St} {H' : Hp} {s' : Shared} {D : Addr} {its : List Value} {n : Nat} {ys : List V} (I : Inv X pins σ Z.H Z.s) (hf : ∀ b ∈ Z.fp, FpOk X pins Z.H b /\ @LT.lt Nat instLTNat b Z.s.heap.objs.size) (hD : Z.s.heap.objs.size <= D)
  (J : Inv (blk X own capN scope Z) [(D, { cls := .type "list", data := .seq its.toArray n })] σ' H' s') (r : Vals ys its) (hz : ys.length <= sizeLine) :
  Inv X pins σ (upd H' D (.lst ys)) s' := by
 have pD := J.pin (D, { cls := .type "list", data := .seq its.toArray n }) (by simp)
 have ne : ∀ {b : Addr} {o : Obj}, Z.s.heap.get? b = some o -> b ≠ D := fun e z => by subst z; exact Nat.lt_irrefl _ (Nat.lt_of_lt_of_le (Heap.lt_size e) hD)
 have nt : ∀ {b : Addr} {u : HO}, H' b = some u -> b ≠ D := fun e z => by rw [z, pD.2.1] at e; cases e
 refine I.call' (ch := Z.fp) J.os ⟨J.base.keep, J.base.slot, fun b o e h hx => ?_, J.base.there, fun b xs e => ?_, fun b o u e => ?_, fun b ps e => ?_⟩ (fun b u e => ?_) J.bare fun b hb => ?_
 ·rw [upd_ne (ne e)]; exact J.base.free b o e h hx
 ·have q := J.base.tups b xs e
  rw [upd_ne (nt q)]; exact q
 ·have q := J.base.frzs b o u e
  rw [upd_ne (nt q)]; exact q
 ·obtain ⟨more, q⟩ := J.base.tbls b ps e
  exact ⟨more, by rw [upd_ne (nt q)]; exact q⟩
 ·by_cases hb : b = D
  ·subst hb
   rw [upd_same] at e
   cases e
   exact ⟨hz, its, n, r, pD.1⟩
  ·rw [upd_ne hb] at e
   exact (J.hok b u e).stay (fun c v _ q => q) (fun c q => by rw [upd_ne (nt q)]; exact q) fun c xs q => by rw [upd_ne (nt q)]; exact q
 ·obtain ⟨_, f1, _, f3, f4, f5⟩ := (hf b hb).1
  exact ⟨f3, f1, f4, f5⟩
end
end L2
namespace L2
open PySem PySem.Spec PyProof.Rows

theorem thn0 {α : Type} {t : Sem α} {Q Q' : α -> Shared -> Prop} {M : Model} {A : Around} {E : Value -> Shared -> Prop} {s : Shared} (h : wpAny M A t Q (fun _ _ => False) s) (hQ : ∀ a s, Q a s -> Q' a s) : wpAny M A t Q' E s :=
 wpAny_mono h hQ fun _ _ z => False.elim z

theorem compLoop_own {prog : Program} {w : World} {A : Around} {R : Result -> Shared -> Prop} {s : Shared} {elt target iter : Expr} {ifs : List Expr} {scope : Scope} {pos : Pos} {it acc : Value} {env : Env} (I : Nat -> Shared -> Prop)
  (turn : ∀ (E : Value -> Shared -> Prop) n s, I n s -> wpAny (model prog w) A (pyNext it) (fun r s₁ => match r with
   | none => R (.ok .next) s₁
   | some v => wpAny (model prog w) A (letOwnedTupleGo target it v) (fun _ s₂ => wpAny (model prog w) A (assign target env v) (fun _ s₃ =>
     wpAny (model prog w) A (forIn ifs true fun c r => if r = true then do let ok <- isTrue c env (eval c env); pure (ForInStep.yield ok) else pure (ForInStep.yield r)) (fun ok s₄ =>
      if ok = true then wpAny (model prog w) A (eval elt env) (fun x s₅ => wpAny (model prog w) A (call (.builtin "list.append") [acc, x]) (fun _ s₆ => ∃ m, m < n /\ I m s₆) E s₅) E s₄
      else ∃ m, m < n /\ I m s₄) E s₃) E s₂) E s₁) E s)
  (n : Nat) (h : I n s) : codeAny (model prog w) A (.compLoop (.ListComp elt [⟨target, iter, ifs, 0⟩] scope pos) 0 it acc env) R s := by
 refine codeAny_loop rfl I (fun n s hI => ?_) n h
 show wpAny _ A ((compTurn (.ListComp elt [⟨target, iter, ifs, 0⟩] scope pos) 0 it acc env).onRaise (fun x => do noteFrame x env; theTreesLotGoes x)) _ _ s
 refine wpAny_noted ?_
 rw [compTurn_list]
 refine wpAny_bind (wpAny_standAt (wpAny_bind (wpAny_mono (turn _ n s hI) (fun r s₁ h₁ => ?_) fun _ _ h' => h')))
 cases r with
 | none => exact wpAny_pure h₁
 | some v =>
  refine wpAny_bind (wpAny_mono h₁ (fun _ s₂ h₂ => wpAny_bind (wpAny_mono h₂ (fun _ s₃ h₃ => wpAny_bind (wpAny_mono h₃ (fun ok s₄ h₄ => ?_) fun _ _ h' => h')) fun _ _ h' => h')) fun _ _ h' => h')
  cases ok with
  | false => exact wpAny_pure ⟨rfl, h₄⟩
  | true =>
   exact wpAny_bind (wpAny_bind (wpAny_mono h₄ (fun x s₅ h₅ => wpAny_bind (wpAny_mono h₅ (fun _ s₆ h₆ => wpAny_pure (wpAny_pure ⟨rfl, h₆⟩)) fun _ _ h' => h')) fun _ _ h' => h'))

def PF (X : Cx) (ifs : List Expr) (t : TT) : Prop :=
 ∀ (pins : List (Addr × Obj)) (s : Shared) (σ : St) (H : Hp) (Q : Bool -> Hp -> Prop), Inv X pins σ H s -> t σ H Q →
  wpAny (model X.prog X.w) X.A (forIn ifs true fun c r => if r = true then do let ok <- isTrue c X.env (eval c X.env); pure (ForInStep.yield ok) else pure (ForInStep.yield r)) (TP X pins σ Q) X.xe s
def tYes : TT := fun _ H Q => Q true H
theorem pf_nil {X : Cx} : PF X [] tYes := fun _ _ _ H _ I h => wpAny_tests_nil ⟨H, I, h⟩
theorem pf_one {X : Cx} {c : Expr} {t : TT} (h : PT X c t) : PF X [c] t := fun pins s σ H Q I hw => wpAny_tests_one (h pins s σ H Q I hw)

def tTurn (σ₀ : St) (g : TG) (tf : TT) (te : TE) (x : V) (H : Hp) (NY : V -> Hp -> Prop) (NN : Hp -> Prop) : Prop :=
 g x σ₀ H fun σ2 H2 => tf σ2 H2 fun b H3 => if b = true then te σ2 H3 NY else NN H3
def CompW (J : It) (σ₀ : St) (g : TG) (tf : TT) (te : TE) (Q : VK) (H1 : Hp) : Prop :=
 ∃ W : Nat -> Nat -> List V -> Hp -> Prop, (∃ m, W 0 m [] H1) /\ ∀ i m ys H, W i m ys H →
  (J.stop i H /\ ys.length <= sizeLine /\ ∀ p, H p = none -> Q (.ref p) (upd H p (.lst ys))) ∨
  (J.go i H /\ ys.length < sizeLine /\ ∃ (NY : V -> Hp -> Prop) (NN : Hp -> Prop), (∀ y H', NY y H' -> ∃ m', m' < m /\ W (i + 1) m' (ys ++ [y]) H') /\ (∀ H', NN H' -> ∃ m', m' < m /\ W (i + 1) m' ys H') ∧
   ∀ x H', J.yld i H x H' -> tTurn σ₀ g tf te x H' NY NN)
def tComp (wi : TI) (k : Nat) (cap : List Nat) (g : TG) (tf : TT) (te : TE) : TE := fun σ H Q => wi σ H fun J H1 => CompW J (st0 k cap σ) g tf te Q H1

abbrev lobj (its : List Value) (n : Nat) : Obj := { cls := .type "list", data := .seq its.toArray n }

section
variable {X : Cx} {own capN : List Str} {cap : List Nat} {scope : Scope} {elt tg iter : Expr} {ifs : List Expr} {pos : Pos} {wi : TI} {g : TG} {tf : TT} {te : TE}

theorem comp_core {use : Option (Value -> Sem Unit)} {Qe : Value -> Shared -> Prop} {fpos : Pos} (hc : X.calm = true) (B : Bk X.env scope own capN) (hcap : CapOk X capN cap)
  (hi : PI X tg iter wi) (hg : ∀ Z, PG (blk X own capN scope Z) tg g) (hf : ∀ Z, PF (blk X own capN scope Z) ifs tf) (he : ∀ Z, PE (blk X own capN scope Z) elt te)
  (hs : ∀ x, foldedSetIterable iter X.env x = pure x) {pins : List (Addr × Obj)} {s : Shared} {σ : St} {H : Hp} {Q : VK} (I : Inv X pins σ H s) (h : tComp wi own.length cap g tf te σ H Q)
  (fin : ∀ (D C : Addr) (s' : Shared) (H' : Hp), Inv X pins σ H' s' -> FpOk X pins H' C -> (∃ m, s'.heap.Ns C m) -> Q (.ref D) H' -> compPost (model X.prog X.w) X.A X.xe use Qe (.ref D) C (.ok .next) s') :
  wpAny (model X.prog X.w) X.A (comprehension (.ListComp elt [⟨tg, iter, ifs, 0⟩] scope pos) scope X.env fpos (newList []) false (eval iter X.env) use) Qe X.xe s := by
 refine wpAny_comprehension_free (use := use) rfl hs (closureFor_cap fun y hy hk => I.ok.has y.1 (B.caps _ (B.frees y hy hk).1)) B.kind B.locs ?_
 refine thn (hi pins s σ H _ I h) fun v s1 h1 => thn h1 fun itv s2 h2 => ?_
 obtain ⟨it, fp, tn, J, H2, e, I2, T, st2, f2, W, ⟨m0, w0⟩, turn⟩ := h2
 subst e
 have hfp : ∀ b ∈ fp, FpOk X pins H2 b /\ @LT.lt Nat instLTNat b s2.heap.objs.size := fun b hb => ⟨f2 b hb, let ⟨_, e, _⟩ := T.obj _ _ st2 b hb; Heap.lt_size e⟩
 refine wpAny_newObj_type (newBlockEnv ?_) (Nat.zero_le _)
 have es : (s2.heap.push { cls := .type "list", data := .seq ([] : List Value).toArray }).objs.size = s2.heap.objs.size + 1 := Heap.size_push ..
 show codeAny _ _ (.compStart _ 0 (.ref it) (.ref s2.heap.objs.size) { newEnv scope (s2.heap.push { cls := .type "list", data := .seq ([] : List Value).toArray }).objs.size X.env.globals (cellsFrom ((s2.heap.push { cls := .type "list", data := .seq ([] : List Value).toArray }).objs.size + 1) scope.names (capCells X.env scope.names [])) X.env.qual none .none (some X.env) builtinsNs with scope := relabel scope X.env })
  (compPost (model X.prog X.w) X.A X.xe use Qe (.ref s2.heap.objs.size) (s2.heap.push { cls := .type "list", data := .seq ([] : List Value).toArray }).objs.size)
  { s2 with heap := pushCells ((s2.heap.push { cls := .type "list", data := .seq ([] : List Value).toArray }).push { cls := .type "dict", data := .dict #[] }) scope.names }
 have hk1 : ∀ b o, (s2.heap.push { cls := .type "list", data := .seq ([] : List Value).toArray }).get? b = some o -> (pushCells ((s2.heap.push { cls := .type "list", data := .seq ([] : List Value).toArray }).push { cls := .type "dict", data := .dict #[] }) scope.names).get? b = some o :=
  fun b o e => pushCells_keeps _ _ _ _ (Heap.get?_push_of_some _ e)
 have hk : ∀ b o, s2.heap.get? b = some o -> (pushCells ((s2.heap.push { cls := .type "list", data := .seq ([] : List Value).toArray }).push { cls := .type "dict", data := .dict #[] }) scope.names).get? b = some o := fun b o e => hk1 b o (Heap.get?_push_of_some _ e)
 have hoD := hk1 s2.heap.objs.size _ (Heap.get?_push_size s2.heap (o := { cls := .type "list", data := .seq ([] : List Value).toArray }) rfl)
 have hn := (Heap.Ns.new (s2.heap.push { cls := .type "list", data := .seq ([] : List Value).toArray }) (.type "dict")).keeps (pushCells_keeps scope.names _)
 have hcl := own_cells ((s2.heap.push { cls := .type "list", data := .seq ([] : List Value).toArray }).push { cls := .type "dict", data := .dict #[] }) (s2.heap.objs.size + 1) (by rw [Heap.size_push, es]) scope.names
 rw [es] at hn ⊢
 generalize pushCells ((s2.heap.push { cls := .type "list", data := .seq ([] : List Value).toArray }).push { cls := .type "dict", data := .dict #[] }) scope.names = h3 at hk hoD hn hcl ⊢
 have Z : Bz := ⟨s2, H2, fp, s2.heap.objs.size + 1⟩
 have I3 : Inv (blk X own capN scope ⟨s2, H2, fp, s2.heap.objs.size + 1⟩) [(s2.heap.objs.size, lobj [] 0)] (st0 own.length cap σ) H2 { s2 with heap := h3 } :=
  blk_inv (Z := ⟨s2, H2, fp, s2.heap.objs.size + 1⟩) (t1 := s2.toks) I2 hc B hcap (Nat.le_succ _) hcl hfp hk hn (Nat.le_refl _) (Nat.ne_of_lt (Nat.lt_succ_self _)) hoD (fun v z => nomatch z)
 have st3 : tn 0 h3 := T.keep _ _ _ st2 fun b _ o e => hk b o e
 have loop : codeAny (model X.prog X.w) X.A (.compLoop (.ListComp elt [⟨tg, iter, ifs, 0⟩] scope pos) 0 (.ref it) (.ref s2.heap.objs.size) (blkEnv X.env scope (s2.heap.objs.size + 1))) (compPost (model X.prog X.w) X.A X.xe use Qe (.ref s2.heap.objs.size) (s2.heap.objs.size + 1)) { s2 with heap := h3 } := by
  refine compLoop_own (fun m s' => ∃ i ys σ' H' its n, Inv (blk X own capN scope ⟨s2, H2, fp, s2.heap.objs.size + 1⟩) [(s2.heap.objs.size, lobj its n)] σ' H' s' /\ tn i s'.heap /\ (∀ b ∈ fp, H' b = none) /\ Vals ys its /\ W i m ys H') ?_ m0
   ⟨0, [], _, H2, [], 0, I3, st3, fun b hb => (f2 b hb).1, .nil, w0⟩
  rintro E n s4 ⟨i, ys, σ4, H4, its, k, I4, st4, fr4, rv, w4⟩
  have fpo : ∀ {pp : List (Addr × Obj)} {H' : Hp}, (∀ p ∈ pp, p.1 = s2.heap.objs.size) -> (∀ b ∈ fp, H' b = none) -> ∀ b ∈ fp, FpOk (blk X own capN scope ⟨s2, H2, fp, s2.heap.objs.size + 1⟩) pp H' b := fun {pp H'} hpp hn b hb => by
   obtain ⟨e1, e2⟩ := I4.ok.exf b hb
   refine ⟨hn b hb, e1, I4.ok.exfs b hb, .inl hb, e2, fun p hp => ?_⟩
   have hp' : p ∈ pp := by simpa [blk] using hp
   have l := (hfp b hb).2
   rw [hpp p hp']
   exact fun z => Nat.lt_irrefl _ (by rw [<- z] at l; exact l)
  have pinD : ∀ {its : List Value} {n : Nat}, ∀ p ∈ [(s2.heap.objs.size, lobj its n)], p.1 = s2.heap.objs.size := fun p hp => by simp at hp; rw [hp]
  rcases turn i n ys H4 w4 with ⟨stop, hz, q⟩ | ⟨go, hlt, NY, NN, hNY, hNN, step⟩
  ·refine thn (T.done (blk X own capN scope ⟨s2, H2, fp, s2.heap.objs.size + 1⟩) rfl rfl rfl rfl i _ s4 σ4 H4 E I4 (fpo pinD fr4) st4 stop) fun r s5 ⟨hr, I5⟩ => ?_
   subst hr
   have pD := I5.pin (s2.heap.objs.size, lobj its k) (by simp)
   have I6 := blk_end (Z := ⟨s2, H2, fp, s2.heap.objs.size + 1⟩) I2 hfp (Nat.le_refl _) I5 rv hz
   have hC : upd H4 s2.heap.objs.size (.lst ys) (s2.heap.objs.size + 1) = none := by
    rw [upd_ne (Nat.ne_of_gt (Nat.lt_succ_self _))]; exact I5.free
   obtain ⟨m, hm, _⟩ := I5.loc
   exact fin _ _ s5 _ I6 (I2.fpOk (Nat.le_succ _) hC) ⟨m, hm⟩ (q _ pD.2.1)
  ·refine thn (T.item (blk X own capN scope ⟨s2, H2, fp, s2.heap.objs.size + 1⟩) rfl rfl rfl rfl i _ s4 σ4 H4 E I4 (fpo pinD fr4) st4 go) fun r s5 ⟨u, hr, h5⟩ => ?_
   subst hr
   refine thn h5 fun _ s6 ⟨x, H6, I6, r6, y6, st6, fr6⟩ => ?_
   have I6' := (blk_late (Z := ⟨s2, H2, fp, s2.heap.objs.size + 1⟩) I2 B hcap hfp I6).pinned (fpo pinD fr6) (T.obj _ _ st6)
   have back : ∀ {σ7 : St} {H7 : Hp} {s7 : Shared}, Inv (blk X own capN scope ⟨s2, H2, fp, s2.heap.objs.size + 1⟩) ([(s2.heap.objs.size, lobj its k)] ++ pinsAt fp s6.heap) σ7 H7 s7 →
     Inv (blk X own capN scope ⟨s2, H2, fp, s2.heap.objs.size + 1⟩) [(s2.heap.objs.size, lobj its k)] σ7 H7 s7 /\ tn (i + 1) s7.heap /\ ∀ b ∈ fp, H7 b = none := fun {σ7 H7 s7} I7 => by
    refine ⟨I7.unpinned, T.keep _ _ _ st6 fun b hb o e => (I7.pin (b, o) (List.mem_append_right _ (List.mem_append_right _ (mem_pinsAt hb e)))).1, fun b hb => ?_⟩
    obtain ⟨o, e, d⟩ := T.obj _ _ st6 b hb
    exact (I7.pin (b, o) (List.mem_append_right _ (List.mem_append_right _ (mem_pinsAt hb e)))).2.1
   refine thn0 (hg _ _ s6 _ H6 x u _ I6' r6 (step x H6 y6)) fun _ s7 ⟨σ7, H7, I7, q7⟩ => ?_
   refine thn0 (hf _ _ s7 σ7 H7 _ I7 q7) fun ok s8 ⟨H8, I8, q8⟩ => ?_
   cases ok with
   | false =>
    rw [if_neg Bool.false_ne_true] at q8 ⊢
    obtain ⟨m', hm, w8⟩ := hNN H8 q8
    obtain ⟨J1, J2, J3⟩ := back I8
    exact ⟨m', hm, i + 1, ys, σ7, H8, its, k, J1, J2, J3, rv, w8⟩
   | true =>
    rw [if_pos rfl] at q8 ⊢
    refine thn0 (he _ _ s8 σ7 H8 _ I8 q8) fun z s9 ⟨y, H9, I9, r9, q9⟩ => ?_
    obtain ⟨J1, J2, J3⟩ := back I9
    obtain ⟨m', hm, w9⟩ := hNY y H9 q9
    have pD := J1.pin (s2.heap.objs.size, lobj its k) (by simp)
    have hl := rv.length
    refine call_meets F.slot_list_append ⟨_, pD.1, rfl⟩ F.entry_list_append (F.args_list_append_2 _ _) (PySem.list_append s2.heap.objs.size its.toArray k z (by rw [List.size_toArray]; omega)) ⟨pD.1, ?_⟩
    have e9 := PySem.IsL.update pD.1 (fun a => a.push z)
    have e9' : (its.toArray.push z) = (its ++ [z]).toArray := by simp
    rw [e9'] at e9
    obtain ⟨n', e9⟩ : ∃ n', (s9.heap.update s2.heap.objs.size (Obj.mapSeq fun a => a.push z)).get? s2.heap.objs.size = some (lobj (its ++ [z]) n') := ⟨_, e9⟩
    have J4 : Inv (blk X own capN scope ⟨s2, H2, fp, s2.heap.objs.size + 1⟩) [] σ7 H9 { s9 with heap := s9.heap.update s2.heap.objs.size (Obj.mapSeq fun a => a.push z), toks := s9.toks } :=
     (J1.pins_of (pins' := []) fun p hp => nomatch hp).turned (fun b o hb e => (Heap.get?_update_other s9.heap _ (Ne.symm hb)).trans e) pD.2.1 pD.2.2.1 (.inr (Nat.le_refl _)) (fun x c hx z => by
      rcases blk_cells (Z := ⟨s2, H2, fp, s2.heap.objs.size + 1⟩) B I2 hx with ⟨_, m⟩ | ⟨_, _, m⟩
      ·have := (hcl.empty _ _ m).2
       have z' : @Eq Nat c s2.heap.objs.size := z
       omega
      ·have := cell_lt (Z := ⟨s2, H2, fp, s2.heap.objs.size + 1⟩) I2 m
       rw [z] at this
       exact Nat.lt_irrefl _ this) fun p hp => by simp [blk] at hp
    have nfp : ∀ b ∈ fp, b ≠ s2.heap.objs.size := fun b hb z => by have := (hfp b hb).2; rw [z] at this; exact Nat.lt_irrefl _ this
    refine ⟨m', hm, i + 1, ys ++ [y], σ7, H9, its ++ [z], n', J4.pins_of fun p hp => ?_, T.keep _ _ _ J2 fun b hb o e => (Heap.get?_update_other s9.heap _ (Ne.symm (nfp b hb))).trans e, J3, rv.append (.cons r9 .nil), w9⟩
    have ep : p = (s2.heap.objs.size, lobj (its ++ [z]) n') := by simpa using hp
    rw [ep]
    exact ⟨e9, pD.2.1, pD.2.2.1, pD.2.2.2.1, fun v z => nomatch z⟩
 exact codeAny_compStart_list loop (T.self _ _ _ _ _ st3 loop)

theorem pe_comp (own capN : List Str) (cap : List Nat) (hi : PI X tg iter wi) (hg : ∀ Z, PG (blk X own capN scope Z) tg g) (hf : ∀ Z, PF (blk X own capN scope Z) ifs tf) (he : ∀ Z, PE (blk X own capN scope Z) elt te)
  (h1 : bkS scope own capN = true := by decide +kernel) (h2 : capsB X.env capN = true := by rfl) (hcap : CapOk X capN cap := by rfl) (hc : X.calm = true := by rfl) (hs : ∀ x, foldedSetIterable iter X.env x = pure x := by intro _; rfl) :
  PE X (.ListComp elt [⟨tg, iter, ifs, 0⟩] scope pos) (tComp wi own.length cap g tf te) := by
 intro pins s σ H Q I h
 rw [eval_ListComp]
 refine comp_core (use := none) hc (Bk.of h1 h2) hcap hi hg hf he hs I h fun D C s' H' I' fC hm q => ?_
 obtain ⟨m, hm⟩ := hm
 refine ⟨m, hm, fun h' hs' => ?_⟩
 obtain ⟨f0, f1, f2, f3, f4, f5⟩ := fC
 exact ⟨.ref D, H', I'.turned (t' := s'.toks) (fun b o hb e => (hs'.2 b hb).trans e) f0 f1 f3 f4 f5, rfl, q⟩
theorem ps_setC (i : Nat) (own capN : List Str) (cap : List Nat) {x : Str} {pos' spos : Pos} (hN : X.N.Nodup) (hi' : X.N[i]? = some x) (hx : X.env.scope.names.lookup x = some .local) (hi : PI X tg iter wi) (hg : ∀ Z, PG (blk X own capN scope Z) tg g) (hf : ∀ Z, PF (blk X own capN scope Z) ifs tf) (he : ∀ Z, PE (blk X own capN scope Z) elt te)
  (h1 : bkS scope own capN = true := by decide +kernel) (h2 : capsB X.env capN = true := by rfl) (hcap : CapOk X capN cap := by rfl) (hc : X.calm = true := by rfl) (hs : ∀ x, foldedSetIterable iter X.env x = pure x := by intro _; rfl)
  (hsw : swapsWith (.ListComp elt [⟨tg, iter, ifs, 0⟩] scope pos) (some (.Name x pos')) spos.line X.env = pure true := by rfl) :
  PS X (.Assign [.Name x pos'] (.ListComp elt [⟨tg, iter, ifs, 0⟩] scope pos) spos) (tAsg (tComp wi own.length cap g tf te) (gName i)) := by
 intro pins s σ H D I h
 rw [exec_Assign_Name_used _ _ _ _ hsw]
 refine wpAny_bind (wpAny_standAt (wpAny_bind ?_))
 rw [arm_evalThenUse_ListComp]
 refine wpAny_bind (comp_core (Q := fun v H1 => D.nx (σ.set i (some v)) H1) (use := some _) hc (Bk.of h1 h2) hcap hi hg hf he hs I h fun L C s' H' I' fC hm q => ?_)
 obtain ⟨m, hm⟩ := hm
 obtain ⟨f0, f1, f2, f3, f4, f5⟩ := fC
 refine wpAny_assign_Name (store_ok2 I' hN hi' (.inl hx) (v := .ref L) rfl (fun s'' I'' ⟨a, sb, ha⟩ => ?_) (.inr hx))
 have hCa : C ≠ a := by
  rcases ha with e | e
  ·rw [e]; exact f1
  ·exact (f4 x a e).symm
 refine ⟨m, hm.at' fun o e => (sb.2 C hCa).trans e, fun h' hs' => ?_⟩
 have I3 := I''.turned (h' := h') (t' := s''.toks) (fun b o hb e => (hs'.2 b hb).trans e) f0 f1 f3 f4 f5
 exact wpAny_pure (wpAny_pure ⟨_, H', I3, q⟩)
end

section
variable {K : PySem.W.Frag} {a : Addr} {xs : List V} {g : TG} {tf : TT} {te : TE} {Q : VK} {σ₀ : St} {H : Hp}
theorem comp_list (Pv : Nat -> List V -> Hp -> Prop) (hz : xs.length <= sizeLine) (h0 : Pv 0 [] H) (hl : ∀ i ys H, i <= xs.length -> Pv i ys H -> SqL K H a xs)
  (hs : ∀ i x ys H, xs[i]? = some x -> ys.length <= i -> Pv i ys H -> tTurn σ₀ g tf te x H (fun y H' => Pv (i + 1) (ys ++ [y]) H') (fun H' => Pv (i + 1) ys H'))
  (hd : ∀ ys H, ys.length <= xs.length -> Pv xs.length ys H -> ∀ p, H p = none -> Q (.ref p) (upd H p (.lst ys))) : CompW (Itl K a) σ₀ g tf te Q H := by
 refine ⟨fun i m ys H => m = xs.length - i /\ i <= xs.length /\ ys.length <= i /\ Pv i ys H, ⟨xs.length, by simp, Nat.zero_le _, Nat.zero_le _, h0⟩, ?_⟩
 rintro i m ys H ⟨rfl, hi, hy, p⟩
 have q := hl i ys H hi p
 by_cases hlt : i < xs.length
 ·refine .inr ⟨⟨xs, xs[i], q, by simp [hlt]⟩, by omega, fun y H' => Pv (i + 1) (ys ++ [y]) H', fun H' => Pv (i + 1) ys H', fun y H' p' => ⟨xs.length - (i + 1), by omega, rfl, hlt, by rw [List.length_append, List.length_singleton]; omega, p'⟩, fun H' p' => ⟨xs.length - (i + 1), by omega, rfl, hlt, by omega, p'⟩, fun x H' y => ?_⟩
  obtain ⟨e, y⟩ := y
  subst e
  exact hs i x ys _ (y xs q) hy p
 ·have e : i = xs.length := by omega
  subst e
  exact .inl ⟨⟨xs, q, Nat.le_refl _⟩, by omega, hd ys H hy p⟩
theorem comp_range {lo : Int} {n : Nat} (Pv : Nat -> List V -> Hp -> Prop) (hz : n <= sizeLine) (h0 : Pv 0 [] H)
  (hs : ∀ i ys H, i < n -> ys.length <= i -> Pv i ys H -> tTurn σ₀ g tf te (.int (lo + i)) H (fun y H' => Pv (i + 1) (ys ++ [y]) H') (fun H' => Pv (i + 1) ys H'))
  (hd : ∀ ys H, ys.length <= n -> Pv n ys H -> ∀ p, H p = none -> Q (.ref p) (upd H p (.lst ys))) : CompW (Itr lo n) σ₀ g tf te Q H := by
 refine ⟨fun i m ys H => m = n - i /\ i <= n /\ ys.length <= i /\ Pv i ys H, ⟨n, by simp, Nat.zero_le _, Nat.zero_le _, h0⟩, ?_⟩
 rintro i m ys H ⟨rfl, hi, hy, p⟩
 by_cases hlt : i < n
 ·refine .inr ⟨hlt, by omega, fun y H' => Pv (i + 1) (ys ++ [y]) H', fun H' => Pv (i + 1) ys H', fun y H' p' => ⟨n - (i + 1), by omega, rfl, hlt, by rw [List.length_append, List.length_singleton]; omega, p'⟩, fun H' p' => ⟨n - (i + 1), by omega, rfl, hlt, by omega, p'⟩, fun x H' y => ?_⟩
  obtain ⟨e, y⟩ := y
  subst e y
  exact hs i ys _ hlt hy p
 ·have e : i = n := by omega
  subst e
  exact .inl ⟨Nat.le_refl _, by omega, hd ys H hy p⟩
end
end L2
namespace L2
open PySem PySem.Spec PyProof.Rows Nm

def CMulS (i j : Int) : Prop := CMul i j ∨ ∃ m n, Sz m i /\ Sz n j /\ m + n <= 1000000
def CDivS (i j : Int) : Prop := j ≠ 0 /\ Sz 8999 j
theorem bits_of_sz {k : Nat} {i : Int} (h : Sz k i) : Builtin.Int.intBits i <= k := by
 unfold Builtin.Int.intBits
 by_cases e : i = 0
 ·subst e; simp
 ·have e' : (i == 0) = false := by simpa using e
  rw [e']
  have hn : i.natAbs ≠ 0 := by omega
  have := (Nat.log2_lt hn).mpr h
  simp only [Bool.false_eq_true, if_false]
  omega
theorem CMulS.ok {i j : Int} (h : CMulS i j) : IntMulOk i j := by
 rcases h with h | ⟨m, n, h1, h2, h3⟩
 ·exact h.ok
 ·have e : (2 : Nat) ^ 20 = 1048576 := by decide
  exact .of_bits (by have := bits_of_sz h1; omega) (by have := bits_of_sz h2; omega)
section
variable {X : Cx} {a b : Expr} {ta tb : TE} {pos : Pos}
theorem op_mulS : OpR X (binaryOp .Mult) (rI CMulS fun i j => .int (i * j)) := opI fun _ _ _ _ _ _ _ hc q => mul_int q hc.ok
theorem op_fdivS : OpR X (binaryOp .FloorDiv) (rI CDivS fun i j => .int (i.fdiv j)) := opI fun i j _ _ _ _ _ hc q => by
 refine floordiv_int hc.1 q (.inl (PyProof.noPylong_of_log2 ?_))
 have hn : j.natAbs ≠ 0 := by have := hc.1; omega
 have := (Nat.log2_lt hn).mpr hc.2
 omega

def tSeqM (t u : TS) : TS := fun D σ H => ∃ N : St -> Hp -> Prop, t { D with nx := N } σ H /\ ∀ σ' H', N σ' H' -> u D σ' H'
theorem pss_consM {st : Stmt} {rest : List Stmt} {t u : TS} (h1 : PS X st t) (h2 : PSs X rest u) : PSs X (st :: rest) (tSeqM t u) := by
 intro pins s σ H D I h
 obtain ⟨N, h, k⟩ := h
 refine wpAny_execs_cons (thn (h1 pins s σ H { D with nx := N } I h) fun f s1 q => ?_)
 cases f with
 | next =>
  obtain ⟨σ', H', I', q⟩ := q
  exact h2 pins s1 σ' H' D I' (k _ _ q)
 | ret v => exact q
 | brk => exact q
 | cont => exact q

def rGetL (K : PySem.W.Frag) : V -> V -> Hp -> VK -> Prop := fun o i H Q => ∃ p xs k v, o = .ref p /\ i = .int k /\ SqL K H p xs /\ atI xs k = some v /\ Q v H
theorem get_list : PGet X (rGetL X.K) := by
 intro pins s σ H o i ov iv Q I ro ri h
 obtain ⟨p, xs, k, z, rfl, rfl, hq, he, q⟩ := h
 cases ro
 obtain ⟨t, rfl⟩ := ri
 obtain ⟨its, r, pl, hz⟩ := I.list hq
 obtain ⟨j, h1, h2, h3, h4, h5⟩ := atI_get he
 obtain ⟨w, ew, rw'⟩ := r.get h2
 have hl := r.length
 have hn := line63
 have fin : EP X pins σ Q w s := ⟨z, H, I, rw', q⟩
 by_cases h0 : 0 <= k
 ·have hj : k.toNat = j := by
   rw [seqIndex_of h0 h5] at h1
   exact Option.some.inj h1
  exact wpAny_getItem_list pl.isList h0 (by omega) (by rw [hj]; simpa using ew) fin
 ·have hj : (k + (its.toArray.size : Int)).toNat = j := by
   rw [seqIndex_neg (by omega) h4] at h1
   rw [List.size_toArray, <- hl]
   exact Option.some.inj h1
  exact wpAny_getItem_list_neg pl.isList (by omega) (by rw [List.size_toArray] <;> omega) (by omega) (by rw [hj]; simpa using ew) fin

def rIsT (K : PySem.W.Frag) (T : String) : V -> Hp -> VK -> Prop := fun x H Q => ∃ t b, TyOf K H x t /\ PySem.W.kitOne K t (.type T) = some b /\ Q (.bl b) H
theorem pe_isT {c : Str} {T : String} {p p2 : Pos} (hg : Gl X "isinstance") (hm : X.mg "isinstance" = none) (hb : bootBuiltins c = some (.type T)) (hmc : X.mg c = none) (ha : PE X a ta) (hgc : Gl X c := by rfl) (hn : c ≠ "__name__" := by decide)
  (hd : (c == ("__debug__" : Str)) = false := by decide) (he : starEach [a, .Name c p2] X.env = [(false, eval a X.env), (false, eval (.Name c p2) X.env)] := by rfl)
  (hpl : (backTo pos (starEach [.Name c p2] X.env)).any (·.1) = false := by rfl) (he2 : starEach [.Name c p2] X.env = [(false, eval (.Name c p2) X.env)] := by rfl) : PE X (.Call (.Name "isinstance" p) [a, .Name c p2] [] pos) (tUn (rIsT X.K T) ta) := by
 intro pins s σ H Q I h
 refine wpAny_Call_Name_kw (ld_blt I hg hm PyProof.Rows.boot_isinstance ?_)
 have hA : PA X [a, .Name c p2] (tCons ta (tCons (tC (.ty T)) tNil)) := pa_cons ha (pa_cons (pe_bltn hgc hmc hb rfl hn hd) pa_nil he2) (by rw [he, he2])
 have hq : tCons ta (tCons (tC (.ty T)) tNil) σ H (fun vs H1 => ∃ x, vs = [x, .ty T] /\ rIsT X.K T x H1 Q) := by
  show ta σ H fun x H1 => ∃ x', [x, V.ty T] = [x', V.ty T] /\ rIsT X.K T x' H1 Q
  have e : (fun x H1 => ∃ x', [x, V.ty T] = [x', V.ty T] /\ rIsT X.K T x' H1 Q) = fun x H1 => rIsT X.K T x H1 Q := by
   funext x H1
   apply propext
   constructor
   ·rintro ⟨x', e, q⟩; cases e; exact q
   ·intro q; exact ⟨x, rfl, q⟩
  rw [e]
  exact h
 refine PyProof.Rows.callWith_builtin1 (thn (hA pos pins s σ H _ I hq) fun us s1 ⟨vs, H1, I1, r1, x, e, q1⟩ => ?_) (by rw [he, he2]) hpl
 subst e
 obtain ⟨u, w', rfl, ru, rt⟩ := vals2 r1
 cases rt
 obtain ⟨t, bb, ty, ek, q⟩ := q1
 exact isinst_ok I1 ru ty ek fun tk => ⟨.bl bb, H1, I1.tok tk, rfl, q⟩
end

structure Kind (α : Type) [DecidableEq α] where
 R : PySem.W.Frag -> Hp -> V -> α -> Prop
 d : Nat
 inj : ∀ {X : Cx} {pins : List (Addr × Obj)} {σ : St} {H : Hp} {s : Shared} {x : V} {a b : α}, Inv X pins σ H s -> R X.K H x a -> R X.K H x b -> a = b
 rc : ∀ {X : Cx} {pins : List (Addr × Obj)} {σ : St} {H : Hp} {s : Shared} {x y : V} {v u : Value} {a b : α} {A : Around}, Inv X pins σ H s -> RelV x v -> RelV y u -> R X.K H x a -> R X.K H y b -> A.units + d < cLine -> SeqAt.RcAt A s v u (decide (a = b))
 ne : ∀ {X : Cx} {pins : List (Addr × Obj)} {σ : St} {H : Hp} {s : Shared} {x y : V} {v u : Value} {a b : α} {A : Around}, Inv X pins σ H s -> RelV x v -> RelV y u -> R X.K H x a -> R X.K H y b -> A.units + d < cLine -> SeqAt.RcNeAt A s v u (!decide (a = b))
 eq : ∀ {X : Cx} {pins : List (Addr × Obj)} {σ : St} {H : Hp} {s : Shared} {x y : V} {v u : Value} {a b : α} {A : Around}, Inv X pins σ H s -> RelV x v -> RelV y u -> R X.K H x a -> R X.K H y b -> A.units + d < cLine -> SeqAt.EqAt A s v u (decide (a = b))

def kInt : Kind Int where
 R := fun _ _ x i => x = .int i
 d := 0
 inj := fun _ h1 h2 => by rw [h1] at h2; cases h2; rfl
 rc := fun {X pins σ H s x y v u a b A} I rx ry h1 h2 _ => by
  subst h1 h2
  obtain ⟨t, rfl⟩ := rx
  obtain ⟨t', rfl⟩ := ry
  have q := SeqAt.RcAt.int_int (A := A) (s := s) a t b t'
  rwa [Bool.beq_eq_decide_eq] at q
 ne := fun {X pins σ H s x y v u a b A} I rx ry h1 h2 _ => by
  subst h1 h2
  obtain ⟨t, rfl⟩ := rx
  obtain ⟨t', rfl⟩ := ry
  have q := SeqAt.RcNeAt.int_int (A := A) (s := s) a t b t'
  rwa [Bool.beq_eq_decide_eq] at q
 eq := fun {X pins σ H s x y v u a b A} I rx ry h1 h2 _ => by
  subst h1 h2
  obtain ⟨t, rfl⟩ := rx
  obtain ⟨t', rfl⟩ := ry
  have q := SeqAt.EqAt.int_int (A := A) (s := s) a t b t'
  rwa [Bool.beq_eq_decide_eq] at q

theorem paired_get {α β : Type} {F : α -> β -> Prop} : ∀ {l1 : List α} {l2 : List β} {i : Nat} (_ : Paired F l1 l2) (h1 : i < l1.length) (h2 : i < l2.length), F l1[i] l2[i]
 | _, _, _, .nil, h1, _ => absurd h1 (Nat.not_lt_zero _)
 | _, _, 0, .cons r _, _, _ => r
 | _, _, i + 1, .cons _ t, h1, h2 => paired_get (i := i) t (Nat.lt_of_succ_lt_succ h1) (Nat.lt_of_succ_lt_succ h2)
theorem paired_inj {α β : Type} {F : α -> β -> Prop} (hF : ∀ a b x, F a x -> F b x -> a = b) : ∀ {l1 l2 : List α} {l : List β}, Paired F l1 l -> Paired F l2 l -> l1 = l2
 | _, _, _, .nil, .nil => rfl
 | _, _, _, .cons r t, .cons r' t' => by rw [hF _ _ _ r r', paired_inj hF t t']
theorem decide_lists {α : Type} [DecidableEq α] (as bs : List α) (h : as.length = bs.length) : (List.range as.length).all (fun j => decide (as[j]? = bs[j]?)) = decide (as = bs) := by
 rw [Bool.eq_iff_iff, List.all_eq_true, decide_eq_true_iff]
 constructor
 ·intro q
  apply List.ext_getElem?
  intro i
  by_cases hi : i < as.length
  ·exact of_decide_eq_true (q i (List.mem_range.mpr hi))
  ·rw [List.getElem?_eq_none (by omega), List.getElem?_eq_none (by omega)]
 ·rintro rfl i _
  simp

section
variable {α : Type} [DecidableEq α] (k : Kind α)
theorem Kind.items {X : Cx} {pins : List (Addr × Obj)} {σ : St} {H : Hp} {s : Shared} {A : Around} (I : Inv X pins σ H s) (hA : A.units + k.d < cLine) {xs ys : List V} {us ws : List Value} {as bs : List α}
  (rx : Vals xs us) (ry : Vals ys ws) (ha : Paired (fun a x => k.R X.K H x a) as xs) (hb : Paired (fun a x => k.R X.K H x a) bs ys) :
  ∀ j (h1 : j < us.toArray.size) (h2 : j < ws.toArray.size), SeqAt.EqAt A s us.toArray[j] ws.toArray[j] (decide (as[j]? = bs[j]?)) := fun j h1 h2 => by
 have l1 : j < us.length := by simpa using h1
 have l2 : j < ws.length := by simpa using h2
 have e1 := rx.length
 have e2 := ry.length
 have e3 := ha.length
 have e4 := hb.length
 obtain ⟨u, hu, ru⟩ := rx.get (i := j) (x := xs[j]'(by omega)) (by simp)
 obtain ⟨w, hw, rw'⟩ := ry.get (i := j) (x := ys[j]'(by omega)) (by simp)
 have q := k.eq (A := A) I ru rw' (paired_get ha (by omega) (by omega)) (paired_get hb (by omega) (by omega)) hA
 have eu : us.toArray[j] = u := by
  have := hu
  rw [List.getElem?_eq_getElem l1] at this
  simpa using this
 have ew : ws.toArray[j] = w := by
  have := hw
  rw [List.getElem?_eq_getElem l2] at this
  simpa using this
 rw [eu, ew, List.getElem?_eq_getElem (show j < as.length by omega), List.getElem?_eq_getElem (show j < bs.length by omega)]
 have e5 : decide (some as[j] = some bs[j]) = decide (as[j] = bs[j]) := by simp
 rw [e5]
 exact q
theorem tup_all {α : Type} [DecidableEq α] (as bs : List α) {n m : Nat} (h1 : as.length = n) (h2 : bs.length = m) : ((List.range (min n m)).all (fun j => decide (as[j]? = bs[j]?)) && n == m) = decide (as = bs) := by
 subst h1 h2
 by_cases e : as.length = bs.length
 ·rw [show min as.length bs.length = as.length by omega, decide_lists as bs e]
  simp [e]
 ·have h1 : (as.length == bs.length) = false := by simpa using e
  rw [h1, Bool.and_false]
  exact (decide_eq_false fun z => e (by rw [z])).symm

def kTup : Kind (List α) where
 R := fun K H x as => ∃ p xs, x = .ref p /\ SqT K H p xs /\ Paired (fun a x => k.R K H x a) as xs
 d := k.d + 1
 inj := fun {X pins σ H s x a b} I h1 h2 => by
  obtain ⟨p, xs, rfl, hp, pa⟩ := h1
  obtain ⟨q, ys, e, hq, pb⟩ := h2
  cases e
  have e := I.tuple_inj hp hq
  subst e
  exact paired_inj (F := fun a x => k.R X.K H x a) (fun a b x => k.inj I) pa pb
 rc := fun {X pins σ H s x y v u a b A} I rx ry h1 h2 hA => by
  obtain ⟨p, xs, rfl, hp, pa⟩ := h1
  obtain ⟨q, ys, rfl, hq, pb⟩ := h2
  cases rx
  cases ry
  obtain ⟨us, r1, t1, _⟩ := I.tuple hp
  obtain ⟨ws, r2, t2, _⟩ := I.tuple hq
  have z := SeqAt.RcAt.tuples (A := A) (e := fun j => decide (a[j]? = b[j]?)) (show s.heap.IsTuple p us.toArray from t1) (show s.heap.IsTuple q ws.toArray from t2) (by omega) (k.items (A := A.in1) I (by show A.units + 1 + k.d < cLine; omega) r1 r2 pa pb)
  rwa [tup_all a b (by rw [pa.length, r1.length]; simp) (by rw [pb.length, r2.length]; simp)] at z
 ne := fun {X pins σ H s x y v u a b A} I rx ry h1 h2 hA => by
  obtain ⟨p, xs, rfl, hp, pa⟩ := h1
  obtain ⟨q, ys, rfl, hq, pb⟩ := h2
  cases rx
  cases ry
  obtain ⟨us, r1, t1, _⟩ := I.tuple hp
  obtain ⟨ws, r2, t2, _⟩ := I.tuple hq
  have z := SeqAt.RcNeAt.tuples (A := A) (e := fun j => decide (a[j]? = b[j]?)) (show s.heap.IsTuple p us.toArray from t1) (show s.heap.IsTuple q ws.toArray from t2) (by omega) (k.items (A := A.in1) I (by show A.units + 1 + k.d < cLine; omega) r1 r2 pa pb)
  rwa [tup_all a b (by rw [pa.length, r1.length]; simp) (by rw [pb.length, r2.length]; simp)] at z
 eq := fun {X pins σ H s x y v u a b A} I rx ry h1 h2 hA => by
  obtain ⟨p, xs, rfl, hp, pa⟩ := h1
  obtain ⟨q, ys, rfl, hq, pb⟩ := h2
  cases rx
  cases ry
  by_cases e : p = q
  ·subst e
   have e := I.tuple_inj hp hq
   subst e
   rw [paired_inj (F := fun a x => k.R X.K H x a) (fun a b x => k.inj I) pa pb, decide_eq_true rfl]
   exact SeqAt.EqAt.same _
  ·obtain ⟨us, r1, t1, _⟩ := I.tuple hp
   obtain ⟨ws, r2, t2, _⟩ := I.tuple hq
   have z := SeqAt.RcAt.tuples (A := A) (e := fun j => decide (a[j]? = b[j]?)) (show s.heap.IsTuple p us.toArray from t1) (show s.heap.IsTuple q ws.toArray from t2) (by omega) (k.items (A := A.in1) I (by show A.units + 1 + k.d < cLine; omega) r1 r2 pa pb)
   rw [tup_all a b (by rw [pa.length, r1.length]; simp) (by rw [pb.length, r2.length]; simp)] at z
   exact .of_refs e z
theorem lst_rc {X : Cx} {pins : List (Addr × Obj)} {σ : St} {H : Hp} {s : Shared} {p q : Addr} {xs ys : List V} {a b : List α} {A : Around} (I : Inv X pins σ H s) (hp : SqL X.K H p xs) (hq : SqL X.K H q ys)
  (pa : Paired (fun a x => k.R X.K H x a) a xs) (pb : Paired (fun a x => k.R X.K H x a) b ys) (hA : A.units + (k.d + 1) < cLine) :
  SeqAt.RcAt A s (.ref p) (.ref q) (decide (a = b)) /\ SeqAt.RcNeAt A s (.ref p) (.ref q) (!decide (a = b)) := by
 obtain ⟨us, r1, t1, _⟩ := I.list hp
 obtain ⟨ws, r2, t2, _⟩ := I.list hq
 have l1 := r1.length
 have l2 := r2.length
 have l3 := pa.length
 have l4 := pb.length
 by_cases e : us.length = ws.length
 ·have it := k.items (A := A.in1) I (by show A.units + 1 + k.d < cLine; omega) r1 r2 pa pb
  have z := SeqAt.RcAt.lists (A := A) (e := fun j => decide (a[j]? = b[j]?)) t1.isList t2.isList (by simpa using e) (by omega) it
  have z2 := SeqAt.RcNeAt.lists (A := A) (e := fun j => decide (a[j]? = b[j]?)) t1.isList t2.isList (by simpa using e) (by omega) it
  have e1 : us.toArray.size = a.length := by rw [List.size_toArray]; omega
  rw [e1, decide_lists a b (by omega)] at z z2
  exact ⟨z, z2⟩
 ·have hne : ¬ a = b := fun z => e (by have := congrArg List.length z; omega)
  rw [decide_eq_false hne]
  exact ⟨SeqAt.RcAt.lists_lengths t1.isList t2.isList (by simpa using e) (by omega), SeqAt.RcNeAt.lists_lengths t1.isList t2.isList (by simpa using e) (by omega)⟩
def kLst : Kind (List α) where
 R := fun K H x as => ∃ p xs, x = .ref p /\ SqL K H p xs /\ Paired (fun a x => k.R K H x a) as xs
 d := k.d + 1
 inj := fun {X pins σ H s x a b} I h1 h2 => by
  obtain ⟨p, xs, rfl, hp, pa⟩ := h1
  obtain ⟨q, ys, e, hq, pb⟩ := h2
  cases e
  have e := I.list_inj hp hq
  subst e
  exact paired_inj (F := fun a x => k.R X.K H x a) (fun a b x => k.inj I) pa pb
 rc := fun {X pins σ H s x y v u a b A} I rx ry h1 h2 hA => by
  obtain ⟨p, xs, rfl, hp, pa⟩ := h1
  obtain ⟨q, ys, rfl, hq, pb⟩ := h2
  cases rx
  cases ry
  exact (lst_rc k I hp hq pa pb hA).1
 ne := fun {X pins σ H s x y v u a b A} I rx ry h1 h2 hA => by
  obtain ⟨p, xs, rfl, hp, pa⟩ := h1
  obtain ⟨q, ys, rfl, hq, pb⟩ := h2
  cases rx
  cases ry
  exact (lst_rc k I hp hq pa pb hA).2
 eq := fun {X pins σ H s x y v u a b A} I rx ry h1 h2 hA => by
  obtain ⟨p, xs, rfl, hp, pa⟩ := h1
  obtain ⟨q, ys, rfl, hq, pb⟩ := h2
  cases rx
  cases ry
  by_cases e : p = q
  ·subst e
   have e := I.list_inj hp hq
   subst e
   rw [paired_inj (F := fun a x => k.R X.K H x a) (fun a b x => k.inj I) pa pb, decide_eq_true rfl]
   exact SeqAt.EqAt.same _
  ·exact .of_refs e (lst_rc k I hp hq pa pb hA).1
def Kind.via {β : Type} [DecidableEq β] (f : β -> α) (fi : ∀ a b, f a = f b -> a = b) (R' : PySem.W.Frag -> Hp -> V -> β -> Prop) (im : ∀ {K H x b}, R' K H x b -> k.R K H x (f b)) : Kind β where
 R := R'
 d := k.d
 inj := fun I h1 h2 => fi _ _ (k.inj I (im h1) (im h2))
 rc := fun {X pins σ H s x y v u a b A} I rx ry h1 h2 hA => by
  have z := k.rc (A := A) I rx ry (im h1) (im h2) hA
  rwa [decide_eq_decide.mpr (show f a = f b ↔ a = b from ⟨fi a b, fun e => by rw [e]⟩)] at z
 ne := fun {X pins σ H s x y v u a b A} I rx ry h1 h2 hA => by
  have z := k.ne (A := A) I rx ry (im h1) (im h2) hA
  rwa [decide_eq_decide.mpr (show f a = f b ↔ a = b from ⟨fi a b, fun e => by rw [e]⟩)] at z
 eq := fun {X pins σ H s x y v u a b A} I rx ry h1 h2 hA => by
  have z := k.eq (A := A) I rx ry (im h1) (im h2) hA
  rwa [decide_eq_decide.mpr (show f a = f b ↔ a = b from ⟨fi a b, fun e => by rw [e]⟩)] at z
end
def NumR (K : PySem.W.Frag) (H : Hp) (x : V) (n : Int × Int) : Prop := ∃ p, x = .ref p /\ SqT K H p [.int n.1, .int n.2]
def kNum : Kind (Int × Int) := (kTup kInt).via (fun n => [n.1, n.2]) (fun a b e => by cases a; cases b; simp at e; rw [e.1, e.2]) NumR fun ⟨p, e, h⟩ => ⟨p, _, e, h, .cons rfl (.cons rfl .nil)⟩
def rEqD (K : PySem.W.Frag) : R2 := fun x y H Q => ∃ (α : Type) (_ : DecidableEq α) (k : Kind α) (a b : α), k.d <= 50 /\ k.R K H x a /\ k.R K H y b /\ Q (.bl (decide (a = b))) H
def rNeD (K : PySem.W.Frag) : R2 := fun x y H Q => ∃ (α : Type) (_ : DecidableEq α) (k : Kind α) (a b : α), k.d <= 50 /\ k.R K H x a /\ k.R K H y b /\ Q (.bl (!decide (a = b))) H
theorem op_eqD {X : Cx} (hu : X.A.units + 50 < cLine) : OpR X (compareOp .Eq) (rEqD X.K) := by
 intro pins s σ H x y v u Q I rx ry h
 obtain ⟨α, _, k, a, b, hd, ha, hb, q⟩ := h
 exact k.rc (A := X.A) I rx ry ha hb (by omega) _ _ _ _ ⟨.bl (decide (a = b)), H, I, rfl, q⟩
theorem op_neD {X : Cx} (hu : X.A.units + 50 < cLine) : OpR X (compareOp .NotEq) (rNeD X.K) := by
 intro pins s σ H x y v u Q I rx ry h
 obtain ⟨α, _, k, a, b, hd, ha, hb, q⟩ := h
 exact k.ne (A := X.A) I rx ry ha hb (by omega) _ _ _ _ ⟨.bl (!decide (a = b)), H, I, rfl, q⟩
theorem hu50 {A : Around} {k : Nat} (hr : Room k A) : A.units + 50 < cLine := by have := hr.units; omega

def Inner (H : Hp) (p q : Addr) : Prop := ∃ a b c : Int, H p = some (.lst [.int a, .int b, .int c, .ref q])
def Upto (p : Addr) (H H' : Hp) : Prop := (∀ b o, H b = some o -> b ≠ p -> H' b = some o) /\ ∀ q, Inner H p q -> Inner H' p q
theorem Upto.refl {p : Addr} (H : Hp) : Upto p H H := ⟨fun _ _ h _ => h, fun _ h => h⟩
theorem Upto.trans {p : Addr} {H H1 H2 : Hp} (a : Upto p H H1) (b : Upto p H1 H2) : Upto p H H2 := ⟨fun c o h n => b.1 c o (a.1 c o h n) n, fun q h => b.2 q (a.2 q h)⟩
theorem Inner.inj {H : Hp} {p q q' : Addr} (h : Inner H p q) (h' : Inner H p q') : q = q' := by
 obtain ⟨a, b, c, e⟩ := h
 obtain ⟨a', b', c', e'⟩ := h'
 rw [e] at e'
 have := HO.lst.inj (Option.some.inj e')
 simp at this
 exact this.2.2.2
theorem Upto.set {p q : Addr} {H : Hp} {a b c a' b' c' : Int} (h : H p = some (.lst [.int a, .int b, .int c, .ref q])) : Upto p H (upd H p (.lst [.int a', .int b', .int c', .ref q])) :=
 ⟨fun b u h n => by rw [upd_ne n]; exact h, fun q' h' => by
  rw [(Inner.inj ⟨a, b, c, h⟩ h').symm]
  exact ⟨a', b', c', upd_same⟩⟩
theorem Same.upto {p : Addr} {H H' : Hp} (h : Same H H') : Upto p H H' := ⟨fun b o e _ => h b o e, fun q ⟨a, b, c, e⟩ => ⟨a, b, c, h _ _ e⟩⟩
theorem Same.new {H : Hp} {p : Addr} {o : HO} (h : H p = Option.none) : Same H (upd H p o) := fun b u e => by rw [upd_ne (ne_of_none e h)]; exact e
theorem Same.sqt {K : PySem.W.Frag} {H H' : Hp} {a : Addr} {xs : List V} (e : Same H H') (h : SqT K H a xs) : SqT K H' a xs := by
 rcases h with (h | ⟨o, h⟩) | h
 ·exact .inl (.inl (e _ _ h))
 ·exact .inl (.inr ⟨o, e _ _ h⟩)
 ·exact .inr h
theorem Same.num {K : PySem.W.Frag} {H H' : Hp} {x : V} {n : Int × Int} (e : Same H H') (h : NumR K H x n) : NumR K H' x n := let ⟨p, q, r⟩ := h; ⟨p, q, e.sqt r⟩
section
variable {σ : St} {H : Hp} {D : Ends}
theorem rd_start {t : TS} {σ0 σ : St} {D : Ends} {H : Hp} (e : σ0 = σ) (h : t D σ H) : t D σ0 H := by rw [e]; exact h
theorem rd_seq {t u : TS} (h : t { D with nx := u D } σ H) : tSeq t u D σ H := h
theorem rd_next (h : D.nx σ H) : tNext D σ H := h
theorem rd_asg {te : TE} {g : TG} (h : te σ H fun x H1 => g x σ H1 D.nx) : tAsg te g D σ H := h
theorem rd_gname {i : Nat} {v : V} {Q : St -> Hp -> Prop} (h : Q (σ.set i (some v)) H) : gName i v σ H Q := h
theorem rd_ret {te : TE} (h : te σ H D.rt) : tRet te D σ H := h
theorem rd_ifS {c : TT} {t u : TS} (h : c σ H fun b H1 => if b = true then t D σ H1 else u D σ H1) : tIfS c t u D σ H := h
theorem rd_drop {te : TE} (h : te σ H fun _ H1 => D.nx σ H1) : tDrop te D σ H := h
theorem rd_par {i j : Nat} {ta : TA} (h : ta σ H fun vs H1 => ∃ v w, vs = [v, w] /\ D.nx ((σ.set i (some v)).set j (some w)) H1) : tPar i j ta D σ H := h
theorem rd_augS {to ti te : TE} {tget : V -> V -> Hp -> VK -> Prop} {tip : TIp} {tset : TSet}
  (h : to σ H fun o H1 => ti σ H1 fun i H2 => tget o i H2 fun x H3 => te σ H3 fun y H4 => tip x y H4 fun z H5 => tset o i z H5 fun H6 => D.nx σ H6) : tAugS to ti te tget tip tset D σ H := h
theorem rd_ipI {f : Int -> Int -> Int} {i j : Int} {Q : VK} (h : Q (.int (f i j)) H) : ipI f (.int i) (.int j) H Q := ⟨i, j, rfl, rfl, h⟩
theorem rd_for {wi : TI} {g : TG} {tb : TS} (h : wi σ H fun J H1 => ∃ W : Nat -> Nat -> St -> Hp -> Prop, (∃ m, W 0 m σ H1) /\ ∀ i m σ H, W i m σ H →
  (J.stop i H /\ D.nx σ H) ∨ (J.go i H /\ ∃ N : St -> Hp -> Prop, (∀ σ' H', N σ' H' -> ∃ m', m' < m /\ W (i + 1) m' σ' H') /\ ∀ x H', J.yld i H x H' -> g x σ H' fun σ2 H2 => tb { D with nx := N, ct := N, bk := D.nx } σ2 H2)) : tFor wi g tb D σ H := h
variable {Q : VK} {QA : List V -> Hp -> Prop} {QB : Bool -> Hp -> Prop}
theorem rd_var {i : Nat} {v : V} (e : σ[i]? = some (some v)) (h : Q v H) : tVar i σ H Q := ⟨v, e, h⟩
theorem rd_c {v : V} (h : Q v H) : tC v σ H Q := h
theorem rd_op {r : R2} {ta tb : TE} (h : ta σ H fun x H1 => tb σ H1 fun y H2 => r x y H2 Q) : tOp r ta tb σ H Q := h
theorem rd_un {r : V -> Hp -> VK -> Prop} {ta : TE} (h : ta σ H fun x H1 => r x H1 Q) : tUn r ta σ H Q := h
theorem rd_I0 {g : Int -> Int -> V} {i j : Int} (h : Q (g i j) H) : rI0 g (.int i) (.int j) H Q := ⟨i, j, rfl, rfl, h⟩
theorem rd_I {C : Int -> Int -> Prop} {g : Int -> Int -> V} {i j : Int} (hc : C i j) (h : Q (g i j) H) : rI C g (.int i) (.int j) H Q := ⟨i, j, rfl, rfl, hc, h⟩
theorem rd_U {g : Int -> V} {i : Int} (h : Q (g i) H) : rU g (.int i) H Q := ⟨i, rfl, h⟩
theorem rd_eqI {i j : Int} (h : Q (.bl (decide (i = j))) H) : rEq (.int i) (.int j) H Q := ⟨rfl, by
 have e : decide (V.int i = V.int j) = decide (i = j) := by simp
 rw [e]; exact h⟩
theorem rd_neI {i j : Int} (h : Q (.bl (!decide (i = j))) H) : rNe (.int i) (.int j) H Q := ⟨rfl, by
 have e : decide (V.int i = V.int j) = decide (i = j) := by simp
 rw [e]; exact h⟩
theorem rd_test {t : TE} (h : t σ H fun x H' => ∃ k, x = .bl k /\ QB k H') : tTest t σ H QB := h
theorem rd_tB {t : TE} (h : t σ H fun x H' => ∃ k, x = .bl k /\ QB k H') : tB t σ H QB := h
theorem rd_and {t u : TT} (h : t σ H fun c H1 => if c = true then u σ H1 QB else QB false H1) : tAnd t u σ H QB := h
theorem rd_or {t u : TT} (h : t σ H fun c H1 => if c = true then QB true H1 else u σ H1 QB) : tOr t u σ H QB := h
theorem rd_not {t : TT} (h : t σ H fun c H1 => QB (!c) H1) : tNot t σ H QB := h
theorem rd_andV {t u : TE} (h : t σ H fun x H1 => ∃ c, x = .bl c /\ if c = true then u σ H1 Q else Q (.bl false) H1) : tAndV t u σ H Q := h
theorem rd_notV {t : TE} (h : t σ H fun x H1 => ∃ c, x = .bl c /\ Q (.bl (!c)) H1) : tNotV t σ H Q := h
theorem rd_yes (h : QB true H) : tYes σ H QB := h
theorem rd_nil (h : QA [] H) : tNil σ H QA := h
theorem rd_cons {ta : TE} {tr : TA} (h : ta σ H fun x H1 => tr σ H1 fun xs H2 => QA (x :: xs) H2) : tCons ta tr σ H QA := h
theorem rd_call {sp : Sp} {E : XK} {t : TA} (h : t σ H fun vs H1 => sp vs H1 Q E) : tCall sp [] E t σ H Q := by
 have e : (fun vs H1 => sp (vs ++ []) H1 Q E) = fun vs H1 => sp vs H1 Q E := by funext vs H1; rw [List.append_nil]
 show t σ H fun vs H1 => sp (vs ++ []) H1 Q E
 rw [e]; exact h
theorem rd_cb {r : List V -> Hp -> VK -> Prop} {t : TA} (h : t σ H fun vs H1 => r vs H1 Q) : tCB r t σ H Q := h
theorem rd_ixT {K : PySem.W.Frag} {p : Addr} {xs : List V} {i : Int} {v : V} (hx : SqT K H p xs) (e : atI xs i = some v) (h : Q v H) : rIxT K (.ref p) (.int i) H Q := ⟨p, xs, i, v, rfl, rfl, hx, e, h⟩
theorem rd_ixL {K : PySem.W.Frag} {p : Addr} {xs : List V} {i : Int} (hx : SqL K H p xs) {v : V} (e : atI xs i = some v) (h : Q v H) : rIxL K (.ref p) (.int i) H Q := ⟨p, xs, i, v, rfl, rfl, hx, e, h⟩
theorem rd_getL {K : PySem.W.Frag} {p : Addr} {xs : List V} {i : Int} (hx : SqL K H p xs) {v : V} (e : atI xs i = some v) (h : Q v H) : rGetL K (.ref p) (.int i) H Q := ⟨p, xs, i, v, rfl, rfl, hx, e, h⟩
theorem rd_setL {QH : Hp -> Prop} {p : Addr} {xs : List V} {i : Int} {v : V} {j : Nat} {ys : List V} (hx : H p = some (.lst xs)) (e : ixN xs.length i = some j) (ey : xs.set j v = ys) (h : QH (upd H p (.lst ys))) : rSetL (.ref p) (.int i) v H QH := ⟨p, xs, i, j, rfl, rfl, hx, e, by rw [ey]; exact h⟩
theorem rd_gsub {to ti : TE} {t : TSet} {v : V} {QS : St -> Hp -> Prop} (h : to σ H fun o H1 => ti σ H1 fun i H2 => t o i v H2 fun H3 => QS σ H3) : gSub to ti t v σ H QS := h
theorem rd_gcons {t : TG} {u : TGs} {v : V} {r : List V} {QS : St -> Hp -> Prop} (h : t v σ H fun σ' H' => u r σ' H' QS) : gCons t u (v :: r) σ H QS := ⟨v, r, rfl, h⟩
theorem rd_gnil {QS : St -> Hp -> Prop} (h : QS σ H) : gNil [] σ H QS := ⟨rfl, h⟩
theorem rd_gtup {K : PySem.W.Frag} {n : Nat} {t : TGs} {a : Addr} {xs : List V} {QS : St -> Hp -> Prop} (hx : SqT K H a xs) (hl : xs.length = n) (h : t xs σ H QS) : gTup K n t (.ref a) σ H QS := ⟨a, xs, rfl, hx, hl, h⟩
theorem rd_sl {r : V -> Option Int -> Option Int -> Hp -> VK -> Prop} {te : TE} {tl th : TO} (h : te σ H fun x H1 => tl σ H1 fun l H2 => th σ H2 fun u H3 => r x l u H3 Q) : tSl r te tl th σ H Q := h
theorem rd_noPart {QO : Option Int -> Hp -> Prop} (h : QO none H) : tNoPart σ H QO := h
theorem rd_part {t : TE} {QO : Option Int -> Hp -> Prop} (h : t σ H fun x H1 => ∃ i, x = .int i /\ QO (some i) H1) : tPart t σ H QO := h
variable {R : It -> Hp -> Prop} {K : PySem.W.Frag}
theorem rd_iList {tl : TE} (h : tl σ H fun x H1 => ∃ a, x = .ref a /\ (∃ xs, SqL K H1 a xs) /\ R (Itl K a) H1) : iList K tl σ H R := h
theorem rd_iRng1 {ta : TA} (h : ta σ H fun vs H1 => ∃ j : Int, vs = [.int j] /\ -(2 ^ 62) <= j /\ j < 2 ^ 62 /\ R (Itr 0 j.toNat) H1) : iRng1 ta σ H R := h
theorem rd_iRng2 {ta : TA} (h : ta σ H fun vs H1 => ∃ i j : Int, vs = [.int i, .int j] /\ (-(2 ^ 62) <= i /\ i < 2 ^ 62 /\ -(2 ^ 62) <= j /\ j < 2 ^ 62) /\ R (Itr i (j - i).toNat) H1) : iRng2 ta σ H R := h
theorem rd_comp {wi : TI} {k : Nat} {cap : List Nat} {g : TG} {tf : TT} {te : TE} {σ₀ : St} (e : st0 k cap σ = σ₀) (h : wi σ H fun J H1 => CompW J σ₀ g tf te Q H1) : tComp wi k cap g tf te σ H Q := by
 unfold tComp; rw [e]; exact h
theorem rd_turn {g : TG} {tf : TT} {te : TE} {x : V} {NY : V -> Hp -> Prop} {NN : Hp -> Prop} (h : g x σ H fun σ2 H2 => tf σ2 H2 fun b H3 => if b = true then te σ2 H3 NY else NN H3) : tTurn σ g tf te x H NY NN := h
theorem rd_bm {T : String} {r : V -> List V -> Hp -> VK -> Prop} {to : TE} {t : TA} (h : to σ H fun x H1 => tyV K T x H1 /\ t σ H1 fun xs H2 => r x xs H2 Q) : tBM K T r to t σ H Q := h
def NewT (Q : VK) (xs : List V) (H : Hp) : Prop := xs.length <= sizeLine /\ ∀ p, H p = none -> Q (.ref p) (upd H p (.tup xs))
def NewL (Q : VK) (xs : List V) (H : Hp) : Prop := xs.length <= sizeLine /\ ∀ p, H p = none -> Q (.ref p) (upd H p (.lst xs))
theorem rd_tup {t : TA} (h : t σ H (NewT Q)) : tTup t σ H Q := h
theorem rd_lst {t : TA} (h : t σ H (NewL Q)) : tLst t σ H Q := h
theorem short_ok {n : Nat} (h : Nat.ble n 1000 = true) : n <= sizeLine := Nat.le_of_lt (small1000 (Nat.le_of_ble_eq_true h))
theorem rd_newT {xs : List V} (h : ∀ p H', Same H H' -> H' p = some (.tup xs) -> Q (.ref p) H') (hl : Nat.ble xs.length 1000 = true := by rfl) : NewT Q xs H :=
 ⟨short_ok hl, fun p hp => h p _ (Same.new hp) upd_same⟩
theorem rd_newL {xs : List V} (h : ∀ p H', Same H H' -> H p = none -> H' p = some (.lst xs) -> Q (.ref p) H') (hl : Nat.ble xs.length 1000 = true := by rfl) : NewL Q xs H :=
 ⟨short_ok hl, fun p hp => h p _ (Same.new hp) hp upd_same⟩
theorem iteNT {A B : Prop} (h : B) : if (!true) = true then A else B := iteF h
theorem iteNF {A B : Prop} (h : A) : if (!false) = true then A else B := iteT h
def WB (tb : TS) (D : Ends) (Pv : St -> Hp -> Prop) (μ : St -> Hp -> Nat) (n : Nat) (σ : St) (H : Hp) : Prop := ∃ N : St -> Hp -> Prop, (∀ σ' H', N σ' H' -> ∃ m', m' < n /\ (m' = μ σ' H' /\ Pv σ' H')) /\ tb { D with nx := N, ct := N, bk := D.nx } σ H
theorem rd_wb {tb : TS} {Pv : St -> Hp -> Prop} {μ : St -> Hp -> Nat} {n : Nat} (h : tb { D with nx := fun σ' H' => Pv σ' H' /\ μ σ' H' < n, ct := fun σ' H' => Pv σ' H' /\ μ σ' H' < n, bk := D.nx } σ H) : WB tb D Pv μ n σ H :=
 ⟨_, fun σ' H' ⟨p, l⟩ => ⟨_, l, rfl, p⟩, h⟩
theorem while_i {c : TT} {tb : TS} (Pv : St -> Hp -> Prop) (μ : St -> Hp -> Nat) (h0 : Pv σ H) (hs : ∀ σ H, Pv σ H -> c σ H fun b H1 => if b = true then WB tb D Pv μ (μ σ H) σ H1 else D.nx σ H1) : tWhile c tb D σ H := by
 refine ⟨fun m σ H => m = μ σ H /\ Pv σ H, ⟨_, rfl, h0⟩, ?_⟩
 rintro m σ H ⟨rfl, p⟩
 exact hs σ H p
end
end L2
namespace L2
open PySem PySem.Spec PyProof.Rows Nm

def Bag (H : Hp) (p : Addr) : Prop := ∃ (q : Addr) (a b c : Int) (cs : List Int), H p = some (.lst [.int a, .int b, .int c, .ref q]) /\ H q = some (.lst (cs.map V.int)) /\ 0 <= a /\ 0 <= c /\ c <= (cs.length : Int) /\ ∀ x ∈ cs, (0 : Int) <= x
theorem bag_apart {H : Hp} {p q : Addr} {a b c : Int} {cs : List Int} (hp : H p = some (.lst [.int a, .int b, .int c, .ref q])) (hq : H q = some (.lst (cs.map V.int))) : q ≠ p := fun e => by
 rw [e, hp] at hq
 have h := HO.lst.inj (Option.some.inj hq)
 cases cs with
 | nil => cases h
 | cons x1 cs => cases cs with
  | nil => cases h
  | cons x2 cs => cases cs with
   | nil => cases h
   | cons x3 cs => cases cs with
    | nil => cases h
    | cons x4 cs => simp at h
theorem Bag.same {H H' : Hp} {p : Addr} (h : Bag H p) (e : Same H H') : Bag H' p := let ⟨q, a, b, c, cs, h1, h2, r⟩ := h; ⟨q, a, b, c, cs, e _ _ h1, e _ _ h2, r⟩
theorem Upto.tup {H H' : Hp} {p r : Addr} {xs : List V} (u : Upto p H H') (B : Bag H p) (h : H r = some (.tup xs)) : H' r = some (.tup xs) := by
 obtain ⟨q, a, b, c, cs, h1, _⟩ := B
 exact u.1 r _ h fun e => by rw [e, h1] at h; cases h
theorem Upto.other {H H' : Hp} {p r : Addr} {o : HO} (u : Upto p H H') (n : r ≠ p) (h : H r = some o) : H' r = some o := u.1 r _ h n

theorem Bag.inner {H : Hp} {p : Addr} (h : Bag H p) : ∃ q, Inner H p q /\ ∃ xs, H q = some (.lst xs) := let ⟨q, a, b, c, cs, h1, h2, _⟩ := h; ⟨q, ⟨a, b, c, h1⟩, _, h2⟩
theorem Bag.upd {H : Hp} {p q r : Addr} {o : HO} (h : Bag H p) (hi : Inner H p q) (n1 : r ≠ p) (n2 : r ≠ q) : Bag (L2.upd H r o) p := by
 obtain ⟨q', a, b, c, cs, h1, h2, z⟩ := h
 have e : q' = q := Inner.inj ⟨a, b, c, h1⟩ hi
 subst e
 exact ⟨q', a, b, c, cs, by rw [upd_ne n1.symm]; exact h1, by rw [upd_ne n2.symm]; exact h2, z⟩
theorem Inner.upd {H : Hp} {p q r : Addr} {o : HO} (hi : Inner H p q) (n1 : r ≠ p) : Inner (L2.upd H r o) p q := let ⟨a, b, c, h⟩ := hi; ⟨a, b, c, by rw [upd_ne n1.symm]; exact h⟩
def sp_take : Sp := fun vs H Q _ => ∃ p n, vs = [.ref p, .int n] /\ Bag H p /\ 0 < n /\ n < 2 ^ 64 /\ ∀ v H', 0 <= v -> v < n -> Bag H' p -> Upto p H H' -> Q (.int v) H'
def sp_bag (K : PySem.W.Frag) : Sp := fun vs H Q _ => ∃ (a : Addr) (ns : List Int), vs = [.ref a] /\ SqL K H a (ns.map V.int) /\ ns.length <= 63 /\ ∀ p H', H p = none -> Bag H' p -> Same H H' -> Q (.ref p) H'
def sp_law (K : PySem.W.Frag) : Sp := fun vs H Q _ => ∃ (a : Addr) (ns : List Int), vs = [.ref a] /\ SqL K H a (ns.map V.int) /\ ns.length <= 63 /\ ∀ H', Q (.bl true) H'
def sp_low : Sp := fun vs H Q _ => ∃ t b, vs = [.int t, .int b] /\ 0 < b /\ Sz 8999 b /\ ∀ r H', Same H H' -> H' r = some (.tup [.int (lo t b), .int (hi t b)]) -> Q (.ref r) H'
def sp_cd : Sp := fun vs H Q _ => ∃ a b, vs = [.int a, .int b] /\ Q (.int (g a b)) H
def sp_lowest : Sp := fun vs H Q _ => ∃ t b, vs = [.int t, .int b] /\ b ≠ 0 /\ Sz 8999 b /\ ∀ r H', Same H H' -> H' r = some (.tup [.int (lo (if b < 0 then -t else t) (if b < 0 then -b else b)), .int (hi (if b < 0 then -t else t) (if b < 0 then -b else b))]) -> Q (.ref r) H'
def fPlus (a b c d : Int) : Int := a * d + c * b
def fMinus (a b c d : Int) : Int := a * d - c * b
def fTimes (a _b c _d : Int) : Int := a * c
def sp_ar (K : PySem.W.Frag) (f : Int -> Int -> Int -> Int -> Int) : Sp := fun vs H Q _ => ∃ p q a b c d, vs = [.ref p, .ref q] /\ SqT K H p [.int a, .int b] /\ SqT K H q [.int c, .int d] /\ 0 < b /\ 0 < d /\ Sz 4000 a /\ Sz 4000 b /\ Sz 4000 c /\ Sz 4000 d ∧
 ∀ r H', Same H H' -> H' r = some (.tup [.int (lo (f a b c d) (b * d)), .int (hi (f a b c d) (b * d))]) -> Q (.ref r) H'
def sp_quot (K : PySem.W.Frag) : Sp := fun vs H Q _ => ∃ p q a b c d, vs = [.ref p, .ref q] /\ SqT K H p [.int a, .int b] /\ SqT K H q [.int c, .int d] /\ 0 < b /\ 0 < d /\ c ≠ 0 /\ Sz 4000 a /\ Sz 4000 b /\ Sz 4000 c /\ Sz 4000 d ∧
 ∀ r H', Same H H' -> H' r = some (.tup [.int (lo (if c < 0 then 0 - a * d else a * d) (if c < 0 then 0 - b * c else b * c)), .int (hi (if c < 0 then 0 - a * d else a * d) (if c < 0 then 0 - b * c else b * c))]) -> Q (.ref r) H'
theorem paired_app {α β : Type} {F : α -> β -> Prop} : ∀ {l1 l1' : List α} {l2 l2' : List β}, Paired F l1 l2 -> Paired F l1' l2' -> Paired F (l1 ++ l1') (l2 ++ l2')
 | _, _, _, _, .nil, h => h
 | _, _, _, _, .cons r t, h => .cons r (paired_app t h)
end L2
namespace L2
open PySem PySem.Spec PyProof.Rows Nm

theorem ne_cls {h : Heap} {a b : Addr} {o u : Obj} (ha : h.get? a = some o) (hb : h.get? b = some u) (hc : o.cls ≠ u.cls) : a ≠ b := fun e => by
 subst e
 rw [ha] at hb
 cases hb
 exact hc rfl
theorem ty_ne {a b : String} (h : a ≠ b) : Value.type a ≠ Value.type b := fun e => h (by injection e)
theorem zip_apart {h : Heap} {z TI TO i1 i2 l1 l2 : Addr} {f0 a b : Value} {k1 k2 : Nat} {xs ys : Array Value} (hz : IsZip h z TI TO f0) (hTI : IsPair h TI (.ref i1) (.ref i2)) (hTO : IsPair h TO a b)
  (h1 : h.IsListIter i1 l1 k1) (h2 : h.IsListIter i2 l2 k2) (hl1 : h.IsList l1 xs) (hl2 : h.IsList l2 ys) (hT : TI ≠ TO) (hi : i1 ≠ i2) : ZipApart z TI TO i1 i2 l1 l2 := by
 obtain ⟨o1, g1, c1, _⟩ := h1
 obtain ⟨o2, g2, c2, _⟩ := h2
 obtain ⟨p1, q1, d1, _⟩ := hl1
 obtain ⟨p2, q2, d2, _⟩ := hl2
 refine ⟨ne_cls hTI hz ?_, ne_cls hTO hz ?_, ne_cls g1 hz ?_, ne_cls g2 hz ?_, hT, ne_cls hTI g1 ?_, ne_cls hTI g2 ?_, ne_cls hTO g1 ?_, ne_cls hTO g2 ?_, hi, ne_cls q1 hz ?_, ne_cls q1 hTO ?_, ne_cls q1 g1 ?_, ne_cls q1 g2 ?_, ne_cls q2 hz ?_, ne_cls q2 hTO ?_, ne_cls q2 g1 ?_, ne_cls q2 g2 ?_⟩
 all_goals first
  | (rw [d1]; first | (rw [c1]; exact ty_ne (by decide)) | (rw [c2]; exact ty_ne (by decide)) | exact ty_ne (by decide))
  | (rw [d2]; first | (rw [c1]; exact ty_ne (by decide)) | (rw [c2]; exact ty_ne (by decide)) | exact ty_ne (by decide))
  | (rw [c1]; exact ty_ne (by decide))
  | (rw [c2]; exact ty_ne (by decide))
  | exact ty_ne (by decide)

def Itz (K : PySem.W.Frag) (l1 l2 : Addr) : It :=
  ⟨fun i H => ∃ xs ys x y, SqL K H l1 xs ∧ SqL K H l2 ys ∧ xs[i]? = some x ∧ ys[i]? = some y,
   fun i H v H' => ∃ p x y, v = .ref p ∧ H p = none ∧ H' = upd H p (.tup [x, y]) ∧ (∀ xs, SqL K H l1 xs → xs[i]? = some x) ∧ ∀ ys, SqL K H l2 ys → ys[i]? = some y,
   fun i H => ∃ xs ys, SqL K H l1 xs ∧ SqL K H l2 ys ∧ (xs.length ≤ i ∨ ys.length ≤ i)⟩
def tnZ (z TI TO i1 i2 l1 l2 : Addr) (i : Nat) (h : Heap) : Prop := IsZip h z TI TO .none /\ IsPair h TI (.ref i1) (.ref i2) /\ (∃ a b, IsPair h TO a b) /\ h.IsListIter i1 l1 i /\ h.IsListIter i2 l2 i
theorem turn_zip {P : Program} {w : World} {K : PySem.W.Frag} {elts : List Expr} {kk : Nat} {tpos : Pos} (z TI TO i1 i2 l1 l2 : Addr) (hT : TI ≠ TO) (hi : i1 ≠ i2) : Turn P w K (.Tuple elts kk tpos) (Itz K l1 l2) [z, TI, TO, i1, i2] z (tnZ z TI TO i1 i2 l1 l2) where
 mem := by simp
 obj := fun i h st b hb => by
  obtain ⟨hz, hTI, ⟨a, c, hTO⟩, ⟨o1, g1, c1, d1⟩, ⟨o2, g2, c2, d2⟩⟩ := st
  simp only [List.mem_cons, List.not_mem_nil, or_false] at hb
  rcases hb with rfl | rfl | rfl | rfl | rfl
  ·exact ⟨_, hz, fun v q => nomatch q⟩
  ·exact ⟨_, hTI, fun v q => nomatch q⟩
  ·exact ⟨_, hTO, fun v q => nomatch q⟩
  ·exact ⟨o1, g1, fun v q => by rw [d1] at q; cases q⟩
  ·exact ⟨o2, g2, fun v q => by rw [d2] at q; cases q⟩
 keep := fun i h h' st k => by
  obtain ⟨hz, hTI, ⟨a, c, hTO⟩, h1, h2⟩ := st
  exact ⟨k z (by simp) _ hz, k TI (by simp) _ hTI, ⟨a, c, k TO (by simp) _ hTO⟩, h1.at fun o e => k i1 (by simp) o e, h2.at fun o e => k i2 (by simp) o e⟩
 item := by
  intro X hP hw hK hc i pins s σ H E I hf st hg
  subst hP hw hK
  obtain ⟨hz, hTI, ⟨a, c, hTO⟩, h1, h2⟩ := st
  obtain ⟨xs, ys, x, y, qx, qy, ex, ey⟩ := hg
  obtain ⟨us, rx, px, _⟩ := I.list qx
  obtain ⟨ws, ry, py, _⟩ := I.list qy
  obtain ⟨u, eu, ru⟩ := rx.get ex
  obtain ⟨v, ev, rv⟩ := ry.get ey
  have D := zip_apart hz hTI hTO h1 h2 px.isList py.isList hT hi
  refine wpAny_pyNext_zip_item D hz hTI hTO h1 h2 px.isList py.isList (x := u) (y := v) (by simpa using eu) (by simpa using ev) fun h' a1 a2 a3 a4 a5 a6 hk => ?_
  refine ⟨_, rfl, wpAny_letOwnedTupleGo_zip a1 fun h'' hz'' hs => ?_⟩
  have hT0 : H s.heap.objs.size = none := I.hok.fresh (Nat.le_refl _)
  have zne : s.heap.objs.size ≠ z := Nat.ne_of_gt (Heap.lt_size hz)
  have up : ∀ b o, b ∉ [z, TO, i1, i2] -> s.heap.get? b = some o -> h''.get? b = some o := fun b o hb e => by
   simp only [List.mem_cons, List.not_mem_nil, or_false, not_or] at hb
   exact (hs.2 b hb.1).trans (hk b o hb.1 hb.2.1 hb.2.2.1 hb.2.2.2 e)
  have fx : ∀ b ∈ [z, TO, i1, i2], FpOk X pins H b := fun b hb => hf b (by
   simp only [List.mem_cons, List.not_mem_nil, or_false] at hb ⊢
   rcases hb with rfl | rfl | rfl | rfl <;> simp)
  have nx : ∀ b o, H b = some o -> b ∉ [z, TO, i1, i2] := fun b o e hb => by
   have := (fx b hb).1
   rw [this] at e; cases e
  have nT : ∀ {b : Addr} {o : HO}, H b = some o -> b ≠ s.heap.objs.size := fun e q => by rw [q, hT0] at e; cases e
  have tup : h''.get? s.heap.objs.size = some { cls := .type "tuple", data := .seq #[u, v] } := (hs.2 _ zne).trans a5
  have I2 : Inv X pins σ (upd H s.heap.objs.size (.tup [x, y])) { s with heap := h'' } := by
   refine I.step (g' := s.gens) (d' := s.drawn) (t' := s.toks) (ch := [z, TO, i1, i2]) (fun b hb => ?_) (fun b o _ _ hb e _ => up b o hb e) (fun b o _ _ hb e _ => ⟨o.slots, up b o hb e⟩) (fun b o hb e n => ?_)
    (fun b o hb e => ⟨o, up b o hb e⟩) (fun b q e => by rw [upd_ne (nT e)]; exact e) (fun b o q e => by rw [upd_ne (nT e)]; exact e) (fun b q e => ⟨#[], by rw [upd_ne (nT e), e]; simp⟩) (fun m hm => ?_) (fun b o e => ?_) I.bare
   ·obtain ⟨_, f1, _, f3, f4, f5⟩ := fx b hb
    exact ⟨f3, f1, f4, f5⟩
   ·rw [upd_ne (Nat.ne_of_lt (Heap.lt_size e))]; exact n
   ·obtain ⟨o, es, ep, ho, r⟩ := hm
    exact ⟨o, es, ep, up _ o (fun z => (fx _ z).2.1 rfl) ho, r⟩
   ·by_cases hb : b = s.heap.objs.size
    ·subst hb
     rw [upd_same] at e
     cases e
     exact ⟨short_ok rfl, [u, v], .cons ru (.cons rv .nil), ⟨_, tup, rfl, _, rfl⟩⟩
    ·rw [upd_ne hb] at e
     refine (I.hok b o e).stay (fun c v' hc q => up c v' ?_ q) (fun c q => by rw [upd_ne (nT q)]; exact q) fun c xs q => by rw [upd_ne (nT q)]; exact q
     rcases hc with rfl | hc
     ·exact nx _ _ e
     ·exact nx _ _ hc
  refine ⟨.ref s.heap.objs.size, _, I2, rfl, ⟨_, x, y, rfl, hT0, rfl, fun xs' q => by rw [I.list_inj q qx]; exact ex, fun ys' q => by rw [I.list_inj q qy]; exact ey⟩, ?_, fun b hb => ?_⟩
  ·refine ⟨hz'', (hs.2 _ D.TIz).trans (hk _ _ D.TIz D.TITO D.TIi1 D.TIi2 hTI), ⟨_, _, (hs.2 _ D.TOz).trans a2⟩, a3.at fun o e => (hs.2 _ D.i1z).trans e, a4.at fun o e => (hs.2 _ D.i2z).trans e⟩
  ·obtain ⟨o, e, _⟩ : ∃ o, s.heap.get? b = some o /\ True := by
    obtain ⟨o1, g1, _⟩ := h1
    obtain ⟨o2, g2, _⟩ := h2
    simp only [List.mem_cons, List.not_mem_nil, or_false] at hb
    rcases hb with rfl | rfl | rfl | rfl | rfl
    ·exact ⟨_, hz, trivial⟩
    ·exact ⟨_, hTI, trivial⟩
    ·exact ⟨_, hTO, trivial⟩
    ·exact ⟨_, g1, trivial⟩
    ·exact ⟨_, g2, trivial⟩
   rw [upd_ne (Nat.ne_of_lt (Heap.lt_size e))]
   exact (hf b hb).1
 done := by
  intro X hP hw hK hc i pins s σ H E I hf st hg
  subst hP hw hK
  obtain ⟨hz, hTI, ⟨a, c, hTO⟩, h1, h2⟩ := st
  obtain ⟨xs, ys, qx, qy, hend⟩ := hg
  obtain ⟨us, rx, px, _⟩ := I.list qx
  obtain ⟨ws, ry, py, _⟩ := I.list qy
  have lx := rx.length
  have ly := ry.length
  have D := zip_apart hz hTI hTO h1 h2 px.isList py.isList hT hi
  refine wpAny_pyNext_zip_end (I.ok.hd hc) D hz hTI hTO h1 h2 px.isList py.isList (by
   rcases hend with q | q
   ·exact .inl (by simp; omega)
   ·exact .inr (by simp; omega)) fun h' hk => ⟨rfl, ?_⟩
  have up : ∀ b o, b ∉ [z, TO, i1, i2] -> s.heap.get? b = some o -> h'.get? b = some o := fun b o hb e => by
   simp only [List.mem_cons, List.not_mem_nil, or_false, not_or] at hb
   exact hk b o hb.1 hb.2.1 hb.2.2.1 hb.2.2.2 e
  have fx : ∀ b ∈ [z, TO, i1, i2], FpOk X pins H b := fun b hb => hf b (by
   simp only [List.mem_cons, List.not_mem_nil, or_false] at hb ⊢
   rcases hb with rfl | rfl | rfl | rfl <;> simp)
  have nx : ∀ b o, H b = some o -> b ∉ [z, TO, i1, i2] := fun b o e hb => by
   have := (fx b hb).1
   rw [this] at e; cases e
  refine I.step (g' := s.gens) (d' := s.drawn) (t' := s.toks) (ch := [z, TO, i1, i2]) (fun b hb => ?_) (fun b o _ _ hb e _ => up b o hb e) (fun b o _ _ hb e _ => ⟨o.slots, up b o hb e⟩) (fun b o hb e n => n)
   (fun b o hb e => ⟨o, up b o hb e⟩) (fun b q e => e) (fun b o q e => e) (fun b q e => ⟨#[], by rw [e]; simp⟩) (fun m hm => ?_) (fun b o e => ?_) I.bare
  ·obtain ⟨_, f1, _, f3, f4, f5⟩ := fx b hb
   exact ⟨f3, f1, f4, f5⟩
  ·obtain ⟨o, es, ep, ho, r⟩ := hm
   exact ⟨o, es, ep, up _ o (fun z => (fx _ z).2.1 rfl) ho, r⟩
  ·refine (I.hok b o e).stay (fun c v' hc q => up c v' ?_ q) (fun c q => q) fun c xs q => q
   rcases hc with rfl | hc
   ·exact nx _ _ e
   ·exact nx _ _ hc
 self := fun _ _ _ _ _ st h => wpAny_pyIter_zip st.1 h

section
variable {X : Cx}
def iZip (K : PySem.W.Frag) (ta : TA) : TI := fun σ H R => ta σ H fun vs H1 => ∃ l1 l2, vs = [.ref l1, .ref l2] /\ (∃ xs, SqL K H1 l1 xs) /\ (∃ ys, SqL K H1 l2 ys) /\ R (Itz K l1 l2) H1
theorem pi_zip2 {a b : Expr} {ta : TA} {p pos tpos : Pos} {elts : List Expr} {kk : Nat} (hg : Gl X "zip") (hm : X.mg "zip" = none) (ha : PA X [a, b] ta) (hs : starEach [a, b] X.env = [(false, eval a X.env), (false, eval b X.env)] := by rfl) (hs2 : starEach [b] X.env = [(false, eval b X.env)] := by rfl) :
  PI X (.Tuple elts kk tpos) (.Call (.Name "zip" p) [a, b] [] pos) (iZip X.K ta) := by
 intro pins s σ H R I h
 refine Call_ (ld_blt I hg hm boot_zip (PyProof.Rows.callWith_type1 (thn (ha pos pins s σ H _ I h) fun us s1 ⟨vs, H1, I1, r1, q1⟩ => ?_) (by rw [hs, hs2]) (by rw [hs2]; rfl)))
 obtain ⟨l1, l2, e, ⟨xs, qx⟩, ⟨ys, qy⟩, q⟩ := q1
 subst e
 obtain ⟨u, v, rfl, ru, rv⟩ := vals2 r1
 cases ru
 cases rv
 obtain ⟨us, rx, px, _⟩ := I1.list qx
 obtain ⟨ws, ry, py, _⟩ := I1.list qy
 refine call_zip_2 px.isList py.isList fun h' a1 a2 a3 a4 a5 a6 hk => wpAny_pyIter_zip a1 ?_
 have I2 : Inv X pins σ H1 { s1 with heap := h' } := I1.kept (t' := s1.toks) hk
 refine ⟨_, [s1.heap.objs.size + 4, s1.heap.objs.size + 2, s1.heap.objs.size + 3, s1.heap.objs.size, s1.heap.objs.size + 1], _, _, H1, rfl, I2, turn_zip (s1.heap.objs.size + 4) (s1.heap.objs.size + 2) (s1.heap.objs.size + 3) s1.heap.objs.size (s1.heap.objs.size + 1) l1 l2 (Nat.ne_of_lt (Nat.lt_succ_self _)) (Nat.ne_of_lt (Nat.lt_succ_self _)), ⟨a1, a2, ⟨_, _, a3⟩, a4, a5⟩, fun b hb => ?_, q⟩
 have hb' : s1.heap.objs.size <= b := by
  simp only [List.mem_cons, List.not_mem_nil, or_false] at hb
  rcases hb with rfl | rfl | rfl | rfl | rfl <;> first | exact Nat.le_add_right _ _ | exact Nat.le_refl _
 exact I1.fpOk hb' (I1.hok.fresh hb')

theorem call_all (hc : X.calm = true) : CallR X (.builtin "all") (fun xs H Q => ∃ (p : Addr) (bs : List Bool), xs = [.ref p] /\ SqL X.K H p (bs.map V.bl) /\ Q (.bl (bs.all id)) H) := by
 intro pins s σ H xs us Q I r h
 obtain ⟨p, bs, rfl, hp, q⟩ := h
 obtain ⟨u, rfl, ru⟩ := vals1 r
 cases ru
 obtain ⟨vs, rv, pl, hz⟩ := I.list hp
 have hb : PyProof.Rows.LSm.BoolsAre vs bs := by
  clear q hp pl hz
  induction bs generalizing vs with
  | nil => cases rv; exact .nil
  | cons b bs ih =>
   rw [List.map_cons] at rv
   cases rv with
   | cons r1 r2 => cases r1; exact .cons b (ih _ r2)
 have hlt : p < s.heap.objs.size := by obtain ⟨_, e, _⟩ := pl.isList; exact Heap.lt_size e
 refine call_all_walk (wpAny_pyIter_list pl.isList ?_)
 refine ⟨s.heap.objs.size, [s.heap.objs.size, p], [s.heap.objs.size], vs.toArray.size, _, _, fun i => (bs[i]?).getD true, rfl, Walks.list (A := X.A.in1) (I.ok.hd hc) _ p (Nat.ne_of_lt hlt) vs.toArray,
  ⟨⟨_, Heap.get?_push_size _ rfl, rfl, rfl⟩, pl.isList.push _⟩, fun i v s' Q' E' hP hQ => ?_, fun h' tk hk => ?_⟩
 ·obtain ⟨b, e, rfl⟩ := hb.get i v (by simpa using hP)
  simp only [e, Option.getD_some] at hQ
  exact wpAny_truthy_bool hQ
 ·have e : ((List.range vs.toArray.size).all fun i => (bs[i]?).getD true) = bs.all id := by
   rw [List.size_toArray, hb.length]; exact PyProof.Rows.LSm.range_all bs
  rw [e]
  exact ⟨.bl _, H, I.kept (t' := tk) (PyProof.Rows.LSm.kept_iter hk), rfl, q⟩
theorem call_sum (hc : X.calm = true) : CallR X (.builtin "sum") (fun xs H Q => ∃ (p : Addr) (ns : List Int), xs = [.ref p] /\ SqL X.K H p (ns.map V.int) /\ Q (.int ns.sum) H) := by
 intro pins s σ H xs us Q I r h
 obtain ⟨p, ns, rfl, hp, q⟩ := h
 obtain ⟨u, rfl, ru⟩ := vals1 r
 cases ru
 obtain ⟨vs, rv, pl, _⟩ := I.list hp
 have hi : IntsAre vs ns := intsAre_of rv
 obtain ⟨xs, hx⟩ := hi.allInts.items
 have hl' : s.heap.IsList p (intItems xs) := hx ▸ pl.isList
 refine sum_intListG (I.ok.hd hc) hl' fun h' tk t' hk => ?_
 have e1 : ns = xs.toList.map (·.1) := by
  rw [<- nums_intItems, <- hx]
  exact (show numsOf vs.toArray.toList = ns from hi.numsOf).symm
 have e2 : preSum (numAt xs) xs.size = ns.sum := by
  rw [preSum_eq, List.take_of_length_le (by simp), e1]
 rw [e2]
 exact ⟨.int _, H, I.kept (t' := tk) hk, ⟨_, rfl⟩, q⟩
end

section
variable {K : PySem.W.Frag} {l1 l2 : Addr} {xs ws : List V} {g : TG} {tf : TT} {te : TE} {Q : VK} {σ₀ : St} {H : Hp}
theorem comp_zip (Pv : Nat -> List V -> Hp -> Prop) (hz : xs.length <= sizeLine) (hw : ws.length = xs.length) (h0 : Pv 0 [] H) (hl : ∀ i ys H, i <= xs.length -> Pv i ys H -> SqL K H l1 xs /\ SqL K H l2 ws)
  (hs : ∀ i x y ys H p, xs[i]? = some x -> ws[i]? = some y -> ys.length <= i -> Pv i ys H -> H p = none -> tTurn σ₀ g tf te (.ref p) (upd H p (.tup [x, y])) (fun y H' => Pv (i + 1) (ys ++ [y]) H') (fun H' => Pv (i + 1) ys H'))
  (hd : ∀ ys H, ys.length <= xs.length -> Pv xs.length ys H -> ∀ p, H p = none -> Q (.ref p) (upd H p (.lst ys))) : CompW (Itz K l1 l2) σ₀ g tf te Q H := by
 refine ⟨fun i m ys H => m = xs.length - i /\ i <= xs.length /\ ys.length <= i /\ Pv i ys H, ⟨xs.length, by simp, Nat.zero_le _, Nat.zero_le _, h0⟩, ?_⟩
 rintro i m ys H ⟨rfl, hi, hy, p⟩
 obtain ⟨q1, q2⟩ := hl i ys H hi p
 by_cases hlt : i < xs.length
 ·refine .inr ⟨⟨xs, ws, xs[i], ws[i]'(by omega), q1, q2, by simp [hlt], by simp⟩, by omega, fun y H' => Pv (i + 1) (ys ++ [y]) H', fun H' => Pv (i + 1) ys H', fun y H' p' => ⟨xs.length - (i + 1), by omega, rfl, hlt, by rw [List.length_append, List.length_singleton]; omega, p'⟩, fun H' p' => ⟨xs.length - (i + 1), by omega, rfl, hlt, by omega, p'⟩, fun x H' y => ?_⟩
  obtain ⟨r, x', y', rfl, hr, rfl, e1, e2⟩ := y
  exact hs i x' y' ys _ r (e1 xs q1) (e2 ws q2) hy p hr
 ·have e : i = xs.length := by omega
  subst e
  exact .inl ⟨⟨xs, ws, q1, q2, .inl (Nat.le_refl _)⟩, by omega, hd ys H hy p⟩
end

section
variable {X : Cx}
theorem pg_tupK (K : PySem.W.Frag) (n : Nat) {es : List Expr} {k : Nat} {pos : Pos} {t : TGs} (h : PGs X es t) (hK : X.K = K := by rfl) (hc : X.calm = true := by rfl)
  (hn : (assignEach es X.env).length = n := by rfl) (hst : (assignEach es X.env).findIdx? (·.1) = none := by rfl) : PG X (.Tuple es k pos) (gTup K n t) := by subst hK; exact pg_tup hc h hn hst
theorem ix_tupK (K : PySem.W.Frag) (hK : X.K = K) : IxR X (rIxT K) := by subst hK; exact ix_tup
theorem ix_listK (K : PySem.W.Frag) (hK : X.K = K) : IxR X (rIxL K) := by subst hK; exact ix_list
theorem op_neDK (K : PySem.W.Frag) (hK : X.K = K) (hu : X.A.units + 50 < cLine) : OpR X (compareOp .NotEq) (rNeD K) := by subst hK; exact op_neD hu
theorem pi_listK (K : PySem.W.Frag) {tg l : Expr} {tl : TE} (hl : PE X l tl) (hK : X.K = K := by rfl) : PI X tg l (iList K tl) := by subst hK; exact pi_list hl
end

theorem pa_consE {X : Cx} {e e' : Expr} {es : List Expr} {te : TE} {t : TA} (h : e = e') (ha : PE X e' te) (hr : PA X es t) (hs : ∀ l, starEach (e' :: l) X.env = (false, eval e' X.env) :: starEach l X.env := by intro _; rfl) : PA X (e :: es) (tCons te t) := by subst h; exact pa_cons ha hr (hs _)


section
variable {σ : St} {H : Hp} {D : Ends} {Q : VK}
theorem rd_append {l : Addr} {xs : List V} {y : V} (hl : H l = some (.lst xs)) (hz : xs.length < sizeLine) (h : Q .non (upd H l (.lst (xs ++ [y])))) : rAppend (.ref l) [y] H Q := ⟨l, xs, y, rfl, rfl, hl, hz, h⟩
theorem rd_iZip {K : PySem.W.Frag} {ta : TA} {R : It -> Hp -> Prop} (h : ta σ H fun vs H1 => ∃ l1 l2, vs = [.ref l1, .ref l2] /\ (∃ xs, SqL K H1 l1 xs) /\ (∃ ys, SqL K H1 l2 ys) /\ R (Itz K l1 l2) H1) : iZip K ta σ H R := h
theorem rd_cat {l b : Addr} {xs zs : List V} (h1 : H l = some (.lst xs)) (h2 : H b = some (.lst zs)) (hz : xs.length + zs.length <= sizeLine) (h : ∀ p H', Same H H' -> H p = none -> H' p = some (.lst (xs ++ zs)) -> Q (.ref p) H') : rCat (.ref l) (.ref b) H Q :=
 ⟨l, b, xs, zs, rfl, rfl, h1, h2, hz, fun p hp => h p _ (Same.new hp) hp upd_same⟩
theorem rd_slL {K : PySem.W.Frag} {a : Addr} {xs : List V} {lo hi : Option Int} (h1 : SqL K H a xs) (h : ∀ p H', Same H H' -> H p = none -> H' p = some (.lst (cutV xs lo hi)) -> Q (.ref p) H') : rSlL K (.ref a) lo hi H Q :=
 ⟨a, xs, rfl, h1, fun p hp => h p _ (Same.new hp) hp upd_same⟩
theorem atI_some {α : Type} {xs : List α} {i : Int} (h0 : 0 <= i) (h1 : i < xs.length) : ∃ v, atI xs i = some v /\ v ∈ xs /\ xs[i.toNat]? = some v := by
 have hj : i.toNat < xs.length := by omega
 refine ⟨xs[i.toNat], ?_, List.getElem_mem hj, by simp [hj]⟩
 have := atI_nat (xs := xs) (j := i.toNat) (v := xs[i.toNat]) (by simp [hj])
 rwa [Int.toNat_of_nonneg h0] at this
end

inductive Kn (H : Hp) : V -> Prop where
 | non : Kn H .non
 | bl (b : Bool) : Kn H (.bl b)
 | int (i : Int) : Kn H (.int i)
 | str (x : Str) : Kn H (.str x)
 | lst {a : Addr} {xs : List V} (e : H a = some (.lst xs)) : Kn H (.ref a)
 | tup {a : Addr} {xs : List V} (e : H a = some (.tup xs)) : Kn H (.ref a)
 | dic {a : Addr} {kvs : List (Key × V)} (e : H a = some (.dK kvs)) : Kn H (.ref a)
theorem paired_mem {α β : Type} {F : α -> β -> Prop} : ∀ {l1 : List α} {l2 : List β} {y : β}, Paired F l1 l2 -> y ∈ l2 -> ∃ x ∈ l1, F x y
 | _, _, _, .nil, h => nomatch h
 | _, _, _, .cons r t, h => by
  rcases List.mem_cons.mp h with rfl | h
  ·exact ⟨_, List.mem_cons_self, r⟩
  ·obtain ⟨x, hx, q⟩ := paired_mem t h
   exact ⟨x, List.mem_cons_of_mem _ hx, q⟩
theorem paired_at {α β : Type} {F : α -> β -> Prop} {l1 : List α} {l2 : List β} {i : Nat} {y : β} (h : Paired F l1 l2) (e : l2[i]? = some y) : ∃ x, l1[i]? = some x /\ F x y := by
 have hl := h.length
 have hi : i < l2.length := (List.getElem?_eq_some_iff.mp e).1
 refine ⟨l1[i]'(by omega), by simp, ?_⟩
 have := paired_get h (i := i) (by omega) hi
 have e2 : l2[i] = y := (List.getElem?_eq_some_iff.mp e).2
 rwa [e2] at this
def NumOk (n : Int × Int) : Prop := 0 < n.2 /\ Int.gcd n.1 n.2 = 1 /\ Sz 8000 n.1 /\ Sz 8000 n.2
end L2
namespace L2
open PySem PySem.Spec PyProof.Rows Nm
theorem take_snoc {α : Type} {l : List α} {i : Nat} {v : α} (h : l[i]? = some v) : l.take (i + 1) = l.take i ++ [v] := by rw [List.take_add_one, h]; rfl
theorem Same.after {H H' : Hp} {r : Addr} {o : HO} (s : Same H H') (h : H r = Option.none) : Same H (upd H' r o) := fun b u e => by rw [upd_ne (ne_of_none e h)]; exact s b u e
theorem Upto.after {H H' : Hp} {b r : Addr} {o : HO} (s : Upto b H H') (h : H r = Option.none) : Upto b H (upd H' r o) := ⟨fun c u e n => by rw [upd_ne (ne_of_none e h)]; exact s.1 c u e n, fun q hi => (s.2 q hi).upd fun z => by obtain ⟨_, _, _, e⟩ := hi; rw [<- z, h] at e; cases e⟩
theorem Upto.same {H H' H'' : Hp} {b : Addr} (s : Upto b H H') (e : Same H' H'') : Upto b H H'' := s.trans e.upto
end L2
namespace L2
open PySem PySem.Spec PyProof.Rows Nm
end L2
namespace L2
open PySem PySem.Spec PyProof.Rows Nm
theorem app_all {α : Type} {Pr : α -> Prop} {l : List α} {a : α} (h : ∀ n ∈ l, Pr n) (ha : Pr a) : ∀ n ∈ l ++ [a], Pr n := fun n hn => by
 rcases List.mem_append.mp hn with hn | hn
 ·exact h n hn
 ·have e : n = a := by simpa using hn
  rw [e]; exact ha
end L2
namespace L2
open PySem PySem.Spec PyProof.Rows Nm

abbrev ZipR (h : Heap) (z TI TO : Addr) (f0 f1 : Value) : Prop := h.get? z = some { cls := .type "zip", dict := none, data := .fields #[f0, f1, .bool false, .ref TI, .ref TO], slots := #[] }
section
variable {prog : Program} {w : World} {A : Around} {E : Value -> Shared -> Prop} {s : Shared}
theorem alive_some {a : Addr} {o : Obj} {Q : Option Obj -> Shared -> Prop} (e : s.heap.get? a = some o) (h : Q (some o) s) : wpAny (model prog w) A (loadIfAlive a) Q E s := by
 intro Γ p hp
 show Sem.wp _ _ (.loadIfAlive a .pure) _ _ _ _
 simp only [Sem.wp_loadIfAlive, e]
 exact wpAny_pure h Γ p hp
theorem owned_kept {z TI TO T : Addr} {b1 : Bool} {o : Obj} {Q : Bool -> Shared -> Prop} (zr : ZipR s.heap z TI TO (rawInt T) (.bool b1)) (al : s.heap.get? T = some o)
  (h : ∀ h', ZipR h' z TI TO (rawInt T) (.bool true) -> Heap.SameBut z s.heap h' -> Q false { s with heap := h' }) : wpAny (model prog w) A (Builtin.SmallTypes.ownedTupleIsFree (.ref z)) Q E s := by
 unfold Builtin.SmallTypes.ownedTupleIsFree
 refine wpAny_bind (wpAny_field zr rfl (x := rawInt T) rfl ?_)
 refine wpAny_bind (alive_some (a := T) al ?_)
 refine wpAny_bind (wpAny_field zr rfl (x := .bool b1) rfl ?_)
 cases b1 with
 | true => exact wpAny_pure (h _ zr (.refl ..))
 | false => exact wpAny_bind (wpAny_setField_rec zr (by simp) fun h' zr' sb => wpAny_pure (h h' zr' sb))
theorem more_item {z TI TO T i1 i2 l1 l2 : Addr} {k1 k2 : Nat} {us ws : Array Value} {u v : Value} {b1 : Bool} {o : Obj} {Q : Value -> Shared -> Prop} (D : ZipApart z TI TO i1 i2 l1 l2) (zr : ZipR s.heap z TI TO (rawInt T) (.bool b1)) (al : s.heap.get? T = some o)
  (pt : IsPair s.heap TI (.ref i1) (.ref i2)) (j1 : s.heap.IsListIter i1 l1 k1) (j2 : s.heap.IsListIter i2 l2 k2) (m1 : s.heap.IsList l1 us) (m2 : s.heap.IsList l2 ws) (eu : us[k1]? = some u) (ev : ws[k2]? = some v)
  (hQ : ∀ h', ZipR h' z TI TO (rawInt T) (.bool true) -> h'.IsListIter i1 l1 (k1 + 1) -> h'.IsListIter i2 l2 (k2 + 1) -> IsPair h' s.heap.objs.size u v -> (∀ c o, c ≠ z -> c ≠ i1 -> c ≠ i2 -> s.heap.get? c = some o -> h'.get? c = some o) -> Q (.ref s.heap.objs.size) { s with heap := h' }) :
  wpAny (model prog w) A (Builtin.«zip.__next__» ⟨[.ref z], []⟩) (fun fin s' => ∃ v, fin = .done (.ret v) /\ Q v s') E s := by
 change wpAny _ _ (field (Value.ref z) 2 >>= _) _ _ s
 refine wpAny_bind (wpAny_field zr rfl (x := .bool false) rfl ?_)
 change wpAny _ _ (field (Value.ref z) 3 >>= _) _ _ s
 refine wpAny_bind (wpAny_field zr rfl (x := .ref TI) rfl (wpAny_bind (wpAny_seqItems pt rfl ?_)))
 change wpAny _ _ (Builtin.SmallTypes.ownedTupleIsFree (Value.ref z) >>= _) _ _ s
 refine wpAny_bind (owned_kept zr al fun g1 zr1 sb1 => ?_)
 simp only [Bool.false_eq_true, if_false]
 refine wpAny_bind ?_
 rw [<- Array.forIn_toList]
 simp only [List.forIn_cons, List.forIn_nil]
 have j1' := j1.extBut sb1.extBut D.i1z
 have m1' := m1.extBut sb1.extBut D.l1z
 refine wpAny_bind (wpAny_bind (wpAny_holding ?_))
 change wpAny _ _ (Builtin.SmallTypes.nextOf (Value.ref i1) >>= _) _ _ _
 refine wpAny_bind (wpAny_nextOf_list_item j1' m1' eu fun g2 j1a sb2 => wpAny_pure ?_)
 refine wpAny_pure ?_
 have j2' := (j2.extBut sb1.extBut D.i2z).extBut sb2.extBut D.i12.symm
 have m2' := (m2.extBut sb1.extBut D.l2z).extBut sb2.extBut D.l2i1
 refine wpAny_bind (wpAny_bind (wpAny_holding ?_))
 change wpAny _ _ (Builtin.SmallTypes.nextOf (Value.ref i2) >>= _) _ _ _
 refine wpAny_bind (wpAny_nextOf_list_item j2' m2' ev fun g3 j2a sb3 => wpAny_pure ?_)
 refine wpAny_pure (wpAny_pure ?_)
 refine wpAny_bind (wpAny_newTuple (hsz := short_ok rfl) ?_)
 have sz : g3.objs.size = s.heap.objs.size := by rw [sb3.1, sb2.1, sb1.1]
 have up : ∀ c o, c ≠ z -> c ≠ i1 -> c ≠ i2 -> s.heap.get? c = some o -> g3.get? c = some o := fun c o c1 c2 c3 e => sb3.extBut _ _ c3 (sb2.extBut _ _ c2 (sb1.extBut _ _ c1 e))
 have zr3 : ZipR g3 z TI TO (rawInt T) (.bool true) := sb3.extBut _ _ D.i2z.symm (sb2.extBut _ _ D.i1z.symm zr1)
 refine wpAny_pure ⟨_, rfl, ?_⟩
 change Q (.ref g3.objs.size) { s with heap := g3.push { cls := .type "tuple", data := .seq #[u, v] } }
 have last := hQ (g3.push { cls := .type "tuple", data := .seq #[u, v] }) (Heap.get?_push_of_some _ zr3) ((j1a.extBut sb3.extBut D.i12).at fun o e => Heap.get?_push_of_some _ e) (j2a.at fun o e => Heap.get?_push_of_some _ e)
  (by rw [<- sz]; exact Heap.get?_push_size _ rfl) fun c o c1 c2 c3 e => Heap.get?_push_of_some _ (up c o c1 c2 c3 e)
 rw [sz]
 exact last
theorem more_end {z TI TO T i1 i2 l1 l2 : Addr} {k1 : Nat} {us : Array Value} {b1 : Bool} {o : Obj} {Q : PySem.Fin -> Shared -> Prop} (hh : A.handled = none) (D : ZipApart z TI TO i1 i2 l1 l2) (zr : ZipR s.heap z TI TO (rawInt T) (.bool b1)) (al : s.heap.get? T = some o)
  (pt : IsPair s.heap TI (.ref i1) (.ref i2)) (j1 : s.heap.IsListIter i1 l1 k1) (m1 : s.heap.IsList l1 us) (eu : us[k1]? = none)
  (hE : ∀ h' e, (∀ c o, c ≠ z -> c ≠ i1 -> c ≠ i2 -> s.heap.get? c = some o -> h'.get? c = some o) -> (∃ o, h'.get? e = some o /\ o.cls = .type "StopIteration") -> E (.ref e) { s with heap := h' }) :
  wpAny (model prog w) A (Builtin.«zip.__next__» ⟨[.ref z], []⟩) Q E s := by
 change wpAny _ _ (field (Value.ref z) 2 >>= _) _ _ s
 refine wpAny_bind (wpAny_field zr rfl (x := .bool false) rfl ?_)
 change wpAny _ _ (field (Value.ref z) 3 >>= _) _ _ s
 refine wpAny_bind (wpAny_field zr rfl (x := .ref TI) rfl (wpAny_bind (wpAny_seqItems pt rfl ?_)))
 change wpAny _ _ (Builtin.SmallTypes.ownedTupleIsFree (Value.ref z) >>= _) _ _ s
 refine wpAny_bind (owned_kept zr al fun g1 zr1 sb1 => ?_)
 simp only [Bool.false_eq_true, if_false]
 refine wpAny_bind ?_
 rw [<- Array.forIn_toList]
 simp only [List.forIn_cons, List.forIn_nil]
 refine wpAny_bind (wpAny_bind (wpAny_holding ?_))
 change wpAny _ _ (Builtin.SmallTypes.nextOf (Value.ref i1) >>= _) _ _ _
 exact wpAny_bind (wpAny_nextOf_list_end hh (j1.extBut sb1.extBut D.i1z) (m1.extBut sb1.extBut D.l1z) eu fun g2 e xb he => hE g2 e (fun c o c1 c2 _ q => xb _ _ c2 (sb1.extBut _ _ c1 q)) he)
theorem next_more {z TI TO T i1 i2 l1 l2 : Addr} {k1 k2 : Nat} {us ws : Array Value} {u v : Value} {b1 : Bool} {o : Obj} {Q : Option Value -> Shared -> Prop} (D : ZipApart z TI TO i1 i2 l1 l2) (zr : ZipR s.heap z TI TO (rawInt T) (.bool b1)) (al : s.heap.get? T = some o)
  (pt : IsPair s.heap TI (.ref i1) (.ref i2)) (j1 : s.heap.IsListIter i1 l1 k1) (j2 : s.heap.IsListIter i2 l2 k2) (m1 : s.heap.IsList l1 us) (m2 : s.heap.IsList l2 ws) (eu : us[k1]? = some u) (ev : ws[k2]? = some v)
  (hQ : ∀ h', ZipR h' z TI TO (rawInt T) (.bool true) -> h'.IsListIter i1 l1 (k1 + 1) -> h'.IsListIter i2 l2 (k2 + 1) -> IsPair h' s.heap.objs.size u v -> (∀ c o, c ≠ z -> c ≠ i1 -> c ≠ i2 -> s.heap.get? c = some o -> h'.get? c = some o) -> Q (some (.ref s.heap.objs.size)) { s with heap := h' }) :
  wpAny (model prog w) A (pyNext (.ref z)) Q E s := by
 have ty : s.TypeIs (.ref z) "zip" := ⟨_, zr, rfl⟩
 unfold pyNext
 refine wpAny_bind (wpAny_attempt (wpAny_callSpecial?_slot (name := Str.ofString "__next__") ty PySem.F.slot_zip_next (wpAny_call_entry PySem.F.slot_zip_next ty PySem.F.entry_zip_next ?_ (PySem.F.args_zip_next_1 _))))
 exact more_item D zr al pt j1 j2 m1 m2 eu ev fun h' a1 a2 a3 a4 a5 => wpAny_pure (hQ h' a1 a2 a3 a4 a5)
theorem next_none {z TI TO T i1 i2 l1 l2 : Addr} {k1 : Nat} {us : Array Value} {b1 : Bool} {o : Obj} {Q : Option Value -> Shared -> Prop} (hh : A.handled = none) (D : ZipApart z TI TO i1 i2 l1 l2) (zr : ZipR s.heap z TI TO (rawInt T) (.bool b1)) (al : s.heap.get? T = some o)
  (pt : IsPair s.heap TI (.ref i1) (.ref i2)) (j1 : s.heap.IsListIter i1 l1 k1) (m1 : s.heap.IsList l1 us) (eu : us[k1]? = none)
  (hQ : ∀ h', (∀ c o, c ≠ z -> c ≠ i1 -> c ≠ i2 -> s.heap.get? c = some o -> h'.get? c = some o) -> Q none { s with heap := h' }) : wpAny (model prog w) A (pyNext (.ref z)) Q E s := by
 have ty : s.TypeIs (.ref z) "zip" := ⟨_, zr, rfl⟩
 unfold pyNext
 refine wpAny_bind (wpAny_attempt (wpAny_callSpecial?_slot (name := Str.ofString "__next__") ty PySem.F.slot_zip_next (wpAny_call_entry PySem.F.slot_zip_next ty PySem.F.entry_zip_next ?_ (PySem.F.args_zip_next_1 _))))
 refine more_end hh D zr al pt j1 m1 eu fun h' e kk ⟨oe, he, hc⟩ => ?_
 exact wpAny_bind (wpAny_isInstance (T := "StopIteration") (b := true) ⟨oe, he, hc⟩ isSubtype_stop (wpAny_pure (hQ _ kk)))
end

section
variable {X : Cx} {pins : List (Addr × Obj)} {σ : St} {H : Hp} {s : Shared}
theorem Inv.moved {h' : Heap} {ch : List Addr} {g' : Array GenState} {d' : Drawn} {t' : Nat} (I : Inv X pins σ H s) (fx : ∀ b ∈ ch, FpOk X pins H b) (up : ∀ b o, b ∉ ch -> s.heap.get? b = some o -> h'.get? b = some o) (hg : AllBare g') :
  Inv X pins σ H { s with heap := h', gens := g', drawn := d', toks := t' } := by
 have nx : ∀ b o, H b = some o -> b ∉ ch := fun b o e hb => by have := (fx b hb).1; rw [this] at e; cases e
 refine I.step (ch := ch) (fun b hb => ?_) (fun b o _ _ hb e _ => up b o hb e) (fun b o _ _ hb e _ => ⟨o.slots, up b o hb e⟩) (fun b o hb e n => n) (fun b o hb e => ⟨o, up b o hb e⟩) (fun b q e => e) (fun b o q e => e) (fun b q e => ⟨#[], by rw [e]; simp⟩) (fun m hm => ?_) (fun b o e => ?_) hg
 ·obtain ⟨_, f1, _, f3, f4, f5⟩ := fx b hb
  exact ⟨f3, f1, f4, f5⟩
 ·obtain ⟨o, es, ep, ho, r⟩ := hm
  exact ⟨o, es, ep, up _ o (fun z => (fx _ z).2.1 rfl) ho, r⟩
 ·refine (I.hok b o e).stay (fun c v' hc q => up c v' ?_ q) (fun c q => q) fun c xs q => q
  rcases hc with rfl | hc
  ·exact nx _ _ e
  ·exact nx _ _ hc
theorem Inv.track {p : Addr} {o : HO} (I : Inv X pins σ H s) (fp : FpOk X pins H p) (new : ObjOk X.prog X.w (upd H p o) s.heap p o) : Inv X pins σ (upd H p o) s := by
 have nt : ∀ {b : Addr} {u : HO}, H b = some u -> b ≠ p := fun e z => by rw [z, fp.1] at e; cases e
 refine I.step (h' := s.heap) (g' := s.gens) (d' := s.drawn) (t' := s.toks) (ch := [p]) (fun b hb => ?_) (fun b o _ _ _ e _ => e) (fun b o _ _ _ e _ => ⟨o.slots, e⟩) (fun b o hb e n => ?_) (fun b o _ e => ⟨o, e⟩) (fun b q e => by rw [upd_ne (nt e)]; exact e) (fun b o q e => by rw [upd_ne (nt e)]; exact e)
  (fun b q e => ⟨#[], by rw [upd_ne (nt e), e]; simp⟩) (fun m hm => hm) (fun b u e => ?_) I.bare
 ·have e : b = p := by simpa using hb
  subst e
  obtain ⟨_, f1, _, f3, f4, f5⟩ := fp
  exact ⟨f3, f1, f4, f5⟩
 ·rw [upd_ne fun z => hb (by simp [z])]; exact n
 ·by_cases hb : b = p
  ·subst hb; rw [upd_same] at e; cases e; exact new
  ·rw [upd_ne hb] at e
   exact (I.hok b u e).stay (fun c v _ q => q) (fun c q => by rw [upd_ne (nt q)]; exact q) fun c xs q => by rw [upd_ne (nt q)]; exact q
end

def PrR (H : Hp) (p : V × V) (x : V) : Prop := ∃ T, x = .ref T /\ H T = some (.tup [p.1, p.2])
theorem PrR.same {H H' : Hp} {p : V × V} {x : V} (h : PrR H p x) (e : Same H H') : PrR H' p x := let ⟨T, q, g⟩ := h; ⟨T, q, e _ _ g⟩
def Zst (h : Heap) (z TI TO : Addr) (base : Nat) : Prop := (∃ a b, IsPair h TO a b) /\ (IsZip h z TI TO .none ∨ ∃ (T : Addr) (b1 : Bool) (o : Obj), ZipR h z TI TO (rawInt T) (.bool b1) /\ h.get? T = some o /\ @LE.le Nat instLENat base T)
theorem zapart {h : Heap} {z TI TO i1 i2 l1 l2 : Addr} {f0 f1 a b : Value} {k1 k2 : Nat} {xs ys : Array Value} (hz : ZipR h z TI TO f0 f1) (hTI : IsPair h TI (.ref i1) (.ref i2)) (hTO : IsPair h TO a b) (h1 : h.IsListIter i1 l1 k1) (h2 : h.IsListIter i2 l2 k2) (hl1 : h.IsList l1 xs) (hl2 : h.IsList l2 ys) (hT : TI ≠ TO) (hi : i1 ≠ i2) : ZipApart z TI TO i1 i2 l1 l2 := by
 obtain ⟨o1, g1, c1, _⟩ := h1
 obtain ⟨o2, g2, c2, _⟩ := h2
 obtain ⟨p1, q1, d1, _⟩ := hl1
 obtain ⟨p2, q2, d2, _⟩ := hl2
 have zt : Value.type "zip" ≠ .type "tuple" := ty_ne (by decide)
 have it : Value.type "list_iterator" ≠ .type "tuple" := ty_ne (by decide)
 have iz : Value.type "list_iterator" ≠ .type "zip" := ty_ne (by decide)
 have lz : Value.type "list" ≠ .type "zip" := ty_ne (by decide)
 have lt : Value.type "list" ≠ .type "tuple" := ty_ne (by decide)
 have li : Value.type "list" ≠ .type "list_iterator" := ty_ne (by decide)
 exact ⟨ne_cls hTI hz zt.symm, ne_cls hTO hz zt.symm, ne_cls g1 hz (by rw [c1]; exact iz), ne_cls g2 hz (by rw [c2]; exact iz), hT, ne_cls hTI g1 (by rw [c1]; exact it.symm), ne_cls hTI g2 (by rw [c2]; exact it.symm), ne_cls hTO g1 (by rw [c1]; exact it.symm), ne_cls hTO g2 (by rw [c2]; exact it.symm), hi,
  ne_cls q1 hz (by rw [d1]; exact lz), ne_cls q1 hTO (by rw [d1]; exact lt), ne_cls q1 g1 (by rw [d1, c1]; exact li), ne_cls q1 g2 (by rw [d1, c2]; exact li), ne_cls q2 hz (by rw [d2]; exact lz), ne_cls q2 hTO (by rw [d2]; exact lt), ne_cls q2 g1 (by rw [d2, c1]; exact li), ne_cls q2 g2 (by rw [d2, c2]; exact li)⟩
section
variable {X : Cx} {pins : List (Addr × Obj)} {σ : St}
theorem FpOk.heap {H H' : Hp} {b : Addr} (f : FpOk X pins H b) (e : H' b = none) : FpOk X pins H' b := ⟨e, f.2⟩
structure Zad where
 z : Addr
 TI : Addr
 TO : Addr
 i1 : Addr
 i2 : Addr
 S : Addr
 base : Nat
def Zad.all (a : Zad) : List Addr := [a.z, a.TI, a.TO, a.i1, a.i2, a.S]
structure Zad.Ok (a : Zad) : Prop where
 tt : a.TI ≠ a.TO
 ii : a.i1 ≠ a.i2
 Sz : a.S ≠ a.z
 STI : a.S ≠ a.TI
 STO : a.S ≠ a.TO
 Si1 : a.S ≠ a.i1
 Si2 : a.S ≠ a.i2
 lt : ∀ b ∈ a.all, @LT.lt Nat instLTNat b a.base
structure LzI (X : Cx) (pins : List (Addr × Obj)) (σ : St) (H1 : Hp) (a : Zad) (l1 l2 : Addr) (i : Nat) (H : Hp) (s : Shared) : Prop where
 inv : Inv X pins σ H s
 same : Same H1 H
 fps : ∀ b ∈ a.all, FpOk X pins H b
 sz : a.base <= s.heap.objs.size
 zst : Zst s.heap a.z a.TI a.TO a.base
 pt : IsPair s.heap a.TI (.ref a.i1) (.ref a.i2)
 j1 : s.heap.IsListIter a.i1 l1 i
 j2 : s.heap.IsListIter a.i2 l2 i
variable {a : Zad} {l1 l2 : Addr} {H1 H : Hp} {s : Shared} {i : Nat} {xs ys : List V}
theorem LzI.push {h' : Heap} (L : LzI X pins σ H1 a l1 l2 i H s) (O : a.Ok) (k : ∀ b o, b ≠ a.S -> s.heap.get? b = some o -> h'.get? b = some o) (hz : h'.objs.size = s.heap.objs.size) : LzI X pins σ H1 a l1 l2 i H { s with heap := h' } := by
 refine ⟨L.inv.moved (g' := s.gens) (d' := s.drawn) (t' := s.toks) (ch := [a.S]) (fun b hb => ?_) (fun b o hb e => k b o (fun z => hb (by simp [z])) e) L.inv.bare, L.same, L.fps, by show a.base <= h'.objs.size; rw [hz]; exact L.sz, ?_, k _ _ O.STI.symm L.pt, L.j1.at fun o e => k _ o O.Si1.symm e, L.j2.at fun o e => k _ o O.Si2.symm e⟩
 ·have e : b = a.S := by simpa using hb
  rw [e]; exact L.fps _ (by simp [Zad.all])
 ·obtain ⟨⟨c, d, z0⟩, z4⟩ := L.zst
  refine ⟨⟨c, d, k _ _ O.STO.symm z0⟩, ?_⟩
  rcases z4 with z1 | ⟨T, b1, o, z1, z2, z3⟩
  ·exact .inl (k _ _ O.Sz.symm z1)
  ·refine .inr ⟨T, b1, o, k _ _ O.Sz.symm z1, k _ _ (fun e => ?_) z2, z3⟩
   have := O.lt a.S (by simp [Zad.all])
   rw [<- e] at this
   exact absurd this (Nat.not_lt.mpr z3)
theorem zip_next {A' : Around} {E : Value -> Shared -> Prop} {Q : Option Value -> Shared -> Prop} (O : a.Ok) (q1 : SqL X.K H1 l1 xs) (q2 : SqL X.K H1 l2 ys) {x y : V} (ex : xs[i]? = some x) (ey : ys[i]? = some y) (L : LzI X pins σ H1 a l1 l2 i H s)
  (hQ : ∀ s', LzI X pins σ H1 a l1 l2 (i + 1) (upd H s.heap.objs.size (.tup [x, y])) s' -> (∀ c o, c ∉ [a.z, a.TO, a.i1, a.i2] -> s.heap.get? c = some o -> s'.heap.get? c = some o) -> H s.heap.objs.size = none -> Q (some (.ref s.heap.objs.size)) s') : wpAny (model X.prog X.w) A' (pyNext (.ref a.z)) Q E s := by
 obtain ⟨I, sm, fps, sz, zst, pt, j1, j2⟩ := id L
 obtain ⟨us, ru, pu, _⟩ := I.list (sm.seq q1)
 obtain ⟨ws, rw', pw, _⟩ := I.list (sm.seq q2)
 obtain ⟨u, eu, r1⟩ := ru.get ex
 obtain ⟨v, ev, r2⟩ := rw'.get ey
 have fx : ∀ b ∈ [a.z, a.TO, a.i1, a.i2], FpOk X pins H b := fun b hb => fps b (by simp only [Zad.all, List.mem_cons, List.not_mem_nil, or_false] at hb ⊢; rcases hb with e | e | e | e <;> simp [e])
 have hT0 : H s.heap.objs.size = none := I.hok.fresh (Nat.le_refl _)
 have fT : FpOk X pins H s.heap.objs.size := I.fpOk (Nat.le_refl _) hT0
 have lt : ∀ b ∈ a.all, b ≠ s.heap.objs.size := fun b hb e => by have := O.lt b hb; rw [e] at this; exact absurd this (Nat.not_lt.mpr sz)
 have fin : ∀ h', (∀ c o, c ∉ [a.z, a.TO, a.i1, a.i2] -> s.heap.get? c = some o -> h'.get? c = some o) -> IsPair h' s.heap.objs.size u v -> IsPair h' a.TI (.ref a.i1) (.ref a.i2) -> h'.IsListIter a.i1 l1 (i + 1) -> h'.IsListIter a.i2 l2 (i + 1) -> Zst h' a.z a.TI a.TO a.base →
   Q (some (.ref s.heap.objs.size)) { s with heap := h' } := fun h' up pr pt' j1' j2' zst' => by
  have I2 : Inv X pins σ H { s with heap := h' } := I.moved (g' := s.gens) (d' := s.drawn) (t' := s.toks) fx up I.bare
  have I3 : Inv X pins σ (upd H s.heap.objs.size (.tup [x, y])) { s with heap := h' } := I2.track fT ⟨short_ok rfl, [u, v], .cons r1 (.cons r2 .nil), ⟨_, pr, rfl, _, rfl⟩⟩
  refine hQ _ ⟨I3, sm.trans (Same.new hT0), fun b hb => (fps b hb).heap (by rw [upd_ne (lt b hb)]; exact (fps b hb).1), ?_, zst', pt', j1', j2'⟩ up hT0
  exact Nat.le_trans sz (Nat.le_of_lt (Heap.lt_size pr))
 obtain ⟨⟨c, d, z0⟩, z4⟩ := zst
 rcases z4 with z1 | ⟨T, b1, o, z1, z2, z3⟩
 ·have D := zapart z1 pt z0 j1 j2 pu.isList pw.isList O.tt O.ii
  refine wpAny_pyNext_zip_item D z1 pt z0 j1 j2 pu.isList pw.isList (x := u) (y := v) (by simpa using eu) (by simpa using ev) fun h' a1 a2 a3 a4 a5 a6 hk => ?_
  have up : ∀ c o, c ∉ [a.z, a.TO, a.i1, a.i2] -> s.heap.get? c = some o -> h'.get? c = some o := fun c o hc e => by
   simp only [List.mem_cons, List.not_mem_nil, or_false, not_or] at hc
   exact hk c o hc.1 hc.2.1 hc.2.2.1 hc.2.2.2 e
  exact fin h' up a5 (hk _ _ D.TIz D.TITO D.TIi1 D.TIi2 pt) a3 a4 ⟨⟨_, _, a2⟩, .inr ⟨s.heap.objs.size, false, _, a1, a5, sz⟩⟩
 ·have D := zapart z1 pt z0 j1 j2 pu.isList pw.isList O.tt O.ii
  refine next_more D z1 z2 pt j1 j2 pu.isList pw.isList (u := u) (v := v) (by simpa using eu) (by simpa using ev) fun h' a1 a3 a4 a5 hk => ?_
  have up : ∀ c o, c ∉ [a.z, a.TO, a.i1, a.i2] -> s.heap.get? c = some o -> h'.get? c = some o := fun c o hc e => by
   simp only [List.mem_cons, List.not_mem_nil, or_false, not_or] at hc
   exact hk c o hc.1 hc.2.2.1 hc.2.2.2 e
  have Tn : ∀ b ∈ a.all, T ≠ b := fun b hb e => by have := O.lt b hb; rw [<- e] at this; exact absurd this (Nat.not_lt.mpr z3)
  exact fin h' up a5 (hk _ _ D.TIz D.TIi1 D.TIi2 pt) a3 a4 ⟨⟨_, _, hk _ _ D.TOz D.TOi1 D.TOi2 z0⟩, .inr ⟨T, true, o, a1, hk _ _ (Tn _ (by simp [Zad.all])) (Tn _ (by simp [Zad.all])) (Tn _ (by simp [Zad.all])) z2, z3⟩⟩
theorem zip_stop {A' : Around} {E : Value -> Shared -> Prop} {Q : Option Value -> Shared -> Prop} (hh : A'.handled = none) (O : a.Ok) (q1 : SqL X.K H1 l1 xs) (q2 : SqL X.K H1 l2 ys) (hi : xs.length <= i) (L : LzI X pins σ H1 a l1 l2 i H s)
  (hQ : ∀ s', Inv X pins σ H s' -> (∀ c o, c ∉ [a.z, a.TO, a.i1, a.i2] -> s.heap.get? c = some o -> s'.heap.get? c = some o) -> Q none s') : wpAny (model X.prog X.w) A' (pyNext (.ref a.z)) Q E s := by
 obtain ⟨I, sm, fps, sz, zst, pt, j1, j2⟩ := id L
 obtain ⟨us, ru, pu, _⟩ := I.list (sm.seq q1)
 obtain ⟨ws, rw', pw, _⟩ := I.list (sm.seq q2)
 have lx := ru.length
 have none1 : us.toArray[i]? = none := by simp; omega
 have fx : ∀ b ∈ [a.z, a.TO, a.i1, a.i2], FpOk X pins H b := fun b hb => fps b (by simp only [Zad.all, List.mem_cons, List.not_mem_nil, or_false] at hb ⊢; rcases hb with e | e | e | e <;> simp [e])
 have fin : ∀ h', (∀ c o, c ∉ [a.z, a.TO, a.i1, a.i2] -> s.heap.get? c = some o -> h'.get? c = some o) -> Q none { s with heap := h' } := fun h' up => hQ _ (I.moved (g' := s.gens) (d' := s.drawn) (t' := s.toks) fx up I.bare) up
 obtain ⟨⟨c, d, z0⟩, z4⟩ := zst
 rcases z4 with z1 | ⟨T, b1, o, z1, z2, z3⟩
 ·have D := zapart z1 pt z0 j1 j2 pu.isList pw.isList O.tt O.ii
  refine wpAny_pyNext_zip_end hh D z1 pt z0 j1 j2 pu.isList pw.isList (.inl none1) fun h' hk => fin h' fun c o hc e => ?_
  simp only [List.mem_cons, List.not_mem_nil, or_false, not_or] at hc
  exact hk c o hc.1 hc.2.1 hc.2.2.1 hc.2.2.2 e
 ·have D := zapart z1 pt z0 j1 j2 pu.isList pw.isList O.tt O.ii
  refine next_none hh D z1 z2 pt j1 pu.isList none1 fun h' hk => fin h' fun c o hc e => ?_
  simp only [List.mem_cons, List.not_mem_nil, or_false, not_or] at hc
  exact hk c o hc.1 hc.2.2.1 hc.2.2.2 e
theorem zip_fill {A' : Around} {R : Result -> Shared -> Prop} (hh : A'.handled = none) (O : a.Ok) (hz : xs.length <= sizeLine) (hl : ys.length = xs.length) (q1 : SqL X.K H1 l1 xs) (q2 : SqL X.K H1 l2 ys)
  (fin : ∀ s' H' ts acc c, Inv X pins σ H' s' -> Same H1 H' -> FpOk X pins H' a.S -> s'.heap.get? a.S = some (lobj acc c) -> Vals ts acc -> Paired (PrR H') (xs.zip ys) ts -> R (.ok (.ret .none)) s') :
  ∀ (k i : Nat) (s : Shared) (H : Hp) (ts : List V) (acc : List Value) (c : Nat), xs.length - i = k -> i <= xs.length -> LzI X pins σ H1 a l1 l2 i H s -> s.heap.get? a.S = some (lobj acc c) -> Vals ts acc -> Paired (PrR H) ((xs.zip ys).take i) ts →
   codeAny (model X.prog X.w) A' (.builtin "list.extend.loop" ⟨[.ref a.S, .ref a.z, .none], []⟩) R s := by
 have Sn : a.S ∉ [a.z, a.TO, a.i1, a.i2] := fun h => by
  simp only [List.mem_cons, List.not_mem_nil, or_false] at h
  rcases h with e | e | e | e
  ·exact O.Sz e
  ·exact O.STO e
  ·exact O.Si1 e
  ·exact O.Si2 e
 intro k
 induction k with
 | zero =>
  intro i s H ts acc c hk hi L gS rv prs
  have e : i = xs.length := by omega
  refine codeAny_builtin PySem.F.entry_extend_loop ?_
  rw [Around.under_plainId PySem.F.plain_extend_loop _]
  change wpAny _ A'.in1 (pyNext (Value.ref a.z) >>= _) _ _ s
  refine wpAny_bind (zip_stop hh O q1 q2 (by omega) L fun s' I' up => wpAny_pure (fin s' H ts acc c I' L.same (L.fps _ (by simp [Zad.all])) (up _ _ Sn gS) rv ?_))
  rwa [List.take_of_length_le (by rw [List.length_zip]; omega)] at prs
 | succ k ih =>
  intro i s H ts acc c hk hi L gS rv prs
  have hlt : i < xs.length := by omega
  have lt := prs.length
  have la := rv.length
  refine codeAny_builtin PySem.F.entry_extend_loop ?_
  rw [Around.under_plainId PySem.F.plain_extend_loop _]
  change wpAny _ A'.in1 (pyNext (Value.ref a.z) >>= _) _ _ s
  refine wpAny_bind (zip_next O q1 q2 (x := xs[i]) (y := ys[i]'(by omega)) (by simp [hlt]) (by simp) L fun s' L' up hT => ?_)
  have gS' := up _ _ Sn gS
  change wpAny _ A'.in1 (updateSeq a.S (·.push (Value.ref s.heap.objs.size)) >>= _) _ _ s'
  have small : acc.length <= sizeLine := by
   rw [List.length_take, List.length_zip] at lt
   omega
  refine wpAny_bind (wpAny_updateSeq gS' rfl (wpAny_pure ⟨plainId_quiet PySem.F.plain_extend_loop _, ?_⟩) (by rw [List.size_toArray]; exact small) (by
   show (acc.toArray.push (Value.ref s.heap.objs.size)).size <= sizeLine + 1
   rw [Array.size_push, List.size_toArray]
   omega))
  have gS2 := PySem.IsL.update gS' (fun b => b.push (Value.ref s.heap.objs.size))
  have e2 : (acc.toArray.push (Value.ref s.heap.objs.size)) = (acc ++ [Value.ref s.heap.objs.size]).toArray := by simp
  rw [e2] at gS2
  refine ih (i + 1) _ (upd H s.heap.objs.size (.tup [xs[i], ys[i]'(by omega)])) (ts ++ [.ref s.heap.objs.size]) (acc ++ [.ref s.heap.objs.size]) _ (by omega) hlt (L'.push O (fun b o hb e => (Heap.get?_update_other _ _ (Ne.symm hb)).trans e) (Heap.size_update ..)) gS2 (rv.append (show Vals [V.ref s.heap.objs.size] [Value.ref s.heap.objs.size] from .cons rfl .nil)) ?_
  have zp : (xs.zip ys)[i]? = some (xs[i], ys[i]'(by omega)) := by simp [List.getElem?_zip_eq_some, hlt]
  rw [take_snoc zp]
  exact (Paired.imp' (fun _ _ z => z.same (Same.new hT)) prs).snoc ⟨_, rfl, upd_same⟩
theorem zip_no_len : typeLookup (.type "zip") "__len__" = pure Option.none := by rw [typeLookup_type, builtinLookup_eq_fast]; kernel_rfl
theorem zip_no_hint : typeLookup (.type "zip") "__length_hint__" = pure Option.none := by rw [typeLookup_type, builtinLookup_eq_fast]; kernel_rfl
theorem zip_init {A' : Around} {R : Result -> Shared -> Prop} (hh : A'.handled = none) (O : a.Ok) (hz : xs.length <= sizeLine) (hl : ys.length = xs.length) (q1 : SqL X.K H1 l1 xs) (q2 : SqL X.K H1 l2 ys) (L : LzI X pins σ H1 a l1 l2 0 H s) (gS : s.heap.get? a.S = some (lobj [] 0)) (z0 : IsZip s.heap a.z a.TI a.TO .none)
  (fin : ∀ s' H' ts acc c, Inv X pins σ H' s' -> Same H1 H' -> FpOk X pins H' a.S -> s'.heap.get? a.S = some (lobj acc c) -> Vals ts acc -> Paired (PrR H') (xs.zip ys) ts -> R (.ok (.ret .none)) s') :
  wpAny (model X.prog X.w) A'.in1 (Builtin.«list.__init__» ⟨[.ref a.S, .ref a.z], []⟩) (fun fl s' => match fl with | .done f => R (.ok f) s' | .again c' => c'.quiet = true /\ codeAny (model X.prog X.w) A' c' R s') (fun e s' => R (.error e) s') s := by
 change wpAny _ A'.in1 (do let old <- Builtin.List.listItems (Value.ref a.S); Builtin.List.listUpdate (Value.ref a.S) (fun _ => #[]); letGo old.toList.reverse; Builtin.List.listExtendWith (Value.ref a.S) (Value.ref a.z) Value.none) _ _ s
 refine wpAny_bind ?_
 unfold Builtin.List.listItems
 refine wpAny_bind (wpAny_seqItems gS rfl (wpAny_pure ?_))
 change wpAny _ A'.in1 (updateSeq a.S (fun _ => #[]) >>= fun _ => letGo (#[] : Array Value).toList.reverse >>= fun _ => Builtin.List.listExtendWith (Value.ref a.S) (Value.ref a.z) Value.none) _ _ s
 refine wpAny_bind (wpAny_updateSeq gS rfl ?_)
 have g1 := PySem.IsL.update gS (fun _ => (#[] : Array Value))
 obtain ⟨n1, g1⟩ : ∃ n1, (s.heap.update a.S (Obj.mapSeq fun _ => (#[] : Array Value))).get? a.S = some (lobj [] n1) := ⟨_, g1⟩
 have L1 := L.push (h' := s.heap.update a.S (Obj.mapSeq fun _ => (#[] : Array Value))) O (fun b o hb e => (Heap.get?_update_other _ _ (Ne.symm hb)).trans e) (Heap.size_update ..)
 have z1 : IsZip (s.heap.update a.S (Obj.mapSeq fun _ => (#[] : Array Value))) a.z a.TI a.TO .none := (Heap.get?_update_other _ _ O.Sz).trans z0
 refine wpAny_bind (wpAny_letGo ?_)
 unfold Builtin.List.listExtendWith
 have ty : Shared.TypeIs { s with heap := s.heap.update a.S (Obj.mapSeq fun _ => (#[] : Array Value)) } (.ref a.z) "zip" := ⟨_, z1, rfl⟩
 refine wpAny_bind (wpAny_typeOf ty ?_)
 have h1 : Builtin.List.listSameRef (.ref a.S) (.ref a.z) = false := by simp [Builtin.List.listSameRef, O.Sz]
 have h2 : (Value.type "zip" == Value.type "list") = false := by decide
 have h3 : (Value.type "zip" == Value.type "tuple") = false := by decide
 simp only [h1, h2, h3, Bool.or_false, Bool.false_eq_true, if_false]
 refine wpAny_bind (wpAny_pyIter_zip z1 (wpAny_bind (wpAny_holding ?_)))
 unfold Builtin.List.listLengthHint
 refine wpAny_bind (wpAny_specialOf ty zip_no_len ?_)
 change wpAny _ A'.in1 (specialOf (Value.ref a.z) (Str.ofString "__length_hint__") >>= _) _ _ _
 refine wpAny_bind (wpAny_specialOf ty zip_no_hint (wpAny_pure ?_))
 change wpAny _ A'.in1 (rule "list.extend.makes-room" >>= fun _ => Builtin.List.listTouch (Value.ref a.S) >>= fun _ => again (.builtin "list.extend.loop" ⟨[Value.ref a.S, Value.ref a.z, Value.none], []⟩)) _ _ _
 refine wpAny_bind (wpAny_rule (wpAny_bind ?_))
 change wpAny _ A'.in1 (updateSeq a.S (·.push Value.none) >>= fun _ => updateSeq a.S (·.pop)) _ _ _
 refine wpAny_bind (wpAny_updateSeq g1 rfl ?_)
 have g2 := PySem.IsL.update g1 (fun b => b.push Value.none)
 obtain ⟨n2, g2⟩ : ∃ n2, ((s.heap.update a.S (Obj.mapSeq fun _ => (#[] : Array Value))).update a.S (Obj.mapSeq fun b => b.push Value.none)).get? a.S = some (lobj [Value.none] n2) := ⟨_, g2⟩
 have L2 := L1.push (h' := (s.heap.update a.S (Obj.mapSeq fun _ => (#[] : Array Value))).update a.S (Obj.mapSeq fun b => b.push Value.none)) O (fun b o hb e => (Heap.get?_update_other _ _ (Ne.symm hb)).trans e) (Heap.size_update ..)
 refine wpAny_updateSeq g2 rfl ?_ (short_ok rfl)
 have g3 := PySem.IsL.update g2 (fun b => b.pop)
 have L3 := L2.push (h' := ((s.heap.update a.S (Obj.mapSeq fun _ => (#[] : Array Value))).update a.S (Obj.mapSeq fun b => b.push Value.none)).update a.S (Obj.mapSeq fun b => b.pop)) O (fun b o hb e => (Heap.get?_update_other _ _ (Ne.symm hb)).trans e) (Heap.size_update ..)
 exact wpAny_pure ⟨plainId_quiet PySem.F.plain_extend_loop _, zip_fill hh O hz hl q1 q2 fin _ 0 _ H [] [] _ rfl (Nat.zero_le _) L3 g3 .nil .nil⟩
end

section
variable {X : Cx}
theorem zad_ok (n : Nat) : Zad.Ok ⟨n + 4, n + 2, n + 3, n, n + 1, n + 5, n + 5 + 1⟩ := by
 have ne : ∀ p q : Nat, p ≠ q -> @Ne Addr p q := fun _ _ h => h
 refine ⟨ne (n + 2) (n + 3) (by omega), ne n (n + 1) (by omega), ne (n + 5) (n + 4) (by omega), ne (n + 5) (n + 2) (by omega), ne (n + 5) (n + 3) (by omega), ne (n + 5) n (by omega), ne (n + 5) (n + 1) (by omega), fun b hb => ?_⟩
 have hb' : b ∈ [n + 4, n + 2, n + 3, n, n + 1, n + 5] := hb
 show @LT.lt Nat instLTNat b (n + 5 + 1)
 simp only [List.mem_cons, List.not_mem_nil, or_false] at hb'
 rcases hb' with e | e | e | e | e | e <;> (rw [e]; exact Nat.lt_of_lt_of_le (Nat.lt_succ_self _) (by omega))
def tListZip (K : PySem.W.Frag) (ta : TA) : TE := fun σ H Q => ta σ H fun vs H1 => ∃ (l1 l2 : Addr) (xs ys : List V), vs = [.ref l1, .ref l2] /\ SqL K H1 l1 xs /\ SqL K H1 l2 ys /\ ys.length = xs.length ∧
 ∀ L ts H', Same H1 H' -> H1 L = none -> H' L = some (.lst ts) -> Paired (PrR H') (xs.zip ys) ts -> Q (.ref L) H'
theorem pe_listZip {e1 e2 : Expr} {ta : TA} {p p2 pos pos2 : Pos} (hg : Gl X "list") (hm : X.mg "list" = none) (hg2 : Gl X "zip") (hm2 : X.mg "zip" = none) (ha : PA X [e1, e2] ta) (hc : X.calm = true := by rfl)
  (hs : starEach [e1, e2] X.env = [(false, eval e1 X.env), (false, eval e2 X.env)] := by rfl) (hs2 : starEach [e2] X.env = [(false, eval e2 X.env)] := by rfl)
  (hs3 : starEach [Expr.Call (.Name "zip" p2) [e1, e2] [] pos2] X.env = [(false, eval (.Call (.Name "zip" p2) [e1, e2] [] pos2) X.env)] := by rfl) :
  PE X (.Call (.Name "list" p) [.Call (.Name "zip" p2) [e1, e2] [] pos2] [] pos) (tListZip X.K ta) := by
 intro pins s σ H Q I h
 refine wpAny_Call_Name_kw (ld_blt I hg hm boot_list ?_)
 refine PyProof.Rows.callWith_type1 ?_ (by rw [hs3]; rfl) rfl
 rw [hs3]
 show wpAny _ _ (spliced ((false, eval (.Call (.Name "zip" p2) [e1, e2] [] pos2) X.env) :: [])) _ _ s
 refine Calls.spliced_cons ?_
 refine Call_ (ld_blt I hg2 hm2 boot_zip (PyProof.Rows.callWith_type1 (thn (ha pos2 pins s σ H _ I h) fun us s1 ⟨vs, H1, I1, r1, q1⟩ => ?_) (by rw [hs, hs2]) (by rw [hs2]; rfl)))
 obtain ⟨l1, l2, xs, ys, e, qx, qy, hl, q⟩ := q1
 subst e
 obtain ⟨u, v, rfl, ru, rv⟩ := vals2 r1
 cases ru
 cases rv
 obtain ⟨us, rx, px, hz⟩ := I1.list qx
 obtain ⟨ws, ry, py, _⟩ := I1.list qy
 refine call_zip_2 px.isList py.isList fun h' a1 a2 a3 a4 a5 a6 hk => ?_
 refine Calls.spliced_nil ?_
 have I2 : Inv X pins σ H1 { s1 with heap := h' } := I1.kept (t' := s1.toks) hk
 have up : ∀ b o, h'.get? b = some o -> (h'.push { cls := .type "list", data := .seq #[] }).get? b = some o := fun b o e => Heap.get?_push_of_some _ e
 have O : Zad.Ok ⟨s1.heap.objs.size + 4, s1.heap.objs.size + 2, s1.heap.objs.size + 3, s1.heap.objs.size, s1.heap.objs.size + 1, h'.objs.size, h'.objs.size + 1⟩ := by
  rw [a6]
  exact zad_ok s1.heap.objs.size
 have old : ∀ b ∈ (Zad.mk (s1.heap.objs.size + 4) (s1.heap.objs.size + 2) (s1.heap.objs.size + 3) s1.heap.objs.size (s1.heap.objs.size + 1) h'.objs.size (h'.objs.size + 1)).all, s1.heap.objs.size <= b := fun b hb => by
  rw [a6] at hb
  simp only [Zad.all, List.mem_cons, List.not_mem_nil, or_false] at hb
  rcases hb with rfl | rfl | rfl | rfl | rfl | rfl <;> first | exact Nat.le_add_right _ _ | exact Nat.le_refl _
 have gS : (h'.push { cls := .type "list", data := .seq #[] }).get? h'.objs.size = some (lobj [] 0) := Heap.get?_push_size _ rfl
 refine callType_codes (Q₁ := fun ob t => ob = .ref h'.objs.size /\ t = { s1 with heap := h'.push { cls := .type "list", data := .seq #[] } }) PySem.F.called_list (PySem.F.typeCall_list_1 _) PySem.F.entry_list_init (code_list_new _ ⟨rfl, rfl⟩) fun ob t ht => ?_
 obtain ⟨rfl, rfl⟩ := ht
 refine ⟨⟨_, gS, rfl⟩, PySem.F.args_list_init_2 _ _, ?_⟩
 have L : LzI X pins σ H1 ⟨s1.heap.objs.size + 4, s1.heap.objs.size + 2, s1.heap.objs.size + 3, s1.heap.objs.size, s1.heap.objs.size + 1, h'.objs.size, h'.objs.size + 1⟩ l1 l2 0 H1 { s1 with heap := h'.push { cls := .type "list", data := .seq #[] } } :=
  ⟨I2.kept (t' := s1.toks) up, Same.refl _, fun b hb => I1.fpOk (old b hb) (I1.hok.fresh (old b hb)), by rw [Heap.size_push]; exact Nat.le_refl _, ⟨⟨_, _, up _ _ a3⟩, .inl (up _ _ a1)⟩, up _ _ a2, a4.at fun o e => up _ o e, a5.at fun o e => up _ o e⟩
 refine zip_init (A' := X.A.in1) (I.ok.hd hc) O hz hl qx qy L gS (up _ _ a1) fun s' H' ts acc c I' sm fS gS' vs' prs => ⟨rfl, ?_⟩
 have nS : H1 h'.objs.size = none := I1.hok.fresh (old _ (by simp [Zad.all]))
 have lt := prs.length
 rw [List.length_zip] at lt
 exact ⟨.ref h'.objs.size, _, I'.track (o := .lst ts) fS ⟨by omega, acc, c, vs', gS'⟩, rfl, q _ ts _ (sm.trans (Same.new fS.1)) nS upd_same (Paired.imp' (fun _ _ z => z.same (Same.new fS.1)) prs)⟩
end
end L2
namespace Nm
def lcmL : List Int -> Int -> Int
 | [], m => m
 | b :: r, m => lcmL r (m * (b / g m b))
theorem lcm_step_pos {m b : Int} (hm : 0 < m) (hb : 0 < b) : 0 < m * (b / g m b) := Int.mul_pos hm (hi_pos (t := m) hb)
theorem lcm_step_dvd {m b : Int} : b ∣ m * (b / g m b) := by
 have h1 := lo_mul m b
 refine ⟨lo m b, ?_⟩
 have h2 : b / g m b * g m b = b := hi_mul m b
 calc m * (b / g m b) = lo m b * g m b * (b / g m b) := by rw [h1]
  _ = lo m b * (b / g m b * g m b) := by rw [Int.mul_assoc, Int.mul_comm (g m b)]
  _ = b * lo m b := by rw [h2, Int.mul_comm]
theorem lcmL_pos : ∀ {bs : List Int} {m : Int}, 0 < m -> (∀ b ∈ bs, 0 < b) -> 0 < lcmL bs m
 | [], _, hm, _ => hm
 | b :: r, m, hm, h => lcmL_pos (bs := r) (lcm_step_pos hm (h b List.mem_cons_self)) fun c hc => h c (List.mem_cons_of_mem _ hc)
theorem lcmL_acc : ∀ {bs : List Int} {m : Int}, m ∣ lcmL bs m
 | [], _ => Int.dvd_refl _
 | b :: r, m => Int.dvd_trans (Int.dvd_mul_right m _) (lcmL_acc (bs := r))
theorem lcmL_dvd : ∀ {bs : List Int} {m b : Int}, b ∈ bs -> b ∣ lcmL bs m
 | c :: r, m, b, h => by
  rcases List.mem_cons.mp h with rfl | h
  ·exact Int.dvd_trans lcm_step_dvd (lcmL_acc (bs := r))
  ·exact lcmL_dvd (bs := r) h
end Nm
namespace L2
open PySem PySem.Spec PyProof.Rows Nm
def RowK (K : PySem.W.Frag) (H : Hp) (p : Addr) (ns : List (Int × Int)) : Prop := ∃ xs, H p = some (.lst xs) /\ Paired (fun n x => NumR K H x n) ns xs
theorem RowK.same {K : PySem.W.Frag} {H H' : Hp} {p : Addr} {ns : List (Int × Int)} (h : RowK K H p ns) (e : Same H H') : RowK K H' p ns := let ⟨xs, g, q⟩ := h; ⟨xs, e _ _ g, Paired.imp' (fun _ _ z => e.num z) q⟩
def rIsTK (K : PySem.W.Frag) (T : String) : V -> Hp -> VK -> Prop := fun x H Q => rIsT K T x H Q ∨ ∃ a xs b, x = .ref a /\ SqT K H a xs /\ PySem.W.kitOne K (.type "tuple") (.type T) = some b /\ Q (.bl b) H
theorem lcmL_snoc : ∀ {bs : List Int} {m b : Int}, lcmL (bs ++ [b]) m = lcmL bs m * (b / g (lcmL bs m) b)
 | [], _, _ => rfl
 | c :: r, m, b => lcmL_snoc (bs := r)
def topsL (ns : List (Int × Int)) (B : Int) : List Int := ns.map fun n => n.1 * (B / n.2)
def botL (ns : List (Int × Int)) : Int := lcmL (ns.map (·.2)) 1
def dotL (ns ms : List (Int × Int)) : Int := (List.zipWith (· * ·) (topsL ns (botL ns)) (topsL ms (botL ms))).sum
theorem botL_dvd {ns : List (Int × Int)} {n : Int × Int} (h : n ∈ ns) : n.2 ∣ botL ns := lcmL_dvd (List.mem_map.mpr ⟨n, h, rfl⟩)
theorem rd_listZip {σ : St} {H : Hp} {Q : VK} {K : PySem.W.Frag} {ta : TA} (h : ta σ H fun vs H1 => ∃ (l1 l2 : Addr) (xs ys : List V), vs = [.ref l1, .ref l2] /\ SqL K H1 l1 xs /\ SqL K H1 l2 ys /\ ys.length = xs.length ∧
 ∀ L ts H', Same H1 H' -> H1 L = none -> H' L = some (.lst ts) -> Paired (PrR H') (xs.zip ys) ts -> Q (.ref L) H') : tListZip K ta σ H Q := h
theorem g_le {m b : Int} (hb : 0 < b) {k : Nat} (h : Sz k b) : Sz k (g m b) := h.le (by
 have h1 : (g m b).natAbs = Int.gcd m b := by unfold g; simp
 rw [h1]
 exact Nat.le_of_dvd (by omega) (by have := Int.gcd_dvd_right (a := m) (b := b); exact Int.natAbs_dvd_natAbs.mpr this |> fun z => by simpa using z))
theorem zip_int {ts us : List Int} {i : Nat} {pq : V × V} (h : ((ts.map V.int).zip (us.map V.int))[i]? = some pq) : ∃ t u, ts[i]? = some t /\ us[i]? = some u /\ pq = (.int t, .int u) := by
 rw [List.getElem?_zip_eq_some, List.getElem?_map, List.getElem?_map] at h
 obtain ⟨h1, h2⟩ := h
 cases e1 : ts[i]? with
 | none => rw [e1] at h1; cases h1
 | some t =>
  cases e2 : us[i]? with
  | none => rw [e2] at h2; cases h2
  | some u =>
   rw [e1] at h1
   rw [e2] at h2
   refine ⟨t, u, rfl, rfl, ?_⟩
   cases pq
   simp at h1 h2
   rw [h1, h2]
def sp_isrowK (K : PySem.W.Frag) : Sp := fun vs H Q _ => ∃ (p : Addr) (ns : List (Int × Int)), vs = [.ref p, .int ns.length] /\ RowK K H p ns /\ ns.length <= 1000 /\ (∀ n ∈ ns, NumOk n) /\ ∀ H', Same H H' -> Q (.bl true) H'
theorem pe_isTK {X : Cx} {a : Expr} {ta : TE} {pos : Pos} {c : Str} {T : String} {p p2 : Pos} (hg : Gl X "isinstance") (hm : X.mg "isinstance" = none) (hb : bootBuiltins c = some (.type T)) (hmc : X.mg c = none) (ha : PE X a ta) (hgc : Gl X c := by rfl) (hn : c ≠ "__name__" := by decide)
  (hd : (c == ("__debug__" : Str)) = false := by decide) (he : starEach [a, .Name c p2] X.env = [(false, eval a X.env), (false, eval (.Name c p2) X.env)] := by rfl)
  (hpl : (backTo pos (starEach [.Name c p2] X.env)).any (·.1) = false := by rfl) (he2 : starEach [.Name c p2] X.env = [(false, eval (.Name c p2) X.env)] := by rfl) : PE X (.Call (.Name "isinstance" p) [a, .Name c p2] [] pos) (tUn (rIsTK X.K T) ta) := by
 intro pins s σ H Q I h
 refine wpAny_Call_Name_kw (ld_blt I hg hm PyProof.Rows.boot_isinstance ?_)
 have hA : PA X [a, .Name c p2] (tCons ta (tCons (tC (.ty T)) tNil)) := pa_cons ha (pa_cons (pe_bltn hgc hmc hb rfl hn hd) pa_nil he2) (by rw [he, he2])
 have hq : tCons ta (tCons (tC (.ty T)) tNil) σ H (fun vs H1 => ∃ x, vs = [x, .ty T] /\ rIsTK X.K T x H1 Q) := by
  show ta σ H fun x H1 => ∃ x', [x, V.ty T] = [x', V.ty T] /\ rIsTK X.K T x' H1 Q
  have e : (fun x H1 => ∃ x', [x, V.ty T] = [x', V.ty T] /\ rIsTK X.K T x' H1 Q) = fun x H1 => rIsTK X.K T x H1 Q := by
   funext x H1
   apply propext
   constructor
   ·rintro ⟨x', e, q⟩; cases e; exact q
   ·intro q; exact ⟨x, rfl, q⟩
  rw [e]
  exact h
 refine PyProof.Rows.callWith_builtin1 (thn (hA pos pins s σ H _ I hq) fun us s1 ⟨vs, H1, I1, r1, x, e, q1⟩ => ?_) (by rw [he, he2]) hpl
 subst e
 obtain ⟨u, w', rfl, ru, rt⟩ := vals2 r1
 cases rt
 rcases q1 with ⟨t, bb, ty, ek, q⟩ | ⟨ad, xs, bb, rfl, hs, ek, q⟩
 ·exact isinst_ok I1 ru ty ek fun tk => ⟨.bl bb, H1, I1.tok tk, rfl, q⟩
 ·cases ru
  obtain ⟨its, _, ⟨o, g1, g2, _⟩, _⟩ := I1.tuple hs
  exact PySem.W.kia_one PySem.W.kitx_tuple I1.kIn ⟨o, g1, g2⟩ ek (fun z => nomatch z) fun tk => ⟨.bl bb, H1, I1.tok tk, rfl, q⟩
end L2
namespace L2
open PySem PySem.Spec PyProof.Rows Nm
theorem rd_rep {H : Hp} {Q : VK} {l : Addr} {k : Nat} {x : V} (h : H l = some (.lst [x])) (hk : k <= 1000) (q : ∀ p H', Same H H' -> H p = none -> H' p = some (.lst (List.replicate k x)) -> Q (.ref p) H') : rRep (.ref l) (.int k) H Q :=
 ⟨l, k, [x], rfl, rfl, h, by omega, by omega, Nat.le_of_lt (small1000 (by simp; omega)), fun p hp => q p _ (Same.new hp) hp (by rw [upd_same]; simp)⟩
theorem cut_to {xs : List V} {k : Nat} (h : k <= xs.length) : cutV xs none (some (k : Int)) = xs.take k := by
 unfold cutV
 rw [HT.sIx_none, HT.sIx_nat, Nat.min_eq_left h]
 simp
theorem paired_rep {α β : Type} {F : α -> β -> Prop} {x : α} {y : β} (h : F x y) : ∀ m : Nat, Paired F (List.replicate m x) (List.replicate m y)
 | 0 => .nil
 | m + 1 => .cons h (paired_rep h m)
theorem ixN_nat {n a : Nat} (h : a < n) : ixN n (a : Int) = some a := by
 unfold ixN
 rw [if_pos (by omega), if_pos (by omega), Int.toNat_natCast]
theorem cut_upto {xs : List V} {k : Nat} : cutV xs none (some (k : Int)) = xs.take k := by
 by_cases h : k <= xs.length
 ·exact cut_to h
 ·unfold cutV
  rw [HT.sIx_none, HT.sIx_nat, Nat.min_eq_right (by omega), List.take_of_length_le (by simp), List.take_of_length_le (by omega)]
  rfl
theorem paired_take {α β : Type} {F : α -> β -> Prop} : ∀ {l1 : List α} {l2 : List β} (_ : Paired F l1 l2) (k : Nat), Paired F (l1.take k) (l2.take k)
 | _, _, .nil, k => by simp; exact .nil
 | _, _, .cons h r, 0 => .nil
 | _, _, .cons h r, k + 1 => .cons h (paired_take r k)
end L2
namespace L2
open PySem PySem.Spec PyProof.Rows Nm
def rListOf (K : PySem.W.Frag) : List V -> Hp -> VK -> Prop := fun xs H Q => ∃ p ys, xs = [.ref p] /\ (SqL K H p ys ∨ SqT K H p ys) /\ ∀ l, H l = none -> Q (.ref l) (upd H l (.lst ys))
theorem call_list_ofK {X : Cx} (K : PySem.W.Frag) (hK : X.K = K) : CallR X (.type "list") (rListOf K) := by subst hK; exact call_list_of
theorem Same.none {H H' : Hp} {l : Addr} (s : Same H H') (h : H' l = Option.none) : H l = Option.none := by
 cases e : H l with
 | none => rfl
 | some o => have := s _ _ e; rw [h] at this; cases this
theorem sz_mil {b : Int} (h : b.natAbs <= 1000000) : Sz 20 b := Nat.lt_of_le_of_lt h (by decide)
theorem Upto.none {H H' : Hp} {b l : Addr} (u : Upto b H H') (B : Bag H' b) (h : H' l = Option.none) : H l = Option.none := by
 cases e : H l with
 | none => rfl
 | some o =>
  by_cases z : l = b
  ·obtain ⟨_, _, _, _, _, e2, _⟩ := B
   rw [<- z, h] at e2
   cases e2
  ·have := u.1 l o e z
   rw [h] at this
   cases this
end L2
namespace Nm
def nm (q : Rat) : Int × Int := (q.num, (q.den : Int))
theorem nm_pos (q : Rat) : 0 < (nm q).2 := by have := q.den_pos; show 0 < (q.den : Int); omega
theorem nm_gcd (q : Rat) : Int.gcd (nm q).1 (nm q).2 = 1 := q.reduced
theorem nm_inj {p q : Rat} (h : nm p = nm q) : p = q := by
 have h1 : p.num = q.num := congrArg Prod.fst h
 have h2 : (p.den : Int) = q.den := congrArg Prod.snd h
 exact Rat.ext h1 (by omega)
theorem num_val (q : Rat) : (q.num : Rat) = q * (q.den : Rat) := by
 have h := Rat.num_divInt_den q
 rw [Rat.divInt_eq_div] at h
 have hd : ((q.den : Int) : Rat) ≠ 0 := by
  intro z
  have z := Rat.intCast_eq_zero_iff.mp z
  have := q.den_pos
  omega
 have e : ((q.den : Int) : Rat) = (q.den : Rat) := Rat.intCast_natCast _
 calc (q.num : Rat) = (q.num : Rat) / ((q.den : Int) : Rat) * ((q.den : Int) : Rat) := (Rat.div_mul_cancel hd).symm
  _ = q * (q.den : Rat) := by rw [h, e]
theorem nm_of {a b : Int} {q : Rat} (hb : 0 < b) (hg : Int.gcd a b = 1) (e : q * (b : Rat) = (a : Rat)) : (a, b) = nm q := by
 have h1 : a * (q.den : Int) = q.num * b := by
  apply Rat.intCast_inj.mp
  rw [Rat.intCast_mul, Rat.intCast_mul, <- e, num_val, Rat.intCast_natCast]
  grind
 obtain ⟨e1, e2⟩ := uniq hb (nm_pos q) hg (nm_gcd q) h1
 exact Prod.ext e1 e2
theorem lohi_nm {t b : Int} {q : Rat} (hb : 0 < b) (e : q * (b : Rat) = (t : Rat)) : (lo t b, hi t b) = nm q := by
 refine nm_of (hi_pos hb) (lohi_gcd (by omega)) ?_
 have h := lohi_cross t b
 have hb' : (b : Rat) ≠ 0 := fun z => by have := Rat.intCast_eq_zero_iff.mp z; omega
 have h2 : ((lo t b : Int) : Rat) * (b : Rat) = (t : Rat) * ((hi t b : Int) : Rat) := by rw [<- Rat.intCast_mul, h, Rat.intCast_mul]
 rw [<- e] at h2
 have h3 : (q * ((hi t b : Int) : Rat) - ((lo t b : Int) : Rat)) * (b : Rat) = 0 := by grind
 rcases Rat.mul_eq_zero.mp h3 with h4 | h4
 ·grind
 ·exact absurd h4 hb'
def Fr (M V : Nat) (q : Rat) : Prop := ∃ z : Int, q * (M : Rat) = (z : Rat) /\ z.natAbs <= V * M
theorem Fr.mono {M V V' : Nat} {q : Rat} (h : Fr M V q) (l : V <= V') : Fr M V' q := let ⟨z, e, b⟩ := h; ⟨z, e, Nat.le_trans b (Nat.mul_le_mul_right _ l)⟩
theorem Fr.scale {M V : Nat} {q : Rat} (h : Fr M V q) (k : Nat) : Fr (M * k) V q := by
 obtain ⟨z, e, b⟩ := h
 refine ⟨z * k, ?_, ?_⟩
 ·rw [Rat.natCast_mul, Rat.intCast_mul, <- e, Rat.intCast_natCast, Rat.mul_assoc]
 ·rw [Int.natAbs_mul, Int.natAbs_natCast, <- Nat.mul_assoc]
  exact Nat.mul_le_mul_right _ b
theorem Fr.scaleL {M V : Nat} {q : Rat} (h : Fr M V q) (k : Nat) : Fr (k * M) V q := by rw [Nat.mul_comm]; exact h.scale k
theorem Fr.dvd {M N V : Nat} {q : Rat} (h : Fr M V q) (d : M ∣ N) : Fr N V q := by obtain ⟨k, rfl⟩ := d; exact h.scale k
theorem Fr.add {M V W : Nat} {p q : Rat} (h : Fr M V p) (h' : Fr M W q) : Fr M (V + W) (p + q) := by
 obtain ⟨z, e, b⟩ := h
 obtain ⟨z', e', b'⟩ := h'
 refine ⟨z + z', by rw [Rat.intCast_add, <- e, <- e', Rat.add_mul], ?_⟩
 rw [Nat.add_mul]
 have := Int.natAbs_add_le z z'
 omega
theorem Fr.neg {M V : Nat} {q : Rat} (h : Fr M V q) : Fr M V (-q) := by
 obtain ⟨z, e, b⟩ := h
 exact ⟨-z, by rw [Rat.intCast_neg, <- e, Rat.neg_mul], by rw [Int.natAbs_neg]; exact b⟩
theorem Fr.mul {M N V W : Nat} {p q : Rat} (h : Fr M V p) (h' : Fr N W q) : Fr (M * N) (V * W) (p * q) := by
 obtain ⟨z, e, b⟩ := h
 obtain ⟨z', e', b'⟩ := h'
 refine ⟨z * z', ?_, ?_⟩
 ·rw [Rat.natCast_mul, Rat.intCast_mul, <- e, <- e']; grind
 ·rw [Int.natAbs_mul]
  calc z.natAbs * z'.natAbs <= (V * M) * (W * N) := Nat.mul_le_mul b b'
   _ = V * W * (M * N) := by rw [Nat.mul_assoc, Nat.mul_left_comm M, <- Nat.mul_assoc]
theorem Fr.zero {M V : Nat} : Fr M V 0 := ⟨0, by simp, by simp⟩
theorem Fr.int {M V : Nat} {i : Int} (h : i.natAbs <= V) : Fr M V (i : Rat) := ⟨i * M, by rw [Rat.intCast_mul, Rat.intCast_natCast], by rw [Int.natAbs_mul, Int.natAbs_natCast]; exact Nat.mul_le_mul_right _ h⟩
theorem Fr.one {M V : Nat} (h : 1 <= V) : Fr M V 1 := Fr.int (i := 1) h
theorem Fr.den {M V : Nat} {q : Rat} (h : Fr M V q) : (q.den : Int) ∣ (M : Int) := by
 obtain ⟨z, e, b⟩ := h
 have h1 : q.num * (M : Int) = z * (q.den : Int) := by
  apply Rat.intCast_inj.mp
  rw [Rat.intCast_mul, Rat.intCast_mul, <- e, num_val, Rat.intCast_natCast, Rat.intCast_natCast]
  grind
 have h2 : (q.den : Int) ∣ q.num * (M : Int) := ⟨z, by rw [h1, Int.mul_comm]⟩
 exact dvd_of_cop (by rw [Int.gcd_comm]; exact nm_gcd q) h2
theorem Fr.den_le {M V : Nat} {q : Rat} (h : Fr M V q) (hM : 0 < M) : q.den <= M := Nat.le_of_dvd hM (Int.natCast_dvd_natCast.mp h.den)
theorem Fr.num_le {M V : Nat} {q : Rat} (h : Fr M V q) (hM : 0 < M) : q.num.natAbs <= V * M := by
 have hd := h.den
 obtain ⟨z, e, b⟩ := h
 obtain ⟨k, hk⟩ := Int.natCast_dvd_natCast.mp hd
 have hk0 : k ≠ 0 := fun z => by rw [z, Nat.mul_zero] at hk; omega
 have h1 : z = q.num * (k : Int) := by
  apply Rat.intCast_inj.mp
  rw [Rat.intCast_mul, <- e, num_val, Rat.intCast_natCast, hk, Rat.natCast_mul]
  grind
 rw [h1] at b
 exact Nat.le_trans (natAbs_mul_le (by omega)) b
theorem Fr.own (q : Rat) {V : Nat} (h : q.num.natAbs <= V) : Fr q.den V q := ⟨q.num, (num_val q).symm, Nat.le_trans h (Nat.le_mul_of_pos_right _ q.den_pos)⟩
theorem Fr.sz {M V k j : Nat} {q : Rat} (h : Fr M V q) (hM : 0 < M) (h1 : M <= 2 ^ k) (h2 : V <= 2 ^ j) : Sz (j + k + 1) (nm q).1 /\ Sz (k + 1) (nm q).2 := by
 constructor
 ·show q.num.natAbs < 2 ^ (j + k + 1)
  have h3 := h.num_le hM
  have h4 : V * M <= 2 ^ j * 2 ^ k := Nat.mul_le_mul h2 h1
  rw [Nat.pow_succ, Nat.pow_add]
  have := Nat.two_pow_pos (j + k)
  rw [Nat.pow_add] at this
  omega
 ·show (q.den : Int).natAbs < 2 ^ (k + 1)
  have h3 := h.den_le hM
  rw [Int.natAbs_natCast, Nat.pow_succ]
  have := Nat.two_pow_pos k
  omega
theorem Fr.sum {M V : Nat} : ∀ {l : List Rat}, (∀ x ∈ l, Fr M V x) -> Fr M (l.length * V) l.sum
 | [], _ => by simp; exact Fr.zero
 | x :: r, h => by
  rw [List.sum_cons, List.length_cons, Nat.succ_mul, Nat.add_comm]
  exact (h x (.head _)).add (Fr.sum fun y hy => h y (.tail _ hy))
def dotQ (xs ys : List Rat) : Rat := (List.zipWith (· * ·) xs ys).sum
theorem Fr.dot {M N V W : Nat} {xs ys : List Rat} (h : ∀ x ∈ xs, Fr M V x) (h' : ∀ y ∈ ys, Fr N W y) : Fr (M * N) (xs.length * (V * W)) (dotQ xs ys) := by
  have q := Fr.sum (M := M * N) (V := V * W) (l := List.zipWith (· * ·) xs ys) fun z hz => by
    obtain ⟨i, hi, e⟩ := List.getElem_of_mem hz
    rw [List.getElem_zipWith] at e
    rw [← e]
    exact (h _ (List.getElem_mem _)).mul (h' _ (List.getElem_mem _))
  exact q.mono (Nat.mul_le_mul_right _ (by rw [List.length_zipWith]; omega))
theorem lcmL_to : ∀ {bs : List Int} {m M : Int}, 0 < m -> m ∣ M -> (∀ b ∈ bs, 0 < b /\ b ∣ M) -> lcmL bs m ∣ M
 | [], _, _, _, h, _ => h
 | b :: r, m, M, hm, h, hb => by
  have b1 := hb b List.mem_cons_self
  refine lcmL_to (bs := r) (lcm_step_pos hm b1.1) ?_ fun c hc => hb c (List.mem_cons_of_mem _ hc)
  -- m * (b / gcd) divides M
  have gp : 0 < g m b := g_pos (by omega)
  have e1 := lo_mul m b
  have e2 := hi_mul m b
  obtain ⟨u, hu⟩ := h
  obtain ⟨v, hv⟩ := b1.2
  have h3 : lo m b * u = hi m b * v := by
   apply Int.eq_of_mul_eq_mul_right (show g m b ≠ 0 by omega)
   calc lo m b * u * g m b = lo m b * g m b * u := by rw [Int.mul_assoc, Int.mul_comm u, <- Int.mul_assoc]
    _ = m * u := by rw [e1]
    _ = M := hu.symm
    _ = b * v := hv
    _ = hi m b * g m b * v := by rw [e2]
    _ = hi m b * v * g m b := by rw [Int.mul_assoc, Int.mul_comm (g m b), <- Int.mul_assoc]
  have h4 : hi m b ∣ lo m b * u := ⟨v, h3⟩
  have h5 : hi m b ∣ u := dvd_of_cop (by rw [Int.gcd_comm]; exact lohi_gcd (by omega)) h4
  obtain ⟨w, hw⟩ := h5
  refine ⟨w, ?_⟩
  show M = m * hi m b * w
  rw [hu, hw, Int.mul_assoc]
theorem dvd_sz {a b : Int} {k : Nat} (hb : 0 < b) (d : a ∣ b) (h : Sz k b) : Sz k a := h.le (Nat.le_of_dvd (by omega) (Int.natAbs_dvd_natAbs.mpr d))
end Nm
namespace Nm
def Dr (W : Nat) (x : Rat) : Prop := x.num.natAbs <= W /\ x.den <= W
def prodN : List Nat -> Nat
 | [] => 1
 | a :: r => a * prodN r
theorem prodN_pos : ∀ {l : List Nat}, (∀ a ∈ l, 0 < a) -> 0 < prodN l
 | [], _ => Nat.one_pos
 | a :: r, h => Nat.mul_pos (h a (.head _)) (prodN_pos fun b hb => h b (.tail _ hb))
theorem prodN_dvd : ∀ {l : List Nat} {a : Nat}, a ∈ l -> a ∣ prodN l
 | b :: r, a, h => by
  rcases List.mem_cons.mp h with rfl | h
  ·exact Nat.dvd_mul_right ..
  ·exact Nat.dvd_trans (prodN_dvd h) (Nat.dvd_mul_left ..)
theorem prodN_le {k : Nat} : ∀ {l : List Nat}, (∀ a ∈ l, a <= 2 ^ k) -> prodN l <= 2 ^ (k * l.length)
 | [], _ => by simp [prodN]
 | a :: r, h => by
  rw [List.length_cons, Nat.mul_succ, Nat.pow_add, Nat.mul_comm (2 ^ (k * r.length))]
  exact Nat.mul_le_mul (h a (.head _)) (prodN_le fun b hb => h b (.tail _ hb))
def GF (M V : Nat) (rows : List (List Rat)) : Prop := ∀ xs ∈ rows, ∀ x ∈ xs, Fr M V x
end Nm
namespace L2
open PySem PySem.Spec PyProof.Rows Nm
theorem Upto.sqt {K : PySem.W.Frag} {H H' : Hp} {b a : Addr} {xs : List V} (u : Upto b H H') (B : Bag H b) (h : SqT K H a xs) : SqT K H' a xs := by
 rcases h with (h | ⟨o, h⟩) | h
 ·exact .inl (.inl (u.tup B h))
 ·exact .inl (.inr ⟨o, u.other (fun z => by obtain ⟨_, _, _, _, _, e, _⟩ := B; rw [z, e] at h; cases h) h⟩)
 ·exact .inr h
theorem sqt_updL {K : PySem.W.Frag} {H : Hp} {a l : Addr} {xs ys : List V} {o : HO} (h : SqT K H a xs) (hl : H l = some (.lst ys)) : SqT K (upd H l o) a xs := by
 rcases h with (h | ⟨o, h⟩) | h
 ·exact .inl (.inl (by rw [upd_ne fun z => by rw [z, hl] at h; cases h]; exact h))
 ·exact .inl (.inr ⟨o, by rw [upd_ne fun z => by rw [z, hl] at h; cases h]; exact h⟩)
 ·exact .inr h
def NumQ (K : PySem.W.Frag) (H : Hp) (q : Rat) (x : V) : Prop := NumR K H x (nm q)
section
variable {K : PySem.W.Frag} {H H' : Hp} {q : Rat} {x : V} {b l p : Addr} {qs : List Rat}
theorem NumQ.same (h : NumQ K H q x) (e : Same H H') : NumQ K H' q x := e.num h
theorem NumQ.upto (h : NumQ K H q x) (u : Upto b H H') (B : Bag H b) : NumQ K H' q x := let ⟨p, e, s⟩ := h; ⟨p, e, u.sqt B s⟩
theorem NumQ.updL {ys : List V} {o : HO} (h : NumQ K H q x) (hl : H l = some (.lst ys)) : NumQ K (upd H l o) q x := let ⟨p, e, s⟩ := h; ⟨p, e, sqt_updL s hl⟩
theorem NumQ.mk {r : Addr} {a c : Int} (h : H r = some (.tup [.int a, .int c])) (e : (a, c) = nm q) : NumQ K H q (.ref r) := ⟨r, rfl, by rw [<- e]; exact SqT.of h⟩
def RowQ (K : PySem.W.Frag) (H : Hp) (p : Addr) (qs : List Rat) : Prop := ∃ xs, H p = some (.lst xs) /\ Paired (NumQ K H) qs xs
theorem RowQ.same (h : RowQ K H p qs) (e : Same H H') : RowQ K H' p qs := let ⟨xs, g, r⟩ := h; ⟨xs, e _ _ g, Paired.imp' (fun _ _ z => z.same e) r⟩
theorem RowQ.upto (h : RowQ K H p qs) (u : Upto b H H') (B : Bag H b) (n : p ≠ b) : RowQ K H' p qs := let ⟨xs, g, r⟩ := h; ⟨xs, u.other n g, Paired.imp' (fun _ _ z => z.upto u B) r⟩
theorem RowQ.updL {ys : List V} {o : HO} (h : RowQ K H p qs) (hl : H l = some (.lst ys)) (n : p ≠ l) : RowQ K (upd H l o) p qs := let ⟨xs, g, r⟩ := h; ⟨xs, by rw [upd_ne n]; exact g, Paired.imp' (fun _ _ z => z.updL hl) r⟩
theorem paired_mapL {α β γ : Type} {F : α -> β -> Prop} {f : γ -> α} : ∀ {l : List γ} {l2 : List β}, Paired (fun c x => F (f c) x) l l2 -> Paired F (l.map f) l2
 | _, _, .nil => .nil
 | _, _, .cons r t => .cons r (paired_mapL t)
theorem RowQ.rowK (h : RowQ K H p qs) : RowK K H p (qs.map nm) := let ⟨xs, g, r⟩ := h; ⟨xs, g, paired_mapL (F := fun n x => NumR K H x n) r⟩
def RowF (K : PySem.W.Frag) (H0 H : Hp) (qs : List Rat) (x : V) : Prop := ∃ q, x = V.ref q /\ H0 q = none /\ RowQ K H q qs
def GridQ (K : PySem.W.Frag) (H0 H : Hp) (p : Addr) (rows : List (List Rat)) : Prop := ∃ xs, H p = some (.lst xs) /\ Paired (RowF K H0 H) rows xs /\ V.ref p ∉ xs
theorem notin {H0 : Hp} {K : PySem.W.Frag} {p : Addr} {rows : List (List Rat)} {ys : List V} (h : ∃ H2, H2 p = none /\ Paired (RowF K H0 H2) rows ys) : V.ref p ∉ ys := fun hm => by
 obtain ⟨H2, e, pr⟩ := h
 obtain ⟨qs, _, q, z, _, xs, g, _⟩ := paired_mem pr hm
 cases z
 rw [e] at g; cases g
variable {H0 : Hp} {rows : List (List Rat)}
theorem RowF.same (h : RowF K H0 H qs x) (e : Same H H') : RowF K H0 H' qs x := let ⟨q, a, b, c⟩ := h; ⟨q, a, b, c.same e⟩
theorem RowF.upto (h : RowF K H0 H qs x) (u : Upto b H H') (B : Bag H b) (nb : H0 b ≠ none) : RowF K H0 H' qs x := let ⟨q, a, c, d⟩ := h; ⟨q, a, c, d.upto u B fun z => nb (by rw [<- z]; exact c)⟩
theorem RowF.weak (h : RowF K H0 H qs x) {H1 : Hp} (e : Same H1 H0) : RowF K H1 H qs x := let ⟨q, a, b, c⟩ := h; ⟨q, a, e.none b, c⟩
theorem GridQ.same (h : GridQ K H0 H p rows) (e : Same H H') : GridQ K H0 H' p rows := let ⟨xs, g, r, n⟩ := h; ⟨xs, e _ _ g, Paired.imp' (fun _ _ z => z.same e) r, n⟩
theorem GridQ.upto (h : GridQ K H0 H p rows) (u : Upto b H H') (B : Bag H b) (n : p ≠ b) (nb : H0 b ≠ none) : GridQ K H0 H' p rows := let ⟨xs, g, r, nn⟩ := h; ⟨xs, u.other n g, Paired.imp' (fun _ _ z => z.upto u B nb) r, nn⟩
theorem GridQ.weak (h : GridQ K H0 H p rows) {H1 : Hp} (e : Same H1 H0) : GridQ K H1 H p rows := let ⟨xs, g, r, n⟩ := h; ⟨xs, g, Paired.imp' (fun _ _ z => z.weak e) r, n⟩
end
def kNumQ : Kind Rat := kNum.via nm (fun _ _ e => nm_inj e) (fun K H x q => NumQ K H q x) id
def kRowQ : Kind (List Rat) := kLst kNumQ
def kGridQ : Kind (List (List Rat)) := kLst kRowQ
theorem RowQ.kind {K : PySem.W.Frag} {H : Hp} {p : Addr} {qs : List Rat} (h : RowQ K H p qs) : kRowQ.R K H (.ref p) qs := let ⟨xs, g, q⟩ := h; ⟨p, xs, rfl, SqL.of g, q⟩
theorem GridQ.kind {K : PySem.W.Frag} {H0 H : Hp} {p : Addr} {rows : List (List Rat)} (h : GridQ K H0 H p rows) : kGridQ.R K H (.ref p) rows := let ⟨xs, g, q, _⟩ := h; ⟨p, xs, rfl, SqL.of g, Paired.imp' (fun _ _ ⟨q, a, _, c⟩ => by rw [a]; exact c.kind) q⟩

def SzN (x : Rat) : Prop := Sz 4000 (nm x).1 /\ Sz 4000 (nm x).2
def Fits (l : List Rat) : Prop := ∃ M V : Nat, 0 < M /\ M <= 2 ^ 900 /\ V <= 2 ^ 900 /\ ∀ x ∈ l, Fr M V x
theorem Fits.szn {l : List Rat} (h : Fits l) {x : Rat} (hx : x ∈ l) : SzN x := by
 obtain ⟨M, V, h0, h1, h2, h3⟩ := h
 obtain ⟨a, b⟩ := (h3 x hx).sz h0 h1 h2
 exact ⟨a.mono (by decide), b.mono (by decide)⟩
theorem Fits.ok {l : List Rat} (h : Fits l) {x : Rat} (hx : x ∈ l) : NumOk (nm x) := ⟨nm_pos x, nm_gcd x, (h.szn hx).1.mono (by decide), (h.szn hx).2.mono (by decide)⟩
theorem fr_szn {M V : Nat} {x : Rat} (h0 : 0 < M) (h1 : M <= 2 ^ 1800) (h2 : V <= 2 ^ 1810) (h : Fr M V x) : SzN x := by
 obtain ⟨a, b⟩ := h.sz h0 h1 h2
 exact ⟨a.mono (by decide), b.mono (by decide)⟩
def sp_opQ (K : PySem.W.Frag) (f : Rat -> Rat -> Rat) : Sp := fun vs H Q _ => ∃ (u v : V) (x y : Rat), vs = [u, v] /\ NumQ K H x u /\ NumQ K H y v /\ SzN x /\ SzN y /\ ∀ r H', Same H H' -> NumQ K H' (f x y) (.ref r) -> Q (.ref r) H'
section
variable {K : PySem.W.Frag} {vs : List V} {H : Hp} {Q : VK} {E : XK}
theorem opQ_of {f : Rat -> Rat -> Rat} {F : Int -> Int -> Int -> Int -> Int} (hf : ∀ x y : Rat, (f x y) * (((nm x).2 * (nm y).2 : Int) : Rat) = ((F (nm x).1 (nm x).2 (nm y).1 (nm y).2 : Int) : Rat)) (h : sp_opQ K f vs H Q E) : sp_ar K F vs H Q E := by
 obtain ⟨u, v, x, y, rfl, ⟨p, rfl, hp⟩, ⟨q, rfl, hq⟩, ⟨s1, s2⟩, ⟨s3, s4⟩, k⟩ := h
 refine ⟨p, q, _, _, _, _, rfl, hp, hq, nm_pos x, nm_pos y, s1, s2, s3, s4, fun r H' s g => k r H' s (NumQ.mk g ?_)⟩
 exact lohi_nm (Int.mul_pos (nm_pos x) (nm_pos y)) (hf x y)
theorem num_nm (x : Rat) : (((nm x).1 : Int) : Rat) = x * (((nm x).2 : Int) : Rat) := by
 show (x.num : Rat) = x * (((x.den : Nat) : Int) : Rat)
 rw [num_val, Rat.intCast_natCast]
theorem addQ_of (h : sp_opQ K (fun x y => x + y) vs H Q E) : sp_ar K fPlus vs H Q E := opQ_of (fun x y => by
 unfold fPlus
 rw [Rat.intCast_add, Rat.intCast_mul, Rat.intCast_mul, Rat.intCast_mul, num_nm, num_nm]
 grind) h
theorem subQ_of (h : sp_opQ K (fun x y => x - y) vs H Q E) : sp_ar K fMinus vs H Q E := opQ_of (fun x y => by
 unfold fMinus
 rw [Rat.intCast_sub, Rat.intCast_mul, Rat.intCast_mul, Rat.intCast_mul, num_nm, num_nm]
 grind) h
theorem mulQ_of (h : sp_opQ K (fun x y => x * y) vs H Q E) : sp_ar K fTimes vs H Q E := opQ_of (fun x y => by
 unfold fTimes
 rw [Rat.intCast_mul, Rat.intCast_mul, num_nm, num_nm]
 grind) h
end

def RowM (M : Int) (ns : List (Int × Int)) : Prop := 0 < M /\ Sz 4400 M /\ ∀ n ∈ ns, 0 < n.2 /\ n.2 ∣ M /\ Sz 4400 n.1
theorem RowM.bot {M : Int} {ns : List (Int × Int)} (h : RowM M ns) : 0 < botL ns /\ Sz 4400 (botL ns) := by
 have hb : ∀ b ∈ ns.map (·.2), 0 < b /\ b ∣ M := fun b hb => by
  obtain ⟨n, hn, rfl⟩ := List.mem_map.mp hb
  exact ⟨(h.2.2 n hn).1, (h.2.2 n hn).2.1⟩
 exact ⟨lcmL_pos (by decide) fun b q => (hb b q).1, dvd_sz h.1 (lcmL_to (by decide) (Int.one_dvd _) hb) h.2.1⟩
def sp_cmQ (K : PySem.W.Frag) : Sp := fun vs H Q _ => ∃ (p : Addr) (bs : List Int) (M : Int), vs = [.ref p] /\ SqL K H p (bs.map V.int) /\ 0 < M /\ Sz 4400 M /\ (∀ b ∈ bs, 0 < b /\ b ∣ M) /\ Q (.int (lcmL bs 1)) H
def sp_cbQ (K : PySem.W.Frag) : Sp := fun vs H Q _ => ∃ (p : Addr) (ns : List (Int × Int)) (M : Int), vs = [.ref p] /\ RowK K H p ns /\ ns.length <= 1000 /\ RowM M ns /\ ∀ H', Same H H' -> Q (.int (botL ns)) H'
def sp_topsQ (K : PySem.W.Frag) : Sp := fun vs H Q _ => ∃ (p : Addr) (ns : List (Int × Int)) (M : Int) (B : Int), vs = [.ref p, .int B] /\ RowK K H p ns /\ ns.length <= 1000 /\ RowM M ns /\ 0 < B /\ Sz 4400 B ∧
 ∀ r H', H r = none -> Same H H' -> H' r = some (.lst ((topsL ns B).map V.int)) -> Q (.ref r) H'
theorem topsM_sz {M : Int} {ns : List (Int × Int)} {B t : Int} (h : RowM M ns) (hB : 0 < B) (sB : Sz 4400 B) (ht : t ∈ topsL ns B) : Sz 8800 t := by
 obtain ⟨n, hn, rfl⟩ := List.mem_map.mp ht
 have hp := h.2.2 n hn
 have sq : Sz 4400 (B / n.2) := sB.le (by
  rw [Int.natAbs_ediv_of_nonneg (by omega)]
  exact Nat.div_le_self ..)
 exact (hp.2.2.mul sq).mono (by omega)
theorem top_cast {x : Rat} {B : Int} (h : (nm x).2 ∣ B) : (((nm x).1 * (B / (nm x).2) : Int) : Rat) = x * (B : Rat) := by
 obtain ⟨k, rfl⟩ := h
 have hp := nm_pos x
 rw [Int.mul_ediv_cancel_left _ (by omega), Rat.intCast_mul, Rat.intCast_mul, num_nm]
 grind
theorem dot_cast {B C : Int} : ∀ {xs ys : List Rat}, (∀ x ∈ xs, (nm x).2 ∣ B) → (∀ y ∈ ys, (nm y).2 ∣ C) → (((List.zipWith (· * ·) (topsL (xs.map nm) B) (topsL (ys.map nm) C)).sum : Int) : Rat) = dotQ xs ys * ((B : Rat) * (C : Rat))
  | [], ys, _, _ => by simp [topsL, dotQ]
  | x :: xs, [], _, _ => by simp [topsL, dotQ]
  | x :: xs, y :: ys, h1, h2 => by
    have ih := dot_cast (B := B) (C := C) (xs := xs) (ys := ys) (fun z hz => h1 z (.tail _ hz)) (fun z hz => h2 z (.tail _ hz))
    have e1 := top_cast (h1 x (.head _))
    have e2 := top_cast (h2 y (.head _))
    have e3 : (List.zipWith (· * ·) (topsL ((x :: xs).map nm) B) (topsL ((y :: ys).map nm) C)).sum = ((nm x).1 * (B / (nm x).2)) * ((nm y).1 * (C / (nm y).2)) + (List.zipWith (· * ·) (topsL (xs.map nm) B) (topsL (ys.map nm) C)).sum := rfl
    have e4 : dotQ (x :: xs) (y :: ys) = x * y + dotQ xs ys := rfl
    rw [e3, e4, Rat.intCast_add, Rat.intCast_mul, ih, e1, e2]
    grind
theorem dotL_nm {xs ys : List Rat} (h1 : 0 < botL (xs.map nm)) (h2 : 0 < botL (ys.map nm)) : (lo (dotL (xs.map nm) (ys.map nm)) (botL (xs.map nm) * botL (ys.map nm)), hi (dotL (xs.map nm) (ys.map nm)) (botL (xs.map nm) * botL (ys.map nm))) = nm (dotQ xs ys) := by
 refine lohi_nm (Int.mul_pos h1 h2) ?_
 unfold dotL
 rw [dot_cast (fun x hx => botL_dvd (List.mem_map.mpr ⟨x, hx, rfl⟩)) (fun x hx => botL_dvd (List.mem_map.mpr ⟨x, hx, rfl⟩)), Rat.intCast_mul]
def sp_numberQ (K : PySem.W.Frag) : Sp := fun vs H Q _ => ∃ (b : Addr) (w : Nat), vs = [.ref b, .int w] /\ Bag H b /\ 1 <= w /\ w <= 1000000 /\ ∀ r x H', Dr (max w 6) x -> NumQ K H' x (.ref r) -> Bag H' b -> Upto b H H' -> Q (.ref r) H'
def sp_drawQ (K : PySem.W.Frag) : Sp := fun vs H Q _ => ∃ (b : Addr) (m w : Nat), vs = [.ref b, .int m, .int w] /\ Bag H b /\ m <= 1000 /\ 1 <= w /\ w <= 1000000 ∧
 ∀ r xs H', H r = none -> RowQ K H' r xs -> xs.length = m -> (∀ x ∈ xs, Dr (max w 6) x) -> Bag H' b -> Upto b H H' -> Q (.ref r) H'
def sp_plusQ (K : PySem.W.Frag) : Sp := fun vs H Q _ => ∃ (p q : Addr) (xs ys : List Rat), vs = [.ref p, .ref q] /\ RowQ K H p xs /\ RowQ K H q ys /\ ys.length = xs.length /\ xs.length <= 1000 /\ (∀ x ∈ xs, SzN x) /\ (∀ y ∈ ys, SzN y) ∧
 ∀ r H', H r = none -> Same H H' -> RowQ K H' r (List.zipWith (fun x y => x + y) xs ys) -> Q (.ref r) H'
def sp_byQ (K : PySem.W.Frag) : Sp := fun vs H Q _ => ∃ (u : V) (q : Addr) (c : Rat) (ys : List Rat), vs = [u, .ref q] /\ NumQ K H c u /\ SzN c /\ RowQ K H q ys /\ ys.length <= 1000 /\ (∀ y ∈ ys, SzN y) ∧
 ∀ r H', H r = none -> Same H H' -> RowQ K H' r (ys.map fun y => c * y) -> Q (.ref r) H'
def sp_copiedQ (K : PySem.W.Frag) : Sp := fun vs H Q _ => ∃ (p : Addr) (H0 : Hp) (rows : List (List Rat)), vs = [.ref p] /\ GridQ K H0 H p rows /\ rows.length <= 1000 /\ (∀ xs ∈ rows, xs.length <= 1000) /\ ∀ r H', H r = none -> Same H H' -> GridQ K H H' r rows -> Q (.ref r) H'
section
variable {K : PySem.W.Frag} {a : Addr} {xs : List V} {g : TG} {tf : TT} {te : TE} {Q : VK} {σ₀ : St} {H : Hp} {α β : Type}
theorem comp_mapL {as : List α} {F : Hp -> α -> V -> Prop} (G : Hp -> β -> V -> Prop) (f : α -> β) (hx : H a = some (.lst xs)) (pf : Paired (F H) as xs) (hl : as.length <= 1000)
  (hF : ∀ {H H' c x}, F H c x -> Same H H' -> F H' c x) (hG : ∀ {H H' c x}, G H c x -> Same H H' -> G H' c x)
  (hs : ∀ (i : Nat) c x H' NY NN, as[i]? = some c -> Same H H' -> F H' c x -> (∀ y H2, Same H' H2 -> G H2 (f c) y -> NY y H2) -> tTurn σ₀ g tf te x H' NY NN)
  (hd : ∀ ys H' p, H p = none -> Same H H' -> H' p = some (.lst ys) -> Paired (G H') (as.map f) ys -> (∃ H2, H2 p = none /\ Paired (G H2) (as.map f) ys) -> Q (.ref p) H') : CompW (Itl K a) σ₀ g tf te Q H := by
 have lx := pf.length
 refine comp_list (K := K) (xs := xs) (fun i ys H' => Same H H' /\ Paired (G H') ((as.take i).map f) ys) (Nat.le_of_lt (small1000 (by omega))) ⟨Same.refl _, .nil⟩ (fun i ys H' _ ⟨s, _⟩ => SqL.of (s _ _ hx)) ?_ ?_
 ·rintro i x ys H' hx' hlen ⟨s, pr⟩
  obtain ⟨c, ec, hc⟩ := paired_at pf hx'
  refine hs i c x H' _ _ ec s (hF hc s) fun y H2 s2 gy => ⟨s.trans s2, ?_⟩
  rw [take_snoc ec, List.map_append]
  exact paired_app (Paired.imp' (fun _ _ z => hG z s2) pr) (.cons gy .nil)
 ·rintro ys H' hy ⟨s, pr⟩ p hp
  rw [List.take_of_length_le (by omega)] at pr
  exact hd ys _ p (s.none hp) (s.trans (Same.new hp)) upd_same (Paired.imp' (fun _ _ z => hG z (Same.new hp)) pr) ⟨H', hp, pr⟩
theorem comp_mapR {n : Nat} (G : Hp -> β -> V -> Prop) (f : Nat -> β) (hl : n <= 1000) (hG : ∀ {H H' c x}, G H c x -> Same H H' -> G H' c x)
  (hs : ∀ (i : Nat) H' NY NN, i < n -> Same H H' -> (∀ y H2, Same H' H2 -> G H2 (f i) y -> NY y H2) -> tTurn σ₀ g tf te (.int i) H' NY NN)
  (hd : ∀ ys H' p, H p = none -> Same H H' -> H' p = some (.lst ys) -> Paired (G H') ((List.range n).map f) ys -> (∃ H2, H2 p = none /\ Paired (G H2) ((List.range n).map f) ys) -> Q (.ref p) H') : CompW (Itr 0 n) σ₀ g tf te Q H := by
 refine comp_range (fun i ys H' => Same H H' /\ Paired (G H') ((List.range i).map f) ys) (Nat.le_of_lt (small1000 (by omega))) ⟨Same.refl _, .nil⟩ ?_ ?_
 ·rintro i ys H' hi hlen ⟨s, pr⟩
  rw [Int.zero_add]
  refine hs i H' _ _ hi s fun y H2 s2 gy => ⟨s.trans s2, ?_⟩
  rw [List.range_succ, List.map_append]
  exact paired_app (Paired.imp' (fun _ _ z => hG z s2) pr) (.cons gy .nil)
 ·rintro ys H' hy ⟨s, pr⟩ p hp
  exact hd ys _ p (s.none hp) (s.trans (Same.new hp)) upd_same (Paired.imp' (fun _ _ z => hG z (Same.new hp)) pr) ⟨H', hp, pr⟩
theorem comp_bagR {n : Nat} {b : Addr} (G : Hp -> β -> V -> Prop) (C : β -> Prop) (hB : Bag H b) (hl : n <= 1000) (hG : ∀ {H' H'' c x}, G H' c x -> Upto b H' H'' -> Bag H' b -> G H'' c x)
  (hs : ∀ (i : Nat) H' NY NN, i < n -> Upto b H H' -> Bag H' b -> (∀ y c H2, Upto b H' H2 -> Bag H2 b -> C c -> G H2 c y -> NY y H2) -> tTurn σ₀ g tf te (.int i) H' NY NN)
  (hd : ∀ ys cs H' p, H p = none -> Upto b H H' -> Bag H' b -> H' p = some (.lst ys) -> cs.length = n -> (∀ c ∈ cs, C c) -> Paired (G H') cs ys -> (∃ H2, H2 p = none /\ Paired (G H2) cs ys) -> Q (.ref p) H') : CompW (Itr 0 n) σ₀ g tf te Q H := by
 refine comp_range (fun i ys H' => Upto b H H' /\ Bag H' b /\ ∃ cs, cs.length = i /\ (∀ c ∈ cs, C c) /\ Paired (G H') cs ys) (Nat.le_of_lt (small1000 (by omega))) ⟨(Same.refl _).upto, hB, [], rfl, (fun _ z => nomatch z), .nil⟩ ?_ ?_
 ·rintro i ys H' hi hlen ⟨u, B, cs, lc, hc, pr⟩
  rw [Int.zero_add]
  refine hs i H' _ _ hi u B fun y c H2 u2 B2 cc gy => ⟨u.trans u2, B2, cs ++ [c], by simp [lc], app_all hc cc, paired_app (Paired.imp' (fun _ _ z => hG z u2 B) pr) (.cons gy .nil)⟩
 ·rintro ys H' hy ⟨u, B, cs, lc, hc, pr⟩ p hp
  have s : Same H' (upd H' p (.lst ys)) := Same.new hp
  exact hd ys cs _ p (u.none B hp) (u.same s) (B.same s) upd_same lc hc (Paired.imp' (fun _ _ z => hG z s.upto B) pr) ⟨H', hp, pr⟩
end
section
variable {X : Cx}
theorem for_rangeN {n : Nat} {g : TG} {tb : TS} {D : Ends} {σ : St} {H : Hp} (Pv : Nat -> St -> Hp -> Prop) (h0 : Pv 0 σ H)
  (hs : ∀ (i : Nat) σ H, i < n -> Pv i σ H -> g (.int i) σ H fun σ2 H2 => tb { D with nx := Pv (i + 1), ct := Pv (i + 1), bk := D.nx } σ2 H2) (hd : ∀ σ H, Pv n σ H -> D.nx σ H) :
  ∃ W : Nat -> Nat -> St -> Hp -> Prop, (∃ m, W 0 m σ H) /\ ∀ i m σ H, W i m σ H →
   ((Itr 0 n).stop i H /\ D.nx σ H) ∨ ((Itr 0 n).go i H /\ ∃ N : St -> Hp -> Prop, (∀ σ' H', N σ' H' -> ∃ m', m' < m /\ W (i + 1) m' σ' H') /\ ∀ x H', (Itr 0 n).yld i H x H' -> g x σ H' fun σ2 H2 => tb { D with nx := N, ct := N, bk := D.nx } σ2 H2) :=
 for_range (lo := 0) Pv h0 (fun i σ H hi p => by rw [Int.zero_add]; exact hs i σ H hi p) hd
theorem call_intB : CallR X (.type "int") (fun xs H Q => ∃ b : Bool, xs = [.bl b] /\ Q (.int (if b = true then 1 else 0)) H) := by
 intro pins s σ H xs us Q I r h
 obtain ⟨b, rfl, q⟩ := h
 obtain ⟨u, rfl, ru⟩ := vals1 r
 cases ru
 exact call_int_bool ⟨.int _, H, I.tok _, ⟨_, rfl⟩, q⟩
theorem ps_no {st : Stmt} : PS X st (fun _ _ _ => False) := fun _ _ _ _ _ _ h => h.elim
end
theorem low_dr {t b : Int} {W : Nat} (hb : 0 < b) (h1 : t.natAbs <= W) (h2 : b.natAbs <= W) : ∃ q : Rat, (lo t b, hi t b) = nm q /\ Dr W q /\ q * (b : Rat) = (t : Rat) := by
 have hb' : (b : Rat) ≠ 0 := fun z => by have := Rat.intCast_eq_zero_iff.mp z; omega
 have e : (t : Rat) / (b : Rat) * (b : Rat) = t := Rat.div_mul_cancel hb'
 have h := lohi_nm hb e
 refine ⟨_, h, ⟨?_, ?_⟩, e⟩
 ·have := congrArg Prod.fst h
  have z := lo_le (t := t) (b := b) (by omega)
  show ((nm ((t : Rat) / (b : Rat))).1).natAbs <= W
  rw [<- this]
  exact Nat.le_trans z h1
 ·have := congrArg Prod.snd h
  have z := hi_le (t := t) (b := b) (by omega)
  have hd : (((t : Rat) / (b : Rat)).den : Int) = hi t b := this.symm
  have hp := hi_pos (t := t) hb
  omega
theorem ixQ {K : PySem.W.Frag} {H : Hp} {qs : List Rat} {xs : List V} (h : Paired (NumQ K H) qs xs) {j : Nat} (hj : j < qs.length) : ∃ v, atI xs (j : Int) = some v /\ NumQ K H (qs.getD j 0) v := by
 have hl := h.length
 refine ⟨xs[j]'(by omega), atI_nat (by simp), ?_⟩
 have := paired_get h (i := j) hj (by omega)
 rwa [List.getD_eq_getElem?_getD, List.getElem?_eq_getElem hj]
theorem dotQ_snoc {xs ys : List Rat} {i : Nat} (h1 : i < xs.length) (h2 : i < ys.length) : dotQ (xs.take (i + 1)) (ys.take (i + 1)) = dotQ (xs.take i) (ys.take i) + xs.getD i 0 * ys.getD i 0 := by
 have e1 : xs[i]? = some (xs.getD i 0) := by rw [List.getD_eq_getElem?_getD, List.getElem?_eq_getElem h1]; rfl
 have e2 : ys[i]? = some (ys.getD i 0) := by rw [List.getD_eq_getElem?_getD, List.getElem?_eq_getElem h2]; rfl
 unfold dotQ
 rw [take_snoc e1, take_snoc e2, List.zipWith_append (by simp; omega), List.sum_append]
 simp [Rat.add_zero]
theorem getD_mem {xs : List Rat} {i : Nat} (h : i < xs.length) : xs.getD i 0 ∈ xs := by
 rw [List.getD_eq_getElem?_getD, List.getElem?_eq_getElem h]; exact List.getElem_mem h
theorem zip_range {xs ys : List Rat} (h : ys.length = xs.length) : List.zipWith (fun x y => x + y) xs ys = (List.range xs.length).map fun i => xs.getD i 0 + ys.getD i 0 := by
 apply List.ext_getElem?
 intro i
 rw [List.getElem?_zipWith, List.getElem?_map]
 by_cases hi : i < xs.length
 ·rw [List.getElem?_range hi, List.getElem?_eq_getElem hi, List.getElem?_eq_getElem (show i < ys.length by omega)]
  simp [List.getD_eq_getElem?_getD, List.getElem?_eq_getElem hi, List.getElem?_eq_getElem (show i < ys.length by omega)]
 ·rw [List.getElem?_eq_none (show (List.range xs.length).length <= i by simp; omega), List.getElem?_eq_none (show xs.length <= i by omega)]
  rfl
theorem RowF.updL {K : PySem.W.Frag} {H0 H : Hp} {qs : List Rat} {x : V} {l : Addr} {ys : List V} {o : HO} (h : RowF K H0 H qs x) (hl : H l = some (.lst ys)) (nl : H0 l ≠ none) : RowF K H0 (upd H l o) qs x := let ⟨q, a, b, c⟩ := h; ⟨q, a, b, c.updL hl fun z => nl (by rw [<- z]; exact b)⟩
theorem Bag.at {H : Hp} {b : Addr} (B : Bag H b) : H b ≠ none := by obtain ⟨_, _, _, _, _, e, _⟩ := B; rw [e]; simp
theorem Inner.at {H : Hp} {b q : Addr} (B : Bag H b) (i : Inner H b q) : H q ≠ none := by
 obtain ⟨q', i', xs, e⟩ := B.inner
 rw [<- Inner.inj i' i, e]; simp
theorem paired_at2 {α β : Type} {F : α -> β -> Prop} {l1 : List α} {l2 : List β} {i : Nat} (h : Paired F l1 l2) (hi : i < l1.length) : ∃ x y, l1[i]? = some x /\ l2[i]? = some y /\ x ∈ l1 /\ F x y := by
 have hl := h.length
 exact ⟨l1[i], l2[i]'(by omega), by simp, by simp, List.getElem_mem _, paired_get h hi (by omega)⟩
theorem cmulS_l {i j : Int} (h1 : -(2 ^ 64) < i) (h2 : i < 2 ^ 64) : CMulS i j := .inl (.inl ⟨h1, h2⟩)
theorem cmulS_r {i j : Int} (h1 : -(2 ^ 64) < j) (h2 : j < 2 ^ 64) : CMulS i j := .inl (.inr ⟨h1, h2⟩)
end L2
namespace L2
open PySem PySem.Spec PyProof.Rows Nm
def Ite (K : PySem.W.Frag) (l : Addr) : It :=
  ⟨fun i H => ∃ xs x, SqL K H l xs ∧ xs[i]? = some x,
   fun i H v H' => ∃ p x, v = .ref p ∧ H p = none ∧ H' = upd H p (.tup [.int i, x]) ∧ ∀ xs, SqL K H l xs → xs[i]? = some x,
   fun i H => ∃ xs, SqL K H l xs ∧ xs.length ≤ i⟩
def tnE (e it l : Addr) (i : Nat) (h : Heap) : Prop := (∃ old, IsEnum h e it i old) /\ h.IsListIter it l i
theorem turn_enum {P : Program} {w : World} {K : PySem.W.Frag} {elts : List Expr} {kk : Nat} {tpos : Pos} (e it l : Addr) (hei : e ≠ it) : Turn P w K (.Tuple elts kk tpos) (Ite K l) [e, it] e (tnE e it l) where
 mem := by simp
 obj := fun i h st b hb => by
  obtain ⟨⟨old, he⟩, ⟨o1, g1, c1, d1⟩⟩ := st
  simp only [List.mem_cons, List.not_mem_nil, or_false] at hb
  rcases hb with rfl | rfl
  ·exact ⟨_, he, fun v q => nomatch q⟩
  ·exact ⟨o1, g1, fun v q => by rw [d1] at q; cases q⟩
 keep := fun i h h' st k => by
  obtain ⟨⟨old, he⟩, h1⟩ := st
  exact ⟨⟨old, k e (by simp) _ he⟩, h1.at fun o q => k it (by simp) o q⟩
 item := by
  intro X hP hw hK hc i pins s σ H E I hf st hg
  subst hP hw hK
  obtain ⟨⟨old, he⟩, h1⟩ := st
  obtain ⟨xs, x, qx, ex⟩ := hg
  obtain ⟨us, rx, px, _⟩ := I.list qx
  obtain ⟨u, eu, ru⟩ := rx.get ex
  refine wpAny_pyNext_enum_item he h1 px.isList (x := u) (by simpa using eu) hei fun h' a1 a2 a3 a4 hk => ?_
  refine ⟨_, rfl, wpAny_letOwnedTupleGo_enum a1 fun h'' he'' hs => ?_⟩
  have hT0 : H s.heap.objs.size = none := I.hok.fresh (Nat.le_refl _)
  have ene : s.heap.objs.size ≠ e := Nat.ne_of_gt (Heap.lt_size he)
  have up : ∀ b o, b ∉ [e, it] -> s.heap.get? b = some o -> h''.get? b = some o := fun b o hb q => by
   simp only [List.mem_cons, List.not_mem_nil, or_false, not_or] at hb
   exact (hs.2 b hb.1).trans (hk b o hb.1 hb.2 q)
  have tup : h''.get? s.heap.objs.size = some { cls := .type "tuple", data := .seq #[.int i s.toks, u] } := (hs.2 _ ene).trans a3
  have I1 : Inv X pins σ H { s with heap := h'', toks := s.toks + 1 } := I.moved (g' := s.gens) (d' := s.drawn) (t' := s.toks + 1) (ch := [e, it]) hf up I.bare
  have fT : FpOk X pins H s.heap.objs.size := I.fpOk (Nat.le_refl _) hT0
  have I2 := I1.track (o := .tup [.int i, x]) fT ⟨short_ok rfl, [.int i s.toks, u], .cons ⟨_, rfl⟩ (.cons ru .nil), ⟨_, tup, rfl, _, rfl⟩⟩
  refine ⟨.ref s.heap.objs.size, _, I2, rfl, ⟨_, x, rfl, hT0, rfl, fun xs' q => by rw [I.list_inj q qx]; exact ex⟩, ?_, fun b hb => ?_⟩
  ·exact ⟨⟨_, by simpa using he''⟩, a2.at fun o q => (hs.2 _ hei.symm).trans q⟩
  ·rw [upd_ne]
   ·exact (hf b hb).1
   ·obtain ⟨o1, g1, _⟩ := h1
    simp only [List.mem_cons, List.not_mem_nil, or_false] at hb
    rcases hb with rfl | rfl
    ·exact ene.symm
    ·exact Nat.ne_of_lt (Heap.lt_size g1)
 done := by
  intro X hP hw hK hc i pins s σ H E I hf st hg
  subst hP hw hK
  obtain ⟨⟨old, he⟩, h1⟩ := st
  obtain ⟨xs, qx, hend⟩ := hg
  obtain ⟨us, rx, px, _⟩ := I.list qx
  have lx := rx.length
  refine wpAny_pyNext_enum_end (I.ok.hd hc) he h1 px.isList (by simp; omega) fun h' hk => ⟨rfl, ?_⟩
  exact I.moved (g' := s.gens) (d' := s.drawn) (t' := s.toks) (ch := [e, it]) hf (fun b o hb q => hk b o (fun z => hb (by simp [z])) q) I.bare
 self := fun _ _ _ _ _ st h => let ⟨⟨_, he⟩, _⟩ := st; wpAny_pyIter_enum he h
section
variable {X : Cx}
def iEnum (K : PySem.W.Frag) (ta : TA) : TI := fun σ H R => ta σ H fun vs H1 => ∃ l, vs = [.ref l] /\ (∃ xs, SqL K H1 l xs) /\ R (Ite K l) H1
theorem pi_enum {a : Expr} {ta : TA} {p pos tpos : Pos} {elts : List Expr} {kk : Nat} (hg : Gl X "enumerate") (hm : X.mg "enumerate" = none) (ha : PA X [a] ta) (hs : starEach [a] X.env = [(false, eval a X.env)] := by rfl) :
  PI X (.Tuple elts kk tpos) (.Call (.Name "enumerate" p) [a] [] pos) (iEnum X.K ta) := by
 intro pins s σ H R I h
 refine Call_ (ld_blt I hg hm boot_enumerate (PyProof.Rows.callWith_type1 (thn (ha pos pins s σ H _ I h) fun us s1 ⟨vs, H1, I1, r1, q1⟩ => ?_) (by rw [hs]; rfl) rfl))
 obtain ⟨l, e, ⟨xs, qx⟩, q⟩ := q1
 subst e
 obtain ⟨u, rfl, ru⟩ := vals1 r1
 cases ru
 obtain ⟨us, rx, px, _⟩ := I1.list qx
 refine call_enumerate_list px.isList fun h' a1 a2 a3 hk => wpAny_pyIter_enum a1 ?_
 have I2 : Inv X pins σ H1 { s1 with heap := h' } := I1.kept (t' := s1.toks) hk
 refine ⟨_, [s1.heap.objs.size + 1, s1.heap.objs.size], _, _, H1, rfl, I2, turn_enum (s1.heap.objs.size + 1) s1.heap.objs.size l (Nat.succ_ne_self _), ⟨⟨_, a1⟩, a2⟩, fun b hb => ?_, q⟩
 have hb' : s1.heap.objs.size <= b := by
  simp only [List.mem_cons, List.not_mem_nil, or_false] at hb
  rcases hb with rfl | rfl <;> first | exact Nat.le_succ _ | exact Nat.le_refl _
 exact I1.fpOk hb' (I1.hok.fresh hb')
end
theorem rd_iEnum {K : PySem.W.Frag} {ta : TA} {R : It -> Hp -> Prop} {σ : St} {H : Hp} (h : ta σ H fun vs H1 => ∃ l, vs = [.ref l] /\ (∃ xs, SqL K H1 l xs) /\ R (Ite K l) H1) : iEnum K ta σ H R := h
theorem for_enum {K : PySem.W.Frag} {l : Addr} {xs : List V} {g : TG} {tb : TS} {D : Ends} {σ : St} {H : Hp} (Pv : Nat -> St -> Hp -> Prop) (h0 : Pv 0 σ H) (hl : ∀ i σ H, i <= xs.length -> Pv i σ H -> SqL K H l xs)
  (hs : ∀ i x σ H p, xs[i]? = some x -> Pv i σ H -> H p = none -> g (.ref p) σ (upd H p (.tup [.int i, x])) fun σ2 H2 => tb { D with nx := Pv (i + 1), ct := Pv (i + 1), bk := D.nx } σ2 H2) (hd : ∀ σ H, Pv xs.length σ H -> D.nx σ H) :
  ∃ W : Nat -> Nat -> St -> Hp -> Prop, (∃ m, W 0 m σ H) /\ ∀ i m σ H, W i m σ H →
   ((Ite K l).stop i H /\ D.nx σ H) ∨ ((Ite K l).go i H /\ ∃ N : St -> Hp -> Prop, (∀ σ' H', N σ' H' -> ∃ m', m' < m /\ W (i + 1) m' σ' H') /\ ∀ x H', (Ite K l).yld i H x H' -> g x σ H' fun σ2 H2 => tb { D with nx := N, ct := N, bk := D.nx } σ2 H2) := by
 refine ⟨fun i m σ H => m = xs.length - i /\ i <= xs.length /\ Pv i σ H, ⟨xs.length, by simp, Nat.zero_le _, h0⟩, ?_⟩
 rintro i m σ H ⟨rfl, hi, p⟩
 have q1 := hl i σ H hi p
 by_cases hlt : i < xs.length
 ·refine .inr ⟨⟨xs, xs[i], q1, by simp [hlt]⟩, Pv (i + 1), fun σ' H' p' => ⟨xs.length - (i + 1), by omega, rfl, hlt, p'⟩, fun x H' y => ?_⟩
  obtain ⟨r, x', rfl, hr, rfl, e1⟩ := y
  exact hs i x' σ _ r (e1 xs q1) p hr
 ·have e : i = xs.length := by omega
  subst e
  exact .inl ⟨⟨xs, q1, Nat.le_refl _⟩, hd σ H p⟩

section
variable {X : Cx}
theorem pe_fldK (K : PySem.W.Frag) {e : Expr} {f : Str} {pos : Pos} {ta : TE} (he : PE X e ta) (hb : attributeBase e f X.env (eval e X.env) = eval e X.env) (hK : X.K = K := by rfl) : PE X (.Attribute e f pos) (tFld K ta f) := by subst hK; exact pe_fld he hb
end
theorem rd_fld {K : PySem.W.Frag} {ta : TE} {f : Str} {σ : St} {H : Hp} {Q : VK} (h : ta σ H fun x H1 => ∃ a C dx fs v, x = .ref a /\ H1 a = some (.ins C dx fs) /\ Cls K C /\ NoAttr K C f /\ fs.lookup f = some v /\ Q v H1) : tFld K ta f σ H Q := h
theorem rd_sfld {K : PySem.W.Frag} {ta tv : TE} {f : Str} {D : Ends} {σ : St} {H : Hp} (h : tv σ H fun y H1 => ta σ H1 fun x H2 => ∃ a C dx fs, x = .ref a /\ H2 a = some (.ins C dx fs) /\ Cls K C /\ NoAttr K C f /\ fs.length < 1000 ∧
 D.nx σ (upd H2 a (.ins C dx (putF f y fs)))) : sFld K ta tv f D σ H := h
theorem rd_make {C : Addr} {sp : Sp} {E : XK} {t : TA} {σ : St} {H : Hp} {Q : VK} (h : t σ H fun vs H1 => ∀ x dx, H1 x = none -> H1 dx = none -> dx ≠ x →
 sp (.ref x :: vs) (upd (upd H1 dx (.own x)) x (.ins C dx [])) (fun v H2 => v = .non /\ Q (.ref x) H2) E) : tMake C sp [] E t σ H Q := by
 have e : (fun vs (H1 : Hp) => ∀ x dx, H1 x = none -> H1 dx = none -> dx ≠ x -> sp (.ref x :: (vs ++ [])) (upd (upd H1 dx (.own x)) x (.ins C dx [])) (fun v H2 => v = .non /\ Q (.ref x) H2) E) = fun vs H1 => ∀ x dx, H1 x = none -> H1 dx = none -> dx ≠ x -> sp (.ref x :: vs) (upd (upd H1 dx (.own x)) x (.ins C dx [])) (fun v H2 => v = .non /\ Q (.ref x) H2) E := by
  funext vs H1
  simp only [List.append_nil]
 show t σ H (fun vs (H1 : Hp) => ∀ x dx, H1 x = none -> H1 dx = none -> dx ≠ x -> sp (.ref x :: (vs ++ [])) (upd (upd H1 dx (.own x)) x (.ins C dx [])) (fun v H2 => v = .non /\ Q (.ref x) H2) E)
 rw [e]; exact h
end L2
namespace L2
open PySem PySem.Spec PyProof.Rows Nm
def Exc (x : Addr) (H H' : Hp) : Prop := ∀ b o, H b = some o -> b ≠ x -> H' b = some o
theorem Exc.upd {x : Addr} {H : Hp} {o : HO} : Exc x H (L2.upd H x o) := fun b u h n => by rw [upd_ne n]; exact h
def IsIns (H : Hp) (x : Addr) : Prop := ∃ C dx fs, H x = some (.ins C dx fs)
section
variable {K : PySem.W.Frag} {H H' H0 : Hp} {q : Rat} {v : V} {x p : Addr} {qs : List Rat} {rows : List (List Rat)}
theorem NumQ.exc (h : NumQ K H q v) (e : Exc x H H') (hx : IsIns H x) : NumQ K H' q v := by
 obtain ⟨C, dx, fs, hx⟩ := hx
 obtain ⟨r, er, s⟩ := h
 refine ⟨r, er, ?_⟩
 rcases s with (h | ⟨o, h⟩) | h
 ·exact .inl (.inl (e _ _ h fun z => by rw [z, hx] at h; cases h))
 ·exact .inl (.inr ⟨o, e _ _ h fun z => by rw [z, hx] at h; cases h⟩)
 ·exact .inr h
theorem RowQ.exc (h : RowQ K H p qs) (e : Exc x H H') (hx : IsIns H x) : RowQ K H' p qs := by
 obtain ⟨xs, g, r⟩ := h
 have hx' := hx
 obtain ⟨C, dx, fs, hx⟩ := hx
 exact ⟨xs, e _ _ g (fun z => by rw [z, hx] at g; cases g), Paired.imp' (fun _ _ z => z.exc e hx') r⟩
theorem RowF.exc (h : RowF K H0 H qs v) (e : Exc x H H') (hx : IsIns H x) : RowF K H0 H' qs v := let ⟨q, a, b, c⟩ := h; ⟨q, a, b, c.exc e hx⟩
theorem GridQ.exc (h : GridQ K H0 H p rows) (e : Exc x H H') (hx : IsIns H x) : GridQ K H0 H' p rows := by
 obtain ⟨xs, g, r, n⟩ := h
 have hx' := hx
 obtain ⟨C, dx, fs, hx⟩ := hx
 exact ⟨xs, e _ _ g (fun z => by rw [z, hx] at g; cases g), Paired.imp' (fun _ _ z => z.exc e hx') r, n⟩
end
def sysFs (a b c : Addr) (n i o : Nat) : List (Str × V) := putF "outs" (.int o) (putF "look" (.ref c) (putF "ins" (.int i) (putF "put" (.ref b) (putF "states" (.int n) (putF "move" (.ref a) [])))))
section
variable {a b c : Addr} {n i o : Nat}
theorem sys_put : (sysFs a b c n i o).lookup ("put" : Str) = some (.ref b) := by
 unfold sysFs
 rw [lookup_putF, if_neg (by decide +kernel), lookup_putF, if_neg (by decide +kernel), lookup_putF, if_neg (by decide +kernel), lookup_putF, if_pos rfl]
theorem sys_states : (sysFs a b c n i o).lookup ("states" : Str) = some (.int n) := by
 unfold sysFs
 rw [lookup_putF, if_neg (by decide +kernel), lookup_putF, if_neg (by decide +kernel), lookup_putF, if_neg (by decide +kernel), lookup_putF, if_neg (by decide +kernel), lookup_putF, if_pos rfl]
theorem sys_move : (sysFs a b c n i o).lookup ("move" : Str) = some (.ref a) := by
 unfold sysFs
 rw [lookup_putF, if_neg (by decide +kernel), lookup_putF, if_neg (by decide +kernel), lookup_putF, if_neg (by decide +kernel), lookup_putF, if_neg (by decide +kernel), lookup_putF, if_neg (by decide +kernel), lookup_putF, if_pos rfl]
end
theorem putF_len {k : Str} {v : V} : ∀ {l : List (Str × V)}, (putF k v l).length <= l.length + 1
 | [] => Nat.le_refl _
 | (x, y) :: r => by
  unfold putF
  split
  ·simp
  ·have := putF_len (k := k) (v := v) (l := r)
   simp only [List.length_cons]
   omega
structure SysD (mv pt lk : List (List Rat)) : Prop where
 n8 : mv.length <= 8
 i4 : pt.length <= 4
 o4 : lk.length <= 4
 mw : ∀ xs ∈ mv, xs.length = mv.length
 pw : ∀ xs ∈ pt, xs.length = mv.length
 lw : ∀ xs ∈ lk, xs.length = mv.length
def SFits (mv pt lk : List (List Rat)) : Prop := ∃ M V : Nat, 0 < M /\ M <= 2 ^ 800 /\ V <= 2 ^ 400 /\ GF M V mv /\ GF M V pt /\ GF M V lk
def SysQ (K : PySem.W.Frag) (H0 H : Hp) (C p : Addr) (mv pt lk : List (List Rat)) : Prop := ∃ dx a b c, H p = some (.ins C dx (sysFs a b c mv.length pt.length lk.length)) /\ H0 a = none /\ H0 b = none /\ H0 c = none /\ GridQ K H0 H a mv /\ GridQ K H0 H b pt /\ GridQ K H0 H c lk
section
variable {K : PySem.W.Frag} {H H' H0 H1 : Hp} {C p b : Addr} {mv pt lk : List (List Rat)}
theorem SysQ.same (h : SysQ K H0 H C p mv pt lk) (e : Same H H') : SysQ K H0 H' C p mv pt lk := let ⟨dx, a, b, c, g, n1, n2, n3, g1, g2, g3⟩ := h; ⟨dx, a, b, c, e _ _ g, n1, n2, n3, g1.same e, g2.same e, g3.same e⟩
theorem SysQ.upto (h : SysQ K H0 H C p mv pt lk) (u : Upto b H H') (B : Bag H b) (nb : H0 b ≠ none) : SysQ K H0 H' C p mv pt lk := by
 obtain ⟨dx, a, b', c, g, n1, n2, n3, g1, g2, g3⟩ := h
 refine ⟨dx, a, b', c, u.other (fun z => by obtain ⟨_, _, _, _, _, e, _⟩ := B; rw [z, e] at g; cases g) g, n1, n2, n3, g1.upto u B (fun z => nb (by rw [<- z]; exact n1)) nb, g2.upto u B (fun z => nb (by rw [<- z]; exact n2)) nb, g3.upto u B (fun z => nb (by rw [<- z]; exact n3)) nb⟩
theorem SysQ.weak (h : SysQ K H0 H C p mv pt lk) (e : Same H1 H0) : SysQ K H1 H C p mv pt lk := let ⟨dx, a, b, c, g, n1, n2, n3, g1, g2, g3⟩ := h; ⟨dx, a, b, c, g, e.none n1, e.none n2, e.none n3, g1.weak e, g2.weak e, g3.weak e⟩
theorem SFits.fits (h : SFits mv pt lk) {l : List Rat} (hl : ∀ x ∈ l, (∃ xs ∈ mv, x ∈ xs) ∨ (∃ xs ∈ pt, x ∈ xs) ∨ (∃ xs ∈ lk, x ∈ xs) ∨ x = 0) : Fits l := by
 obtain ⟨M, V, h0, h1, h2, h3, h4, h5⟩ := h
 refine ⟨M, V, h0, Nat.le_trans h1 (Nat.pow_le_pow_right (by decide) (by decide)), Nat.le_trans h2 (Nat.pow_le_pow_right (by decide) (by decide)), fun x hx => ?_⟩
 rcases hl x hx with ⟨xs, a, b⟩ | ⟨xs, a, b⟩ | ⟨xs, a, b⟩ | rfl
 ·exact h3 xs a x b
 ·exact h4 xs a x b
 ·exact h5 xs a x b
 ·exact Fr.zero
end
def sp_wholeI : Sp := fun vs H Q _ => ∃ i : Int, vs = [.int i] /\ Q (.bl true) H
def sp_isnumP (K : PySem.W.Frag) : Sp := fun vs H Q _ => ∃ x n, vs = [x] /\ NumR K H x n /\ NumOk n /\ ∀ H', Same H H' -> Q (.bl true) H'
def sp_want : Sp := fun vs H Q _ => ∃ (p : Addr) (xs : List V) (a m : Int), vs = [.ref p, .int a, .int m] /\ H p = some (.lst xs) /\ (xs.length : Int) <= m /\ Q .non H
def sp_copR (K : PySem.W.Frag) : Sp := fun vs H Q _ => ∃ (p : Addr) (H0 : Hp) (rows : List (List Rat)) (w : Nat), vs = [.ref p, .int w] /\ GridQ K H0 H p rows /\ rows.length <= 1000 /\ w <= 1000 /\ (∀ xs ∈ rows, xs.length = w /\ ∀ x ∈ xs, NumOk (nm x)) /\ ∀ r H', H r = none -> Same H H' -> GridQ K H H' r rows -> Q (.ref r) H'
def GOk (rows : List (List Rat)) : Prop := ∀ xs ∈ rows, ∀ x ∈ xs, NumOk (nm x)
def sp_init (K : PySem.W.Frag) (C : Addr) : Sp := fun vs H Q _ => ∃ (x dx p q r : Addr) (Hb H0 H1 H2 : Hp) (mv pt lk : List (List Rat)), vs = [.ref x, .ref p, .ref q, .ref r] /\ Hb x = none /\ Hb dx = none /\ dx ≠ x /\ H = upd (upd Hb dx (.own x)) x (.ins C dx []) ∧
 GridQ K H0 Hb p mv /\ GridQ K H1 Hb q pt /\ GridQ K H2 Hb r lk /\ SysD mv pt lk /\ GOk mv /\ GOk pt /\ GOk lk /\ ∀ H', Same Hb H' -> SysQ K Hb H' C x mv pt lk -> Q .non H'
theorem SFits.ok {mv pt lk : List (List Rat)} (h : SFits mv pt lk) : GOk mv /\ GOk pt /\ GOk lk :=
 ⟨fun xs hx x hx' => (h.fits (l := xs) fun y hy => .inl ⟨xs, hx, hy⟩).ok hx', fun xs hx x hx' => (h.fits (l := xs) fun y hy => .inr (.inl ⟨xs, hx, hy⟩)).ok hx', fun xs hx x hx' => (h.fits (l := xs) fun y hy => .inr (.inr (.inl ⟨xs, hx, hy⟩))).ok hx'⟩
end L2
namespace L2
open PySem PySem.Spec PyProof.Rows Nm
def RowP (K : PySem.W.Frag) (A : Addr -> Prop) (H : Hp) (n : Nat) (C : Rat -> Prop) (x : V) : Prop := ∃ q qs, x = V.ref q /\ A q /\ RowQ K H q qs /\ qs.length = n /\ ∀ y ∈ qs, C y
section
variable {K : PySem.W.Frag} {A A' : Addr -> Prop} {H H' H0 : Hp} {n : Nat} {C C' : Rat -> Prop} {x v : V} {q b l p : Addr} {xs zs : List V} {y : Rat} {o : HO}
theorem RowP.same (h : RowP K A H n C x) (e : Same H H') : RowP K A H' n C x := let ⟨q, qs, a, c, r, z⟩ := h; ⟨q, qs, a, c, r.same e, z⟩
theorem RowP.upto (h : RowP K A H n C x) (u : Upto b H H') (B : Bag H b) (nb : ¬ A b) : RowP K A H' n C x := let ⟨q, qs, a, c, r, z⟩ := h; ⟨q, qs, a, c, r.upto u B (fun e => nb (by rw [<- e]; exact c)), z⟩
theorem RowP.other (h : RowP K A H n C x) (hl : H l = some (.lst zs)) (nl : ¬ A l) : RowP K A (upd H l o) n C x := let ⟨q, qs, a, c, r, z⟩ := h; ⟨q, qs, a, c, r.updL hl (fun e => nl (by rw [<- e]; exact c)), z⟩
theorem RowP.weak (h : RowP K A H n C x) (w : ∀ q, A q -> A' q) (wc : ∀ y, C y -> C' y) : RowP K A' H n C' x := let ⟨q, qs, a, c, r, l, z⟩ := h; ⟨q, qs, a, w q c, r, l, fun y hy => wc y (z y hy)⟩
theorem paired_set {α β : Type} {F : α -> β -> Prop} {a : α} {b : β} (h : F a b) : ∀ {l1 : List α} {l2 : List β} (j : Nat), Paired F l1 l2 -> Paired F (l1.set j a) (l2.set j b)
 | _, _, _, .nil => .nil
 | _, _, 0, .cons _ t => .cons h t
 | _, _, j + 1, .cons r t => .cons r (paired_set h j t)
theorem RowP.put (h : RowP K A H n C x) (hq : H q = some (.lst zs)) (hv : NumQ K H y v) (hc : C y) (j : Nat) : RowP K A (upd H q (.lst (zs.set j v))) n C x := by
 obtain ⟨q1, qs, rfl, a, ⟨zs1, g1, pr⟩, l1, c1⟩ := h
 by_cases e : q1 = q
 ·subst e
  rw [hq] at g1
  cases g1
  refine ⟨q1, qs.set j y, rfl, a, ⟨_, upd_same, paired_set (hv.updL hq) j (Paired.imp' (fun _ _ z => z.updL hq) pr)⟩, by rw [List.length_set]; exact l1, fun z hz => ?_⟩
  rcases List.mem_or_eq_of_mem_set hz with hz | rfl
  ·exact c1 z hz
  ·exact hc
 ·exact ⟨q1, qs, rfl, a, ⟨zs1, by rw [upd_ne e]; exact g1, Paired.imp' (fun _ _ z => z.updL hq) pr⟩, l1, c1⟩
theorem RowP.at (h : RowP K A H n C x) : ∃ q zs qs, x = V.ref q /\ A q /\ H q = some (.lst zs) /\ zs.length = n /\ Paired (NumQ K H) qs zs /\ qs.length = n /\ ∀ y ∈ qs, C y := let ⟨q, qs, a, c, ⟨zs, g, pr⟩, l, z⟩ := h; ⟨q, zs, qs, a, c, g, by rw [<- pr.length]; exact l, pr, l, z⟩
end
theorem dr_int {W : Nat} {i : Int} (h : i.natAbs <= W) (hW : 1 <= W) : Dr W (i : Rat) := ⟨h, hW⟩
def GridP (K : PySem.W.Frag) (A : Addr -> Prop) (H : Hp) (n : Nat) (C : Rat -> Prop) (p : Addr) (m : Nat) : Prop := ∃ us, H p = some (.lst us) /\ us.length = m /\ ¬ A p /\ ∀ x ∈ us, RowP K A H n C x
structure Mix (K : PySem.W.Frag) (A : Addr -> Prop) (H : Hp) (n : Nat) (C : Rat -> Prop) (m p l b q0 : Addr) (i o : Nat) : Prop where
 bag : Bag H b
 inn : Inner H b q0
 gm : GridP K A H n C m n
 gp : GridP K A H n C p i
 gl : GridP K A H n C l o
structure MixA (A : Addr -> Prop) (m p l b q0 : Addr) : Prop where
 am : ¬ A m
 ap : ¬ A p
 al : ¬ A l
 ab : ¬ A b
 aq : ¬ A q0
 mb : m ≠ b
 pb : p ≠ b
 lb : l ≠ b
 mp : m ≠ p
 ml : m ≠ l
 mq : m ≠ q0
theorem fr_int2 {M : Nat} {z : Int} (h : z.natAbs <= 2) : Fr 1 2 (z : Rat) := Fr.int h
theorem fr_step {M W : Nat} {a c : Rat} {z : Int} (hz : z.natAbs <= 2) (ha : Fr M W a) (hc : Fr M W c) : Fr M (3 * W) (a + (z : Rat) * c) := by
 have h := (fr_int2 (M := M) hz).mul hc
 rw [Nat.one_mul] at h
 exact (ha.add h).mono (by omega)
theorem szn_int {z : Int} (h : z.natAbs <= 1000) : SzN (z : Rat) := fr_szn (M := 1) (V := 1000) (by decide) (Nat.one_le_two_pow) (Nat.le_trans (show 1000 <= 2 ^ 10 by decide) (Nat.pow_le_pow_right (by decide) (by decide))) (Fr.int h)
theorem szn_mulP {M W : Nat} {c : Rat} {z : Int} (hz : z.natAbs <= 2) (hc : Fr M W c) (h0 : 0 < M) (h1 : M <= 2 ^ 800) (hW : W <= 2 ^ 140) : SzN ((z : Rat) * c) := by
 have h := (fr_int2 (M := M) hz).mul hc
 rw [Nat.one_mul] at h
 refine fr_szn h0 (Nat.le_trans h1 (Nat.pow_le_pow_right (by decide) (by decide))) (Nat.le_trans (Nat.mul_le_mul_left 2 hW) ?_) h
 rw [show 2 * 2 ^ 140 = 2 ^ 141 by rw [Nat.pow_succ, Nat.mul_comm]]
 exact Nat.pow_le_pow_right (by decide) (by decide)
def KeepC (A : Addr -> Prop) (b m : Addr) (H H' : Hp) : Prop := ∀ c u, H c = some u -> c ≠ b -> ¬ A c -> c ≠ m -> H' c = some u
theorem KeepC.same {A : Addr -> Prop} {b m : Addr} {H H1 H2 : Hp} (h : KeepC A b m H H1) (s : Same H1 H2) : KeepC A b m H H2 := fun c u e n1 n2 n3 => s _ _ (h c u e n1 n2 n3)
theorem KeepC.upto {A : Addr -> Prop} {b m : Addr} {H H1 H2 : Hp} (h : KeepC A b m H H1) (s : Upto b H1 H2) : KeepC A b m H H2 := fun c u e n1 n2 n3 => s.1 _ _ (h c u e n1 n2 n3) n1
theorem KeepC.upd {A : Addr -> Prop} {b m q : Addr} {H H1 : Hp} {o : HO} (h : KeepC A b m H H1) (hq : A q ∨ q = m) : KeepC A b m H (L2.upd H1 q o) := fun c u e n1 n2 n3 => by
 rw [upd_ne]
 ·exact h c u e n1 n2 n3
 ·rintro rfl
  rcases hq with hq | hq
  ·exact n2 hq
  ·exact n3 hq
theorem KeepC.new {A : Addr -> Prop} {b m r : Addr} {H H1 : Hp} (h : KeepC A b m H H1) (hA : ∀ q, H q = none -> A q) (B : Bag H1 b) (hm : H1 m ≠ none) (hr : H1 r = none) : A r := by
 by_cases z : A r
 ·exact z
 ·cases e : H r with
  | none => exact hA r e
  | some u =>
   have := h r u e (fun y => B.at (by rw [<- y]; exact hr)) z (fun y => hm (by rw [<- y]; exact hr))
   rw [hr] at this; cases this
structure MvJ (K : PySem.W.Frag) (A : Addr -> Prop) (n : Nat) (C : Rat -> Prop) (r p b q0 : Addr) (us : List V) (H0 H : Hp) : Prop where
 gr : H r = some (.lst us)
 ru : ∀ x ∈ us, RowP K A H n C x
 rp : RowP K A H n C (.ref p)
 bag : Bag H b
 inn : Inner H b q0
 up : Upto b H0 H
section
variable {K : PySem.W.Frag} {A : Addr -> Prop} {n : Nat} {C : Rat -> Prop} {r p b q0 : Addr} {us : List V} {H0 H H' : Hp} {y : Rat} {v : V}
theorem MvJ.same (h : MvJ K A n C r p b q0 us H0 H) (e : Same H H') : MvJ K A n C r p b q0 us H0 H' := ⟨e _ _ h.gr, fun x hx => (h.ru x hx).same e, h.rp.same e, h.bag.same e, (e.upto (p := b)).2 _ h.inn, h.up.same e⟩
theorem MvJ.upto (h : MvJ K A n C r p b q0 us H0 H) (u : Upto b H H') (B : Bag H' b) (nb : ¬ A b) (rb : r ≠ b) : MvJ K A n C r p b q0 us H0 H' := ⟨u.other rb h.gr, fun x hx => (h.ru x hx).upto u h.bag nb, h.rp.upto u h.bag nb, B, u.2 _ h.inn, h.up.trans u⟩
theorem MvJ.put (h : MvJ K A n C r p b q0 us H0 H) (ap : A p) (nr : ¬ A r) (nb : ¬ A b) (nq : ¬ A q0) (hp : H0 p = none) (hv : NumQ K H y v) (hc : C y) (j : Nat) : ∃ zs, H p = some (.lst zs) /\ zs.length = n /\ MvJ K A n C r p b q0 us H0 (upd H p (.lst (zs.set j v))) := by
 obtain ⟨q, zs, qs, e, a, g, l, _⟩ := h.rp.at
 cases e
 have ne : ∀ {z}, ¬ A z -> z ≠ p := fun h e => h (by rw [e]; exact ap)
 exact ⟨zs, g, l, by rw [upd_ne (ne nr)]; exact h.gr, fun x hx => (h.ru x hx).put g hv hc j, h.rp.put g hv hc j, h.bag.upd h.inn (ne nb).symm (ne nq).symm, h.inn.upd (ne nb).symm, h.up.after hp⟩
end
theorem rowsP_pick {K : PySem.W.Frag} {A : Addr -> Prop} {H : Hp} {n : Nat} {C : Rat -> Prop} {us : List V} (h : ∀ x ∈ us, RowP K A H n C x) : ∃ rows : List (List Rat), Paired (fun qs x => ∃ q, x = V.ref q /\ A q /\ RowQ K H q qs) rows us /\ rows.length = us.length /\ ∀ qs ∈ rows, qs.length = n /\ ∀ y ∈ qs, C y := by
 induction us with
 | nil => exact ⟨[], .nil, rfl, fun _ z => nomatch z⟩
 | cons u us ih =>
  obtain ⟨rows, pr, l, hr⟩ := ih fun x hx => h x (.tail _ hx)
  obtain ⟨q, qs, e, a, r, l1, c⟩ := h u (.head _)
  refine ⟨qs :: rows, .cons ⟨q, e, a, r⟩ pr, by simp [l], fun zs hz => ?_⟩
  rcases List.mem_cons.mp hz with rfl | hz
  ·exact ⟨l1, c⟩
  ·exact hr zs hz
theorem rowsP_back {K : PySem.W.Frag} {A : Addr -> Prop} {H : Hp} {n : Nat} {C : Rat -> Prop} {us : List V} {rows : List (List Rat)} (pr : Paired (fun qs x => ∃ q, x = V.ref q /\ A q /\ RowQ K H q qs) rows us) (h : ∀ qs ∈ rows, qs.length = n /\ ∀ y ∈ qs, C y) : ∀ x ∈ us, RowP K A H n C x := fun x hx => by
 obtain ⟨qs, hq, q, e, a, r⟩ := paired_mem pr hx
 exact ⟨q, qs, e, a, r, (h qs hq).1, (h qs hq).2⟩
theorem flat_lenS {n : Nat} : ∀ {rows : List (List Rat)}, (∀ xs ∈ rows, xs.length = n) -> rows.flatten.length = rows.length * n
 | [], _ => by simp
 | xs :: rows, h => by
  rw [List.flatten_cons, List.length_append, h xs (.head _), flat_lenS fun ys hy => h ys (.tail _ hy), List.length_cons, Nat.succ_mul, Nat.add_comm]
theorem rows_fr {c n : Nat} {rows : List (List Rat)} (h : ∀ qs ∈ rows, qs.length = n /\ ∀ y ∈ qs, Dr (2 ^ c) y) : ∃ M : Nat, 0 < M /\ M <= 2 ^ (c * (rows.length * n)) /\ ∀ qs ∈ rows, ∀ y ∈ qs, Fr M (2 ^ c) y := by
 have fl : rows.flatten.length = rows.length * n := flat_lenS fun ys hy => (h ys hy).1
 have hm : ∀ a ∈ rows.flatten.map (·.den), 0 < a /\ a <= 2 ^ c := fun a ha => by
  obtain ⟨y, hy, rfl⟩ := List.mem_map.mp ha
  obtain ⟨qs, hq, hy⟩ := List.mem_flatten.mp hy
  exact ⟨y.den_pos, ((h qs hq).2 y hy).2⟩
 refine ⟨prodN (rows.flatten.map (·.den)), prodN_pos fun a ha => (hm a ha).1, ?_, fun qs hq y hy => ?_⟩
 ·have := prodN_le (k := c) (l := rows.flatten.map (·.den)) fun a ha => (hm a ha).2
  rwa [List.length_map, fl] at this
 ·exact (Fr.own y ((h qs hq).2 y hy).1).dvd (prodN_dvd (List.mem_map.mpr ⟨y, List.mem_flatten.mpr ⟨qs, hq, hy⟩, rfl⟩))
theorem gridP_grid {K : PySem.W.Frag} {A : Addr -> Prop} {H H0 : Hp} {n m : Nat} {C : Rat -> Prop} {p : Addr} (h : GridP K A H n C p m) (w : ∀ q, A q -> H0 q = none) : ∃ rows, GridQ K H0 H p rows /\ rows.length = m /\ ∀ qs ∈ rows, qs.length = n /\ ∀ y ∈ qs, C y := by
 obtain ⟨us, g, l, a, r⟩ := h
 obtain ⟨rows, pr, lr, hr⟩ := rowsP_pick r
 refine ⟨rows, ⟨us, g, Paired.imp' (fun _ _ ⟨q, e, aq, rq⟩ => ⟨q, e, w q aq, rq⟩) pr, fun hm => ?_⟩, by rw [lr, l], hr⟩
 obtain ⟨q, _, e, aq, _⟩ := r _ hm
 cases e
 exact a aq
theorem KeepC.trans {A : Addr -> Prop} {b m : Addr} {H H1 H2 : Hp} (h : KeepC A b m H H1) (h' : KeepC A b m H1 H2) : KeepC A b m H H2 := fun c u e n1 n2 n3 => h' c u (h c u e n1 n2 n3) n1 n2 n3
structure PtI (K : PySem.W.Frag) (A : Addr -> Prop) (n : Nat) (C : Rat -> Prop) (m p l b q0 : Addr) (i o : Nat) (ws vs : List V) (H0 H : Hp) : Prop where
 mix : Mix K A H n C m p l b q0 i o
 gp : H p = some (.lst ws)
 gl : H l = some (.lst vs)
 kp : KeepC A b m H0 H
theorem rowF_P {K : PySem.W.Frag} {A : Addr -> Prop} {H0 H : Hp} {n : Nat} {C : Rat -> Prop} {us : List V} {rows : List (List Rat)} (pr : Paired (RowF K H0 H) rows us) (h : ∀ qs ∈ rows, qs.length = n /\ ∀ y ∈ qs, C y) (w : ∀ q, V.ref q ∈ us -> H0 q = none -> H q ≠ none -> A q) : ∀ x ∈ us, RowP K A H n C x := fun x hx => by
 obtain ⟨qs, hq, q, e, a, r⟩ := paired_mem pr hx
 subst e
 exact ⟨q, qs, rfl, w q hx a (by obtain ⟨_, g, _⟩ := r; rw [g]; simp), r, (h qs hq).1, (h qs hq).2⟩
def sp_sizesS : Sp := fun vs H Q _ => ∃ b, vs = [.ref b] /\ Bag H b /\ ∀ r (n i o w : Nat) H', H' r = some (.tup [.int n, .int i, .int o, .int w]) -> n <= 5 -> i <= 4 -> o <= 4 -> (w = 4 ∨ w = 9 ∨ (w = 1000000 /\ n <= 2)) -> (n = 5 -> i <= 2 /\ o <= 2) -> Bag H' b -> Upto b H H' -> Q (.ref r) H'
end L2
namespace L2
open PySem PySem.Spec PyProof.Rows Nm
def PartsQ (K : PySem.W.Frag) (H0 H : Hp) (r : Addr) (mv pt lk : List (List Rat)) : Prop := ∃ m p l, H r = some (.tup [.ref m, .ref p, .ref l]) /\ H0 m = none /\ H0 p = none /\ H0 l = none /\ GridQ K H0 H m mv /\ GridQ K H0 H p pt /\ GridQ K H0 H l lk
section
variable {K : PySem.W.Frag} {H H' H0 H1 : Hp} {r b : Addr} {mv pt lk : List (List Rat)}
theorem PartsQ.same (h : PartsQ K H0 H r mv pt lk) (e : Same H H') : PartsQ K H0 H' r mv pt lk := let ⟨m, p, l, g, n1, n2, n3, g1, g2, g3⟩ := h; ⟨m, p, l, e _ _ g, n1, n2, n3, g1.same e, g2.same e, g3.same e⟩
theorem PartsQ.upto (h : PartsQ K H0 H r mv pt lk) (u : Upto b H H') (B : Bag H b) (nb : H0 b ≠ none) : PartsQ K H0 H' r mv pt lk := by
 obtain ⟨m, p, l, g, n1, n2, n3, g1, g2, g3⟩ := h
 exact ⟨m, p, l, u.tup B g, n1, n2, n3, g1.upto u B (fun z => nb (by rw [<- z]; exact n1)) nb, g2.upto u B (fun z => nb (by rw [<- z]; exact n2)) nb, g3.upto u B (fun z => nb (by rw [<- z]; exact n3)) nb⟩
theorem PartsQ.weak (h : PartsQ K H0 H r mv pt lk) (e : ∀ q, H0 q = none -> H1 q = none) : PartsQ K H1 H r mv pt lk := let ⟨m, p, l, g, n1, n2, n3, ⟨x1, y1, z1, w1⟩, ⟨x2, y2, z2, w2⟩, ⟨x3, y3, z3, w3⟩⟩ := h
 ⟨m, p, l, g, e _ n1, e _ n2, e _ n3, ⟨x1, y1, Paired.imp' (fun _ _ ⟨q, a, b, c⟩ => ⟨q, a, e _ b, c⟩) z1, w1⟩, ⟨x2, y2, Paired.imp' (fun _ _ ⟨q, a, b, c⟩ => ⟨q, a, e _ b, c⟩) z2, w2⟩, ⟨x3, y3, Paired.imp' (fun _ _ ⟨q, a, b, c⟩ => ⟨q, a, e _ b, c⟩) z3, w3⟩⟩
end
def sp_systemQ (K : PySem.W.Frag) (C : Addr) : Sp := fun vs H Q _ => ∃ (r : Addr) (H0 : Hp) (mv pt lk : List (List Rat)), vs = [.ref r] /\ PartsQ K H0 H r mv pt lk /\ SysD mv pt lk /\ SFits mv pt lk /\ ∀ x H', H x = none -> Same H H' -> SysQ K H H' C x mv pt lk -> Q (.ref x) H'
end L2
namespace L2
open PySem PySem.Spec PyProof.Rows Nm
structure Both (K : PySem.W.Frag) (C : Addr) (H0 H : Hp) (x r : Addr) (mv pt lk : List (List Rat)) : Prop where
 sys : SysQ K H0 H C x mv pt lk
 par : PartsQ K H0 H r mv pt lk
 dim : SysD mv pt lk
 fit : SFits mv pt lk
end L2
namespace L2
open PySem PySem.Spec PyProof.Rows Nm
def FitN (k j : Nat) (l : List Rat) : Prop := ∃ M V : Nat, 0 < M /\ M <= 2 ^ k /\ V <= 2 ^ j /\ ∀ x ∈ l, Fr M V x
section
variable {k j k' j' : Nat} {l xs ys : List Rat} {x y : Rat}
theorem FitN.szn (h : FitN k j l) (hx : x ∈ l) (hk : k + j <= 3950 := by decide) : SzN x := by
 obtain ⟨M, V, h0, h1, h2, h3⟩ := h
 obtain ⟨a, b⟩ := (h3 x hx).sz h0 h1 h2
 exact ⟨a.mono (by omega), b.mono (by omega)⟩
theorem FitN.rowM (h : FitN k j l) (hk : k + j <= 4200 := by decide) : ∃ M, RowM M (l.map nm) := by
 obtain ⟨M, V, h0, h1, h2, h3⟩ := h
 refine ⟨M, by omega, ?_, fun n hn => ?_⟩
 ·show ((M : Nat) : Int).natAbs < 2 ^ 4400
  rw [Int.natAbs_natCast]
  exact Nat.lt_of_le_of_lt h1 (Nat.pow_lt_pow_right (by decide) (by omega))
 ·obtain ⟨x, hx, rfl⟩ := List.mem_map.mp hn
  obtain ⟨a, _⟩ := (h3 x hx).sz h0 h1 h2
  exact ⟨nm_pos x, (h3 x hx).den, a.mono (by omega)⟩
theorem FitN.one (h : FitN k j l) (hx : x ∈ l) : FitN k j [x] := by
 obtain ⟨M, V, h0, h1, h2, h3⟩ := h
 exact ⟨M, V, h0, h1, h2, fun y hy => by rw [List.mem_singleton.mp hy]; exact h3 x hx⟩
theorem dot_sznW (h : FitN k j xs) (h' : FitN k' j' ys) (hl : xs.length <= 1000) (i : Nat) (hk : (k + k') + (j + j') <= 3930 := by decide) : SzN (dotQ (xs.take i) (ys.take i)) := by
 obtain ⟨M, V, h0, h1, h2, h3⟩ := h
 obtain ⟨N, W, k0, k1, k2, k3⟩ := h'
 have e : 1000 * (V * W) <= 2 ^ (10 + (j + j')) := by
  rw [Nat.pow_add 2 10]
  exact Nat.mul_le_mul (by decide) (Nat.le_trans (Nat.mul_le_mul h2 k2) (by rw [<- Nat.pow_add]; exact Nat.le_refl _))
 obtain ⟨a, b⟩ := ((Fr.dot (fun x hx => h3 x (List.mem_of_mem_take hx)) (fun y hy => k3 y (List.mem_of_mem_take hy))).mono (Nat.mul_le_mul_right _ (show (xs.take i).length <= 1000 by rw [List.length_take]; omega))).sz (Nat.mul_pos h0 k0) (Nat.le_trans (Nat.mul_le_mul h1 k1) (by rw [<- Nat.pow_add]; exact Nat.le_refl _)) e
 exact ⟨a.mono (by omega), b.mono (by omega)⟩
theorem mul_sznW (hx : FitN k j [x]) (hy : FitN k' j' [y]) (hk : (k + k') + (j + j') <= 3930 := by decide) : SzN (x * y) := by
 obtain ⟨M, V, h0, h1, h2, h3⟩ := hx
 obtain ⟨N, W, k0, k1, k2, k3⟩ := hy
 obtain ⟨a, b⟩ := ((h3 x (.head _)).mul (k3 y (.head _))).sz (Nat.mul_pos h0 k0) (Nat.le_trans (Nat.mul_le_mul h1 k1) (by rw [<- Nat.pow_add]; exact Nat.le_refl _)) (Nat.le_trans (Nat.mul_le_mul h2 k2) (by rw [<- Nat.pow_add]; exact Nat.le_refl _))
 exact ⟨a.mono (by omega), b.mono (by omega)⟩
def Fit2 (xs ys : List Rat) : Prop := ∃ k j k' j' : Nat, FitN k j xs /\ FitN k' j' ys /\ (k + k') + (j + j') <= 3930
end
def sp_dotW (K : PySem.W.Frag) : Sp := fun vs H Q _ => ∃ (p q : Addr) (xs ys : List Rat), vs = [.ref p, .ref q] /\ RowQ K H p xs /\ RowQ K H q ys /\ ys.length = xs.length /\ xs.length <= 1000 /\ Fit2 xs ys ∧
 ∀ r H', Same H H' -> NumQ K H' (dotQ xs ys) (.ref r) -> Q (.ref r) H'
def sp_gonW (K : PySem.W.Frag) : Sp := fun vs H Q _ => ∃ (p q : Addr) (H0 : Hp) (rows : List (List Rat)) (ys : List Rat), vs = [.ref p, .ref q] /\ GridQ K H0 H p rows /\ RowQ K H q ys /\ rows.length <= 1000 /\ ys.length <= 1000 /\ (∀ xs ∈ rows, xs.length = ys.length /\ Fit2 xs ys) ∧
 ∀ r H', H r = none -> Same H H' -> RowQ K H' r (rows.map fun xs => dotQ xs ys) -> Q (.ref r) H'
end L2
namespace L2
open PySem PySem.Spec PyProof.Rows Nm
section
variable {mv pt lk pus : List (List Rat)} {st : List Rat} {k : Nat}
end
end L2
namespace L2
open PySem PySem.Spec PyProof.Rows Nm
end L2
namespace L2
open PySem PySem.Spec PyProof.Rows Nm
end L2
namespace L2
open PySem PySem.Spec PyProof.Rows Nm
end L2
namespace L2
open PySem PySem.Spec PyProof.Rows Nm
theorem sh_gf {i : Int} (h : i = 0 ∨ i = 1) : Fr 1 1 (i : Rat) := Fr.int (by rcases h with rfl | rfl <;> decide)
end L2
namespace L2
open PySem PySem.Spec PyProof.Rows Nm
end L2
namespace L2
open PySem PySem.Spec PyProof.Rows Nm
end L2
namespace L2
abbrev Vec := Nat -> Rat
def lpD (F : List Vec -> Rat) (r : Nat) : List Vec -> List Vec -> Rat -> Rat
 | _, [], _ => 0
 | pre, v :: post, s => s * v r * F (pre ++ post) + lpD F r (pre ++ [v]) post (-s)
def dtD : List Nat -> List Vec -> Rat
 | [], [] => 1
 | [], _ :: _ => 0
 | r :: rs, vs => lpD (fun ws => dtD rs ws) r [] vs 1
theorem dt_nil {a b : List Vec} {x : Vec} : dtD [] (a ++ x :: b) = 0 := by
 cases a <;> rfl
theorem lp_lin2 {F : List Vec -> Rat} {r : Nat} {f g h : Vec} {x y : Rat} (hF : ∀ a b, F (a ++ h :: b) = x * F (a ++ f :: b) + y * F (a ++ g :: b)) : ∀ (b p q : List Vec) (s : Rat), lpD F r (p ++ h :: q) b s = x * lpD F r (p ++ f :: q) b s + y * lpD F r (p ++ g :: q) b s
 | [], p, q, s => by simp only [lpD, Rat.mul_zero, Rat.add_zero]
 | v :: b, p, q, s => by
  have i1 := hF p (q ++ b)
  have i2 := lp_lin2 (r := r) hF b p (q ++ [v]) (-s)
  simp only [lpD, List.append_assoc, List.cons_append] at i1 i2 ⊢
  rw [i1, i2]
  grind
theorem lp_lin1 {F : List Vec -> Rat} {r : Nat} {f g h : Vec} {x y : Rat} (hF : ∀ a b, F (a ++ h :: b) = x * F (a ++ f :: b) + y * F (a ++ g :: b)) (hr : h r = x * f r + y * g r) : ∀ (a pre b : List Vec) (s : Rat), lpD F r pre (a ++ h :: b) s = x * lpD F r pre (a ++ f :: b) s + y * lpD F r pre (a ++ g :: b) s
 | [], pre, b, s => by
  have i2 := lp_lin2 (r := r) hF b pre [] (-s)
  simp only [lpD, List.nil_append] at i2 ⊢
  rw [i2, hr]
  grind
 | v :: a, pre, b, s => by
  have i1 := hF (pre ++ a) b
  have i2 := lp_lin1 hF hr a (pre ++ [v]) b (-s)
  simp only [lpD, List.append_assoc, List.cons_append] at i1 i2 ⊢
  rw [i1, i2]
  grind
theorem dt_lin {f g h : Vec} {x y : Rat} : ∀ {rs : List Nat}, (∀ r ∈ rs, h r = x * f r + y * g r) -> ∀ a b, dtD rs (a ++ h :: b) = x * dtD rs (a ++ f :: b) + y * dtD rs (a ++ g :: b)
 | [], _, a, b => by rw [dt_nil, dt_nil, dt_nil]; grind
 | r :: rs, hr, a, b => lp_lin1 (fun a b => dt_lin (fun r' h' => hr r' (.tail _ h')) a b) (hr r (.head _)) a [] b 1
theorem dt_congr {f h : Vec} {rs : List Nat} (hr : ∀ r ∈ rs, h r = f r) (a b : List Vec) : dtD rs (a ++ h :: b) = dtD rs (a ++ f :: b) := by
 rw [dt_lin (f := f) (g := f) (x := 1) (y := 0) (fun r h' => by rw [hr r h']; grind) a b]
 grind
theorem dt_zero {h : Vec} {rs : List Nat} (hr : ∀ r ∈ rs, h r = 0) (a b : List Vec) : dtD rs (a ++ h :: b) = 0 := by
 rw [dt_lin (f := h) (g := h) (x := 0) (y := 0) (fun r h' => by rw [hr r h']; grind) a b]
 grind
theorem lp_adj2 {F : List Vec -> Rat} {r : Nat} {x : Vec} (hF : ∀ a b, F (a ++ x :: x :: b) = 0) : ∀ (b p q : List Vec) (s : Rat), lpD F r (p ++ x :: x :: q) b s = 0
 | [], p, q, s => rfl
 | v :: b, p, q, s => by
  have i1 := hF p (q ++ b)
  have i2 := lp_adj2 (r := r) hF b p (q ++ [v]) (-s)
  simp only [lpD, List.append_assoc, List.cons_append] at i1 i2 ⊢
  rw [i1, i2]
  grind
theorem lp_adj1 {F : List Vec -> Rat} {r : Nat} {x : Vec} (hF : ∀ a b, F (a ++ x :: x :: b) = 0) : ∀ (a pre b : List Vec) (s : Rat), lpD F r pre (a ++ x :: x :: b) s = 0
 | [], pre, b, s => by
  have i2 := lp_adj2 (r := r) hF b pre [] (- -s)
  simp only [lpD, List.nil_append, List.append_assoc, List.cons_append] at i2 ⊢
  rw [i2]
  grind
 | v :: a, pre, b, s => by
  have i1 := hF (pre ++ a) b
  have i2 := lp_adj1 (r := r) hF a (pre ++ [v]) b (-s)
  simp only [lpD, List.append_assoc, List.cons_append] at i1 i2 ⊢
  rw [i1, i2]
  grind
theorem dt_adj {x : Vec} : ∀ {rs : List Nat} (a b : List Vec), dtD rs (a ++ x :: x :: b) = 0
 | [], a, b => dt_nil
 | r :: rs, a, b => lp_adj1 (fun a b => dt_adj a b) a [] b 1
theorem dt_swap {x y : Vec} {rs : List Nat} (a b : List Vec) : dtD rs (a ++ x :: y :: b) = - dtD rs (a ++ y :: x :: b) := by
 have hr : ∀ r ∈ rs, (fun r => 1 * x r + 1 * y r) r = 1 * x r + 1 * y r := fun _ _ => rfl
 have h0 := dt_adj (x := fun r => 1 * x r + 1 * y r) (rs := rs) a b
 have h1 := dt_lin hr a ((fun r => 1 * x r + 1 * y r) :: b)
 have h2 := dt_lin hr (a ++ [x]) b
 have h3 := dt_lin hr (a ++ [y]) b
 have h4 := dt_adj (x := x) (rs := rs) a b
 have h5 := dt_adj (x := y) (rs := rs) a b
 simp only [List.append_assoc, List.cons_append, List.nil_append] at h0 h1 h2 h3 h4 h5
 rw [h1, h2, h3, h4, h5] at h0
 grind
theorem dt_dup {x : Vec} {rs : List Nat} : ∀ (b a c : List Vec), dtD rs (a ++ x :: (b ++ x :: c)) = 0
 | [], a, c => dt_adj a c
 | y :: b, a, c => by
  have := dt_dup (x := x) (rs := rs) b (a ++ [y]) c
  simp only [List.append_assoc, List.cons_append, List.nil_append] at this
  rw [List.cons_append, dt_swap, this]
  rfl
def sumN : Nat -> (Nat -> Rat) -> Rat
 | 0, _ => 0
 | k + 1, f => sumN k f + f k
theorem sumN_congr {f g : Nat -> Rat} : ∀ {k : Nat}, (∀ j, j < k -> f j = g j) -> sumN k f = sumN k g
 | 0, _ => rfl
 | k + 1, h => by
  show sumN k f + f k = sumN k g + g k
  rw [sumN_congr fun j hj => h j (by omega), h k (by omega)]
theorem sumN_add {f g : Nat -> Rat} : ∀ {k : Nat}, sumN k (fun j => f j + g j) = sumN k f + sumN k g
 | 0 => by show (0 : Rat) = 0 + 0; grind
 | k + 1 => by
  show sumN k (fun j => f j + g j) + _ = (sumN k f + f k) + (sumN k g + g k)
  rw [sumN_add]
  grind
theorem sumN_mul {f : Nat -> Rat} {c : Rat} : ∀ {k : Nat}, sumN k (fun j => c * f j) = c * sumN k f
 | 0 => by show (0 : Rat) = c * 0; grind
 | k + 1 => by
  show sumN k (fun j => c * f j) + _ = c * (sumN k f + f k)
  rw [sumN_mul]
  grind
theorem sumN_zero {f : Nat -> Rat} : ∀ {k : Nat}, (∀ j, j < k -> f j = 0) -> sumN k f = 0
 | 0, _ => rfl
 | k + 1, h => by
  show sumN k f + f k = 0
  rw [sumN_zero fun j hj => h j (by omega), h k (by omega)]
  grind
theorem sumN_one {f : Nat -> Rat} {i : Nat} : ∀ {k : Nat}, i < k -> (∀ j, j < k -> j ≠ i -> f j = 0) -> sumN k f = f i
 | k + 1, hi, h => by
  show sumN k f + f k = f i
  by_cases e : i = k
  ·subst e
   rw [sumN_zero fun j hj => h j (by omega) (by omega)]
   grind
  ·rw [sumN_one (by omega) fun j hj => h j (by omega), h k (by omega) (fun z => e z.symm)]
   grind
theorem sumN_swap {f : Nat -> Nat -> Rat} {m : Nat} : ∀ {k : Nat}, sumN k (fun i => sumN m (f i)) = sumN m (fun j => sumN k fun i => f i j)
 | 0 => (sumN_zero fun _ _ => rfl).symm
 | k + 1 => by
  show sumN k (fun i => sumN m (f i)) + sumN m (f k) = sumN m (fun j => sumN k (fun i => f i j) + f k j)
  rw [sumN_swap, sumN_add]
theorem dt_sum {rs : List Nat} {W : Vec} {v : Nat -> Vec} {c : Nat -> Rat} (a b : List Vec) : ∀ {k : Nat} {W : Vec}, (∀ r ∈ rs, W r = sumN k fun j => c j * v j r) -> dtD rs (a ++ W :: b) = sumN k fun j => c j * dtD rs (a ++ v j :: b)
 | 0, W, h => dt_zero h a b
 | k + 1, W, h => by
  rw [dt_lin (f := fun r => sumN k fun j => c j * v j r) (g := v k) (x := 1) (y := c k) (fun r hr => by rw [h r hr]; show sumN k _ + _ = _; grind) a b, dt_sum a b (k := k) (W := fun r => sumN k fun j => c j * v j r) fun r _ => rfl]
  show _ = sumN k _ + _
  grind
end L2
namespace L2
open Nm
def rlN (f : Nat -> Nat) : Nat -> List Nat
 | 0 => []
 | k + 1 => f k :: rlN f k
def cwN (v : Nat -> Vec) : Nat -> List Vec
 | 0 => []
 | k + 1 => v k :: cwN v k
def cvN (v : Nat -> Vec) (i : Nat) : Nat -> List Vec
 | 0 => []
 | k + 1 => if k <= i then [] else v k :: cvN v i k
theorem rl_len {f : Nat -> Nat} : ∀ {k : Nat}, (rlN f k).length = k
 | 0 => rfl
 | k + 1 => by show (rlN f k).length + 1 = _; rw [rl_len]
theorem cw_len {v : Nat -> Vec} : ∀ {k : Nat}, (cwN v k).length = k
 | 0 => rfl
 | k + 1 => by show (cwN v k).length + 1 = _; rw [cw_len]
theorem rl_mem {f : Nat -> Nat} {r : Nat} : ∀ {k : Nat}, r ∈ rlN f k -> ∃ t, t < k /\ r = f t
 | k + 1, h => by
  rcases List.mem_cons.mp h with h | h
  ·exact ⟨k, by omega, h⟩
  ·obtain ⟨t, a, b⟩ := rl_mem h
   exact ⟨t, by omega, b⟩
theorem rl_congr {f g : Nat -> Nat} : ∀ {k : Nat}, (∀ j, j < k -> f j = g j) -> rlN f k = rlN g k
 | 0, _ => rfl
 | k + 1, h => by
  show f k :: rlN f k = g k :: rlN g k
  rw [h k (by omega), rl_congr fun j hj => h j (by omega)]
theorem cw_congr {f g : Nat -> Vec} : ∀ {k : Nat}, (∀ j, j < k -> f j = g j) -> cwN f k = cwN g k
 | 0, _ => rfl
 | k + 1, h => by
  show f k :: cwN f k = g k :: cwN g k
  rw [h k (by omega), cw_congr fun j hj => h j (by omega)]
theorem cw_mem {v : Nat -> Vec} {j : Nat} : ∀ {k : Nat}, j < k -> v j ∈ cwN v k
 | k + 1, h => by
  by_cases e : j = k
  ·subst e
   exact .head _
  ·exact .tail _ (cw_mem (by omega))
theorem cw_in {v : Nat -> Vec} {x : Vec} : ∀ {k : Nat}, x ∈ cwN v k -> ∃ t, t < k /\ x = v t
 | k + 1, h => by
  rcases List.mem_cons.mp h with h | h
  ·exact ⟨k, by omega, h⟩
  ·obtain ⟨t, a, b⟩ := cw_in h
   exact ⟨t, by omega, b⟩
theorem cv_mem {v : Nat -> Vec} {i j : Nat} (h1 : i < j) : ∀ {k : Nat}, j < k -> v j ∈ cvN v i k
 | k + 1, h => by
  show v j ∈ if k <= i then [] else v k :: cvN v i k
  rw [if_neg (by omega)]
  by_cases e : j = k
  ·subst e
   exact .head _
  ·exact .tail _ (cv_mem h1 (by omega))
theorem cv_in {v : Nat -> Vec} {i : Nat} {x : Vec} : ∀ {k : Nat}, x ∈ cvN v i k -> ∃ t, t < k /\ x = v t
 | k + 1, h => by
  have h : x ∈ if k <= i then [] else v k :: cvN v i k := h
  split at h
  ·cases h
  ·rcases List.mem_cons.mp h with h | h
   ·exact ⟨k, by omega, h⟩
   ·obtain ⟨t, a, b⟩ := cv_in h
    exact ⟨t, by omega, b⟩
theorem cw_split {v : Nat -> Vec} {i : Nat} : ∀ {k : Nat}, i < k -> cwN v k = cvN v i k ++ v i :: cwN v i
 | k + 1, h => by
  show v k :: cwN v k = (if k <= i then [] else v k :: cvN v i k) ++ _
  by_cases e : i = k
  ·subst e
   rw [if_pos (Nat.le_refl _)]
   rfl
  ·rw [if_neg (by omega), cw_split (k := k) (i := i) (by omega)]
   rfl
theorem dt_cramer {rs : List Nat} {v : Nat -> Vec} {c : Nat -> Rat} {W : Vec} {k i : Nat} (hi : i < k) (hW : ∀ r ∈ rs, W r = sumN k fun j => c j * v j r) : dtD rs (cvN v i k ++ W :: cwN v i) = c i * dtD rs (cwN v k) := by
 rw [dt_sum (v := v) (c := c) (W := W) _ _ hW, sumN_one hi fun j hj ne => ?_, cw_split hi]
 rcases Nat.lt_or_ge j i with h | h
 ·obtain ⟨s, t, e⟩ := List.append_of_mem (cw_mem (v := v) h)
  rw [e, dt_dup]
  grind
 ·obtain ⟨s, t, e⟩ := List.append_of_mem (cv_mem (v := v) (show i < j by omega) hj)
  have := dt_dup (x := v j) (rs := rs) t s (cwN v i)
  rw [e, List.append_assoc, List.cons_append, this]
  grind
theorem dt_dep {rs : List Nat} {v : Nat -> Vec} {c : Nat -> Rat} {W : Vec} {k : Nat} (hW : ∀ r ∈ rs, W r = sumN k fun j => c j * v j r) : dtD rs (W :: cwN v k) = 0 := by
 have := dt_sum (v := v) (c := c) (W := W) [] (cwN v k) hW
 rw [List.nil_append] at this
 rw [this]
 refine sumN_zero fun j hj => ?_
 obtain ⟨s, t, e⟩ := List.append_of_mem (cw_mem (v := v) hj)
 have := dt_dup (x := v j) (rs := rs) s [] t
 rw [List.nil_append] at this
 rw [e, List.nil_append, this]
 grind
theorem dt_expand {rs : List Nat} {v : Nat -> Vec} {c : Nat -> Rat} {W : Vec} {k i : Nat} {s : Rat} (hi : i ∉ rs) (h1 : W i = sumN k (fun j => c j * v j i) + s) (hW : ∀ r ∈ rs, W r = sumN k fun j => c j * v j r) : dtD (i :: rs) (W :: cwN v k) = s * dtD rs (cwN v k) := by
 have e := dt_lin (rs := i :: rs) (h := W) (f := fun r => sumN k fun j => c j * v j r) (g := fun r => if r = i then 1 else 0) (x := 1) (y := s) (fun r hr => by
  rcases List.mem_cons.mp hr with rfl | hr
  ·rw [h1, if_pos rfl]; grind
  ·rw [hW r hr, if_neg (fun z => hi (by rw [<- z]; exact hr))]; grind) [] (cwN v k)
 rw [List.nil_append, List.nil_append, List.nil_append, dt_dep (c := c) fun r _ => rfl] at e
 have e2 : dtD (i :: rs) ((fun r => if r = i then (1 : Rat) else 0) :: cwN v k) = dtD rs (cwN v k) := by
  show 1 * (if i = i then (1 : Rat) else 0) * dtD rs ([] ++ cwN v k) + lpD (fun ws => dtD rs ws) i ([] ++ [fun r => if r = i then (1 : Rat) else 0]) (cwN v k) (-1) = _
  have hF : ∀ a b, (fun ws => dtD rs ws) (a ++ (fun r => if r = i then (1 : Rat) else 0) :: b) = 0 * (fun ws => dtD rs ws) (a ++ (fun r => if r = i then (1 : Rat) else 0) :: b) + 0 * (fun ws => dtD rs ws) (a ++ (fun r => if r = i then (1 : Rat) else 0) :: b) := fun a b => by
   have := dt_zero (h := fun r => if r = i then (1 : Rat) else 0) (rs := rs) (fun r hr => if_neg fun z => hi (by rw [<- z]; exact hr)) a b
   dsimp only
   rw [this]
   grind
  have := lp_lin2 (r := i) hF (cwN v k) [] [] (-1)
  rw [this, if_pos rfl, List.nil_append]
  grind
 rw [e2] at e
 rw [e]
 grind
theorem lp_fr {F : List Vec -> Rat} {r B W : Nat} : ∀ {post pre : List Vec} {s : Rat}, (∀ ws, (∀ w ∈ ws, w ∈ pre ++ post) -> ws.length + 1 = (pre ++ post).length -> Fr 1 B (F ws)) -> (∀ w ∈ post, Fr 1 W (w r)) -> Fr 1 1 s -> Fr 1 (post.length * (W * B)) (lpD F r pre post s)
 | [], pre, s, _, _, _ => by show Fr 1 _ 0; exact Fr.zero
 | v :: post, pre, s, hF, hw, hs => by
  have t1 : Fr 1 (W * B) (s * v r * F (pre ++ post)) := by
   have := (hs.mul (hw v (.head _))).mul (hF (pre ++ post) (fun w h => by
    rcases List.mem_append.mp h with h | h
    ·exact List.mem_append_left _ h
    ·exact List.mem_append_right _ (.tail _ h)) (by simp only [List.length_append, List.length_cons]; omega))
   simpa using this
  have t2 := lp_fr (F := F) (r := r) (B := B) (W := W) (post := post) (pre := pre ++ [v]) (s := -s) (fun ws h h' => hF ws (fun w hw => by simpa using h w hw) (by simpa using h')) (fun w h => hw w (.tail _ h)) (by simpa using hs.neg)
  exact (t1.add t2).mono (by rw [List.length_cons, Nat.succ_mul]; omega)
theorem dt_fr {W N : Nat} : ∀ {rs : List Nat} {vs : List Vec}, vs.length <= N -> (∀ v ∈ vs, ∀ r ∈ rs, Fr 1 W (v r)) -> Fr 1 ((N * W) ^ rs.length) (dtD rs vs)
 | [], [], _, _ => by show Fr 1 1 1; exact (Fr.int (i := 1) (by decide))
 | [], _ :: _, _, _ => by show Fr 1 _ 0; exact Fr.zero
 | r :: rs, vs, hl, h => by
  have := lp_fr (F := fun ws => dtD rs ws) (r := r) (B := (N * W) ^ rs.length) (W := W) (post := vs) (pre := []) (s := 1) (fun ws h1 h2 => dt_fr (by rw [List.nil_append] at h2; omega) fun v hv r' hr' => h v (by simpa using h1 v hv) r' (.tail _ hr')) (fun w hw => h w hw r (.head _)) (Fr.int (i := 1) (by decide))
  refine this.mono ?_
  rw [List.length_cons, Nat.pow_succ, Nat.mul_comm ((N * W) ^ rs.length), Nat.mul_assoc N]
  exact Nat.mul_le_mul_right _ hl
end L2
namespace L2
open Nm
structure Bar (a : Nat -> Nat -> Rat) (m k : Nat) (pm p : Nat -> Nat) (l : Nat -> Nat -> Rat) (d : Rat) : Prop where
 inj : ∀ i j, i < m -> j < m -> pm i = pm j -> i = j
 rng : ∀ i, i < m -> pm i < m
 km : k <= m
 d0 : d ≠ 0
 det : d = dtD (rlN pm k) (cwN (fun j r => a r (p j)) k)
 eqs : ∀ i, i < m -> ∀ c, d * a (pm i) c = sumN k (fun j => a (pm i) (p j) * l j c) + if i < k then 0 else l i c
 unit : ∀ i, i < m -> ∀ j, j < k -> l i (p j) = if i = j then d else 0
section
variable {a l : Nat -> Nat -> Rat} {m k : Nat} {pm p : Nat -> Nat} {d : Rat}
theorem Bar.start (h : ∀ i, i < m -> pm i = i) : Bar a m 0 pm p a 1 where
 inj i j hi hj e := by rw [h i hi, h j hj] at e; exact e
 rng i hi := by rw [h i hi]; exact hi
 km := Nat.zero_le _
 d0 := by decide
 det := rfl
 eqs i hi c := by
  rw [h i hi, if_neg (by omega)]
  show 1 * a i c = 0 + a i c
  grind
 unit i _ j hj := absurd hj (by omega)
theorem Bar.coef (B : Bar a m k pm p l d) {i c : Nat} (hi : i < m) : a (pm i) c = sumN k (fun j => (l j c / d) * a (pm i) (p j)) + if i < k then 0 else l i c / d := by
 have h := B.eqs i hi c
 have d0 := B.d0
 have e : sumN k (fun j => (l j c / d) * a (pm i) (p j)) = (1 / d) * sumN k (fun j => a (pm i) (p j) * l j c) := by
  rw [<- sumN_mul]
  exact sumN_congr fun j _ => by grind
 rw [e]
 split at h
 ·rw [if_pos (by assumption)]
  grind
 ·rw [if_neg (by assumption)]
  grind
theorem Bar.old (B : Bar a m k pm p l d) {i c : Nat} (hi : i < k) : l i c = dtD (rlN pm k) (cvN (fun j r => a r (p j)) i k ++ (fun r => a r c) :: cwN (fun j r => a r (p j)) i) := by
 have km := B.km
 have d0 := B.d0
 rw [dt_cramer (v := fun j r => a r (p j)) (c := fun j => l j c / d) hi fun r hr => ?_, <- B.det]
 ·grind
 ·obtain ⟨t, ht, rfl⟩ := rl_mem hr
  have := B.coef (i := t) (c := c) (by omega)
  rw [if_pos ht] at this
  rw [this]
  grind
theorem Bar.new (B : Bar a m k pm p l d) {i c : Nat} (h1 : k <= i) (hi : i < m) : l i c = dtD (pm i :: rlN pm k) ((fun r => a r c) :: cwN (fun j r => a r (p j)) k) := by
 have km := B.km
 have d0 := B.d0
 have hn : pm i ∉ rlN pm k := fun hm => by
  obtain ⟨t, ht, e⟩ := rl_mem hm
  have := B.inj i t hi (by omega) e
  omega
 have e1 : a (pm i) c = sumN k (fun j => (l j c / d) * a (pm i) (p j)) + l i c / d := by
  have := B.coef (i := i) (c := c) hi
  rwa [if_neg (by omega)] at this
 have e2 : ∀ r ∈ rlN pm k, a r c = sumN k (fun j => (l j c / d) * a r (p j)) := fun r hr => by
  obtain ⟨t, ht, rfl⟩ := rl_mem hr
  have := B.coef (i := t) (c := c) (by omega)
  rw [if_pos ht] at this
  rw [this]
  grind
 rw [dt_expand (v := fun j r => a r (p j)) (c := fun j => l j c / d) (W := fun r => a r c) (s := l i c / d) hn e1 e2, <- B.det]
 grind
theorem Bar.fr {W N : Nat} (B : Bar a m k pm p l d) (hN : k < N) (hW : 1 <= W) (ha : ∀ i, i < m -> ∀ c, Fr 1 W (a i c)) {i c : Nat} (hi : i < m) : Fr 1 ((N * W) ^ (k + 1)) (l i c) := by
 have km := B.km
 have mono : ∀ t, t <= k + 1 -> (N * W) ^ t <= (N * W) ^ (k + 1) := fun t ht => Nat.pow_le_pow_right (Nat.mul_pos (by omega) hW) ht
 have ha' : ∀ r ∈ rlN pm k, ∀ c, Fr 1 W (a r c) := fun r hr c => by
  obtain ⟨t, ht, rfl⟩ := rl_mem hr
  exact ha _ (B.rng t (by omega)) c
 by_cases h : i < k
 ·rw [B.old h]
  refine (dt_fr (W := W) (N := N) ?_ ?_).mono (mono _ (by rw [rl_len]; omega))
  ·have := congrArg List.length (cw_split (v := fun j r => a r (p j)) h)
   rw [List.length_append, List.length_cons, cw_len] at this
   rw [List.length_append, List.length_cons]
   omega
  ·intro v hv r hr
   rcases List.mem_append.mp hv with hv | hv
   ·obtain ⟨t, _, rfl⟩ := cv_in hv
    exact ha' r hr _
   ·rcases List.mem_cons.mp hv with rfl | hv
    ·exact ha' r hr _
    ·obtain ⟨t, _, rfl⟩ := cw_in hv
     exact ha' r hr _
 ·rw [B.new (by omega) hi]
  refine (dt_fr (W := W) (N := N) ?_ ?_).mono (mono _ (by rw [List.length_cons, rl_len]; omega))
  ·rw [List.length_cons, cw_len]
   omega
  ·intro v hv r hr
   have hr' : ∀ c, Fr 1 W (a r c) := fun c => by
    rcases List.mem_cons.mp hr with rfl | hr
    ·exact ha _ (B.rng i hi) c
    ·exact ha' r hr c
   rcases List.mem_cons.mp hv with rfl | hv
   ·exact hr' _
   ·obtain ⟨t, _, rfl⟩ := cw_in hv
    exact hr' _
theorem Bar.dfr {W N : Nat} (B : Bar a m k pm p l d) (hN : k <= N) (ha : ∀ i, i < m -> ∀ c, Fr 1 W (a i c)) : Fr 1 ((N * W) ^ k) d := by
 have km := B.km
 rw [B.det]
 have := dt_fr (W := W) (N := N) (rs := rlN pm k) (vs := cwN (fun j r => a r (p j)) k) (by rw [cw_len]; exact hN) fun v hv r hr => by
  obtain ⟨t, ht, rfl⟩ := rl_mem hr
  obtain ⟨t', _, rfl⟩ := cw_in hv
  exact ha _ (B.rng t (by omega)) _
 rwa [rl_len] at this
def swN (k t i : Nat) : Nat := if i = k then t else if i = t then k else i
theorem sw_lt {k t m i : Nat} (hk : k < m) (ht : t < m) (hi : i < m) : swN k t i < m := by
 unfold swN
 split
 ·exact ht
 ·split
  ·exact hk
  ·exact hi
theorem sw_inj {k t i j : Nat} (h : swN k t i = swN k t j) : i = j := by
 unfold swN at h
 split at h <;> split at h <;> (try split at h) <;> (try split at h) <;> omega
theorem sw_low {k t i : Nat} (h : k <= t) (hi : i < k) : swN k t i = i := by
 unfold swN
 rw [if_neg (by omega), if_neg (by omega)]
theorem sw_high {k t i : Nat} (h : k <= t) (hi : k <= i) : k <= swN k t i := by
 unfold swN
 split
 ·exact h
 ·split <;> omega
theorem Bar.swap (B : Bar a m k pm p l d) {t : Nat} (h : k <= t) (ht : t < m) : Bar a m k (fun i => pm (swN k t i)) p (fun i => l (swN k t i)) d where
 inj i j hi hj e := sw_inj (B.inj _ _ (sw_lt (by omega) ht hi) (sw_lt (by omega) ht hj) e)
 rng i hi := B.rng _ (sw_lt (by omega) ht hi)
 km := B.km
 d0 := B.d0
 det := by rw [B.det, rl_congr (f := pm) (g := fun i => pm (swN k t i)) fun j hj => by rw [sw_low h hj]]
 eqs i hi c := by
  have e := B.eqs (swN k t i) (sw_lt (by omega) ht hi) c
  have e1 : sumN k (fun j => a (pm (swN k t i)) (p j) * l (swN k t j) c) = sumN k (fun j => a (pm (swN k t i)) (p j) * l j c) := sumN_congr fun j hj => by rw [sw_low h hj]
  rw [e1]
  by_cases hk : i < k
  ·rw [sw_low h hk] at e ⊢
   exact e
  ·rw [if_neg hk]
   rw [if_neg (by have := sw_high h (show k <= i by omega); omega)] at e
   exact e
 unit i hi j hj := by
  rw [B.unit _ (sw_lt (by omega) ht hi) j hj]
  by_cases hk : i < k
  ·rw [sw_low h hk]
  ·have := sw_high h (show k <= i by omega)
   rw [if_neg (by omega), if_neg (by omega)]
theorem Bar.step (B : Bar a m k pm p l d) {c0 : Nat} (hk : k < m) (h0 : l k c0 ≠ 0) : Bar a m (k + 1) pm (fun j => if j = k then c0 else p j) (fun i c => if i = k then l k c else (l k c0 * l i c - l i c0 * l k c) / d) (l k c0) where
 inj := B.inj
 rng := B.rng
 km := hk
 d0 := h0
 det := by
  rw [B.new (Nat.le_refl _) hk]
  show _ = dtD (pm k :: rlN pm k) ((fun r => a r (if k = k then c0 else p k)) :: cwN _ k)
  rw [if_pos rfl]
  congr 2
  exact cw_congr fun j hj => by rw [if_neg (show j ≠ k by omega)]
 eqs i hi c := by
  have d0 := B.d0
  have e1 := B.eqs i hi c
  have e2 := B.eqs i hi c0
  show l k c0 * a (pm i) c = (sumN k _ + _) + _
  have s1 : sumN k (fun j => a (pm i) (if j = k then c0 else p j) * (if j = k then l k c else (l k c0 * l j c - l j c0 * l k c) / d)) = (l k c0 / d) * sumN k (fun j => a (pm i) (p j) * l j c) + (- l k c / d) * sumN k (fun j => a (pm i) (p j) * l j c0) := by
   rw [<- sumN_mul, <- sumN_mul, <- sumN_add]
   refine sumN_congr fun j hj => ?_
   rw [if_neg (show j ≠ k by omega), if_neg (show j ≠ k by omega)]
   grind
  rw [s1]
  simp only [if_true]
  generalize sumN k (fun j => a (pm i) (p j) * l j c) = S1 at e1 ⊢
  generalize sumN k (fun j => a (pm i) (p j) * l j c0) = S2 at e2 ⊢
  rcases Nat.lt_trichotomy i k with h | h | h
  ·rw [if_pos h] at e1 e2
   rw [if_pos (by omega)]
   grind
  ·subst h
   rw [if_neg (by omega)] at e1 e2
   rw [if_pos (by omega)]
   grind
  ·rw [if_neg (by omega)] at e1 e2
   rw [if_neg (by omega), if_neg (by omega)]
   grind
 unit i hi j hj := by
  have d0 := B.d0
  by_cases e : j = k
  ·subst e
   simp only [if_true]
   by_cases ei : i = j
   ·rw [if_pos ei, if_pos ei]
   ·rw [if_neg ei, if_neg ei]
    grind
  ·have hj' : j < k := by omega
   rw [if_neg e]
   by_cases ei : i = k
   ·rw [if_pos ei, B.unit k hk j hj', if_neg (by omega), if_neg (by omega)]
   ·rw [if_neg ei, B.unit i hi j hj', B.unit k hk j hj', if_neg (show k ≠ j by omega)]
    split
    ·grind
    ·grind
end
end L2
namespace L2
open Nm
def Spn (m : Nat) (a : Nat -> Nat -> Rat) (x : Nat -> Rat) : Prop := ∃ w : Nat -> Rat, ∀ c, x c = sumN m fun t => w t * a t c
section
variable {m m' k n : Nat} {a b : Nat -> Nat -> Rat} {x y : Nat -> Rat}
theorem Spn.row {i : Nat} (hi : i < m) : Spn m a (a i) := ⟨fun t => if t = i then 1 else 0, fun c => by
 rw [sumN_one hi fun j _ ne => by dsimp only; rw [if_neg ne]; grind]
 dsimp only
 rw [if_pos rfl]
 grind⟩
theorem Spn.lin (α β : Rat) (hx : Spn m a x) (hy : Spn m a y) : Spn m a fun c => α * x c + β * y c := by
 obtain ⟨w, hw⟩ := hx
 obtain ⟨v, hv⟩ := hy
 refine ⟨fun t => α * w t + β * v t, fun c => ?_⟩
 dsimp only
 rw [hw c, hv c, <- sumN_mul, <- sumN_mul, <- sumN_add]
 exact sumN_congr fun j _ => by grind
theorem Spn.congr (h : ∀ c, x c = y c) (hx : Spn m a x) : Spn m a y := let ⟨w, hw⟩ := hx; ⟨w, fun c => by rw [<- h c]; exact hw c⟩
theorem Spn.trans (h : ∀ t, t < m' -> Spn m a (b t)) (hx : Spn m' b x) : Spn m a x := by
 obtain ⟨v, hv⟩ := hx
 have h2 : ∀ t, ∃ w : Nat -> Rat, t < m' -> ∀ c, b t c = sumN m fun s => w s * a s c := fun t => by
  by_cases ht : t < m'
  ·obtain ⟨w, hw⟩ := h t ht
   exact ⟨w, fun _ => hw⟩
  ·exact ⟨fun _ => 0, fun z => absurd z ht⟩
 have hc := Classical.axiomOfChoice h2
 obtain ⟨w, hw⟩ := hc
 refine ⟨fun s => sumN m' fun t => v t * w t s, fun c => ?_⟩
 rw [hv c]
 have e1 : sumN m' (fun t => v t * b t c) = sumN m' (fun t => sumN m fun s => v t * (w t s * a s c)) := sumN_congr fun t ht => by rw [hw t ht c, <- sumN_mul]
 rw [e1, sumN_swap]
 refine sumN_congr fun s _ => ?_
 have : sumN m' (fun t => v t * w t s) * a s c = a s c * sumN m' (fun t => v t * w t s) := Rat.mul_comm ..
 rw [this, <- sumN_mul]
 exact sumN_congr fun t _ => by grind
theorem Spn.zero (h : ∀ c, x c = 0) : Spn m a x := ⟨fun _ => 0, fun c => by rw [h c, sumN_zero fun _ _ => by grind]⟩
end
structure Rrf (m n : Nat) (a : Nat -> Nat -> Rat) (k : Nat) (p : Nat -> Nat) (R : Nat -> Nat -> Rat) : Prop where
 inc : ∀ i j, i < j -> j < k -> p i < p j
 low : ∀ j, j < k -> p j < n
 unit : ∀ i, i < k -> ∀ j, j < k -> R i (p j) = if i = j then 1 else 0
 lead : ∀ i, i < k -> ∀ c, c < p i -> R i c = 0
 span : ∀ i, i < m -> Spn k R (a i)
 back : ∀ i, i < k -> Spn m a (R i)
section
variable {m m' k k' n : Nat} {a a' R R' : Nat -> Nat -> Rat} {p p' : Nat -> Nat} {x : Nat -> Rat}
theorem Rrf.coef (h : Rrf m n a k p R) (hx : Spn k R x) (c : Nat) : x c = sumN k fun j => x (p j) * R j c := by
 obtain ⟨w, hw⟩ := hx
 rw [hw c]
 refine sumN_congr fun j hj => ?_
 rw [hw (p j), sumN_one hj fun t ht ne => by rw [h.unit t ht j hj, if_neg ne]; grind, h.unit j hj j hj, if_pos rfl]
 grind
theorem Rrf.lead_in (h : Rrf m n a k p R) (hx : Spn k R x) {c : Nat} (h1 : x c ≠ 0) (h0 : ∀ c', c' < c -> x c' = 0) : ∃ j, j < k /\ p j = c := by
 refine Classical.byContradiction fun hn => h1 ?_
 rw [h.coef hx c]
 refine sumN_zero fun j hj => ?_
 rcases Nat.lt_trichotomy (p j) c with z | z | z
 ·rw [h0 _ z]; grind
 ·exact absurd ⟨j, hj, z⟩ hn
 ·rw [h.lead j hj c z]; grind
theorem inc_le (h1 : ∀ i j, i < j -> j < k -> p i < p j) (h2 : ∀ i j, i < j -> j < k' -> p' i < p' j) (hs : ∀ j, j < k' -> ∃ i, i < k /\ p i = p' j) : ∀ {j : Nat}, j < k' -> ∀ {i : Nat}, i < k -> p i = p' j -> j <= i
 | 0, _, _, _, _ => Nat.zero_le _
 | j + 1, hj, i, hi, e => by
  obtain ⟨i0, hi0, e0⟩ := hs j (by omega)
  have := inc_le h1 h2 hs (j := j) (by omega) hi0 e0
  have lt := h2 j (j + 1) (by omega) hj
  rcases Nat.lt_trichotomy i0 i with z | z | z
  ·omega
  ·subst z; omega
  ·have := h1 i i0 z hi0; omega
theorem inc_mono (h1 : ∀ i j, i < j -> j < k -> p i < p j) {i j : Nat} (h : i <= j) (hj : j < k) : p i <= p j := by
 rcases Nat.lt_or_ge i j with z | z
 ·exact Nat.le_of_lt (h1 i j z hj)
 ·have : i = j := by omega
  rw [this]; exact Nat.le_refl _
theorem inc_sub (h1 : ∀ i j, i < j -> j < k -> p i < p j) (h2 : ∀ i j, i < j -> j < k' -> p' i < p' j) (hs : ∀ j, j < k' -> ∃ i, i < k /\ p i = p' j) : k' <= k /\ ∀ j, j < k' -> p j <= p' j := by
 refine ⟨?_, fun j hj => ?_⟩
 ·rcases Nat.eq_zero_or_pos k' with z | z
  ·omega
  ·obtain ⟨i, hi, e⟩ := hs (k' - 1) (by omega)
   have := inc_le h1 h2 hs (j := k' - 1) (by omega) hi e
   omega
 ·obtain ⟨i, hi, e⟩ := hs j hj
  rw [<- e]
  exact inc_mono h1 (inc_le h1 h2 hs hj hi e) hi
theorem Rrf.uniq (h : Rrf m n a k p R) (h' : Rrf m' n a' k' p' R') (s1 : ∀ i, i < m -> Spn m' a' (a i)) (s2 : ∀ i, i < m' -> Spn m a (a' i)) : k = k' /\ (∀ j, j < k -> p j = p' j) /\ ∀ i, i < k -> ∀ c, R i c = R' i c := by
 have x1 : ∀ i, i < k -> Spn k' R' (R i) := fun i hi => Spn.trans (fun t ht => h'.span t ht) (Spn.trans s1 (h.back i hi))
 have x2 : ∀ i, i < k' -> Spn k R (R' i) := fun i hi => Spn.trans (fun t ht => h.span t ht) (Spn.trans s2 (h'.back i hi))
 have y1 : ∀ j, j < k -> ∃ i, i < k' /\ p' i = p j := fun j hj => h'.lead_in (x1 j hj) (by rw [h.unit j hj j hj, if_pos rfl]; decide) (h.lead j hj)
 have y2 : ∀ j, j < k' -> ∃ i, i < k /\ p i = p' j := fun j hj => h.lead_in (x2 j hj) (by rw [h'.unit j hj j hj, if_pos rfl]; decide) (h'.lead j hj)
 obtain ⟨z1, w1⟩ := inc_sub h'.inc h.inc y1
 obtain ⟨z2, w2⟩ := inc_sub h.inc h'.inc y2
 have ek : k = k' := Nat.le_antisymm z1 z2
 subst ek
 have ep : ∀ j, j < k -> p j = p' j := fun j hj => Nat.le_antisymm (w2 j hj) (w1 j hj)
 refine ⟨rfl, ep, fun i hi c => ?_⟩
 rw [h.coef (x2 i hi) c, sumN_one hi fun j hj ne => by rw [ep j hj, h'.unit i hi j hj, if_neg (fun z => ne z.symm)]; grind, ep i hi, h'.unit i hi i hi, if_pos rfl]
 grind
end
structure Elim (a : Nat -> Nat -> Rat) (m k P : Nat) (p : Nat -> Nat) (l : Nat -> Nat -> Rat) (d : Rat) : Prop where
 km : k <= m
 d0 : d ≠ 0
 unit : ∀ i, i < m -> ∀ j, j < k -> l i (p j) = if i = j then d else 0
 inc : ∀ i j, i < j -> j < k -> p i < p j
 low : ∀ j, j < k -> p j < P
 zero : ∀ i, k <= i -> i < m -> ∀ c, c < P -> l i c = 0
 lead : ∀ j, j < k -> ∀ c, c < p j -> l j c = 0
 there : ∀ i, i < m -> Spn m l (a i)
 back : ∀ i, i < m -> Spn m a (l i)
section
variable {m k n P : Nat} {a l l' : Nat -> Nat -> Rat} {p : Nat -> Nat} {d d' : Rat}
theorem Elim.start : Elim a m 0 0 p a 1 where
 km := Nat.zero_le _
 d0 := by decide
 unit _ _ j hj := absurd hj (by omega)
 inc _ j _ hj := absurd hj (by omega)
 low j hj := absurd hj (by omega)
 zero _ _ _ c hc := absurd hc (by omega)
 lead j hj := absurd hj (by omega)
 there i hi := Spn.row hi
 back i hi := Spn.row hi
theorem Elim.skip (E : Elim a m k P p l d) (h : ∀ i, k <= i -> i < m -> l i P = 0) : Elim a m k (P + 1) p l d :=
 ⟨E.km, E.d0, E.unit, E.inc, fun j hj => Nat.lt_succ_of_lt (E.low j hj), fun i h1 h2 c hc => by
  by_cases e : c = P
  ·rw [e]; exact h i h1 h2
  ·exact E.zero i h1 h2 c (by omega), E.lead, E.there, E.back⟩
theorem sw_sw {k t i : Nat} : swN k t (swN k t i) = i := by
 unfold swN
 split
 ·split <;> (try split) <;> omega
 ·split
  ·rw [if_pos rfl]; omega
  ·rfl
theorem Elim.swap (E : Elim a m k P p l d) {t : Nat} (h : k <= t) (ht : t < m) : Elim a m k P p (fun i => l (swN k t i)) d where
 km := E.km
 d0 := E.d0
 unit i hi j hj := by
  rw [E.unit _ (sw_lt (by omega) ht hi) j hj]
  by_cases hk : i < k
  ·rw [sw_low h hk]
  ·have := sw_high h (show k <= i by omega)
   rw [if_neg (by omega), if_neg (by omega)]
 inc := E.inc
 low := E.low
 zero i h1 h2 c hc := E.zero _ (sw_high h h1) (sw_lt (by omega) ht h2) c hc
 lead j hj c hc := by rw [sw_low h hj]; exact E.lead j hj c hc
 there i hi := Spn.trans (fun s hs => Spn.congr (fun c => by rw [sw_sw]) (Spn.row (a := fun i => l (swN k t i)) (i := swN k t s) (sw_lt (by omega) ht hs))) (E.there i hi)
 back i hi := E.back _ (sw_lt (by omega) ht hi)
theorem Elim.step (E : Elim a m k P p l d) (hk : k < m) (h0 : d' ≠ 0) (unit' : ∀ i, i < m -> ∀ j, j < k + 1 -> l' i (if j = k then P else p j) = if i = j then d' else 0)
  (hl : ∀ i, i < m -> ∃ β γ : Rat, β ≠ 0 /\ (i = k -> γ = 0) /\ ∀ c, l' i c = β * l i c + γ * l k c) : Elim a m (k + 1) (P + 1) (fun j => if j = k then P else p j) l' d' where
 km := hk
 d0 := h0
 unit := unit'
 inc i j hij hj := by
  by_cases e : j = k
  ·rw [if_pos e, if_neg (by omega)]
   exact E.low i (by omega)
  ·rw [if_neg e, if_neg (by omega)]
   exact E.inc i j hij (by omega)
 low j hj := by
  by_cases e : j = k
  ·rw [if_pos e]; omega
  ·rw [if_neg e]
   exact Nat.lt_succ_of_lt (E.low j (by omega))
 zero i h1 h2 c hc := by
  by_cases e : c = P
  ·have := unit' i h2 k (by omega)
   rw [if_pos rfl, if_neg (by omega)] at this
   rw [e]; exact this
  ·obtain ⟨β, γ, _, _, q⟩ := hl i h2
   rw [q c, E.zero i (by omega) h2 c (by omega), E.zero k (Nat.le_refl _) hk c (by omega)]
   grind
 lead j hj c hc := by
  have km := E.km
  obtain ⟨β, γ, _, _, q⟩ := hl j (by omega)
  by_cases e : j = k
  ·rw [if_pos e] at hc
   rw [q c, e, E.zero k (Nat.le_refl _) hk c hc]
   grind
  ·rw [if_neg e] at hc
   have := E.low j (by omega)
   rw [q c, E.lead j (by omega) c hc, E.zero k (Nat.le_refl _) hk c (by omega)]
   grind
 there i hi := by
  refine Spn.trans (fun s hs => ?_) (E.there i hi)
  obtain ⟨β, γ, b0, _, q⟩ := hl s hs
  obtain ⟨βk, γk, bk0, gk, qk⟩ := hl k hk
  have g0 := gk rfl
  refine Spn.congr (fun c => ?_) (Spn.lin (1 / β) (-(γ / β) / βk) (Spn.row (a := l') hs) (Spn.row (a := l') hk))
  rw [q c, qk c, g0]
  grind
 back i hi := by
  obtain ⟨β, γ, _, _, q⟩ := hl i hi
  exact Spn.congr (fun c => (q c).symm) (Spn.lin β γ (E.back i hi) (E.back k hk))
theorem Elim.done (E : Elim a m k n p l d) (ha : ∀ i, i < m -> ∀ c, n <= c -> a i c = 0) : Rrf m n a k p (fun i c => l i c / d) where
 inc := E.inc
 low := E.low
 unit i hi j hj := by
  have d0 := E.d0
  have km := E.km
  rw [E.unit i (by omega) j hj]
  split
  ·grind
  ·grind
 lead i hi c hc := by
  rw [E.lead i hi c hc]
  grind
 span i hi := by
  have d0 := E.d0
  refine Spn.trans (fun s hs => ?_) (E.there i hi)
  by_cases z : s < k
  ·refine Spn.congr (fun c => ?_) (Spn.lin d 0 (Spn.row (a := fun i c => l i c / d) z) (Spn.row (a := fun i c => l i c / d) z))
   grind
  ·refine Spn.zero fun c => ?_
   by_cases hc : c < n
   ·exact E.zero s (by omega) hs c hc
   ·obtain ⟨w, hw⟩ := E.back s hs
    rw [hw c, sumN_zero fun t ht => by rw [ha t ht c (by omega)]; grind]
 back i hi := by
  have km := E.km
  have d0 := E.d0
  refine Spn.congr (fun c => ?_) (Spn.lin (1 / d) 0 (E.back i (by omega)) (E.back i (by omega)))
  grind
end
end L2
namespace L2
open Nm
def fnZ (ls : List (List Int)) (i c : Nat) : Rat := (((ls.getD i []).getD c 0 : Int) : Rat)
def fnQ (rows : List (List Rat)) (i c : Nat) : Rat := (rows.getD i []).getD c 0
def swZ (ls : List (List Int)) (k t : Nat) : List (List Int) := (ls.set k (ls.getD t [])).set t (ls.getD k [])
def clZ (ls : List (List Int)) (k c : Nat) (b : Int) : List (List Int) := (ls.map fun zs => List.zipWith (fun x y => ((ls.getD k []).getD c 0 * x - zs.getD c 0 * y).fdiv b) zs (ls.getD k [])).set k (ls.getD k [])
section
variable {ls ls0 : List (List Int)} {k t n P c : Nat} {b d : Int} {ps : List Nat}
theorem getD_set {α : Type} {l : List α} {i j : Nat} {x e : α} (hi : i < l.length) : (l.set i x).getD j e = if j = i then x else l.getD j e := by
 rw [List.getD_eq_getElem?_getD, List.getD_eq_getElem?_getD, List.getElem?_set]
 by_cases h : j = i
 ·subst h
  rw [if_pos rfl, if_pos hi, if_pos rfl]
  rfl
 ·rw [if_neg (fun z => h z.symm), if_neg h]
theorem sw_len : (swZ ls k t).length = ls.length := by unfold swZ; rw [List.length_set, List.length_set]
theorem cl_len : (clZ ls k c b).length = ls.length := by unfold clZ; rw [List.length_set, List.length_map]
theorem getD_in {α : Type} {l : List α} {i : Nat} {e : α} (h : i < l.length) : l.getD i e ∈ l := by
 rw [List.getD_eq_getElem?_getD, List.getElem?_eq_getElem h]
 exact List.getElem_mem h
theorem sw_wide (w : ∀ zs ∈ ls, zs.length = n) (hk : k < ls.length) (ht : t < ls.length) : ∀ zs ∈ swZ ls k t, zs.length = n := fun zs hz => by
 unfold swZ at hz
 rcases List.mem_or_eq_of_mem_set hz with h | h
 ·rcases List.mem_or_eq_of_mem_set h with h | h
  ·exact w zs h
  ·rw [h]; exact w _ (getD_in ht)
 ·rw [h]; exact w _ (getD_in hk)
theorem cl_wide (w : ∀ zs ∈ ls, zs.length = n) (hk : k < ls.length) : ∀ zs ∈ clZ ls k c b, zs.length = n := fun zs hz => by
 unfold clZ at hz
 rcases List.mem_or_eq_of_mem_set hz with h | h
 ·obtain ⟨y, hy, rfl⟩ := List.mem_map.mp h
  rw [List.length_zipWith, w y hy, w _ (getD_in hk)]
  omega
 ·rw [h]; exact w _ (getD_in hk)
theorem fn_swap (hk : k < ls.length) (ht : t < ls.length) (i c : Nat) : fnZ (swZ ls k t) i c = fnZ ls (swN k t i) c := by
 unfold fnZ swZ swN
 rw [getD_set (by rw [List.length_set]; exact ht), getD_set hk]
 by_cases h1 : i = t
 ·rw [if_pos h1]
  by_cases h2 : i = k
  ·rw [if_pos h2, <- h1, <- h2]
  ·rw [if_neg h2, if_pos h1]
 ·rw [if_neg h1]
  by_cases h2 : i = k
  ·rw [if_pos h2, if_pos h2]
  ·rw [if_neg h2, if_neg h2, if_neg h1]
theorem fn_far (w : ∀ zs ∈ ls, zs.length = n) {i c : Nat} (hc : n <= c) : fnZ ls i c = 0 := by
 unfold fnZ
 by_cases h : i < ls.length
 ·have := w _ (getD_in (e := []) h)
  rw [List.getD_eq_getElem?_getD (l := ls.getD i []), List.getElem?_eq_none (by omega)]
  rfl
 ·rw [List.getD_eq_getElem?_getD (l := ls), List.getElem?_eq_none (by omega)]
  rfl
theorem cast0 {x : Int} (h : (x : Rat) = 0) : x = 0 := by
 have : (x : Rat) = ((0 : Int) : Rat) := h
 exact Rat.intCast_inj.mp this
theorem fdiv_exact {x b : Int} {q : Rat} (hb : b ≠ 0) (hq : ∃ z : Int, q = (z : Rat)) (e : (x : Rat) = (b : Rat) * q) : ((x.fdiv b : Int) : Rat) = q := by
 obtain ⟨z, rfl⟩ := hq
 rw [<- Rat.intCast_mul] at e
 have := Rat.intCast_inj.mp e
 rw [this, Int.mul_fdiv_cancel_left _ hb]
theorem fr1_int {W : Nat} {q : Rat} (h : Fr 1 W q) : ∃ z : Int, q = (z : Rat) := by
 obtain ⟨z, e, _⟩ := h
 exact ⟨z, by rw [<- e]; simp⟩
theorem fr1_sz {W : Nat} {z : Int} (h : Fr 1 W (z : Rat)) : z.natAbs <= W := by
 obtain ⟨y, e, b⟩ := h
 have : (z : Rat) = (y : Rat) := by rw [<- e]; simp
 rw [Rat.intCast_inj.mp this]
 simpa using b
theorem fn_clear (w : ∀ zs ∈ ls, zs.length = n) (hk : k < ls.length) (hb : b ≠ 0) {i : Nat} (hi : i < ls.length) (hz : ∀ c, ∃ z : Int, (fnZ ls k P * fnZ ls i c - fnZ ls i P * fnZ ls k c) / (b : Rat) = (z : Rat)) (c : Nat) :
  fnZ (clZ ls k P b) i c = if i = k then fnZ ls k c else (fnZ ls k P * fnZ ls i c - fnZ ls i P * fnZ ls k c) / (b : Rat) := by
 by_cases e : i = k
 ·rw [if_pos e]
  unfold fnZ clZ
  rw [getD_set (by rw [List.length_map]; exact hk), if_pos e]
 ·rw [if_neg e]
  by_cases hc : c < n
  ·have hb' : (b : Rat) ≠ 0 := fun z => hb (cast0 z)
   have lk := w _ (getD_in (e := []) hk)
   have li := w _ (getD_in (e := []) hi)
   have e1 : fnZ (clZ ls k P b) i c = (((((ls.getD k []).getD P 0 * (ls.getD i []).getD c 0 - (ls.getD i []).getD P 0 * (ls.getD k []).getD c 0).fdiv b : Int)) : Rat) := by
    unfold clZ
    rw [fnZ, getD_set (by rw [List.length_map]; exact hk), if_neg e]
    rw [List.getD_eq_getElem?_getD (l := List.map _ ls), List.getElem?_map, List.getElem?_eq_getElem hi]
    show ((((List.zipWith _ ls[i] (ls.getD k [])).getD c 0 : Int)) : Rat) = _
    have ei : ls.getD i [] = ls[i] := by rw [List.getD_eq_getElem?_getD, List.getElem?_eq_getElem hi]; rfl
    rw [<- ei]
    rw [List.getD_eq_getElem?_getD (l := List.zipWith _ _ _), List.getElem?_zipWith, List.getD_eq_getElem?_getD (l := ls.getD i []) (i := c), List.getD_eq_getElem?_getD (l := ls.getD k []) (i := c), List.getElem?_eq_getElem (show c < (ls.getD i []).length by omega), List.getElem?_eq_getElem (show c < (ls.getD k []).length by omega)]
    rfl
   rw [e1]
   refine fdiv_exact hb (hz c) ?_
   rw [Rat.intCast_sub, Rat.intCast_mul, Rat.intCast_mul]
   show _ = (b : Rat) * ((fnZ ls k P * fnZ ls i c - fnZ ls i P * fnZ ls k c) / (b : Rat))
   show fnZ ls k P * fnZ ls i c - fnZ ls i P * fnZ ls k c = _
   grind
  ·rw [fn_far (cl_wide w hk) (show n <= c by omega), fn_far w (i := i) (show n <= c by omega), fn_far w (i := k) (show n <= c by omega)]
   grind
end
section
variable {m k n P : Nat} {a l l2 : Nat -> Nat -> Rat} {pm p p2 : Nat -> Nat} {d : Rat}
theorem Bar.congr (B : Bar a m k pm p l d) (hp : ∀ j, j < k -> p2 j = p j) (hl : ∀ i, i < m -> ∀ c, l2 i c = l i c) : Bar a m k pm p2 l2 d where
 inj := B.inj
 rng := B.rng
 km := B.km
 d0 := B.d0
 det := by rw [B.det, cw_congr (f := fun j r => a r (p j)) (g := fun j r => a r (p2 j)) fun j hj => by rw [hp j hj]]
 eqs i hi c := by
  have km := B.km
  rw [B.eqs i hi c, hl i hi c]
  congr 1
  exact sumN_congr fun j hj => by rw [hp j hj, hl j (by omega) c]
 unit i hi j hj := by rw [hp j hj, hl i hi]; exact B.unit i hi j hj
theorem Spn.rows {x : Nat -> Rat} (h : ∀ i, i < m -> ∀ c, l2 i c = l i c) (hx : Spn m l x) : Spn m l2 x := let ⟨w, hw⟩ := hx; ⟨w, fun c => by rw [hw c]; exact sumN_congr fun t ht => by rw [h t ht c]⟩
theorem Elim.congr (E : Elim a m k P p l d) (hp : ∀ j, j < k -> p2 j = p j) (hl : ∀ i, i < m -> ∀ c, l2 i c = l i c) : Elim a m k P p2 l2 d where
 km := E.km
 d0 := E.d0
 unit i hi j hj := by rw [hp j hj, hl i hi]; exact E.unit i hi j hj
 inc i j hij hj := by rw [hp i (by omega), hp j hj]; exact E.inc i j hij hj
 low j hj := by rw [hp j hj]; exact E.low j hj
 zero i h1 h2 c hc := by rw [hl i h2]; exact E.zero i h1 h2 c hc
 lead j hj c hc := by
  have km := E.km
  rw [hp j hj] at hc
  rw [hl j (by omega)]
  exact E.lead j hj c hc
 there i hi := (E.there i hi).rows hl
 back i hi := (E.back i hi).congr fun c => (hl i hi c).symm
theorem Elim.kP (E : Elim a m k P p l d) : k <= P := by
 have : ∀ j, j < k -> j <= p j := by
  intro j
  induction j with
  | zero => intro _; exact Nat.zero_le _
  | succ j ih =>
   intro hj
   have := ih (by omega)
   have := E.inc j (j + 1) (by omega) hj
   omega
 rcases Nat.eq_zero_or_pos k with z | z
 ·omega
 ·have h1 := this (k - 1) (by omega)
  have h2 := E.low (k - 1) (by omega)
  omega
end
structure SwI (ls0 : List (List Int)) (n P : Nat) (ls : List (List Int)) (ps : List Nat) (d : Int) : Prop where
 len : ls.length = ls0.length
 wide : ∀ zs ∈ ls, zs.length = n
 bar : ∃ pm, Bar (fnZ ls0) ls0.length ps.length pm (fun j => ps.getD j 0) (fnZ ls) d
 el : Elim (fnZ ls0) ls0.length ps.length P (fun j => ps.getD j 0) (fnZ ls) d
section
variable {ls0 ls : List (List Int)} {n P : Nat} {ps : List Nat} {d : Int}
theorem SwI.start (w : ∀ zs ∈ ls0, zs.length = n) : SwI ls0 n 0 ls0 [] 1 := ⟨rfl, w, ⟨fun i => i, Bar.start fun _ _ => rfl⟩, Elim.start⟩
theorem SwI.d0 (h : SwI ls0 n P ls ps d) : d ≠ 0 := fun z => h.el.d0 (by rw [z]; rfl)
theorem SwI.skip (h : SwI ls0 n P ls ps d) (hz : ∀ i, ps.length <= i -> i < ls.length -> fnZ ls i P = 0) : SwI ls0 n (P + 1) ls ps d := ⟨h.len, h.wide, h.bar, h.el.skip fun i h1 h2 => hz i h1 (by rw [h.len]; exact h2)⟩
theorem getD_snoc {l : List Nat} {x j : Nat} (hj : j < l.length + 1) : (l ++ [x]).getD j 0 = if j = l.length then x else l.getD j 0 := by
 rw [List.getD_eq_getElem?_getD, List.getD_eq_getElem?_getD]
 by_cases e : j = l.length
 ·rw [if_pos e, e, List.getElem?_append_right (Nat.le_refl _), Nat.sub_self]
  rfl
 ·rw [if_neg e, List.getElem?_append_left (by omega)]
theorem SwI.int {W : Nat} (h : SwI ls0 n P ls ps d) (hW : 1 <= W) (h0 : ∀ i, i < ls0.length -> ∀ c, Fr 1 W (fnZ ls0 i c)) {t : Nat} (ht : ps.length <= t) (ht2 : t < ls.length) (hne : fnZ ls t P ≠ 0) :
  ∀ i, i < ls.length -> i ≠ ps.length -> ∀ c, ∃ z : Int, (fnZ (swZ ls ps.length t) ps.length P * fnZ (swZ ls ps.length t) i c - fnZ (swZ ls ps.length t) i P * fnZ (swZ ls ps.length t) ps.length c) / (d : Rat) = (z : Rat) := fun i hi ne c => by
 obtain ⟨pm, B⟩ := h.bar
 have hl := h.len
 have hk : ps.length < ls.length := by omega
 have B1 := (B.swap ht (by omega)).congr (p2 := fun j => ps.getD j 0) (l2 := fnZ (swZ ls ps.length t)) (fun _ _ => rfl) (fun i _ c => fn_swap hk ht2 i c)
 have h1 : fnZ (swZ ls ps.length t) ps.length P ≠ 0 := by
  rw [fn_swap hk ht2]
  unfold swN
  rw [if_pos rfl]
  exact hne
 have B2 := B1.step (c0 := P) (by omega) h1
 have := B2.fr (W := W) (N := ps.length + 2) (by omega) hW h0 (i := i) (c := c) (by omega)
 rw [if_neg ne] at this
 exact fr1_int this
theorem SwI.step {W : Nat} (h : SwI ls0 n P ls ps d) (hW : 1 <= W) (h0 : ∀ i, i < ls0.length -> ∀ c, Fr 1 W (fnZ ls0 i c)) {t : Nat} (ht : ps.length <= t) (ht2 : t < ls.length) (hne : fnZ ls t P ≠ 0) :
  SwI ls0 n (P + 1) (clZ (swZ ls ps.length t) ps.length P d) (ps ++ [P]) (((clZ (swZ ls ps.length t) ps.length P d).getD ps.length []).getD P 0) := by
 obtain ⟨pm, B⟩ := h.bar
 have hl := h.len
 have hk : ps.length < ls.length := by omega
 have hz := h.int hW h0 ht ht2 hne
 have w1 := sw_wide h.wide hk ht2
 have k1 : ps.length < (swZ ls ps.length t).length := by rw [sw_len]; exact hk
 have B1 := (B.swap ht (by omega)).congr (p2 := fun j => ps.getD j 0) (l2 := fnZ (swZ ls ps.length t)) (fun _ _ => rfl) (fun i _ c => fn_swap hk ht2 i c)
 have E1 := (h.el.swap ht (by omega)).congr (p2 := fun j => ps.getD j 0) (l2 := fnZ (swZ ls ps.length t)) (fun _ _ => rfl) (fun i _ c => fn_swap hk ht2 i c)
 have h1 : fnZ (swZ ls ps.length t) ps.length P ≠ 0 := by
  rw [fn_swap hk ht2]
  unfold swN
  rw [if_pos rfl]
  exact hne
 have B2 := B1.step (c0 := P) (by omega) h1
 have fc : ∀ i, i < ls0.length -> ∀ c, fnZ (clZ (swZ ls ps.length t) ps.length P d) i c = if i = ps.length then fnZ (swZ ls ps.length t) ps.length c else (fnZ (swZ ls ps.length t) ps.length P * fnZ (swZ ls ps.length t) i c - fnZ (swZ ls ps.length t) i P * fnZ (swZ ls ps.length t) ps.length c) / (d : Rat) := fun i hi c => by
  by_cases e : i = ps.length
  ·rw [if_pos e]
   unfold fnZ clZ
   rw [getD_set (by rw [List.length_map]; exact k1), if_pos e]
  ·have := fn_clear w1 k1 h.d0 (i := i) (by rw [sw_len]; omega) (hz i (by omega) e) c
   rw [this]
 have ed : (((((clZ (swZ ls ps.length t) ps.length P d).getD ps.length []).getD P 0 : Int)) : Rat) = fnZ (swZ ls ps.length t) ps.length P := by
  have := fc ps.length (by omega) P
  rw [if_pos rfl] at this
  exact this
 have lp : (ps ++ [P]).length = ps.length + 1 := by rw [List.length_append]; rfl
 have hp : ∀ j, j < ps.length + 1 -> (ps ++ [P]).getD j 0 = if j = ps.length then P else ps.getD j 0 := fun j hj => getD_snoc hj
 refine ⟨by rw [cl_len, sw_len]; exact hl, cl_wide w1 k1, ⟨fun i => pm (swN ps.length t i), ?_⟩, ?_⟩
 ·rw [ed, lp]
  exact B2.congr hp fc
 ·rw [ed, lp]
  refine Elim.congr (E1.step (d' := fnZ (swZ ls ps.length t) ps.length P) (l' := fun i c => if i = ps.length then fnZ (swZ ls ps.length t) ps.length c else (fnZ (swZ ls ps.length t) ps.length P * fnZ (swZ ls ps.length t) i c - fnZ (swZ ls ps.length t) i P * fnZ (swZ ls ps.length t) ps.length c) / (d : Rat)) (by omega) h1 B2.unit fun i hi => ?_) hp fc
  have d0 := h.el.d0
  by_cases e : i = ps.length
  ·refine ⟨1, 0, by decide, fun _ => rfl, fun c => ?_⟩
   rw [if_pos e, e]
   grind
  ·refine ⟨fnZ (swZ ls ps.length t) ps.length P / (d : Rat), -(fnZ (swZ ls ps.length t) i P) / (d : Rat), ?_, fun z => absurd z e, fun c => ?_⟩
   ·intro z
    apply h1
    grind
   ·rw [if_neg e]
    grind
theorem SwI.sz {W r : Nat} (h : SwI ls0 n P ls ps d) (hW : 1 <= W) (h0 : ∀ i, i < ls0.length -> ∀ c, Fr 1 W (fnZ ls0 i c)) (hP : P <= n) (hr : min ls0.length n <= r) (r15 : r <= 15) : (d.natAbs <= (16 * W) ^ r) /\ ∀ zs ∈ ls, ∀ z ∈ zs, z.natAbs <= (16 * W) ^ r := by
 obtain ⟨pm, B⟩ := h.bar
 have kP := h.el.kP
 have km := B.km
 have hl := h.len
 have mono : ∀ {s t : Nat}, s <= t -> (16 * W) ^ s <= (16 * W) ^ t := fun hs => Nat.pow_le_pow_right (Nat.mul_pos (by decide) hW) hs
 refine ⟨Nat.le_trans (fr1_sz (B.dfr (W := W) (N := 16) (by omega) h0)) (mono (by omega)), fun zs hz z hz' => ?_⟩
 obtain ⟨i, hi, rfl⟩ := List.getElem_of_mem hz
 obtain ⟨c, hc, rfl⟩ := List.getElem_of_mem hz'
 have hw := h.wide _ (List.getElem_mem hi)
 have ez : fnZ ls i c = (((ls[i])[c] : Int) : Rat) := by
  unfold fnZ
  rw [List.getD_eq_getElem?_getD (l := ls), List.getElem?_eq_getElem hi]
  show ((ls[i].getD c 0 : Int) : Rat) = _
  rw [List.getD_eq_getElem?_getD, List.getElem?_eq_getElem hc]
  rfl
 by_cases hk : i < ps.length
 ·have : Fr 1 ((16 * W) ^ ps.length) (fnZ ls i c) := by
   have hd := B.d0
   rw [B.old hk]
   have := dt_fr (W := W) (N := 16) (rs := rlN pm ps.length) (vs := cvN (fun j r => fnZ ls0 r (ps.getD j 0)) i ps.length ++ (fun r => fnZ ls0 r c) :: cwN (fun j r => fnZ ls0 r (ps.getD j 0)) i) (by
    have := congrArg List.length (cw_split (v := fun j r => fnZ ls0 r (ps.getD j 0)) hk)
    rw [List.length_append, List.length_cons, cw_len] at this
    rw [List.length_append, List.length_cons]
    omega) (by
    intro v hv r hr
    have hr' : ∀ c, Fr 1 W (fnZ ls0 r c) := fun c => by
     obtain ⟨t, ht, rfl⟩ := rl_mem hr
     exact h0 _ (B.rng t (by omega)) c
    rcases List.mem_append.mp hv with hv | hv
    ·obtain ⟨t, _, rfl⟩ := cv_in hv
     exact hr' _
    ·rcases List.mem_cons.mp hv with rfl | hv
     ·exact hr' _
     ·obtain ⟨t, _, rfl⟩ := cw_in hv
      exact hr' _)
   rwa [rl_len] at this
  rw [ez] at this
  exact Nat.le_trans (fr1_sz this) (mono (by omega))
 ·by_cases hn : ps.length < n
  ·have := B.fr (W := W) (N := 16) (by omega) hW h0 (i := i) (c := c) (by omega)
   rw [ez] at this
   exact Nat.le_trans (fr1_sz this) (mono (by omega))
  ·have := h.el.zero i (by omega) (by omega) c (by omega)
   rw [ez] at this
   rw [cast0 this]
   exact Nat.zero_le _
end
end L2
namespace L2
open Nm
def Tp (M W : Nat) (q : Rat) : Prop := ∃ z : Int, q * (M : Rat) = (z : Rat) /\ z.natAbs <= W
theorem Tp.of {M V W : Nat} {q : Rat} (h : Fr M V q) (hW : V * M <= W) : Tp M W q := let ⟨z, a, b⟩ := h; ⟨z, a, Nat.le_trans b hW⟩
theorem Tp.mono {M W W' : Nat} {q : Rat} (h : Tp M W q) (hW : W <= W') : Tp M W' q := let ⟨z, a, b⟩ := h; ⟨z, a, Nat.le_trans b hW⟩
theorem Tp.fr {M W : Nat} {q : Rat} (h : Tp M W q) (h0 : 0 < M) : Fr M W q := let ⟨z, a, b⟩ := h; ⟨z, a, Nat.le_trans b (Nat.le_mul_of_pos_right _ h0)⟩
def SwF (rows : List (List Rat)) (n w : Nat) : Prop := ∃ M W : Nat, 0 < M /\ M <= 2 ^ 4300 /\ 1 <= W /\ W <= 2 ^ w /\ (∀ xs ∈ rows, ∀ x ∈ xs, Tp M W x) /\ w <= 4300 /\ min rows.length n <= 15 /\ min rows.length n * (w + 4) <= 8900
def topZ (xs : List Rat) : List Int := topsL (xs.map nm) (botL (xs.map nm))
theorem topZ_len {xs : List Rat} : (topZ xs).length = xs.length := by unfold topZ topsL; rw [List.length_map, List.length_map]
theorem botL_pos {xs : List Rat} : 0 < botL (xs.map nm) := lcmL_pos (by decide) fun b hb => by
 obtain ⟨n, hn, rfl⟩ := List.mem_map.mp hb
 obtain ⟨x, _, rfl⟩ := List.mem_map.mp hn
 exact nm_pos x
theorem topZ_at {xs : List Rat} {c : Nat} : (((topZ xs).getD c 0 : Int) : Rat) = xs.getD c 0 * ((botL (xs.map nm) : Int) : Rat) := by
 unfold topZ topsL
 rw [List.getD_eq_getElem?_getD, List.getD_eq_getElem?_getD, List.getElem?_map, List.getElem?_map]
 cases e : xs[c]? with
 | none => show ((0 : Int) : Rat) = 0 * _; rw [Rat.zero_mul]; rfl
 | some x => exact top_cast (botL_dvd (List.mem_map.mpr ⟨x, List.mem_of_getElem? e, rfl⟩))
section
variable {rows : List (List Rat)} {n w i c : Nat} {xs : List Rat}
theorem zr_at (hi : i < rows.length) : fnZ (rows.map topZ) i c = ((botL ((rows.getD i []).map nm) : Int) : Rat) * fnQ rows i c := by
 unfold fnZ fnQ
 have e : (rows.map topZ).getD i [] = topZ (rows.getD i []) := by
  rw [List.getD_eq_getElem?_getD, List.getD_eq_getElem?_getD, List.getElem?_map, List.getElem?_eq_getElem hi]
  rfl
 rw [e, topZ_at, Rat.mul_comm]
theorem fq_far (hw : ∀ xs ∈ rows, xs.length = n) (hc : n <= c) : fnQ rows i c = 0 := by
 unfold fnQ
 by_cases h : i < rows.length
 ·have := hw _ (getD_in (e := []) h)
  rw [List.getD_eq_getElem?_getD (l := rows.getD i []), List.getElem?_eq_none (by omega)]
  rfl
 ·rw [List.getD_eq_getElem?_getD (l := rows), List.getElem?_eq_none (by omega)]
  rfl
theorem zr_spn1 (i : Nat) (hi : i < rows.length) : Spn rows.length (fnZ (rows.map topZ)) (fnQ rows i) := by
 have h0 : ((botL ((rows.getD i []).map nm) : Int) : Rat) ≠ 0 := fun z => by
  have := botL_pos (xs := rows.getD i [])
  have := cast0 z
  omega
 refine Spn.congr (fun c => ?_) (Spn.lin (1 / ((botL ((rows.getD i []).map nm) : Int) : Rat)) 0 (Spn.row (a := fnZ (rows.map topZ)) hi) (Spn.row (a := fnZ (rows.map topZ)) hi))
 rw [zr_at hi]
 grind
theorem zr_spn2 (i : Nat) (hi : i < rows.length) : Spn rows.length (fnQ rows) (fnZ (rows.map topZ) i) := by
 refine Spn.congr (fun c => ?_) (Spn.lin ((botL ((rows.getD i []).map nm) : Int) : Rat) 0 (Spn.row (a := fnQ rows) hi) (Spn.row (a := fnQ rows) hi))
 rw [zr_at hi]
 grind
theorem tp_den {M W : Nat} {x : Rat} (h : Tp M W x) : (nm x).2 ∣ (M : Int) := by
 obtain ⟨z, e, b⟩ := h
 exact Fr.den (V := z.natAbs) (M := M) ⟨z, e, by
  rcases Nat.eq_zero_or_pos M with h | h
  ·subst h
   have : (z : Rat) = 0 := by rw [<- e]; simp
   rw [cast0 this]
   simp
  ·exact Nat.le_mul_of_pos_right _ h⟩
theorem tp_top {M W : Nat} {x : Rat} (h : Tp M W x) (h0 : 0 < M) {B : Int} (hB : 0 < B) (d1 : (nm x).2 ∣ B) (d2 : B ∣ (M : Int)) : ∃ t : Int, x * (B : Rat) = (t : Rat) /\ t.natAbs <= W := by
 obtain ⟨z, e, b⟩ := h
 obtain ⟨s, es⟩ := d2
 refine ⟨(nm x).1 * (B / (nm x).2), (top_cast d1).symm, ?_⟩
 have s0 : 0 < s := by
  rcases Int.lt_trichotomy s 0 with h | h | h
  ·have := Int.mul_neg_of_pos_of_neg hB h
   omega
  ·rw [h] at es; omega
  ·exact h
 have e2 : (((nm x).1 * (B / (nm x).2) * s : Int) : Rat) = (z : Rat) := by
  rw [Rat.intCast_mul, top_cast d1, <- e, <- Rat.intCast_natCast, es, Rat.intCast_mul]
  grind
 have e3 := Rat.intCast_inj.mp e2
 have : ((nm x).1 * (B / (nm x).2)).natAbs * s.natAbs = z.natAbs := by rw [<- Int.natAbs_mul, e3]
 have h1 : 1 <= s.natAbs := by omega
 have := Nat.le_mul_of_pos_right ((nm x).1 * (B / (nm x).2)).natAbs h1
 omega
theorem botL_to {M W : Nat} (h0 : 0 < M) (h : ∀ x ∈ xs, Tp M W x) : botL (xs.map nm) ∣ (M : Int) := lcmL_to (by decide) (Int.one_dvd _) fun b hb => by
 obtain ⟨n, hn, rfl⟩ := List.mem_map.mp hb
 obtain ⟨x, hx, rfl⟩ := List.mem_map.mp hn
 exact ⟨nm_pos x, tp_den (h x hx)⟩
theorem SwF.rowM (F : SwF rows n w) (hx : xs ∈ rows) : ∃ M, RowM M (xs.map nm) := by
 obtain ⟨M, W, h0, h1, hW, h2, h3, h4, _⟩ := F
 refine ⟨M, by omega, ?_, fun y hy => ?_⟩
 ·show ((M : Nat) : Int).natAbs < 2 ^ 4400
  rw [Int.natAbs_natCast]
  exact Nat.lt_of_le_of_lt h1 (Nat.pow_lt_pow_right (by decide) (by decide))
 ·obtain ⟨x, hx', rfl⟩ := List.mem_map.mp hy
  have t := h3 xs hx x hx'
  refine ⟨nm_pos x, tp_den t, ?_⟩
  obtain ⟨s, e, b⟩ := tp_top t h0 (nm_pos x) (Int.dvd_refl _) (tp_den t)
  have e2 : (((nm x).1 : Int) : Rat) = (s : Rat) := by rw [<- e]; exact num_val x
  rw [Rat.intCast_inj.mp e2]
  exact Nat.lt_of_le_of_lt (Nat.le_trans b h2) (Nat.pow_lt_pow_right (by decide) (by omega))
theorem SwF.ent (F : SwF rows n w) : ∃ W : Nat, 1 <= W /\ W <= 2 ^ w /\ ∀ i, i < (rows.map topZ).length -> ∀ c, Fr 1 W (fnZ (rows.map topZ) i c) := by
 obtain ⟨M, W, h0, h1, hW, h2, h3, h4, _⟩ := F
 refine ⟨W, hW, h2, fun i hi c => ?_⟩
 rw [List.length_map] at hi
 have hx := getD_in (e := []) hi
 rw [zr_at hi]
 unfold fnQ
 generalize rows.getD i [] = xs at hx ⊢
 by_cases hc : c < xs.length
 ·have t := h3 xs hx _ (getD_in (e := 0) hc)
  obtain ⟨s, e, b⟩ := tp_top t h0 (botL_pos (xs := xs)) (botL_dvd (List.mem_map.mpr ⟨_, getD_in (e := 0) hc, rfl⟩)) (botL_to h0 (h3 xs hx))
  rw [Rat.mul_comm, e]
  exact Fr.int b
 ·rw [List.getD_eq_getElem?_getD, List.getElem?_eq_none (by omega)]
  show Fr 1 W (_ * 0)
  rw [Rat.mul_zero]
  exact Fr.zero
end
def RrefL (rows : List (List Rat)) (n : Nat) (R : List (List Rat)) (ps : List Nat) : Prop := R.length = ps.length /\ (∀ xs ∈ R, xs.length = n) /\ Rrf rows.length n (fnQ rows) ps.length (fun j => ps.getD j 0) (fnQ R)
structure SwR (rows : List (List Rat)) (n w : Nat) (R : List (List Rat)) (ps : List Nat) (d : Int) (ls : List (List Int)) : Prop where
 rr : RrefL rows n R ps
 d0 : d ≠ 0
 len : ls.length = ps.length
 wide : ∀ zs ∈ ls, zs.length = n
 val : ∀ i c, fnZ ls i c = (d : Rat) * fnQ R i c
 dsz : d.natAbs <= 2 ^ (min rows.length n * (w + 4))
 zsz : ∀ zs ∈ ls, ∀ z ∈ zs, z.natAbs <= 2 ^ (min rows.length n * (w + 4))
 tp : ∀ xs ∈ R, ∀ x ∈ xs, Tp d.natAbs (2 ^ (min rows.length n * (w + 4))) x
 km : ps.length <= rows.length
theorem Rrf.congrR {m n k : Nat} {a R R2 : Nat -> Nat -> Rat} {p : Nat -> Nat} (h : Rrf m n a k p R) (hr : ∀ i, i < k -> ∀ c, R2 i c = R i c) : Rrf m n a k p R2 :=
 ⟨h.inc, h.low, fun i hi j hj => by rw [hr i hi]; exact h.unit i hi j hj, fun i hi c hc => by rw [hr i hi]; exact h.lead i hi c hc, fun i hi => (h.span i hi).rows hr, fun i hi => (h.back i hi).congr fun c => (hr i hi c).symm⟩
theorem Rrf.other {m m' n k : Nat} {a a' R : Nat -> Nat -> Rat} {p : Nat -> Nat} (h : Rrf m n a k p R) (s1 : ∀ i, i < m -> Spn m' a' (a i)) (s2 : ∀ i, i < m' -> Spn m a (a' i)) : Rrf m' n a' k p R :=
 ⟨h.inc, h.low, h.unit, h.lead, fun i hi => Spn.trans h.span (s2 i hi), fun i hi => Spn.trans s1 (h.back i hi)⟩
theorem pow_sz {W w r : Nat} (h : W <= 2 ^ w) : (16 * W) ^ r <= 2 ^ (r * (w + 4)) := by
 calc (16 * W) ^ r <= (2 ^ (w + 4)) ^ r := Nat.pow_le_pow_left (by rw [Nat.pow_add]; omega) _
  _ = 2 ^ (r * (w + 4)) := by rw [<- Nat.pow_mul, Nat.mul_comm]
theorem SwI.done {rows : List (List Rat)} {n w : Nat} {ls : List (List Int)} {ps : List Nat} {d : Int} (h : SwI (rows.map topZ) n n ls ps d) (hw : ∀ xs ∈ rows, xs.length = n) (F : SwF rows n w) :
  ∃ R, SwR rows n w R ps d (ls.take ps.length) := by
 obtain ⟨W, hW, W2, ent⟩ := F.ent
 obtain ⟨_, _, _, _, _, _, _, _, r15, _⟩ := F
 have hl := h.len
 have d0 := h.d0
 have d0' : (d : Rat) ≠ 0 := fun z => d0 (cast0 z)
 have km := h.el.km
 have hm : (rows.map topZ).length = rows.length := List.length_map ..
 obtain ⟨s1, s2⟩ := h.sz (r := min rows.length n) hW ent (Nat.le_refl _) (by rw [hm]; exact Nat.le_refl _) r15
 have s2' : ∀ zs ∈ ls, ∀ z ∈ zs, z.natAbs <= 2 ^ (min rows.length n * (w + 4)) := fun zs hz z hz' => Nat.le_trans (s2 zs hz z hz') (pow_sz W2)
 have er : ∀ i c, fnQ ((ls.take ps.length).map fun zs => zs.map fun (z : Int) => (z : Rat) / (d : Rat)) i c = fnZ (ls.take ps.length) i c / (d : Rat) := fun i c => by
  unfold fnQ fnZ
  rw [List.getD_eq_getElem?_getD (l := List.map _ _), List.getElem?_map, List.getD_eq_getElem?_getD (l := List.take _ _)]
  cases e : (ls.take ps.length)[i]? with
  | none => show (0 : Rat) = ((0 : Int) : Rat) / _; grind
  | some zs =>
   show (zs.map fun (z : Int) => (z : Rat) / (d : Rat)).getD c 0 = ((zs.getD c 0 : Int) : Rat) / (d : Rat)
   rw [List.getD_eq_getElem?_getD, List.getD_eq_getElem?_getD, List.getElem?_map]
   cases e2 : zs[c]? with
   | none => show (0 : Rat) = ((0 : Int) : Rat) / _; grind
   | some z => rfl
 have et : ∀ i, i < ps.length -> ∀ c, fnZ (ls.take ps.length) i c = fnZ ls i c := fun i hi c => by
  unfold fnZ
  rw [List.getD_eq_getElem?_getD (l := List.take _ _), List.getElem?_take_of_lt hi, <- List.getD_eq_getElem?_getD]
 have RR := (h.el.done fun i hi c hc => fn_far (n := n) (fun zs hz => by
  obtain ⟨xs, hx, rfl⟩ := List.mem_map.mp hz
  rw [topZ_len]
  exact hw xs hx) hc).congrR (R2 := fnQ ((ls.take ps.length).map fun zs => zs.map fun (z : Int) => (z : Rat) / (d : Rat))) fun i hi c => by rw [er, et i hi]
 rw [hm] at RR
 refine ⟨(ls.take ps.length).map fun zs => zs.map fun (z : Int) => (z : Rat) / (d : Rat), ⟨by rw [List.length_map, List.length_take]; omega, fun xs hx => ?_, RR.other zr_spn2 zr_spn1⟩, d0, by rw [List.length_take]; omega, fun zs hz => h.wide zs (List.mem_of_mem_take hz), fun i c => ?_, Nat.le_trans s1 (pow_sz W2), fun zs hz => s2' zs (List.mem_of_mem_take hz), fun xs hx x hx' => ?_, by omega⟩
 ·obtain ⟨zs, hz, rfl⟩ := List.mem_map.mp hx
  rw [List.length_map]
  exact h.wide zs (List.mem_of_mem_take hz)
 ·rw [er]
  grind
 ·obtain ⟨zs, hz, rfl⟩ := List.mem_map.mp hx
  obtain ⟨z, hz', rfl⟩ := List.mem_map.mp hx'
  have b := s2' zs (List.mem_of_mem_take hz) z hz'
  rcases Int.natAbs_eq d with e | e
  ·refine ⟨z, ?_, b⟩
   have : ((d.natAbs : Nat) : Rat) = (d : Rat) := by rw [<- Rat.intCast_natCast, <- e]
   rw [this]
   grind
  ·refine ⟨-z, ?_, by rw [Int.natAbs_neg]; exact b⟩
   have : ((d.natAbs : Nat) : Rat) = -(d : Rat) := by rw [<- Rat.intCast_natCast, <- Rat.intCast_neg]; congr 1; omega
   rw [this, Rat.intCast_neg]
   grind
theorem fq_ext {R R' : List (List Rat)} {n : Nat} (hl : R.length = R'.length) (w1 : ∀ xs ∈ R, xs.length = n) (w2 : ∀ xs ∈ R', xs.length = n) (h : ∀ i, i < R.length -> ∀ c, fnQ R i c = fnQ R' i c) : R = R' := by
 apply List.ext_getElem hl
 intro i h1 h2
 apply List.ext_getElem (by rw [w1 _ (List.getElem_mem h1), w2 _ (List.getElem_mem h2)])
 intro c h3 h4
 have := h i h1 c
 unfold fnQ at this
 rw [List.getD_eq_getElem?_getD (l := R), List.getD_eq_getElem?_getD (l := R'), List.getElem?_eq_getElem h1, List.getElem?_eq_getElem h2] at this
 have this : (R[i]).getD c 0 = (R'[i]).getD c 0 := this
 rw [List.getD_eq_getElem?_getD, List.getD_eq_getElem?_getD, List.getElem?_eq_getElem h3, List.getElem?_eq_getElem h4] at this
 exact this
theorem RrefL.uniq {rows rows' R R' : List (List Rat)} {n : Nat} {ps ps' : List Nat} (h : RrefL rows n R ps) (h' : RrefL rows' n R' ps') (s1 : ∀ i, i < rows.length -> Spn rows'.length (fnQ rows') (fnQ rows i)) (s2 : ∀ i, i < rows'.length -> Spn rows.length (fnQ rows) (fnQ rows' i)) : R = R' /\ ps = ps' := by
 obtain ⟨l1, w1, r1⟩ := h
 obtain ⟨l2, w2, r2⟩ := h'
 obtain ⟨ek, ep, eR⟩ := r1.uniq r2 s1 s2
 refine ⟨fq_ext (by omega) w1 w2 fun i hi c => eR i (by omega) c, ?_⟩
 apply List.ext_getElem ek
 intro j h1 h2
 have := ep j h1
 rw [List.getD_eq_getElem?_getD, List.getD_eq_getElem?_getD, List.getElem?_eq_getElem h1, List.getElem?_eq_getElem h2] at this
 exact this
theorem RrefL.same {rows R R' : List (List Rat)} {n : Nat} {ps ps' : List Nat} (h : RrefL rows n R ps) (h' : RrefL rows n R' ps') : R = R' /\ ps = ps' := h.uniq h' (fun _ hi => Spn.row hi) (fun _ hi => Spn.row hi)
end L2
namespace L2
open PySem PySem.Spec PyProof.Rows Nm
def RzR (l : Addr) (H : Hp) (zs : List Int) (v : V) : Prop := ∃ q, v = V.ref q /\ q ≠ l /\ H q = some (.lst (zs.map V.int))
def GridZ (l : Addr) (H : Hp) (p : Addr) (ls : List (List Int)) : Prop := p ≠ l /\ ∃ xs, H p = some (.lst xs) /\ Paired (RzR l H) ls xs
theorem RzR.same {l : Addr} {H H' : Hp} {zs : List Int} {v : V} (h : RzR l H zs v) (e : Same H H') : RzR l H' zs v := let ⟨q, a, n, b⟩ := h; ⟨q, a, n, e _ _ b⟩
theorem RzR.upd {l : Addr} {H : Hp} {zs : List Int} {v : V} {o : HO} (h : RzR l H zs v) : RzR l (upd H l o) zs v := let ⟨q, a, n, b⟩ := h; ⟨q, a, n, by rw [upd_ne n]; exact b⟩
theorem GridZ.upd {l : Addr} {H : Hp} {p : Addr} {ls : List (List Int)} {o : HO} (h : GridZ l H p ls) : GridZ l (upd H l o) p ls := let ⟨n, xs, a, b⟩ := h; ⟨n, xs, by rw [upd_ne n]; exact a, Paired.imp' (fun _ _ z => z.upd) b⟩
theorem ne_old {H : Hp} {l r : Addr} (h : H l ≠ none) (n : H r = none) : r ≠ l := fun z => h (by rw [<- z]; exact n)
theorem paired_put {α β : Type} {F : α -> β -> Prop} : ∀ {l1 : List α} {l2 : List β} (_ : Paired F l1 l2) (i : Nat) {x : α} {y : β}, F x y -> Paired F (l1.set i x) (l2.set i y)
 | _, _, .nil, _, _, _, _ => .nil
 | _, _, .cons _ r, 0, _, _, h => .cons h r
 | _, _, .cons a r, i + 1, _, _, h => .cons a (paired_put r i h)
theorem z_at {ls : List (List Int)} {i c : Nat} {zs : List Int} (h : ls[i]? = some zs) : fnZ ls i c = ((zs.getD c 0 : Int) : Rat) := by
 unfold fnZ
 rw [List.getD_eq_getElem?_getD (l := ls), h]
 rfl
theorem z_ne {z : Int} : ((z : Int) : Rat) ≠ 0 ↔ z ≠ 0 := ⟨fun h e => h (by rw [e]; rfl), fun h e => h (cast0 e)⟩
theorem zs_at {zs : List Int} {c : Nat} (h : c < zs.length) : atI (zs.map V.int) (c : Int) = some (V.int (zs.getD c 0)) := atI_nat (by rw [List.getElem?_map, List.getD_eq_getElem?_getD, List.getElem?_eq_getElem h]; rfl)
def sp_firstW : Sp := fun vs H Q _ => ∃ (l p : Addr) (ls : List (List Int)) (b c : Nat), vs = [.ref p, .int b, .int c] /\ GridZ l H p ls /\ ls.length <= 1000 /\ b <= 1000 /\ (∀ zs ∈ ls, c < zs.length) /\ (∀ t : Nat, b <= t -> t < ls.length -> fnZ ls t c ≠ 0 -> Q (.int t) H) /\ ((∀ t, b <= t -> t < ls.length -> fnZ ls t c = 0) -> Q .non H)
def sp_broughtZ : Sp := fun vs H Q _ => ∃ (l p : Addr) (ls : List (List Int)) (t k : Nat), vs = [.ref p, .int t, .int k] /\ H l ≠ none /\ GridZ l H p ls /\ ls.length <= 1000 /\ t < ls.length /\ k < ls.length /\ ∀ r H', H r = none -> Same H H' -> GridZ l H' r (swZ ls k t) -> Q (.ref r) H'
def sp_clearZ : Sp := fun vs H Q _ => ∃ (l p : Addr) (ls : List (List Int)) (k c n : Nat) (b : Int), vs = [.ref p, .int k, .int c, .int b] /\ H l ≠ none /\ GridZ l H p ls /\ ls.length <= 1000 /\ k < ls.length /\ (∀ zs ∈ ls, zs.length = n) /\ n <= 1000 /\ c < n /\ b ≠ 0 /\ Sz 8999 b /\ (∀ zs ∈ ls, ∀ z ∈ zs, Sz 8999 z) /\ ∀ r H', H r = none -> Same H H' -> GridZ l H' r (clZ ls k c b) -> Q (.ref r) H'
theorem pi_zip2K (K : PySem.W.Frag) {X : Cx} {a b : Expr} {ta : TA} {p pos tpos : Pos} {elts : List Expr} {kk : Nat} (hg : Gl X "zip") (hm : X.mg "zip" = none) (ha : PA X [a, b] ta) (hK : X.K = K := by rfl) (hs : starEach [a, b] X.env = [(false, eval a X.env), (false, eval b X.env)] := by rfl) (hs2 : starEach [b] X.env = [(false, eval b X.env)] := by rfl) :
  PI X (.Tuple elts kk tpos) (.Call (.Name "zip" p) [a, b] [] pos) (iZip K ta) := by subst hK; exact pi_zip2 hg hm ha hs hs2
def natsV (ps : List Nat) : List V := ps.map fun (j : Nat) => V.int (j : Int)
def sp_sweptQ (K : PySem.W.Frag) : Sp := fun vs H Q _ => ∃ (p : Addr) (n w : Nat) (H0 : Hp) (rows : List (List Rat)), vs = [.ref p, .int n] /\ GridQ K H0 H p rows /\ rows.length <= 100 /\ n <= 100 /\ (∀ xs ∈ rows, xs.length = n) /\ SwF rows n w ∧
 ∀ t lp qp R ps d ls H', H' t = some (.tup [.ref lp, .ref qp]) -> H' qp = some (.lst (natsV ps)) -> GridZ qp H' lp ls -> Same H H' -> SwR rows n w R ps d ls -> Q (.ref t) H'
def sp_reducedQ (K : PySem.W.Frag) : Sp := fun vs H Q _ => ∃ (p : Addr) (n w : Nat) (H0 : Hp) (rows : List (List Rat)), vs = [.ref p, .int n] /\ GridQ K H0 H p rows /\ rows.length <= 100 /\ n <= 100 /\ (∀ xs ∈ rows, xs.length = n) /\ SwF rows n w ∧
 ∀ r R ps M H', H r = none -> Same H H' -> GridQ K H H' r R -> RrefL rows n R ps -> ps.length <= rows.length -> 0 < M -> M <= 2 ^ (min rows.length n * (w + 4)) -> (∀ xs ∈ R, ∀ x ∈ xs, Tp M (2 ^ (min rows.length n * (w + 4))) x) -> Q (.ref r) H'
end L2
namespace L2
open Nm
def botR (rows : List (List Rat)) (i : Nat) : Rat := ((botL ((rows.getD i []).map nm) : Int) : Rat)
theorem botR_ne {rows : List (List Rat)} {i : Nat} : botR rows i ≠ 0 := fun z => by
 have := botL_pos (xs := rows.getD i [])
 have := cast0 z
 omega
structure LwI (rows : List (List Rat)) (n P : Nat) (rs : List (List Rat)) (ps : List Nat) : Prop where
 len : rs.length = rows.length
 wide : ∀ xs ∈ rs, xs.length = n
 ex : ∃ pm l d, Bar (fnZ (rows.map topZ)) rows.length ps.length pm (fun j => ps.getD j 0) l d /\ Elim (fnZ (rows.map topZ)) rows.length ps.length P (fun j => ps.getD j 0) l d /\ ∀ i, i < rows.length -> ∀ c, fnQ rs i c = l i c / (d * if i < ps.length then 1 else botR rows (pm i))
section
variable {rows rs rs' : List (List Rat)} {n P w a : Nat} {ps : List Nat}
theorem lw_ne {d : Rat} {k i j : Nat} (h : d ≠ 0) : d * (if i < k then 1 else botR rows j) ≠ 0 := by
 have := botR_ne (rows := rows) (i := j)
 split <;> grind
theorem LwI.start (hw : ∀ xs ∈ rows, xs.length = n) : LwI rows n 0 rows [] := ⟨rfl, hw, fun i => i, fnZ (rows.map topZ), 1, Bar.start fun _ _ => rfl, Elim.start, fun i hi c => by
 rw [zr_at hi, if_neg (by show ¬ i < 0; omega)]
 have := botR_ne (rows := rows) (i := i)
 show fnQ rows i c = botR rows i * fnQ rows i c / (1 * botR rows i)
 grind⟩
theorem LwI.skip (h : LwI rows n P rs ps) (hz : ∀ i, ps.length <= i -> i < rs.length -> fnQ rs i P = 0) : LwI rows n (P + 1) rs ps := by
 obtain ⟨len, wide, pm, l, d, B, E, v⟩ := h
 refine ⟨len, wide, pm, l, d, B, E.skip fun i h1 h2 => ?_, v⟩
 have := v i h2 P
 rw [hz i h1 (by omega)] at this
 have ne := lw_ne (rows := rows) (i := i) (j := pm i) (k := ps.length) B.d0
 generalize d * (if i < ps.length then 1 else botR rows (pm i)) = D at this ne
 grind
theorem LwI.km (h : LwI rows n P rs ps) : ps.length <= rows.length /\ ps.length <= P := let ⟨_, _, _, _, _, _, E, _⟩ := h; ⟨E.km, E.kP⟩
theorem LwI.step (h : LwI rows n P rs ps) {t : Nat} (ht : ps.length <= t) (ht2 : t < rs.length) (hne : fnQ rs t P ≠ 0) (l' : rs'.length = rows.length) (w' : ∀ xs ∈ rs', xs.length = n)
  (hv : ∀ i, i < rows.length -> ∀ c, fnQ rs' i c = if i = ps.length then 1 / fnQ rs t P * fnQ rs t c else fnQ rs (swN ps.length t i) c - fnQ rs (swN ps.length t i) P * (1 / fnQ rs t P * fnQ rs t c)) : LwI rows n (P + 1) rs' (ps ++ [P]) := by
 obtain ⟨len, wide, pm, l, d, B, E, v⟩ := h
 have hk : ps.length < rows.length := by omega
 have B1 := B.swap ht (by omega)
 have E1 := E.swap ht (by omega)
 have d0 := B.d0
 have v1 : ∀ i, i < rows.length -> ∀ c, fnQ rs (swN ps.length t i) c = l (swN ps.length t i) c / (d * if i < ps.length then 1 else botR rows (pm (swN ps.length t i))) := fun i hi c => by
  rw [v _ (sw_lt hk (by omega) hi) c]
  by_cases z : i < ps.length
  ·rw [sw_low ht z, if_pos z]
  ·rw [if_neg z, if_neg (by have := sw_high ht (show ps.length <= i by omega); omega)]
 have sk : swN ps.length t ps.length = t := by unfold swN; rw [if_pos rfl]
 have vt : ∀ c, fnQ rs t c = l (swN ps.length t ps.length) c / (d * botR rows (pm (swN ps.length t ps.length))) := fun c => by
  have := v1 ps.length hk c
  rw [if_neg (by omega), sk] at this
  rw [sk]
  exact this
 have bt := botR_ne (rows := rows) (i := pm (swN ps.length t ps.length))
 have h1 : l (swN ps.length t ps.length) P ≠ 0 := fun z => hne (by rw [vt P, z]; grind)
 have B2 := B1.step (c0 := P) hk h1
 have lp : (ps ++ [P]).length = ps.length + 1 := by rw [List.length_append]; rfl
 have hp : ∀ j, j < ps.length + 1 -> (ps ++ [P]).getD j 0 = if j = ps.length then P else ps.getD j 0 := fun j hj => getD_snoc hj
 refine ⟨l', w', fun i => pm (swN ps.length t i), _, _, by rw [lp]; exact B2.congr (l2 := fun i c => if i = ps.length then l (swN ps.length t ps.length) c else (l (swN ps.length t ps.length) P * l (swN ps.length t i) c - l (swN ps.length t i) P * l (swN ps.length t ps.length) c) / d) hp (fun _ _ _ => rfl), ?_, fun i hi c => ?_⟩
 ·rw [lp]
  refine Elim.congr (E1.step (d' := l (swN ps.length t ps.length) P) (l' := fun i c => if i = ps.length then l (swN ps.length t ps.length) c else (l (swN ps.length t ps.length) P * l (swN ps.length t i) c - l (swN ps.length t i) P * l (swN ps.length t ps.length) c) / d) hk h1 B2.unit fun i hi => ?_) hp (fun _ _ _ => rfl)
  by_cases e : i = ps.length
  ·refine ⟨1, 0, by decide, fun _ => rfl, fun c => ?_⟩
   rw [if_pos e, e]
   grind
  ·refine ⟨l (swN ps.length t ps.length) P / d, -(l (swN ps.length t i) P) / d, ?_, fun z => absurd z e, fun c => ?_⟩
   ·intro z
    apply h1
    grind
   ·rw [if_neg e]
    grind
 ·rw [hv i hi c, lp, vt c, vt P]
  by_cases e : i = ps.length
  ·rw [if_pos e, if_pos e, if_pos (by omega)]
   grind
  ·rw [if_neg e, if_neg e, v1 i hi c, v1 i hi P]
   have ne := lw_ne (rows := rows) (i := i) (j := pm (swN ps.length t i)) (k := ps.length) d0
   by_cases z : i < ps.length
   ·rw [if_pos z, if_pos (by omega)]
    grind
   ·have bi := botR_ne (rows := rows) (i := pm (swN ps.length t i))
    rw [if_neg z, if_neg (by omega)]
    grind
theorem LwI.done (h : LwI rows n n rs ps) (hw : ∀ xs ∈ rows, xs.length = n) : RrefL rows n (rs.take ps.length) ps := by
 obtain ⟨len, wide, pm, l, d, B, E, v⟩ := h
 have km := E.km
 refine ⟨by rw [List.length_take]; omega, fun xs hx => wide xs (List.mem_of_mem_take hx), Rrf.other ((E.done fun i hi c hc => ?_).congrR fun i hi c => ?_) zr_spn2 zr_spn1⟩
 ·exact fn_far (n := n) (fun zs hz => by
   obtain ⟨xs, hx, rfl⟩ := List.mem_map.mp hz
   rw [topZ_len]
   exact hw xs hx) hc
 ·have e : fnQ (rs.take ps.length) i c = fnQ rs i c := by
   unfold fnQ
   rw [List.getD_eq_getElem?_getD (l := List.take _ _), List.getElem?_take_of_lt hi, <- List.getD_eq_getElem?_getD]
  rw [e, v i (by omega) c, if_pos hi, Rat.mul_one]
theorem tp_abs {l D : Rat} {z y : Int} {W : Nat} (hl : l = (z : Rat)) (hD : D = (y : Rat)) (h0 : D ≠ 0) (hz : z.natAbs <= W) : Tp y.natAbs W (l / D) := by
 rcases Int.natAbs_eq y with e | e
 ·refine ⟨z, ?_, hz⟩
  have : ((y.natAbs : Nat) : Rat) = D := by rw [<- Rat.intCast_natCast, <- e, hD]
  rw [this, hl]
  grind
 ·refine ⟨-z, ?_, by rw [Int.natAbs_neg]; exact hz⟩
  have : ((y.natAbs : Nat) : Rat) = -D := by rw [<- Rat.intCast_natCast, hD, <- Rat.intCast_neg]; congr 1; omega
  rw [this, hl, Rat.intCast_neg]
  grind
end
theorem szn_tp {M W : Nat} {x : Rat} (h : Tp M W x) (h0 : 0 < M) (h1 : M <= 2 ^ 3995) (h2 : W <= 2 ^ 3995) : SzN x := by
 refine ⟨?_, ?_⟩
 ·obtain ⟨s, e, b⟩ := tp_top h h0 (nm_pos x) (Int.dvd_refl _) (tp_den h)
  have e2 : (((nm x).1 : Int) : Rat) = (s : Rat) := by rw [<- e]; exact num_val x
  rw [Rat.intCast_inj.mp e2]
  exact Nat.lt_of_le_of_lt (Nat.le_trans b h2) (Nat.pow_lt_pow_right (by decide) (by decide))
 ·have := Nat.le_of_dvd h0 (Int.natCast_dvd_natCast.mp (tp_den h))
  show ((x.den : Nat) : Int).natAbs < _
  rw [Int.natAbs_natCast]
  exact Nat.lt_of_le_of_lt (Nat.le_trans this h1) (Nat.pow_lt_pow_right (by decide) (by decide))
theorem Tp.mul {M W M' W' : Nat} {x y : Rat} (h : Tp M W x) (h' : Tp M' W' y) : Tp (M * M') (W * W') (x * y) := by
 obtain ⟨z, e, b⟩ := h
 obtain ⟨z', e', b'⟩ := h'
 refine ⟨z * z', ?_, by rw [Int.natAbs_mul]; exact Nat.mul_le_mul b b'⟩
 rw [Rat.intCast_mul, <- e, <- e', Rat.natCast_mul]
 grind
theorem szn_inv {x : Rat} (h : SzN x) (h0 : x ≠ 0) : SzN (1 / x) := by
 have n0 : x.num ≠ 0 := fun z => h0 (Rat.num_eq_zero.mp z)
 have e := num_val x
 have e1 : (1 / x) * (x.num : Rat) = (x.den : Rat) := by rw [e]; grind
 have t : Tp x.num.natAbs x.den (1 / x) := by
  rcases Int.natAbs_eq x.num with q | q
  ·refine ⟨x.den, ?_, by simp⟩
   have : ((x.num.natAbs : Nat) : Rat) = (x.num : Rat) := by rw [<- Rat.intCast_natCast, <- q]
   rw [this, e1, Rat.intCast_natCast]
  ·refine ⟨-(x.den : Int), ?_, by simp⟩
   have : ((x.num.natAbs : Nat) : Rat) = -(x.num : Rat) := by rw [<- Rat.intCast_natCast, <- Rat.intCast_neg]; congr 1; omega
   rw [this, Rat.intCast_neg, Rat.intCast_natCast, <- e1]
   grind
 obtain ⟨h1, h2⟩ := h
 have h1 : x.num.natAbs < 2 ^ 4000 := h1
 have h2 : ((x.den : Nat) : Int).natAbs < 2 ^ 4000 := h2
 rw [Int.natAbs_natCast] at h2
 refine ⟨?_, ?_⟩
 ·obtain ⟨s, e, b⟩ := tp_top t (by omega) (nm_pos (1 / x)) (Int.dvd_refl _) (tp_den t)
  have e2 : (((nm (1 / x)).1 : Int) : Rat) = (s : Rat) := by rw [<- e]; exact num_val (1 / x)
  rw [Rat.intCast_inj.mp e2]
  exact Nat.lt_of_le_of_lt b h2
 ·have := Nat.le_of_dvd (show 0 < x.num.natAbs by omega) (Int.natCast_dvd_natCast.mp (tp_den t))
  show (((1 / x).den : Nat) : Int).natAbs < _
  rw [Int.natAbs_natCast]
  exact Nat.lt_of_le_of_lt this h1
end L2
namespace L2
open PySem PySem.Spec PyProof.Rows Nm
def sp_quotQ (K : PySem.W.Frag) : Sp := fun vs H Q _ => ∃ (u v : V) (x y : Rat), vs = [u, v] /\ NumQ K H x u /\ NumQ K H y v /\ SzN x /\ SzN y /\ y ≠ 0 /\ ∀ r H', Same H H' -> NumQ K H' (x / y) (.ref r) -> Q (.ref r) H'
theorem quotQ_of {K : PySem.W.Frag} {vs : List V} {H : Hp} {Q : VK} {E : XK} (h : sp_quotQ K vs H Q E) : sp_quot K vs H Q E := by
 obtain ⟨u, v, x, y, rfl, ⟨p, rfl, hp⟩, ⟨q, rfl, hq⟩, ⟨s1, s2⟩, ⟨s3, s4⟩, y0, k⟩ := h
 have n0 : (nm y).1 ≠ 0 := fun z => y0 (Rat.num_eq_zero.mp z)
 have px := nm_pos x
 have py := nm_pos y
 have e1 := num_nm x
 have e2 := num_nm y
 have dx : (((nm x).2 : Int) : Rat) ≠ 0 := fun z => by have := cast0 z; omega
 have dy : (((nm y).2 : Int) : Rat) ≠ 0 := fun z => by have := cast0 z; omega
 refine ⟨p, q, _, _, _, _, rfl, hp, hq, px, py, n0, s1, s2, s3, s4, fun r H' s g => k r H' s (NumQ.mk g ?_)⟩
 by_cases hc : (nm y).1 < 0
 ·rw [if_pos hc, if_pos hc]
  refine lohi_nm (by have := Int.mul_neg_of_pos_of_neg px hc; omega) ?_
  rw [Rat.intCast_sub, Rat.intCast_sub, Rat.intCast_mul, Rat.intCast_mul, e1, e2]
  show x / y * (((0 : Int) : Rat) - _) = ((0 : Int) : Rat) - _
  grind
 ·rw [if_neg hc, if_neg hc]
  refine lohi_nm (Int.mul_pos px (by omega)) ?_
  rw [Rat.intCast_mul, Rat.intCast_mul, e1, e2]
  grind
def sp_minusQ (K : PySem.W.Frag) : Sp := fun vs H Q _ => ∃ (p q : Addr) (xs ys : List Rat), vs = [.ref p, .ref q] /\ RowQ K H p xs /\ RowQ K H q ys /\ ys.length = xs.length /\ xs.length <= 1000 /\ (∀ x ∈ xs, SzN x) /\ (∀ y ∈ ys, SzN y) ∧
 ∀ r H', H r = none -> Same H H' -> RowQ K H' r (List.zipWith (fun x y => x - y) xs ys) -> Q (.ref r) H'
theorem gd_zip {xs ys : List Rat} {c : Nat} (h : xs.length = ys.length) : (List.zipWith (fun x y => x - y) xs ys).getD c 0 = xs.getD c 0 - ys.getD c 0 := by
 rw [List.getD_eq_getElem?_getD, List.getD_eq_getElem?_getD, List.getD_eq_getElem?_getD, List.getElem?_zipWith]
 by_cases hc : c < xs.length
 ·rw [List.getElem?_eq_getElem hc, List.getElem?_eq_getElem (show c < ys.length by omega)]
  rfl
 ·rw [List.getElem?_eq_none (by omega), List.getElem?_eq_none (by omega)]
  show (0 : Rat) = 0 - 0
  grind
theorem gd_by {xs : List Rat} {c : Nat} {q : Rat} : (xs.map fun y => q * y).getD c 0 = q * xs.getD c 0 := by
 rw [List.getD_eq_getElem?_getD, List.getD_eq_getElem?_getD, List.getElem?_map]
 cases xs[c]? with
 | none => show (0 : Rat) = q * 0; grind
 | some x => rfl
theorem zip_rangeM {xs ys : List Rat} (h : ys.length = xs.length) : List.zipWith (fun x y => x - y) xs ys = (List.range xs.length).map fun i => xs.getD i 0 - ys.getD i 0 := by
 apply List.ext_getElem?
 intro i
 rw [List.getElem?_zipWith, List.getElem?_map]
 by_cases hi : i < xs.length
 ·rw [List.getElem?_range hi, List.getElem?_eq_getElem hi, List.getElem?_eq_getElem (show i < ys.length by omega)]
  simp [List.getD_eq_getElem?_getD, List.getElem?_eq_getElem hi, List.getElem?_eq_getElem (show i < ys.length by omega)]
 ·rw [List.getElem?_eq_none (show (List.range xs.length).length <= i by simp; omega), List.getElem?_eq_none (show xs.length <= i by omega)]
  rfl
theorem grid_subL {K : PySem.W.Frag} {H0 H H' : Hp} {q : Addr} {rows : List (List Rat)} {vs : List V} (pr : Paired (RowF K H0 H) rows vs) (s : Same H H') (n : H q = none) (g : H' q = some (.lst vs)) : GridQ K H0 H' q rows :=
 ⟨vs, g, Paired.imp' (fun _ _ z => z.same s) pr, fun z => by
  obtain ⟨_, _, q', e, _, _, g', _⟩ := paired_mem pr z
  cases e
  rw [n] at g'
  cases g'⟩
theorem szn_one : SzN 1 := szn_tp (M := 1) (W := 1) ⟨1, by simp, by decide⟩ (by decide) Nat.one_le_two_pow Nat.one_le_two_pow
theorem RrefL.le {rows R : List (List Rat)} {n : Nat} {ps : List Nat} (h : RrefL rows n R ps) : ps.length <= n := by
 obtain ⟨_, _, rr⟩ := h
 rcases Nat.lt_or_ge n ps.length with z | z
 ·have inc : ∀ j, j < ps.length -> j <= ps.getD j 0 := by
   intro j
   induction j with
   | zero => intro _; exact Nat.zero_le _
   | succ j ih =>
    intro hj
    have := ih (by omega)
    have := rr.inc j (j + 1) (by omega) hj
    omega
  have h1 := inc (ps.length - 1) (by omega)
  have h2 := rr.low (ps.length - 1) (by omega)
  omega
 ·exact z
theorem Tp.zero {M W : Nat} : Tp M W 0 := ⟨0, by simp, by simp⟩
theorem Tp.add {M W W' : Nat} {x y : Rat} (h : Tp M W x) (h' : Tp M W' y) : Tp M (W + W') (x + y) := by
 obtain ⟨z, e, b⟩ := h
 obtain ⟨z', e', b'⟩ := h'
 refine ⟨z + z', ?_, Nat.le_trans (Int.natAbs_add_le _ _) (Nat.add_le_add b b')⟩
 rw [Rat.intCast_add, <- e, <- e']
 grind
theorem Tp.sum {M W : Nat} {f : Nat -> Rat} : ∀ {k : Nat}, (∀ j, j < k -> Tp M W (f j)) -> Tp M (k * W) (sumN k f)
 | 0, _ => Tp.zero
 | k + 1, h => by
  have := (Tp.sum (k := k) fun j hj => h j (by omega)).add (h k (by omega))
  exact this.mono (by rw [Nat.succ_mul]; exact Nat.le_refl _)
theorem tp_getD {M W : Nat} {xs : List Rat} (h : ∀ x ∈ xs, Tp M W x) (c : Nat) : Tp M W (xs.getD c 0) := by
 by_cases hc : c < xs.length
 ·exact h _ (getD_in hc)
 ·rw [List.getD_eq_getElem?_getD, List.getElem?_eq_none (by omega)]
  exact Tp.zero
end L2
namespace L2
open PySem PySem.Spec PyProof.Rows Nm
def intsN (ps : List Nat) : List Int := ps.map fun (j : Nat) => (j : Int)
theorem nats_ints {ps : List Nat} : natsV ps = (intsN ps).map V.int := by unfold natsV intsN; rw [List.map_map]; rfl
theorem paired_ints {K : PySem.W.Frag} {H : Hp} : ∀ {zs : List Int}, Paired (fun a x => kInt.R K H x a) zs (zs.map V.int)
 | [] => .nil
 | z :: zs => .cons rfl paired_ints
theorem nats_kind {K : PySem.W.Frag} {H : Hp} {p : Addr} {ps : List Nat} (h : H p = some (.lst (natsV ps))) : (kLst kInt).R K H (.ref p) (intsN ps) := ⟨p, natsV ps, rfl, SqL.of h, by rw [nats_ints]; exact paired_ints⟩
def nzN (xs : List Rat) (i : Nat) : List Nat := (List.range i).filter fun c => decide (xs.getD c 0 ≠ 0)
theorem nz_succ {xs : List Rat} {i : Nat} : nzN xs (i + 1) = if xs.getD i 0 ≠ 0 then nzN xs i ++ [i] else nzN xs i := by
 unfold nzN
 rw [List.range_succ, List.filter_append]
 by_cases h : xs.getD i 0 ≠ 0
 ·rw [if_pos h, List.filter_cons_of_pos (by simpa using h)]
  rfl
 ·rw [if_neg h, List.filter_cons_of_neg (by simpa using h)]
  simp
end L2
namespace L2
open PySem PySem.Spec PyProof.Rows Nm
section
variable {R rows : List (List Rat)} {ps : List Nat} {n a j : Nat}
theorem dot_sumN : ∀ {xs ys : List Rat}, xs.length = ys.length -> dotQ xs ys = sumN xs.length fun c => xs.getD c 0 * ys.getD c 0 := by
 intro xs ys h
 have key : ∀ k, k <= xs.length -> dotQ (xs.take k) (ys.take k) = sumN k fun c => xs.getD c 0 * ys.getD c 0 := by
  intro k
  induction k with
  | zero => intro _; rfl
  | succ k ih =>
   intro hk
   rw [dotQ_snoc (by omega) (by omega), ih (by omega)]
   rfl
 have := key xs.length (Nat.le_refl _)
 rwa [List.take_of_length_le (Nat.le_refl _), List.take_of_length_le (by omega)] at this
end
end L2
namespace L2
open PySem PySem.Spec PyProof.Rows Nm
theorem den2520 {q : Rat} (h : q.den <= 9) : q.den ∣ 2520 := by
 have := q.den_pos
 generalize q.den = d at h this
 have : d = 1 ∨ d = 2 ∨ d = 3 ∨ d = 4 ∨ d = 5 ∨ d = 6 ∨ d = 7 ∨ d = 8 ∨ d = 9 := by omega
 rcases this with rfl | rfl | rfl | rfl | rfl | rfl | rfl | rfl | rfl <;> decide
theorem dr9_fr {q : Rat} {M : Nat} (h : Dr 9 q) (hM : 2520 ∣ M) : Fr M 9 q := (Fr.own q h.1).dvd (Nat.dvd_trans (den2520 h.2) hM)
end L2
namespace L2
open PySem PySem.Spec PyProof.Rows Nm
end L2
namespace L2
open PySem PySem.Spec PyProof.Rows Nm
section
variable {rows : List (List Rat)} {ws xs row : List Rat} {n j : Nat}
theorem map_gd {c i : Nat} : (rows.map fun xs => xs.getD c 0).getD i 0 = fnQ rows i c := by
 unfold fnQ
 rw [List.getD_eq_getElem?_getD, List.getElem?_map, List.getD_eq_getElem?_getD (l := rows)]
 cases rows[i]? with
 | none => rfl
 | some y => rfl
end
theorem Fr.up {M V M' V' : Nat} {x : Rat} (h : Fr M V x) (hd : M ∣ M') (hv : V <= V') : Fr M' V' x := (h.dvd hd).mono hv
end L2
namespace L2
open PySem PySem.Spec PyProof.Rows Nm
section
variable {rows R : List (List Rat)} {due : List Rat} {ps : List Nat} {n : Nat}
theorem dot_frS {xs ys : List Rat} {M V D B : Nat} (h : ys.length = xs.length) (hx : ∀ x ∈ xs, Fr M V x) (hy : ∀ y ∈ ys, Fr D B y) : Fr (M * D) (xs.length * (V * B)) (dotQ xs ys) := by
 rw [dot_sumN h.symm]
 have key : ∀ j, j <= xs.length -> Fr (M * D) (j * (V * B)) (sumN j fun c => xs.getD c 0 * ys.getD c 0) := by
  intro j
  induction j with
  | zero => intro _; exact Fr.zero
  | succ j ih =>
   intro hj
   exact ((ih (by omega)).add ((hx _ (getD_in (by omega))).mul (hy _ (getD_in (by omega))))).mono (Nat.le_of_eq (Nat.succ_mul j (V * B)).symm)
 exact key _ (Nat.le_refl _)
end
end L2
namespace L2
open PySem PySem.Spec PyProof.Rows Nm
end L2
namespace L2
open PySem PySem.Spec PyProof.Rows Nm
end L2
namespace L2
open PySem PySem.Spec PyProof.Rows Nm
theorem ints_inj {ps qs : List Nat} (h : intsN ps = intsN qs) : ps = qs := List.map_inj_right (fun _ _ e => Int.ofNat.inj e) |>.mp h
end L2
namespace L2
open PySem PySem.Spec PyProof.Rows Nm
def RowE (K : PySem.W.Frag) (P : Addr -> Prop) (H : Hp) (xs : List Rat) (v : V) : Prop := ∃ q, v = .ref q /\ P q /\ RowQ K H q xs
section
variable {K : PySem.W.Frag} {P : Addr -> Prop} {H H' : Hp} {xs : List Rat} {v : V} {b l : Addr}
theorem RowE.same (h : RowE K P H xs v) (s : Same H H') : RowE K P H' xs v := let ⟨q, a, c, d⟩ := h; ⟨q, a, c, d.same s⟩
theorem RowE.updL {ys : List V} {o : HO} (h : RowE K P H xs v) (hl : H l = some (.lst ys)) (nb : ∀ q, P q -> q ≠ l) : RowE K P (upd H l o) xs v := let ⟨q, a, c, d⟩ := h; ⟨q, a, c, d.updL hl (nb q c)⟩
theorem GridQ.ofE {H0 : Hp} {rows : List (List Rat)} {us : List V} (g : H l = some (.lst us)) (h : Paired (RowE K P H) rows us) (h0 : ∀ q, P q -> H0 q = none) (hn : ∀ q, P q -> q ≠ l) : GridQ K H0 H l rows :=
 ⟨us, g, Paired.imp' (fun _ _ ⟨q, a, c, d⟩ => ⟨q, a, h0 q c, d⟩) h, fun z => by
  obtain ⟨_, _, q, e, c, _⟩ := paired_mem h z
  cases e
  exact hn _ c rfl⟩
end
end L2
namespace L2
open PySem PySem.Spec PyProof.Rows Nm
theorem paired_impM {α β : Type} {F G : α -> β -> Prop} : ∀ {l1 : List α} {l2 : List β}, (∀ a b, b ∈ l2 -> F a b -> G a b) -> Paired F l1 l2 -> Paired G l1 l2
 | _, _, _, .nil => .nil
 | _, _, h, .cons a r => .cons (h _ _ (by simp) a) (paired_impM (fun x y hy => h x y (by simp [hy])) r)
end L2
namespace L2
open PySem PySem.Spec PyProof.Rows Nm
section
variable {rows rows' R R' : List (List Rat)} {n w W : Nat} {ps ps' : List Nat}
theorem sw_exists (hw : ∀ xs ∈ rows, xs.length = n) (hW : 1 <= W) (ent : ∀ i, i < (rows.map topZ).length -> ∀ c, Fr 1 W (fnZ (rows.map topZ) i c)) : ∀ P, P <= n -> ∃ ls ps d, SwI (rows.map topZ) n P ls ps d := by
 intro P
 induction P with
 | zero => intro _; exact ⟨_, _, _, SwI.start fun zs hz => by obtain ⟨x, hx, rfl⟩ := List.mem_map.mp hz; rw [topZ_len]; exact hw x hx⟩
 | succ P ih =>
  intro hP
  obtain ⟨ls, ps, d, I⟩ := ih (by omega)
  by_cases e : ∃ t, ps.length <= t /\ t < ls.length /\ fnZ ls t P ≠ 0
  ·obtain ⟨t, h1, h2, h3⟩ := e
   exact ⟨_, _, _, I.step hW ent h1 h2 h3⟩
  ·exact ⟨_, _, _, I.skip fun i h1 h2 => by
    by_cases z : fnZ ls i P = 0
    ·exact z
    ·exact absurd ⟨i, h1, h2, z⟩ e⟩
theorem rr_exists (hw : ∀ xs ∈ rows, xs.length = n) (F : SwF rows n w) : ∃ R ps d ls, SwR rows n w R ps d ls := by
 obtain ⟨W, hW, W2, ent⟩ := F.ent
 obtain ⟨ls, ps, d, I⟩ := sw_exists hw hW ent n (Nat.le_refl _)
 obtain ⟨R, S⟩ := I.done hw F
 exact ⟨R, ps, d, _, S⟩
theorem rr_tp (hw : ∀ xs ∈ rows, xs.length = n) (F : SwF rows n w) (RR : RrefL rows n R ps) : ps.length <= rows.length /\ ∃ M, 0 < M /\ M <= 2 ^ (min rows.length n * (w + 4)) /\ ∀ xs ∈ R, ∀ x ∈ xs, Tp M (2 ^ (min rows.length n * (w + 4))) x := by
 obtain ⟨R2, ps2, d, ls, S⟩ := rr_exists hw F
 obtain ⟨rfl, rfl⟩ := S.rr.same RR
 exact ⟨S.km, d.natAbs, Int.natAbs_pos.mpr S.d0, S.dsz, S.tp⟩
theorem inc_alike {k : Nat} {p q : Nat -> Nat} (hp : ∀ i j, i < j -> j < k -> p i < p j) (hq : ∀ i j, i < j -> j < k -> q i < q j) (hs : ∀ i, i < k -> ∃ j, j < k /\ q j = p i) : ∀ i, i < k -> p i = q i := by
 have hqm : ∀ i j, i <= j -> j < k -> q i <= q j := fun i j h hj => by
  rcases Nat.lt_or_ge i j with z | z
  ·exact Nat.le_of_lt (hq i j z hj)
  ·have : i = j := by omega
   rw [this]; exact Nat.le_refl _
 have hqi : ∀ i j, i < k -> j < k -> q i < q j -> i < j := fun i j hi hj h => by
  rcases Nat.lt_or_ge i j with z | z
  ·exact z
  ·have := hqm j i z hi
   omega
 have key : ∀ i, i < k -> ∀ j, j < k -> q j = p i -> i <= j := by
  intro i
  induction i with
  | zero => intro _ j _ _; exact Nat.zero_le _
  | succ i ih =>
   intro hi j hj e
   obtain ⟨j', hj', e'⟩ := hs i (by omega)
   have h1 := ih (by omega) j' hj' e'
   have h2 := hp i (i + 1) (by omega) hi
   have := hqi j' j hj' hj (by omega)
   omega
 have key2 : ∀ t i, i + t + 1 = k -> ∀ j, j < k -> q j = p i -> j <= i := by
  intro t
  induction t with
  | zero => intro i e j hj _; omega
  | succ t ih =>
   intro i e j hj ej
   obtain ⟨j', hj', e'⟩ := hs (i + 1) (by omega)
   have h1 := ih (i + 1) (by omega) j' hj' e'
   have h2 := hp i (i + 1) (by omega) (by omega)
   have := hqi j j' hj hj' (by omega)
   omega
 intro i hi
 obtain ⟨j, hj, e⟩ := hs i hi
 have h1 := key i hi j hj e
 have h2 := key2 (k - 1 - i) i (by omega) j hj e
 have : j = i := by omega
 rw [<- e, this]
theorem rr_within (h : RrefL rows n R ps) (h' : RrefL rows' n R' ps') (hl : ps.length = ps'.length) (hs : ∀ i, i < ps.length -> Spn ps'.length (fnQ R') (fnQ R i)) : R = R' /\ ps = ps' := by
 obtain ⟨l1, w1, r1⟩ := h
 obtain ⟨l2, w2, r2⟩ := h'
 have ep : ∀ i, i < ps.length -> ps.getD i 0 = ps'.getD i 0 := inc_alike r1.inc (by rw [hl]; exact r2.inc) fun i hi => by
  have u := r1.unit i hi i hi
  rw [if_pos rfl] at u
  obtain ⟨j, hj, e⟩ := r2.lead_in (hs i hi) (c := ps.getD i 0) (by rw [u]; decide) (fun c hc => r1.lead i hi c hc)
  exact ⟨j, by omega, e⟩
 have eps : ps = ps' := by
  apply List.ext_getElem hl
  intro i a b
  have := ep i a
  rw [List.getD_eq_getElem?_getD, List.getD_eq_getElem?_getD, List.getElem?_eq_getElem a, List.getElem?_eq_getElem b] at this
  exact this
 refine ⟨fq_ext (n := n) (by omega) w1 w2 fun i hi c => ?_, eps⟩
 rw [l1] at hi
 rw [r2.coef (hs i hi) c, <- hl, sumN_one hi fun j hj hj' => ?_]
 ·rw [<- ep i hi]
  have u := r1.unit i hi i hi
  rw [if_pos rfl] at u
  rw [u]; grind
 ·rw [<- ep j hj]
  have u := r1.unit i hi j hj
  rw [if_neg (Ne.symm hj')] at u
  rw [u]; grind
end
end L2
namespace L2
open PySem PySem.Spec PyProof.Rows Nm
def onQ (mv : List (List Rat)) (x : List Rat) : List Rat := mv.map fun xs => dotQ xs x
def kry (mv pt : List (List Rat)) : Nat -> List (List Rat)
 | 0 => []
 | t + 1 => pt ++ (kry mv pt t).map (onQ mv)
section
variable {mv pt R R' S X Y : List (List Rat)} {n t m i c : Nat} {ps ps' : List Nat} {a : Nat -> Nat -> Rat}
theorem on_len {x : List Rat} : (onQ mv x).length = mv.length := List.length_map ..
theorem on_fn (lm : mv.length = n) (wm : ∀ xs ∈ mv, xs.length = n) (wR : ∀ xs ∈ R, xs.length = n) (hi : i < R.length) (c : Nat) : fnQ (R.map (onQ mv)) i c = sumN n fun j => fnQ mv c j * fnQ R i j := by
 have wi := wR _ (List.getElem_mem hi)
 have e1 : (R.map (onQ mv)).getD i [] = onQ mv R[i] := by rw [List.getD_eq_getElem?_getD, List.getElem?_map, List.getElem?_eq_getElem hi]; rfl
 have e2 : R.getD i [] = R[i] := by rw [List.getD_eq_getElem?_getD, List.getElem?_eq_getElem hi]; rfl
 by_cases hc : c < n
 ·have wc := wm _ (List.getElem_mem (show c < mv.length by omega))
  have e3 : mv.getD c [] = mv[c]'(by omega) := by rw [List.getD_eq_getElem?_getD, List.getElem?_eq_getElem (by omega)]; rfl
  have e4 : (onQ mv R[i]).getD c 0 = dotQ (mv[c]'(by omega)) R[i] := by
   unfold onQ
   rw [List.getD_eq_getElem?_getD, List.getElem?_map, List.getElem?_eq_getElem (by omega)]; rfl
  unfold fnQ
  rw [e1, e2, e3, e4, dot_sumN (by omega), wc]
 ·have e3 : mv.getD c [] = [] := by rw [List.getD_eq_getElem?_getD, List.getElem?_eq_none (by omega)]; rfl
  unfold fnQ
  rw [e1, e3, List.getD_eq_getElem?_getD, List.getElem?_eq_none (by rw [on_len]; omega), sumN_zero fun j _ => by
   show ([] : List Rat).getD j 0 * _ = 0
   rw [List.getD_eq_getElem?_getD]
   show (0 : Rat) * _ = 0
   grind]
  rfl
theorem spn_on (lm : mv.length = n) (wm : ∀ xs ∈ mv, xs.length = n) (wR : ∀ xs ∈ R, xs.length = n) (wS : ∀ xs ∈ S, xs.length = n) (hi : i < R.length) (h : Spn S.length (fnQ S) (fnQ R i)) : Spn (S.map (onQ mv)).length (fnQ (S.map (onQ mv))) (fnQ (R.map (onQ mv)) i) := by
 obtain ⟨w, hw⟩ := h
 refine ⟨w, fun c => ?_⟩
 rw [on_fn lm wm wR hi, List.length_map]
 have e1 : sumN n (fun j => fnQ mv c j * fnQ R i j) = sumN n (fun j => sumN S.length fun s => w s * (fnQ mv c j * fnQ S s j)) := sumN_congr fun j _ => by
  rw [hw j, <- sumN_mul]
  exact sumN_congr fun s _ => by grind
 rw [e1, sumN_swap]
 exact sumN_congr fun s hs => by rw [sumN_mul, on_fn lm wm wS hs]
theorem ap_l (h : i < X.length) : fnQ (X ++ Y) i = fnQ X i := by
 funext c
 unfold fnQ
 rw [List.getD_eq_getElem?_getD (l := X ++ Y), List.getElem?_append_left h, <- List.getD_eq_getElem?_getD]
theorem ap_r : fnQ (X ++ Y) (X.length + i) = fnQ Y i := by
 funext c
 unfold fnQ
 rw [List.getD_eq_getElem?_getD (l := X ++ Y), List.getElem?_append_right (by omega), show X.length + i - X.length = i by omega, <- List.getD_eq_getElem?_getD]
theorem spn_app (h1 : ∀ i, i < X.length -> Spn m a (fnQ X i)) (h2 : ∀ i, i < Y.length -> Spn m a (fnQ Y i)) : ∀ i, i < (X ++ Y).length -> Spn m a (fnQ (X ++ Y) i) := fun i hi => by
 rw [List.length_append] at hi
 by_cases h : i < X.length
 ·rw [ap_l h]; exact h1 i h
 ·obtain ⟨j, rfl⟩ : ∃ j, i = X.length + j := ⟨i - X.length, by omega⟩
  rw [ap_r]; exact h2 j (by omega)
theorem spn_left (h : i < X.length) : Spn (X ++ Y).length (fnQ (X ++ Y)) (fnQ X i) := by
 have := Spn.row (a := fnQ (X ++ Y)) (m := (X ++ Y).length) (i := i) (by rw [List.length_append]; omega)
 rwa [ap_l h] at this
theorem spn_right {x : Nat -> Rat} (h : Spn Y.length (fnQ Y) x) : Spn (X ++ Y).length (fnQ (X ++ Y)) x := Spn.trans (fun s hs => by
 have := Spn.row (a := fnQ (X ++ Y)) (m := (X ++ Y).length) (i := X.length + s) (by rw [List.length_append]; omega)
 rwa [ap_r] at this) h
theorem kry_wide (lm : mv.length = n) (wp : ∀ xs ∈ pt, xs.length = n) : ∀ t, ∀ xs ∈ kry mv pt t, xs.length = n := by
 intro t
 induction t with
 | zero => intro xs hx; cases hx
 | succ t ih =>
  intro xs hx
  rcases List.mem_append.mp hx with hx | hx
  ·exact wp xs hx
  ·obtain ⟨y, _, rfl⟩ := List.mem_map.mp hx
   rw [on_len, lm]
theorem kry_step (lm : mv.length = n) (wm : ∀ xs ∈ mv, xs.length = n) (wp : ∀ xs ∈ pt, xs.length = n) (RR : RrefL (kry mv pt t) n R ps) (RR' : RrefL (pt ++ R.map (onQ mv)) n R' ps') : RrefL (kry mv pt (t + 1)) n R' ps' := by
 have wk := kry_wide (mv := mv) lm wp t
 refine ⟨RR'.1, RR'.2.1, RR'.2.2.other ?_ ?_⟩
 ·refine spn_app (fun i hi => spn_left hi) fun i hi => spn_right ?_
  rw [List.length_map] at hi
  exact spn_on lm wm RR.2.1 wk hi (RR.2.2.back i (by rw [<- RR.1]; exact hi))
 ·refine spn_app (fun i hi => spn_left hi) fun i hi => spn_right ?_
  rw [List.length_map] at hi
  have := RR.2.2.span i hi
  rw [<- RR.1] at this
  exact spn_on lm wm wk RR.2.1 hi this
theorem kry_mono (lm : mv.length = n) (wm : ∀ xs ∈ mv, xs.length = n) (wp : ∀ xs ∈ pt, xs.length = n) : ∀ t i, i < (kry mv pt t).length -> Spn (kry mv pt (t + 1)).length (fnQ (kry mv pt (t + 1))) (fnQ (kry mv pt t) i) := by
 intro t
 induction t with
 | zero => intro i hi; cases hi
 | succ t ih =>
  refine spn_app (fun i hi => spn_left hi) fun i hi => spn_right ?_
  rw [List.length_map] at hi
  exact spn_on lm wm (kry_wide lm wp t) (kry_wide lm wp (t + 1)) hi (ih i hi)
theorem kry_within (lm : mv.length = n) (wm : ∀ xs ∈ mv, xs.length = n) (wp : ∀ xs ∈ pt, xs.length = n) (RR : RrefL (kry mv pt t) n R ps) (RR' : RrefL (kry mv pt (t + 1)) n R' ps') : ∀ i, i < ps.length -> Spn ps'.length (fnQ R') (fnQ R i) := fun i hi =>
 Spn.trans (fun s hs => RR'.2.2.span s hs) (Spn.trans (kry_mono lm wm wp t) (RR.2.2.back i hi))
theorem kry_stand (lm : mv.length = n) (wm : ∀ xs ∈ mv, xs.length = n) (wp : ∀ xs ∈ pt, xs.length = n) (RR : RrefL (kry mv pt t) n R ps) (RR' : RrefL (pt ++ R.map (onQ mv)) n R' ps') (hl : ps'.length = ps.length) : ∀ s, RrefL (kry mv pt (t + s)) n R ps := by
 have K1 := kry_step lm wm wp RR RR'
 obtain ⟨e1, e2⟩ := rr_within RR K1 hl.symm (kry_within lm wm wp RR K1)
 subst e1 e2
 intro s
 induction s with
 | zero => exact RR
 | succ s ih => exact kry_step lm wm wp ih RR'
theorem kry_grow (lm : mv.length = n) (wm : ∀ xs ∈ mv, xs.length = n) (wp : ∀ xs ∈ pt, xs.length = n) (RR : RrefL (kry mv pt t) n R ps) (RR' : RrefL (kry mv pt (t + 1)) n R' ps') : ps.length <= ps'.length := by
 have h := kry_within lm wm wp RR RR'
 have hs : ∀ i, i < ps.length -> ∃ j, j < ps'.length /\ ps'.getD j 0 = ps.getD i 0 := fun i hi => by
  have u := RR.2.2.unit i hi i hi
  rw [if_pos rfl] at u
  exact RR'.2.2.lead_in (h i hi) (c := ps.getD i 0) (by rw [u]; decide) (fun c hc => RR.2.2.lead i hi c hc)
 rcases Nat.lt_or_ge ps'.length ps.length with z | z
 ·exfalso
  have key : ∀ i, i < ps.length -> ∀ j, j < ps'.length -> ps'.getD j 0 = ps.getD i 0 -> i <= j := by
   intro i
   induction i with
   | zero => intro _ j _ _; exact Nat.zero_le _
   | succ i ih =>
    intro hi j hj e
    obtain ⟨j', hj', e'⟩ := hs i (by omega)
    have h1 := ih (by omega) j' hj' e'
    have h2 := RR.2.2.inc i (i + 1) (by omega) hi
    rcases Nat.lt_or_ge j' j with y | y
    ·omega
    ·rcases Nat.lt_or_ge j j' with x | x
     ·have := RR'.2.2.inc j j' x hj'
      omega
     ·have : j = j' := by omega
      rw [this] at e
      omega
  obtain ⟨j, hj, e⟩ := hs (ps.length - 1) (by omega)
  have := key (ps.length - 1) (by omega) j hj e
  omega
 ·exact z
theorem kry_fr {M V c : Nat} (lm : mv.length = n) (wm : ∀ xs ∈ mv, xs.length = n) (wp : ∀ xs ∈ pt, xs.length = n) (hc : (n + 1) * V <= 2 ^ c) (fm : GF M V mv) (fp : GF M V pt) : ∀ t, ∀ xs ∈ kry mv pt t, ∀ x ∈ xs, Fr (M ^ t) (2 ^ (c * t)) x := by
 intro t
 induction t with
 | zero => intro xs hx; cases hx
 | succ t ih =>
  intro xs hx x hx'
  have hV : V <= 2 ^ c := Nat.le_trans (Nat.le_mul_of_pos_left _ (by omega)) hc
  rcases List.mem_append.mp hx with hx | hx
  ·refine Fr.up (fp xs hx x hx') (by rw [Nat.pow_succ]; exact Nat.dvd_mul_left _ _) (Nat.le_trans hV (Nat.pow_le_pow_right (by decide) (Nat.le_mul_of_pos_right _ (by omega))))
  ·obtain ⟨y, hy, rfl⟩ := List.mem_map.mp hx
   unfold onQ at hx'
   obtain ⟨r, hr, rfl⟩ := List.mem_map.mp hx'
   have wr := wm r hr
   have wy := kry_wide (mv := mv) lm wp t y hy
   have f := dot_frS (by omega) (fm r hr) (ih y hy)
   rw [Nat.pow_succ, Nat.mul_comm (M ^ t)]
   refine f.mono ?_
   rw [Nat.mul_add, Nat.mul_one, Nat.pow_add, Nat.mul_comm (2 ^ (c * t)), <- Nat.mul_assoc, wr]
   exact Nat.mul_le_mul_right _ (Nat.le_trans (Nat.mul_le_mul_right _ (by omega)) hc)
def KFit (mv pt : List (List Rat)) (a c : Nat) : Prop := ∃ M V : Nat, 0 < M /\ M <= 2 ^ a /\ (mv.length + 1) * V <= 2 ^ c /\ GF M V mv /\ GF M V pt /\ a <= 400 /\ c <= 40 /\ mv.length * (mv.length * (a + c) + 4) <= 1740 /\ mv.length * (mv.length * (mv.length * (a + c) + 4) + a + c + 4) <= 8900
theorem KFit.swf {a c : Nat} (F : KFit mv pt a c) (D : mv.length <= 8) (wm : ∀ xs ∈ mv, xs.length = mv.length) (wp : ∀ xs ∈ pt, xs.length = mv.length) (ht : t <= mv.length) : SwF (kry mv pt t) mv.length (mv.length * (a + c)) := by
 obtain ⟨M, V, M0, Ma, hV, fm, fp, a3, c3, e14, e89⟩ := F
 have f := kry_fr rfl wm wp hV fm fp t
 have h1 : mv.length * (a + c) <= 8 * 440 := Nat.mul_le_mul D (by omega)
 have hM : M ^ t <= 2 ^ (a * mv.length) := Nat.le_trans (Nat.pow_le_pow_left Ma _) (by rw [<- Nat.pow_mul]; exact Nat.pow_le_pow_right (by decide) (Nat.mul_le_mul_left _ ht))
 have h2 : a * mv.length <= mv.length * (a + c) := by rw [Nat.mul_comm]; exact Nat.mul_le_mul_left _ (by omega)
 have h3 : mv.length = 0 ∨ mv.length * (a + c) <= 1740 := by
  rcases Nat.eq_zero_or_pos mv.length with z | z
  ·exact .inl z
  ·right
   have := Nat.le_mul_of_pos_left (mv.length * (a + c) + 4) z
   omega
 have h4 : mv.length * (a + c) <= 1740 := by
  rcases h3 with z | z
  ·rw [z]; omega
  ·exact z
 refine ⟨M ^ t, 2 ^ (mv.length * (a + c)), Nat.pow_pos M0, Nat.le_trans hM (Nat.pow_le_pow_right (by decide) (by omega)), Nat.one_le_two_pow, Nat.le_refl _, fun xs hx x hx' => Tp.of (f xs hx x hx') ?_, by omega, by omega, ?_⟩
 ·refine Nat.le_trans (Nat.mul_le_mul (Nat.pow_le_pow_right (by decide) (Nat.mul_le_mul_left c ht)) hM) ?_
  rw [<- Nat.pow_add]
  refine Nat.pow_le_pow_right (by decide) ?_
  rw [Nat.mul_comm c, Nat.mul_comm a, <- Nat.mul_add, Nat.add_comm c]
  exact Nat.le_refl _
 ·exact Nat.le_trans (Nat.mul_le_mul_right _ (Nat.min_le_right _ _)) (by omega)
theorem KFit.tp {a c : Nat} (F : KFit mv pt a c) (D : mv.length <= 8) (wm : ∀ xs ∈ mv, xs.length = mv.length) (wp : ∀ xs ∈ pt, xs.length = mv.length) (ht : t <= mv.length) (RR : RrefL (kry mv pt t) mv.length R ps) : ∃ M, 0 < M /\ M <= 2 ^ (mv.length * (mv.length * (a + c) + 4)) /\ ∀ xs ∈ R, ∀ x ∈ xs, Tp M (2 ^ (mv.length * (mv.length * (a + c) + 4))) x := by
 obtain ⟨_, M, h0, h1, h2⟩ := rr_tp (kry_wide rfl wp t) (F.swf D wm wp ht) RR
 have le : 2 ^ (min (kry mv pt t).length mv.length * (mv.length * (a + c) + 4)) <= 2 ^ (mv.length * (mv.length * (a + c) + 4)) := Nat.pow_le_pow_right (by decide) (Nat.mul_le_mul_right _ (Nat.min_le_right _ _))
 exact ⟨M, h0, Nat.le_trans h1 le, fun xs hx x hx' => (h2 xs hx x hx').mono le⟩
theorem KFit.step {a c : Nat} (F : KFit mv pt a c) (D : mv.length <= 8) (wm : ∀ xs ∈ mv, xs.length = mv.length) (wp : ∀ xs ∈ pt, xs.length = mv.length) (ht : t <= mv.length) (RR : RrefL (kry mv pt t) mv.length R ps) : SwF (pt ++ R.map (onQ mv)) mv.length (mv.length * (mv.length * (a + c) + 4) + a + c) := by
 obtain ⟨N, N0, N1, tN⟩ := F.tp D wm wp ht RR
 obtain ⟨M, V, M0, Ma, hV, fm, fp, a3, c3, e14, e89⟩ := F
 generalize mv.length * (mv.length * (a + c) + 4) = e at *
 have V1 : V <= 2 ^ c := Nat.le_trans (Nat.le_mul_of_pos_left _ (by omega)) hV
 have eW : (2 : Nat) ^ (e + a + c) = 2 ^ c * (2 ^ a * 2 ^ e) := by rw [<- Nat.pow_add, <- Nat.pow_add]; congr 1; omega
 refine ⟨N * M, 2 ^ (e + a + c), Nat.mul_pos N0 M0, ?_, Nat.one_le_two_pow, Nat.le_refl _, fun xs hx x hx' => ?_, by omega, by omega, ?_⟩
 ·exact Nat.le_trans (Nat.mul_le_mul N1 Ma) (by rw [<- Nat.pow_add]; exact Nat.pow_le_pow_right (by decide) (by omega))
 ·rcases List.mem_append.mp hx with hx | hx
  ·refine Tp.of ((fp xs hx x hx').scaleL N) ?_
   rw [eW, Nat.mul_comm N]
   exact Nat.mul_le_mul V1 (Nat.mul_le_mul Ma N1)
  ·obtain ⟨y, hy, rfl⟩ := List.mem_map.mp hx
   unfold onQ at hx'
   obtain ⟨r, hr, rfl⟩ := List.mem_map.mp hx'
   have wr := wm r hr
   have wy := RR.2.1 y hy
   rw [dot_sumN (by omega), wr]
   have t1 : ∀ j, Tp M (V * M) (r.getD j 0) := fun j => tp_getD (fun x hx => Tp.of (fm r hr x hx) (Nat.le_refl _)) j
   have t2 : ∀ j, Tp N (2 ^ e) (y.getD j 0) := fun j => tp_getD (tN y hy) j
   have := Tp.sum (k := mv.length) (M := N * M) (W := V * M * 2 ^ e) (f := fun j => r.getD j 0 * y.getD j 0) fun j _ => by
    have := (t1 j).mul (t2 j)
    rwa [Nat.mul_comm M N] at this
   refine this.mono ?_
   rw [eW, Nat.mul_assoc V, <- Nat.mul_assoc mv.length]
   exact Nat.mul_le_mul (Nat.le_trans (Nat.mul_le_mul_right _ (by omega)) hV) (Nat.mul_le_mul_right _ Ma)
 ·exact Nat.le_trans (Nat.mul_le_mul_right _ (Nat.min_le_right _ _)) (by rw [show e + a + c + 4 = e + a + c + 4 from rfl]; exact e89)
theorem KFit.fit {a c : Nat} (F : KFit mv pt a c) (D : mv.length <= 8) (wm : ∀ xs ∈ mv, xs.length = mv.length) (wp : ∀ xs ∈ pt, xs.length = mv.length) (ht : t <= mv.length) (RR : RrefL (kry mv pt t) mv.length R ps) : ∀ xs ∈ mv, ∀ r ∈ R, Fit2 xs r := fun xs hx r hr => by
 obtain ⟨N, N0, N1, tN⟩ := F.tp D wm wp ht RR
 obtain ⟨M, V, M0, Ma, hV, fm, fp, a3, c3, e14, e89⟩ := F
 have V1 : V <= 2 ^ c := Nat.le_trans (Nat.le_mul_of_pos_left _ (by omega)) hV
 have p14 := Nat.pow_le_pow_right (show 0 < 2 by decide) e14
 exact ⟨400, 40, 1740, 1740, ⟨M, V, M0, Nat.le_trans Ma (Nat.pow_le_pow_right (by decide) a3), Nat.le_trans V1 (Nat.pow_le_pow_right (by decide) c3), fm xs hx⟩, ⟨N, 2 ^ 1740, N0, Nat.le_trans N1 p14, Nat.le_refl _, fun x hx => ((tN r hr x hx).mono p14).fr N0⟩, by decide⟩
end
def sp_mrowsQ (K : PySem.W.Frag) (C : Addr) : Sp := fun vs H Q _ => ∃ (x p : Addr) (H0 H1 : Hp) (mv pt lk R : List (List Rat)), vs = [.ref x, .ref p] /\ SysQ K H0 H C x mv pt lk /\ SysD mv pt lk /\ GridQ K H1 H p R /\ R.length <= 100 /\ (∀ r ∈ R, r.length = mv.length) /\ (∀ xs ∈ mv, ∀ r ∈ R, Fit2 xs r) ∧
 ∀ r H', H r = none -> Same H H' -> GridQ K H H' r (R.map (onQ mv)) -> Q (.ref r) H'
structure Grown (mv pt : List (List Rat)) (Rs : List (List (List Rat))) : Prop where
 ne : Rs ≠ []
 rr : ∀ t R, Rs[t]? = some R -> ∃ ps, RrefL (kry mv pt t) mv.length R ps
 up : ∀ t R R', Rs[t]? = some R -> Rs[t + 1]? = some R' -> R.length < R'.length
def GrL (K : PySem.W.Frag) (H0 H : Hp) (l : Addr) (Rs : List (List (List Rat))) : Prop := ∃ us, H l = some (.lst us) /\ Paired (fun R v => ∃ q, v = V.ref q /\ H0 q = none /\ q ≠ l /\ GridQ K H0 H q R) Rs us
def sp_grownQ (K : PySem.W.Frag) (C : Addr) : Sp := fun vs H Q _ => ∃ (x : Addr) (a c st : Nat) (H0 : Hp) (mv pt lk : List (List Rat)), vs = [.ref x, .int st] /\ st <= 1000 /\ SysQ K H0 H C x mv pt lk /\ SysD mv pt lk /\ KFit mv pt a c ∧
 ∀ r Rs H', H r = none -> Same H H' -> GrL K H H' r Rs -> Grown mv pt Rs -> Rs.length <= st + 1 -> (∀ R, Rs.getLast? = some R -> ∀ s, (Rs.length - 1 = st /\ s = st ∨ Rs.length - 1 < st /\ Rs.length - 1 <= s) -> ∃ ps, RrefL (kry mv pt s) mv.length R ps) -> Q (.ref r) H'
def sp_reachQ (K : PySem.W.Frag) (C : Addr) : Sp := fun vs H Q _ => ∃ (x : Addr) (a c st : Nat) (H0 : Hp) (mv pt lk : List (List Rat)), vs = [.ref x, .int st] /\ st <= 1000 /\ SysQ K H0 H C x mv pt lk /\ SysD mv pt lk /\ KFit mv pt a c ∧
 ∀ r R ps H', H r = none -> Same H H' -> GridQ K H H' r R -> RrefL (kry mv pt st) mv.length R ps -> Q (.ref r) H'
end L2
namespace L2
open PySem PySem.Spec PyProof.Rows Nm
section
variable {K : PySem.W.Frag} {H0 H1 H H' : Hp} {p l : Addr} {rows mv pt R R' : List (List Rat)} {Rs : List (List (List Rat))} {t : Nat}
theorem GridQ.weakN (h : GridQ K H0 H p rows) (hn : ∀ q, H0 q = none -> H1 q = none) : GridQ K H1 H p rows := let ⟨xs, g, r, n⟩ := h; ⟨xs, g, Paired.imp' (fun _ _ ⟨q, a, b, c⟩ => ⟨q, a, hn q b, c⟩) r, n⟩
theorem GridQ.updL {ys : List V} {o : HO} (h : GridQ K H0 H p rows) (hl : H l = some (.lst ys)) (nl : H0 l ≠ none) (pl : p ≠ l) : GridQ K H0 (upd H l o) p rows := let ⟨xs, g, r, n⟩ := h; ⟨xs, by rw [upd_ne pl]; exact g, Paired.imp' (fun _ _ z => RowF.updL z hl nl) r, n⟩
theorem rr_nil {n : Nat} : RrefL [] n [] [] := ⟨rfl, (fun _ h => by cases h), (fun _ _ _ h => absurd h (Nat.not_lt_zero _)), (fun _ h => absurd h (Nat.not_lt_zero _)), (fun _ h => absurd h (Nat.not_lt_zero _)), (fun _ h => absurd h (Nat.not_lt_zero _)), (fun _ h => absurd h (Nat.not_lt_zero _)), (fun _ h => absurd h (Nat.not_lt_zero _))⟩
theorem Grown.len (h : Grown mv pt Rs) : ∀ (t : Nat) (R : List (List Rat)), Rs[t]? = some R -> t <= R.length := by
 intro t
 induction t with
 | zero => intro R _; exact Nat.zero_le _
 | succ t ih =>
  intro R e
  have ht := (List.getElem?_eq_some_iff.mp e).1
  have e0 := List.getElem?_eq_getElem (show t < Rs.length by omega)
  have := ih _ e0
  have := h.up t _ R e0 e
  omega
theorem Grown.snoc {ps' : List Nat} (h : Grown mv pt (Rs ++ [R])) (h1 : RrefL (kry mv pt (Rs.length + 1)) mv.length R' ps') (h2 : R.length < R'.length) : Grown mv pt ((Rs ++ [R]) ++ [R']) := by
 have l1 : (Rs ++ [R]).length = Rs.length + 1 := by rw [List.length_append]; rfl
 refine ⟨by simp, fun t S e => ?_, fun t S S' e e' => ?_⟩
 ·rcases Nat.lt_or_ge t (Rs.length + 1) with z | z
  ·rw [List.getElem?_append_left (by omega)] at e
   exact h.rr t S e
  ·have ht := (List.getElem?_eq_some_iff.mp e).1
   rw [List.length_append, List.length_singleton] at ht
   have : t = Rs.length + 1 := by omega
   subst this
   rw [List.getElem?_append_right (by omega), l1, Nat.sub_self] at e
   cases e
   exact ⟨ps', h1⟩
 ·have ht := (List.getElem?_eq_some_iff.mp e').1
  rw [List.length_append, List.length_singleton] at ht
  rw [List.getElem?_append_left (by omega)] at e
  rcases Nat.lt_or_ge (t + 1) (Rs.length + 1) with z | z
  ·rw [List.getElem?_append_left (by omega)] at e'
   exact h.up t S S' e e'
  ·have : t = Rs.length := by omega
   subst this
   rw [List.getElem?_append_right (by omega), l1, Nat.sub_self] at e'
   cases e'
   rw [List.getElem?_append_right (Nat.le_refl _), Nat.sub_self] at e
   cases e
   exact h2
end
end L2
namespace L2
open PySem PySem.Spec PyProof.Rows Nm
def rtN (k t i : Nat) : Nat := if i < k then i else if i = k then t else if i <= t then i - 1 else i
def rtI (k t i : Nat) : Nat := if i < k then i else if i = t then k else if i < t then i + 1 else i
section
variable {k t m i j : Nat}
theorem rt_lt (h : k ≤ t) (ht : t < m) (hi : i < m) : rtN k t i < m := by unfold rtN; split; · exact hi
                                                                          · split; · exact ht
                                                                            · split <;> omega
theorem ri_lt (h : k ≤ t) (ht : t < m) (hi : i < m) : rtI k t i < m := by unfold rtI; split; · exact hi
                                                                          · split; · omega
                                                                            · split <;> omega
theorem rt_ri (h : k <= t) : rtN k t (rtI k t i) = i := by
 by_cases h1 : i < k
 ·rw [show rtI k t i = i by unfold rtI; rw [if_pos h1]]; unfold rtN; rw [if_pos h1]
 ·by_cases h2 : i = t
  ·rw [show rtI k t i = k by unfold rtI; rw [if_neg h1, if_pos h2]]; unfold rtN; rw [if_neg (by omega), if_pos rfl, h2]
  ·by_cases h3 : i < t
   ·rw [show rtI k t i = i + 1 by unfold rtI; rw [if_neg h1, if_neg h2, if_pos h3]]; unfold rtN; rw [if_neg (by omega), if_neg (by omega), if_pos (by omega)]; omega
   ·rw [show rtI k t i = i by unfold rtI; rw [if_neg h1, if_neg h2, if_neg h3]]; unfold rtN; rw [if_neg h1, if_neg (by omega), if_neg (by omega)]
theorem ri_rt (h : k <= t) : rtI k t (rtN k t i) = i := by
 by_cases h1 : i < k
 ·rw [show rtN k t i = i by unfold rtN; rw [if_pos h1]]; unfold rtI; rw [if_pos h1]
 ·by_cases h2 : i = k
  ·rw [show rtN k t i = t by unfold rtN; rw [if_neg h1, if_pos h2]]; unfold rtI; rw [if_neg (by omega), if_pos rfl, h2]
  ·by_cases h3 : i <= t
   ·rw [show rtN k t i = i - 1 by unfold rtN; rw [if_neg h1, if_neg h2, if_pos h3]]; unfold rtI; rw [if_neg (by omega), if_neg (by omega), if_pos (by omega)]; omega
   ·rw [show rtN k t i = i by unfold rtN; rw [if_neg h1, if_neg h2, if_neg h3]]; unfold rtI; rw [if_neg h1, if_neg (by omega), if_neg (by omega)]
theorem rt_low (hi : i < k) : rtN k t i = i := by unfold rtN; rw [if_pos hi]
theorem rt_high (h : k <= t) (hi : k <= i) : k <= rtN k t i := by
 unfold rtN
 rw [if_neg (by omega)]
 split
 ·exact h
 ·split <;> omega
variable {a l : Nat -> Nat -> Rat} {pm p : Nat -> Nat} {d : Rat} {P : Nat}
theorem Bar.rot (B : Bar a m k pm p l d) (h : k <= t) (ht : t < m) : Bar a m k (fun i => pm (rtN k t i)) p (fun i => l (rtN k t i)) d where
 inj i j hi hj e := by
  have := B.inj _ _ (rt_lt h ht hi) (rt_lt h ht hj) e
  rw [<- ri_rt (i := i) h, this, ri_rt h]
 rng i hi := B.rng _ (rt_lt h ht hi)
 km := B.km
 d0 := B.d0
 det := by rw [B.det, rl_congr (f := pm) (g := fun i => pm (rtN k t i)) fun j hj => by rw [rt_low hj]]
 eqs i hi c := by
  have e := B.eqs (rtN k t i) (rt_lt h ht hi) c
  have e1 : sumN k (fun j => a (pm (rtN k t i)) (p j) * l (rtN k t j) c) = sumN k (fun j => a (pm (rtN k t i)) (p j) * l j c) := sumN_congr fun j hj => by rw [rt_low hj]
  rw [e1]
  by_cases hk : i < k
  ·rw [rt_low hk] at e ⊢
   exact e
  ·rw [if_neg hk]
   rw [if_neg (by have := rt_high h (show k <= i by omega); omega)] at e
   exact e
 unit i hi j hj := by
  rw [B.unit _ (rt_lt h ht hi) j hj]
  by_cases hk : i < k
  ·rw [rt_low hk]
  ·have := rt_high h (show k <= i by omega)
   rw [if_neg (by omega), if_neg (by omega)]
theorem Elim.rot (E : Elim a m k P p l d) (h : k <= t) (ht : t < m) : Elim a m k P p (fun i => l (rtN k t i)) d where
 km := E.km
 d0 := E.d0
 unit i hi j hj := by
  rw [E.unit _ (rt_lt h ht hi) j hj]
  by_cases hk : i < k
  ·rw [rt_low hk]
  ·have := rt_high h (show k <= i by omega)
   rw [if_neg (by omega), if_neg (by omega)]
 inc := E.inc
 low := E.low
 zero i h1 h2 c hc := E.zero _ (rt_high h h1) (rt_lt h ht h2) c hc
 lead j hj c hc := by rw [rt_low hj]; exact E.lead j hj c hc
 there i hi := Spn.trans (fun s hs => Spn.congr (fun c => by rw [rt_ri h]) (Spn.row (a := fun i => l (rtN k t i)) (i := rtI k t s) (ri_lt h ht hs))) (E.there i hi)
 back i hi := E.back _ (rt_lt h ht hi)
end
section
variable {rows fs ls : List (List Rat)} {n P w a : Nat} {ps : List Nat}
theorem sw_self {k i : Nat} : swN k k i = i := by unfold swN; split <;> (try split) <;> omega
theorem LwI.rot (h : LwI rows n P (fs ++ ls) ps) (hf : fs.length = ps.length) {t : Nat} (ht : t < ls.length) : LwI rows n P (fs ++ ls.getD t [] :: ls.eraseIdx t) ps := by
 obtain ⟨len, wide, pm, l, d, B, E, v⟩ := h
 rw [List.length_append] at len
 have h1 : ps.length <= ps.length + t := by omega
 have h2 : ps.length + t < rows.length := by omega
 have ef : ∀ i, i < rows.length -> ∀ c, fnQ (fs ++ ls.getD t [] :: ls.eraseIdx t) i c = fnQ (fs ++ ls) (rtN ps.length (ps.length + t) i) c := fun i hi c => by
  by_cases z : i < ps.length
  ·rw [rt_low z, ap_l (by omega), ap_l (by omega)]
  ·obtain ⟨j, rfl⟩ : ∃ j, i = fs.length + j := ⟨i - fs.length, by omega⟩
   rw [ap_r]
   cases j with
   | zero =>
    rw [show rtN ps.length (ps.length + t) (fs.length + 0) = fs.length + t by unfold rtN; rw [if_neg (by omega), if_pos (by omega)]; omega, ap_r]
    rfl
   | succ j =>
    by_cases y : j < t
    ·rw [show rtN ps.length (ps.length + t) (fs.length + (j + 1)) = fs.length + j by unfold rtN; rw [if_neg (by omega), if_neg (by omega), if_pos (by omega)]; omega, ap_r]
     show fnQ (ls.eraseIdx t) j c = _
     unfold fnQ
     rw [List.getD_eq_getElem?_getD (l := ls.eraseIdx t), List.getElem?_eraseIdx_of_lt y, <- List.getD_eq_getElem?_getD]
    ·rw [show rtN ps.length (ps.length + t) (fs.length + (j + 1)) = fs.length + (j + 1) by unfold rtN; rw [if_neg (by omega), if_neg (by omega), if_neg (by omega)], ap_r]
     show fnQ (ls.eraseIdx t) j c = _
     unfold fnQ
     rw [List.getD_eq_getElem?_getD (l := ls.eraseIdx t), List.getElem?_eraseIdx_of_ge (by omega), <- List.getD_eq_getElem?_getD]
 refine ⟨?_, fun xs hx => ?_, fun i => pm (rtN ps.length (ps.length + t) i), fun i => l (rtN ps.length (ps.length + t) i), d, B.rot h1 h2, E.rot h1 h2, fun i hi c => ?_⟩
 ·rw [List.length_append, List.length_cons, List.length_eraseIdx_of_lt ht]; omega
 ·rcases List.mem_append.mp hx with hx | hx
  ·exact wide xs (List.mem_append.mpr (.inl hx))
  ·rcases List.mem_cons.mp hx with rfl | hx
   ·exact wide _ (List.mem_append.mpr (.inr (getD_in ht)))
   ·exact wide xs (List.mem_append.mpr (.inr (List.mem_of_mem_eraseIdx hx)))
 ·rw [ef i hi c, v _ (rt_lt h1 h2 hi) c]
  by_cases z : i < ps.length
  ·dsimp only
   rw [rt_low z]
  ·rw [if_neg z, if_neg (by have := rt_high h1 (show ps.length <= i by omega); omega)]
def hdQ (P : Nat) (h : List Rat) : List Rat := h.map fun y => 1 / h.getD P 0 * y
def lsQ (P : Nat) (u r : List Rat) : List Rat := List.zipWith (fun x y => x - y) r (u.map fun y => r.getD P 0 * y)
theorem LwI.lean (h : LwI rows n P (fs ++ ls) ps) (hf : fs.length = ps.length) {t : Nat} (ht : t < ls.length) (hP : P < n) (hne : (ls.getD t []).getD P 0 ≠ 0) : LwI rows n (P + 1) ((fs.map (lsQ P (hdQ P (ls.getD t [])) ) ++ [hdQ P (ls.getD t [])]) ++ (ls.eraseIdx t).map (lsQ P (hdQ P (ls.getD t [])))) (ps ++ [P]) := by
 have R := h.rot hf ht
 have len := R.len
 have wide := R.wide
 generalize ls.getD t [] = hd at *
 generalize ls.eraseIdx t = l2 at *
 rw [List.length_append, List.length_cons] at len
 have whd : hd.length = n := wide _ (List.mem_append.mpr (.inr (.head _)))
 have wu : (hdQ P hd).length = n := by unfold hdQ; rw [List.length_map]; exact whd
 have ek : fnQ (fs ++ hd :: l2) ps.length = fun c => hd.getD c 0 := by
  have := ap_r (X := fs) (Y := hd :: l2) (i := 0)
  rw [show fs.length + 0 = ps.length by omega] at this
  rw [this]
  rfl
 have wl : ∀ r, r.length = n -> (lsQ P (hdQ P hd) r).length = n := fun r hr => by unfold lsQ; rw [List.length_zipWith, List.length_map, wu, hr]; omega
 have vl : ∀ r, r.length = n -> ∀ c, (lsQ P (hdQ P hd) r).getD c 0 = r.getD c 0 - r.getD P 0 * (1 / hd.getD P 0 * hd.getD c 0) := fun r hr c => by
  unfold lsQ
  rw [gd_zip (by rw [List.length_map, wu, hr]), gd_by]
  unfold hdQ
  rw [gd_by]
 refine R.step (t := ps.length) (Nat.le_refl _) (by rw [List.length_append, List.length_cons]; omega) (by rw [ek]; exact hne) ?_ ?_ fun i hi c => ?_
 ·rw [List.length_append, List.length_append, List.length_map, List.length_map, List.length_singleton]; omega
 ·intro xs hx
  rcases List.mem_append.mp hx with hx | hx
  ·rcases List.mem_append.mp hx with hx | hx
   ·obtain ⟨r, hr, rfl⟩ := List.mem_map.mp hx
    exact wl r (wide r (List.mem_append.mpr (.inl hr)))
   ·rw [List.mem_singleton.mp hx]; exact wu
  ·obtain ⟨r, hr, rfl⟩ := List.mem_map.mp hx
   exact wl r (wide r (List.mem_append.mpr (.inr (.tail _ hr))))
 ·rw [sw_self, ek]
  dsimp only
  have lf : (fs.map (lsQ P (hdQ P hd))).length = ps.length := by rw [List.length_map]; exact hf
  have key : ∀ {X : List (List Rat)} {s : Nat} (hs : s < X.length) (_ : ∀ r ∈ X, r.length = n), fnQ (X.map (lsQ P (hdQ P hd))) s c = fnQ X s c - fnQ X s P * (1 / hd.getD P 0 * hd.getD c 0) := fun {X s} hs hX => by
   unfold fnQ
   have e1 : (X.map (lsQ P (hdQ P hd))).getD s [] = lsQ P (hdQ P hd) X[s] := by rw [List.getD_eq_getElem?_getD, List.getElem?_map, List.getElem?_eq_getElem hs]; rfl
   have e2 : X.getD s [] = X[s] := by rw [List.getD_eq_getElem?_getD, List.getElem?_eq_getElem hs]; rfl
   rw [e1, e2]
   exact vl _ (hX _ (List.getElem_mem hs)) c
  rcases Nat.lt_trichotomy i ps.length with z | z | z
  ·rw [if_neg (by omega), List.append_assoc, ap_l (by omega), ap_l (by omega), key (by omega) fun r hr => wide r (List.mem_append.mpr (.inl hr))]
  ·rw [if_pos z, List.append_assoc, show i = (fs.map (lsQ P (hdQ P hd))).length + 0 by omega, ap_r]
   show (hdQ P hd).getD c 0 = _
   unfold hdQ
   rw [gd_by]
  ·rw [if_neg (by omega)]
   obtain ⟨j, rfl⟩ : ∃ j, i = ps.length + 1 + j := ⟨i - ps.length - 1, by omega⟩
   have e1 : fnQ (fs ++ hd :: l2) (ps.length + 1 + j) = fnQ l2 j := by
    have := ap_r (X := fs) (Y := hd :: l2) (i := j + 1)
    rw [show fs.length + (j + 1) = ps.length + 1 + j by omega] at this
    rw [this]
    rfl
   have e2 : fnQ ((fs.map (lsQ P (hdQ P hd)) ++ [hdQ P hd]) ++ l2.map (lsQ P (hdQ P hd))) (ps.length + 1 + j) = fnQ (l2.map (lsQ P (hdQ P hd))) j := by
    have := ap_r (X := fs.map (lsQ P (hdQ P hd)) ++ [hdQ P hd]) (Y := l2.map (lsQ P (hdQ P hd))) (i := j)
    rw [List.length_append, lf, List.length_singleton] at this
    exact this
   rw [e1, e2, key (by omega) fun r hr => wide r (List.mem_append.mpr (.inr (.tail _ hr)))]
end
end L2
namespace L2
open PySem PySem.Spec PyProof.Rows Nm
theorem paired_erase {α β : Type} {F : α -> β -> Prop} : ∀ {l1 : List α} {l2 : List β} (_ : Paired F l1 l2) (i : Nat), Paired F (l1.eraseIdx i) (l2.eraseIdx i)
 | _, _, .nil, _ => .nil
 | _, _, .cons _ r, 0 => r
 | _, _, .cons h r, i + 1 => .cons h (paired_erase r i)
theorem nz_mem {xs : List Rat} {i c : Nat} : c ∈ nzN xs i ↔ c < i /\ xs.getD c 0 ≠ 0 := by
 unfold nzN
 rw [List.mem_filter, List.mem_range]
 simp
theorem GridQ.toE {K : PySem.W.Frag} {H0 H : Hp} {l : Addr} {rows : List (List Rat)} (h : GridQ K H0 H l rows) : ∃ us, H l = some (.lst us) /\ Paired (RowE K (fun q => H0 q = none /\ q ≠ l) H) rows us := by
 obtain ⟨us, g, pr, nn⟩ := h
 exact ⟨us, g, paired_impM (fun xs v hv ⟨q, e, a, b⟩ => ⟨q, e, ⟨a, fun z => nn (by rw [<- z, <- e]; exact hv)⟩, b⟩) pr⟩
end L2
namespace L2
open PySem PySem.Spec PyProof.Rows Nm
theorem nodup_set {α : Type} {v : α} : ∀ {l : List α}, l.Nodup -> v ∉ l -> ∀ j, (l.set j v).Nodup
 | [], _, _, _ => List.nodup_nil
 | a :: l, h, hn, 0 => by
  rw [List.nodup_cons] at h
  rw [List.set_cons_zero, List.nodup_cons]
  exact ⟨fun z => hn (.tail _ z), h.2⟩
 | a :: l, h, hn, j + 1 => by
  rw [List.nodup_cons] at h
  rw [List.set_cons_succ, List.nodup_cons]
  refine ⟨fun z => ?_, nodup_set h.2 (fun z => hn (.tail _ z)) j⟩
  rcases List.mem_or_eq_of_mem_set z with z | z
  ·exact h.1 z
  ·exact hn (by rw [z]; exact .head _)
structure MixV (K : PySem.W.Frag) (A : Addr -> Prop) (H : Hp) (n : Nat) (C : V -> Rat -> Prop) (m p l b q0 : Addr) (us ws vs : List V) : Prop where
 bag : Bag H b
 inn : Inner H b q0
 gm : H m = some (.lst us)
 gp : H p = some (.lst ws)
 gl : H l = some (.lst vs)
 lm : us.length = n
 row : ∀ x ∈ us ++ vs ++ ws, RowP K A H n (C x) x
 nd : (us ++ vs ++ ws).Nodup
section
variable {K : PySem.W.Frag} {A : Addr -> Prop} {H H' : Hp} {n : Nat} {C C' : V -> Rat -> Prop} {m p l b q0 q : Addr} {us ws vs zs : List V} {y : Rat} {v : V}
theorem MixV.same (h : MixV K A H n C m p l b q0 us ws vs) (e : Same H H') : MixV K A H' n C m p l b q0 us ws vs :=
 ⟨h.bag.same e, (e.upto (p := b)).2 _ h.inn, e _ _ h.gm, e _ _ h.gp, e _ _ h.gl, h.lm, fun x hx => (h.row x hx).same e, h.nd⟩
theorem MixV.upto (h : MixV K A H n C m p l b q0 us ws vs) (M : MixA A m p l b q0) (u : Upto b H H') (B' : Bag H' b) : MixV K A H' n C m p l b q0 us ws vs :=
 ⟨B', u.2 _ h.inn, u.other M.mb h.gm, u.other M.pb h.gp, u.other M.lb h.gl, h.lm, fun x hx => (h.row x hx).upto u h.bag M.ab, h.nd⟩
theorem MixV.weak (h : MixV K A H n C m p l b q0 us ws vs) (w : ∀ x ∈ us ++ vs ++ ws, ∀ y, C x y -> C' x y) : MixV K A H n C' m p l b q0 us ws vs :=
 ⟨h.bag, h.inn, h.gm, h.gp, h.gl, h.lm, fun x hx => (h.row x hx).weak (fun _ z => z) (w x hx), h.nd⟩
theorem MixV.put (h : MixV K A H n C m p l b q0 us ws vs) (M : MixA A m p l b q0) (aq : A q) (hq : H q = some (.lst zs)) (hv : NumQ K H y v) (hc : C (.ref q) y) (j : Nat) : MixV K A (upd H q (.lst (zs.set j v))) n C m p l b q0 us ws vs := by
 have ne : ∀ {z}, ¬ A z -> z ≠ q := fun h e => h (by rw [e]; exact aq)
 refine ⟨h.bag.upd h.inn (ne M.ab).symm (ne M.aq).symm, h.inn.upd (ne M.ab).symm, by rw [upd_ne (ne M.am)]; exact h.gm, by rw [upd_ne (ne M.ap)]; exact h.gp, by rw [upd_ne (ne M.al)]; exact h.gl, h.lm, fun x hx => ?_, h.nd⟩
 by_cases e : x = .ref q
 ·subst e
  exact (h.row _ hx).put hq hv hc j
 ·obtain ⟨q1, qs, rfl, a1, r1, l1, c1⟩ := h.row x hx
  exact ⟨q1, qs, rfl, a1, r1.updL hq (fun z => e (by rw [z])), l1, c1⟩
theorem MixV.set (h : MixV K A H n C m p l b q0 us ws vs) (M : MixA A m p l b q0) (hx : RowP K A H n (C v) v) (hn : v ∉ us ++ vs ++ ws) (j : Nat) : MixV K A (upd H m (.lst (us.set j v))) n C m p l b q0 (us.set j v) ws vs := by
 have mem : ∀ x ∈ us.set j v ++ vs ++ ws, x = v ∨ x ∈ us ++ vs ++ ws := fun x hx => by
  rcases List.mem_append.mp hx with hx | hx
  ·rcases List.mem_append.mp hx with hx | hx
   ·rcases List.mem_or_eq_of_mem_set hx with hx | hx
    ·exact .inr (by simp [hx])
    ·exact .inl hx
   ·exact .inr (by simp [hx])
  ·exact .inr (by simp [hx])
 refine ⟨h.bag.upd h.inn M.mb M.mq, h.inn.upd M.mb, upd_same, by rw [upd_ne M.mp.symm]; exact h.gp, by rw [upd_ne M.ml.symm]; exact h.gl, by rw [List.length_set]; exact h.lm, fun x hx' => ?_, ?_⟩
 ·rcases mem x hx' with rfl | hx'
  ·exact hx.other h.gm M.am
  ·exact (h.row x hx').other h.gm M.am
 ·have nd := h.nd
  rw [List.append_assoc] at nd hn ⊢
  obtain ⟨n1, n2, n3⟩ := List.nodup_append.mp nd
  refine List.nodup_append.mpr ⟨?_, n2, fun a ha c hc => ?_⟩
  ·rcases Nat.lt_or_ge j us.length with z | z
   ·exact nodup_set n1 (fun z' => hn (List.mem_append.mpr (.inl z'))) j
   ·rw [List.set_eq_of_length_le z]; exact n1
  ·rcases List.mem_or_eq_of_mem_set ha with ha | rfl
   ·exact n3 a ha c hc
   ·exact fun z => hn (List.mem_append.mpr (.inr (by rw [z]; exact hc)))
end
theorem fr9_szn {M W : Nat} {x : Rat} (h0 : 0 < M) (h1 : M <= 2 ^ 800) (hW : W <= 2 ^ 140) (h : Fr M W x) : SzN x :=
 fr_szn h0 (Nat.le_trans h1 (Nat.pow_le_pow_right (by decide) (by decide))) (Nat.le_trans hW (Nat.pow_le_pow_right (by decide) (by decide))) h
theorem pow9_le {t V c : Nat} (ht : t <= 3) (hV : V <= 2 ^ 20) (hc : c <= 9) : c * (9 ^ t * V) <= 2 ^ 140 := by
 have h1 : 9 ^ t <= 9 ^ 3 := Nat.pow_le_pow_right (by decide) ht
 have h2 : c * (9 ^ t * V) <= 9 * (9 ^ 3 * 2 ^ 20) := Nat.mul_le_mul hc (Nat.mul_le_mul h1 hV)
 exact Nat.le_trans h2 (Nat.le_trans (show 9 * (9 ^ 3 * 2 ^ 20) <= 2 ^ 40 by decide) (Nat.pow_le_pow_right (by decide) (by decide)))
def sp_mixedN (K : PySem.W.Frag) : Sp := fun xs H Q _ => ∃ (b m p l q0 : Addr) (n M V1 : Nat) (A : Addr -> Prop) (us ws vs : List V), xs = [.ref b, .ref m, .ref p, .ref l] /\ MixA A m p l b q0 /\ MixV K A H n (fun _ => Fr M V1) m p l b q0 us ws vs /\ n <= 8 /\ ws.length <= 4 /\ vs.length <= 4 /\ 0 < M /\ M <= 2 ^ 800 /\ V1 <= 2 ^ 20 /\ (∀ q, H q = none -> A q) ∧
 ∀ r us' H', H' r = some (.tup [.ref m, .ref p, .ref l]) -> MixV K A H' n (fun _ => Fr M (9 ^ 3 * V1)) m p l b q0 us' ws vs -> KeepC A b m H H' -> Q (.ref r) H'
end L2
namespace L2
open PySem PySem.Spec PyProof.Rows Nm
theorem nodup_snoc {α : Type} {l : List α} {v : α} (h : l.Nodup) (hn : v ∉ l) : (l ++ [v]).Nodup := List.nodup_append.mpr ⟨h, by simp, fun a ha c hc => by rw [List.mem_singleton.mp hc]; exact fun z => hn (by rw [<- z]; exact ha)⟩
section
variable {K : PySem.W.Frag} {a : Addr} {xs : List V} {g : TG} {tf : TT} {te : TE} {Q : VK} {σ₀ : St} {H : Hp} {α β : Type}
theorem comp_bagN {n : Nat} {b : Addr} (G : Hp -> β -> V -> Prop) (C : β -> Prop) (hB : Bag H b) (hl : n <= 1000) (hG : ∀ {H' H'' c x}, G H' c x -> Upto b H' H'' -> Bag H' b -> G H'' c x)
  (hA : ∀ {H' c x}, G H' c x -> ∃ q, x = V.ref q /\ H' q ≠ none)
  (hs : ∀ (i : Nat) H' NY NN, i < n -> Upto b H H' -> Bag H' b -> (∀ y c H2, Upto b H' H2 -> Bag H2 b -> C c -> G H2 c y -> (∃ q, y = V.ref q /\ H' q = none) -> NY y H2) -> tTurn σ₀ g tf te (.int i) H' NY NN)
  (hd : ∀ ys cs H' p, H p = none -> Upto b H H' -> Bag H' b -> H' p = some (.lst ys) -> cs.length = n -> ys.Nodup -> (∀ c ∈ cs, C c) -> Paired (G H') cs ys -> (∃ H2, H2 p = none /\ Paired (G H2) cs ys) -> Q (.ref p) H') : CompW (Itr 0 n) σ₀ g tf te Q H := by
 refine comp_range (fun i ys H' => Upto b H H' /\ Bag H' b /\ ∃ cs, cs.length = i /\ ys.Nodup /\ (∀ c ∈ cs, C c) /\ Paired (G H') cs ys) (Nat.le_of_lt (small1000 (by omega))) ⟨(Same.refl _).upto, hB, [], rfl, List.nodup_nil, (fun _ z => nomatch z), .nil⟩ ?_ ?_
 ·rintro i ys H' hi hlen ⟨u, B, cs, lc, nd, hc, pr⟩
  rw [Int.zero_add]
  refine hs i H' _ _ hi u B fun y c H2 u2 B2 cc gy ⟨q, ey, nq⟩ => ⟨u.trans u2, B2, cs ++ [c], by simp [lc], nodup_snoc nd (fun z => by obtain ⟨c', _, gc⟩ := paired_mem pr z; obtain ⟨q', e', h'⟩ := hA gc; rw [ey] at e'; cases e'; exact h' nq), app_all hc cc, paired_app (Paired.imp' (fun _ _ z => hG z u2 B) pr) (.cons gy .nil)⟩
 ·rintro ys H' hy ⟨u, B, cs, lc, nd, hc, pr⟩ p hp
  have s : Same H' (upd H' p (.lst ys)) := Same.new hp
  exact hd ys cs _ p (u.none B hp) (u.same s) (B.same s) upd_same lc nd hc (Paired.imp' (fun _ _ z => hG z s.upto B) pr) ⟨H', hp, pr⟩
end
theorem MixV.fr {K : PySem.W.Frag} {A : Addr -> Prop} {H : Hp} {n c : Nat} {m p l b q0 : Addr} {us ws vs : List V} (h : MixV K A H n (fun _ => Dr (2 ^ c)) m p l b q0 us ws vs) : ∃ M, 0 < M /\ M <= 2 ^ (c * ((n + ws.length + vs.length) * n)) /\ MixV K A H n (fun _ => Fr M (2 ^ c)) m p l b q0 us ws vs := by
 obtain ⟨ra, pa, la, ha⟩ := rowsP_pick h.row
 obtain ⟨M, m0, m1, m2⟩ := rows_fr (c := c) (n := n) (rows := ra) ha
 refine ⟨M, m0, ?_, h.bag, h.inn, h.gm, h.gp, h.gl, h.lm, rowsP_back pa fun qs hq => ⟨(ha qs hq).1, m2 qs hq⟩, h.nd⟩
 rw [la, List.length_append, List.length_append, h.lm] at m1
 rw [show n + ws.length + vs.length = n + vs.length + ws.length by omega]
 exact m1
structure PtN (K : PySem.W.Frag) (A : Addr -> Prop) (n : Nat) (C : Rat -> Prop) (m p l b q0 : Addr) (us ws vs : List V) (H0 H : Hp) : Prop where
 mix : MixV K A H n (fun _ => C) m p l b q0 us ws vs
 gp : H p = some (.lst ws)
 gl : H l = some (.lst vs)
 kp : KeepC A b m H0 H
section
variable {K : PySem.W.Frag} {A : Addr -> Prop} {n : Nat} {C : Rat -> Prop} {m p l b q0 q : Addr} {us ws vs : List V} {H0 H H' : Hp} {y : Rat} {v : V}
theorem PtN.same (h : PtN K A n C m p l b q0 us ws vs H0 H) (e : Same H H') : PtN K A n C m p l b q0 us ws vs H0 H' := ⟨h.mix.same e, e _ _ h.gp, e _ _ h.gl, h.kp.same e⟩
theorem PtN.upto (h : PtN K A n C m p l b q0 us ws vs H0 H) (M : MixA A m p l b q0) (u : Upto b H H') (B : Bag H' b) : PtN K A n C m p l b q0 us ws vs H0 H' := ⟨h.mix.upto M u B, u.other M.pb h.gp, u.other M.lb h.gl, h.kp.upto u⟩
theorem PtN.row (h : PtN K A n C m p l b q0 us ws vs H0 H) {x : V} (hx : x ∈ ws ∨ x ∈ vs) : RowP K A H n C x := h.mix.row x (by rcases hx with hx | hx <;> simp [hx])
theorem PtN.put (h : PtN K A n C m p l b q0 us ws vs H0 H) (M : MixA A m p l b q0) (hx : V.ref q ∈ ws ∨ V.ref q ∈ vs) (hv : NumQ K H y v) (hc : C y) (j : Nat) : ∃ zs, H q = some (.lst zs) /\ zs.length = n /\ PtN K A n C m p l b q0 us ws vs H0 (upd H q (.lst (zs.set j v))) := by
 obtain ⟨q', zs, qs, e, a, g, lz, _⟩ := (h.row hx).at
 cases e
 have ne : ∀ {z}, ¬ A z -> z ≠ q := fun h e => h (by rw [e]; exact a)
 exact ⟨zs, g, lz, h.mix.put M a g hv hc j, by rw [upd_ne (ne M.ap)]; exact h.gp, by rw [upd_ne (ne M.al)]; exact h.gl, h.kp.upd (.inl a)⟩
end
def sp_moveN (K : PySem.W.Frag) : Sp := fun vs H Q _ => ∃ (b : Addr) (n w : Nat) (way first : Int), vs = [.ref b, .int n, .int way, .int first, .int w] /\ Bag H b /\ n <= 8 /\ 1 <= w /\ w <= 1000000 ∧
 ∀ r us H', H r = none -> H' r = some (.lst us) -> us.length = n -> us.Nodup -> (∀ x ∈ us, RowP K (fun q => H q = none /\ q ≠ r) H' n (Dr (max w 6)) x) -> Bag H' b -> Upto b H H' -> Q (.ref r) H'
def PtF (n i o w c : Nat) (mv pt lk : List (List Rat)) : Prop := ∃ M V1 : Nat, 0 < M /\ GF M V1 mv /\ GF M V1 pt /\ GF M V1 lk /\ ((w <= 9 /\ M = 2520 /\ V1 = 9 ^ 3 * 9) ∨ (9 < w /\ M <= 2 ^ (c * ((n + i + o) * n)) /\ V1 = 9 ^ 3 * 2 ^ c))
def sp_partsN (K : PySem.W.Frag) : Sp := fun vs H Q _ => ∃ (b : Addr) (n i o w c : Nat), vs = [.ref b, .int n, .int i, .int o, .int w] /\ Bag H b /\ n <= 8 /\ i <= 4 /\ o <= 4 /\ 1 <= w /\ w <= 1000000 /\ max w 6 <= 2 ^ c /\ c <= 20 /\ c * ((n + i + o) * n) <= 800 ∧
 ∀ r mv pt lk H', PartsQ K H H' r mv pt lk -> mv.length = n -> pt.length = i -> lk.length = o -> SysD mv pt lk -> PtF n i o w c mv pt lk -> Bag H' b -> Upto b H H' -> Q (.ref r) H'
end L2
namespace L2
open PySem PySem.Spec PyProof.Rows Nm
def sp_lineN (K : PySem.W.Frag) : Sp := fun vs H Q _ => ∃ (b : Addr) (n : Nat), vs = [.ref b, .int n] /\ Bag H b /\ 1 <= n /\ n <= 8 ∧
 ∀ r mv pt lk H', PartsQ K H H' r mv pt lk -> mv.length = n -> pt.length = 1 -> lk.length = 1 -> SysD mv pt lk -> GF 1 1 mv -> GF 1 1 pt -> GF 1 1 lk -> Bag H' b -> Upto b H H' -> Q (.ref r) H'
end L2
namespace L2
open PySem PySem.Spec PyProof.Rows Nm
theorem kfit_of {mv pt : List (List Rat)} {M V1 a c n0 : Nat} (M0 : 0 < M) (hM : M <= 2 ^ a) (hn : mv.length <= n0) (hV : (n0 + 1) * V1 <= 2 ^ c) (fm : GF M V1 mv) (fp : GF M V1 pt) (h4 : a <= 400 /\ c <= 40 /\ n0 * (n0 * (a + c) + 4) <= 1740 /\ n0 * (n0 * (n0 * (a + c) + 4) + a + c + 4) <= 8900) : KFit mv pt a c := by
 obtain ⟨h1, h2, h3, h5⟩ := h4
 have e1 : mv.length * (a + c) <= n0 * (a + c) := Nat.mul_le_mul_right _ hn
 have e2 : mv.length * (mv.length * (a + c) + 4) <= n0 * (n0 * (a + c) + 4) := Nat.mul_le_mul hn (by omega)
 have e3 : mv.length * (mv.length * (mv.length * (a + c) + 4) + a + c + 4) <= n0 * (n0 * (n0 * (a + c) + 4) + a + c + 4) := Nat.mul_le_mul hn (by omega)
 exact ⟨M, V1, M0, hM, Nat.le_trans (Nat.mul_le_mul_right _ (by omega)) hV, fm, fp, h1, h2, by omega, by omega⟩
def K2F (n a c : Nat) : Prop := 2 * n * (5 + (n - 1) * (a + c)) + 5 * n <= 1995
theorem k2_of {n n0 a c : Nat} (hn : n <= n0) (h : 2 * n0 * (5 + (n0 - 1) * (a + c)) + 5 * n0 <= 1995) : K2F n a c := by
 have e1 : (n - 1) * (a + c) <= (n0 - 1) * (a + c) := Nat.mul_le_mul_right _ (by omega)
 have e2 : 2 * n * (5 + (n - 1) * (a + c)) <= 2 * n0 * (5 + (n0 - 1) * (a + c)) := Nat.mul_le_mul (by omega) (by omega)
 unfold K2F
 omega
def sp_twoN (K : PySem.W.Frag) : Sp := fun vs H Q _ => ∃ b : Addr, vs = [.ref b] /\ Bag H b ∧
 ∀ r mv pt lk H', PartsQ K H H' r mv pt lk -> 6 <= mv.length -> SysD mv pt lk -> GF 1 (9 ^ 3) mv -> GF 1 (9 ^ 3) pt -> GF 1 (9 ^ 3) lk -> Bag H' b -> Upto b H H' -> Q (.ref r) H'
def sp_sysN (K : PySem.W.Frag) : Sp := fun vs H Q _ => ∃ b : Addr, vs = [.ref b] /\ Bag H b ∧
 ∀ t r (w a c : Nat) mv pt lk H', H' t = some (.tup [.ref r, .int w]) -> PartsQ K H H' r mv pt lk -> SysD mv pt lk -> SFits mv pt lk -> KFit mv pt a c -> K2F mv.length a c -> 1 <= w -> w <= 1000 -> Bag H' b -> Upto b H H' -> Q (.ref t) H'
end L2
namespace L2
open PySem PySem.Spec PyProof.Rows Nm
theorem kry_back {mv pt R R' : List (List Rat)} {n t : Nat} {ps ps' : List Nat} (lm : mv.length = n) (wm : ∀ xs ∈ mv, xs.length = n) (wp : ∀ xs ∈ pt, xs.length = n) (RR : RrefL (kry mv pt t) n R ps) (RR' : RrefL (kry mv pt (t + 1)) n R' ps') : RrefL (pt ++ R.map (onQ mv)) n R' ps' := by
 have wk := kry_wide (mv := mv) lm wp t
 refine ⟨RR'.1, RR'.2.1, RR'.2.2.other ?_ ?_⟩
 ·refine spn_app (fun i hi => spn_left hi) fun i hi => spn_right ?_
  rw [List.length_map] at hi
  have := RR.2.2.span i hi
  rw [<- RR.1] at this
  exact spn_on lm wm wk RR.2.1 hi this
 ·refine spn_app (fun i hi => spn_left hi) fun i hi => spn_right ?_
  rw [List.length_map] at hi
  exact spn_on lm wm RR.2.1 wk hi (RR.2.2.back i (by rw [<- RR.1]; exact hi))
end L2
namespace L2
open PySem PySem.Spec PyProof.Rows Nm
theorem dt_ext {rs : List Nat} {v v' : Nat -> Vec} : ∀ {k : Nat} (pre : List Vec), (∀ j, j < k -> ∀ r ∈ rs, v j r = v' j r) -> dtD rs (pre ++ cwN v k) = dtD rs (pre ++ cwN v' k)
 | 0, _, _ => rfl
 | k + 1, pre, h => by
  show dtD rs (pre ++ v k :: cwN v k) = dtD rs (pre ++ v' k :: cwN v' k)
  rw [dt_congr (h k (by omega))]
  have := dt_ext (k := k) (pre ++ [v' k]) fun j hj => h j (by omega)
  simpa using this
theorem lp_re {F G : List Vec -> Rat} {r : Nat} {σ : Nat -> Nat} (hF : ∀ ws : List Vec, F (ws.map fun v i => v (σ i)) = G ws) : ∀ (post pre : List Vec) (s : Rat), lpD F r (pre.map fun v i => v (σ i)) (post.map fun v i => v (σ i)) s = lpD G (σ r) pre post s
 | [], _, _ => rfl
 | v :: post, pre, s => by
  have i1 := hF (pre ++ post)
  have i2 := lp_re (r := r) hF post (pre ++ [v]) (-s)
  simp only [List.map_append, List.map_cons, List.map_nil, lpD] at i1 i2 ⊢
  rw [i1, i2]
theorem dt_re {σ : Nat -> Nat} : ∀ (rs : List Nat) (vs : List Vec), dtD rs (vs.map fun v i => v (σ i)) = dtD (rs.map σ) vs
 | [], [] => rfl
 | [], _ :: _ => rfl
 | r :: rs, vs => lp_re (fun ws => dt_re rs ws) vs [] 1
theorem rl_map {σ : Nat -> Nat} : ∀ {k : Nat}, (rlN (fun i => i) k).map σ = rlN σ k
 | 0 => rfl
 | k + 1 => by show σ k :: _ = _; rw [rl_map]; rfl
theorem cw_map {τ : Vec -> Vec} {v : Nat -> Vec} : ∀ {k : Nat}, (cwN v k).map τ = cwN (fun j => τ (v j)) k
 | 0 => rfl
 | k + 1 => by show τ (v k) :: _ = _; rw [cw_map]; rfl
theorem dt_reN {σ : Nat -> Nat} {v : Nat -> Vec} {k : Nat} : dtD (rlN σ k) (cwN v k) = dtD (rlN (fun i => i) k) (cwN (fun j i => v j (σ i)) k) := by
 rw [<- rl_map, <- dt_re, cw_map]
theorem lp_block {F G : List Vec -> Rat} {r : Nat} {cs : List Vec} {d : Rat} {k : Nat} (hz : ∀ v ∈ cs, v r = 0) (hF : ∀ ws : List Vec, ws.length = k -> F (ws ++ cs) = G ws * d) : ∀ (post pre : List Vec) (s : Rat), (pre ++ post).length = k + 1 -> lpD F r pre (post ++ cs) s = lpD G r pre post s * d
 | [], pre, s, _ => by
  show lpD F r pre cs s = 0 * d
  have : ∀ (cs : List Vec) (pre : List Vec) (s : Rat), (∀ v ∈ cs, v r = 0) -> lpD F r pre cs s = 0 := by
   intro cs
   induction cs with
   | nil => intro _ _ _; rfl
   | cons v cs ih =>
    intro pre s hz
    show s * v r * _ + lpD F r (pre ++ [v]) cs (-s) = 0
    rw [ih _ _ fun w hw => hz w (.tail _ hw), hz v (.head _)]
    grind
  rw [this cs pre s hz]
  grind
 | v :: post, pre, s, hl => by
  have i1 := hF (pre ++ post) (by simp only [List.length_append, List.length_cons] at hl ⊢; omega)
  have i2 := lp_block hz hF post (pre ++ [v]) (-s) (by simp only [List.length_append, List.length_cons, List.length_nil] at hl ⊢; omega)
  simp only [List.cons_append, lpD, List.append_assoc] at i1 i2 ⊢
  rw [i1, i2]
  grind
theorem dt_block {rs1 : List Nat} {cs1 : List Vec} : ∀ (rs2 : List Nat) (cs2 : List Vec), cs2.length = rs2.length -> (∀ r ∈ rs2, ∀ v ∈ cs1, v r = 0) -> dtD (rs2 ++ rs1) (cs2 ++ cs1) = dtD rs2 cs2 * dtD rs1 cs1
 | [], [], _, _ => by show dtD rs1 cs1 = 1 * _; grind
 | r :: rs2, cs2, hl, h => by
  refine lp_block (F := fun ws => dtD (rs2 ++ rs1) ws) (G := fun ws => dtD rs2 ws) (k := rs2.length) (h r (.head _)) (fun ws e => dt_block rs2 ws e fun r' hr' => h r' (.tail _ hr')) cs2 [] 1 ?_
  simpa using hl
theorem dt_frW {N : Nat} {W : Nat → Nat} : ∀ {rs : List Nat} {vs : List Vec}, vs.length ≤ N → (∀ v ∈ vs, ∀ r ∈ rs, Fr 1 (W r) (v r)) → Fr 1 ((rs.map fun r => N * W r).foldr (· * ·) 1) (dtD rs vs)
  | [], [], _, _ => by show Fr 1 1 1; exact (Fr.int (i := 1) (by decide))
  | [], _ :: _, _, _ => by show Fr 1 _ 0; exact Fr.zero
  | r :: rs, vs, hl, h => by
    have := lp_fr (F := fun ws => dtD rs ws) (r := r) (B := (rs.map fun r => N * W r).foldr (· * ·) 1) (W := W r) (post := vs) (pre := []) (s := 1) (fun ws h1 h2 => dt_frW (by rw [List.nil_append] at h2; omega) fun v hv r' hr' => h v (by simpa using h1 v hv) r' (.tail _ hr')) (fun w hw => h w hw r (.head _)) (Fr.int (i := 1) (by decide))
    refine this.mono ?_
    show _ ≤ N * W r * _
    rw [Nat.mul_assoc N]
    exact Nat.mul_le_mul_right _ hl
theorem rl_bound {N : Nat} {W : Nat → Nat} {X Y r : Nat} {pm : Nat → Nat} (h1 : ∀ j, j < r → N * W (pm j) ≤ X) {T : Nat} (h2 : ∀ j, r ≤ j → j < T → N * W (pm j) ≤ Y) : ∀ k, r + k ≤ T → ((rlN pm (r + k)).map fun r => N * W r).foldr (· * ·) 1 ≤ X ^ r * Y ^ k := by
  have base : ∀ s, s ≤ r → ((rlN pm s).map fun r => N * W r).foldr (· * ·) 1 ≤ X ^ s := by
    intro s
    induction s with
    | zero => intro _; exact Nat.le_refl _
    | succ s ih =>
      intro hs
      show N * W (pm s) * _ ≤ _
      rw [Nat.pow_succ, Nat.mul_comm]
      exact Nat.mul_le_mul (ih (by omega)) (h1 s (by omega))
  intro k
  induction k with
  | zero => intro _; rw [Nat.pow_zero, Nat.mul_one]; exact base r (Nat.le_refl _)
  | succ k ih =>
    intro hT
    show N * W (pm (r + k)) * _ ≤ _
    rw [Nat.pow_succ, ← Nat.mul_assoc, Nat.mul_comm]
    exact Nat.mul_le_mul (ih (by omega)) (h2 _ (by omega) (by omega))
end L2
namespace L2
open PySem PySem.Spec PyProof.Rows Nm
structure Vb (r n : Nat) (Pm Y Z : Nat -> Nat -> Rat) (d : Rat) (W : Nat) : Prop where
 d0 : d ≠ 0
 det : d = dtD (rlN (fun i => i) r) (cwN (fun j i => Pm i j) r)
 eq : ∀ i, i < r -> ∀ c, c < n -> Z i c = sumN r fun s => Pm i s * Y s c
 pf : ∀ i, i < r -> ∀ s, s < r -> Fr 1 W (Pm i s)
 zf : ∀ i, i < r -> ∀ c, c < n -> Fr 1 W (Z i c)
def wdA (n r : Nat) (Pm Z B E : Nat -> Nat -> Rat) (i c : Nat) : Rat := if i < r then (if c < n then Z i c else if c < n + r then Pm i (c - n) else 0) else (if c < n then B (i - r) c else if c < n + r then - E (i - r) (c - n) else 0)
def wdP (n r : Nat) (ps : List Nat) (j : Nat) : Nat := if j < r then n + j else ps.getD (j - r) 0
def WdI (rows : List (List Rat)) (n r M : Nat) (a : Nat -> Nat -> Rat) (rs : List (List Rat)) (ps : List Nat) : Prop := rs.length = rows.length /\ (∀ xs ∈ rs, xs.length = n) /\ ∃ pm l d, Bar a (r + rows.length) (r + ps.length) pm (wdP n r ps) l d /\ (∀ j, j < r -> pm j = j) /\ ∀ i, i < rows.length -> ∀ c, c < n -> fnQ rs i c = l (r + i) c / (d * if i < ps.length then 1 else (M : Rat))
section
variable {rows fs ls : List (List Rat)} {n r M W Wv Wb k P : Nat} {Pm Y Z B E a : Nat -> Nat -> Rat} {d : Rat} {ps : List Nat} {rs : List (List Rat)}
theorem WdI.start (hw : ∀ xs ∈ rows, xs.length = n) (V : Vb r n Pm Y Z d W) (M0 : 0 < M) (hX : ∀ i, i < rows.length -> ∀ c, c < n -> (M : Rat) * fnQ rows i c = B i c + sumN r fun s => E i s * Y s c) : WdI rows n r M (wdA n r Pm Z B E) rows [] := by
 have mne : (M : Rat) ≠ 0 := fun z => by
  have : ((M : Int) : Rat) = 0 := by rw [Rat.intCast_natCast]; exact z
  have := cast0 this
  omega
 have d0 := V.d0
 refine ⟨rfl, hw, fun i => i, fun i c => d * (if i < r then (if c < n then Y i c else if c - n = i then (if c < n + r then 1 else 0) else 0) else (if c < n then M * fnQ rows (i - r) c else 0)), d, ?_, fun _ _ => rfl, fun i hi c hc => ?_⟩
 ·refine ⟨fun i j _ _ e => e, fun i hi => hi, Nat.le_add_right _ _, d0, ?_, fun i hi c => ?_, fun i hi j hj => ?_⟩
  ·rw [V.det]
   show _ = dtD (rlN (fun i => i) (r + 0)) (cwN _ (r + 0))
   rw [Nat.add_zero]
   refine dt_ext (pre := []) fun j hj i hi => ?_
   obtain ⟨t, ht, e⟩ := rl_mem hi
   have e : i = t := e
   subst e
   show Pm i j = wdA n r Pm Z B E i (wdP n r [] j)
   unfold wdP wdA
   rw [if_pos hj, if_pos ht, if_neg (by omega), if_pos (by omega), Nat.add_sub_cancel_left]
  ·simp only [List.length_nil, Nat.add_zero]
   have es : ∀ X : Nat -> Rat, (∀ s, s < r -> X s = if i < r then Pm i s else - E (i - r) s) -> sumN r (fun j => wdA n r Pm Z B E i (wdP n r [] j) * (d * (if j < r then (if c < n then Y j c else if c - n = j then (if c < n + r then 1 else 0) else 0) else (if c < n then M * fnQ rows (j - r) c else 0)))) = d * sumN r (fun s => X s * (if c < n then Y s c else if c - n = s then (if c < n + r then 1 else 0) else 0)) := fun X hX => by
    rw [<- sumN_mul]
    refine sumN_congr fun j hj => ?_
    rw [if_pos hj, hX j hj]
    have : wdA n r Pm Z B E i (wdP n r [] j) = if i < r then Pm i j else - E (i - r) j := by
     unfold wdP wdA
     rw [if_pos hj, if_neg (show ¬ n + j < n by omega), if_pos (show n + j < n + r by omega), Nat.add_sub_cancel_left, if_neg (show ¬ n + j < n by omega), if_pos (show n + j < n + r by omega)]
    rw [this]
    grind
   rw [es (fun s => if i < r then Pm i s else - E (i - r) s) fun _ _ => rfl]
   by_cases hi' : i < r
   ·rw [if_pos (c := i < r) hi', Rat.add_zero]
    congr 1
    unfold wdA
    rw [if_pos hi']
    by_cases hc : c < n
    ·rw [if_pos hc, V.eq i hi' c hc]
     exact sumN_congr fun s hs => by rw [if_pos hi', if_pos hc]
    ·rw [if_neg hc]
     by_cases hc2 : c < n + r
     ·rw [if_pos hc2, sumN_one (i := c - n) (by omega) fun s hs ne => by rw [if_neg hc, if_neg (show ¬ c - n = s from fun z => ne z.symm), Rat.mul_zero]]
      rw [if_pos hi', if_neg hc, if_pos rfl, if_pos hc2, Rat.mul_one]
     ·rw [if_neg hc2, sumN_zero fun s hs => by rw [if_neg hc]; split <;> simp [hc2]]
   ·rw [if_neg hi', if_neg hi']
    unfold wdA
    rw [if_neg hi']
    by_cases hc : c < n
    ·rw [if_pos hc, if_pos hc, hX (i - r) (by omega) c hc]
     have : sumN r (fun s => (if i < r then Pm i s else - E (i - r) s) * (if c < n then Y s c else if c - n = s then (if c < n + r then 1 else 0) else 0)) = -1 * sumN r (fun s => E (i - r) s * Y s c) := by
      rw [<- sumN_mul]
      exact sumN_congr fun s hs => by rw [if_neg hi', if_pos hc]; grind
     rw [this]
     grind
    ·rw [if_neg hc, if_neg hc, Rat.mul_zero, Rat.add_zero]
     congr 1
     by_cases hc2 : c < n + r
     ·rw [if_pos hc2, sumN_one (i := c - n) (by omega) fun s hs ne => by rw [if_neg hc, if_neg (show ¬ c - n = s from fun z => ne z.symm), Rat.mul_zero]]
      rw [if_neg hi', if_neg hc, if_pos rfl, if_pos hc2, Rat.mul_one]
     ·rw [if_neg hc2, sumN_zero fun s hs => by rw [if_neg hc]; split <;> simp [hc2]]
  ·have hj : j < r := hj
   unfold wdP
   rw [if_pos hj]
   by_cases hi' : i < r
   ·rw [if_pos hi', if_neg (by omega), Nat.add_sub_cancel_left, if_pos (show n + j < n + r by omega)]
    by_cases e : i = j
    ·rw [if_pos e, if_pos e.symm, Rat.mul_one]
    ·rw [if_neg e, if_neg (Ne.symm e), Rat.mul_zero]
   ·rw [if_neg hi', if_neg (by omega), if_neg (by omega), Rat.mul_zero]
 ·show _ = d * _ / _
  rw [if_neg (by omega), if_pos hc, if_neg (show ¬ i < List.length [] from Nat.not_lt_zero _), Nat.add_sub_cancel_left]
  grind
theorem wdP_snoc {j : Nat} (hj : j < r + ps.length + 1) : wdP n r (ps ++ [P]) j = if j = r + ps.length then P else wdP n r ps j := by
 unfold wdP
 by_cases h : j < r
 ·rw [if_pos h, if_pos h, if_neg (by omega)]
 ·rw [if_neg h, if_neg h, getD_snoc (by omega)]
  by_cases e : j = r + ps.length
  ·rw [if_pos e, if_pos (by omega)]
  ·rw [if_neg e, if_neg (by omega)]
theorem rt_off {r k t i : Nat} : rtN (r + k) (r + t) (r + i) = r + rtN k t i := by
 unfold rtN
 by_cases h1 : i < k
 ·rw [if_pos (by omega), if_pos h1]
 ·rw [if_neg (by omega), if_neg h1]
  by_cases h2 : i = k
  ·rw [if_pos (by omega), if_pos h2]
  ·rw [if_neg (by omega), if_neg h2]
   by_cases h3 : i <= t
   ·rw [if_pos (by omega), if_pos h3]; omega
   ·rw [if_neg (by omega), if_neg h3]
theorem rot_fn (hf : fs.length = ps.length) {t : Nat} (ht : t < ls.length) (i c : Nat) : fnQ (fs ++ ls.getD t [] :: ls.eraseIdx t) i c = fnQ (fs ++ ls) (rtN ps.length (ps.length + t) i) c := by
 by_cases z : i < ps.length
 ·rw [rt_low z, ap_l (by omega), ap_l (by omega)]
 ·obtain ⟨j, rfl⟩ : ∃ j, i = fs.length + j := ⟨i - fs.length, by omega⟩
  rw [ap_r]
  cases j with
  | zero =>
   rw [show rtN ps.length (ps.length + t) (fs.length + 0) = fs.length + t by unfold rtN; rw [if_neg (by omega), if_pos (by omega)]; omega, ap_r]
   rfl
  | succ j =>
   by_cases y : j < t
   ·rw [show rtN ps.length (ps.length + t) (fs.length + (j + 1)) = fs.length + j by unfold rtN; rw [if_neg (by omega), if_neg (by omega), if_pos (by omega)]; omega, ap_r]
    show fnQ (ls.eraseIdx t) j c = _
    unfold fnQ
    rw [List.getD_eq_getElem?_getD (l := ls.eraseIdx t), List.getElem?_eraseIdx_of_lt y, <- List.getD_eq_getElem?_getD]
   ·rw [show rtN ps.length (ps.length + t) (fs.length + (j + 1)) = fs.length + (j + 1) by unfold rtN; rw [if_neg (by omega), if_neg (by omega), if_neg (by omega)], ap_r]
    show fnQ (ls.eraseIdx t) j c = _
    unfold fnQ
    rw [List.getD_eq_getElem?_getD (l := ls.eraseIdx t), List.getElem?_eraseIdx_of_ge (by omega), <- List.getD_eq_getElem?_getD]
theorem WdI.rot (h : WdI rows n r M a (fs ++ ls) ps) (hf : fs.length = ps.length) {t : Nat} (ht : t < ls.length) : WdI rows n r M a (fs ++ ls.getD t [] :: ls.eraseIdx t) ps := by
 obtain ⟨len, wide, pm, l, d, B, hp, v⟩ := h
 rw [List.length_append] at len
 have h1 : r + ps.length <= r + (ps.length + t) := by omega
 have h2 : r + (ps.length + t) < r + rows.length := by omega
 refine ⟨?_, fun xs hx => ?_, fun i => pm (rtN (r + ps.length) (r + (ps.length + t)) i), fun i => l (rtN (r + ps.length) (r + (ps.length + t)) i), d, B.rot h1 h2, fun j hj => by dsimp only; rw [rt_low (by omega), hp j hj], fun i hi c hc => ?_⟩
 ·rw [List.length_append, List.length_cons, List.length_eraseIdx_of_lt ht]; omega
 ·rcases List.mem_append.mp hx with hx | hx
  ·exact wide xs (List.mem_append.mpr (.inl hx))
  ·rcases List.mem_cons.mp hx with rfl | hx
   ·exact wide _ (List.mem_append.mpr (.inr (getD_in ht)))
   ·exact wide xs (List.mem_append.mpr (.inr (List.mem_of_mem_eraseIdx hx)))
 ·rw [rot_fn hf ht, v _ (rt_lt (by omega) (by omega) hi) c hc]
  dsimp only
  rw [rt_off]
  by_cases z : i < ps.length
  ·rw [rt_low z]
  ·rw [if_neg z, if_neg (by have := rt_high (show ps.length <= ps.length + t by omega) (show ps.length <= i by omega); omega)]
theorem WdI.step (h : WdI rows n r M a rs ps) (M0 : 0 < M) (hP : P < n) (hk : ps.length < rows.length) (hne : fnQ rs ps.length P ≠ 0) {rs' : List (List Rat)} (l' : rs'.length = rows.length) (w' : ∀ xs ∈ rs', xs.length = n)
  (hv : ∀ i, i < rows.length -> ∀ c, fnQ rs' i c = if i = ps.length then 1 / fnQ rs ps.length P * fnQ rs ps.length c else fnQ rs i c - fnQ rs i P * (1 / fnQ rs ps.length P * fnQ rs ps.length c)) : WdI rows n r M a rs' (ps ++ [P]) := by
 have mne : (M : Rat) ≠ 0 := fun z => by
  have : ((M : Int) : Rat) = 0 := by rw [Rat.intCast_natCast]; exact z
  have := cast0 this
  omega
 obtain ⟨len, wide, pm, l, d, B, hp, v⟩ := h
 have d0 := B.d0
 have vt : ∀ c, c < n -> fnQ rs ps.length c = l (r + ps.length) c / (d * M) := fun c hc => by
  have := v ps.length hk c hc
  rwa [if_neg (by omega)] at this
 have h1 : l (r + ps.length) P ≠ 0 := fun z => hne (by rw [vt P hP, z]; grind)
 have B2 := B.step (c0 := P) (by omega) h1
 have lp : (ps ++ [P]).length = ps.length + 1 := by rw [List.length_append]; rfl
 refine ⟨l', w', pm, _, _, by rw [lp]; exact B2.congr (l2 := fun i c => if i = r + ps.length then l (r + ps.length) c else (l (r + ps.length) P * l i c - l i P * l (r + ps.length) c) / d) (fun j hj => wdP_snoc (by omega)) (fun _ _ _ => rfl), hp, fun i hi c hc => ?_⟩
 rw [hv i hi c, lp, vt c hc, vt P hP]
 by_cases e : i = ps.length
 ·rw [if_pos e, if_pos (by omega), if_pos (by omega)]
  grind
 ·rw [if_neg e, if_neg (by omega), v i hi c hc, v i hi P hP]
  by_cases z : i < ps.length
  ·rw [if_pos z, if_pos (by omega)]
   grind
  ·rw [if_neg z, if_neg (by omega)]
   grind
theorem lean_vals {hd : List Rat} {l2 : List (List Rat)} (hf : fs.length = ps.length) (wide : ∀ xs ∈ fs ++ hd :: l2, xs.length = n) {m : Nat} (len : fs.length + (l2.length + 1) = m) : let rs' := (fs.map (lsQ P (hdQ P hd)) ++ [hdQ P hd]) ++ l2.map (lsQ P (hdQ P hd)); (fnQ (fs ++ hd :: l2) ps.length = fun c => hd.getD c 0) /\ rs'.length = m /\ (∀ xs ∈ rs', xs.length = n) /\ ∀ i, i < m -> ∀ c, fnQ rs' i c = if i = ps.length then 1 / hd.getD P 0 * hd.getD c 0 else fnQ (fs ++ hd :: l2) i c - fnQ (fs ++ hd :: l2) i P * (1 / hd.getD P 0 * hd.getD c 0) := by
 intro rs'
 have whd : hd.length = n := wide _ (List.mem_append.mpr (.inr (.head _)))
 have wu : (hdQ P hd).length = n := by unfold hdQ; rw [List.length_map]; exact whd
 have ek : fnQ (fs ++ hd :: l2) ps.length = fun c => hd.getD c 0 := by
  have := ap_r (X := fs) (Y := hd :: l2) (i := 0)
  rw [show fs.length + 0 = ps.length by omega] at this
  rw [this]
  rfl
 have wl : ∀ r, r.length = n -> (lsQ P (hdQ P hd) r).length = n := fun r hr => by unfold lsQ; rw [List.length_zipWith, List.length_map, wu, hr]; omega
 have vl : ∀ r, r.length = n -> ∀ c, (lsQ P (hdQ P hd) r).getD c 0 = r.getD c 0 - r.getD P 0 * (1 / hd.getD P 0 * hd.getD c 0) := fun r hr c => by
  unfold lsQ
  rw [gd_zip (by rw [List.length_map, wu, hr]), gd_by]
  unfold hdQ
  rw [gd_by]
 refine ⟨ek, ?_, ?_, fun i hi c => ?_⟩
 ·show ((fs.map (lsQ P (hdQ P hd)) ++ [hdQ P hd]) ++ l2.map (lsQ P (hdQ P hd))).length = m
  rw [List.length_append, List.length_append, List.length_map, List.length_map, List.length_singleton]; omega
 ·intro xs hx
  rcases List.mem_append.mp hx with hx | hx
  ·rcases List.mem_append.mp hx with hx | hx
   ·obtain ⟨r, hr, rfl⟩ := List.mem_map.mp hx
    exact wl r (wide r (List.mem_append.mpr (.inl hr)))
   ·rw [List.mem_singleton.mp hx]; exact wu
  ·obtain ⟨r, hr, rfl⟩ := List.mem_map.mp hx
   exact wl r (wide r (List.mem_append.mpr (.inr (.tail _ hr))))
 ·have lf : (fs.map (lsQ P (hdQ P hd))).length = ps.length := by rw [List.length_map]; exact hf
  have key : ∀ {X : List (List Rat)} {s : Nat} (hs : s < X.length) (_ : ∀ r ∈ X, r.length = n), fnQ (X.map (lsQ P (hdQ P hd))) s c = fnQ X s c - fnQ X s P * (1 / hd.getD P 0 * hd.getD c 0) := fun {X s} hs hX => by
   unfold fnQ
   have e1 : (X.map (lsQ P (hdQ P hd))).getD s [] = lsQ P (hdQ P hd) X[s] := by rw [List.getD_eq_getElem?_getD, List.getElem?_map, List.getElem?_eq_getElem hs]; rfl
   have e2 : X.getD s [] = X[s] := by rw [List.getD_eq_getElem?_getD, List.getElem?_eq_getElem hs]; rfl
   rw [e1, e2]
   exact vl _ (hX _ (List.getElem_mem hs)) c
  show fnQ ((fs.map (lsQ P (hdQ P hd)) ++ [hdQ P hd]) ++ l2.map (lsQ P (hdQ P hd))) i c = _
  rcases Nat.lt_trichotomy i ps.length with z | z | z
  ·rw [if_neg (by omega), List.append_assoc, ap_l (by omega), ap_l (by omega), key (by omega) fun r hr => wide r (List.mem_append.mpr (.inl hr))]
  ·rw [if_pos z, List.append_assoc, show i = (fs.map (lsQ P (hdQ P hd))).length + 0 by omega, ap_r]
   show (hdQ P hd).getD c 0 = _
   unfold hdQ
   rw [gd_by]
  ·rw [if_neg (by omega)]
   obtain ⟨j, rfl⟩ : ∃ j, i = ps.length + 1 + j := ⟨i - ps.length - 1, by omega⟩
   have e1 : fnQ (fs ++ hd :: l2) (ps.length + 1 + j) = fnQ l2 j := by
    have := ap_r (X := fs) (Y := hd :: l2) (i := j + 1)
    rw [show fs.length + (j + 1) = ps.length + 1 + j by omega] at this
    rw [this]
    rfl
   have e2 : fnQ ((fs.map (lsQ P (hdQ P hd)) ++ [hdQ P hd]) ++ l2.map (lsQ P (hdQ P hd))) (ps.length + 1 + j) = fnQ (l2.map (lsQ P (hdQ P hd))) j := by
    have := ap_r (X := fs.map (lsQ P (hdQ P hd)) ++ [hdQ P hd]) (Y := l2.map (lsQ P (hdQ P hd))) (i := j)
    rw [List.length_append, lf, List.length_singleton] at this
    exact this
   rw [e1, e2, key (by omega) fun r hr => wide r (List.mem_append.mpr (.inr (.tail _ hr)))]
theorem WdI.lean (h : WdI rows n r M a (fs ++ ls) ps) (M0 : 0 < M) (hf : fs.length = ps.length) {t : Nat} (ht : t < ls.length) (hP : P < n) (hne : (ls.getD t []).getD P 0 ≠ 0) : WdI rows n r M a ((fs.map (lsQ P (hdQ P (ls.getD t [])) ) ++ [hdQ P (ls.getD t [])]) ++ (ls.eraseIdx t).map (lsQ P (hdQ P (ls.getD t [])))) (ps ++ [P]) := by
 have R := h.rot hf ht
 generalize ls.getD t [] = hd at *
 generalize ls.eraseIdx t = l2 at *
 have len := R.1
 rw [List.length_append, List.length_cons] at len
 obtain ⟨ek, el, ew, ev⟩ := lean_vals (P := P) hf R.2.1 len
 exact R.step M0 hP (by omega) (by rw [ek]; exact hne) el ew fun i hi c => by rw [ev i hi c, ek]
end
end L2
namespace L2
open PySem PySem.Spec PyProof.Rows Nm
section
variable {rows fs ls : List (List Rat)} {n r M W Wv Wb k P : Nat} {Pm Y Z B E a : Nat -> Nat -> Rat} {d : Rat} {ps : List Nat} {rs : List (List Rat)}
theorem WdI.sz (h : WdI rows n r M a rs ps) (M0 : 0 < M) (hk : ps.length <= n) (hz : ps.length = n -> ∀ i, n <= i -> i < rows.length -> ∀ c, fnQ rs i c = 0) (h32 : r + n < 32) (v1 : 1 <= Wv) (b1 : 1 <= Wb) (hM : M <= 32 * Wb) (ha1 : ∀ i, i < r -> ∀ c, Fr 1 Wv (a i c)) (ha2 : ∀ i, r <= i -> i < r + rows.length -> ∀ c, Fr 1 Wb (a i c)) {i : Nat} (hi : i < rows.length) : ∃ D : Nat, 0 < D /\ D <= (32 * Wv) ^ r * (32 * Wb) ^ n /\ ∀ c, Tp D ((32 * Wv) ^ r * (32 * Wb) ^ n) (fnQ rs i c) := by
 obtain ⟨len, wide, pm, l, d, B, hp, v⟩ := h
 have km := B.km
 have X0 : 0 < (32 * Wv) ^ r := Nat.pow_pos (by omega)
 have Y0 : 0 < 32 * Wb := by omega
 have one : 1 <= (32 * Wv) ^ r * (32 * Wb) ^ n := Nat.mul_pos X0 (Nat.pow_pos Y0)
 have mono : ∀ {t : Nat}, t <= n -> (32 * Wv) ^ r * (32 * Wb) ^ t <= (32 * Wv) ^ r * (32 * Wb) ^ n := fun ht => Nat.mul_le_mul_left _ (Nat.pow_le_pow_right Y0 ht)
 have pmr : ∀ j, r <= j -> j < r + rows.length -> r <= pm j := fun j h1 h2 => by
  rcases Nat.lt_or_ge (pm j) r with z | z
  ·have := B.inj (pm j) j (by omega) h2 (hp _ z)
   omega
  ·exact z
 have ent : ∀ j, j < r + rows.length -> ∀ c, Fr 1 (if pm j < r then Wv else Wb) (a (pm j) c) := fun j hj c => by
  split
  ·exact ha1 _ (by assumption) c
  ·exact ha2 _ (by omega) (B.rng j hj) c
 have bd : ∀ {vs : List Vec}, vs.length <= 32 -> (∀ v ∈ vs, ∃ q : Nat, v = fun t => a t q) -> Fr 1 ((32 * Wv) ^ r * (32 * Wb) ^ ps.length) (dtD (rlN pm (r + ps.length)) vs) := fun {vs} hl hv => by
  refine (dt_frW (N := 32) (W := fun t => if t < r then Wv else Wb) hl fun w hw t ht => ?_).mono (rl_bound (T := r + rows.length) (fun j hj => ?_) (fun j h1 h2 => ?_) _ km)
  ·obtain ⟨q, rfl⟩ := hv w hw
   obtain ⟨j, hj, rfl⟩ := rl_mem ht
   exact ent j (by omega) q
  ·rw [hp j hj, if_pos hj]
   exact Nat.le_refl _
  ·rw [if_neg (by have := pmr j h1 h2; omega)]
   exact Nat.le_refl _
 have hd : Fr 1 ((32 * Wv) ^ r * (32 * Wb) ^ ps.length) d := by
  rw [B.det]
  refine bd (by rw [cw_len]; omega) fun w hw => ?_
  obtain ⟨t, _, rfl⟩ := cw_in hw
  exact ⟨_, rfl⟩
 obtain ⟨y, ey⟩ := fr1_int hd
 rw [ey] at hd
 have y0 : y ≠ 0 := fun z => B.d0 (by rw [ey, z]; rfl)
 by_cases h1 : i < ps.length
 ·refine ⟨y.natAbs, by omega, Nat.le_trans (fr1_sz hd) (mono hk), fun c => ?_⟩
  by_cases hc : c < n
  ·rw [v i hi c hc, if_pos h1, Rat.mul_one]
   have f : Fr 1 ((32 * Wv) ^ r * (32 * Wb) ^ ps.length) (l (r + i) c) := by
    rw [B.old (by omega)]
    refine bd ?_ fun w hw => ?_
    ·have := congrArg List.length (cw_split (v := fun j t => a t (wdP n r ps j)) (show r + i < r + ps.length by omega))
     rw [List.length_append, List.length_cons, cw_len] at this
     rw [List.length_append, List.length_cons]
     omega
    ·rcases List.mem_append.mp hw with hw | hw
     ·obtain ⟨t, _, rfl⟩ := cv_in hw
      exact ⟨_, rfl⟩
     ·rcases List.mem_cons.mp hw with rfl | hw
      ·exact ⟨_, rfl⟩
      ·obtain ⟨t, _, rfl⟩ := cw_in hw
       exact ⟨_, rfl⟩
   obtain ⟨z, ez⟩ := fr1_int f
   rw [ez] at f
   exact tp_abs ez ey B.d0 (Nat.le_trans (fr1_sz f) (mono hk))
  ·rw [fq_far wide (by omega)]
   exact ⟨0, by rw [Rat.zero_mul]; rfl, Nat.zero_le _⟩
 ·by_cases h2 : ps.length = n
  ·refine ⟨1, by decide, one, fun c => ?_⟩
   rw [hz h2 i (by omega) hi c]
   exact ⟨0, by rw [Rat.zero_mul]; rfl, Nat.zero_le _⟩
  ·have eD : d * (M : Rat) = ((y * M : Int) : Rat) := by rw [Rat.intCast_mul, ey, Rat.intCast_natCast]
   have mono2 : (32 * Wv) ^ r * (32 * Wb) ^ ps.length * (32 * Wb) <= (32 * Wv) ^ r * (32 * Wb) ^ n := by
    rw [Nat.mul_assoc, <- Nat.pow_succ]
    exact mono (by omega)
   refine ⟨(y * M).natAbs, ?_, ?_, fun c => ?_⟩
   ·rw [Int.natAbs_mul, Int.natAbs_natCast]
    exact Nat.mul_pos (by omega) M0
   ·rw [Int.natAbs_mul, Int.natAbs_natCast]
    exact Nat.le_trans (Nat.mul_le_mul (fr1_sz hd) hM) mono2
   ·by_cases hc : c < n
    ·rw [v i hi c hc, if_neg h1]
     have f : Fr 1 ((32 * Wv) ^ r * (32 * Wb) ^ ps.length * (32 * Wb)) (l (r + i) c) := by
      rw [B.new (by omega) (by omega)]
      refine (dt_frW (N := 32) (W := fun t => if t < r then Wv else Wb) (by rw [List.length_cons, cw_len]; omega) fun w hw t ht => ?_).mono ?_
      ·obtain ⟨q, rfl⟩ : ∃ q : Nat, w = fun t => a t q := by
        rcases List.mem_cons.mp hw with rfl | hw
        ·exact ⟨_, rfl⟩
        ·obtain ⟨t, _, rfl⟩ := cw_in hw
         exact ⟨_, rfl⟩
       rcases List.mem_cons.mp ht with rfl | ht
       ·exact ent (r + i) (by omega) q
       ·obtain ⟨j, hj, rfl⟩ := rl_mem ht
        exact ent j (by omega) q
      ·show 32 * (if pm (r + i) < r then Wv else Wb) * _ <= _
       rw [if_neg (by have := pmr (r + i) (by omega) (by omega); omega), Nat.mul_comm]
       refine Nat.mul_le_mul_right _ (rl_bound (W := fun t => if t < r then Wv else Wb) (T := r + rows.length) (fun j hj => ?_) (fun j h1 h2 => ?_) _ km)
       ·rw [hp j hj, if_pos hj]
        exact Nat.le_refl _
       ·rw [if_neg (by have := pmr j h1 h2; omega)]
        exact Nat.le_refl _
     obtain ⟨z, ez⟩ := fr1_int f
     rw [ez] at f
     refine tp_abs ez eD (fun q => ?_) (Nat.le_trans (fr1_sz f) mono2)
     rw [eD] at q
     have := cast0 q
     rcases Int.mul_eq_zero.mp this with q | q
     ·exact y0 q
     ·omega
    ·rw [fq_far wide (by omega)]
     exact ⟨0, by rw [Rat.zero_mul]; rfl, Nat.zero_le _⟩
def LwS (rows : List (List Rat)) (n S : Nat) : Prop := 2 * S <= 3990 /\ ∃ J : Nat -> List (List Rat) -> List Nat -> Prop, J 0 rows [] /\ (∀ P rs ps, J P rs ps -> (∀ i, ps.length <= i -> i < rs.length -> fnQ rs i P = 0) -> J (P + 1) rs ps) ∧
 (∀ P fs ls ps t, J P (fs ++ ls) ps -> fs.length = ps.length -> t < ls.length -> P < n -> (ls.getD t []).getD P 0 ≠ 0 -> J (P + 1) ((fs.map (lsQ P (hdQ P (ls.getD t [])) ) ++ [hdQ P (ls.getD t [])]) ++ (ls.eraseIdx t).map (lsQ P (hdQ P (ls.getD t [])))) (ps ++ [P])) ∧
 (∀ P rs ps, J P rs ps -> LwI rows n P rs ps) /\ ∀ P rs ps, J P rs ps -> P <= n -> ∀ i, i < rows.length -> ∃ D : Nat, 0 < D /\ D <= 2 ^ S /\ ∀ c, Tp D (2 ^ S) (fnQ rs i c)
theorem LwI.left0 (h : LwI rows n P rs ps) (hP : P <= n) (e : ps.length = n) : ∀ i, n <= i -> i < rows.length -> ∀ c, fnQ rs i c = 0 := fun i h1 h2 c => by
 obtain ⟨len, wide, pm, l, d, B, E, v⟩ := h
 have kP := E.kP
 by_cases hc : c < n
 ·rw [v i h2 c, E.zero i (by omega) h2 c (by omega)]
  exact Rat.zero_mul _
 ·exact fq_far wide (by omega)
theorem WdI.lws {S : Nat} (hw : ∀ xs ∈ rows, xs.length = n) (V : Vb r n Pm Y Z d Wv) (M0 : 0 < M) (hX : ∀ i, i < rows.length -> ∀ c, c < n -> (M : Rat) * fnQ rows i c = B i c + sumN r fun s => E i s * Y s c) (h32 : r + n < 32) (v1 : 1 <= Wv) (b1 : 1 <= Wb) (hM : M <= 32 * Wb) (hB : ∀ i, i < rows.length -> ∀ c, c < n -> Fr 1 Wb (B i c)) (hE : ∀ i, i < rows.length -> ∀ s, s < r -> Fr 1 Wb (E i s)) (hS : (32 * Wv) ^ r * (32 * Wb) ^ n <= 2 ^ S) (S2 : 2 * S <= 3990) : LwS rows n S := by
 refine ⟨S2, fun P rs ps => LwI rows n P rs ps /\ WdI rows n r M (wdA n r Pm Z B E) rs ps, ⟨LwI.start hw, WdI.start hw V M0 hX⟩, fun _ _ _ h z => ⟨h.1.skip z, h.2⟩, fun _ _ _ _ _ h hf ht hP hne => ⟨h.1.lean hf ht hP hne, h.2.lean M0 hf ht hP hne⟩, fun _ _ _ h => h.1, fun P rs ps h hP i hi => ?_⟩
 have hk : ps.length <= n := Nat.le_trans h.1.km.2 hP
 have q1 : ∀ i, i < r -> ∀ c, Fr 1 Wv (wdA n r Pm Z B E i c) := fun i hi c => by
  unfold wdA
  rw [if_pos hi]
  split
  ·exact V.zf i hi c (by assumption)
  ·split
   ·exact V.pf i hi _ (by omega)
   ·exact Fr.zero
 have q2 : ∀ i, r <= i -> i < r + rows.length -> ∀ c, Fr 1 Wb (wdA n r Pm Z B E i c) := fun i h1 h2 c => by
  unfold wdA
  rw [if_neg (by omega)]
  split
  ·exact hB _ (by omega) c (by assumption)
  ·split
   ·exact (hE _ (by omega) _ (by omega)).neg
   ·exact Fr.zero
 obtain ⟨D, D0, D1, D2⟩ := h.2.sz M0 hk (h.1.left0 hP) h32 v1 b1 hM q1 q2 hi
 exact ⟨D, D0, Nat.le_trans D1 hS, fun c => (D2 c).mono hS⟩
end
end L2
namespace L2
open PySem PySem.Spec PyProof.Rows Nm
section
variable {rows R R1 R2 mv pt : List (List Rat)} {n r M V1 W W' Wv Wb k P : Nat} {Pm Y Z B E a : Nat -> Nat -> Rat} {d : Rat} {ps ps1 ps2 : List Nat} {rs : List (List Rat)}
theorem tp_ent (h0 : 0 < M) (h3 : ∀ xs ∈ rows, ∀ x ∈ xs, Tp M W x) : ∀ i, i < rows.length -> ∀ c, Fr 1 W (fnZ (rows.map topZ) i c) := fun i hi c => by
 have hx := getD_in (e := []) hi
 rw [zr_at hi]
 unfold fnQ
 generalize rows.getD i [] = xs at hx ⊢
 by_cases hc : c < xs.length
 ·have t := h3 xs hx _ (getD_in (e := 0) hc)
  obtain ⟨s, e, b⟩ := tp_top t h0 (botL_pos (xs := xs)) (botL_dvd (List.mem_map.mpr ⟨_, getD_in (e := 0) hc, rfl⟩)) (botL_to h0 (h3 xs hx))
  rw [Rat.mul_comm, e]
  exact Fr.int b
 ·rw [List.getD_eq_getElem?_getD, List.getElem?_eq_none (by omega)]
  show Fr 1 W (_ * 0)
  rw [Rat.mul_zero]
  exact Fr.zero
theorem Vb.of (hw : ∀ xs ∈ rows, xs.length = n) (hW : 1 <= W) (h0 : 0 < M) (h3 : ∀ xs ∈ rows, ∀ x ∈ xs, Tp M W x) (RR : RrefL rows n R ps) : ∃ Pm Z d, Vb ps.length n Pm (fnQ R) Z d W := by
 have ent := tp_ent h0 h3
 obtain ⟨ls, ps2, d, I⟩ := sw_exists hw hW (by rw [List.length_map]; exact ent) n (Nat.le_refl _)
 obtain ⟨_, _, ⟨pm, B⟩, E⟩ := I
 rw [List.length_map] at B E
 have RF : Rrf rows.length n (fnQ rows) ps2.length (fun j => ps2.getD j 0) (fun i c => fnZ ls i c / d) := Rrf.other (E.done fun i hi c hc => fn_far (n := n) (fun zs hz => by
  obtain ⟨xs, hx, rfl⟩ := List.mem_map.mp hz
  rw [topZ_len]
  exact hw xs hx) hc) zr_spn2 zr_spn1
 obtain ⟨e1, e2, e3⟩ := RF.uniq RR.2.2 (fun _ hi => Spn.row hi) (fun _ hi => Spn.row hi)
 refine ⟨fun i s => fnZ (rows.map topZ) (pm i) (ps2.getD s 0), fun i c => fnZ (rows.map topZ) (pm i) c, d, ?_⟩
 rw [<- e1]
 have km := B.km
 refine ⟨B.d0, ?_, fun i hi c hc => ?_, fun i hi s hs => ent _ (B.rng i (by omega)) _, fun i hi c hc => ent _ (B.rng i (by omega)) _⟩
 ·rw [B.det]
  exact dt_reN
 ·have := B.coef (i := i) (c := c) (by omega)
  rw [if_pos hi, Rat.add_zero] at this
  rw [this]
  exact sumN_congr fun s hs => by rw [<- e3 s hs c]; exact Rat.mul_comm _ _
theorem fr_ofN {V : Nat} {x : Rat} (h : Fr M V x) : Fr 1 (V * M) ((M : Rat) * x) := by
 obtain ⟨z, e, b⟩ := h
 rw [Rat.mul_comm, e]
 exact Fr.int b
theorem fr_sum {V : Nat} {f : Nat -> Rat} : ∀ {k : Nat}, (∀ j, j < k -> Fr 1 V (f j)) -> Fr 1 (k * V) (sumN k f)
 | 0, _ => Fr.zero
 | k + 1, h => by
  rw [Nat.succ_mul]
  exact (fr_sum fun j hj => h j (by omega)).add (h k (by omega))
theorem gf_at {V : Nat} (h : GF M V rows) (i c : Nat) : Fr M V (fnQ rows i c) := by
 unfold fnQ
 rw [List.getD_eq_getElem?_getD (l := rows)]
 by_cases hi : i < rows.length
 ·rw [List.getElem?_eq_getElem hi]
  show Fr M V (rows[i].getD c 0)
  rw [List.getD_eq_getElem?_getD]
  by_cases hc : c < rows[i].length
  ·rw [List.getElem?_eq_getElem hc]
   exact h _ (List.getElem_mem hi) _ (List.getElem_mem hc)
  ·rw [List.getElem?_eq_none (by omega)]
   exact Fr.zero
 ·rw [List.getElem?_eq_none (by omega)]
  exact Fr.zero
theorem Vb.on (V : Vb r n Pm Y Z d W) (fm : GF M V1 mv) (hW : W <= W') (h2 : n * (V1 * M * W) <= W') : Vb r n Pm (fun s c => sumN n fun e => (M : Rat) * fnQ mv c e * Y s e) (fun s c => sumN n fun e => (M : Rat) * fnQ mv c e * Z s e) d W' := by
 refine ⟨V.d0, V.det, fun i hi c hc => ?_, fun i hi s hs => (V.pf i hi s hs).mono hW, fun i hi c hc => (fr_sum fun e he => ?_).mono h2⟩
 ·have e1 : (sumN n fun e => (M : Rat) * fnQ mv c e * Z i e) = sumN n fun e => sumN r fun s => Pm i s * ((M : Rat) * fnQ mv c e * Y s e) := sumN_congr fun e he => by
   rw [V.eq i hi e he, <- sumN_mul]
   exact sumN_congr fun s hs => by grind
  rw [e1, sumN_swap]
  exact sumN_congr fun s hs => by rw [<- sumN_mul]
 ·have := (fr_ofN (gf_at fm c e)).mul (V.zf i hi e he)
  simpa using this
theorem rl_add {f : Nat -> Nat} {a : Nat} : ∀ {b : Nat}, rlN f (a + b) = rlN (fun t => f (a + t)) b ++ rlN f a
 | 0 => rfl
 | b + 1 => by show f (a + b) :: rlN f (a + b) = f (a + b) :: (rlN (fun t => f (a + t)) b ++ rlN f a); rw [rl_add (b := b)]
theorem cw_add {v : Nat -> Vec} {a : Nat} : ∀ {b : Nat}, cwN v (a + b) = cwN (fun t => v (a + t)) b ++ cwN v a
 | 0 => rfl
 | b + 1 => by show v (a + b) :: cwN v (a + b) = v (a + b) :: (cwN (fun t => v (a + t)) b ++ cwN v a); rw [cw_add (b := b)]
theorem sumN_addK {f : Nat -> Rat} {a : Nat} : ∀ {b : Nat}, sumN (a + b) f = sumN a f + sumN b fun t => f (a + t)
 | 0 => by show sumN a f = sumN a f + 0; grind
 | b + 1 => by
  show sumN (a + b) f + f (a + b) = _ + (sumN b _ + f (a + b))
  rw [sumN_addK]
  grind
theorem Vb.two {r1 r2 : Nat} {P1 P2 Y1 Y2 Z1 Z2 : Nat -> Nat -> Rat} {d1 d2 : Rat} (A : Vb r1 n P1 Y1 Z1 d1 W) (C : Vb r2 n P2 Y2 Z2 d2 W) (hY1 : ∀ s, s < r1 -> Y s = Y1 s) (hY2 : ∀ s, s < r2 -> Y (r1 + s) = Y2 s) :
  ∃ Pm Z d, Vb (r1 + r2) n Pm Y Z d W := by
 refine ⟨fun i j => if i < r1 then (if j < r1 then P1 i j else 0) else (if j < r1 then 0 else P2 (i - r1) (j - r1)), fun i c => if i < r1 then Z1 i c else Z2 (i - r1) c, d2 * d1, ?_, ?_, fun i hi c hc => ?_, fun i hi s hs => ?_, fun i hi c hc => ?_⟩
 ·have := A.d0
  have := C.d0
  grind
 ·rw [rl_add, cw_add, dt_block _ _ (by rw [cw_len, rl_len]) fun r hr v hv => ?_]
  ·congr 1
   ·rw [dt_reN, C.det]
    refine dt_ext (pre := []) fun j hj i hi => ?_
    show P2 i j = if r1 + i < r1 then _ else if r1 + j < r1 then _ else _
    rw [if_neg (by omega), if_neg (by omega), Nat.add_sub_cancel_left, Nat.add_sub_cancel_left]
   ·rw [A.det]
    refine dt_ext (pre := []) fun j hj i hi => ?_
    obtain ⟨t, ht, e⟩ := rl_mem hi
    have e : i = t := e
    subst e
    show P1 i j = if i < r1 then (if j < r1 then _ else _) else _
    rw [if_pos ht, if_pos hj]
  ·obtain ⟨t, ht, e⟩ := rl_mem hr
   obtain ⟨j, hj, rfl⟩ := cw_in hv
   show (if r < r1 then (if j < r1 then P1 r j else 0) else (if j < r1 then 0 else _)) = 0
   have e : r = r1 + t := e
   rw [if_neg (by omega), if_pos hj]
 ·rw [sumN_addK]
  by_cases h : i < r1
  ·rw [if_pos h, A.eq i h c hc]
   have z : (sumN r2 fun t => (if i < r1 then (if r1 + t < r1 then P1 i (r1 + t) else 0) else (if r1 + t < r1 then 0 else P2 (i - r1) (r1 + t - r1))) * Y (r1 + t) c) = 0 := sumN_zero fun t ht => by rw [if_pos h, if_neg (by omega), Rat.zero_mul]
   rw [z, Rat.add_zero]
   exact sumN_congr fun s hs => by rw [if_pos h, if_pos hs, hY1 s hs]
  ·rw [if_neg h, C.eq (i - r1) (by omega) c hc]
   have z : (sumN r1 fun t => (if i < r1 then (if t < r1 then P1 i t else 0) else (if t < r1 then 0 else P2 (i - r1) (t - r1))) * Y t c) = 0 := sumN_zero fun t ht => by rw [if_neg h, if_pos ht, Rat.zero_mul]
   rw [z, Rat.zero_add]
   exact sumN_congr fun s hs => by rw [if_neg h, if_neg (by omega), hY2 s hs, Nat.add_sub_cancel_left]
 ·by_cases h : i < r1
  ·rw [if_pos h]
   split
   ·exact A.pf i h s (by assumption)
   ·exact Fr.zero
  ·rw [if_neg h]
   split
   ·exact Fr.zero
   ·exact C.pf _ (by omega) _ (by omega)
 ·by_cases h : i < r1
  ·rw [if_pos h]
   exact A.zf i h c hc
  ·rw [if_neg h]
   exact C.zf _ (by omega) c hc
end
end L2
namespace L2
open PySem PySem.Spec PyProof.Rows Nm
section
variable {rows R R1 R2 mv pt : List (List Rat)} {n t t2 a c : Nat} {ps ps1 ps2 : List Nat}
theorem rr_self (RR : RrefL rows n R ps) : RrefL R n R ps := ⟨RR.1, RR.2.1, RR.2.2.other (fun i hi => by rw [RR.1]; exact RR.2.2.span i hi) (fun i hi => RR.2.2.back i (by rw [<- RR.1]; exact hi))⟩
theorem rr_full (RR : RrefL rows n R ps) (e : ps.length = n) {i : Nat} (hi : i < n) (c : Nat) : fnQ R i c = if c = i then 1 else 0 := by
 have lo : ∀ j, j < n -> j <= ps.getD j 0 := by
  intro j
  induction j with
  | zero => intro _; exact Nat.zero_le _
  | succ j ih =>
   intro hj
   have := ih (by omega)
   have := RR.2.2.inc j (j + 1) (by omega) (by omega)
   omega
 have hi2 : ∀ s j, j + s + 1 = n -> ps.getD j 0 <= j := by
  intro s
  induction s with
  | zero =>
   intro j hj
   have := RR.2.2.low j (by omega)
   omega
  | succ s ih =>
   intro j hj
   have := ih (j + 1) (by omega)
   have := RR.2.2.inc j (j + 1) (by omega) (by omega)
   omega
 have ep : ∀ j, j < n -> ps.getD j 0 = j := fun j hj => Nat.le_antisymm (hi2 (n - 1 - j) j (by omega)) (lo j hj)
 by_cases hc : c < n
 ·have := RR.2.2.unit i (by omega) c (by omega)
  rw [ep c hc] at this
  rw [this]
  by_cases z : i = c
  ·rw [if_pos z, if_pos z.symm]
  ·rw [if_neg z, if_neg (Ne.symm z)]
 ·rw [fq_far RR.2.1 (by omega), if_neg (by omega)]
theorem fq_memT {M W : Nat} (h : ∀ i, i < rows.length -> ∀ c, Tp M W (fnQ rows i c)) : ∀ xs ∈ rows, ∀ x ∈ xs, Tp M W x := fun xs hx x hx' => by
 obtain ⟨i, hi, rfl⟩ := List.getElem_of_mem hx
 obtain ⟨c, hc, rfl⟩ := List.getElem_of_mem hx'
 have := h i hi c
 unfold fnQ at this
 rw [List.getD_eq_getElem?_getD (l := rows), List.getElem?_eq_getElem hi] at this
 have e : (some rows[i]).getD [] = rows[i] := rfl
 rw [e, List.getD_eq_getElem?_getD, List.getElem?_eq_getElem hc] at this
 exact this
theorem KFit.vb (F : KFit mv pt a c) (wm : ∀ xs ∈ mv, xs.length = mv.length) (wp : ∀ xs ∈ pt, xs.length = mv.length) (ht : t <= ps.length) (RR : RrefL (kry mv pt t) mv.length R ps) : ∃ Pm Z d w, Vb ps.length mv.length Pm (fnQ R) Z d (2 ^ w) /\ (ps.length < mv.length /\ w = (mv.length - 1) * (a + c) ∨ ps.length = mv.length /\ w = 0) := by
 have le := RR.le
 rcases Nat.lt_or_ge ps.length mv.length with z | z
 ·obtain ⟨M, V, M0, Ma, hV, fm, fp, _⟩ := F
  have f := kry_fr rfl wm wp hV fm fp t
  obtain ⟨Pm, Z, d, vb⟩ := Vb.of (kry_wide rfl wp t) (Nat.one_le_two_pow (n := (mv.length - 1) * (a + c))) (Nat.pow_pos M0 (n := t)) (fun xs hx x hx' => Tp.of (f xs hx x hx') (by
   refine Nat.le_trans (Nat.mul_le_mul_left _ (Nat.pow_le_pow_left Ma t)) ?_
   rw [<- Nat.pow_mul, <- Nat.pow_add]
   refine Nat.pow_le_pow_right (by decide) ?_
   rw [<- Nat.add_mul, Nat.mul_comm, Nat.add_comm c]
   exact Nat.mul_le_mul_right _ (by omega))) RR
  exact ⟨Pm, Z, d, _, vb, .inl ⟨z, rfl⟩⟩
 ·have e : ps.length = mv.length := by omega
  obtain ⟨Pm, Z, d, vb⟩ := Vb.of (W := 2 ^ 0) (M := 1) RR.2.1 (by decide) (by decide) (fq_memT fun i hi c => by
   rw [RR.1, e] at hi
   rw [rr_full RR e hi c]
   split
   ·exact ⟨1, by rw [Rat.one_mul]; rfl, by decide⟩
   ·exact ⟨0, by rw [Rat.zero_mul]; rfl, by decide⟩) (rr_self RR)
  exact ⟨Pm, Z, d, 0, vb, .inr ⟨e, rfl⟩⟩
theorem pow32 {w r : Nat} : (32 * 2 ^ w) ^ r = 2 ^ (r * (w + 5)) := by
 rw [show (32 : Nat) = 2 ^ 5 from rfl, <- Nat.pow_add, <- Nat.pow_mul, Nat.mul_comm r, Nat.add_comm w]
theorem KFit.lws (F : KFit mv pt a c) (D : mv.length <= 8) (wm : ∀ xs ∈ mv, xs.length = mv.length) (wp : ∀ xs ∈ pt, xs.length = mv.length) (ht : t <= ps.length) (RR : RrefL (kry mv pt t) mv.length R ps) : ∃ S, LwS (pt ++ R.map (onQ mv)) mv.length S := by
 obtain ⟨Pm, Z, d, w, vb, hw⟩ := F.vb wm wp ht RR
 obtain ⟨M, V, M0, Ma, hV, fm, fp, a3, c3, e14, _⟩ := F
 have V1 : V <= 2 ^ c := Nat.le_trans (Nat.le_mul_of_pos_left _ (by omega)) hV
 have vb2 := vb.on fm (W' := 2 ^ (w + (a + c))) (Nat.pow_le_pow_right (by decide) (by omega)) (by
  rw [<- Nat.mul_assoc, <- Nat.mul_assoc, Nat.mul_comm, Nat.pow_add]
  refine Nat.mul_le_mul_left _ ?_
  rw [Nat.add_comm a, Nat.pow_add]
  exact Nat.mul_le_mul (Nat.le_trans (Nat.mul_le_mul_right _ (by omega)) hV) Ma)
 have le := RR.le
 have hS : 2 * (ps.length * (w + (a + c) + 5) + mv.length * (a + c + 5)) <= 3990 := by
  have g4 : a + c <= 440 := by omega
  generalize a + c = g at *
  generalize hn : mv.length = n at *
  rcases hw with ⟨z, rfl⟩ | ⟨z, rfl⟩
  ·have h1 : ps.length * ((n - 1) * g + g + 5) <= (n - 1) * ((n - 1) * g + g + 5) := Nat.mul_le_mul_right _ (by omega)
   have h2 : (n - 1) * g + g = n * g := by rw [<- Nat.succ_mul]; congr 1; omega
   rw [h2] at h1 ⊢
   have h3 : (n - 1) * (n * g + 5) + (n * g + 5) = n * (n * g + 5) := by rw [<- Nat.succ_mul]; congr 1; omega
   have h4 : n * (n * g + 5) = n * (n * g + 4) + n := by rw [Nat.mul_add, Nat.mul_add]; omega
   have h5 : n * (g + 5) = n * g + n * 5 := Nat.mul_add _ _ _
   omega
  ·rw [z, Nat.zero_add]
   rcases (show n = 0 ∨ n = 1 ∨ 2 <= n by omega) with y | y | y
   ·rw [y]; omega
   ·rw [y] at e14 ⊢; omega
   ·have h1 : 2 * g <= n * g := Nat.mul_le_mul_right _ y
    have h2 : n * (2 * g + 4) <= n * (n * g + 4) := Nat.mul_le_mul_left _ (by omega)
    have h3 : n * (2 * g + 4) = n * g + n * g + 4 * n := by rw [Nat.mul_add, Nat.mul_comm 2, <- Nat.mul_assoc]; omega
    have h4 : n * (g + 5) = n * g + n * 5 := Nat.mul_add _ _ _
    omega
 refine ⟨_, WdI.lws (Wb := 2 ^ (a + c)) (M := M) (B := fun i e => if i < pt.length then (M : Rat) * fnQ pt i e else 0) (E := fun i s => if i < pt.length then 0 else if s = i - pt.length then 1 else 0) ?_ vb2 M0 (fun i hi e he => ?_) (by omega) Nat.one_le_two_pow Nat.one_le_two_pow ?_ (fun i hi e he => ?_) (fun i hi s hs => ?_) (Nat.le_of_eq (by rw [pow32, pow32, <- Nat.pow_add])) hS⟩
 ·intro xs hx
  rcases List.mem_append.mp hx with hx | hx
  ·exact wp xs hx
  ·obtain ⟨y, _, rfl⟩ := List.mem_map.mp hx
   exact on_len
 ·rw [List.length_append, List.length_map] at hi
  by_cases h : i < pt.length
  ·rw [ap_l h, if_pos h, sumN_zero fun s hs => by rw [if_pos h, Rat.zero_mul], Rat.add_zero]
  ·obtain ⟨j, rfl⟩ : ∃ j, i = pt.length + j := ⟨i - pt.length, by omega⟩
   have hj : j < R.length := by omega
   have hj' : j < ps.length := by rw [<- RR.1]; exact hj
   rw [ap_r, if_neg h, on_fn rfl wm RR.2.1 hj, Rat.zero_add, sumN_one hj' fun s hs ne => by rw [if_neg h, if_neg (by omega), Rat.zero_mul]]
   rw [if_neg h, if_pos (by omega), Rat.one_mul, <- sumN_mul]
   exact sumN_congr fun q hq => by grind
 ·exact Nat.le_trans Ma (Nat.le_trans (Nat.pow_le_pow_right (by decide) (by omega)) (Nat.le_mul_of_pos_left _ (by decide)))
 ·by_cases h : i < pt.length
  ·rw [if_pos h]
   refine (fr_ofN (gf_at fp i e)).mono ?_
   rw [Nat.add_comm a, Nat.pow_add]
   exact Nat.mul_le_mul V1 Ma
  ·rw [if_neg h]
   exact Fr.zero
 ·by_cases h : i < pt.length
  ·rw [if_pos h]
   exact Fr.zero
  ·rw [if_neg h]
   split
   ·exact Fr.one Nat.one_le_two_pow
   ·exact Fr.zero
theorem KFit.lws2 (F : KFit mv pt a c) (K2 : 2 * mv.length * (5 + (mv.length - 1) * (a + c)) + 5 * mv.length <= 1995) (D : mv.length <= 8) (wm : ∀ xs ∈ mv, xs.length = mv.length) (wp : ∀ xs ∈ pt, xs.length = mv.length) (ht : t <= ps.length) (RR : RrefL (kry mv pt t) mv.length R ps) (ht2 : t2 <= ps2.length) (RR2 : RrefL (kry mv pt t2) mv.length R2 ps2) : ∃ S, LwS (R ++ R2) mv.length S := by
 have up : ∀ {r : Nat} {Pm Y Z : Nat -> Nat -> Rat} {d : Rat} {w : Nat}, Vb r mv.length Pm Y Z d (2 ^ w) -> w <= (mv.length - 1) * (a + c) -> Vb r mv.length Pm Y Z d (2 ^ ((mv.length - 1) * (a + c))) := fun v h => ⟨v.d0, v.det, v.eq, fun i hi s hs => (v.pf i hi s hs).mono (Nat.pow_le_pow_right (by decide) h), fun i hi s hs => (v.zf i hi s hs).mono (Nat.pow_le_pow_right (by decide) h)⟩
 obtain ⟨Pm, Z, d, w, vb, hw⟩ := F.vb wm wp ht RR
 obtain ⟨Pm2, Z2, d2, w2, vb2, hw2⟩ := F.vb wm wp ht2 RR2
 have le := RR.le
 have le2 := RR2.le
 obtain ⟨P3, Z3, d3, v3⟩ := Vb.two (Y := fnQ (R ++ R2)) (up vb (by rcases hw with ⟨_, rfl⟩ | ⟨_, rfl⟩; exact Nat.le_refl _; exact Nat.zero_le _)) (up vb2 (by rcases hw2 with ⟨_, rfl⟩ | ⟨_, rfl⟩; exact Nat.le_refl _; exact Nat.zero_le _)) (fun s hs => ap_l (by rw [RR.1]; exact hs)) (fun s hs => by rw [<- RR.1]; exact ap_r)
 have hl : (R ++ R2).length = ps.length + ps2.length := by rw [List.length_append, RR.1, RR2.1]
 refine ⟨_, WdI.lws (Wb := 2 ^ 0) (M := 1) (B := fun _ _ => 0) (E := fun i s => if s = i then 1 else 0) ?_ v3 (by decide) (fun i hi e he => ?_) (by omega) Nat.one_le_two_pow (by decide) (by decide) (fun i hi e he => Fr.zero) (fun i hi s hs => ?_) (Nat.le_of_eq (by rw [pow32, pow32, <- Nat.pow_add])) ?_⟩
 ·intro xs hx
  rcases List.mem_append.mp hx with hx | hx
  ·exact RR.2.1 xs hx
  ·exact RR2.2.1 xs hx
 ·rw [sumN_one (i := i) (by omega) fun s hs ne => by rw [if_neg ne, Rat.zero_mul], if_pos rfl, Rat.zero_add]
  rfl
 ·split
  ·exact Fr.one (by decide)
  ·exact Fr.zero
 ·have h1 : (ps.length + ps2.length) * ((mv.length - 1) * (a + c) + 5) <= (2 * mv.length) * ((mv.length - 1) * (a + c) + 5) := Nat.mul_le_mul_right _ (by omega)
  rw [Nat.add_comm 5 ((mv.length - 1) * (a + c))] at K2
  generalize (2 * mv.length) * ((mv.length - 1) * (a + c) + 5) = q at *
  omega
end
end L2
namespace L2
open PySem PySem.Spec PyProof.Rows Nm
def sp_lawRedS (K : PySem.W.Frag) : Sp := fun vs H Q _ => ∃ (p : Addr) (n S : Nat) (H0 : Hp) (rows : List (List Rat)), vs = [.ref p, .int n] /\ GridQ K H0 H p rows /\ rows.length <= 100 /\ n <= 100 /\ (∀ xs ∈ rows, xs.length = n) /\ LwS rows n S ∧
 ∀ r R ps H', H r = none -> Same H H' -> GridQ K H H' r R -> RrefL rows n R ps -> ps.length <= rows.length -> Q (.ref r) H'
end L2
namespace L2
open PySem PySem.Spec PyProof.Rows Nm
section
variable {K : PySem.W.Frag} {a : Addr} {xs : List V} {g : TG} {tf : TT} {te : TE} {Q : VK} {σ₀ : St} {H : Hp} {α β : Type}
theorem comp_mapN {as : List α} {F : Hp -> α -> V -> Prop} (G : Hp -> β -> V -> Prop) (f : α -> β) (hx : H a = some (.lst xs)) (pf : Paired (F H) as xs) (hl : as.length <= 1000)
  (hF : ∀ {H H' c x}, F H c x -> Same H H' -> F H' c x) (hG : ∀ {H H' c x}, G H c x -> Same H H' -> G H' c x) (hA : ∀ {H' c x}, G H' c x -> ∃ q, x = V.ref q /\ H' q ≠ none)
  (hs : ∀ (i : Nat) c x H' NY NN, as[i]? = some c -> Same H H' -> F H' c x -> (∀ y H2, Same H' H2 -> G H2 (f c) y -> (∃ q, y = V.ref q /\ H' q = none) -> NY y H2) -> tTurn σ₀ g tf te x H' NY NN)
  (hd : ∀ ys H' p, H p = none -> Same H H' -> H' p = some (.lst ys) -> ys.Nodup -> (∀ y ∈ ys, ∃ q, y = V.ref q /\ H q = none /\ q ≠ p) -> Paired (G H') (as.map f) ys -> Q (.ref p) H') : CompW (Itl K a) σ₀ g tf te Q H := by
 have lx := pf.length
 refine comp_list (K := K) (xs := xs) (fun i ys H' => Same H H' /\ ys.Nodup /\ (∀ y ∈ ys, ∃ q, y = V.ref q /\ H q = none) /\ Paired (G H') ((as.take i).map f) ys) (Nat.le_of_lt (small1000 (by omega))) ⟨Same.refl _, List.nodup_nil, (fun _ z => nomatch z), .nil⟩ (fun i ys H' _ ⟨s, _⟩ => SqL.of (s _ _ hx)) ?_ ?_
 ·rintro i x ys H' hx' hlen ⟨s, nd, hn, pr⟩
  obtain ⟨c, ec, hc⟩ := paired_at pf hx'
  refine hs i c x H' _ _ ec s (hF hc s) fun y H2 s2 gy ⟨q, ey, nq⟩ => ⟨s.trans s2, nodup_snoc nd (fun z => ?_), app_all hn ⟨q, ey, s.none nq⟩, ?_⟩
  ·obtain ⟨c', _, gc⟩ := paired_mem pr z
   obtain ⟨q', e', h'⟩ := hA gc
   rw [ey] at e'
   cases e'
   exact h' nq
  ·rw [take_snoc ec, List.map_append]
   exact paired_app (Paired.imp' (fun _ _ z => hG z s2) pr) (.cons gy .nil)
 ·rintro ys H' hy ⟨s, nd, hn, pr⟩ p hp
  rw [List.take_of_length_le (by omega)] at pr
  refine hd ys _ p (s.none hp) (s.trans (Same.new hp)) upd_same nd (fun y hy => ?_) (Paired.imp' (fun _ _ z => hG z (Same.new hp)) pr)
  obtain ⟨q, e, nq⟩ := hn y hy
  refine ⟨q, e, nq, fun z => ?_⟩
  obtain ⟨c', _, gc⟩ := paired_mem pr hy
  obtain ⟨q', e', h'⟩ := hA gc
  rw [e] at e'
  cases e'
  exact h' (by rw [z]; exact hp)
end
structure TwI (K : PySem.W.Frag) (H0 H : Hp) (n : Nat) (fd : Addr) (L : List (Addr × List V)) : Prop where
 gf : H fd = some (.lst (L.map fun e => V.ref e.1))
 nf : H0 fd = none
 ls : ∀ e ∈ L, H0 e.1 = none /\ e.1 ≠ fd /\ H e.1 = some (.lst e.2)
 nd : (L.map fun e => e.1).Nodup
 rows : ∀ e ∈ L, ∀ x ∈ e.2, RowP K (fun q => (H0 q = none /\ q ≠ fd) /\ q ∉ L.map fun e => e.1) H n (Fr 1 1) x
 rd : (L.flatMap fun e => e.2).Nodup
section
variable {K : PySem.W.Frag} {H0 H H1 : Hp} {n : Nat} {fd q : Addr} {L : List (Addr × List V)} {us : List V}
theorem TwI.snoc (h : TwI K H0 H n fd L) (s0 : Same H0 H) (s : Same H H1) (hq : H q = none) (gq : H1 q = some (.lst us)) (nd : us.Nodup) (hr : ∀ x ∈ us, RowP K (fun z => H z = none /\ z ≠ q) H1 n (Fr 1 1) x) : TwI K H0 (upd H1 fd (.lst ((L.map fun e => V.ref e.1) ++ [.ref q]))) n fd (L ++ [(q, us)]) := by
 have qf : q ≠ fd := fun z => by rw [z, h.gf] at hq; cases hq
 have old : ∀ {z}, z ∈ (L.map fun e => e.1) -> H z ≠ none := fun hz => by
  obtain ⟨e, he, rfl⟩ := List.mem_map.mp hz
  rw [(h.ls e he).2.2]
  exact fun z => nomatch z
 have g1 := s _ _ h.gf
 refine ⟨by rw [upd_same, List.map_append]; rfl, h.nf, fun e he => ?_, ?_, fun e he x hx => ?_, ?_⟩
 ·rcases List.mem_append.mp he with he | he
  ·obtain ⟨a, b, c⟩ := h.ls e he
   exact ⟨a, b, by rw [upd_ne b]; exact s _ _ c⟩
  ·rw [List.mem_singleton.mp he]
   exact ⟨s0.none hq, qf, by rw [upd_ne qf]; exact gq⟩
 ·rw [List.map_append]
  exact nodup_snoc h.nd fun z => old z hq
 ·have key : RowP K (fun z => (H0 z = none /\ z ≠ fd) /\ z ∉ (L ++ [(q, us)]).map fun e => e.1) H1 n (Fr 1 1) x := by
   rcases List.mem_append.mp he with he | he
   ·obtain ⟨z, qs, e1, ⟨e2, e3⟩, e4, e5⟩ := h.rows e he x hx
    refine ⟨z, qs, e1, ⟨e2, fun hz => ?_⟩, e4.same s, e5⟩
    rw [List.map_append] at hz
    rcases List.mem_append.mp hz with hz | hz
    ·exact e3 hz
    ·have hz : z = q := List.mem_singleton.mp hz
     obtain ⟨_, gg, _⟩ := e4
     rw [hz, hq] at gg
     cases gg
   ·rw [List.mem_singleton.mp he] at hx
    refine (hr x hx).weak (fun z hz => ⟨⟨s0.none hz.1, fun y => by rw [y] at hz; rw [h.gf] at hz; exact absurd hz.1 (fun w => nomatch w)⟩, fun y => ?_⟩) (fun _ w => w)
    rw [List.map_append] at y
    rcases List.mem_append.mp y with y | y
    ·exact old y hz.1
    ·exact hz.2 (List.mem_singleton.mp y)
  exact key.other g1 (fun z => z.1.2 rfl)
 ·rw [List.flatMap_append]
  refine List.nodup_append.mpr ⟨h.rd, by simpa using nd, fun x hx y hy z => ?_⟩
  obtain ⟨e, he, hx⟩ := List.mem_flatMap.mp hx
  obtain ⟨w, qs, e1, _, ⟨_, gg, _⟩, _⟩ := h.rows e he x hx
  obtain ⟨w', _, e1', ⟨hw, _⟩, _⟩ := hr y (by simpa using hy)
  rw [<- z, e1] at e1'
  cases e1'
  rw [hw] at gg
  cases gg
end
end L2
namespace L2
open PySem PySem.Spec PyProof.Rows Nm
def Gd (mv pt : List (List Rat)) (i : Nat) (R : List (List Rat)) (ps : List Nat) : Prop := RrefL (kry mv pt i) mv.length R ps /\ ∃ t, t <= ps.length /\ t <= i /\ RrefL (kry mv pt t) mv.length R ps /\ (t = i ∨ ∀ s, RrefL (kry mv pt (t + s)) mv.length R ps)
section
variable {mv pt R R' : List (List Rat)} {i : Nat} {ps ps' : List Nat}
theorem Gd.start : Gd mv pt 0 [] [] := ⟨rr_nil, 0, Nat.le_refl _, Nat.le_refl _, rr_nil, .inl rfl⟩
theorem rr_stand (wm : ∀ xs ∈ mv, xs.length = mv.length) (wp : ∀ xs ∈ pt, xs.length = mv.length) (h : RrefL (kry mv pt i) mv.length R ps) (h' : RrefL (kry mv pt (i + 1)) mv.length R' ps') (e : ps'.length = ps.length) : ∀ s, RrefL (kry mv pt (i + s)) mv.length R ps := kry_stand rfl wm wp h (kry_back rfl wm wp h h') e
theorem Gd.step (wm : ∀ xs ∈ mv, xs.length = mv.length) (wp : ∀ xs ∈ pt, xs.length = mv.length) (h : Gd mv pt i R ps) (h' : RrefL (kry mv pt (i + 1)) mv.length R' ps') : Gd mv pt (i + 1) R' ps' /\ (mv.length <= i -> R' = R) := by
 obtain ⟨h0, t, t1, t2, ht, hs⟩ := h
 have st : (∀ s, RrefL (kry mv pt (t + s)) mv.length R ps) -> Gd mv pt (i + 1) R' ps' /\ (mv.length <= i -> R' = R) := fun hs => by
  have := hs (i + 1 - t)
  rw [show t + (i + 1 - t) = i + 1 by omega] at this
  obtain ⟨rfl, rfl⟩ := this.same h'
  exact ⟨⟨h', t, t1, by omega, ht, .inr hs⟩, fun _ => rfl⟩
 rcases hs with rfl | hs
 ·have gr := kry_grow rfl wm wp h0 h'
  by_cases e : ps'.length = ps.length
  ·exact st (rr_stand wm wp h0 h' e)
  ·refine ⟨⟨h', t + 1, by omega, Nat.le_refl _, h', .inl rfl⟩, fun hn => ?_⟩
   have := h'.le
   omega
 ·exact st hs
theorem Gd.late (h : Gd mv pt i R ps) (hi : mv.length < i) {j : Nat} (hj : mv.length <= j) : RrefL (kry mv pt j) mv.length R ps := by
 obtain ⟨h0, t, t1, t2, ht, hs⟩ := h
 have le := h0.le
 rcases hs with rfl | hs
 ·omega
 ·have := hs (j - t)
  rwa [show t + (j - t) = j by omega] at this
theorem rr_app {rows rows' : List (List Rat)} {n : Nat} (h : RrefL rows n R ps) (h' : RrefL rows' n R' ps') (hw : ∀ i, i < ps.length -> Spn ps'.length (fnQ R') (fnQ R i)) : RrefL (R ++ R') n R' ps' := by
 have s := rr_self h'
 refine ⟨s.1, s.2.1, s.2.2.other (fun i hi => spn_right (Spn.row hi)) (spn_app (fun i hi => ?_) (fun i hi => Spn.row hi))⟩
 have := hw i (by rw [<- h.1]; exact hi)
 rwa [<- h'.1] at this
end
end L2
open L2
local macro_rules | `(tactic| walk_at "hl") => `(tactic| first | (show _ <= sizeLine; with_unfolding_all decide) | (with_unfolding_all exact (by decide)))
local macro_rules | `(tactic| walk_at "sq") => `(tactic| first | with_reducible assumption | with_reducible exact SqT.of (by assumption) | with_reducible exact SqL.of (by assumption) | with_reducible exact SqT.of upd_same | with_reducible exact SqL.of upd_same | assumption)
local macro_rules | `(tactic| walk_at "sc") => `(tactic| first | (with_reducible show (0 : Int) < _; decide) | with_reducible exact cmulS_r (by decide) (by decide) | with_reducible exact cmulS_l (by decide) (by decide) | with_reducible exact cpow_of (by decide) (by decide) (by decide))
local macro_rules | `(tactic| walk_at "rd") => `(tactic| first
 | with_reducible refine rd_seq ?_
 | with_reducible refine rd_next ?_
 | with_reducible refine rd_asg ?_
 | with_reducible refine rd_gname ?_
 | ((with_reducible refine' rd_var ?hx1 ?_); (case hx1 => with_unfolding_all rfl))
 | with_reducible refine rd_c ?_
 | with_reducible refine rd_op ?_
 | with_reducible refine rd_I0 ?_
 | with_reducible refine rd_un ?_
 | with_reducible refine rd_U ?_
 | with_reducible refine rd_eqI ?_
 | with_reducible refine rd_neI ?_
 | with_reducible refine rd_eqS ?_
 | with_reducible refine rd_neS ?_
 | with_reducible refine rd_eqB ?_
 | with_reducible refine rd_neB ?_
 | with_reducible refine rd_iZip ?_
 | with_reducible refine rd_listZip ?_
 | with_reducible refine rd_fld ?_
 | with_reducible refine rd_sfld ?_
 | with_reducible refine rd_meth ?_
 | with_reducible refine rd_make ?_
 | with_reducible refine rd_iEnum ?_
 | with_reducible refine rd_test ?_
 | with_reducible refine rd_tB ?_
 | with_reducible refine rd_ret ?_
 | with_reducible refine rd_retN ?_
 | with_reducible refine rd_ifS ?_
 | with_reducible refine rd_and ?_
 | with_reducible refine rd_or ?_
 | with_reducible refine rd_not ?_
 | with_reducible refine rd_andV ?_
 | with_reducible refine rd_orV ?_
 | with_reducible refine rd_notV ?_
 | with_reducible refine rd_ifE ?_
 | with_reducible refine rd_yes ?_
 | with_reducible refine iteF ?_
 | with_reducible refine iteT ?_
 | with_reducible refine iteNT ?_
 | with_reducible refine iteNF ?_
 | with_reducible refine rd_wb ?_
 | with_reducible refine rd_nil ?_
 | with_reducible refine rd_cons ?_
 | with_reducible refine rd_tup ?_
 | with_reducible refine rd_lst ?_
 | with_reducible refine rd_call ?_
 | with_reducible refine rd_cb ?_
 | with_reducible refine rd_drop ?_
 | with_reducible refine rd_par ?_
 | with_reducible refine rd_augS ?_
 | ((with_reducible refine' rd_aug ?hx1 ?_); (case hx1 => with_unfolding_all rfl))
 | with_reducible refine rd_ipI ?_
 | with_reducible refine rd_gsub ?_
 | with_reducible refine rd_gcons ?_
 | with_reducible refine rd_gnil ?_
 | with_reducible refine rd_sl ?_
 | with_reducible refine rd_noPart ?_
 | with_reducible refine rd_part ?_
 | with_reducible refine rd_for ?_
 | with_reducible refine rd_iList ?_
 | with_reducible refine rd_iTup ?_
 | with_reducible refine rd_iRng1 ?_
 | with_reducible refine rd_iRng2 ?_
 | ((with_reducible refine' rd_comp ?hx1 ?_); (case hx1 => with_unfolding_all rfl))
 | with_reducible refine rd_turn ?_
 | with_reducible refine rd_bm ?_
 | with_reducible refine rd_bm0 ?_
 | with_reducible refine rd_brk ?_
 | ((with_reducible refine' rd_gtup ?hx1 ?hx2 ?_); (case hx1 => walk_at "sq"); (case hx2 => with_unfolding_all rfl))
 | with_reducible refine rd_cont ?_
 | ((with_reducible refine' rd_I ?hx1 ?_); (case hx1 => walk_at "sc"))
 | ((with_reducible refine' rd_ixT ?hx1 ?hx2 ?_); (case hx1 => walk_at "sq"); (case hx2 => with_unfolding_all rfl))
 | ((with_reducible refine' rd_ixL ?hx1 ?hx2 ?_); (case hx1 => walk_at "sq"); (case hx2 => with_unfolding_all rfl))
 | ((with_reducible refine' rd_getL ?hx1 ?hx2 ?_); (case hx1 => walk_at "sq"); (case hx2 => with_unfolding_all rfl))
 | ((with_reducible refine' rd_setL ?hx1 ?hx2 ?hx3 ?_); (case hx1 => with_reducible first | assumption | exact upd_same); (case hx2 => with_unfolding_all rfl); (case hx3 => with_unfolding_all rfl))
 | with_reducible refine ⟨_, rfl, ?_⟩
 | with_reducible refine ⟨_, _, rfl, ?_⟩)
local macro_rules | `(tactic| walk_at "w") => `(tactic| repeat walk_at "rd")
namespace Lw
open PySem PySem.Spec PyProof.Rows L2 Nm
set_option maxHeartbeats 4000000
def top (i : Nat) : Stmt := PySem.Challenge.pw_helmsum_k43_whole_reach_grows_and_stands.main.body.getD i (.Pass ⟨0, 0, 0, 0⟩)
abbrev s__law_bag : Stmt := top 37
abbrev s__law_take : Stmt := top 38
abbrev s__law_sizes : Stmt := top 54
abbrev s__law_line : Stmt := top 56
abbrev s__law_low : Stmt := top 39
abbrev s__law_sum : Stmt := top 40
abbrev s__law_plus : Stmt := top 47
abbrev s__law_prod : Stmt := top 42
abbrev s__law_by : Stmt := top 49
abbrev s__law_mixed : Stmt := top 51
abbrev s__law_two_lines : Stmt := top 57
abbrev s__law_number : Stmt := top 44
abbrev s__law_row : Stmt := top 45
abbrev s__law_move : Stmt := top 50
abbrev s__law_parts : Stmt := top 52
abbrev s__law_system : Stmt := top 58
abbrev s_want_list : Stmt := top 33
abbrev s_is_whole : Stmt := top 7
abbrev s_common_divisor : Stmt := top 8
abbrev s_is_number : Stmt := top 10
abbrev s_is_row : Stmt := top 13
abbrev s_copied_rows : Stmt := top 34
abbrev s_System___init__ : Stmt := inClass (top 35) 0
abbrev s__law_copied : Stmt := top 53
abbrev s__law_made : Stmt := top 59
abbrev s_tops_over : Stmt := top 15
abbrev s_common_multiple : Stmt := top 9
abbrev s_common_bottom : Stmt := top 14
abbrev s_first_with : Stmt := top 20
abbrev s_cleared : Stmt := top 22
abbrev s_brought_up : Stmt := top 21
abbrev s_swept : Stmt := top 23
abbrev s_lowest : Stmt := top 11
abbrev s_reduced : Stmt := top 24
abbrev s_row_dot : Stmt := top 16
abbrev s_grid_on : Stmt := top 18
abbrev s_moved_rows : Stmt := top 26
abbrev s_reach_grown : Stmt := top 27
abbrev s_reach_rows : Stmt := top 28
abbrev s__law_quot : Stmt := top 43
abbrev s__law_less : Stmt := top 41
abbrev s__law_minus : Stmt := top 48
abbrev s__law_lean : Stmt := top 60
abbrev s__law_dot : Stmt := top 46
abbrev s__law_on : Stmt := top 55
abbrev s_law : Stmt := top 61
structure Ads where
 a__law_bag : Addr
 d__law_bag : FuncData
 a__law_take : Addr
 d__law_take : FuncData
 a__law_sizes : Addr
 d__law_sizes : FuncData
 a__law_line : Addr
 d__law_line : FuncData
 a__law_low : Addr
 d__law_low : FuncData
 a__law_sum : Addr
 d__law_sum : FuncData
 a__law_plus : Addr
 d__law_plus : FuncData
 a__law_prod : Addr
 d__law_prod : FuncData
 a__law_by : Addr
 d__law_by : FuncData
 a__law_mixed : Addr
 d__law_mixed : FuncData
 a__law_two_lines : Addr
 d__law_two_lines : FuncData
 a__law_number : Addr
 d__law_number : FuncData
 a__law_row : Addr
 d__law_row : FuncData
 a__law_move : Addr
 d__law_move : FuncData
 a__law_parts : Addr
 d__law_parts : FuncData
 a__law_system : Addr
 d__law_system : FuncData
 a_want_list : Addr
 d_want_list : FuncData
 a_is_whole : Addr
 d_is_whole : FuncData
 a_common_divisor : Addr
 d_common_divisor : FuncData
 a_is_number : Addr
 d_is_number : FuncData
 a_is_row : Addr
 d_is_row : FuncData
 a_copied_rows : Addr
 d_copied_rows : FuncData
 a_System___init__ : Addr
 d_System___init__ : FuncData
 a__law_copied : Addr
 d__law_copied : FuncData
 a__law_made : Addr
 d__law_made : FuncData
 a_tops_over : Addr
 d_tops_over : FuncData
 a_common_multiple : Addr
 d_common_multiple : FuncData
 a_common_bottom : Addr
 d_common_bottom : FuncData
 a_first_with : Addr
 d_first_with : FuncData
 a_cleared : Addr
 d_cleared : FuncData
 a_brought_up : Addr
 d_brought_up : FuncData
 a_swept : Addr
 d_swept : FuncData
 a_lowest : Addr
 d_lowest : FuncData
 a_reduced : Addr
 d_reduced : FuncData
 a_row_dot : Addr
 d_row_dot : FuncData
 a_grid_on : Addr
 d_grid_on : FuncData
 a_moved_rows : Addr
 d_moved_rows : FuncData
 a_reach_grown : Addr
 d_reach_grown : FuncData
 a_reach_rows : Addr
 d_reach_rows : FuncData
 a__law_quot : Addr
 d__law_quot : FuncData
 a__law_less : Addr
 d__law_less : FuncData
 a__law_minus : Addr
 d__law_minus : FuncData
 a__law_lean : Addr
 d__law_lean : FuncData
 a__law_dot : Addr
 d__law_dot : FuncData
 a__law_on : Addr
 d__law_on : FuncData
 a_law : Addr
 d_law : FuncData
 t_MOST_STATES : Tok
 t_MOST_PUTS : Tok
 t_MOST_LOOKS : Tok
 a_System : Addr
structure Txt (K : PySem.W.Frag) (mg : Str -> Option Value) (Z : Ads) : Prop where
 mg__law_bag : mg "_law_bag" = some (.ref Z.a__law_bag)
 b__law_bag : Binds K Z.d__law_bag ["_law_script"] []
 F__law_bag : Fun K "_law_bag" "_law_bag" s__law_bag Z.a__law_bag Z.d__law_bag
 mg__law_take : mg "_law_take" = some (.ref Z.a__law_take)
 b__law_take : Binds K Z.d__law_take ["_law_bag_here", "_law_many"] []
 F__law_take : Fun K "_law_take" "_law_take" s__law_take Z.a__law_take Z.d__law_take
 mg__law_sizes : mg "_law_sizes" = some (.ref Z.a__law_sizes)
 b__law_sizes : Binds K Z.d__law_sizes ["_law_bag_here"] []
 F__law_sizes : Fun K "_law_sizes" "_law_sizes" s__law_sizes Z.a__law_sizes Z.d__law_sizes
 mg__law_line : mg "_law_line" = some (.ref Z.a__law_line)
 b__law_line : Binds K Z.d__law_line ["_law_bag_here", "_law_n"] []
 F__law_line : Fun K "_law_line" "_law_line" s__law_line Z.a__law_line Z.d__law_line
 mg__law_low : mg "_law_low" = some (.ref Z.a__law_low)
 b__law_low : Binds K Z.d__law_low ["_law_top", "_law_bottom"] []
 F__law_low : Fun K "_law_low" "_law_low" s__law_low Z.a__law_low Z.d__law_low
 mg__law_sum : mg "_law_sum" = some (.ref Z.a__law_sum)
 b__law_sum : Binds K Z.d__law_sum ["_law_one", "_law_other"] []
 F__law_sum : Fun K "_law_sum" "_law_sum" s__law_sum Z.a__law_sum Z.d__law_sum
 mg__law_plus : mg "_law_plus" = some (.ref Z.a__law_plus)
 b__law_plus : Binds K Z.d__law_plus ["_law_one", "_law_other"] []
 F__law_plus : Fun K "_law_plus" "_law_plus" s__law_plus Z.a__law_plus Z.d__law_plus
 mg__law_prod : mg "_law_prod" = some (.ref Z.a__law_prod)
 b__law_prod : Binds K Z.d__law_prod ["_law_one", "_law_other"] []
 F__law_prod : Fun K "_law_prod" "_law_prod" s__law_prod Z.a__law_prod Z.d__law_prod
 mg__law_by : mg "_law_by" = some (.ref Z.a__law_by)
 b__law_by : Binds K Z.d__law_by ["_law_by_here", "_law_row_here"] []
 F__law_by : Fun K "_law_by" "_law_by" s__law_by Z.a__law_by Z.d__law_by
 mg__law_mixed : mg "_law_mixed" = some (.ref Z.a__law_mixed)
 b__law_mixed : Binds K Z.d__law_mixed ["_law_bag_here", "_law_move_here", "_law_put", "_law_look"] []
 F__law_mixed : Fun K "_law_mixed" "_law_mixed" s__law_mixed Z.a__law_mixed Z.d__law_mixed
 mg__law_two_lines : mg "_law_two_lines" = some (.ref Z.a__law_two_lines)
 b__law_two_lines : Binds K Z.d__law_two_lines ["_law_bag_here"] []
 F__law_two_lines : Fun K "_law_two_lines" "_law_two_lines" s__law_two_lines Z.a__law_two_lines Z.d__law_two_lines
 mg__law_number : mg "_law_number" = some (.ref Z.a__law_number)
 b__law_number : Binds K Z.d__law_number ["_law_bag_here", "_law_wide"] []
 F__law_number : Fun K "_law_number" "_law_number" s__law_number Z.a__law_number Z.d__law_number
 mg__law_row : mg "_law_row" = some (.ref Z.a__law_row)
 b__law_row : Binds K Z.d__law_row ["_law_bag_here", "_law_many", "_law_wide"] []
 F__law_row : Fun K "_law_row" "_law_row" s__law_row Z.a__law_row Z.d__law_row
 mg__law_move : mg "_law_move" = some (.ref Z.a__law_move)
 b__law_move : Binds K Z.d__law_move ["_law_bag_here", "_law_n", "_law_way", "_law_first", "_law_wide"] []
 F__law_move : Fun K "_law_move" "_law_move" s__law_move Z.a__law_move Z.d__law_move
 mg__law_parts : mg "_law_parts" = some (.ref Z.a__law_parts)
 b__law_parts : Binds K Z.d__law_parts ["_law_bag_here", "_law_n", "_law_ins", "_law_outs", "_law_wide"] []
 F__law_parts : Fun K "_law_parts" "_law_parts" s__law_parts Z.a__law_parts Z.d__law_parts
 mg__law_system : mg "_law_system" = some (.ref Z.a__law_system)
 b__law_system : Binds K Z.d__law_system ["_law_bag_here"] []
 F__law_system : Fun K "_law_system" "_law_system" s__law_system Z.a__law_system Z.d__law_system
 mg_want_list : mg "want_list" = some (.ref Z.a_want_list)
 b_want_list : Binds K Z.d_want_list ["thing", "at", "most"] []
 F_want_list : Fun K "want_list" "want_list" s_want_list Z.a_want_list Z.d_want_list
 mg_is_whole : mg "is_whole" = some (.ref Z.a_is_whole)
 b_is_whole : Binds K Z.d_is_whole ["thing"] []
 F_is_whole : Fun K "is_whole" "is_whole" s_is_whole Z.a_is_whole Z.d_is_whole
 mg_common_divisor : mg "common_divisor" = some (.ref Z.a_common_divisor)
 b_common_divisor : Binds K Z.d_common_divisor ["one", "other"] []
 F_common_divisor : Fun K "common_divisor" "common_divisor" s_common_divisor Z.a_common_divisor Z.d_common_divisor
 mg_is_number : mg "is_number" = some (.ref Z.a_is_number)
 b_is_number : Binds K Z.d_is_number ["thing"] []
 F_is_number : Fun K "is_number" "is_number" s_is_number Z.a_is_number Z.d_is_number
 mg_is_row : mg "is_row" = some (.ref Z.a_is_row)
 b_is_row : Binds K Z.d_is_row ["thing", "many"] []
 F_is_row : Fun K "is_row" "is_row" s_is_row Z.a_is_row Z.d_is_row
 mg_copied_rows : mg "copied_rows" = some (.ref Z.a_copied_rows)
 b_copied_rows : Binds K Z.d_copied_rows ["things", "wide"] []
 F_copied_rows : Fun K "copied_rows" "copied_rows" s_copied_rows Z.a_copied_rows Z.d_copied_rows
 b_System___init__ : Binds K Z.d_System___init__ ["self", "move", "put", "look"] []
 F_System___init__ : Fun K "__init__" "System.__init__" s_System___init__ Z.a_System___init__ Z.d_System___init__
 mg__law_copied : mg "_law_copied" = some (.ref Z.a__law_copied)
 b__law_copied : Binds K Z.d__law_copied ["_law_grid"] []
 F__law_copied : Fun K "_law_copied" "_law_copied" s__law_copied Z.a__law_copied Z.d__law_copied
 mg__law_made : mg "_law_made" = some (.ref Z.a__law_made)
 b__law_made : Binds K Z.d__law_made ["_law_parts_here"] []
 F__law_made : Fun K "_law_made" "_law_made" s__law_made Z.a__law_made Z.d__law_made
 mg_tops_over : mg "tops_over" = some (.ref Z.a_tops_over)
 b_tops_over : Binds K Z.d_tops_over ["row", "bottom"] []
 F_tops_over : Fun K "tops_over" "tops_over" s_tops_over Z.a_tops_over Z.d_tops_over
 mg_common_multiple : mg "common_multiple" = some (.ref Z.a_common_multiple)
 b_common_multiple : Binds K Z.d_common_multiple ["wholes"] []
 F_common_multiple : Fun K "common_multiple" "common_multiple" s_common_multiple Z.a_common_multiple Z.d_common_multiple
 mg_common_bottom : mg "common_bottom" = some (.ref Z.a_common_bottom)
 b_common_bottom : Binds K Z.d_common_bottom ["row"] []
 F_common_bottom : Fun K "common_bottom" "common_bottom" s_common_bottom Z.a_common_bottom Z.d_common_bottom
 mg_first_with : mg "first_with" = some (.ref Z.a_first_with)
 b_first_with : Binds K Z.d_first_with ["lines", "begin", "place"] []
 F_first_with : Fun K "first_with" "first_with" s_first_with Z.a_first_with Z.d_first_with
 mg_cleared : mg "cleared" = some (.ref Z.a_cleared)
 b_cleared : Binds K Z.d_cleared ["lines", "at", "place", "before"] []
 F_cleared : Fun K "cleared" "cleared" s_cleared Z.a_cleared Z.d_cleared
 mg_brought_up : mg "brought_up" = some (.ref Z.a_brought_up)
 b_brought_up : Binds K Z.d_brought_up ["lines", "at", "to"] []
 F_brought_up : Fun K "brought_up" "brought_up" s_brought_up Z.a_brought_up Z.d_brought_up
 mg_swept : mg "swept" = some (.ref Z.a_swept)
 b_swept : Binds K Z.d_swept ["rows", "wide"] []
 F_swept : Fun K "swept" "swept" s_swept Z.a_swept Z.d_swept
 mg_lowest : mg "lowest" = some (.ref Z.a_lowest)
 b_lowest : Binds K Z.d_lowest ["top", "bottom"] []
 F_lowest : Fun K "lowest" "lowest" s_lowest Z.a_lowest Z.d_lowest
 mg_reduced : mg "reduced" = some (.ref Z.a_reduced)
 b_reduced : Binds K Z.d_reduced ["rows", "wide"] []
 F_reduced : Fun K "reduced" "reduced" s_reduced Z.a_reduced Z.d_reduced
 mg_row_dot : mg "row_dot" = some (.ref Z.a_row_dot)
 b_row_dot : Binds K Z.d_row_dot ["one", "other"] []
 F_row_dot : Fun K "row_dot" "row_dot" s_row_dot Z.a_row_dot Z.d_row_dot
 mg_grid_on : mg "grid_on" = some (.ref Z.a_grid_on)
 b_grid_on : Binds K Z.d_grid_on ["grid", "row"] []
 F_grid_on : Fun K "grid_on" "grid_on" s_grid_on Z.a_grid_on Z.d_grid_on
 mg_moved_rows : mg "moved_rows" = some (.ref Z.a_moved_rows)
 b_moved_rows : Binds K Z.d_moved_rows ["system", "rows"] []
 F_moved_rows : Fun K "moved_rows" "moved_rows" s_moved_rows Z.a_moved_rows Z.d_moved_rows
 mg_reach_grown : mg "reach_grown" = some (.ref Z.a_reach_grown)
 b_reach_grown : Binds K Z.d_reach_grown ["system", "steps"] []
 F_reach_grown : Fun K "reach_grown" "reach_grown" s_reach_grown Z.a_reach_grown Z.d_reach_grown
 mg_reach_rows : mg "reach_rows" = some (.ref Z.a_reach_rows)
 b_reach_rows : Binds K Z.d_reach_rows ["system", "steps"] []
 F_reach_rows : Fun K "reach_rows" "reach_rows" s_reach_rows Z.a_reach_rows Z.d_reach_rows
 mg__law_quot : mg "_law_quot" = some (.ref Z.a__law_quot)
 b__law_quot : Binds K Z.d__law_quot ["_law_one", "_law_other"] []
 F__law_quot : Fun K "_law_quot" "_law_quot" s__law_quot Z.a__law_quot Z.d__law_quot
 mg__law_less : mg "_law_less" = some (.ref Z.a__law_less)
 b__law_less : Binds K Z.d__law_less ["_law_one", "_law_other"] []
 F__law_less : Fun K "_law_less" "_law_less" s__law_less Z.a__law_less Z.d__law_less
 mg__law_minus : mg "_law_minus" = some (.ref Z.a__law_minus)
 b__law_minus : Binds K Z.d__law_minus ["_law_one", "_law_other"] []
 F__law_minus : Fun K "_law_minus" "_law_minus" s__law_minus Z.a__law_minus Z.d__law_minus
 mg__law_lean : mg "_law_lean" = some (.ref Z.a__law_lean)
 b__law_lean : Binds K Z.d__law_lean ["_law_rows", "_law_wide"] []
 F__law_lean : Fun K "_law_lean" "_law_lean" s__law_lean Z.a__law_lean Z.d__law_lean
 mg__law_dot : mg "_law_dot" = some (.ref Z.a__law_dot)
 b__law_dot : Binds K Z.d__law_dot ["_law_one", "_law_other"] []
 F__law_dot : Fun K "_law_dot" "_law_dot" s__law_dot Z.a__law_dot Z.d__law_dot
 mg__law_on : mg "_law_on" = some (.ref Z.a__law_on)
 b__law_on : Binds K Z.d__law_on ["_law_grid", "_law_row_here"] []
 F__law_on : Fun K "_law_on" "_law_on" s__law_on Z.a__law_on Z.d__law_on
 F_law : Fun K "law" "law" s_law Z.a_law Z.d_law
 abs : mg "abs" = none
 len : mg "len" = none
 min : mg "min" = none
 int : mg "int" = none
 range : mg "range" = none
 isinstance : mg "isinstance" = none
 list : mg "list" = none
 bool : mg "bool" = none
 tuple : mg "tuple" = none
 all : mg "all" = none
 enumerate : mg "enumerate" = none
 zip : mg "zip" = none
 sum : mg "sum" = none
 mg_MOST_STATES : mg "MOST_STATES" = some (.int 8 Z.t_MOST_STATES)
 mg_MOST_PUTS : mg "MOST_PUTS" = some (.int 4 Z.t_MOST_PUTS)
 mg_MOST_LOOKS : mg "MOST_LOOKS" = some (.int 4 Z.t_MOST_LOOKS)
 mg_System : mg "System" = some (.ref Z.a_System)
 cl_System : Cls K Z.a_System
 na_move : NoAttr K Z.a_System "move"
 na_states : NoAttr K Z.a_System "states"
 na_put : NoAttr K Z.a_System "put"
 na_ins : NoAttr K Z.a_System "ins"
 na_look : NoAttr K Z.a_System "look"
 na_outs : NoAttr K Z.a_System "outs"
 mk_System : Mk K Z.a_System Z.a_System___init__
section
variable {P : Program} {w : World} {K : PySem.W.Frag} {mg : Str -> Option Value} {base : Heap} {Z : Ads}
theorem sc__law_bag : FnScope ["_law_script"] ["_law_script"] (defScope s__law_bag) := ⟨rfl, rfl, rfl, by decide +kernel, rfl, by decide +kernel, by decide +kernel⟩
theorem ok__law_bag (T : Txt K mg Z) : FnOk P w K mg base CX0 1 Z.a__law_bag Z.d__law_bag ["_law_script"] (sp_bag K) := by
 refine T.F__law_bag.ok sc__law_bag (fun vs H Q E h => ?_) (fun cdv A outer s H vs Q E hr h => ?_)
 ·obtain ⟨a, ns, rfl, hS, hlen, k⟩ := h
  rfl
 ·obtain ⟨a, ns, rfl, hS, hlen, k⟩ := h
  refine ⟨_, (pss_one (ps_ret (pe_lst (pa_cons pe_int (pa_cons pe_int (pa_cons pe_int (pa_cons (pe_comp ["_law_cell"] [] [] (pi_list (pe_slice sl_list (pv 0) po_none (po_some pe_int))) (fun _ => (pg_name (i := 0) (show List.Nodup (α := PySem.Str) ["_law_cell"] by decide +kernel) rfl (Or.inl rfl) (Or.inl rfl))) (fun _ => pf_nil) (fun _ => (pe_callB call_abs (by rfl) T.abs PyProof.Rows.boot_abs (pa_cons (pv 0) pa_nil)))) pa_nil))))))), ?_⟩
  refine rd_start (σ := [some (.ref a)]) rfl ?_
  walk_at "w"
  refine ⟨a, _, rfl, hS, fun l hl => ?_⟩
  have hcl : (cutV (ns.map V.int) none (some 63)).length <= 63 := Nat.le_trans (cutV_length _ _ _) (by simpa using hlen)
  refine ⟨l, rfl, ⟨_, SqL.of upd_same⟩, ?_⟩
  refine comp_list (K := K) (a := l) (xs := cutV (ns.map V.int) none (some 63)) (fun i ys H' => H' = upd H l (.lst (cutV (ns.map V.int) none (some 63))) /\ ∃ cs : List Int, ys = cs.map V.int /\ ∀ x ∈ cs, 0 <= x) (Nat.le_trans hcl (by decide)) ⟨rfl, [], rfl, fun _ z => nomatch z⟩ (fun i ys H' _ ⟨e, _⟩ => by subst e; exact SqL.of upd_same) ?_ ?_
  ·rintro i x ys H' hx hi ⟨rfl, cs, rfl, hcs⟩
   obtain ⟨z, rfl⟩ : ∃ z, x = V.int z := by
    have hm : x ∈ ns.map V.int := List.mem_of_mem_drop (List.mem_of_mem_take (List.mem_of_getElem? hx))
    obtain ⟨z, _, e⟩ := List.mem_map.mp hm
    exact ⟨z, e.symm⟩
   walk_at "w"
   refine ⟨rfl, cs ++ [if z < 0 then -z else z], by simp, fun x hx => ?_⟩
   rcases List.mem_append.mp hx with hx | hx
   ·exact hcs x hx
   ·have e : x = if z < 0 then -z else z := by simpa using hx
    subst e
    split <;> omega
  ·rintro ys H' hy ⟨rfl, cs, rfl, hcs⟩ p hp
   walk_at "w"
   refine ⟨by show 4 <= sizeLine; decide, fun b hb => ?_⟩
   have n1 : b ≠ p := fun z => by rw [z, upd_same] at hb; cases hb
   have hb1 : (upd H l (.lst (cutV (ns.map V.int) none (some 63)))) b = none := by rw [upd_ne n1] at hb; exact hb
   have s1 : Same H (upd H l (.lst (cutV (ns.map V.int) none (some 63)))) := Same.new hl
   refine k b _ (s1.free hb1) ⟨p, 0, 1234567891, 0, cs, upd_same, by rw [upd_ne n1.symm]; exact upd_same, by decide, by decide, by omega, hcs⟩ ((s1.trans (Same.new hp)).trans (Same.new hb))
theorem sc__law_take : FnScope ["_law_bag_here", "_law_many", "_law_more", "_law_cell", "_law_value", "_law_first", "_law_second"] ["_law_bag_here", "_law_many"] (defScope s__law_take) := ⟨rfl, rfl, rfl, by decide +kernel, rfl, by decide +kernel, by decide +kernel⟩
theorem ok__law_take (T : Txt K mg Z) : FnOk P w K mg base CX0 1 Z.a__law_take Z.d__law_take ["_law_bag_here", "_law_many"] sp_take := by
 refine T.F__law_take.ok sc__law_take (fun vs H Q E h => ?_) (fun cdv A outer s H vs Q E hr h => ?_)
 ·obtain ⟨p, n, rfl, ⟨q, a, b, c, cs, hp, hq, ha, hc, hcl, hcs⟩, hn, hn2, k⟩ := h
  rfl
 ·obtain ⟨p, n, rfl, ⟨q, a, b, c, cs, hp, hq, ha, hc, hcl, hcs⟩, hn, hn2, k⟩ := h
  have nqp : q ≠ p := bag_apart hp hq
  refine ⟨_, (pss_consM (ps_if (pt_cmpR op_eq (pe_ix ix_list (pv 0) pe_int (by intro _ _; rfl)) pe_int (nomark _)) (pss_cons (ps_set (i := 2) sc__law_take.nd rfl (Or.inl rfl) pe_int)
   (pss_consM (ps_if (pt_cmpR op_lt (pe_ix ix_list (pv 0) pe_int (by intro _ _; rfl)) (pe_callB call_len_seq (by rfl) T.len PySem.boot_len (pa_cons (pe_ix ix_list (pv 0) pe_int (by intro _ _; rfl)) pa_nil)) (nomark _)) (pss_cons (ps_set (i := 3) sc__law_take.nd rfl (Or.inl rfl) (pe_ix ix_list (pe_ix ix_list (pv 0) pe_int (by intro _ _; rfl)) (pe_ix ix_list (pv 0) pe_int (by intro _ _; rfl)) (by intro _ _; rfl)))
   (pss_cons (ps_augS (pv 0) pe_int get_list pe_int ip_add set_list)
   (pss_cons (ps_if (pt_cmpR op_ge (pv 3) pe_int (nomark _)) (pss_one (ps_asg (pv 3) (pg_sub (pv 0) pe_int set_list))) pss_nil)
   (pss_one (ps_set (i := 2) sc__law_take.nd rfl (Or.inl rfl) (pe_op op_add (pe_op op_mod (pv 3) pe_int) pe_int)))))) pss_nil)
   (pss_one (ps_asg (pe_op op_mod (pe_op op_add (pe_op op_mulS (pe_ix ix_list (pv 0) pe_int (by intro _ _; rfl)) pe_int) (pv 2)) pe_int) (pg_sub (pv 0) pe_int set_list))))) pss_nil)
   (pss_cons (ps_if (pt_cmpR op_gt (pe_ix ix_list (pv 0) pe_int (by intro _ _; rfl)) pe_int (nomark _)) (pss_cons (ps_set (i := 4) sc__law_take.nd rfl (Or.inl rfl) (pe_op op_mod (pe_ix ix_list (pv 0) pe_int (by intro _ _; rfl)) (pv 1)))
   (pss_cons (ps_asg (pe_op op_fdivS (pe_ix ix_list (pv 0) pe_int (by intro _ _; rfl)) (pv 1)) (pg_sub (pv 0) pe_int set_list))
   (pss_one (ps_ret (pv 4))))) pss_nil)
   (pss_cons (ps_set (i := 5) sc__law_take.nd rfl (Or.inl rfl) (pe_op op_mod (pe_op op_mulS (pe_ix ix_list (pv 0) pe_int (by intro _ _; rfl)) pe_int) pe_int))
   (pss_cons (ps_set (i := 6) sc__law_take.nd rfl (Or.inl rfl) (pe_op op_mod (pe_op op_mulS (pv 5) pe_int) pe_int))
   (pss_cons (ps_if (pt_cmpR op_gt (pv 1) pe_int (nomark _)) (pss_one (ps_ret (pe_op op_mod (pe_op op_add (pe_op op_mulS (pv 6) pe_int) (pv 5)) (pv 1)))) pss_nil)
   (pss_one (ps_ret (pe_op op_mod (pe_op op_fdivS (pv 6) pe_int) (pv 1))))))))), ?_⟩
  refine rd_start (σ := [some (.ref p), some (.int n), none, none, none, none, none]) rfl ?_
  refine ⟨fun σ' H' => ∃ (x y : Option V) (a' b' c' : Int), σ' = [some (.ref p), some (.int n), x, y, none, none, none] /\ H' p = some (.lst [.int a', .int b', .int c', .ref q]) /\ 0 <= a' /\ 0 <= c' /\ c' <= cs.length /\ Upto p H H', ?_, ?_⟩
  ·walk_at "w"
   refine ite2 (fun h0 => ?_) (fun h0 => ?_)
   ·walk_at "w"
    refine ⟨fun σ' H' => ∃ (m : Int) (y : Option V) (a' c' : Int), σ' = [some (.ref p), some (.int n), some (.int m), y, none, none, none] /\ H' p = some (.lst [.int a', .int b, .int c', .ref q]) /\ 0 <= a' /\ 0 <= c' /\ c' <= cs.length /\ Upto p H H', ?_, ?_⟩
    ·walk_at "w"
     refine ⟨_, _, rfl, .inl (SqL.of hq), ?_⟩
     walk_at "w"
     refine ite2 (fun h1 => ?_) (fun h1 => ?_)
     ·have h1' : c < cs.length := by simpa using of_decide_eq_true h1
      obtain ⟨z, hz⟩ : ∃ z, cs[c.toNat]? = some z := ⟨_, List.getElem?_eq_getElem (by omega)⟩
      have hz0 : 0 <= z := hcs z (List.mem_of_getElem? hz)
      walk_at "w"
      refine rd_ixL (SqL.of hq) (v := .int z) ?_ ?_
      ·have := atI_nat (xs := cs.map V.int) (j := c.toNat) (v := .int z) (by rw [List.getElem?_map, hz]; rfl)
       rwa [Int.toNat_of_nonneg hc] at this
      walk_at "w"
      refine ite2 (fun h2 => ?_) (fun h2 => ?_)
      ·walk_at "w"
       exact ⟨_, _, z, c + 1, rfl, upd_same, hz0, by omega, by omega, (Upto.set hp).trans (Upto.set upd_same)⟩
      ·walk_at "w"
       exact ⟨_, _, a, c + 1, rfl, upd_same, ha, by omega, by omega, Upto.set hp⟩
     ·walk_at "w"
      exact ⟨_, _, a, c, rfl, hp, ha, hc, hcl, Upto.refl _⟩
    ·rintro σ' H' ⟨m, y, a', c', rfl, hp', ha', hc', hcl', u'⟩
     walk_at "w"
     exact ⟨_, _, a', _, c', rfl, upd_same, ha', hc', hcl', u'.trans (Upto.set hp')⟩
   ·walk_at "w"
    exact ⟨_, _, a, b, c, rfl, hp, ha, hc, hcl, Upto.refl _⟩
  ·rintro σ' H' ⟨x, y, a', b', c', rfl, hp', ha', hc', hcl', u'⟩
   have hq' : H' q = some (.lst (cs.map V.int)) := u'.1 q _ hq nqp
   have sn : Sz 8999 n := by
    show n.natAbs < 2 ^ 8999
    exact Nat.lt_of_lt_of_le (show n.natAbs < 2 ^ 64 by omega) (Nat.pow_le_pow_right (by decide) (by decide))
   walk_at "w"
   refine ite2 (fun h0 => ?_) (fun h0 => ?_)
   ·walk_at "w"
    refine rd_I (show (0 : Int) < n from hn) ?_
    walk_at "w"
    refine rd_I (show CDivS _ _ from ⟨by omega, sn⟩) ?_
    walk_at "w"
    refine k _ _ (Int.emod_nonneg _ (by omega)) (Int.emod_lt_of_pos _ hn) ⟨q, _, b', c', cs, upd_same, by rw [upd_ne nqp]; exact hq', ?_, hc', hcl', hcs⟩ (u'.trans (Upto.set hp'))
    rw [Int.fdiv_eq_ediv_of_nonneg _ (by omega)]
    exact Int.ediv_nonneg ha' (by omega)
   ·walk_at "w"
    refine ite2 (fun h1 => ?_) (fun h1 => ?_)
    ·walk_at "w"
     refine rd_I (show (0 : Int) < n from hn) ?_
     exact k _ _ (Int.emod_nonneg _ (by omega)) (Int.emod_lt_of_pos _ hn) ⟨q, a', b', c', cs, hp', hq', ha', hc', hcl', hcs⟩ u'
    ·walk_at "w"
     refine rd_I (show CDivS _ _ from ⟨by decide, by show (3 : Nat) < 2 ^ 8999; exact Nat.lt_of_lt_of_le (show 3 < 2 ^ 2 by decide) (Nat.pow_le_pow_right (by decide) (by decide))⟩) ?_
     walk_at "w"
     refine rd_I (show (0 : Int) < n from hn) ?_
     exact k _ _ (Int.emod_nonneg _ (by omega)) (Int.emod_lt_of_pos _ hn) ⟨q, a', b', c', cs, hp', hq', ha', hc', hcl', hcs⟩ u'
theorem bd__law_sizes : ∃ x1 x2 x3 x4 x5 x6 x7 x8 x9 x10 x11 x12 x13 x14 x15 x16 : Expr, x1 = (PySem.Expr.Constant (PySem.Const.int 0) 0 ⟨251, 16, 251, 17⟩) /\ x2 = (PySem.Expr.Constant (PySem.Const.int 1) 0 ⟨251, 19, 251, 20⟩) /\ x3 = (PySem.Expr.Constant (PySem.Const.int 1) 0 ⟨251, 22, 251, 23⟩) /\ x4 = (PySem.Expr.Constant (PySem.Const.int 1) 0 ⟨251, 25, 251, 26⟩) /\ x5 = (PySem.Expr.Constant (PySem.Const.int 2) 0 ⟨251, 28, 251, 29⟩) /\ x6 = (PySem.Expr.Constant (PySem.Const.int 2) 0 ⟨251, 31, 251, 32⟩) /\ x7 = (PySem.Expr.Constant (PySem.Const.int 3) 0 ⟨251, 34, 251, 35⟩) /\ x8 = (PySem.Expr.Constant (PySem.Const.int 4) 0 ⟨251, 37, 251, 38⟩) /\ x9 = (PySem.Expr.Constant (PySem.Const.int 0) 0 ⟨252, 17, 252, 18⟩) /\ x10 = (PySem.Expr.Constant (PySem.Const.int 1) 0 ⟨252, 20, 252, 21⟩) /\ x11 = (PySem.Expr.Constant (PySem.Const.int 1) 0 ⟨252, 23, 252, 24⟩) /\ x12 = (PySem.Expr.Constant (PySem.Const.int 1) 0 ⟨252, 26, 252, 27⟩) /\ x13 = (PySem.Expr.Constant (PySem.Const.int 2) 0 ⟨252, 29, 252, 30⟩) /\ x14 = (PySem.Expr.Constant (PySem.Const.int 2) 0 ⟨252, 32, 252, 33⟩) /\ x15 = (PySem.Expr.Constant (PySem.Const.int 3) 0 ⟨252, 35, 252, 36⟩) /\ x16 = (PySem.Expr.Constant (PySem.Const.int 4) 0 ⟨252, 38, 252, 39⟩) /\ defBody s__law_sizes = [ (PySem.Stmt.Assign (targets := [(PySem.Expr.Name "_law_n" ⟨248, 4, 248, 10⟩)]) (value := (PySem.Expr.Call (func := (PySem.Expr.Name "_law_take" ⟨248, 13, 248, 22⟩)) (args := [ (PySem.Expr.Name "_law_bag_here" ⟨248, 23, 248, 36⟩), (PySem.Expr.Constant (PySem.Const.int 5) 0 ⟨248, 38, 248, 39⟩)]) (keywords := []) (pos := ⟨248, 13, 248, 40⟩))) (pos := ⟨248, 4, 248, 40⟩)), (PySem.Stmt.If (test := (PySem.Expr.Compare (left := (PySem.Expr.Call (func := (PySem.Expr.Name "_law_take" ⟨249, 7, 249, 16⟩)) (args := [ (PySem.Expr.Name "_law_bag_here" ⟨249, 17, 249, 30⟩), (PySem.Expr.Constant (PySem.Const.int 8) 0 ⟨249, 32, 249, 33⟩)]) (keywords := []) (pos := ⟨249, 7, 249, 34⟩))) (ops := [PySem.CmpOp.Eq]) (comparators := [(PySem.Expr.Constant (PySem.Const.int 7) 0 ⟨249, 38, 249, 39⟩)]) (pos := ⟨249, 7, 249, 39⟩))) (body := [ (PySem.Stmt.Assign (targets := [(PySem.Expr.Name "_law_n" ⟨250, 8, 250, 14⟩)]) (value := (PySem.Expr.Constant (PySem.Const.int 5) 0 ⟨250, 17, 250, 18⟩)) (pos := ⟨250, 8, 250, 18⟩))]) (orelse := []) (pos := ⟨249, 4, 250, 18⟩)), (PySem.Stmt.Assign (targets := [(PySem.Expr.Name "_law_ins" ⟨251, 4, 251, 12⟩)]) (value := (PySem.Expr.Subscript (value := (PySem.Expr.List (elts := [x1, x2, x3, x4, x5, x6, x7, x8]) (pos := ⟨251, 15, 251, 39⟩))) (slice := (PySem.Expr.Call (func := (PySem.Expr.Name "_law_take" ⟨251, 40, 251, 49⟩)) (args := [ (PySem.Expr.Name "_law_bag_here" ⟨251, 50, 251, 63⟩), (PySem.Expr.Constant (PySem.Const.int 8) 0 ⟨251, 65, 251, 66⟩)]) (keywords := []) (pos := ⟨251, 40, 251, 67⟩))) (pos := ⟨251, 15, 251, 68⟩))) (pos := ⟨251, 4, 251, 68⟩)), (PySem.Stmt.Assign (targets := [(PySem.Expr.Name "_law_outs" ⟨252, 4, 252, 13⟩)]) (value := (PySem.Expr.Subscript (value := (PySem.Expr.List (elts := [x9, x10, x11, x12, x13, x14, x15, x16]) (pos := ⟨252, 16, 252, 40⟩))) (slice := (PySem.Expr.Call (func := (PySem.Expr.Name "_law_take" ⟨252, 41, 252, 50⟩)) (args := [ (PySem.Expr.Name "_law_bag_here" ⟨252, 51, 252, 64⟩), (PySem.Expr.Constant (PySem.Const.int 8) 0 ⟨252, 66, 252, 67⟩)]) (keywords := []) (pos := ⟨252, 41, 252, 68⟩))) (pos := ⟨252, 16, 252, 69⟩))) (pos := ⟨252, 4, 252, 69⟩)), (PySem.Stmt.If (test := (PySem.Expr.Compare (left := (PySem.Expr.Name "_law_n" ⟨253, 7, 253, 13⟩)) (ops := [PySem.CmpOp.Eq]) (comparators := [(PySem.Expr.Constant (PySem.Const.int 5) 0 ⟨253, 17, 253, 18⟩)]) (pos := ⟨253, 7, 253, 18⟩))) (body := [ (PySem.Stmt.Assign (targets := [ (PySem.Expr.Tuple (elts := [(PySem.Expr.Name "_law_ins" ⟨254, 8, 254, 16⟩), (PySem.Expr.Name "_law_outs" ⟨254, 18, 254, 27⟩)]) (k := 0) (pos := ⟨254, 8, 254, 27⟩))]) (value := (PySem.Expr.Tuple (elts := [ (PySem.Expr.Call (func := (PySem.Expr.Name "min" ⟨254, 31, 254, 34⟩)) (args := [ (PySem.Expr.Name "_law_ins" ⟨254, 35, 254, 43⟩), (PySem.Expr.Constant (PySem.Const.int 2) 0 ⟨254, 45, 254, 46⟩)]) (keywords := []) (pos := ⟨254, 31, 254, 47⟩)), (PySem.Expr.Call (func := (PySem.Expr.Name "min" ⟨254, 49, 254, 52⟩)) (args := [ (PySem.Expr.Name "_law_outs" ⟨254, 53, 254, 62⟩), (PySem.Expr.Constant (PySem.Const.int 2) 0 ⟨254, 64, 254, 65⟩)]) (keywords := []) (pos := ⟨254, 49, 254, 66⟩))]) (k := 0) (pos := ⟨254, 30, 254, 67⟩))) (pos := ⟨254, 8, 254, 67⟩))]) (orelse := []) (pos := ⟨253, 4, 254, 67⟩)), (PySem.Stmt.Assign (targets := [(PySem.Expr.Name "_law_wide" ⟨255, 4, 255, 13⟩)]) (value := (PySem.Expr.Subscript (value := (PySem.Expr.List (elts := [ (PySem.Expr.Constant (PySem.Const.int 4) 0 ⟨255, 17, 255, 18⟩), (PySem.Expr.Constant (PySem.Const.int 4) 0 ⟨255, 20, 255, 21⟩), (PySem.Expr.Constant (PySem.Const.int 9) 0 ⟨255, 23, 255, 24⟩), (PySem.Expr.Constant (PySem.Const.int 1000000) 0 ⟨255, 26, 255, 33⟩)]) (pos := ⟨255, 16, 255, 34⟩))) (slice := (PySem.Expr.Call (func := (PySem.Expr.Name "_law_take" ⟨255, 35, 255, 44⟩)) (args := [ (PySem.Expr.Name "_law_bag_here" ⟨255, 45, 255, 58⟩), (PySem.Expr.Constant (PySem.Const.int 4) 0 ⟨255, 60, 255, 61⟩)]) (keywords := []) (pos := ⟨255, 35, 255, 62⟩))) (pos := ⟨255, 16, 255, 63⟩))) (pos := ⟨255, 4, 255, 63⟩)), (PySem.Stmt.If (test := (PySem.Expr.Compare (left := (PySem.Expr.Name "_law_wide" ⟨256, 7, 256, 16⟩)) (ops := [PySem.CmpOp.Gt]) (comparators := [(PySem.Expr.Constant (PySem.Const.int 9) 0 ⟨256, 19, 256, 20⟩)]) (pos := ⟨256, 7, 256, 20⟩))) (body := [ (PySem.Stmt.Assign (targets := [(PySem.Expr.Name "_law_n" ⟨257, 8, 257, 14⟩)]) (value := (PySem.Expr.Call (func := (PySem.Expr.Name "min" ⟨257, 17, 257, 20⟩)) (args := [ (PySem.Expr.Name "_law_n" ⟨257, 21, 257, 27⟩), (PySem.Expr.Constant (PySem.Const.int 2) 0 ⟨257, 29, 257, 30⟩)]) (keywords := []) (pos := ⟨257, 17, 257, 31⟩))) (pos := ⟨257, 8, 257, 31⟩))]) (orelse := []) (pos := ⟨256, 4, 257, 31⟩)), (PySem.Stmt.Return (value := (some (PySem.Expr.Tuple (elts := [ (PySem.Expr.Name "_law_n" ⟨258, 12, 258, 18⟩), (PySem.Expr.Name "_law_ins" ⟨258, 20, 258, 28⟩), (PySem.Expr.Name "_law_outs" ⟨258, 30, 258, 39⟩), (PySem.Expr.Name "_law_wide" ⟨258, 41, 258, 50⟩)]) (k := 0) (pos := ⟨258, 11, 258, 51⟩)))) (pos := ⟨258, 4, 258, 51⟩))] := ⟨_, _, _, _, _, _, _, _, _, _, _, _, _, _, _, _, rfl, rfl, rfl, rfl, rfl, rfl, rfl, rfl, rfl, rfl, rfl, rfl, rfl, rfl, rfl, rfl, by with_unfolding_all rfl⟩

theorem sc__law_sizes : FnScope ["_law_bag_here", "_law_n", "_law_ins", "_law_outs", "_law_wide"] ["_law_bag_here"] (defScope s__law_sizes) := ⟨rfl, rfl, rfl, by decide +kernel, rfl, by decide +kernel, by decide +kernel⟩
theorem ok__law_sizes (T : Txt K mg Z) : FnOk P w K mg base CX0 2 Z.a__law_sizes Z.d__law_sizes ["_law_bag_here"] sp_sizesS := by
 have G__law_take := ok__law_take (P := P) (w := w) (base := base) T
 refine T.F__law_sizes.ok sc__law_sizes (fun vs H Q E h => ?_) (fun cdv A outer s H vs Q E hr h => ?_)
 ·obtain ⟨b, rfl, hB, k⟩ := h
  rfl
 ·obtain ⟨b, rfl, hB, k⟩ := h
  obtain ⟨x1, x2, x3, x4, x5, x6, x7, x8, x9, x10, x11, x12, x13, x14, x15, x16, hx1, hx2, hx3, hx4, hx5, hx6, hx7, hx8, hx9, hx10, hx11, hx12, hx13, hx14, hx15, hx16, hbd⟩ := bd__law_sizes
  rw [hbd]
  refine ⟨_, (pss_cons (ps_set (i := 1) sc__law_sizes.nd rfl (Or.inl rfl) (pe_call G__law_take (hr.mono (by decide)) rfl T.mg__law_take T.F__law_take.kp T.b__law_take .nil pass0 (pa_cons (pv 0) (pa_cons pe_int pa_nil))))
   (pss_consM (ps_if (pt_cmpR op_eq (pe_call G__law_take (hr.mono (by decide)) rfl T.mg__law_take T.F__law_take.kp T.b__law_take .nil pass0 (pa_cons (pv 0) (pa_cons pe_int pa_nil))) pe_int (nomark _)) (pss_one (ps_set (i := 1) sc__law_sizes.nd rfl (Or.inl rfl) pe_int)) pss_nil)
   (pss_cons (ps_set (i := 2) sc__law_sizes.nd rfl (Or.inl rfl) (pe_ix ix_list (pe_lst (pa_consE hx1 pe_int (pa_consE hx2 pe_int (pa_consE hx3 pe_int (pa_consE hx4 pe_int (pa_consE hx5 pe_int (pa_consE hx6 pe_int (pa_consE hx7 pe_int (pa_consE hx8 pe_int pa_nil))))))))) (pe_call G__law_take (hr.mono (by decide)) rfl T.mg__law_take T.F__law_take.kp T.b__law_take .nil pass0 (pa_cons (pv 0) (pa_cons pe_int pa_nil))) (by intro _ _; rfl)))
   (pss_cons (ps_set (i := 3) sc__law_sizes.nd rfl (Or.inl rfl) (pe_ix ix_list (pe_lst (pa_consE hx9 pe_int (pa_consE hx10 pe_int (pa_consE hx11 pe_int (pa_consE hx12 pe_int (pa_consE hx13 pe_int (pa_consE hx14 pe_int (pa_consE hx15 pe_int (pa_consE hx16 pe_int pa_nil))))))))) (pe_call G__law_take (hr.mono (by decide)) rfl T.mg__law_take T.F__law_take.kp T.b__law_take .nil pass0 (pa_cons (pv 0) (pa_cons pe_int pa_nil))) (by intro _ _; rfl)))
   (pss_consM (ps_if (pt_cmpR op_eq (pv 1) pe_int (nomark _)) (pss_one (ps_par (i := 2) (j := 3) rfl sc__law_sizes.nd rfl rfl (by decide) rfl rfl (pa_cons (pe_callB (call_min2 rfl) (by rfl) T.min PyProof.Rows.boot_min (pa_cons (pv 2) (pa_cons pe_int pa_nil))) (pa_cons (pe_callB (call_min2 rfl) (by rfl) T.min PyProof.Rows.boot_min (pa_cons (pv 3) (pa_cons pe_int pa_nil))) pa_nil)) rfl)) pss_nil)
   (pss_cons (ps_set (i := 4) sc__law_sizes.nd rfl (Or.inl rfl) (pe_ix ix_list (pe_lst (pa_cons pe_int (pa_cons pe_int (pa_cons pe_int (pa_cons pe_int pa_nil))))) (pe_call G__law_take (hr.mono (by decide)) rfl T.mg__law_take T.F__law_take.kp T.b__law_take .nil pass0 (pa_cons (pv 0) (pa_cons pe_int pa_nil))) (by intro _ _; rfl)))
   (pss_consM (ps_if (pt_cmpR op_gt (pv 4) pe_int (nomark _)) (pss_one (ps_set (i := 1) sc__law_sizes.nd rfl (Or.inl rfl) (pe_callB (call_min2 rfl) (by rfl) T.min PyProof.Rows.boot_min (pa_cons (pv 1) (pa_cons pe_int pa_nil))))) pss_nil)
   (pss_one (ps_ret (pe_tup (pa_cons (pv 1) (pa_cons (pv 2) (pa_cons (pv 3) (pa_cons (pv 4) pa_nil)))))))))))))), ?_⟩
  refine rd_start (σ := [some (.ref b), none, none, none, none]) rfl ?_
  walk_at "w"
  refine ⟨b, 5, rfl, hB, by decide, by decide, fun n H1 n0 n1 B1 u1 => ?_⟩
  obtain ⟨n, rfl⟩ := Int.eq_ofNat_of_zero_le n0
  walk_at "w"
  refine ⟨fun σ' H' => (∃ n : Nat, σ' = [some (.ref b), some (.int n), none, none, none] /\ n <= 5) /\ Bag H' b /\ Upto b H H', ?_, ?_⟩
  ·walk_at "w"
   refine ⟨b, 8, rfl, B1, by decide, by decide, fun v H2 v0 v1 B2 u2 => ?_⟩
   walk_at "w"
   refine ite2 (fun _ => ?_) (fun _ => ?_)
   ·walk_at "w"
    exact ⟨⟨5, rfl, by decide⟩, B2, u1.trans u2⟩
   ·walk_at "w"
    exact ⟨⟨n, rfl, by omega⟩, B2, u1.trans u2⟩
  clear n0 n1 u1 B1
  rintro σ' H1 ⟨⟨n, rfl, n5⟩, B1, u1⟩
  walk_at "w"
  refine rd_newL fun l0 H2 s2 n2 g2 => ?_
  walk_at "w"
  refine ⟨b, 8, rfl, B1.same s2, by decide, by decide, fun v H3 v0 v1 B3 u3 => ?_⟩
  have g3 := u3.other (fun z => B1.at (by rw [<- z]; exact n2)) g2
  obtain ⟨x, ex, mx, _⟩ := atI_some (xs := [V.int 0, V.int 1, V.int 1, V.int 1, V.int 2, V.int 2, V.int 3, V.int 4]) v0 (by simpa using v1)
  obtain ⟨i, rfl, hi⟩ : ∃ z : Nat, x = .int z /\ z <= 4 := by
   simp only [List.mem_cons, List.not_mem_nil, or_false] at mx
   rcases mx with rfl | rfl | rfl | rfl | rfl | rfl | rfl | rfl
   ·exact ⟨0, rfl, by decide⟩
   ·exact ⟨1, rfl, by decide⟩
   ·exact ⟨1, rfl, by decide⟩
   ·exact ⟨1, rfl, by decide⟩
   ·exact ⟨2, rfl, by decide⟩
   ·exact ⟨2, rfl, by decide⟩
   ·exact ⟨3, rfl, by decide⟩
   ·exact ⟨4, rfl, by decide⟩
  walk_at "w"
  refine rd_ixL (SqL.of g3) ex ?_
  clear ex mx g3 g2
  walk_at "w"
  refine rd_newL fun l1 H4 s4 n4 g4 => ?_
  walk_at "w"
  refine ⟨b, 8, rfl, B3.same s4, by decide, by decide, fun t H5 t0 t1 B5 u5 => ?_⟩
  have g5 := u5.other (fun z => B3.at (by rw [<- z]; exact n4)) g4
  obtain ⟨x, ex, mx, _⟩ := atI_some (xs := [V.int 0, V.int 1, V.int 1, V.int 1, V.int 2, V.int 2, V.int 3, V.int 4]) t0 (by simpa using t1)
  obtain ⟨o, rfl, ho⟩ : ∃ z : Nat, x = .int z /\ z <= 4 := by
   simp only [List.mem_cons, List.not_mem_nil, or_false] at mx
   rcases mx with rfl | rfl | rfl | rfl | rfl | rfl | rfl | rfl
   ·exact ⟨0, rfl, by decide⟩
   ·exact ⟨1, rfl, by decide⟩
   ·exact ⟨1, rfl, by decide⟩
   ·exact ⟨1, rfl, by decide⟩
   ·exact ⟨2, rfl, by decide⟩
   ·exact ⟨2, rfl, by decide⟩
   ·exact ⟨3, rfl, by decide⟩
   ·exact ⟨4, rfl, by decide⟩
  walk_at "w"
  refine rd_ixL (SqL.of g5) ex ?_
  clear ex mx g5 g4
  have u15 := (((u1.same s2).trans u3).same s4).trans u5
  walk_at "w"
  refine ⟨fun σ' H' => (∃ i o : Nat, σ' = [some (.ref b), some (.int n), some (.int i), some (.int o), none] /\ i <= 4 /\ o <= 4 /\ (n = 5 -> i <= 2 /\ o <= 2)) /\ Bag H' b /\ Upto b H H', ?_, ?_⟩
  ·walk_at "w"
   refine ite2 (fun h0 => ?_) (fun h0 => ?_)
   ·walk_at "w"
    refine ⟨⟨min i 2, min o 2, ?_, by omega, by omega, fun _ => ⟨by omega, by omega⟩⟩, B5, u15⟩
    have e1 : (if (2 : Int) < (i : Int) then (2 : Int) else (i : Int)) = ((min i 2 : Nat) : Int) := by split <;> omega
    have e2 : (if (2 : Int) < (o : Int) then (2 : Int) else (o : Int)) = ((min o 2 : Nat) : Int) := by split <;> omega
    rw [<- e1, <- e2]
    rfl
   ·walk_at "w"
    exact ⟨⟨i, o, rfl, hi, ho, fun z => absurd (decide_eq_true (show (n : Int) = 5 by omega)) h0⟩, B5, u15⟩
  clear hi ho u15 B5 u5 u3 u1
  rintro σ' H5 ⟨⟨i, o, rfl, hi, ho, h5⟩, B5, u5⟩
  walk_at "w"
  refine rd_newL fun l2 H6 s6 n6 g6 => ?_
  walk_at "w"
  refine ⟨b, 4, rfl, B5.same s6, by decide, by decide, fun v H7 v0 v1 B7 u7 => ?_⟩
  have g7 := u7.other (fun z => B5.at (by rw [<- z]; exact n6)) g6
  obtain ⟨x, ex, mx, _⟩ := atI_some (xs := [V.int 4, V.int 4, V.int 9, V.int 1000000]) v0 (by simpa using v1)
  obtain ⟨w, rfl, hw⟩ : ∃ w : Nat, x = .int w /\ (w = 4 ∨ w = 9 ∨ w = 1000000) := by
   simp only [List.mem_cons, List.not_mem_nil, or_false] at mx
   rcases mx with rfl | rfl | rfl | rfl
   ·exact ⟨4, rfl, .inl rfl⟩
   ·exact ⟨4, rfl, .inl rfl⟩
   ·exact ⟨9, rfl, .inr (.inl rfl)⟩
   ·exact ⟨1000000, rfl, .inr (.inr rfl)⟩
  walk_at "w"
  refine rd_ixL (SqL.of g7) ex ?_
  have u07 := (u5.same s6).trans u7
  walk_at "w"
  refine ⟨fun σ' H' => (∃ n : Nat, σ' = [some (.ref b), some (.int n), some (.int i), some (.int o), some (.int w)] /\ n <= 5 /\ (w = 4 ∨ w = 9 ∨ (w = 1000000 /\ n <= 2)) /\ (n = 5 -> i <= 2 /\ o <= 2)) /\ Bag H' b /\ Upto b H H', ?_, ?_⟩
  ·walk_at "w"
   refine ite2 (fun h0 => ?_) (fun h0 => ?_)
   ·walk_at "w"
    refine ⟨⟨min n 2, ?_, by omega, by omega, fun z => by omega⟩, B7, u07⟩
    have e1 : (if (2 : Int) < (n : Int) then (2 : Int) else (n : Int)) = ((min n 2 : Nat) : Int) := by split <;> omega
    rw [<- e1]
    rfl
   ·walk_at "w"
    refine ⟨⟨n, rfl, n5, ?_, h5⟩, B7, u07⟩
    rcases hw with z | z | z
    ·exact .inl z
    ·exact .inr (.inl z)
    ·exact absurd (decide_eq_true (show (9 : Int) < (w : Int) by omega)) h0
  ·clear h5 n5
   rintro σ' H8 ⟨⟨n', rfl, n5, hwn, h5⟩, B8, u8⟩
   walk_at "w"
   refine rd_newT fun r H9 s9 g9 => ?_
   exact k r n' i o w H9 g9 n5 hi ho hwn h5 (B8.same s9) (u8.same s9)
theorem sc__law_line : FnScope ["_law_bag_here", "_law_n", "_law_move_here", "_law_at", "_law_put", "_law_first", "_law_look"] ["_law_bag_here", "_law_n"] (defScope s__law_line) := ⟨rfl, rfl, rfl, by decide +kernel, rfl, by decide +kernel, by decide +kernel⟩
theorem ok__law_line (T : Txt K mg Z) : FnOk P w K mg base CX0 2 Z.a__law_line Z.d__law_line ["_law_bag_here", "_law_n"] (sp_lineN K) := by
 have G__law_take := ok__law_take (P := P) (w := w) (base := base) T
 refine T.F__law_line.ok sc__law_line (fun vs H Q E h => ?_) (fun cdv A outer s H vs Q E hr h => ?_)
 ·obtain ⟨b, n, rfl, hB, n1, n8, k⟩ := h
  rfl
 ·obtain ⟨b, n, rfl, hB, n1, n8, k⟩ := h
  refine ⟨_, (pss_cons (ps_setC 2 ["_law_i"] ["_law_n"] [1] sc__law_line.nd rfl rfl (pi_range1 rfl T.range (pa_cons (pv 1) pa_nil)) (fun _ => (pg_name (i := 0) (show List.Nodup (α := PySem.Str) ["_law_i", "_law_n"] by decide +kernel) rfl (Or.inr rfl) (Or.inl rfl))) (fun _ => pf_nil) (fun _ => (pe_comp ["_law_j"] ["_law_i"] [0] (pi_range1 rfl T.range (pa_cons (pv 1) pa_nil)) (fun _ => (pg_name (i := 0) (show List.Nodup (α := PySem.Str) ["_law_j", "_law_i"] by decide +kernel) rfl (Or.inl rfl) (Or.inl rfl))) (fun _ => pf_nil) (fun _ => (pe_tup (pa_cons (pe_callTy call_intB (by rfl) T.int PyProof.Rows.boot_int (pa_cons (pe_cmpR op_eq (pv 0) (pe_op op_add (pv 1) pe_int) (nomark _)) pa_nil)) (pa_cons pe_int pa_nil)))))))
   (pss_cons (ps_asg (pe_comp ["_law_j"] ["_law_bag_here"] [0] (pi_range1 rfl T.range (pa_cons (pv 1) pa_nil)) (fun _ => (pg_name (i := 0) (show List.Nodup (α := PySem.Str) ["_law_j", "_law_bag_here"] by decide +kernel) rfl (Or.inl rfl) (Or.inl rfl))) (fun _ => pf_nil) (fun _ => (pe_tup (pa_cons (pe_op op_sub (pe_call G__law_take (hr.mono (by decide)) rfl T.mg__law_take T.F__law_take.kp T.b__law_take .nil pass0 (pa_cons (pv 1) (pa_cons pe_int pa_nil))) pe_int) (pa_cons pe_int pa_nil))))) (pg_sub (pv 2) (pe_op op_sub (pv 1) pe_int) set_list))
   (pss_cons (ps_set (i := 3) sc__law_line.nd rfl (Or.inr rfl) (pe_ix ix_list (pe_lst (pa_cons (pe_op op_sub (pv 1) pe_int) (pa_cons (pe_call G__law_take (hr.mono (by decide)) rfl T.mg__law_take T.F__law_take.kp T.b__law_take .nil pass0 (pa_cons (pv 0) (pa_cons (pv 1) pa_nil))) pa_nil))) (pe_call G__law_take (hr.mono (by decide)) rfl T.mg__law_take T.F__law_take.kp T.b__law_take .nil pass0 (pa_cons (pv 0) (pa_cons pe_int pa_nil))) (by intro _ _; rfl)))
   (pss_cons (ps_set (i := 4) sc__law_line.nd rfl (Or.inl rfl) (pe_lst (pa_cons (pe_comp ["_law_j"] ["_law_at"] [3] (pi_range1 rfl T.range (pa_cons (pv 1) pa_nil)) (fun _ => (pg_name (i := 0) (show List.Nodup (α := PySem.Str) ["_law_j", "_law_at"] by decide +kernel) rfl (Or.inl rfl) (Or.inl rfl))) (fun _ => pf_nil) (fun _ => (pe_tup (pa_cons (pe_callTy call_intB (by rfl) T.int PyProof.Rows.boot_int (pa_cons (pe_cmpR op_eq (pv 0) (pv 1) (nomark _)) pa_nil)) (pa_cons pe_int pa_nil))))) pa_nil)))
   (pss_cons (ps_set (i := 5) sc__law_line.nd rfl (Or.inr rfl) (pe_ix ix_list (pe_lst (pa_cons pe_int (pa_cons pe_int (pa_cons (pe_call G__law_take (hr.mono (by decide)) rfl T.mg__law_take T.F__law_take.kp T.b__law_take .nil pass0 (pa_cons (pv 0) (pa_cons (pv 1) pa_nil))) pa_nil)))) (pe_call G__law_take (hr.mono (by decide)) rfl T.mg__law_take T.F__law_take.kp T.b__law_take .nil pass0 (pa_cons (pv 0) (pa_cons pe_int pa_nil))) (by intro _ _; rfl)))
   (pss_cons (ps_set (i := 6) sc__law_line.nd rfl (Or.inl rfl) (pe_lst (pa_cons (pe_comp ["_law_j"] ["_law_first"] [5] (pi_range1 rfl T.range (pa_cons (pv 1) pa_nil)) (fun _ => (pg_name (i := 0) (show List.Nodup (α := PySem.Str) ["_law_j", "_law_first"] by decide +kernel) rfl (Or.inl rfl) (Or.inl rfl))) (fun _ => pf_nil) (fun _ => (pe_tup (pa_cons (pe_callTy call_intB (by rfl) T.int PyProof.Rows.boot_int (pa_cons (pe_cmpR op_eq (pv 0) (pv 1) (nomark _)) pa_nil)) (pa_cons pe_int pa_nil))))) pa_nil)))
   (pss_one (ps_ret (pe_tup (pa_cons (pv 2) (pa_cons (pv 4) (pa_cons (pv 6) pa_nil)))))))))))), ?_⟩
  refine rd_start (σ := [some (.ref b), some (.int n), none, none, none, none, none]) rfl ?_
  have bit : ∀ {z : Int}, ∀ y ∈ (List.range n).map (fun (j : Nat) => (((if decide ((j : Int) = z) = true then 1 else 0 : Int)) : Rat)), Fr 1 1 y := fun y hy => by
   obtain ⟨j, _, rfl⟩ := List.mem_map.mp hy
   exact sh_gf (by split <;> simp)
  walk_at "w"
  refine ⟨by omega, by omega, ?_⟩
  refine comp_mapR (n := n) (RowF K H) (fun (i : Nat) => (List.range n).map fun (j : Nat) => (((if decide ((j : Int) = (i : Int) + 1) = true then 1 else 0 : Int)) : Rat)) (by omega) (fun a b => a.same b) ?_ ?_
  ·rintro i Hb NY NN hi sa k1
   walk_at "w"
   refine ⟨by omega, by omega, ?_⟩
   refine comp_mapR (n := n) (NumQ K) (fun (j : Nat) => (((if decide ((j : Int) = (i : Int) + 1) = true then 1 else 0 : Int)) : Rat)) (by omega) (fun a b => a.same b) ?_ ?_
   ·rintro j Hz NY2 NN2 hj sz k2
    walk_at "w"
    refine rd_newT fun t Hy sy gy => ?_
    exact k2 _ _ sy (NumQ.mk gy rfl)
   ·rintro ys Hz t ht sz g pr nx
    exact k1 _ _ sz ⟨t, rfl, sa.none ht, ys, g, pr⟩
  rintro ys H1 mm hm s1 g1 pr1 nx1
  have G1 : GridQ K H H1 mm ((List.range n).map fun (i : Nat) => (List.range n).map fun (j : Nat) => (((if decide ((j : Int) = (i : Int) + 1) = true then 1 else 0 : Int)) : Rat)) := ⟨ys, g1, pr1, notin nx1⟩
  clear g1 pr1 nx1
  have B1 := hB.same s1
  have mb : mm ≠ b := fun z => hB.at (by rw [<- z]; exact hm)
  obtain ⟨q0, I0, xq, gq0⟩ := hB.inner
  have mq : mm ≠ q0 := fun z => by rw [<- z, hm] at gq0; cases gq0
  walk_at "w"
  refine ⟨by omega, by omega, ?_⟩
  refine comp_bagR (n := n) (b := b) (NumQ K) (Fr 1 1) B1 (by omega) (fun a u B => a.upto u B) ?_ ?_
  ·rintro j Ha NY NN hj ua Ba k1
   walk_at "w"
   refine ⟨b, 3, rfl, Ba, by decide, by decide, fun v Hb v0 v1 Bb ub => ?_⟩
   walk_at "w"
   refine rd_newT fun t Hc sc gc => ?_
   exact k1 _ ((v - 1 : Int) : Rat) _ (ub.same sc) (Bb.same sc) (Fr.int (by omega)) (NumQ.mk gc rfl)
  rintro ys2 cs H2 q2 hq2 u2 B2 g2 lc hc pr2 _
  have u02 := (s1.upto (p := b)).trans u2
  have nq2 : H q2 = none := s1.none hq2
  obtain ⟨us, gu, pu⟩ := (G1.upto u2 B1 mb hB.at).toE
  have lu := pu.length
  rw [List.length_map, List.length_range] at lu
  have q2m : q2 ≠ mm := fun z => by
   obtain ⟨_, gg, _⟩ := id G1
   rw [z, gg] at hq2
   cases hq2
  walk_at "w"
  rw [show ((n : Int) - 1) = ((n - 1 : Nat) : Int) by omega]
  refine rd_setL gu (ixN_nat (by omega)) rfl ?_
  have G3 : GridQ K H (upd H2 mm (.lst (us.set (n - 1) (.ref q2)))) mm (((List.range n).map fun (i : Nat) => (List.range n).map fun (j : Nat) => (((if decide ((j : Int) = (i : Int) + 1) = true then 1 else 0 : Int)) : Rat)).set (n - 1) cs) := GridQ.ofE upd_same (paired_put (Paired.imp' (fun _ _ z => RowE.updL z gu (fun q h => h.2)) pu) (n - 1) ⟨q2, rfl, ⟨nq2, q2m⟩, RowQ.updL ⟨ys2, g2, pr2⟩ gu q2m⟩) (fun q h => h.1) (fun q h => h.2)
  have B3 : Bag (upd H2 mm (.lst (us.set (n - 1) (.ref q2)))) b := B2.upd (u02.2 _ I0) mb mq
  have u03 : Upto b H (upd H2 mm (.lst (us.set (n - 1) (.ref q2)))) := u02.after hm
  obtain ⟨mv, emv⟩ : ∃ mv, mv = ((List.range n).map fun (i : Nat) => (List.range n).map fun (j : Nat) => (((if decide ((j : Int) = (i : Int) + 1) = true then 1 else 0 : Int)) : Rat)).set (n - 1) cs := ⟨_, rfl⟩
  have lmv : mv.length = n := by rw [emv, List.length_set, List.length_map, List.length_range]
  have hmv : ∀ xs ∈ mv, xs.length = n /\ ∀ y ∈ xs, Fr 1 1 y := fun xs hx => by
   rw [emv] at hx
   rcases List.mem_or_eq_of_mem_set hx with hx | rfl
   ·obtain ⟨i, _, rfl⟩ := List.mem_map.mp hx
    exact ⟨by rw [List.length_map, List.length_range], bit⟩
   ·exact ⟨lc, hc⟩
  rw [<- emv] at G3
  generalize upd H2 mm (.lst (us.set (n - 1) (.ref q2))) = H3 at G3 B3 u03 ⊢
  clear emv pu gu G1 u2 pr2 g2 B2
  walk_at "w"
  refine ⟨b, n, rfl, B3, by omega, by omega, fun a1 H4 a10 a11 B4 u4 => ?_⟩
  walk_at "w"
  refine rd_newL fun l1 H5 s5 nl1 g5 => ?_
  walk_at "w"
  refine ⟨b, 2, rfl, B4.same s5, by decide, by decide, fun v H6 v0 v1 B6 u6 => ?_⟩
  have g6 := u6.other (fun z => B4.at (by rw [<- z]; exact nl1)) g5
  obtain ⟨x, ex, mx, _⟩ := atI_some (xs := [V.int ((n : Int) - 1), V.int a1]) v0 (by simpa using v1)
  obtain ⟨at', rfl⟩ : ∃ a : Int, x = .int a := by
   simp only [List.mem_cons, List.not_mem_nil, or_false] at mx
   rcases mx with rfl | rfl
   ·exact ⟨_, rfl⟩
   ·exact ⟨_, rfl⟩
  walk_at "w"
  refine rd_ixL (SqL.of g6) ex ?_
  have u36 := (u4.same s5).trans u6
  have G6 := G3.upto u36 B3 mb hB.at
  have u06 := u03.trans u36
  clear ex mx g6 g5 G3 u4 u6
  walk_at "w"
  refine ⟨by omega, by omega, ?_⟩
  refine comp_mapR (n := n) (NumQ K) (fun (j : Nat) => (((if decide ((j : Int) = at') = true then 1 else 0 : Int)) : Rat)) (by omega) (fun a b => a.same b) ?_ ?_
  ·rintro j Hz NY2 NN2 hj sz k2
   walk_at "w"
   refine rd_newT fun t Hy sy gy => ?_
   exact k2 _ _ sy (NumQ.mk gy rfl)
  rintro ys7 H7 q7 hq7 s7 g7 pr7 _
  have R7 : RowQ K H7 q7 _ := ⟨ys7, g7, pr7⟩
  walk_at "w"
  refine rd_newL fun p8 H8 s8 n8' g8 => ?_
  have s68 := s7.trans s8
  have q78 : q7 ≠ p8 := fun z => by rw [z, n8'] at g7; cases g7
  have np8 : H p8 = none := u06.none B6 (s7.none n8')
  have nq7 : H q7 = none := u06.none B6 hq7
  have GP : GridQ K H H8 p8 [(List.range n).map fun (j : Nat) => (((if decide ((j : Int) = at') = true then 1 else 0 : Int)) : Rat)] := ⟨_, g8, .cons ⟨q7, rfl, nq7, R7.same s8⟩ .nil, fun z => by
   rw [List.mem_singleton] at z
   cases z
   exact q78 rfl⟩
  have B8 := B6.same s68
  have u08 := u06.same s68
  have G8 := G6.same s68
  have pb : p8 ≠ b := fun z => hB.at (by rw [<- z]; exact np8)
  walk_at "w"
  refine ⟨b, n, rfl, B8, by omega, by omega, fun a2 H9 a20 a21 B9 u9 => ?_⟩
  walk_at "w"
  refine rd_newL fun l2 Ha sa nl2 ga => ?_
  walk_at "w"
  refine ⟨b, 3, rfl, B9.same sa, by decide, by decide, fun v' Hb v0' v1' Bb ub => ?_⟩
  have gb := ub.other (fun z => B9.at (by rw [<- z]; exact nl2)) ga
  obtain ⟨x, ex, mx, _⟩ := atI_some (xs := [V.int 0, V.int 0, V.int a2]) v0' (by simpa using v1')
  obtain ⟨fi, rfl⟩ : ∃ a : Int, x = .int a := by
   simp only [List.mem_cons, List.not_mem_nil, or_false] at mx
   rcases mx with rfl | rfl | rfl
   ·exact ⟨_, rfl⟩
   ·exact ⟨_, rfl⟩
   ·exact ⟨_, rfl⟩
  walk_at "w"
  refine rd_ixL (SqL.of gb) ex ?_
  have u8b := (u9.same sa).trans ub
  have Gb := G8.upto u8b B8 mb hB.at
  have GPb := GP.upto u8b B8 pb hB.at
  have u0b := u08.trans u8b
  clear ex mx gb ga G8 GP u9 ub
  walk_at "w"
  refine ⟨by omega, by omega, ?_⟩
  refine comp_mapR (n := n) (NumQ K) (fun (j : Nat) => (((if decide ((j : Int) = fi) = true then 1 else 0 : Int)) : Rat)) (by omega) (fun a b => a.same b) ?_ ?_
  ·rintro j Hz NY2 NN2 hj sz k2
   walk_at "w"
   refine rd_newT fun t Hy sy gy => ?_
   exact k2 _ _ sy (NumQ.mk gy rfl)
  rintro ysc Hc qc hqc sc gc prc _
  have Rc : RowQ K Hc qc _ := ⟨ysc, gc, prc⟩
  walk_at "w"
  refine rd_newL fun pd Hd sd nd gd => ?_
  have sbd := sc.trans sd
  have qcd : qc ≠ pd := fun z => by rw [z, nd] at gc; cases gc
  have npd : H pd = none := u0b.none Bb (sc.none nd)
  have nqc : H qc = none := u0b.none Bb hqc
  have GL : GridQ K H Hd pd [(List.range n).map fun (j : Nat) => (((if decide ((j : Int) = fi) = true then 1 else 0 : Int)) : Rat)] := ⟨_, gd, .cons ⟨qc, rfl, nqc, Rc.same sd⟩ .nil, fun z => by
   rw [List.mem_singleton] at z
   cases z
   exact qcd rfl⟩
  walk_at "w"
  refine rd_newT fun r He se ge => ?_
  have sbe := sbd.trans se
  refine k r mv _ _ He ⟨mm, p8, pd, ge, hm, np8, npd, Gb.same sbe, GPb.same sbe, GL.same se⟩ lmv rfl rfl ⟨by omega, by simp, by simp, fun xs hx => by rw [(hmv xs hx).1, lmv], fun xs hx => ?_, fun xs hx => ?_⟩ (fun xs hx => (hmv xs hx).2) (fun xs hx => ?_) (fun xs hx => ?_) (Bb.same sbe) (u0b.same sbe)
  ·rw [List.mem_singleton.mp hx, List.length_map, List.length_range, lmv]
  ·rw [List.mem_singleton.mp hx, List.length_map, List.length_range, lmv]
  ·rw [List.mem_singleton.mp hx]; exact bit
  ·rw [List.mem_singleton.mp hx]; exact bit
theorem sc__law_low : FnScope ["_law_top", "_law_bottom", "_law_one", "_law_other"] ["_law_top", "_law_bottom"] (defScope s__law_low) := ⟨rfl, rfl, rfl, by decide +kernel, rfl, by decide +kernel, by decide +kernel⟩
theorem ok__law_low (T : Txt K mg Z) : FnOk P w K mg base CX0 1 Z.a__law_low Z.d__law_low ["_law_top", "_law_bottom"] sp_low := by
 refine T.F__law_low.ok sc__law_low (fun vs H Q E h => ?_) (fun cdv A outer s H vs Q E hr h => ?_)
 ·obtain ⟨t, b, rfl, hb, hs, k⟩ := h
  rfl
 ·obtain ⟨t, b, rfl, hb, hs, k⟩ := h
  refine ⟨_, (pss_cons (ps_set (i := 2) sc__law_low.nd rfl (Or.inl rfl) (pe_callB call_abs (by rfl) T.abs PyProof.Rows.boot_abs (pa_cons (pv 0) pa_nil)))
   (pss_cons (ps_set (i := 3) sc__law_low.nd rfl (Or.inl rfl) (pv 1))
   (pss_cons (ps_while PassesOwn.never (pt_cmpR op_ne (pv 2) pe_int (nomark _))
    (pss_one (ps_par (i := 2) (j := 3) rfl sc__law_low.nd rfl rfl (by decide) rfl rfl (pa_cons (pe_op op_mod (pv 3) (pv 2)) (pa_cons (pv 2) pa_nil)) rfl)))
   (pss_one (ps_ret (pe_tup (pa_cons (pe_op op_fdivS (pv 0) (pv 3)) (pa_cons (pe_op op_fdivS (pv 1) (pv 3)) pa_nil)))))))), ?_⟩
  refine rd_start (σ := [some (.int t), some (.int b), none, none]) rfl ?_
  walk_at "w"
  refine while_i (fun σ' H' => ∃ (u v : Int), σ' = [some (.int t), some (.int b), some (.int u), some (.int v)] /\ H' = H /\ 0 <= u /\ 0 < v /\ Int.gcd u v = Int.gcd t b) (fun σ' _ => match σ' with | [_, _, some (.int u), _] => u.natAbs | _ => 0) ⟨_, b, rfl, rfl, by split <;> omega, hb, by
   split
   ·rw [Int.neg_gcd]
   ·rfl⟩ ?_
  rintro σ' H' ⟨u, v, rfl, rfl, hu, hv, hg⟩
  walk_at "w"
  refine ite2 (fun h => ?_) (fun h => ?_)
  ·have hu0 : u ≠ 0 := fun z => by subst z; simp at h
   walk_at "w"
   refine rd_I (show (0 : Int) < u by omega) ?_
   walk_at "w"
   have h1 := Int.emod_nonneg v hu0
   have h2 := Int.emod_lt_of_pos v (show 0 < u by omega)
   exact ⟨⟨v % u, u, rfl, rfl, h1, by omega, by rw [Int.gcd_comm, gcd_emod, Int.gcd_comm]; exact hg⟩, by show (v % u).natAbs < u.natAbs; omega⟩
  ·have hu0 : u = 0 := by
    by_cases z : u = 0
    ·exact z
    ·exfalso; apply h; simp [z]
   subst hu0
   have e : v = g t b := by
    unfold g
    rw [<- hg, Int.gcd_zero_left]
    omega
   have hgs : Sz 8999 v := hs.le (by
    rw [e]
    have h1 : (g t b).natAbs = Int.gcd t b := by unfold g; simp
    rw [h1]
    exact Nat.le_of_dvd (by omega) (by have := Int.gcd_dvd_right (a := t) (b := b); exact Int.natAbs_dvd_natAbs.mpr this |> fun z => by simpa using z))
   walk_at "w"
   refine rd_I (show CDivS _ _ from ⟨by omega, hgs⟩) ?_
   walk_at "w"
   refine rd_I (show CDivS _ _ from ⟨by omega, hgs⟩) ?_
   walk_at "w"
   refine rd_newT fun r H' s' h' => ?_
   rw [Int.fdiv_eq_ediv_of_nonneg _ (by omega), Int.fdiv_eq_ediv_of_nonneg _ (by omega), e] at h'
   exact k r H' s' h'
theorem sc__law_sum : FnScope ["_law_one", "_law_other"] ["_law_one", "_law_other"] (defScope s__law_sum) := ⟨rfl, rfl, rfl, by decide +kernel, rfl, by decide +kernel, by decide +kernel⟩
theorem ok__law_sum (T : Txt K mg Z) : FnOk P w K mg base CX0 2 Z.a__law_sum Z.d__law_sum ["_law_one", "_law_other"] (sp_opQ K (fun x y => x + y)) := by
 have G__law_low := ok__law_low (P := P) (w := w) (base := base) T
 refine T.F__law_sum.ok sc__law_sum (fun vs H Q E h => ?_) (fun cdv A outer s H vs Q E hr h => ?_)
 ·obtain ⟨p, q, a, b, c, d, rfl, hp, hq, hb, hd, sa, sb, sc, sd, k⟩ := addQ_of h
  rfl
 ·obtain ⟨p, q, a, b, c, d, rfl, hp, hq, hb, hd, sa, sb, sc, sd, k⟩ := addQ_of h
  refine ⟨_, (pss_one (ps_ret (pe_call G__law_low (hr.mono (by decide)) rfl T.mg__law_low T.F__law_low.kp T.b__law_low .nil pass0 (pa_cons (pe_op op_add (pe_op op_mulS (pe_ix ix_tup (pv 0) pe_int (by intro _ _; rfl)) (pe_ix ix_tup (pv 1) pe_int (by intro _ _; rfl))) (pe_op op_mulS (pe_ix ix_tup (pv 1) pe_int (by intro _ _; rfl)) (pe_ix ix_tup (pv 0) pe_int (by intro _ _; rfl)))) (pa_cons (pe_op op_mulS (pe_ix ix_tup (pv 0) pe_int (by intro _ _; rfl)) (pe_ix ix_tup (pv 1) pe_int (by intro _ _; rfl))) pa_nil))))), ?_⟩
  refine rd_start (σ := [some (.ref p), some (.ref q)]) rfl ?_
  have hbd : 0 < b * d := Int.mul_pos hb hd
  have sbd : Sz 8999 (b * d) := (sb.mul sd).mono (by decide)
  walk_at "w"
  refine rd_I (show CMulS _ _ from .inr ⟨_, _, sa, sd, by decide⟩) ?_
  walk_at "w"
  refine rd_I (show CMulS _ _ from .inr ⟨_, _, sc, sb, by decide⟩) ?_
  walk_at "w"
  refine rd_I (show CMulS _ _ from .inr ⟨_, _, sb, sd, by decide⟩) ?_
  walk_at "w"
  walk_at "w"
  refine ⟨_, _, rfl, hbd, sbd, k⟩
theorem sc__law_plus : FnScope ["_law_one", "_law_other"] ["_law_one", "_law_other"] (defScope s__law_plus) := ⟨rfl, rfl, rfl, by decide +kernel, rfl, by decide +kernel, by decide +kernel⟩
theorem ok__law_plus (T : Txt K mg Z) : FnOk P w K mg base CX0 3 Z.a__law_plus Z.d__law_plus ["_law_one", "_law_other"] (sp_plusQ K) := by
 have G__law_sum := ok__law_sum (P := P) (w := w) (base := base) T
 refine T.F__law_plus.ok sc__law_plus (fun vs H Q E h => ?_) (fun cdv A outer s H vs Q E hr h => ?_)
 ·obtain ⟨p, q, xs, ys, rfl, hp, hq, hl, hz, h1, h2, kk⟩ := h
  rfl
 ·obtain ⟨p, q, xs, ys, rfl, hp, hq, hl, hz, h1, h2, kk⟩ := h
  refine ⟨_, (pss_one (ps_ret (pe_comp ["_law_k"] ["_law_one", "_law_other"] [0, 1] (pi_range1 rfl T.range (pa_cons (pe_callB call_len_seq (by rfl) T.len PySem.boot_len (pa_cons (pv 0) pa_nil)) pa_nil)) (fun _ => (pg_name (i := 0) (show List.Nodup (α := PySem.Str) ["_law_k", "_law_one", "_law_other"] by decide +kernel) rfl (Or.inl rfl) (Or.inl rfl))) (fun _ => pf_nil) (fun _ => (pe_call G__law_sum (hr.mono (by decide)) rfl T.mg__law_sum T.F__law_sum.kp T.b__law_sum .nil pass0 (pa_cons (pe_ix (ix_listK K (by rfl)) (pv 1) (pv 0) (by intro _ _; rfl)) (pa_cons (pe_ix (ix_listK K (by rfl)) (pv 2) (pv 0) (by intro _ _; rfl)) pa_nil))))))), ?_⟩
  refine rd_start (σ := [some (.ref p), some (.ref q)]) rfl ?_
  obtain ⟨us, gu, qu⟩ := id hp
  obtain ⟨ws, gw, qw⟩ := id hq
  have lu := qu.length
  walk_at "w"
  refine ⟨_, _, rfl, .inl (SqL.of gu), ?_⟩
  walk_at "w"
  refine ⟨by omega, by omega, ?_⟩
  refine comp_mapR (n := us.length) (NumQ K) (fun i => xs.getD i 0 + ys.getD i 0) (by omega) (fun a b => a.same b) ?_ ?_
  ·rintro i H' NY NN hi s k1
   have ix : i < xs.length := by omega
   have iy : i < ys.length := by omega
   obtain ⟨vx, ex, nx⟩ := ixQ (Paired.imp' (fun _ _ z => z.same s) qu) ix
   obtain ⟨vy, ey, ny⟩ := ixQ (Paired.imp' (fun _ _ z => z.same s) qw) iy
   walk_at "w"
   refine rd_ixL (SqL.of (s _ _ gu)) ex ?_
   walk_at "w"
   refine rd_ixL (SqL.of (s _ _ gw)) ey ?_
   walk_at "w"
   exact ⟨_, _, _, _, rfl, nx, ny, h1 _ (getD_mem ix), h2 _ (getD_mem iy), fun r3 H3 s3 n3 => k1 _ _ s3 n3⟩
  ·rintro ys' H' l hl' s g pr nx
   exact kk l H' hl' s ⟨ys', g, by rw [zip_range (by omega)]; rw [<- lu] at pr; exact pr⟩
theorem sc__law_prod : FnScope ["_law_one", "_law_other"] ["_law_one", "_law_other"] (defScope s__law_prod) := ⟨rfl, rfl, rfl, by decide +kernel, rfl, by decide +kernel, by decide +kernel⟩
theorem ok__law_prod (T : Txt K mg Z) : FnOk P w K mg base CX0 2 Z.a__law_prod Z.d__law_prod ["_law_one", "_law_other"] (sp_opQ K (fun x y => x * y)) := by
 have G__law_low := ok__law_low (P := P) (w := w) (base := base) T
 refine T.F__law_prod.ok sc__law_prod (fun vs H Q E h => ?_) (fun cdv A outer s H vs Q E hr h => ?_)
 ·obtain ⟨p, q, a, b, c, d, rfl, hp, hq, hb, hd, sa, sb, sc, sd, k⟩ := mulQ_of h
  rfl
 ·obtain ⟨p, q, a, b, c, d, rfl, hp, hq, hb, hd, sa, sb, sc, sd, k⟩ := mulQ_of h
  refine ⟨_, (pss_one (ps_ret (pe_call G__law_low (hr.mono (by decide)) rfl T.mg__law_low T.F__law_low.kp T.b__law_low .nil pass0 (pa_cons (pe_op op_mulS (pe_ix ix_tup (pv 0) pe_int (by intro _ _; rfl)) (pe_ix ix_tup (pv 1) pe_int (by intro _ _; rfl))) (pa_cons (pe_op op_mulS (pe_ix ix_tup (pv 0) pe_int (by intro _ _; rfl)) (pe_ix ix_tup (pv 1) pe_int (by intro _ _; rfl))) pa_nil))))), ?_⟩
  refine rd_start (σ := [some (.ref p), some (.ref q)]) rfl ?_
  have hbd : 0 < b * d := Int.mul_pos hb hd
  have sbd : Sz 8999 (b * d) := (sb.mul sd).mono (by decide)
  walk_at "w"
  refine rd_I (show CMulS _ _ from .inr ⟨_, _, sa, sc, by decide⟩) ?_
  walk_at "w"
  refine rd_I (show CMulS _ _ from .inr ⟨_, _, sb, sd, by decide⟩) ?_
  walk_at "w"
  walk_at "w"
  refine ⟨_, _, rfl, hbd, sbd, k⟩
theorem sc__law_by : FnScope ["_law_by_here", "_law_row_here"] ["_law_by_here", "_law_row_here"] (defScope s__law_by) := ⟨rfl, rfl, rfl, by decide +kernel, rfl, by decide +kernel, by decide +kernel⟩
theorem ok__law_by (T : Txt K mg Z) : FnOk P w K mg base CX0 3 Z.a__law_by Z.d__law_by ["_law_by_here", "_law_row_here"] (sp_byQ K) := by
 have G__law_prod := ok__law_prod (P := P) (w := w) (base := base) T
 refine T.F__law_by.ok sc__law_by (fun vs H Q E h => ?_) (fun cdv A outer s H vs Q E hr h => ?_)
 ·obtain ⟨u, q, c, ys, rfl, hc, sc, hq, hz, h2, kk⟩ := h
  rfl
 ·obtain ⟨u, q, c, ys, rfl, hc, sc, hq, hz, h2, kk⟩ := h
  refine ⟨_, (pss_one (ps_ret (pe_comp ["_law_one"] ["_law_by_here"] [0] (pi_list (pv 1)) (fun _ => (pg_name (i := 0) (show List.Nodup (α := PySem.Str) ["_law_one", "_law_by_here"] by decide +kernel) rfl (Or.inl rfl) (Or.inl rfl))) (fun _ => pf_nil) (fun _ => (pe_call G__law_prod (hr.mono (by decide)) rfl T.mg__law_prod T.F__law_prod.kp T.b__law_prod .nil pass0 (pa_cons (pv 1) (pa_cons (pv 0) pa_nil))))))), ?_⟩
  refine rd_start (σ := [some u, some (.ref q)]) rfl ?_
  obtain ⟨us, gu, qu⟩ := id hq
  walk_at "w"
  refine ⟨⟨_, SqL.of gu⟩, ?_⟩
  refine comp_mapL (K := K) (F := NumQ K) (NumQ K) (fun y => c * y) gu qu hz (fun a b => a.same b) (fun a b => a.same b) ?_ ?_
  ·rintro i y x H' NY NN en s hx k
   walk_at "w"
   exact ⟨_, _, _, _, rfl, hc.same s, hx, sc, h2 y (List.mem_of_getElem? en), fun r H2 s2 h2' => k _ _ s2 h2'⟩
  ·rintro ys' H' r hr s g pr nx
   exact kk r H' hr s ⟨ys', g, pr⟩
theorem sc__law_mixed : FnScope ["_law_bag_here", "_law_move_here", "_law_put", "_law_look", "_law_n", "_law_turn", "_law_i", "_law_j", "_law_by_here", "_law_less_here", "_law_row_here"] ["_law_bag_here", "_law_move_here", "_law_put", "_law_look"] (defScope s__law_mixed) := ⟨rfl, rfl, rfl, by decide +kernel, rfl, by decide +kernel, by decide +kernel⟩
theorem ok__law_mixed (T : Txt K mg Z) : FnOk P w K mg base CX0 4 Z.a__law_mixed Z.d__law_mixed ["_law_bag_here", "_law_move_here", "_law_put", "_law_look"] (sp_mixedN K) := by
 have G__law_take := ok__law_take (P := P) (w := w) (base := base) T
 have G__law_plus := ok__law_plus (P := P) (w := w) (base := base) T
 have G__law_by := ok__law_by (P := P) (w := w) (base := base) T
 have G__law_sum := ok__law_sum (P := P) (w := w) (base := base) T
 have G__law_prod := ok__law_prod (P := P) (w := w) (base := base) T
 refine T.F__law_mixed.ok sc__law_mixed (fun vs H Q E h => ?_) (fun cdv A outer s H vs Q E hr h => ?_)
 ·obtain ⟨b, m, p, l, q0, n, M, WV, A, us, ws, vs, rfl, MA, X, n8, i4, o4, M0, M1, V1, hA, k⟩ := h
  rfl
 ·obtain ⟨b, m, p, l, q0, n, M, WV, A, us, ws, vs, rfl, MA, X, n8, i4, o4, M0, M1, V1, hA, k⟩ := h
  refine ⟨_, (pss_cons (ps_set (i := 4) sc__law_mixed.nd rfl (Or.inl rfl) (pe_callB call_len_seq (by rfl) T.len PySem.boot_len (pa_cons (pv 1) pa_nil)))
   (pss_cons (ps_if (PW.pt (pw_or (pt_cmpR op_lt (pv 4) pe_int (nomark _)) (pw_or1 (pt_cmpR op_eq (pe_call G__law_take (hr.mono (by decide)) rfl T.mg__law_take T.F__law_take.kp T.b__law_take .nil pass0 (pa_cons (pv 0) (pa_cons pe_int pa_nil))) pe_int (nomark _))))) (pss_one (ps_ret (pe_tup (pa_cons (pv 1) (pa_cons (pv 2) (pa_cons (pv 3) pa_nil)))))) pss_nil)
   (pss_cons (ps_for PassesOwn.never rfl (pi_range1 rfl T.range (pa_cons (pe_op op_add pe_int (pe_call G__law_take (hr.mono (by decide)) rfl T.mg__law_take T.F__law_take.kp T.b__law_take .nil pass0 (pa_cons (pv 0) (pa_cons pe_int pa_nil)))) pa_nil)) (pg_name (i := 5) sc__law_mixed.nd rfl (Or.inl rfl) (Or.inl rfl))
    (pss_cons (ps_set (i := 6) sc__law_mixed.nd rfl (Or.inl rfl) (pe_call G__law_take (hr.mono (by decide)) rfl T.mg__law_take T.F__law_take.kp T.b__law_take .nil pass0 (pa_cons (pv 0) (pa_cons (pv 4) pa_nil))))
   (pss_cons (ps_set (i := 7) sc__law_mixed.nd rfl (Or.inl rfl) (pe_op op_mod (pe_op op_add (pe_op op_add (pv 6) pe_int) (pe_call G__law_take (hr.mono (by decide)) rfl T.mg__law_take T.F__law_take.kp T.b__law_take .nil pass0 (pa_cons (pv 0) (pa_cons (pe_op op_sub (pv 4) pe_int) pa_nil)))) (pv 4)))
   (pss_cons (ps_set (i := 8) sc__law_mixed.nd rfl (Or.inl rfl) (pe_tup (pa_cons (pe_ix ix_list (pe_lst (pa_cons pe_int (pa_cons (pe_un un_neg pe_int) (pa_cons pe_int (pa_cons (pe_un un_neg pe_int) pa_nil))))) (pe_call G__law_take (hr.mono (by decide)) rfl T.mg__law_take T.F__law_take.kp T.b__law_take .nil pass0 (pa_cons (pv 0) (pa_cons pe_int pa_nil))) (by intro _ _; rfl)) (pa_cons pe_int pa_nil))))
   (pss_cons (ps_set (i := 9) sc__law_mixed.nd rfl (Or.inl rfl) (pe_tup (pa_cons (pe_op op_sub pe_int (pe_ix ix_tup (pv 8) pe_int (by intro _ _; rfl))) (pa_cons pe_int pa_nil))))
   (pss_cons (ps_asg (pe_call G__law_plus (hr.mono (by decide)) rfl T.mg__law_plus T.F__law_plus.kp T.b__law_plus .nil pass0 (pa_cons (pe_ix ix_list (pv 1) (pv 6) (by intro _ _; rfl)) (pa_cons (pe_call G__law_by (hr.mono (by decide)) rfl T.mg__law_by T.F__law_by.kp T.b__law_by .nil pass0 (pa_cons (pv 8) (pa_cons (pe_ix ix_list (pv 1) (pv 7) (by intro _ _; rfl)) pa_nil))) pa_nil))) (pg_sub (pv 1) (pv 6) set_list))
   (pss_cons (ps_for PassesOwn.never rfl (pi_list (pe_op op_cat (pv 1) (pv 3))) (pg_name (i := 10) sc__law_mixed.nd rfl (Or.inl rfl) (Or.inl rfl))
    (pss_one (ps_asg (pe_call G__law_sum (hr.mono (by decide)) rfl T.mg__law_sum T.F__law_sum.kp T.b__law_sum .nil pass0 (pa_cons (pe_ix ix_list (pv 10) (pv 7) (by intro _ _; rfl)) (pa_cons (pe_call G__law_prod (hr.mono (by decide)) rfl T.mg__law_prod T.F__law_prod.kp T.b__law_prod .nil pass0 (pa_cons (pv 9) (pa_cons (pe_ix ix_list (pv 10) (pv 6) (by intro _ _; rfl)) pa_nil))) pa_nil))) (pg_sub (pv 10) (pv 7) set_list))))
   (pss_one (ps_for PassesOwn.never rfl (pi_list (pv 2)) (pg_name (i := 10) sc__law_mixed.nd rfl (Or.inl rfl) (Or.inl rfl))
    (pss_one (ps_asg (pe_call G__law_sum (hr.mono (by decide)) rfl T.mg__law_sum T.F__law_sum.kp T.b__law_sum .nil pass0 (pa_cons (pe_ix ix_list (pv 10) (pv 6) (by intro _ _; rfl)) (pa_cons (pe_call G__law_prod (hr.mono (by decide)) rfl T.mg__law_prod T.F__law_prod.kp T.b__law_prod .nil pass0 (pa_cons (pv 8) (pa_cons (pe_ix ix_list (pv 10) (pv 7) (by intro _ _; rfl)) pa_nil))) pa_nil))) (pg_sub (pv 10) (pv 6) set_list))))))))))))
   (pss_one (ps_ret (pe_tup (pa_cons (pv 1) (pa_cons (pv 2) (pa_cons (pv 3) pa_nil))))))))), ?_⟩
  refine rd_start (σ := [some (.ref b), some (.ref m), some (.ref p), some (.ref l), none, none, none, none, none, none, none]) rfl ?_
  have done : ∀ r us' H' t, t <= 3 -> H' r = some (.tup [.ref m, .ref p, .ref l]) -> MixV K A H' n (fun _ => Fr M (9 ^ t * WV)) m p l b q0 us' ws vs -> KeepC A b m H H' -> Q (.ref r) H' := fun r us' H' t ht g x kp => k r us' H' g (x.weak fun _ _ y h => h.mono (Nat.mul_le_mul_right _ (Nat.pow_le_pow_right (by decide) ht))) kp
  have X0 : MixV K A H n (fun _ => Fr M (9 ^ 0 * WV)) m p l b q0 us ws vs := X.weak fun _ _ y h => h.mono (by simp)
  clear X k
  have gu := X0.gm
  have lu := X0.lm
  walk_at "w"
  refine ⟨_, _, rfl, .inl (SqL.of gu), ?_⟩
  rw [lu]
  clear gu lu
  have kp0 : KeepC A b m H H := fun _ _ h _ _ _ => h
  walk_at "w"
  refine ite2 (fun h0 => ?_) (fun h0 => ?_)
  ·walk_at "w"
   refine rd_newT fun r H' s' g' => ?_
   exact done r us H' 0 (by decide) g' (X0.same s') (kp0.same s')
  have n2 : 2 <= n := by
   rcases Nat.lt_or_ge n 2 with z | z
   ·exact absurd (decide_eq_true (show (n : Int) < 2 by omega)) h0
   ·exact z
  walk_at "w"
  refine ⟨b, 2, rfl, X0.bag, by decide, by decide, fun v H1 v0 v1 B1 u1 => ?_⟩
  have X1 := X0.upto MA u1 B1
  have kp1 := kp0.upto u1
  walk_at "w"
  refine ite2 (fun h1 => ?_) (fun h1 => ?_)
  ·walk_at "w"
   refine rd_newT fun r H' s' g' => ?_
   exact done r us H' 0 (by decide) g' (X1.same s') (kp1.same s')
  walk_at "w"
  refine ⟨b, 3, rfl, B1, by decide, by decide, fun c H2 c0 c1 B2 u2 => ?_⟩
  have X2 := X1.upto MA u2 B2
  have kp2 := kp1.upto u2
  clear X0 X1 kp0 kp1 u1 u2 B1
  walk_at "w"
  refine ⟨by omega, by omega, ?_⟩
  refine for_rangeN (n := (1 + c).toNat) (fun t σ' H' => ∃ (x1 x2 x3 x4 x5 x6 : Option V) (us : List V), σ' = [some (.ref b), some (.ref m), some (.ref p), some (.ref l), some (.int n), x1, x2, x3, x4, x5, x6] /\ MixV K A H' n (fun _ => Fr M (9 ^ t * WV)) m p l b q0 us ws vs /\ KeepC A b m H H') ⟨none, none, none, none, none, none, us, rfl, X2, kp2⟩ ?_ ?_
  ·rintro t σ' H' ht ⟨x1, x2, x3, x4, x5, x6, us, rfl, X, kp⟩
   have t3 : t <= 2 := by omega
   walk_at "w"
   refine ⟨b, n, rfl, X.bag, by omega, by omega, fun ii Ha i0 i1 Ba ua => ?_⟩
   obtain ⟨ii, rfl⟩ := Int.eq_ofNat_of_zero_le i0
   have Xa := X.upto MA ua Ba
   have kpa := kp.upto ua
   walk_at "w"
   refine ⟨b, _, rfl, Ba, by omega, by omega, fun d Hb d0 d1 Bb ub => ?_⟩
   have Xb := Xa.upto MA ub Bb
   have kpb := kpa.upto ub
   walk_at "w"
   refine rd_I (show (0 : Int) < n by omega) ?_
   have j0 := Int.emod_nonneg ((ii : Int) + 1 + d) (show (n : Int) ≠ 0 by omega)
   have j1 := Int.emod_lt_of_pos ((ii : Int) + 1 + d) (show (0 : Int) < n by omega)
   generalize ((ii : Int) + 1 + d) % (n : Int) = jj at j0 j1 ⊢
   obtain ⟨jj, rfl⟩ := Int.eq_ofNat_of_zero_le j0
   walk_at "w"
   refine rd_newL fun l0 Hc sc nc gc => ?_
   walk_at "w"
   refine ⟨b, 4, rfl, Bb.same sc, by decide, by decide, fun v' Hd v0' v1' Bd ud => ?_⟩
   have gd := ud.other (fun z => Bb.at (by rw [<- z]; exact nc)) gc
   obtain ⟨x, ex, mx, _⟩ := atI_some (xs := [V.int 1, V.int (-1), V.int 2, V.int (-2)]) v0' (by simpa using v1')
   obtain ⟨z, rfl, hz⟩ : ∃ z : Int, x = .int z /\ z.natAbs <= 2 := by
    simp only [List.mem_cons, List.not_mem_nil, or_false] at mx
    rcases mx with rfl | rfl | rfl | rfl
    ·exact ⟨1, rfl, by decide⟩
    ·exact ⟨-1, rfl, by decide⟩
    ·exact ⟨2, rfl, by decide⟩
    ·exact ⟨-2, rfl, by decide⟩
   have Xd := (Xb.same sc).upto MA ud Bd
   have kpd := (kpb.same sc).upto ud
   walk_at "w"
   refine rd_ixL (SqL.of gd) ex ?_
   walk_at "w"
   refine rd_newT fun bt He se ge => ?_
   walk_at "w"
   refine rd_newT fun lt Hf sf gf => ?_
   have Xf := (Xd.same se).same sf
   have kpf := (kpd.same se).same sf
   have nb : NumQ K Hf ((z : Int) : Rat) (.ref bt) := NumQ.mk (sf _ _ ge) rfl
   have nl : NumQ K Hf ((0 - z : Int) : Rat) (.ref lt) := NumQ.mk gf rfl
   clear X Xa Xb Xd kp kpa kpb kpd ua ub ud sc gc gd ex mx ge gf se sf Ba Bb Bd nc
   have gu := Xf.gm
   have lu := Xf.lm
   have ru : ∀ x ∈ us, RowP K A Hf n (Fr M (9 ^ t * WV)) x := fun x hx => Xf.row x (by simp [hx])
   have e1 : us[ii]? = some (us[ii]'(by omega)) := by simp
   have e2 : us[jj]? = some (us[jj]'(by omega)) := by simp
   obtain ⟨q1, z1, qs1, w1, a1, g1, k1, p1, l1, c1⟩ := (ru _ (List.mem_of_getElem? e1)).at
   obtain ⟨q2, z2, qs2, w2, a2, g2, k2, p2, l2, c2⟩ := (ru _ (List.mem_of_getElem? e2)).at
   rw [w1] at e1
   rw [w2] at e2
   generalize eW : 9 ^ t * WV = W at *
   have W9 : 9 * W <= 2 ^ 140 := by rw [<- eW]; exact pow9_le (by omega) V1 (by decide)
   have sz9 : ∀ {x : Rat} {U : Nat}, U <= 9 * W -> Fr M U x -> SzN x := fun hU h => fr9_szn M0 M1 (Nat.le_trans hU W9) h
   walk_at "w"
   refine rd_ixL (SqL.of gu) (atI_nat e1) ?_
   walk_at "w"
   refine rd_ixL (SqL.of gu) (atI_nat e2) ?_
   walk_at "w"
   refine ⟨_, q2, _, qs2, rfl, nb, szn_int (by omega), ⟨z2, g2, p2⟩, by omega, fun y hy => sz9 (by omega) (c2 y hy), fun r1 Hg n1 sg R1 => ?_⟩
   walk_at "w"
   refine ⟨q1, r1, qs1, _, rfl, ⟨z1, sg _ _ g1, Paired.imp' (fun _ _ y => y.same sg) p1⟩, R1, by rw [List.length_map, l1, l2], by omega, fun y hy => sz9 (by omega) (c1 y hy), fun y hy => ?_, fun r2 Hh n2' sh R2 => ?_⟩
   ·obtain ⟨y', hy', rfl⟩ := List.mem_map.mp hy
    exact szn_mulP hz (c2 y' hy') M0 M1 (by omega)
   have sfh := sg.trans sh
   have new : V.ref r2 ∉ us ++ vs ++ ws := fun z => by
    obtain ⟨q', _, _, e', _, g', _⟩ := ((Xf.same sg).row _ z).at
    cases e'
    rw [n2'] at g'
    cases g'
   have Xh := (Xf.same sfh).weak (C' := fun x y => (x ∈ ws -> Fr M W y) /\ Fr M (3 * W) y) fun x _ y h => ⟨fun _ => h, h.mono (by omega)⟩
   have kph := kpf.same sfh
   have guh := sfh _ _ gu
   have ar2 : A r2 := (kpf.same sg).new hA (Xf.same sg).bag (by rw [sg _ _ gu]; simp) n2'
   have rp2 : RowP K A Hh n (fun y => (V.ref r2 ∈ ws -> Fr M W y) /\ Fr M (3 * W) y) (.ref r2) := by
    refine ⟨r2, _, rfl, ar2, R2, by rw [List.length_zipWith, List.length_map]; omega, fun y hy => ⟨fun z => absurd (List.mem_append.mpr (.inr z)) new, ?_⟩⟩
    obtain ⟨j', hj', e⟩ := List.getElem_of_mem hy
    rw [List.getElem_zipWith, List.getElem_map] at e
    rw [<- e]
    exact fr_step hz (c1 _ (List.getElem_mem _)) (c2 _ (List.getElem_mem _))
   walk_at "w"
   refine rd_setL guh (ixN_nat (by omega)) rfl ?_
   have Xi := Xh.set MA rp2 new ii
   have kpi := kph.upd (o := .lst (us.set ii (.ref r2))) (q := m) (.inr rfl)
   have nli : NumQ K (upd Hh m (.lst (us.set ii (.ref r2)))) ((0 - z : Int) : Rat) (.ref lt) := (nl.same sfh).updL guh
   have nbi : NumQ K (upd Hh m (.lst (us.set ii (.ref r2)))) ((z : Int) : Rat) (.ref bt) := (nb.same sfh).updL guh
   generalize upd Hh m (.lst (us.set ii (.ref r2))) = Hi at Xi kpi nli nbi ⊢
   generalize us.set ii (.ref r2) = um at Xi
   clear nb nl Xf kpf gu ru e1 e2 g1 p1 g2 p2 R1 R2 Xh kph guh rp2 sg sh sfh new
   have gm := Xi.gm
   have lm := Xi.lm
   have gl := Xi.gl
   have nd := Xi.nd
   obtain ⟨nd1, nd2, nd3⟩ := List.nodup_append.mp nd
   walk_at "w"
   refine rd_cat gm gl (Nat.le_of_lt (small1000 (by omega))) fun cl Hj sj nj gj => ?_
   have kpj := kpi.same sj
   have rows : ∀ x ∈ um ++ vs, ∀ q, x = V.ref q -> q ≠ cl := fun x hx q e y => by
    obtain ⟨q', zs, _, e', _, g', _⟩ := (Xi.row x (List.mem_append.mpr (.inl hx))).at
    rw [e] at e'
    cases e'
    rw [y, nj] at g'
    cases g'
   have Xj := (Xi.same sj).weak (C' := fun x y => (x ∈ ws -> Fr M W y) /\ (x ∈ (um ++ vs).drop 0 -> Fr M (3 * W) y) /\ Fr M (9 * W) y) fun x _ y h => ⟨h.1, fun _ => h.2, h.2.mono (by omega)⟩
   have lj : NumQ K Hj ((0 - z : Int) : Rat) (.ref lt) := nli.same sj
   have bj : NumQ K Hj ((z : Int) : Rat) (.ref bt) := nbi.same sj
   clear Xi kpi nli nbi
   refine ⟨_, rfl, ⟨_, SqL.of gj⟩, ?_⟩
   refine for_list (K := K) (a := cl) (xs := um ++ vs) (fun s σ' H' => ∃ x6 : Option V, σ' = [some (.ref b), some (.ref m), some (.ref p), some (.ref l), some (.int n), some (.int t), some (.int ii), some (.int jj), some (.ref bt), some (.ref lt), x6] /\ MixV K A H' n (fun x y => (x ∈ ws -> Fr M W y) /\ (x ∈ (um ++ vs).drop s -> Fr M (3 * W) y) /\ Fr M (9 * W) y) m p l b q0 um ws vs /\ KeepC A b m H H' /\ H' cl = some (.lst (um ++ vs)) /\ NumQ K H' ((0 - z : Int) : Rat) (.ref lt) /\ NumQ K H' ((z : Int) : Rat) (.ref bt)) ⟨_, rfl, Xj, kpj, gj, lj, bj⟩ (fun s σ' H' _ ⟨_, _, _, _, e, _⟩ => SqL.of e) ?_ ?_
   ·rintro s x σ' Hk hx ⟨y6, rfl, Xk, kpk, gk, lk, bk⟩
    have hs : s < (um ++ vs).length := (List.getElem?_eq_some_iff.mp hx).1
    have mx := List.mem_of_getElem? hx
    have xd : x ∈ (um ++ vs).drop s := by
     rw [List.drop_eq_getElem_cons hs, (List.getElem?_eq_some_iff.mp hx).2]
     exact .head _
    have xd2 : x ∉ (um ++ vs).drop (s + 1) := fun z => by
     have := nd1.sublist (List.drop_sublist s _)
     rw [List.drop_eq_getElem_cons hs, List.nodup_cons, (List.getElem?_eq_some_iff.mp hx).2] at this
     exact this.1 z
    have xw : x ∉ ws := fun z => nd3 x mx x z rfl
    have rx := Xk.row x (List.mem_append.mpr (.inl mx))
    obtain ⟨q, zs, qs, rfl, aq, gq, lq, pq, lq2, cq⟩ := rx.at
    have qcl := rows _ mx q rfl
    obtain ⟨vj, ej, nj'⟩ := ixQ pq (j := jj) (by omega)
    obtain ⟨vi, ei, ni'⟩ := ixQ pq (j := ii) (by omega)
    have cj := (cq _ (getD_mem (xs := qs) (i := jj) (by omega))).2.1 xd
    have ci := (cq _ (getD_mem (xs := qs) (i := ii) (by omega))).2.1 xd
    walk_at "w"
    refine rd_ixL (SqL.of gq) ej ?_
    walk_at "w"
    refine rd_ixL (SqL.of gq) ei ?_
    walk_at "w"
    refine ⟨_, _, _, _, rfl, lk, ni', szn_int (by omega), sz9 (by omega) ci, fun r3 Hl sl n3 => ?_⟩
    walk_at "w"
    refine ⟨_, _, _, _, rfl, nj'.same sl, n3, sz9 (by omega) cj, szn_mulP (by omega) ci M0 M1 (by omega), fun r4 Hm sm n4 => ?_⟩
    have slm := sl.trans sm
    walk_at "w"
    refine rd_setL (slm _ _ gq) (ixN_nat (by omega)) rfl ?_
    refine ⟨_, rfl, ?_, (kpk.same slm).upd (.inl aq), by rw [upd_ne qcl.symm]; exact slm _ _ gk, (lk.same slm).updL (slm _ _ gq), (bk.same slm).updL (slm _ _ gq)⟩
    refine ((Xk.same slm).weak fun x' _ y h => ⟨h.1, fun z => h.2.1 ?_, h.2.2⟩).put MA aq (slm _ _ gq) n4 ⟨fun z => absurd z xw, fun z => absurd z xd2, ?_⟩ jj
    ·rw [List.drop_eq_getElem_cons hs]
     exact .tail _ z
    ·exact (fr_step (by omega) cj ci).mono (by omega)
   ·rintro σ' Hk ⟨y6, rfl, Xk, kpk, gk, lk, bk⟩
    have gp := Xk.gp
    have Xk2 := Xk.weak (C' := fun x y => (x ∈ ws.drop 0 -> Fr M W y) /\ Fr M (9 * W) y) fun x _ y h => ⟨fun z => h.1 (by simpa using z), h.2.2⟩
    clear Xk
    walk_at "w"
    refine ⟨⟨_, SqL.of gp⟩, ?_⟩
    refine for_list (K := K) (a := p) (xs := ws) (fun s σ' H' => ∃ x6 : Option V, σ' = [some (.ref b), some (.ref m), some (.ref p), some (.ref l), some (.int n), some (.int t), some (.int ii), some (.int jj), some (.ref bt), some (.ref lt), x6] /\ MixV K A H' n (fun x y => (x ∈ ws.drop s -> Fr M W y) /\ Fr M (9 * W) y) m p l b q0 um ws vs /\ KeepC A b m H H' /\ NumQ K H' ((z : Int) : Rat) (.ref bt)) ⟨_, rfl, Xk2, kpk, bk⟩ (fun s σ' H' _ ⟨_, _, X, _⟩ => SqL.of X.gp) ?_ ?_
    ·rintro s x σ' Hl hx ⟨w6, rfl, Xl, kpl, bl⟩
     have hs : s < ws.length := (List.getElem?_eq_some_iff.mp hx).1
     have mx := List.mem_of_getElem? hx
     have xd : x ∈ ws.drop s := by
      rw [List.drop_eq_getElem_cons hs, (List.getElem?_eq_some_iff.mp hx).2]
      exact .head _
     have xd2 : x ∉ ws.drop (s + 1) := fun z => by
      have := nd2.sublist (List.drop_sublist s _)
      rw [List.drop_eq_getElem_cons hs, List.nodup_cons, (List.getElem?_eq_some_iff.mp hx).2] at this
      exact this.1 z
     have rx := Xl.row x (List.mem_append.mpr (.inr mx))
     obtain ⟨q, zs, qs, rfl, aq, gq, lq, pq, lq2, cq⟩ := rx.at
     obtain ⟨vj, ej, nj'⟩ := ixQ pq (j := jj) (by omega)
     obtain ⟨vi, ei, ni'⟩ := ixQ pq (j := ii) (by omega)
     have cj := (cq _ (getD_mem (xs := qs) (i := jj) (by omega))).1 xd
     have ci := (cq _ (getD_mem (xs := qs) (i := ii) (by omega))).1 xd
     walk_at "w"
     refine rd_ixL (SqL.of gq) ei ?_
     walk_at "w"
     refine rd_ixL (SqL.of gq) ej ?_
     walk_at "w"
     refine ⟨_, _, _, _, rfl, bl, nj', szn_int (by omega), sz9 (by omega) cj, fun r3 Hm sm n3 => ?_⟩
     walk_at "w"
     refine ⟨_, _, _, _, rfl, ni'.same sm, n3, sz9 (by omega) ci, szn_mulP (by omega) cj M0 M1 (by omega), fun r4 Hn sn n4 => ?_⟩
     have smn := sm.trans sn
     walk_at "w"
     refine rd_setL (smn _ _ gq) (ixN_nat (by omega)) rfl ?_
     refine ⟨_, rfl, ?_, (kpl.same smn).upd (.inl aq), (bl.same smn).updL (smn _ _ gq)⟩
     refine ((Xl.same smn).weak fun x' _ y h => ⟨fun z => h.1 ?_, h.2⟩).put MA aq (smn _ _ gq) n4 ⟨fun z => absurd z xd2, ?_⟩ ii
     ·rw [List.drop_eq_getElem_cons hs]
      exact .tail _ z
     ·exact (fr_step (by omega) ci cj).mono (by omega)
    ·rintro σ' Hl ⟨w6, rfl, Xl, kpl, bl⟩
     refine ⟨_, _, _, _, _, _, um, rfl, Xl.weak fun _ _ y h => h.2.mono ?_, kpl⟩
     rw [<- eW, Nat.pow_succ, Nat.mul_comm (9 ^ t) 9, Nat.mul_assoc]
     exact Nat.le_refl _
  ·rintro σ' H' ⟨x1, x2, x3, x4, x5, x6, us', rfl, X, kp⟩
   walk_at "w"
   refine rd_newT fun r H2' s' g' => ?_
   exact done r us' H2' _ (by omega) g' (X.same s') (kp.same s')
theorem sc__law_two_lines : FnScope ["_law_bag_here", "_law_one", "_law_other", "_law_ahead", "_law_behind", "_law_found", "_law_k"] ["_law_bag_here"] (defScope s__law_two_lines) := ⟨rfl, rfl, rfl, by decide +kernel, rfl, by decide +kernel, by decide +kernel⟩
theorem ok__law_two_lines (T : Txt K mg Z) : FnOk P w K mg base CX0 5 Z.a__law_two_lines Z.d__law_two_lines ["_law_bag_here"] (sp_twoN K) := by
 have G__law_line := ok__law_line (P := P) (w := w) (base := base) T
 have G__law_take := ok__law_take (P := P) (w := w) (base := base) T
 have G__law_mixed := ok__law_mixed (P := P) (w := w) (base := base) T
 refine T.F__law_two_lines.ok sc__law_two_lines (fun vs H Q E h => ?_) (fun cdv A outer s H vs Q E hr h => ?_)
 ·obtain ⟨b, rfl, hB, k⟩ := h
  rfl
 ·obtain ⟨b, rfl, hB, k⟩ := h
  refine ⟨_, (pss_cons (ps_set (i := 1) sc__law_two_lines.nd rfl (Or.inl rfl) (pe_call G__law_line (hr.mono (by decide)) rfl T.mg__law_line T.F__law_line.kp T.b__law_line .nil pass0 (pa_cons (pv 0) (pa_cons pe_int pa_nil))))
   (pss_cons (ps_set (i := 2) sc__law_two_lines.nd rfl (Or.inl rfl) (pe_call G__law_line (hr.mono (by decide)) rfl T.mg__law_line T.F__law_line.kp T.b__law_line .nil pass0 (pa_cons (pv 0) (pa_cons (pe_op op_add pe_int (pe_call G__law_take (hr.mono (by decide)) rfl T.mg__law_take T.F__law_take.kp T.b__law_take .nil pass0 (pa_cons (pv 0) (pa_cons pe_int pa_nil)))) pa_nil))))
   (pss_cons (ps_set (i := 3) sc__law_two_lines.nd rfl (Or.inr rfl) (pe_op op_rep (pe_lst (pa_cons (pe_tup (pa_cons pe_int (pa_cons pe_int pa_nil))) pa_nil)) pe_int))
   (pss_cons (ps_set (i := 4) sc__law_two_lines.nd rfl (Or.inr rfl) (pe_op op_rep (pe_lst (pa_cons (pe_tup (pa_cons pe_int (pa_cons pe_int pa_nil))) pa_nil)) (pe_callB call_len_seq (by rfl) T.len PySem.boot_len (pa_cons (pe_ix ix_tup (pv 2) pe_int (by intro _ _; rfl)) pa_nil))))
   (pss_cons (ps_set (i := 5) sc__law_two_lines.nd rfl (Or.inl rfl) (pe_lst pa_nil))
   (pss_cons (ps_for PassesOwn.never rfl (pi_range1 rfl T.range (pa_cons pe_int pa_nil)) (pg_name (i := 6) sc__law_two_lines.nd rfl (Or.inl rfl) (Or.inl rfl))
    (pss_one (ps_expr (pe_bm PySem.F.plainAttrs_list PySem.F.slot_list_append PySem.F.type_list_append mt_append (pv 5) (pa_cons (pe_op op_cat (pe_comp ["_law_row_here"] ["_law_behind"] [4] (pi_list (pe_ix ix_tup (pv 1) (pv 6) (by intro _ _; rfl))) (fun _ => (pg_name (i := 0) (show List.Nodup (α := PySem.Str) ["_law_row_here", "_law_behind"] by decide +kernel) rfl (Or.inl rfl) (Or.inl rfl))) (fun _ => pf_nil) (fun _ => (pe_op op_cat (pv 0) (pv 1)))) (pe_comp ["_law_row_here"] ["_law_ahead"] [3] (pi_list (pe_ix ix_tup (pv 2) (pv 6) (by intro _ _; rfl))) (fun _ => (pg_name (i := 0) (show List.Nodup (α := PySem.Str) ["_law_row_here", "_law_ahead"] by decide +kernel) rfl (Or.inl rfl) (Or.inl rfl))) (fun _ => pf_nil) (fun _ => (pe_op op_cat (pv 1) (pv 0))))) pa_nil)))))
   (pss_one (ps_ret (pe_call G__law_mixed (hr.mono (by decide)) rfl T.mg__law_mixed T.F__law_mixed.kp T.b__law_mixed .nil pass0 (pa_cons (pv 0) (pa_cons (pe_ix ix_list (pv 5) pe_int (by intro _ _; rfl)) (pa_cons (pe_ix ix_list (pv 5) pe_int (by intro _ _; rfl)) (pa_cons (pe_ix ix_list (pv 5) pe_int (by intro _ _; rfl)) pa_nil))))))))))))), ?_⟩
  refine rd_start (σ := [some (.ref b), none, none, none, none, none, none]) rfl ?_
  obtain ⟨q0, I0, xq, gq0⟩ := hB.inner
  walk_at "w"
  refine ⟨b, 3, rfl, hB, by decide, by decide, fun r1 mv1 pt1 lk1 H1 P1 lm1 lp1 ll1 D1 fm1 fp1 fl1 B1 u1 => ?_⟩
  walk_at "w"
  refine ⟨b, 3, rfl, B1, by decide, by decide, fun v H2 v0 v1 B2 u2 => ?_⟩
  obtain ⟨v, rfl⟩ := Int.eq_ofNat_of_zero_le v0
  have u02 := u1.trans u2
  walk_at "w"
  rw [show ((3 : Int) + (v : Int)) = ((3 + v : Nat) : Int) by omega]
  refine ⟨b, 3 + v, rfl, B2, by omega, by omega, fun r2 mv2 pt2 lk2 H3 P2 lm2 lp2 ll2 D2 fm2 fp2 fl2 B3 u3 => ?_⟩
  have u03 := u02.trans u3
  have P1c := (P1.upto (u2.trans u3) B1 hB.at)
  have P2c : PartsQ K H H3 r2 mv2 pt2 lk2 := P2.weak fun q h => u02.none B2 h
  walk_at "w"
  refine rd_newT fun t0 H4 s4 g4 => ?_
  walk_at "w"
  refine rd_newL fun a1 H5 s5 n5 g5 => ?_
  walk_at "w"
  refine rd_rep (k := 3) g5 (by decide) fun ah H6 s6 n6 g6 => ?_
  have s36 := (s4.trans s5).trans s6
  obtain ⟨m1, p1, l1, gt1, m1n, p1n, l1n, Gm1, Gp1, Gl1⟩ := P1c.same s36
  obtain ⟨m2, p2, l2, gt2, m2n, p2n, l2n, Gm2, Gp2, Gl2⟩ := P2c.same s36
  have N0 : NumQ K H6 0 (V.ref t0) := NumQ.mk (q := 0) ((s5.trans s6) _ _ g4) rfl
  walk_at "w"
  refine rd_newT fun t1 H7 s7 g7 => ?_
  walk_at "w"
  refine rd_newL fun a2 H8 s8 n8' g8 => ?_
  have s68 := s7.trans s8
  have gt2' := s68 _ _ gt2
  obtain ⟨um2, gm2, qm2, _⟩ := id (Gm2.same s68)
  have lum2 := qm2.length
  walk_at "w"
  refine ⟨_, _, rfl, .inl (SqL.of gm2), ?_⟩
  rw [<- lum2, lm2]
  walk_at "w"
  refine rd_rep (k := 3 + v) g8 (by omega) fun bh H9 s9 n9 g9 => ?_
  have s69 := s68.trans s9
  have s39 := s36.trans s69
  have N1 : NumQ K H9 0 (V.ref t1) := NumQ.mk (q := 0) ((s8.trans s9) _ _ g7) rfl
  have u09 := u03.same s39
  have B9 := B3.same s39
  have g6' := s69 _ _ g6
  have N0' := N0.same s69
  walk_at "w"
  refine rd_newL fun fd H10 s10 n10 g10 => ?_
  have X1 : ∀ i : Nat, i < 3 -> ∃ q1 R1 q2 R2, [V.ref m1, V.ref p1, V.ref l1][i]? = some (V.ref q1) /\ GridQ K H H9 q1 R1 /\ (∀ xs ∈ R1, xs.length = 3 /\ ∀ y ∈ xs, Fr 1 1 y) /\ [V.ref m2, V.ref p2, V.ref l2][i]? = some (V.ref q2) /\ GridQ K H H9 q2 R2 /\ (∀ xs ∈ R2, xs.length = 3 + v /\ ∀ y ∈ xs, Fr 1 1 y) /\ R1.length <= 100 /\ R2.length <= 100 /\ [6 + v, 2, 2][i]? = some (R1.length + R2.length) := fun i hi => by
   rcases (show i = 0 ∨ i = 1 ∨ i = 2 by omega) with rfl | rfl | rfl
   ·exact ⟨m1, mv1, m2, mv2, rfl, Gm1.same s69, fun xs hx => ⟨by rw [D1.mw xs hx, lm1], fm1 xs hx⟩, rfl, Gm2.same s69, fun xs hx => ⟨by rw [D2.mw xs hx, lm2], fm2 xs hx⟩, by omega, by omega, by rw [lm1, lm2, show 3 + (3 + v) = 6 + v by omega]; rfl⟩
   ·exact ⟨p1, pt1, p2, pt2, rfl, Gp1.same s69, fun xs hx => ⟨by rw [D1.pw xs hx, lm1], fp1 xs hx⟩, rfl, Gp2.same s69, fun xs hx => ⟨by rw [D2.pw xs hx, lm2], fp2 xs hx⟩, by omega, by omega, by rw [lp1, lp2]; rfl⟩
   ·exact ⟨l1, lk1, l2, lk2, rfl, Gl1.same s69, fun xs hx => ⟨by rw [D1.lw xs hx, lm1], fl1 xs hx⟩, rfl, Gl2.same s69, fun xs hx => ⟨by rw [D2.lw xs hx, lm2], fl2 xs hx⟩, by omega, by omega, by rw [ll1, ll2]; rfl⟩
  walk_at "w"
  refine ⟨by decide, by decide, ?_⟩
  refine for_rangeN (n := 3) (fun i σ' H' => Same H9 H' /\ ∃ x6 L, σ' = [some (.ref b), some (.ref r1), some (.ref r2), some (.ref ah), some (.ref bh), some (.ref fd), x6] /\ TwI K H9 H' (6 + v) fd L /\ L.length = i /\ ∀ (j : Nat) (e : Addr × List V), L[j]? = some e -> [6 + v, 2, 2][j]? = some e.2.length) ⟨s10, none, [], rfl, ⟨g10, n10, (fun _ z => nomatch z), List.nodup_nil, (fun _ z => nomatch z), List.nodup_nil⟩, rfl, fun j e h => by simp at h⟩ ?_ ?_
  ·rintro i σ' H' hi ⟨s', x6, L, rfl, T, lL, hL⟩
   obtain ⟨q1, R1, q2, R2, e1, G1, w1, e2, G2, w2, b1, b2, hlen⟩ := X1 i hi
   have gt1' := s' _ _ (s69 _ _ gt1)
   have gt2'' := s' _ _ (s69 _ _ gt2)
   obtain ⟨ux1, gx1, qx1, _⟩ := id (G1.same s')
   have gb := s' _ _ g9
   have ga := s' _ _ g6'
   walk_at "w"
   refine ⟨.inl ⟨rfl, _, SqL.of T.gf⟩, ?_⟩
   walk_at "w"
   refine rd_ixT (SqT.of gt1') (atI_nat e1) ?_
   walk_at "w"
   refine ⟨⟨_, SqL.of gx1⟩, ?_⟩
   refine comp_mapN (K := K) (F := RowF K H) (fun H'' c x => ∃ q, x = V.ref q /\ RowQ K H'' q c) (fun r => r ++ List.replicate (3 + v) 0) gx1 qx1 (by omega) (fun a b => a.same b) (fun a b => by obtain ⟨q, e, r⟩ := a; exact ⟨q, e, r.same b⟩) (fun a => by obtain ⟨q, e, _, gg, _⟩ := a; exact ⟨q, e, by rw [gg]; exact fun z => nomatch z⟩) ?_ ?_
   ·rintro j ns x Hi NY NN en si ⟨q, rfl, _, zs, gz, qz⟩ k1
    have ws := (w1 ns (List.mem_of_getElem? en)).1
    have lz := qz.length
    walk_at "w"
    refine rd_cat gz (si _ _ gb) (Nat.le_of_lt (small1000 (by rw [List.length_replicate]; omega))) fun c Hj sj nj gj => ?_
    exact k1 _ _ sj ⟨c, rfl, _, gj, paired_app (Paired.imp' (fun _ _ z => z.same sj) qz) (paired_rep (((N1.same s').same si).same sj) _)⟩ ⟨c, rfl, nj⟩
   rintro ys1 Ha c1 hc1 sa ga1 nd1 ne1 pr1
   obtain ⟨ux2, gx2, qx2, _⟩ := id ((G2.same s').same sa)
   have gt2a := sa _ _ gt2''
   walk_at "w"
   refine rd_ixT (SqT.of gt2a) (atI_nat e2) ?_
   walk_at "w"
   refine ⟨⟨_, SqL.of gx2⟩, ?_⟩
   refine comp_mapN (K := K) (F := RowF K H) (fun H'' c x => ∃ q, x = V.ref q /\ RowQ K H'' q c) (fun r => List.replicate 3 0 ++ r) gx2 qx2 (by omega) (fun a b => a.same b) (fun a b => by obtain ⟨q, e, r⟩ := a; exact ⟨q, e, r.same b⟩) (fun a => by obtain ⟨q, e, _, gg, _⟩ := a; exact ⟨q, e, by rw [gg]; exact fun z => nomatch z⟩) ?_ ?_
   ·rintro j ns x Hi NY NN en si ⟨q, rfl, _, zs, gz, qz⟩ k1
    have ws := (w2 ns (List.mem_of_getElem? en)).1
    have lz := qz.length
    walk_at "w"
    refine rd_cat ((sa.trans si) _ _ ga) gz (Nat.le_of_lt (small1000 (by rw [List.length_replicate]; omega))) fun c Hj sj nj gj => ?_
    exact k1 _ _ sj ⟨c, rfl, _, gj, paired_app (paired_rep ((((N0'.same s').same sa).same si).same sj) _) (Paired.imp' (fun _ _ z => z.same sj) qz)⟩ ⟨c, rfl, nj⟩
   rintro ys2 Hb c2 hc2 sb gb2 nd2 ne2 pr2
   have sab := sa.trans sb
   have ly1 := pr1.length
   have ly2 := pr2.length
   rw [List.length_map] at ly1 ly2
   walk_at "w"
   refine rd_cat (sb _ _ ga1) gb2 (Nat.le_of_lt (small1000 (by omega))) fun qn Hc sc nc gc => ?_
   have sac := sab.trans sc
   have gfc := sac _ _ T.gf
   walk_at "w"
   refine rd_append gfc (small1000 (by rw [List.length_map]; omega)) ?_
   have rP : ∀ {c : List Rat} {x : V}, (∃ q, x = V.ref q /\ RowQ K Hb q c) -> (∃ q, x = V.ref q /\ H' q = none) -> c.length = 6 + v -> (∀ y ∈ c, Fr 1 1 y) -> RowP K (fun z => H' z = none /\ z ≠ qn) Hc (6 + v) (Fr 1 1) x := fun ⟨q, e, r⟩ ⟨q', e', nq⟩ hl hf => by
    rw [e] at e'
    cases e'
    exact ⟨q, _, e, ⟨nq, fun z => by obtain ⟨_, gg, _⟩ := r; rw [z, nc] at gg; cases gg⟩, r.same sc, hl, hf⟩
   refine ⟨(s'.trans sac).after n10, some (.int i), L ++ [(qn, ys1 ++ ys2)], rfl, T.snoc s' sac (sab.none nc) gc ?_ (fun x hx => ?_), by rw [List.length_append, List.length_singleton, lL], fun j e he => ?_⟩
   ·refine List.nodup_append.mpr ⟨nd1, nd2, fun x hx y hy z => ?_⟩
    obtain ⟨_, _, q, e, _, gg, _⟩ := paired_mem pr1 hx
    obtain ⟨q', e', nq, _⟩ := ne2 y hy
    rw [<- z, e] at e'
    cases e'
    rw [nq] at gg
    cases gg
   ·rcases List.mem_append.mp hx with hx | hx
    ·obtain ⟨c, mc, q, e, r⟩ := paired_mem pr1 hx
     obtain ⟨ns, mn, rfl⟩ := List.mem_map.mp mc
     obtain ⟨q', e', nq, _⟩ := ne1 x hx
     refine rP ⟨q, e, r.same sb⟩ ⟨q', e', nq⟩ (by rw [List.length_append, List.length_replicate, (w1 ns mn).1]; omega) fun y hy => ?_
     rcases List.mem_append.mp hy with hy | hy
     ·exact (w1 ns mn).2 y hy
     ·rw [(List.mem_replicate.mp hy).2]; exact Fr.zero
    ·obtain ⟨c, mc, q, e, r⟩ := paired_mem pr2 hx
     obtain ⟨ns, mn, rfl⟩ := List.mem_map.mp mc
     obtain ⟨q', e', nq, _⟩ := ne2 x hx
     refine rP ⟨q, e, r⟩ ⟨q', e', sa.none nq⟩ (by rw [List.length_append, List.length_replicate, (w2 ns mn).1]; omega) fun y hy => ?_
     rcases List.mem_append.mp hy with hy | hy
     ·rw [(List.mem_replicate.mp hy).2]; exact Fr.zero
     ·exact (w2 ns mn).2 y hy
   ·rcases Nat.lt_or_ge j L.length with z | z
    ·rw [List.getElem?_append_left z] at he
     exact hL j e he
    ·have hj := (List.getElem?_eq_some_iff.mp he).1
     rw [List.length_append, List.length_singleton] at hj
     have ej : j = L.length := by omega
     subst ej
     rw [List.getElem?_append_right (Nat.le_refl _), Nat.sub_self] at he
     cases he
     rw [lL, hlen, List.length_append, ly1, ly2]
  ·rintro σ' H' ⟨s', x6, L, rfl, T, lL, hL⟩
   obtain ⟨⟨m, us⟩, ⟨p, ws⟩, ⟨l, vs⟩, rfl⟩ : ∃ a b c, L = [a, b, c] := by
    rcases L with _ | ⟨a, _ | ⟨b, _ | ⟨c, _ | ⟨d, L⟩⟩⟩⟩
    ·cases lL
    ·cases lL
    ·cases lL
    ·exact ⟨a, b, c, rfl⟩
    ·simp at lL
   have lu : us.length = 6 + v := by have := hL 0 _ rfl; simpa using this.symm
   have lw : ws.length = 2 := by have := hL 1 _ rfl; simpa using this.symm
   have lv : vs.length = 2 := by have := hL 2 _ rfl; simpa using this.symm
   have gf := T.gf
   obtain ⟨mn, mf, gm⟩ := T.ls (m, us) (by simp)
   obtain ⟨pn, pf, gp⟩ := T.ls (p, ws) (by simp)
   obtain ⟨ln, lf, gl⟩ := T.ls (l, vs) (by simp)
   have nd := T.nd
   have rw' := T.rows
   have rd := T.rd
   clear T hL
   have gf : H' fd = some (.lst [.ref m, .ref p, .ref l]) := gf
   have nd : [m, p, l].Nodup := nd
   have rd : (us ++ (ws ++ (vs ++ []))).Nodup := rd
   have u0' := u09.same s'
   have B' := B9.same s'
   have hm0 : H m = none := u09.none B9 mn
   have hp0 : H p = none := u09.none B9 pn
   have hl0 : H l = none := u09.none B9 ln
   obtain ⟨A, eA⟩ : ∃ A : Addr -> Prop, A = fun q => H q = none /\ q ≠ m /\ q ≠ p /\ q ≠ l := ⟨_, rfl⟩
   have mkA : ∀ {q}, H q = none -> q ≠ m -> q ≠ p -> q ≠ l -> A q := fun h1 h2 h3 h4 => by rw [eA]; exact ⟨h1, h2, h3, h4⟩
   have unA : ∀ {q}, A q -> H q = none /\ q ≠ m /\ q ≠ p /\ q ≠ l := fun h => by rw [eA] at h; exact h
   have nb : ∀ {q}, H q = none -> q ≠ b := fun h z => hB.at (by rw [<- z]; exact h)
   have MA : MixA A m p l b q0 := ⟨fun z => (unA z).2.1 rfl, fun z => (unA z).2.2.1 rfl, fun z => (unA z).2.2.2 rfl, fun z => hB.at (unA z).1, (fun z => by have z1 := (unA z).1; rw [gq0] at z1; cases z1), nb hm0, nb hp0, nb hl0, by intro z; subst z; simp at nd, by intro z; subst z; simp at nd, fun z => by rw [<- z, hm0] at gq0; cases gq0⟩
   have X : MixV K A H' (6 + v) (fun _ => Fr 1 1) m p l b q0 us ws vs := ⟨B', u0'.2 _ I0, gm, gp, gl, lu, fun x hx => ?_, ?_⟩
   ·walk_at "w"
    refine ⟨b, m, p, l, q0, 6 + v, 1, 1, A, us, ws, vs, rfl, MA, X, by omega, by omega, by omega, by decide, Nat.one_le_two_pow, by decide, fun q hq => ?_, fun r us' H'' g Y kp => ?_⟩
    ·exact mkA (u0'.none B' hq) (fun z => by rw [z, gm] at hq; cases hq) (fun z => by rw [z, gp] at hq; cases hq) (fun z => by rw [z, gl] at hq; cases hq)
    ·obtain ⟨mv, Gm, lmv, hmv⟩ := gridP_grid (H0 := H) (n := 6 + v) (C := Fr 1 (9 ^ 3 * 1)) (m := 6 + v) ⟨us', Y.gm, Y.lm, MA.am, fun x hx => Y.row x (by simp [hx])⟩ fun q h => (unA h).1
     obtain ⟨pt, Gp, lpt, hpt⟩ := gridP_grid (H0 := H) (n := 6 + v) (C := Fr 1 (9 ^ 3 * 1)) (m := 2) ⟨ws, Y.gp, lw, MA.ap, fun x hx => Y.row x (by simp [hx])⟩ fun q h => (unA h).1
     obtain ⟨lk, Gl, llk, hlk⟩ := gridP_grid (H0 := H) (n := 6 + v) (C := Fr 1 (9 ^ 3 * 1)) (m := 2) ⟨vs, Y.gl, lv, MA.al, fun x hx => Y.row x (by simp [hx])⟩ fun q h => (unA h).1
     refine k r mv pt lk H'' ⟨m, p, l, g, hm0, hp0, hl0, Gm, Gp, Gl⟩ (by omega) ⟨by omega, by omega, by omega, fun xs hx => by rw [(hmv xs hx).1, lmv], fun xs hx => by rw [(hpt xs hx).1, lmv], fun xs hx => by rw [(hlk xs hx).1, lmv]⟩ (fun xs hx => (hmv xs hx).2) (fun xs hx => (hpt xs hx).2) (fun xs hx => (hlk xs hx).2) Y.bag ⟨fun c' u e n1 => kp c' u (u0'.1 _ _ e n1) n1 (fun z => by have := (unA z).1; rw [e] at this; cases this) (fun z => by rw [z, hm0] at e; cases e), fun q h => by rw [<- Inner.inj I0 h]; exact Y.inn⟩
   ·have hx : ∃ e ∈ [(m, us), (p, ws), (l, vs)], x ∈ e.2 := by
     rcases List.mem_append.mp hx with hx | hx
     ·rcases List.mem_append.mp hx with hx | hx
      ·exact ⟨(m, us), by simp, hx⟩
      ·exact ⟨(l, vs), by simp, hx⟩
     ·exact ⟨(p, ws), by simp, hx⟩
    obtain ⟨e, he, hx⟩ := hx
    refine (rw' e he x hx).weak (fun q hq => ?_) (fun _ w => w)
    obtain ⟨⟨h1, _⟩, h2⟩ := hq
    have h2 : q ∉ [m, p, l] := h2
    simp only [List.mem_cons, List.not_mem_nil, or_false, not_or] at h2
    exact mkA (u09.none B9 h1) h2.1 h2.2.1 h2.2.2
   ·rw [List.append_nil] at rd
    have e : (us ++ vs ++ ws).Perm (us ++ (ws ++ vs)) := by
     rw [List.append_assoc]
     exact List.Perm.append_left _ List.perm_append_comm
    exact e.nodup_iff.mpr rd
theorem sc__law_number : FnScope ["_law_bag_here", "_law_wide", "_law_way"] ["_law_bag_here", "_law_wide"] (defScope s__law_number) := ⟨rfl, rfl, rfl, by decide +kernel, rfl, by decide +kernel, by decide +kernel⟩
theorem ok__law_number (T : Txt K mg Z) : FnOk P w K mg base CX0 2 Z.a__law_number Z.d__law_number ["_law_bag_here", "_law_wide"] (sp_numberQ K) := by
 have G__law_take := ok__law_take (P := P) (w := w) (base := base) T
 have G__law_low := ok__law_low (P := P) (w := w) (base := base) T
 refine T.F__law_number.ok sc__law_number (fun vs H Q E h => ?_) (fun cdv A outer s H vs Q E hr h => ?_)
 ·obtain ⟨b, w, rfl, hB, w0, w1, k⟩ := h
  rfl
 ·obtain ⟨b, w, rfl, hB, w0, w1, k⟩ := h
  refine ⟨_, (pss_cons (ps_set (i := 2) sc__law_number.nd rfl (Or.inl rfl) (pe_call G__law_take (hr.mono (by decide)) rfl T.mg__law_take T.F__law_take.kp T.b__law_take .nil pass0 (pa_cons (pv 0) (pa_cons pe_int pa_nil))))
   (pss_cons (ps_if (pt_cmpR op_lt (pv 2) pe_int (nomark _)) (pss_one (ps_ret (pe_tup (pa_cons pe_int (pa_cons pe_int pa_nil))))) pss_nil)
   (pss_cons (ps_if (pt_cmpR op_lt (pv 2) pe_int (nomark _)) (pss_one (ps_ret (pe_tup (pa_cons (pe_op op_sub (pe_call G__law_take (hr.mono (by decide)) rfl T.mg__law_take T.F__law_take.kp T.b__law_take .nil pass0 (pa_cons (pv 0) (pa_cons pe_int pa_nil))) pe_int) (pa_cons pe_int pa_nil))))) pss_nil)
   (pss_cons (ps_if (pt_cmpR op_eq (pv 2) pe_int (nomark _)) (pss_one (ps_ret (pe_call G__law_low (hr.mono (by decide)) rfl T.mg__law_low T.F__law_low.kp T.b__law_low .nil pass0 (pa_cons (pe_op op_sub (pe_call G__law_take (hr.mono (by decide)) rfl T.mg__law_take T.F__law_take.kp T.b__law_take .nil pass0 (pa_cons (pv 0) (pa_cons pe_int pa_nil))) pe_int) (pa_cons (pe_op op_add pe_int (pe_call G__law_take (hr.mono (by decide)) rfl T.mg__law_take T.F__law_take.kp T.b__law_take .nil pass0 (pa_cons (pv 0) (pa_cons pe_int pa_nil)))) pa_nil))))) pss_nil)
   (pss_one (ps_ret (pe_call G__law_low (hr.mono (by decide)) rfl T.mg__law_low T.F__law_low.kp T.b__law_low .nil pass0 (pa_cons (pe_op op_sub (pe_call G__law_take (hr.mono (by decide)) rfl T.mg__law_take T.F__law_take.kp T.b__law_take .nil pass0 (pa_cons (pv 0) (pa_cons (pe_op op_add (pe_op op_mulS pe_int (pv 1)) pe_int) pa_nil))) (pv 1)) (pa_cons (pe_op op_add pe_int (pe_call G__law_take (hr.mono (by decide)) rfl T.mg__law_take T.F__law_take.kp T.b__law_take .nil pass0 (pa_cons (pv 0) (pa_cons (pv 1) pa_nil)))) pa_nil))))))))), ?_⟩
  refine rd_start (σ := [some (.ref b), some (.int w), none]) rfl ?_
  walk_at "w"
  refine ⟨b, 8, rfl, hB, by decide, by decide, fun v H1 v0 v1 B1 u1 => ?_⟩
  walk_at "w"
  refine ite2 (fun h0 => ?_) (fun h0 => ?_)
  ·walk_at "w"
   refine rd_newT fun r H2 s2 g2 => ?_
   exact k r 0 _ ⟨Nat.zero_le _, by show 1 <= _; omega⟩ (NumQ.mk g2 rfl) (B1.same s2) (u1.same s2)
  walk_at "w"
  refine ite2 (fun h1 => ?_) (fun h1 => ?_)
  ·walk_at "w"
   refine ⟨b, 7, rfl, B1, by decide, by decide, fun a H2 a0 a1 B2 u2 => ?_⟩
   walk_at "w"
   refine rd_newT fun r H3 s3 g3 => ?_
   exact k r ((a - 3 : Int) : Rat) _ ⟨by show (a - 3).natAbs <= _; omega, by show 1 <= _; omega⟩ (NumQ.mk g3 rfl) (B2.same s3) ((u1.trans u2).same s3)
  walk_at "w"
  refine ite2 (fun h2 => ?_) (fun h2 => ?_)
  ·walk_at "w"
   refine ⟨b, 13, rfl, B1, by decide, by decide, fun a H2 a0 a1 B2 u2 => ?_⟩
   walk_at "w"
   refine ⟨b, 6, rfl, B2, by decide, by decide, fun c H3 c0 c1 B3 u3 => ?_⟩
   walk_at "w"
   refine ⟨_, _, rfl, by omega, (sz_mil (by omega)).mono (by decide), fun r H4 s4 g4 => ?_⟩
   obtain ⟨q, e, d, _⟩ := low_dr (t := a - 6) (b := 1 + c) (W := max w 6) (by omega) (by omega) (by omega)
   exact k r q _ d (NumQ.mk g4 e) (B3.same s4) (((u1.trans u2).trans u3).same s4)
  walk_at "w"
  refine ⟨b, _, rfl, B1, by omega, by omega, fun a H2 a0 a1 B2 u2 => ?_⟩
  walk_at "w"
  refine ⟨b, _, rfl, B2, by omega, by omega, fun c H3 c0 c1 B3 u3 => ?_⟩
  walk_at "w"
  refine ⟨_, _, rfl, by omega, (sz_mil (by omega)).mono (by decide), fun r H4 s4 g4 => ?_⟩
  obtain ⟨q, e, d, _⟩ := low_dr (t := a - w) (b := 1 + c) (W := max w 6) (by omega) (by omega) (by omega)
  exact k r q _ d (NumQ.mk g4 e) (B3.same s4) (((u1.trans u2).trans u3).same s4)
theorem sc__law_row : FnScope ["_law_bag_here", "_law_many", "_law_wide"] ["_law_bag_here", "_law_many", "_law_wide"] (defScope s__law_row) := ⟨rfl, rfl, rfl, by decide +kernel, rfl, by decide +kernel, by decide +kernel⟩
theorem ok__law_row (T : Txt K mg Z) : FnOk P w K mg base CX0 3 Z.a__law_row Z.d__law_row ["_law_bag_here", "_law_many", "_law_wide"] (sp_drawQ K) := by
 have G__law_number := ok__law_number (P := P) (w := w) (base := base) T
 refine T.F__law_row.ok sc__law_row (fun vs H Q E h => ?_) (fun cdv A outer s H vs Q E hr h => ?_)
 ·obtain ⟨b, m, w, rfl, hB, hm, w0, w1, k⟩ := h
  rfl
 ·obtain ⟨b, m, w, rfl, hB, hm, w0, w1, k⟩ := h
  refine ⟨_, (pss_one (ps_ret (pe_comp ["_law_k"] ["_law_bag_here", "_law_wide"] [0, 2] (pi_range1 rfl T.range (pa_cons (pv 1) pa_nil)) (fun _ => (pg_name (i := 0) (show List.Nodup (α := PySem.Str) ["_law_k", "_law_bag_here", "_law_wide"] by decide +kernel) rfl (Or.inl rfl) (Or.inl rfl))) (fun _ => pf_nil) (fun _ => (pe_call G__law_number (hr.mono (by decide)) rfl T.mg__law_number T.F__law_number.kp T.b__law_number .nil pass0 (pa_cons (pv 1) (pa_cons (pv 2) pa_nil))))))), ?_⟩
  refine rd_start (σ := [some (.ref b), some (.int m), some (.int w)]) rfl ?_
  walk_at "w"
  refine ⟨by omega, by omega, ?_⟩
  refine comp_bagR (n := m) (NumQ K) (Dr (max w 6)) hB hm (fun a u B => a.upto u B) ?_ ?_
  ·rintro i H' NY NN hi u B k1
   walk_at "w"
   exact ⟨b, w, rfl, B, w0, w1, fun r x H2 hx h2 B2 u2 => k1 _ x _ u2 B2 hx h2⟩
  ·rintro ys cs H' p hp u B g lc hc pr nx
   exact k p cs H' hp ⟨ys, g, pr⟩ lc hc B u
theorem sc__law_move : FnScope ["_law_bag_here", "_law_n", "_law_way", "_law_first", "_law_wide", "_law_move_here", "_law_i", "_law_row_here", "_law_j"] ["_law_bag_here", "_law_n", "_law_way", "_law_first", "_law_wide"] (defScope s__law_move) := ⟨rfl, rfl, rfl, by decide +kernel, rfl, by decide +kernel, by decide +kernel⟩
theorem ok__law_move (T : Txt K mg Z) : FnOk P w K mg base CX0 4 Z.a__law_move Z.d__law_move ["_law_bag_here", "_law_n", "_law_way", "_law_first", "_law_wide"] (sp_moveN K) := by
  have G__law_row := ok__law_row (P := P) (w := w) (base := base) T
  have G__law_take := ok__law_take (P := P) (w := w) (base := base) T
  refine T.F__law_move.ok sc__law_move (fun vs H Q E h => ?_) (fun cdv A outer s H vs Q E hr h => ?_)
  · obtain ⟨b, n, w, way, first, rfl, hB, n8, w0, w1, k⟩ := h
    rfl
  · obtain ⟨b, n, w, way, first, rfl, hB, n8, w0, w1, k⟩ := h
    refine ⟨_, (pss_cons (ps_set (i := 5) sc__law_move.nd rfl (Or.inl rfl) (pe_lst pa_nil))
      (pss_cons (ps_for PassesOwn.never rfl (pi_range1 rfl T.range (pa_cons (pv 1) pa_nil)) (pg_name (i := 6) sc__law_move.nd rfl (Or.inl rfl) (Or.inl rfl))
        (pss_cons (ps_set (i := 7) sc__law_move.nd rfl (Or.inl rfl) (pe_call G__law_row (hr.mono (by decide)) rfl T.mg__law_row T.F__law_row.kp T.b__law_row .nil pass0 (pa_cons (pv 0) (pa_cons (pv 1) (pa_cons (pv 4) pa_nil)))))
      (pss_cons (ps_for PassesOwn.never rfl (pi_range1 rfl T.range (pa_cons (pv 1) pa_nil)) (pg_name (i := 8) sc__law_move.nd rfl (Or.inl rfl) (Or.inl rfl))
        (pss_consM (ps_if (PW.pt (pw_and (pt_cmpR op_eq (pv 2) pe_int (nomark _)) (pw_and1 (pt_cmpR op_gt (pe_call G__law_take (hr.mono (by decide)) rfl T.mg__law_take T.F__law_take.kp T.b__law_take .nil pass0 (pa_cons (pv 0) (pa_cons pe_int pa_nil))) pe_int (nomark _))))) (pss_one (ps_asg (pe_tup (pa_cons pe_int (pa_cons pe_int pa_nil))) (pg_sub (pv 7) (pv 8) set_list))) pss_nil)
      (pss_consM (ps_if (PW.pt (pw_and (pt_cmpR op_eq (pv 2) pe_int (nomark _)) (pw_and1 (pt_cmpR op_lt (pe_op op_add (pv 6) pe_int) (pv 1) (nomark _))))) (pss_one (ps_asg (pe_tup (pa_cons (pe_callTy call_intB (by rfl) T.int PyProof.Rows.boot_int (pa_cons (pe_cmpR op_eq (pv 8) (pe_op op_add (pv 6) pe_int) (nomark _)) pa_nil)) (pa_cons pe_int pa_nil))) (pg_sub (pv 7) (pv 8) set_list))) pss_nil)
      (pss_consM (ps_if (PW.pt (pw_or (PW.pt (pw_and (pt_cmpR op_eq (pv 2) pe_int (nomark _)) (pw_and (pt_cmpR op_ge (pv 6) (pv 3) (nomark _)) (pw_and1 (pt_cmpR op_lt (pv 8) (pv 3) (nomark _)))))) (pw_or1 (PW.pt (pw_and (pt_cmpR op_eq (pv 2) pe_int (nomark _)) (pw_and (pt_cmpR op_lt (pv 6) (pv 3) (nomark _)) (pw_and1 (pt_cmpR op_ge (pv 8) (pv 3) (nomark _))))))))) (pss_one (ps_asg (pe_tup (pa_cons pe_int (pa_cons pe_int pa_nil))) (pg_sub (pv 7) (pv 8) set_list))) pss_nil)
      (pss_one (ps_if (pt_cmpR op_eq (pv 2) pe_int (nomark _)) (pss_one (ps_asg (pe_tup (pa_cons (pe_op op_mulS (pe_ix ix_list (pe_lst (pa_cons pe_int (pa_cons pe_int (pa_cons (pe_un un_neg pe_int) (pa_cons pe_int pa_nil))))) (pe_op op_mod (pv 3) pe_int) (by intro _ _; rfl)) (pe_callTy call_intB (by rfl) T.int PyProof.Rows.boot_int (pa_cons (pe_cmpR op_eq (pv 6) (pv 8) (nomark _)) pa_nil))) (pa_cons pe_int pa_nil))) (pg_sub (pv 7) (pv 8) set_list))) pss_nil))))))
      (pss_one (ps_expr (pe_bm PySem.F.plainAttrs_list PySem.F.slot_list_append PySem.F.type_list_append mt_append (pv 5) (pa_cons (pv 7) pa_nil)))))))
      (pss_one (ps_ret (pv 5))))), ?_⟩
    refine rd_start (σ := [some (.ref b), some (.int n), some (.int way), some (.int first), some (.int w), none, none, none, none]) rfl ?_
    have W1 : 1 ≤ max w 6 := by omega
    walk_at "w"
    refine rd_newL fun r H1 s1 n1 g1 => ?_
    have rb : r ≠ b := fun z => hB.at (by rw [← z]; exact n1)
    obtain ⟨q0, I0, xs0, gq0⟩ := hB.inner
    have I1 : Inner H1 b q0 := (s1.upto (p := b)).2 _ I0
    obtain ⟨A, eA⟩ : ∃ A : Addr → Prop, A = fun q => H q = none ∧ q ≠ r := ⟨_, rfl⟩
    have nb : ¬ A b := by rw [eA]; exact fun z => hB.at z.1
    have nr : ¬ A r := by rw [eA]; exact fun z => z.2 rfl
    have nq : ¬ A q0 := by rw [eA]; exact fun z => by have z1 := z.1; rw [gq0] at z1; cases z1
    have rq : r ≠ q0 := fun z => by rw [← z, n1] at gq0; cases gq0
    walk_at "w"
    refine ⟨by omega, by omega, ?_⟩
    refine for_rangeN (n := n) (fun i σ' H' => ∃ (x1 x2 x3 : Option V) (us : List V), σ' = [some (.ref b), some (.int n), some (.int way), some (.int first), some (.int w), some (.ref r), x1, x2, x3] ∧ H' r = some (.lst us) ∧ us.length = i ∧ us.Nodup ∧ (∀ x ∈ us, RowP K A H' n (Dr (max w 6)) x) ∧ Bag H' b ∧ Inner H' b q0 ∧ Upto b H H') ⟨none, none, none, [], rfl, g1, rfl, List.nodup_nil, (fun _ z => nomatch z), hB.same s1, I1, s1.upto⟩ ?_ ?_
    · rintro i σ' H' hi ⟨x1, x2, x3, us, rfl, gu, lu, nd, ru, B', I', u'⟩
      walk_at "w"
      refine ⟨b, n, w, rfl, B', by omega, w0, w1, fun p xs Ha np Ra la da Ba ua => ?_⟩
      have hp0 : H p = none := u'.none B' np
      have pn : V.ref p ∉ us := fun z => by
        obtain ⟨q', _, _, e', _, g', _⟩ := (ru _ z).at
        cases e'
        rw [np] at g'
        cases g'
      have ap' : H p = none ∧ p ≠ r := ⟨hp0, fun z => by rw [z, gu] at np; cases np⟩
      have ap : A p := by rw [eA]; exact ap'
      have X0 : MvJ K A n (Dr (max w 6)) r p b q0 us H Ha := ⟨ua.other rb gu, fun x hx => (ru x hx).upto ua B' nb, ⟨p, xs, rfl, ap, Ra, la, da⟩, Ba, ua.2 _ I', u'.trans ua⟩
      clear ru Ra gu
      walk_at "w"
      refine ⟨by omega, by omega, ?_⟩
      refine for_rangeN (n := n) (fun j σ' H' => (∃ x3, σ' = [some (.ref b), some (.int n), some (.int way), some (.int first), some (.int w), some (.ref r), some (.int i), some (.ref p), x3]) ∧ MvJ K A n (Dr (max w 6)) r p b q0 us H H') ⟨⟨_, rfl⟩, X0⟩ ?_ ?_
      · rintro j σ' Hj hj ⟨⟨x3, rfl⟩, X⟩
        walk_at "w"
        refine ⟨fun σ' H' => σ' = [some (.ref b), some (.int n), some (.int way), some (.int first), some (.int w), some (.ref r), some (.int i), some (.ref p), some (.int j)] ∧ MvJ K A n (Dr (max w 6)) r p b q0 us H H', ?_, ?_⟩
        · walk_at "w"
          refine ite2 (fun _ => ?_) (fun _ => ?_)
          · walk_at "w"
            refine ⟨b, 3, rfl, X.bag, by decide, by decide, fun d Hd d0 d1 Bd ud => ?_⟩
            replace X := X.upto ud Bd nb rb
            repeat' (first | walk_at "rd" | refine ite2 (fun _ => ?_) (fun _ => ?_))
            all_goals first
              | exact ⟨rfl, X⟩
              | (refine rd_newT fun t Hb sb gb => ?_
                 walk_at "w"
                 obtain ⟨zs, gz, lz, Xz⟩ := (X.same sb).put ap nr nb nq hp0 (NumQ.mk (q := 0) gb rfl) (dr_int (i := 0) (Nat.zero_le _) W1) j
                 refine rd_setL gz (ixN_nat (by omega)) rfl ?_
                 exact ⟨rfl, Xz⟩)
          · walk_at "w"
            exact ⟨rfl, X⟩
        clear X
        rintro σ' Hj ⟨rfl, X⟩
        refine ⟨fun σ' H' => σ' = [some (.ref b), some (.int n), some (.int way), some (.int first), some (.int w), some (.ref r), some (.int i), some (.ref p), some (.int j)] ∧ MvJ K A n (Dr (max w 6)) r p b q0 us H H', ?_, ?_⟩
        · repeat' (first | walk_at "rd" | refine ite2 (fun _ => ?_) (fun _ => ?_))
          all_goals first
            | exact ⟨rfl, X⟩
            | (refine rd_newT fun t Hb sb gb => ?_
               walk_at "w"
               obtain ⟨zs, gz, lz, Xz⟩ := (X.same sb).put ap nr nb nq hp0 (NumQ.mk (q := ((if decide ((j : Int) = (i : Int) + 1) = true then (1 : Int) else 0 : Int) : Rat)) gb rfl) (dr_int (by split <;> omega) W1) j
               refine rd_setL gz (ixN_nat (by omega)) rfl ?_
               exact ⟨rfl, Xz⟩)
        clear X
        rintro σ' Hj ⟨rfl, X⟩
        refine ⟨fun σ' H' => σ' = [some (.ref b), some (.int n), some (.int way), some (.int first), some (.int w), some (.ref r), some (.int i), some (.ref p), some (.int j)] ∧ MvJ K A n (Dr (max w 6)) r p b q0 us H H', ?_, ?_⟩
        · repeat' (first | walk_at "rd" | refine ite2 (fun _ => ?_) (fun _ => ?_))
          all_goals first
            | exact ⟨rfl, X⟩
            | (refine rd_newT fun t Hb sb gb => ?_
               walk_at "w"
               obtain ⟨zs, gz, lz, Xz⟩ := (X.same sb).put ap nr nb nq hp0 (NumQ.mk (q := 0) gb rfl) (dr_int (i := 0) (Nat.zero_le _) W1) j
               refine rd_setL gz (ixN_nat (by omega)) rfl ?_
               exact ⟨rfl, Xz⟩)
        clear X
        rintro σ' Hj ⟨rfl, X⟩
        walk_at "w"
        refine ite2 (fun _ => ?_) (fun _ => ?_)
        · walk_at "w"
          refine rd_newL fun l0 Hc sc nc gc => ?_
          walk_at "w"
          obtain ⟨x, ex, mx, _⟩ := atI_some (xs := [V.int 2, V.int 1, V.int (-1), V.int 0]) (i := first % 4) (Int.emod_nonneg _ (by decide)) (by have := Int.emod_lt_of_pos first (show (0 : Int) < 4 by decide); simpa using this)
          obtain ⟨z, rfl, hz⟩ : ∃ z : Int, x = .int z ∧ z.natAbs ≤ 2 := by
            simp only [List.mem_cons, List.not_mem_nil, or_false] at mx
            rcases mx with rfl | rfl | rfl | rfl
            · exact ⟨2, rfl, by decide⟩
            · exact ⟨1, rfl, by decide⟩
            · exact ⟨-1, rfl, by decide⟩
            · exact ⟨0, rfl, by decide⟩
          refine rd_ixL (SqL.of gc) ex ?_
          walk_at "w"
          refine rd_I (cmulS_l (by omega) (by omega)) ?_
          walk_at "w"
          refine rd_newT fun t Hb sb gb => ?_
          walk_at "w"
          obtain ⟨zs, gz, lz, Xz⟩ := ((X.same sc).same sb).put ap nr nb nq hp0 (NumQ.mk (q := ((z * (if decide ((i : Int) = (j : Int)) = true then (1 : Int) else 0) : Int) : Rat)) gb rfl) (dr_int (by split <;> omega) W1) j
          refine rd_setL gz (ixN_nat (by omega)) rfl ?_
          exact ⟨⟨_, rfl⟩, Xz⟩
        · walk_at "w"
          exact ⟨⟨_, rfl⟩, X⟩
      · rintro σ' Hj ⟨⟨x3, rfl⟩, X⟩
        walk_at "w"
        refine ⟨.inl ⟨rfl, _, SqL.of X.gr⟩, ?_⟩
        walk_at "w"
        refine rd_append X.gr (small1000 (by omega)) ?_
        refine ⟨_, _, _, us ++ [.ref p], rfl, upd_same, by simp [lu], nodup_snoc nd pn, fun x hx => ?_, X.bag.upd X.inn rb rq, X.inn.upd rb, X.up.after n1⟩
        rcases List.mem_append.mp hx with hx | hx
        · exact (X.ru x hx).other X.gr nr
        · have e : x = V.ref p := by simpa using hx
          rw [e]; exact X.rp.other X.gr nr
    · rintro σ' H' ⟨x1, x2, x3, us, rfl, gu, lu, nd, ru, B', I', u'⟩
      walk_at "w"
      exact k r us H' n1 gu lu nd (by rw [eA] at ru; exact ru) B' u'
theorem sc__law_parts : FnScope ["_law_bag_here", "_law_n", "_law_ins", "_law_outs", "_law_wide", "_law_way", "_law_first", "_law_move_here", "_law_put", "_law_look", "_law_k", "_law_row_here"] ["_law_bag_here", "_law_n", "_law_ins", "_law_outs", "_law_wide"] (defScope s__law_parts) := ⟨rfl, rfl, rfl, by decide +kernel, rfl, by decide +kernel, by decide +kernel⟩
theorem ok__law_parts (T : Txt K mg Z) : FnOk P w K mg base CX0 5 Z.a__law_parts Z.d__law_parts ["_law_bag_here", "_law_n", "_law_ins", "_law_outs", "_law_wide"] (sp_partsN K) := by
  have G__law_take := ok__law_take (P := P) (w := w) (base := base) T
  have G__law_move := ok__law_move (P := P) (w := w) (base := base) T
  have G__law_row := ok__law_row (P := P) (w := w) (base := base) T
  have G__law_mixed := ok__law_mixed (P := P) (w := w) (base := base) T
  refine T.F__law_parts.ok sc__law_parts (fun vs H Q E h => ?_) (fun cdv A outer s H vs Q E hr h => ?_)
  · obtain ⟨b, n, i, o, w, c, rfl, hB, n8, i4, o4, w0, w1, hc, hc20, hcM, k⟩ := h
    rfl
  · obtain ⟨b, n, i, o, w, c, rfl, hB, n8, i4, o4, w0, w1, hc, hc20, hcM, k⟩ := h
    refine ⟨_, (pss_cons (ps_set (i := 5) sc__law_parts.nd rfl (Or.inl rfl) (pe_call G__law_take (hr.mono (by decide)) rfl T.mg__law_take T.F__law_take.kp T.b__law_take .nil pass0 (pa_cons (pv 0) (pa_cons pe_int pa_nil))))
      (pss_cons (ps_set (i := 6) sc__law_parts.nd rfl (Or.inl rfl) (pe_call G__law_take (hr.mono (by decide)) rfl T.mg__law_take T.F__law_take.kp T.b__law_take .nil pass0 (pa_cons (pv 0) (pa_cons (pe_op op_add (pv 1) pe_int) pa_nil))))
      (pss_cons (ps_set (i := 7) sc__law_parts.nd rfl (Or.inl rfl) (pe_call G__law_move (hr.mono (by decide)) rfl T.mg__law_move T.F__law_move.kp T.b__law_move .nil pass0 (pa_cons (pv 0) (pa_cons (pv 1) (pa_cons (pv 5) (pa_cons (pv 6) (pa_cons (pv 4) pa_nil)))))))
      (pss_cons (ps_setC 8 ["_law_k"] ["_law_bag_here", "_law_n", "_law_wide"] [0, 1, 4] sc__law_parts.nd rfl rfl (pi_range1 rfl T.range (pa_cons (pv 2) pa_nil)) (fun _ => (pg_name (i := 0) (show List.Nodup (α := PySem.Str) ["_law_k", "_law_bag_here", "_law_n", "_law_wide"] by decide +kernel) rfl (Or.inl rfl) (Or.inl rfl))) (fun _ => pf_nil) (fun _ => (pe_call G__law_row (hr.mono (by decide)) rfl T.mg__law_row T.F__law_row.kp T.b__law_row .nil pass0 (pa_cons (pv 1) (pa_cons (pv 2) (pa_cons (pv 3) pa_nil))))))
      (pss_cons (ps_setC 9 ["_law_k"] ["_law_bag_here", "_law_n", "_law_wide"] [0, 1, 4] sc__law_parts.nd rfl rfl (pi_range1 rfl T.range (pa_cons (pv 3) pa_nil)) (fun _ => (pg_name (i := 0) (show List.Nodup (α := PySem.Str) ["_law_k", "_law_bag_here", "_law_n", "_law_wide"] by decide +kernel) rfl (Or.inl rfl) (Or.inl rfl))) (fun _ => pf_nil) (fun _ => (pe_call G__law_row (hr.mono (by decide)) rfl T.mg__law_row T.F__law_row.kp T.b__law_row .nil pass0 (pa_cons (pv 1) (pa_cons (pv 2) (pa_cons (pv 3) pa_nil))))))
      (pss_cons (ps_for PassesOwn.never rfl (pi_range1 rfl T.range (pa_cons (pv 1) pa_nil)) (pg_name (i := 10) sc__law_parts.nd rfl (Or.inl rfl) (Or.inl rfl))
        (pss_cons (ps_for PassesOwn.never rfl (pi_list (pv 8)) (pg_name (i := 11) sc__law_parts.nd rfl (Or.inl rfl) (Or.inl rfl))
        (pss_one (ps_if (PW.pt (pw_or (PW.pt (pw_and (pt_cmpR op_eq (pv 5) pe_int (nomark _)) (pw_and1 (pt_cmpR op_ge (pv 10) (pv 6) (nomark _))))) (pw_or1 (PW.pt (pw_and (pt_cmpR op_eq (pv 5) pe_int (nomark _)) (pw_and (pt_cmpR op_lt (pe_op op_add (pv 10) pe_int) (pv 1) (nomark _)) (pw_and1 (pt_cmpR op_eq (pe_call G__law_take (hr.mono (by decide)) rfl T.mg__law_take T.F__law_take.kp T.b__law_take .nil pass0 (pa_cons (pv 0) (pa_cons pe_int pa_nil))) pe_int (nomark _))))))))) (pss_one (ps_asg (pe_tup (pa_cons pe_int (pa_cons pe_int pa_nil))) (pg_sub (pv 11) (pv 10) set_list))) pss_nil)))
      (pss_one (ps_for PassesOwn.never rfl (pi_list (pv 9)) (pg_name (i := 11) sc__law_parts.nd rfl (Or.inl rfl) (Or.inl rfl))
        (pss_one (ps_if (PW.pt (pw_or (PW.pt (pw_and (pt_cmpR op_eq (pv 5) pe_int (nomark _)) (pw_and1 (pt_cmpR op_ge (pv 10) (pv 6) (nomark _))))) (pw_or1 (PW.pt (pw_and (pt_cmpR op_eq (pv 5) pe_int (nomark _)) (pw_and (pt_cmpR op_gt (pv 10) pe_int (nomark _)) (pw_and1 (pt_cmpR op_eq (pe_call G__law_take (hr.mono (by decide)) rfl T.mg__law_take T.F__law_take.kp T.b__law_take .nil pass0 (pa_cons (pv 0) (pa_cons pe_int pa_nil))) pe_int (nomark _))))))))) (pss_one (ps_asg (pe_tup (pa_cons pe_int (pa_cons pe_int pa_nil))) (pg_sub (pv 11) (pv 10) set_list))) pss_nil))))))
      (pss_one (ps_ret (pe_call G__law_mixed (hr.mono (by decide)) rfl T.mg__law_mixed T.F__law_mixed.kp T.b__law_mixed .nil pass0 (pa_cons (pv 0) (pa_cons (pv 7) (pa_cons (pv 8) (pa_cons (pv 9) pa_nil))))))))))))), ?_⟩
    refine rd_start (σ := [some (.ref b), some (.int n), some (.int i), some (.int o), some (.int w), none, none, none, none, none, none, none]) rfl ?_
    have W1 : 1 ≤ max w 6 := by omega
    obtain ⟨q0, I0, xs0, gq0⟩ := hB.inner
    walk_at "w"
    refine ⟨b, 6, rfl, hB, by decide, by decide, fun way H1 a0 a1 B1 u1 => ?_⟩
    walk_at "w"
    refine ⟨b, _, rfl, B1, by omega, by omega, fun first H2 f0 f1 B2 u2 => ?_⟩
    have u02 := u1.trans u2
    walk_at "w"
    refine ⟨b, n, w, way, first, rfl, B2, n8, w0, w1, fun m us H3 nm0 gm lm ndm rm B3 u3 => ?_⟩
    have u03 := u02.trans u3
    walk_at "w"
    refine ⟨by omega, by omega, ?_⟩
    refine comp_bagN (n := i) (b := b) (RowF K H3) (fun xs => xs.length = n ∧ ∀ x ∈ xs, Dr (max w 6) x) B3 (by omega) (fun a u B => a.upto u B B3.at) (fun ⟨q, e, _, _, g, _⟩ => ⟨q, e, by rw [g]; exact fun z => nomatch z⟩) ?_ ?_
    · rintro s H' NY NN hi u B k1
      walk_at "w"
      exact ⟨b, n, w, rfl, B, by omega, w0, w1, fun r xs H2 nr R lx dx B2 u2 => k1 _ xs _ u2 B2 ⟨lx, dx⟩ ⟨r, rfl, u.none B nr, R⟩ ⟨r, rfl, nr⟩⟩
    rintro ws puts H4 p np u4 B4 gp lp ndp hp pr4 nx4
    have u04 := u03.trans u4
    walk_at "w"
    refine ⟨by omega, by omega, ?_⟩
    refine comp_bagN (n := o) (b := b) (RowF K H4) (fun xs => xs.length = n ∧ ∀ x ∈ xs, Dr (max w 6) x) B4 (by omega) (fun a u B => a.upto u B B4.at) (fun ⟨q, e, _, _, g, _⟩ => ⟨q, e, by rw [g]; exact fun z => nomatch z⟩) ?_ ?_
    · rintro s H' NY NN hi u B k1
      walk_at "w"
      exact ⟨b, n, w, rfl, B, by omega, w0, w1, fun r xs H2 nr R lx dx B2 u2 => k1 _ xs _ u2 B2 ⟨lx, dx⟩ ⟨r, rfl, u.none B nr, R⟩ ⟨r, rfl, nr⟩⟩
    rintro vs looks H5 l nl u5 B5 gl ll ndl hl pr5 nx5
    have u05 := u04.trans u5
    have hm0 : H m = none := u02.none B2 nm0
    have hp0 : H p = none := u03.none B3 np
    have hl0 : H l = none := u04.none B4 nl
    have mb : m ≠ b := fun z => B2.at (by rw [← z]; exact nm0)
    have pb : p ≠ b := fun z => B3.at (by rw [← z]; exact np)
    have lb : l ≠ b := fun z => B4.at (by rw [← z]; exact nl)
    have gm4 := u4.other mb gm
    have gm5 := u5.other mb gm4
    have gp5 := u5.other pb gp
    have mp : m ≠ p := fun z => by rw [z, np] at gm; cases gm
    have ml : m ≠ l := fun z => by rw [z, nl] at gm4; cases gm4
    have pl : p ≠ l := fun z => by rw [z, nl] at gp; cases gp
    have mq : m ≠ q0 := fun z => Inner.at B2 (u02.2 _ I0) (by rw [← z]; exact nm0)
    obtain ⟨A, eA⟩ : ∃ A : Addr → Prop, A = fun q => H q = none ∧ q ≠ m ∧ q ≠ p ∧ q ≠ l := ⟨_, rfl⟩
    have mkA : ∀ {q}, H q = none → q ≠ m → q ≠ p → q ≠ l → A q := fun h1 h2 h3 h4 => by rw [eA]; exact ⟨h1, h2, h3, h4⟩
    have unA : ∀ {q}, A q → H q = none ∧ q ≠ m ∧ q ≠ p ∧ q ≠ l := fun h => by rw [eA] at h; exact h
    have MA : MixA A m p l b q0 := ⟨fun z => (unA z).2.1 rfl, fun z => (unA z).2.2.1 rfl, fun z => (unA z).2.2.2 rfl, fun z => hB.at (unA z).1, (fun z => by have z1 := (unA z).1; rw [gq0] at z1; cases z1), mb, pb, lb, mp, ml, mq⟩
    clear eA
    have lws : ws.length = i := by rw [← pr4.length]; exact lp
    have lvs : vs.length = o := by rw [← pr5.length]; exact ll
    have alM : ∀ q, V.ref q ∈ us → H3 q ≠ none ∧ q ≠ b ∧ H4 q ≠ none := fun q hq => by
      obtain ⟨q', qs, e, ⟨a1, a2⟩, r, z⟩ := rm _ hq
      cases e
      have qb : q ≠ b := fun y => B2.at (by rw [← y]; exact a1)
      obtain ⟨xq, gq, _⟩ := id r
      obtain ⟨xq4, gq4, _⟩ := r.upto u4 B3 qb
      exact ⟨(by rw [gq]; exact fun z => nomatch z), qb, (by rw [gq4]; exact fun z => nomatch z)⟩
    have alP : ∀ q, V.ref q ∈ ws → H3 q = none ∧ H4 q ≠ none := fun q hq => by
      obtain ⟨_, _, q', e, a, _, g, _⟩ := paired_mem pr4 hq
      cases e
      exact ⟨a, by rw [g]; exact fun z => nomatch z⟩
    have alL : ∀ q, V.ref q ∈ vs → H4 q = none := fun q hq => by
      obtain ⟨_, _, q', e, a, _⟩ := paired_mem pr5 hq
      cases e
      exact a
    have isR : ∀ x, x ∈ us ∨ x ∈ ws ∨ x ∈ vs → ∃ q, x = V.ref q := fun x hx => by
      rcases hx with hx | hx | hx
      · obtain ⟨q, _, e, _⟩ := rm x hx; exact ⟨q, e⟩
      · obtain ⟨_, _, q, e, _⟩ := paired_mem pr4 hx; exact ⟨q, e⟩
      · obtain ⟨_, _, q, e, _⟩ := paired_mem pr5 hx; exact ⟨q, e⟩
    have nd : (us ++ vs ++ ws).Nodup := by
      refine List.nodup_append.mpr ⟨List.nodup_append.mpr ⟨ndm, ndl, fun x hx y hy e => ?_⟩, ndp, fun x hx y hy e => ?_⟩
      · subst e
        obtain ⟨q, rfl⟩ := isR x (.inl hx)
        exact (alM q hx).2.2 (alL q hy)
      · subst e
        obtain ⟨q, rfl⟩ := isR x (.inr (.inl hy))
        rcases List.mem_append.mp hx with hx | hx
        · exact (alM q hx).1 (alP q hy).1
        · exact (alP q hy).2 (alL q hx)
    have X5 : PtN K A n (Dr (max w 6)) m p l b q0 us ws vs H H5 := by
      refine ⟨⟨B5, u05.2 _ I0, gm5, gp5, gl, lm, fun x hx => ?_, nd⟩, gp5, gl, fun c u e n1 _ _ => u05.1 c u e n1⟩
      rcases List.mem_append.mp hx with hx | hx
      · rcases List.mem_append.mp hx with hx | hx
        · obtain ⟨q, qs, e, ⟨a1, a2⟩, r, z⟩ := rm x hx
          obtain ⟨xq, gq, _⟩ := id r
          have qb : q ≠ b := fun y => B2.at (by rw [← y]; exact a1)
          have r4 := r.upto u4 B3 qb
          obtain ⟨xq4, gq4, _⟩ := id r4
          exact ⟨q, qs, e, mkA (u02.none B2 a1) a2 (fun y => by rw [y, np] at gq; cases gq) (fun y => by rw [y, nl] at gq4; cases gq4), r4.upto u5 B4 qb, z⟩
        · refine rowF_P (A := A) pr5 hl (fun q hq a b' => ?_) x hx
          exact mkA (u04.none B4 a) (fun y => by rw [y, gm4] at a; cases a) (fun y => by rw [y, gp] at a; cases a) (fun y => notin nx5 (by rw [← y]; exact hq))
      · refine RowP.upto (rowF_P (A := A) pr4 hp (fun q hq a b' => ?_) x hx) u5 B4 MA.ab
        exact mkA (u03.none B3 a) (fun y => by rw [y, gm] at a; cases a) (fun y => notin nx4 (by rw [← y]; exact hq)) (fun y => b' (by rw [y]; exact nl))
    clear alM alP alL isR rm pr4 pr5 nx4 nx5 gm gm4 gm5 gp gp5 gl hp hl
    walk_at "w"
    refine ⟨by omega, by omega, ?_⟩
    refine for_rangeN (n := n) (fun kk σ' H' => (∃ x1 x2, σ' = [some (.ref b), some (.int n), some (.int i), some (.int o), some (.int w), some (.int way), some (.int first), some (.ref m), some (.ref p), some (.ref l), x1, x2]) ∧ PtN K A n (Dr (max w 6)) m p l b q0 us ws vs H H') ⟨⟨_, _, rfl⟩, X5⟩ ?_ ?_
    · rintro kk σ' Hj hk ⟨⟨x1, x2, rfl⟩, X⟩
      walk_at "w"
      refine ⟨⟨_, SqL.of X.gp⟩, ?_⟩
      refine for_list (K := K) (a := p) (xs := ws) (fun s σ' H' => (∃ x2, σ' = [some (.ref b), some (.int n), some (.int i), some (.int o), some (.int w), some (.int way), some (.int first), some (.ref m), some (.ref p), some (.ref l), some (.int kk), x2]) ∧ PtN K A n (Dr (max w 6)) m p l b q0 us ws vs H H') ⟨⟨_, rfl⟩, X⟩ (fun s σ' H' _ ⟨_, e⟩ => SqL.of e.gp) ?_ ?_
      · rintro s x σ' Hk hx ⟨⟨y2, rfl⟩, X⟩
        have mx := List.mem_of_getElem? hx
        obtain ⟨q, _, rfl, _⟩ := X.row (.inl mx)
        repeat' (first | walk_at "rd" | refine ite2 (fun _ => ?_) (fun _ => ?_))
        all_goals first
          | exact ⟨⟨_, rfl⟩, X⟩
          | (refine rd_newT fun t Hb sb gb => ?_
             walk_at "w"
             obtain ⟨zs, gz, lz, Xz⟩ := (X.same sb).put MA (.inl mx) (NumQ.mk (q := 0) gb rfl) (dr_int (i := 0) (Nat.zero_le _) W1) kk
             refine rd_setL gz (ixN_nat (by omega)) rfl ?_
             exact ⟨⟨_, rfl⟩, Xz⟩)
          | (refine ⟨b, 2, rfl, X.mix.bag, by decide, by decide, fun d Hd d0 d1 Bd ud => ?_⟩
             replace X := X.upto MA ud Bd
             repeat' (first | walk_at "rd" | refine ite2 (fun _ => ?_) (fun _ => ?_))
             all_goals first
               | exact ⟨⟨_, rfl⟩, X⟩
               | (refine rd_newT fun t Hb sb gb => ?_
                  walk_at "w"
                  obtain ⟨zs, gz, lz, Xz⟩ := (X.same sb).put MA (.inl mx) (NumQ.mk (q := 0) gb rfl) (dr_int (i := 0) (Nat.zero_le _) W1) kk
                  refine rd_setL gz (ixN_nat (by omega)) rfl ?_
                  exact ⟨⟨_, rfl⟩, Xz⟩))
      · rintro σ' Hk ⟨⟨y2, rfl⟩, X⟩
        walk_at "w"
        refine ⟨⟨_, SqL.of X.gl⟩, ?_⟩
        refine for_list (K := K) (a := l) (xs := vs) (fun s σ' H' => (∃ x2, σ' = [some (.ref b), some (.int n), some (.int i), some (.int o), some (.int w), some (.int way), some (.int first), some (.ref m), some (.ref p), some (.ref l), some (.int kk), x2]) ∧ PtN K A n (Dr (max w 6)) m p l b q0 us ws vs H H') ⟨⟨_, rfl⟩, X⟩ (fun s σ' H' _ ⟨_, e⟩ => SqL.of e.gl) ?_ ?_
        · rintro s x σ' Hk hx ⟨⟨y2, rfl⟩, X⟩
          have mx := List.mem_of_getElem? hx
          obtain ⟨q, _, rfl, _⟩ := X.row (.inr mx)
          repeat' (first | walk_at "rd" | refine ite2 (fun _ => ?_) (fun _ => ?_))
          all_goals first
            | exact ⟨⟨_, rfl⟩, X⟩
            | (refine rd_newT fun t Hb sb gb => ?_
               walk_at "w"
               obtain ⟨zs, gz, lz, Xz⟩ := (X.same sb).put MA (.inr mx) (NumQ.mk (q := 0) gb rfl) (dr_int (i := 0) (Nat.zero_le _) W1) kk
               refine rd_setL gz (ixN_nat (by omega)) rfl ?_
               exact ⟨⟨_, rfl⟩, Xz⟩)
            | (refine ⟨b, 2, rfl, X.mix.bag, by decide, by decide, fun d Hd d0 d1 Bd ud => ?_⟩
               replace X := X.upto MA ud Bd
               repeat' (first | walk_at "rd" | refine ite2 (fun _ => ?_) (fun _ => ?_))
               all_goals first
                 | exact ⟨⟨_, rfl⟩, X⟩
                 | (refine rd_newT fun t Hb sb gb => ?_
                    walk_at "w"
                    obtain ⟨zs, gz, lz, Xz⟩ := (X.same sb).put MA (.inr mx) (NumQ.mk (q := 0) gb rfl) (dr_int (i := 0) (Nat.zero_le _) W1) kk
                    refine rd_setL gz (ixN_nat (by omega)) rfl ?_
                    exact ⟨⟨_, rfl⟩, Xz⟩))
        · rintro σ' Hk ⟨⟨y2, rfl⟩, X⟩
          exact ⟨⟨_, _, rfl⟩, X⟩
    · rintro σ' Hj ⟨⟨x1, x2, rfl⟩, X⟩
      obtain ⟨M, V0, M0, M8, V2, hcs, XM⟩ : ∃ M V0 : Nat, 0 < M ∧ M ≤ 2 ^ 800 ∧ V0 ≤ 2 ^ 20 ∧ ((w ≤ 9 ∧ M = 2520 ∧ V0 = 9) ∨ (9 < w ∧ M ≤ 2 ^ (c * ((n + i + o) * n)) ∧ V0 = 2 ^ c)) ∧ MixV K A Hj n (fun _ => Fr M V0) m p l b q0 us ws vs := by
        by_cases w9 : w ≤ 9
        · exact ⟨2520, 9, by decide, Nat.le_trans (show 2520 ≤ 2 ^ 12 by decide) (Nat.pow_le_pow_right (by decide) (by decide)), by decide, .inl ⟨w9, rfl, rfl⟩, X.mix.weak fun _ _ y h => dr9_fr ⟨Nat.le_trans h.1 (by omega), Nat.le_trans h.2 (by omega)⟩ (Nat.dvd_refl _)⟩
        · obtain ⟨M, M0, M1, XM⟩ := (X.mix.weak (C' := fun _ => Dr (2 ^ c)) fun _ _ y h => ⟨Nat.le_trans h.1 hc, Nat.le_trans h.2 hc⟩).fr
          rw [lws, lvs] at M1
          exact ⟨M, 2 ^ c, M0, Nat.le_trans M1 (Nat.pow_le_pow_right (by decide) hcM), Nat.pow_le_pow_right (by decide) hc20, .inr ⟨by omega, M1, rfl⟩, XM⟩
      have gmj := X.mix.gm
      walk_at "w"
      refine ⟨b, m, p, l, q0, n, M, V0, A, us, ws, vs, rfl, MA, XM, n8, by omega, by omega, M0, M8, V2, fun q hq => ?_, fun r us' H' g Y kp => ?_⟩
      · refine mkA ?_ (fun z => by rw [z, gmj] at hq; cases hq) (fun z => by rw [z, X.gp] at hq; cases hq) (fun z => by rw [z, X.gl] at hq; cases hq)
        cases e : H q with
        | none => rfl
        | some u =>
          have := X.kp q u e (fun z => X.mix.bag.at (by rw [← z]; exact hq)) (fun z => by have := (unA z).1; rw [e] at this; cases this) (fun z => by rw [z, hm0] at e; cases e)
          rw [hq] at this; cases this
      · obtain ⟨mv, Gm, lmv, hmv⟩ := gridP_grid (H0 := H) (n := n) (C := Fr M (9 ^ 3 * V0)) (m := n) ⟨us', Y.gm, Y.lm, MA.am, fun x hx => Y.row x (by simp [hx])⟩ fun q h => (unA h).1
        obtain ⟨pt, Gp, lpt, hpt⟩ := gridP_grid (H0 := H) (n := n) (C := Fr M (9 ^ 3 * V0)) (m := i) ⟨ws, Y.gp, lws, MA.ap, fun x hx => Y.row x (by simp [hx])⟩ fun q h => (unA h).1
        obtain ⟨lk, Gl, llk, hlk⟩ := gridP_grid (H0 := H) (n := n) (C := Fr M (9 ^ 3 * V0)) (m := o) ⟨vs, Y.gl, lvs, MA.al, fun x hx => Y.row x (by simp [hx])⟩ fun q h => (unA h).1
        refine k r mv pt lk H' ⟨m, p, l, g, hm0, hp0, hl0, Gm, Gp, Gl⟩ lmv lpt llk ⟨by omega, by omega, by omega, fun xs hx => by rw [(hmv xs hx).1, lmv], fun xs hx => by rw [(hpt xs hx).1, lmv], fun xs hx => by rw [(hlk xs hx).1, lmv]⟩ ⟨M, 9 ^ 3 * V0, M0, fun xs hx => (hmv xs hx).2, fun xs hx => (hpt xs hx).2, fun xs hx => (hlk xs hx).2, ?_⟩ Y.bag ⟨fun c' u e n1 => (X.kp.trans kp) c' u e n1 (fun z => by have := (unA z).1; rw [e] at this; cases this) (fun z => by rw [z, hm0] at e; cases e), fun q h => by rw [← Inner.inj I0 h]; exact Y.inn⟩
        rcases hcs with ⟨a1, a2, a3⟩ | ⟨a1, a2, a3⟩
        · exact .inl ⟨a1, a2, by rw [a3]⟩
        · exact .inr ⟨a1, a2, by rw [a3]⟩
theorem sc__law_system : FnScope ["_law_bag_here", "_law_n", "_law_ins", "_law_outs", "_law_wide"] ["_law_bag_here"] (defScope s__law_system) := ⟨rfl, rfl, rfl, by decide +kernel, rfl, by decide +kernel, by decide +kernel⟩
theorem ok__law_system (T : Txt K mg Z) : FnOk P w K mg base CX0 6 Z.a__law_system Z.d__law_system ["_law_bag_here"] (sp_sysN K) := by
 have G__law_sizes := ok__law_sizes (P := P) (w := w) (base := base) T
 have G__law_take := ok__law_take (P := P) (w := w) (base := base) T
 have G__law_two_lines := ok__law_two_lines (P := P) (w := w) (base := base) T
 have G__law_line := ok__law_line (P := P) (w := w) (base := base) T
 have G__law_parts := ok__law_parts (P := P) (w := w) (base := base) T
 refine T.F__law_system.ok sc__law_system (fun vs H Q E h => ?_) (fun cdv A outer s H vs Q E hr h => ?_)
 ·obtain ⟨b, rfl, hB, k⟩ := h
  rfl
 ·obtain ⟨b, rfl, hB, k⟩ := h
  refine ⟨_, (pss_cons (ps_asg (pe_call G__law_sizes (hr.mono (by decide)) rfl T.mg__law_sizes T.F__law_sizes.kp T.b__law_sizes .nil pass0 (pa_cons (pv 0) pa_nil)) (pg_tup rfl (pgs_cons (pg_name (i := 1) sc__law_system.nd rfl (Or.inl rfl) (Or.inl rfl)) (pgs_cons (pg_name (i := 2) sc__law_system.nd rfl (Or.inl rfl) (Or.inl rfl)) (pgs_cons (pg_name (i := 3) sc__law_system.nd rfl (Or.inl rfl) (Or.inl rfl)) (pgs_cons (pg_name (i := 4) sc__law_system.nd rfl (Or.inl rfl) (Or.inl rfl)) pgs_nil))))))
   (pss_cons (ps_if (pt_cmpR op_eq (pe_call G__law_take (hr.mono (by decide)) rfl T.mg__law_take T.F__law_take.kp T.b__law_take .nil pass0 (pa_cons (pv 0) (pa_cons pe_int pa_nil))) pe_int (nomark _)) (pss_cons (ps_if (pt_cmpR op_eq (pe_call G__law_take (hr.mono (by decide)) rfl T.mg__law_take T.F__law_take.kp T.b__law_take .nil pass0 (pa_cons (pv 0) (pa_cons pe_int pa_nil))) pe_int (nomark _)) (pss_one (ps_ret (pe_tup (pa_cons (pe_call G__law_two_lines (hr.mono (by decide)) rfl T.mg__law_two_lines T.F__law_two_lines.kp T.b__law_two_lines .nil pass0 (pa_cons (pv 0) pa_nil)) (pa_cons pe_int pa_nil))))) pss_nil)
   (pss_one (ps_ret (pe_tup (pa_cons (pe_call G__law_line (hr.mono (by decide)) rfl T.mg__law_line T.F__law_line.kp T.b__law_line .nil pass0 (pa_cons (pv 0) (pa_cons (pe_op op_add pe_int (pe_call G__law_take (hr.mono (by decide)) rfl T.mg__law_take T.F__law_take.kp T.b__law_take .nil pass0 (pa_cons (pv 0) (pa_cons pe_int pa_nil)))) pa_nil))) (pa_cons pe_int pa_nil)))))) pss_nil)
   (pss_one (ps_ret (pe_tup (pa_cons (pe_call G__law_parts (hr.mono (by decide)) rfl T.mg__law_parts T.F__law_parts.kp T.b__law_parts .nil pass0 (pa_cons (pv 0) (pa_cons (pv 1) (pa_cons (pv 2) (pa_cons (pv 3) (pa_cons (pv 4) pa_nil)))))) (pa_cons (pe_callB (call_min2 rfl) (by rfl) T.min PyProof.Rows.boot_min (pa_cons (pv 4) (pa_cons pe_int pa_nil))) pa_nil))))))), ?_⟩
  refine rd_start (σ := [some (.ref b), none, none, none, none]) rfl ?_
  have sf : ∀ {mv pt lk : List (List Rat)} {M V1 : Nat}, 0 < M -> M <= 2 ^ 400 -> V1 <= 2 ^ 30 -> GF M V1 mv -> GF M V1 pt -> GF M V1 lk -> SFits mv pt lk := fun h0 h1 h2 a b c => ⟨_, _, h0, Nat.le_trans h1 (Nat.pow_le_pow_right (by decide) (by decide)), Nat.le_trans h2 (Nat.pow_le_pow_right (by decide) (by decide)), a, b, c⟩
  walk_at "w"
  refine ⟨b, rfl, hB, fun r n i o w H1 g1 n5 i4 o4 hw h5 B1 u1 => ?_⟩
  walk_at "w"
  refine ⟨b, 16, rfl, B1, by decide, by decide, fun v H2 v0 v1 B2 u2 => ?_⟩
  have u02 := u1.trans u2
  walk_at "w"
  refine ite2 (fun h0 => ?_) (fun h0 => ?_)
  ·walk_at "w"
   refine ⟨b, 2, rfl, B2, by decide, by decide, fun v2 H3 _ _ B3 u3 => ?_⟩
   have u03 := u02.trans u3
   walk_at "w"
   refine ite2 (fun h1 => ?_) (fun h1 => ?_)
   ·walk_at "w"
    refine ⟨b, rfl, B3, fun r4 mv pt lk H4 P4 l6 D fm fp fl B4 u4 => ?_⟩
    walk_at "w"
    refine rd_newT fun t H5 s5 g5 => ?_
    exact k t r4 4 0 13 mv pt lk H5 g5 ((P4.weak fun q h => u03.none B3 h).same s5) D (sf (by decide) Nat.one_le_two_pow (by decide) fm fp fl) (kfit_of (n0 := 8) (by decide) (by decide) D.n8 (by decide) fm fp (by decide)) (k2_of D.n8 (by decide)) (by decide) (by decide) (B4.same s5) ((u03.trans u4).same s5)
   ·walk_at "w"
    refine ⟨b, 3, rfl, B3, by decide, by decide, fun v3 H4 v30 v31 B4 u4 => ?_⟩
    obtain ⟨v3, rfl⟩ := Int.eq_ofNat_of_zero_le v30
    have u04 := u03.trans u4
    walk_at "w"
    rw [show ((6 : Int) + (v3 : Int)) = ((6 + v3 : Nat) : Int) by omega]
    refine ⟨b, 6 + v3, rfl, B4, by omega, by omega, fun r4 mv pt lk H5 P5 lm _ _ D fm fp fl B5 u5 => ?_⟩
    walk_at "w"
    refine rd_newT fun t H6 s6 g6 => ?_
    exact k t r4 4 0 4 mv pt lk H6 g6 ((P5.weak fun q h => u04.none B4 h).same s6) D (sf (by decide) Nat.one_le_two_pow (by decide) fm fp fl) (kfit_of (n0 := 8) (by decide) (by decide) D.n8 (by decide) fm fp (by decide)) (k2_of D.n8 (by decide)) (by decide) (by decide) (B5.same s6) ((u04.trans u5).same s6)
  ·obtain ⟨c, hc, hc20, hcM⟩ : ∃ c : Nat, max w 6 <= 2 ^ c /\ c <= 20 /\ c * ((n + i + o) * n) <= 800 /\ (9 < w -> c = 20 /\ (n + i + o) * n <= 20 /\ n <= 2) := by
    have m1 : (n + i + o) * n <= 13 * 5 := Nat.mul_le_mul (by omega) n5
    rcases hw with rfl | rfl | ⟨rfl, n2⟩
    ·exact ⟨4, by decide, by decide, by omega, fun z => by omega⟩
    ·exact ⟨4, by decide, by decide, by omega, fun z => by omega⟩
    ·have m2 : (n + i + o) * n <= 10 * 2 := Nat.mul_le_mul (by omega) n2
     exact ⟨20, by decide, by decide, by omega, fun _ => ⟨rfl, by omega, n2⟩⟩
   obtain ⟨hcM, hbig⟩ := hcM
   walk_at "w"
   refine ⟨b, n, i, o, w, c, rfl, B2, by omega, i4, o4, by omega, by omega, hc, hc20, hcM, fun r4 mv pt lk H4 P4 lm lp ll D PF B4 u4 => ?_⟩
   have hmin : (if (1000 : Int) < (w : Int) then (1000 : Int) else (w : Int)) = ((min w 1000 : Nat) : Int) := by split <;> omega
   obtain ⟨M, V1, M0, fm, fp, fl, hcs⟩ := PF
   obtain ⟨a', c', KF, K2, SF⟩ : ∃ a' c', KFit mv pt a' c' /\ K2F mv.length a' c' /\ SFits mv pt lk := by
    rcases hcs with ⟨w9, rfl, rfl⟩ | ⟨w9, M1, rfl⟩
    ·exact ⟨12, 16, kfit_of (n0 := 5) (by decide) (by decide) (by omega) (by decide) fm fp (by decide), k2_of (n0 := 5) (by omega) (by decide), sf (by decide) (Nat.le_trans (show 2520 <= 2 ^ 12 by decide) (Nat.pow_le_pow_right (by decide) (by decide))) (by decide) fm fp fl⟩
    ·obtain ⟨rfl, e1, e2⟩ := hbig w9
     have M4 : M <= 2 ^ 400 := Nat.le_trans M1 (Nat.pow_le_pow_right (by decide) (by omega))
     exact ⟨400, 32, kfit_of (n0 := 2) M0 M4 (by omega) (by decide) fm fp (by decide), k2_of (n0 := 2) (by omega) (by decide), sf M0 M4 (by decide) fm fp fl⟩
   walk_at "w"
   refine rd_newT fun t H5 s5 g5 => ?_
   rw [hmin] at g5
   exact k t r4 (min w 1000) a' c' mv pt lk H5 g5 ((P4.weak fun q h => u02.none B2 h).same s5) D SF KF K2 (by omega) (by omega) (B4.same s5) ((u02.trans u4).same s5)
theorem sc_want_list : FnScope ["thing", "at", "most"] ["thing", "at", "most"] (defScope s_want_list) := ⟨rfl, rfl, rfl, by decide +kernel, rfl, by decide +kernel, by decide +kernel⟩
theorem ok_want_list (T : Txt K mg Z) : FnOk P w K mg base CX0 1 Z.a_want_list Z.d_want_list ["thing", "at", "most"] sp_want := by
 refine T.F_want_list.ok sc_want_list (fun vs H Q E h => ?_) (fun cdv A outer s H vs Q E hr h => ?_)
 ·obtain ⟨p, xs, a, m, rfl, gx, hm, k⟩ := h
  rfl
 ·obtain ⟨p, xs, a, m, rfl, gx, hm, k⟩ := h
  refine ⟨_, (pss_cons (ps_if (pt_not (pt_val (pe_isT rfl T.isinstance PyProof.Rows.boot_list T.list (pv 0)))) (pss_one ps_no) pss_nil)
   (pss_one (ps_if (pt_cmpR op_gt (pe_callB call_len_seq (by rfl) T.len PySem.boot_len (pa_cons (pv 0) pa_nil)) (pv 2) (nomark _)) (pss_one ps_no) pss_nil))), ?_⟩
  refine rd_start (σ := [some (.ref p), some (.int a), some (.int m)]) rfl ?_
  walk_at "w"
  refine ⟨_, _, .lst gx, rfl, ?_⟩
  walk_at "w"
  refine ⟨_, _, rfl, .inl (SqL.of gx), ?_⟩
  walk_at "w"
  rw [decide_eq_false (show ¬ m < (xs.length : Int) by omega)]
  walk_at "w"
  exact k
theorem sc_is_whole : FnScope ["thing"] ["thing"] (defScope s_is_whole) := ⟨rfl, rfl, rfl, by decide +kernel, rfl, by decide +kernel, by decide +kernel⟩
theorem ok_is_whole (T : Txt K mg Z) : FnOk P w K mg base CX0 1 Z.a_is_whole Z.d_is_whole ["thing"] sp_wholeI := by
 refine T.F_is_whole.ok sc_is_whole (fun vs H Q E h => ?_) (fun cdv A outer s H vs Q E hr h => ?_)
 ·obtain ⟨i, rfl, k⟩ := h
  rfl
 ·obtain ⟨i, rfl, k⟩ := h
  refine ⟨_, (pss_one (ps_ret (pe_and (pe_isT rfl T.isinstance PyProof.Rows.boot_int T.int (pv 0)) (pe_one (pe_not (pe_isT rfl T.isinstance PyProof.Rows.boot_bool T.bool (pv 0))))))), ?_⟩
  refine rd_start (σ := [some (.int i)]) rfl ?_
  walk_at "w"
  refine ⟨_, _, .int i, rfl, ?_⟩
  walk_at "w"
  refine ⟨_, _, .int i, rfl, ?_⟩
  walk_at "w"
  exact k
theorem sc_common_divisor : FnScope ["one", "other", "rest"] ["one", "other"] (defScope s_common_divisor) := ⟨rfl, rfl, rfl, by decide +kernel, rfl, by decide +kernel, by decide +kernel⟩
theorem ok_common_divisor (T : Txt K mg Z) : FnOk P w K mg base CX0 1 Z.a_common_divisor Z.d_common_divisor ["one", "other"] sp_cd := by
 refine T.F_common_divisor.ok sc_common_divisor (fun vs H Q E h => ?_) (fun cdv A outer s H vs Q E hr h => ?_)
 ·obtain ⟨a, b, rfl, k⟩ := h
  rfl
 ·obtain ⟨a, b, rfl, k⟩ := h
  refine ⟨_, (pss_cons (ps_while PassesOwn.never (pt_cmpR op_ne (pv 1) pe_int (nomark _))
    (pss_cons (ps_set (i := 2) sc_common_divisor.nd rfl (Or.inl rfl) (pe_op op_modN (pv 0) (pv 1)))
   (pss_cons (ps_set (i := 0) sc_common_divisor.nd rfl (Or.inl rfl) (pv 1))
   (pss_one (ps_set (i := 1) sc_common_divisor.nd rfl (Or.inl rfl) (pv 2))))))
   (pss_one (ps_ret (pe_callB call_abs (by rfl) T.abs PyProof.Rows.boot_abs (pa_cons (pv 0) pa_nil))))), ?_⟩
  refine rd_start (σ := [some (.int a), some (.int b), none]) rfl ?_
  walk_at "w"
  refine while_i (fun σ' H' => ∃ (u v : Int) (r : Option V), σ' = [some (.int u), some (.int v), r] /\ H' = H /\ Int.gcd u v = Int.gcd a b) (fun σ' _ => match σ' with | [_, some (.int v), _] => v.natAbs | _ => 0) ⟨a, b, none, rfl, rfl, rfl⟩ ?_
  rintro σ' H' ⟨u, v, r, rfl, rfl, hg⟩
  walk_at "w"
  refine ite2 (fun h => ?_) (fun h => ?_)
  ·have hv : v ≠ 0 := fun z => by subst z; simp at h
   walk_at "w"
   refine rd_I (show v ≠ 0 from hv) ?_
   walk_at "w"
   exact ⟨⟨v, u.fmod v, _, rfl, rfl, (gcd_fmod u v).trans hg⟩, fmod_lt u v hv⟩
  ·have hv : v = 0 := by
    by_cases z : v = 0
    ·exact z
    ·exfalso; apply h; simp [z]
   subst hv
   walk_at "w"
   have e : (if u < 0 then -u else u) = g a b := by
    unfold g
    rw [<- hg, Int.gcd_zero_right]
    split <;> omega
   rw [e]
   exact k
theorem sc_is_number : FnScope ["thing"] ["thing"] (defScope s_is_number) := ⟨rfl, rfl, rfl, by decide +kernel, rfl, by decide +kernel, by decide +kernel⟩
theorem ok_is_number (T : Txt K mg Z) : FnOk P w K mg base CX0 2 Z.a_is_number Z.d_is_number ["thing"] (sp_isnumP K) := by
 have G_is_whole := ok_is_whole (P := P) (w := w) (base := base) T
 have G_common_divisor := ok_common_divisor (P := P) (w := w) (base := base) T
 refine T.F_is_number.ok sc_is_number (fun vs H Q E h => ?_) (fun cdv A outer s H vs Q E hr h => ?_)
 ·obtain ⟨x, n, rfl, ⟨p, rfl, hp⟩, hn, k⟩ := h
  rfl
 ·obtain ⟨x, n, rfl, ⟨p, rfl, hp⟩, hn, k⟩ := h
  refine ⟨_, (pss_cons (ps_if (PW.pt (pw_or (pt_not (pt_val (pe_isTK rfl T.isinstance PyProof.Rows.boot_tuple T.tuple (pv 0)))) (pw_or1 (pt_cmpR op_ne (pe_callB call_len_seq (by rfl) T.len PySem.boot_len (pa_cons (pv 0) pa_nil)) pe_int (nomark _))))) (pss_one (ps_ret pe_bl)) pss_nil)
   (pss_cons (ps_if (PW.pt (pw_or (pt_not (pt_val (pe_call G_is_whole (hr.mono (by decide)) rfl T.mg_is_whole T.F_is_whole.kp T.b_is_whole .nil pass0 (pa_cons (pe_ix ix_tup (pv 0) pe_int (by intro _ _; rfl)) pa_nil)))) (pw_or1 (pt_not (pt_val (pe_call G_is_whole (hr.mono (by decide)) rfl T.mg_is_whole T.F_is_whole.kp T.b_is_whole .nil pass0 (pa_cons (pe_ix ix_tup (pv 0) pe_int (by intro _ _; rfl)) pa_nil))))))) (pss_one (ps_ret pe_bl)) pss_nil)
   (pss_one (ps_ret (pe_and (pe_cmpR op_ge (pe_ix ix_tup (pv 0) pe_int (by intro _ _; rfl)) pe_int (nomark _)) (pe_one (pe_cmpR op_eq (pe_call G_common_divisor (hr.mono (by decide)) rfl T.mg_common_divisor T.F_common_divisor.kp T.b_common_divisor .nil pass0 (pa_cons (pe_ix ix_tup (pv 0) pe_int (by intro _ _; rfl)) (pa_cons (pe_ix ix_tup (pv 0) pe_int (by intro _ _; rfl)) pa_nil))) pe_int (nomark _)))))))), ?_⟩
  refine rd_start (σ := [some (.ref p)]) rfl ?_
  obtain ⟨hb, hg, s1, s2⟩ := hn
  walk_at "w"
  refine .inr ⟨p, _, _, rfl, hp, rfl, ?_⟩
  walk_at "w"
  refine ⟨_, _, rfl, .inr hp, ?_⟩
  walk_at "w"
  try refine iteF ?_
  walk_at "w"
  refine ⟨n.1, rfl, ?_⟩
  walk_at "w"
  refine ⟨n.2, rfl, ?_⟩
  walk_at "w"
  rw [decide_eq_true (show (1 : Int) <= n.2 by omega)]
  walk_at "w"
  refine ⟨n.1, n.2, rfl, ?_⟩
  walk_at "w"
  have e : g n.1 n.2 = 1 := by unfold g; rw [hg]; rfl
  rw [e, decide_eq_true rfl]
  exact k _ (Same.refl _)
theorem sc_is_row : FnScope ["thing", "many"] ["thing", "many"] (defScope s_is_row) := ⟨rfl, rfl, rfl, by decide +kernel, rfl, by decide +kernel, by decide +kernel⟩
theorem ok_is_row (T : Txt K mg Z) : FnOk P w K mg base CX0 3 Z.a_is_row Z.d_is_row ["thing", "many"] (sp_isrowK K) := by
 have G_is_number := ok_is_number (P := P) (w := w) (base := base) T
 refine T.F_is_row.ok sc_is_row (fun vs H Q E h => ?_) (fun cdv A outer s H vs Q E hr h => ?_)
 ·obtain ⟨p, ns, rfl, hp, hl, hn, k⟩ := h
  rfl
 ·obtain ⟨p, ns, rfl, hp, hl, hn, k⟩ := h
  refine ⟨_, (pss_cons (ps_if (PW.pt (pw_or (pt_not (pt_val (pe_isT rfl T.isinstance PyProof.Rows.boot_list T.list (pv 0)))) (pw_or1 (pt_cmpR op_ne (pe_callB call_len_seq (by rfl) T.len PySem.boot_len (pa_cons (pv 0) pa_nil)) (pv 1) (nomark _))))) (pss_one (ps_ret pe_bl)) pss_nil)
   (pss_one (ps_ret (pe_callB (call_all rfl) (by rfl) T.all PyProof.Rows.boot_all (pa_cons (pe_comp ["value"] [] [] (pi_list (pv 0)) (fun _ => (pg_name (i := 0) (show List.Nodup (α := PySem.Str) ["value"] by decide +kernel) rfl (Or.inl rfl) (Or.inl rfl))) (fun _ => pf_nil) (fun _ => (pe_call G_is_number (hr.mono (by decide)) rfl T.mg_is_number T.F_is_number.kp T.b_is_number .nil pass0 (pa_cons (pv 0) pa_nil)))) pa_nil))))), ?_⟩
  refine rd_start (σ := [some (.ref p), some (.int ns.length)]) rfl ?_
  obtain ⟨xs, gx, qx⟩ := id hp
  have lx := qx.length
  walk_at "w"
  refine ⟨_, _, .lst gx, rfl, ?_⟩
  walk_at "w"
  refine ⟨_, _, rfl, .inl (SqL.of gx), ?_⟩
  walk_at "w"
  rw [show ((xs.length : Nat) : Int) = (ns.length : Nat) by rw [lx], decide_eq_true rfl]
  walk_at "w"
  refine ⟨⟨_, SqL.of gx⟩, ?_⟩
  refine comp_list (K := K) (xs := xs) (fun i ys H' => Same H H' /\ ys = List.replicate i (.bl true)) (Nat.le_of_lt (small1000 (by omega))) ⟨Same.refl _, rfl⟩ (fun i ys H' _ ⟨s, _⟩ => SqL.of (s _ _ gx)) ?_ ?_
  ·rintro i x ys H' hx hlen ⟨s, rfl⟩
   obtain ⟨n, en, z⟩ := paired_at qx hx
   walk_at "w"
   exact ⟨x, n, rfl, s.num z, hn n (List.mem_of_getElem? en), fun H2 s2 => ⟨s.trans s2, by rw [List.replicate_succ']⟩⟩
  ·rintro ys H' hy ⟨s, rfl⟩ l hl'
   walk_at "w"
   refine ⟨l, List.replicate xs.length true, rfl, SqL.of (by rw [upd_same]; simp), ?_⟩
   have e4 : (List.replicate xs.length true).all id = true := by simp
   rw [e4]
   exact k _ (s.trans (Same.new hl'))
theorem sc_copied_rows : FnScope ["things", "wide", "place", "thing"] ["things", "wide"] (defScope s_copied_rows) := ⟨rfl, rfl, rfl, by decide +kernel, rfl, by decide +kernel, by decide +kernel⟩
theorem ok_copied_rows (T : Txt K mg Z) : FnOk P w K mg base CX0 4 Z.a_copied_rows Z.d_copied_rows ["things", "wide"] (sp_copR K) := by
 have G_is_row := ok_is_row (P := P) (w := w) (base := base) T
 refine T.F_copied_rows.ok sc_copied_rows (fun vs H Q E h => ?_) (fun cdv A outer s H vs Q E hr h => ?_)
 ·obtain ⟨p, H0, rows, w, rfl, hp, hl, hw, hn, k⟩ := h
  rfl
 ·obtain ⟨p, H0, rows, w, rfl, hp, hl, hw, hn, k⟩ := h
  refine ⟨_, (pss_cons (ps_for PassesOwn.never rfl (pi_enum rfl T.enumerate (pa_cons (pv 0) pa_nil)) (pg_tup rfl (pgs_cons (pg_name (i := 2) sc_copied_rows.nd rfl (Or.inl rfl) (Or.inl rfl)) (pgs_cons (pg_name (i := 3) sc_copied_rows.nd rfl (Or.inl rfl) (Or.inl rfl)) pgs_nil)))
    (pss_one (ps_if (pt_not (pt_val (pe_call G_is_row (hr.mono (by decide)) rfl T.mg_is_row T.F_is_row.kp T.b_is_row .nil pass0 (pa_cons (pv 3) (pa_cons (pv 1) pa_nil))))) (pss_one ps_no) pss_nil)))
   (pss_one (ps_ret (pe_comp ["row"] [] [] (pi_list (pv 0)) (fun _ => (pg_name (i := 0) (show List.Nodup (α := PySem.Str) ["row"] by decide +kernel) rfl (Or.inl rfl) (Or.inl rfl))) (fun _ => pf_nil) (fun _ => (pe_callTy (call_list_ofK K (by rfl)) (by rfl) T.list PyProof.Rows.boot_list (pa_cons (pv 0) pa_nil))))))), ?_⟩
  refine rd_start (σ := [some (.ref p), some (.int w), none, none]) rfl ?_
  obtain ⟨xs, gx, qx, _⟩ := id hp
  walk_at "w"
  refine ⟨⟨_, SqL.of gx⟩, ?_⟩
  refine for_enum (K := K) (l := p) (xs := xs) (fun i σ' H' => Same H H' /\ ∃ x y, σ' = [some (.ref p), some (.int w), x, y]) ⟨Same.refl _, none, none, rfl⟩ (fun i σ' H' _ ⟨s, _⟩ => SqL.of (s _ _ gx)) ?_ ?_
  ·rintro i x σ' H' t hx ⟨s, x1, y1, rfl⟩ ht
   obtain ⟨qs, eq, q, rfl, _, Rq⟩ := paired_at qx hx
   have hm := List.mem_of_getElem? eq
   have st : Same H' (upd H' t (.tup [.int i, .ref q])) := Same.new ht
   have gt : (upd H' t (.tup [.int i, .ref q])) t = some (.tup [.int i, .ref q]) := upd_same
   have s2 := s.trans st
   generalize upd H' t (.tup [.int i, .ref q]) = H2 at st gt s2 ⊢
   have lq : (qs.map nm).length = w := by rw [List.length_map]; exact (hn qs hm).1
   walk_at "w"
   refine ⟨q, _, by rw [lq], (Rq.same s2).rowK, by rw [lq]; exact hw, fun n hn' => ?_, fun H3 s3 => ?_⟩
   ·obtain ⟨y, hy, rfl⟩ := List.mem_map.mp hn'
    exact (hn qs hm).2 y hy
   walk_at "w"
   exact ⟨s2.trans s3, _, _, rfl⟩
  ·rintro σ' H' ⟨s, x1, y1, rfl⟩
   walk_at "w"
   refine ⟨⟨_, SqL.of (s _ _ gx)⟩, ?_⟩
   refine comp_mapL (K := K) (F := RowF K H0) (RowF K H) id (s _ _ gx) (Paired.imp' (fun _ _ z => z.same s) qx) hl (fun a b => a.same b) (fun a b => a.same b) ?_ ?_
   ·rintro i ns x H2 NY NN en s2 ⟨u, rfl, _, zs, gz, qz⟩ k1
    walk_at "w"
    refine ⟨u, zs, rfl, .inl (SqL.of gz), fun l1 hl1 => ?_⟩
    exact k1 _ _ (Same.new hl1) ⟨l1, rfl, s.none (s2.none hl1), zs, upd_same, Paired.imp' (fun _ _ z => z.same (Same.new hl1)) qz⟩
   ·rintro ys' H2 r hr s2 g pr nx
    rw [List.map_id] at pr nx
    exact k r H2 (s.none hr) (s.trans s2) ⟨ys', g, pr, notin nx⟩
theorem sc_System___init__ : FnScope ["self", "move", "put", "look"] ["self", "move", "put", "look"] (defScope s_System___init__) := ⟨rfl, rfl, rfl, by decide +kernel, rfl, by decide +kernel, by decide +kernel⟩
theorem ok_System___init__ (T : Txt K mg Z) : FnOk P w K mg base CX0 5 Z.a_System___init__ Z.d_System___init__ ["self", "move", "put", "look"] (sp_init K Z.a_System) := by
 have G_want_list := ok_want_list (P := P) (w := w) (base := base) T
 have G_copied_rows := ok_copied_rows (P := P) (w := w) (base := base) T
 refine T.F_System___init__.ok sc_System___init__ (fun vs H Q E h => ?_) (fun cdv A outer s H vs Q E hr h => ?_)
 ·obtain ⟨x, dx, p, q, r, Hb, H0, H1, H2, mv, pt, lk, rfl, nx, ndx, nex, rfl, gp, gq, gr, D, om, op, ol, k⟩ := h
  rfl
 ·obtain ⟨x, dx, p, q, r, Hb, H0, H1, H2, mv, pt, lk, rfl, nx, ndx, nex, rfl, gp, gq, gr, D, om, op, ol, k⟩ := h
  refine ⟨_, (pss_cons (ps_expr (pe_call G_want_list (hr.mono (by decide)) rfl T.mg_want_list T.F_want_list.kp T.b_want_list .nil pass0 (pa_cons (pv 1) (pa_cons pe_int (pa_cons (pe_glob (v := .int 8) rfl T.mg_MOST_STATES ⟨_, rfl⟩) pa_nil)))))
   (pss_cons (ps_fld (pv 0) (pe_call G_copied_rows (hr.mono (by decide)) rfl T.mg_copied_rows T.F_copied_rows.kp T.b_copied_rows .nil pass0 (pa_cons (pv 1) (pa_cons (pe_callB call_len_seq (by rfl) T.len PySem.boot_len (pa_cons (pv 1) pa_nil)) pa_nil))) rfl)
   (pss_cons (ps_fld (pv 0) (pe_callB call_len_seq (by rfl) T.len PySem.boot_len (pa_cons (pe_fld (pv 0) rfl) pa_nil)) rfl)
   (pss_cons (ps_expr (pe_call G_want_list (hr.mono (by decide)) rfl T.mg_want_list T.F_want_list.kp T.b_want_list .nil pass0 (pa_cons (pv 2) (pa_cons pe_int (pa_cons (pe_glob (v := .int 4) rfl T.mg_MOST_PUTS ⟨_, rfl⟩) pa_nil)))))
   (pss_cons (ps_fld (pv 0) (pe_call G_copied_rows (hr.mono (by decide)) rfl T.mg_copied_rows T.F_copied_rows.kp T.b_copied_rows .nil pass0 (pa_cons (pv 2) (pa_cons (pe_fld (pv 0) rfl) pa_nil))) rfl)
   (pss_cons (ps_fld (pv 0) (pe_callB call_len_seq (by rfl) T.len PySem.boot_len (pa_cons (pe_fld (pv 0) rfl) pa_nil)) rfl)
   (pss_cons (ps_expr (pe_call G_want_list (hr.mono (by decide)) rfl T.mg_want_list T.F_want_list.kp T.b_want_list .nil pass0 (pa_cons (pv 3) (pa_cons pe_int (pa_cons (pe_glob (v := .int 4) rfl T.mg_MOST_LOOKS ⟨_, rfl⟩) pa_nil)))))
   (pss_cons (ps_fld (pv 0) (pe_call G_copied_rows (hr.mono (by decide)) rfl T.mg_copied_rows T.F_copied_rows.kp T.b_copied_rows .nil pass0 (pa_cons (pv 3) (pa_cons (pe_fld (pv 0) rfl) pa_nil))) rfl)
   (pss_one (ps_fld (pv 0) (pe_callB call_len_seq (by rfl) T.len PySem.boot_len (pa_cons (pe_fld (pv 0) rfl) pa_nil)) rfl)))))))))), ?_⟩
  refine rd_start (σ := [some (.ref x), some (.ref p), some (.ref q), some (.ref r)]) rfl ?_
  have s0 : Same Hb (upd (upd Hb dx (.own x)) x (.ins Z.a_System dx [])) := fun b o e => by
   rw [upd_ne (ne_of_none e nx), upd_ne (ne_of_none e ndx)]
   exact e
  have hx : (upd (upd Hb dx (.own x)) x (.ins Z.a_System dx [])) x = some (.ins Z.a_System dx []) := upd_same
  have back : ∀ {b}, (upd (upd Hb dx (.own x)) x (.ins Z.a_System dx [])) b = none -> Hb b = none := fun h => s0.none h
  generalize upd (upd Hb dx (.own x)) x (.ins Z.a_System dx []) = Ha at s0 hx back ⊢
  obtain ⟨xs, gx, qx, _⟩ := id gp
  obtain ⟨ys, gy, qy, _⟩ := id gq
  obtain ⟨zs, gz, qz, _⟩ := id gr
  have lx := qx.length
  have ly := qy.length
  have lz := qz.length
  have d1 := D.n8
  have d2 := D.i4
  have d3 := D.o4
  walk_at "w"
  refine ⟨p, xs, 0, 8, rfl, s0 _ _ gx, by omega, ?_⟩
  walk_at "w"
  refine ⟨_, _, rfl, .inl (SqL.of (s0 _ _ gx)), ?_⟩
  walk_at "w"
  refine ⟨p, H0, mv, mv.length, by rw [lx], gp.same s0, by omega, by omega, fun ws hw => ⟨D.mw ws hw, om ws hw⟩, fun a H3 na s3 Ga => ?_⟩
  have hx3 := s3 _ _ hx
  walk_at "w"
  refine ⟨x, Z.a_System, dx, _, rfl, hx3, T.cl_System, T.na_move, (by show 0 < 1000; decide), ?_⟩
  have e3 : Exc x H3 (upd H3 x (.ins Z.a_System dx (putF "move" (.ref a) []))) := Exc.upd
  have i3 : IsIns H3 x := ⟨_, _, _, hx3⟩
  have hx4 : (upd H3 x (.ins Z.a_System dx (putF "move" (.ref a) []))) x = some (.ins Z.a_System dx (putF "move" (.ref a) [])) := upd_same
  have Ga4 := Ga.exc e3 i3
  have k4 : Same Hb (upd H3 x (.ins Z.a_System dx (putF "move" (.ref a) []))) := (s0.trans s3).after nx
  generalize upd H3 x (.ins Z.a_System dx (putF "move" (.ref a) [])) = H4 at e3 hx4 Ga4 k4 ⊢
  walk_at "w"
  refine ⟨x, Z.a_System, dx, _, _, rfl, hx4, T.cl_System, T.na_move, (by rw [lookup_putF, if_pos rfl]), ?_⟩
  obtain ⟨as, ga, qa, _⟩ := id Ga4
  have la := qa.length
  walk_at "w"
  refine ⟨_, _, rfl, .inl (SqL.of ga), ?_⟩
  walk_at "w"
  refine ⟨x, Z.a_System, dx, _, rfl, hx4, T.cl_System, T.na_states, Nat.lt_of_le_of_lt putF_len (by show 1 < 1000; decide), ?_⟩
  rw [show ((as.length : Nat) : Int) = ((mv.length : Nat) : Int) by rw [la]]
  have e4 : Exc x H4 (upd H4 x (.ins Z.a_System dx (putF "states" (.int mv.length) (putF "move" (.ref a) [])))) := Exc.upd
  have i4 : IsIns H4 x := ⟨_, _, _, hx4⟩
  have hx5 : (upd H4 x (.ins Z.a_System dx (putF "states" (.int mv.length) (putF "move" (.ref a) [])))) x = some (.ins Z.a_System dx (putF "states" (.int mv.length) (putF "move" (.ref a) []))) := upd_same
  have Ga5 := Ga4.exc e4 i4
  have k5 : Same Hb (upd H4 x (.ins Z.a_System dx (putF "states" (.int mv.length) (putF "move" (.ref a) [])))) := k4.after nx
  generalize upd H4 x (.ins Z.a_System dx (putF "states" (.int mv.length) (putF "move" (.ref a) []))) = H5 at e4 hx5 Ga5 k5 ⊢
  clear e3 e4 i3 i4 hx4 Ga4 ga qa
  walk_at "w"
  refine ⟨q, ys, 1, 4, rfl, k5 _ _ gy, by omega, ?_⟩
  walk_at "w"
  refine ⟨x, Z.a_System, dx, _, _, rfl, hx5, T.cl_System, T.na_states, (by rw [lookup_putF, if_pos rfl]), ?_⟩
  walk_at "w"
  refine ⟨q, H1, pt, mv.length, rfl, gq.same k5, by omega, by omega, fun ws hw => ⟨D.pw ws hw, op ws hw⟩, fun b H6 nb s6 Gb => ?_⟩
  have hx6 := s6 _ _ hx5
  have i6 : IsIns H6 x := ⟨_, _, _, hx6⟩
  walk_at "w"
  refine ⟨x, Z.a_System, dx, _, rfl, hx6, T.cl_System, T.na_put, Nat.lt_of_le_of_lt putF_len (Nat.lt_of_le_of_lt (Nat.succ_le_succ putF_len) (by show 2 < 1000; decide)), ?_⟩
  have e6 : Exc x H6 (upd H6 x (.ins Z.a_System dx (putF "put" (.ref b) (putF "states" (.int mv.length) (putF "move" (.ref a) []))))) := Exc.upd
  have hx7 : (upd H6 x (.ins Z.a_System dx (putF "put" (.ref b) (putF "states" (.int mv.length) (putF "move" (.ref a) []))))) x = some (.ins Z.a_System dx (putF "put" (.ref b) (putF "states" (.int mv.length) (putF "move" (.ref a) [])))) := upd_same
  have Ga7 := (Ga5.same s6).exc e6 i6
  have Gb7 := (Gb.weak k5).exc e6 i6
  have k7 : Same Hb (upd H6 x (.ins Z.a_System dx (putF "put" (.ref b) (putF "states" (.int mv.length) (putF "move" (.ref a) []))))) := (k5.trans s6).after nx
  generalize upd H6 x (.ins Z.a_System dx (putF "put" (.ref b) (putF "states" (.int mv.length) (putF "move" (.ref a) [])))) = H7 at e6 hx7 Ga7 Gb7 k7 ⊢
  obtain ⟨bs, gb, qb, _⟩ := id Gb7
  have lb := qb.length
  walk_at "w"
  refine ⟨x, Z.a_System, dx, _, _, rfl, hx7, T.cl_System, T.na_put, (by rw [lookup_putF, if_pos rfl]), ?_⟩
  walk_at "w"
  refine ⟨_, _, rfl, .inl (SqL.of gb), ?_⟩
  walk_at "w"
  refine ⟨x, Z.a_System, dx, _, rfl, hx7, T.cl_System, T.na_ins, Nat.lt_of_le_of_lt putF_len (Nat.lt_of_le_of_lt (Nat.succ_le_succ (Nat.le_trans putF_len (Nat.succ_le_succ putF_len))) (by show 3 < 1000; decide)), ?_⟩
  rw [show ((bs.length : Nat) : Int) = ((pt.length : Nat) : Int) by rw [lb]]
  have i7 : IsIns H7 x := ⟨_, _, _, hx7⟩
  have e7 : Exc x H7 (upd H7 x (.ins Z.a_System dx (putF "ins" (.int pt.length) (putF "put" (.ref b) (putF "states" (.int mv.length) (putF "move" (.ref a) [])))))) := Exc.upd
  have hx8 : (upd H7 x (.ins Z.a_System dx (putF "ins" (.int pt.length) (putF "put" (.ref b) (putF "states" (.int mv.length) (putF "move" (.ref a) [])))))) x = some (.ins Z.a_System dx (putF "ins" (.int pt.length) (putF "put" (.ref b) (putF "states" (.int mv.length) (putF "move" (.ref a) []))))) := upd_same
  have Ga8 := Ga7.exc e7 i7
  have Gb8 := Gb7.exc e7 i7
  have k8 : Same Hb (upd H7 x (.ins Z.a_System dx (putF "ins" (.int pt.length) (putF "put" (.ref b) (putF "states" (.int mv.length) (putF "move" (.ref a) [])))))) := k7.after nx
  generalize upd H7 x (.ins Z.a_System dx (putF "ins" (.int pt.length) (putF "put" (.ref b) (putF "states" (.int mv.length) (putF "move" (.ref a) []))))) = H8 at e7 hx8 Ga8 Gb8 k8 ⊢
  clear e6 e7 i6 i7 hx7 Ga7 Gb7 gb qb
  walk_at "w"
  refine ⟨r, zs, 2, 4, rfl, k8 _ _ gz, by omega, ?_⟩
  walk_at "w"
  refine ⟨x, Z.a_System, dx, _, _, rfl, hx8, T.cl_System, T.na_states, (by rw [lookup_putF, if_neg (by decide +kernel), lookup_putF, if_neg (by decide +kernel), lookup_putF, if_pos rfl]), ?_⟩
  walk_at "w"
  refine ⟨r, H2, lk, mv.length, rfl, gr.same k8, by omega, by omega, fun ws hw => ⟨D.lw ws hw, ol ws hw⟩, fun c H9 nc s9 Gc => ?_⟩
  have hx9 := s9 _ _ hx8
  have i9 : IsIns H9 x := ⟨_, _, _, hx9⟩
  walk_at "w"
  refine ⟨x, Z.a_System, dx, _, rfl, hx9, T.cl_System, T.na_look, Nat.lt_of_le_of_lt putF_len (Nat.lt_of_le_of_lt (Nat.succ_le_succ (Nat.le_trans putF_len (Nat.succ_le_succ (Nat.le_trans putF_len (Nat.succ_le_succ putF_len))))) (by show 4 < 1000; decide)), ?_⟩
  have e9 : Exc x H9 (upd H9 x (.ins Z.a_System dx (putF "look" (.ref c) (putF "ins" (.int pt.length) (putF "put" (.ref b) (putF "states" (.int mv.length) (putF "move" (.ref a) []))))))) := Exc.upd
  have hxA : (upd H9 x (.ins Z.a_System dx (putF "look" (.ref c) (putF "ins" (.int pt.length) (putF "put" (.ref b) (putF "states" (.int mv.length) (putF "move" (.ref a) []))))))) x = some (.ins Z.a_System dx (putF "look" (.ref c) (putF "ins" (.int pt.length) (putF "put" (.ref b) (putF "states" (.int mv.length) (putF "move" (.ref a) [])))))) := upd_same
  have GaA := (Ga8.same s9).exc e9 i9
  have GbA := (Gb8.same s9).exc e9 i9
  have GcA := (Gc.weak k8).exc e9 i9
  have kA : Same Hb (upd H9 x (.ins Z.a_System dx (putF "look" (.ref c) (putF "ins" (.int pt.length) (putF "put" (.ref b) (putF "states" (.int mv.length) (putF "move" (.ref a) []))))))) := (k8.trans s9).after nx
  generalize upd H9 x (.ins Z.a_System dx (putF "look" (.ref c) (putF "ins" (.int pt.length) (putF "put" (.ref b) (putF "states" (.int mv.length) (putF "move" (.ref a) [])))))) = HA at e9 hxA GaA GbA GcA kA ⊢
  obtain ⟨cs, gc, qc, _⟩ := id GcA
  have lc := qc.length
  walk_at "w"
  refine ⟨x, Z.a_System, dx, _, _, rfl, hxA, T.cl_System, T.na_look, (by rw [lookup_putF, if_pos rfl]), ?_⟩
  walk_at "w"
  refine ⟨_, _, rfl, .inl (SqL.of gc), ?_⟩
  walk_at "w"
  refine ⟨x, Z.a_System, dx, _, rfl, hxA, T.cl_System, T.na_outs, Nat.lt_of_le_of_lt putF_len (Nat.lt_of_le_of_lt (Nat.succ_le_succ (Nat.le_trans putF_len (Nat.succ_le_succ (Nat.le_trans putF_len (Nat.succ_le_succ (Nat.le_trans putF_len (Nat.succ_le_succ putF_len))))))) (by show 5 < 1000; decide)), ?_⟩
  rw [show ((cs.length : Nat) : Int) = ((lk.length : Nat) : Int) by rw [lc]]
  have iA : IsIns HA x := ⟨_, _, _, hxA⟩
  exact k _ (kA.after nx) ⟨dx, a, b, c, upd_same, back na, k5.none nb, k8.none nc, (GaA.exc Exc.upd iA).weak s0, GbA.exc Exc.upd iA, GcA.exc Exc.upd iA⟩
theorem sc__law_copied : FnScope ["_law_grid"] ["_law_grid"] (defScope s__law_copied) := ⟨rfl, rfl, rfl, by decide +kernel, rfl, by decide +kernel, by decide +kernel⟩
theorem ok__law_copied (T : Txt K mg Z) : FnOk P w K mg base CX0 1 Z.a__law_copied Z.d__law_copied ["_law_grid"] (sp_copiedQ K) := by
 refine T.F__law_copied.ok sc__law_copied (fun vs H Q E h => ?_) (fun cdv A outer s H vs Q E hr h => ?_)
 ·obtain ⟨p, H0, rows, rfl, hp, hl, hm, k⟩ := h
  rfl
 ·obtain ⟨p, H0, rows, rfl, hp, hl, hm, k⟩ := h
  refine ⟨_, (pss_one (ps_ret (pe_comp ["_law_row_here"] [] [] (pi_list (pv 0)) (fun _ => (pg_name (i := 0) (show List.Nodup (α := PySem.Str) ["_law_row_here"] by decide +kernel) rfl (Or.inl rfl) (Or.inl rfl))) (fun _ => pf_nil) (fun _ => (pe_callTy (call_list_ofK K (by rfl)) (by rfl) T.list PyProof.Rows.boot_list (pa_cons (pv 0) pa_nil)))))), ?_⟩
  refine rd_start (σ := [some (.ref p)]) rfl ?_
  obtain ⟨xs, gx, qx, _⟩ := id hp
  walk_at "w"
  refine ⟨⟨_, SqL.of gx⟩, ?_⟩
  refine comp_mapL (K := K) (F := RowF K H0) (RowF K H) id gx qx hl (fun a b => a.same b) (fun a b => a.same b) ?_ ?_
  ·rintro i ns x H' NY NN en s ⟨u, rfl, _, zs, gz, qz⟩ k1
   walk_at "w"
   refine ⟨u, zs, rfl, .inl (SqL.of gz), fun l1 hl1 => ?_⟩
   exact k1 _ _ (Same.new hl1) ⟨l1, rfl, s.none hl1, zs, upd_same, Paired.imp' (fun _ _ z => z.same (Same.new hl1)) qz⟩
  ·rintro ys' H' r hr s g pr nx
   rw [List.map_id] at pr nx
   exact k r H' hr s ⟨ys', g, pr, notin nx⟩
theorem sc__law_made : FnScope ["_law_parts_here"] ["_law_parts_here"] (defScope s__law_made) := ⟨rfl, rfl, rfl, by decide +kernel, rfl, by decide +kernel, by decide +kernel⟩
theorem ok__law_made (T : Txt K mg Z) : FnOk P w K mg base CX0 7 Z.a__law_made Z.d__law_made ["_law_parts_here"] (sp_systemQ K Z.a_System) := by
 have G_System___init__ := ok_System___init__ (P := P) (w := w) (base := base) T
 have G__law_copied := ok__law_copied (P := P) (w := w) (base := base) T
 refine T.F__law_made.ok sc__law_made (fun vs H Q E h => ?_) (fun cdv A outer s H vs Q E hr h => ?_)
 ·obtain ⟨r, H0, mv, pt, lk, rfl, PQ, D, F, k⟩ := h
  rfl
 ·obtain ⟨r, H0, mv, pt, lk, rfl, PQ, D, F, k⟩ := h
  refine ⟨_, (pss_one (ps_ret (pe_make T.mk_System G_System___init__ (hr.mono (by decide)) rfl T.mg_System T.b_System___init__ .nil pass0 (pa_cons (pe_call G__law_copied (hr.mono (by decide)) rfl T.mg__law_copied T.F__law_copied.kp T.b__law_copied .nil pass0 (pa_cons (pe_ix ix_tup (pv 0) pe_int (by intro _ _; rfl)) pa_nil)) (pa_cons (pe_call G__law_copied (hr.mono (by decide)) rfl T.mg__law_copied T.F__law_copied.kp T.b__law_copied .nil pass0 (pa_cons (pe_ix ix_tup (pv 0) pe_int (by intro _ _; rfl)) pa_nil)) (pa_cons (pe_call G__law_copied (hr.mono (by decide)) rfl T.mg__law_copied T.F__law_copied.kp T.b__law_copied .nil pass0 (pa_cons (pe_ix ix_tup (pv 0) pe_int (by intro _ _; rfl)) pa_nil)) pa_nil)))))), ?_⟩
  refine rd_start (σ := [some (.ref r)]) rfl ?_
  obtain ⟨m, p, l, g, n1, n2, n3, Gm, Gp, Gl⟩ := id PQ
  have d1 := D.n8
  have d2 := D.i4
  have d3 := D.o4
  walk_at "w"
  refine ⟨m, H0, mv, rfl, Gm, by omega, fun xs hx => by rw [D.mw xs hx]; omega, fun a H1 na s1 Ga => ?_⟩
  have g1 := s1 _ _ g
  walk_at "w"
  refine ⟨p, H0, pt, rfl, Gp.same s1, by omega, fun xs hx => by rw [D.pw xs hx]; omega, fun b H2 nb s2 Gb => ?_⟩
  have s12 := s1.trans s2
  have g2 := s12 _ _ g
  walk_at "w"
  refine ⟨l, H0, lk, rfl, Gl.same s12, by omega, fun xs hx => by rw [D.lw xs hx]; omega, fun c H3 nc s3 Gc => ?_⟩
  have s13 := s12.trans s3
  walk_at "w"
  intro x dx nx ndx nex
  exact ⟨x, dx, a, b, c, H3, H, H1, H2, mv, pt, lk, rfl, nx, ndx, nex, rfl, (Ga.same s2).same s3, Gb.same s3, Gc, D, F.ok.1, F.ok.2.1, F.ok.2.2, fun H' s' S' => ⟨rfl, k x H' (s13.none nx) (s13.trans s') (S'.weak s13)⟩⟩
theorem sc_tops_over : FnScope ["row", "bottom"] ["row", "bottom"] (defScope s_tops_over) := ⟨rfl, rfl, rfl, by decide +kernel, rfl, by decide +kernel, by decide +kernel⟩
theorem ok_tops_over (T : Txt K mg Z) : FnOk P w K mg base CX0 1 Z.a_tops_over Z.d_tops_over ["row", "bottom"] (sp_topsQ K) := by
 refine T.F_tops_over.ok sc_tops_over (fun vs H Q E h => ?_) (fun cdv A outer s H vs Q E hr h => ?_)
 ·obtain ⟨p, ns, M, B, rfl, hp, hl, hz, hB, sB, q⟩ := h
  rfl
 ·obtain ⟨p, ns, M, B, rfl, hp, hl, hz, hB, sB, q⟩ := h
  refine ⟨_, (pss_one (ps_ret (pe_comp ["value"] ["bottom"] [1] (pi_list (pv 0)) (fun _ => (pg_name (i := 0) (show List.Nodup (α := PySem.Str) ["value", "bottom"] by decide +kernel) rfl (Or.inl rfl) (Or.inl rfl))) (fun _ => pf_nil) (fun _ => (pe_op op_mulS (pe_ix (ix_tupK K (by rfl)) (pv 0) pe_int (by intro _ _; rfl)) (pe_op op_fdivS (pv 1) (pe_ix (ix_tupK K (by rfl)) (pv 0) pe_int (by intro _ _; rfl)))))))), ?_⟩
  refine rd_start (σ := [some (.ref p), some (.int B)]) rfl ?_
  obtain ⟨xs, gx, qx⟩ := id hp
  have lx := qx.length
  walk_at "w"
  refine ⟨⟨_, SqL.of gx⟩, ?_⟩
  refine comp_list (K := K) (xs := xs) (fun i ys H' => H' = H /\ ys = (topsL (ns.take i) B).map V.int) (Nat.le_of_lt (small1000 (by omega))) ⟨rfl, rfl⟩ (fun i ys H' _ ⟨e, _⟩ => by subst e; exact SqL.of gx) ?_ ?_
  ·rintro i x ys H' hx hlen ⟨rfl, rfl⟩
   obtain ⟨n, en, r, rfl, hr1⟩ := paired_at qx hx
   have nz := hz.2.2 n (List.mem_of_getElem? en)
   have sn : Sz 4400 n.2 := dvd_sz hz.1 nz.2.1 hz.2.1
   walk_at "w"
   refine rd_I (show CDivS _ _ from ⟨by omega, sn.mono (by decide)⟩) ?_
   rw [Int.fdiv_eq_ediv_of_nonneg _ (by omega)]
   have sq : Sz 4400 (B / n.2) := sB.le (by
    rw [Int.natAbs_ediv_of_nonneg (by omega)]
    exact Nat.div_le_self ..)
   walk_at "w"
   refine rd_I (show CMulS _ _ from .inr ⟨_, _, nz.2.2, sq, by decide⟩) ?_
   exact ⟨rfl, by rw [take_snoc en]; simp [topsL]⟩
  ·rintro ys H' hy ⟨rfl, rfl⟩ l hl'
   exact q l _ hl' (Same.new hl') (by rw [upd_same, List.take_of_length_le (by omega)])
theorem sc_common_multiple : FnScope ["wholes", "multiple", "whole"] ["wholes"] (defScope s_common_multiple) := ⟨rfl, rfl, rfl, by decide +kernel, rfl, by decide +kernel, by decide +kernel⟩
theorem ok_common_multiple (T : Txt K mg Z) : FnOk P w K mg base CX0 2 Z.a_common_multiple Z.d_common_multiple ["wholes"] (sp_cmQ K) := by
 have G_common_divisor := ok_common_divisor (P := P) (w := w) (base := base) T
 refine T.F_common_multiple.ok sc_common_multiple (fun vs H Q E h => ?_) (fun cdv A outer s H vs Q E hr h => ?_)
 ·obtain ⟨p, bs, M, rfl, hp, hM, sM, hb, q⟩ := h
  rfl
 ·obtain ⟨p, bs, M, rfl, hp, hM, sM, hb, q⟩ := h
  refine ⟨_, (pss_cons (ps_set (i := 1) sc_common_multiple.nd rfl (Or.inl rfl) pe_int)
   (pss_cons (ps_for PassesOwn.never rfl (pi_list (pv 0)) (pg_name (i := 2) sc_common_multiple.nd rfl (Or.inl rfl) (Or.inl rfl))
    (pss_one (ps_set (i := 1) sc_common_multiple.nd rfl (Or.inl rfl) (pe_op op_mulS (pv 1) (pe_op op_fdivS (pv 2) (pe_call G_common_divisor (hr.mono (by decide)) rfl T.mg_common_divisor T.F_common_divisor.kp T.b_common_divisor .nil pass0 (pa_cons (pv 1) (pa_cons (pv 2) pa_nil))))))))
   (pss_one (ps_ret (pv 1))))), ?_⟩
  refine rd_start (σ := [some (.ref p), none, none]) rfl ?_
  walk_at "w"
  refine ⟨⟨_, hp⟩, ?_⟩
  refine for_list (K := K) (a := p) (xs := bs.map V.int) (fun i σ' H' => H' = H /\ ∃ x, σ' = [some (.ref p), some (.int (lcmL (bs.take i) 1)), x]) ⟨rfl, none, rfl⟩ (fun i σ' H' _ ⟨e, _⟩ => by subst e; exact hp) ?_ ?_
  ·rintro i x σ' H' hx ⟨rfl, y, rfl⟩
   rw [List.getElem?_map] at hx
   obtain ⟨b, eb, rfl⟩ : ∃ b, bs[i]? = some b /\ x = .int b := by
    cases e : bs[i]? with
    | none => rw [e] at hx; cases hx
    | some b => rw [e] at hx; cases hx; exact ⟨b, rfl, rfl⟩
   have b1 := hb b (List.mem_of_getElem? eb)
   have sb : Sz 4400 b := dvd_sz hM b1.2 sM
   have ht : ∀ c ∈ bs.take i, 0 < c /\ c ∣ M := fun c hc => hb c (List.mem_of_mem_take hc)
   have msz : Sz 4400 (lcmL (bs.take i) 1) := dvd_sz hM (lcmL_to (by decide) (Int.one_dvd _) ht) sM
   generalize hm : lcmL (bs.take i) 1 = m at msz ⊢
   have gp : 0 < g m b := g_pos (by omega)
   walk_at "w"
   refine ⟨m, b, rfl, ?_⟩
   walk_at "w"
   refine rd_I (show CDivS _ _ from ⟨by omega, (g_le b1.1 sb).mono (by decide)⟩) ?_
   rw [Int.fdiv_eq_ediv_of_nonneg _ (by omega)]
   walk_at "w"
   refine rd_I (show CMulS _ _ from .inr ⟨_, _, msz, sb.hi (t := m) (by omega), by decide⟩) ?_
   walk_at "w"
   exact ⟨rfl, _, by rw [take_snoc eb, lcmL_snoc, hm]; rfl⟩
  ·rintro σ' H' ⟨rfl, y, rfl⟩
   walk_at "w"
   rw [List.take_of_length_le (by simp)]
   exact q
theorem sc_common_bottom : FnScope ["row"] ["row"] (defScope s_common_bottom) := ⟨rfl, rfl, rfl, by decide +kernel, rfl, by decide +kernel, by decide +kernel⟩
theorem ok_common_bottom (T : Txt K mg Z) : FnOk P w K mg base CX0 3 Z.a_common_bottom Z.d_common_bottom ["row"] (sp_cbQ K) := by
 have G_common_multiple := ok_common_multiple (P := P) (w := w) (base := base) T
 refine T.F_common_bottom.ok sc_common_bottom (fun vs H Q E h => ?_) (fun cdv A outer s H vs Q E hr h => ?_)
 ·obtain ⟨p, ns, M, rfl, hp, hl, hz, q⟩ := h
  rfl
 ·obtain ⟨p, ns, M, rfl, hp, hl, hz, q⟩ := h
  refine ⟨_, (pss_one (ps_ret (pe_call G_common_multiple (hr.mono (by decide)) rfl T.mg_common_multiple T.F_common_multiple.kp T.b_common_multiple .nil pass0 (pa_cons (pe_comp ["value"] [] [] (pi_list (pv 0)) (fun _ => (pg_name (i := 0) (show List.Nodup (α := PySem.Str) ["value"] by decide +kernel) rfl (Or.inl rfl) (Or.inl rfl))) (fun _ => pf_nil) (fun _ => (pe_ix (ix_tupK K (by rfl)) (pv 0) pe_int (by intro _ _; rfl)))) pa_nil)))), ?_⟩
  refine rd_start (σ := [some (.ref p)]) rfl ?_
  obtain ⟨xs, gx, qx⟩ := id hp
  have lx := qx.length
  walk_at "w"
  refine ⟨⟨_, SqL.of gx⟩, ?_⟩
  refine comp_list (K := K) (xs := xs) (fun i ys H' => H' = H /\ ys = ((ns.take i).map (·.2)).map V.int) (Nat.le_of_lt (small1000 (by omega))) ⟨rfl, rfl⟩ (fun i ys H' _ ⟨e, _⟩ => by subst e; exact SqL.of gx) ?_ ?_
  ·rintro i x ys H' hx hlen ⟨rfl, rfl⟩
   obtain ⟨n, en, r, rfl, hr1⟩ := paired_at qx hx
   walk_at "w"
   exact ⟨rfl, by rw [take_snoc en]; simp⟩
  ·rintro ys H' hy ⟨rfl, rfl⟩ l hl'
   walk_at "w"
   refine ⟨l, ns.map (·.2), M, rfl, SqL.of (by rw [upd_same, List.take_of_length_le (by omega)]), hz.1, hz.2.1, fun b hb => ?_, ?_⟩
   ·obtain ⟨n, hn, rfl⟩ := List.mem_map.mp hb
    exact ⟨(hz.2.2 n hn).1, (hz.2.2 n hn).2.1⟩
   ·exact q _ (Same.new hl')
theorem sc_first_with : FnScope ["lines", "begin", "place", "at"] ["lines", "begin", "place"] (defScope s_first_with) := ⟨rfl, rfl, rfl, by decide +kernel, rfl, by decide +kernel, by decide +kernel⟩
theorem ok_first_with (T : Txt K mg Z) : FnOk P w K mg base CX0 1 Z.a_first_with Z.d_first_with ["lines", "begin", "place"] sp_firstW := by
 refine T.F_first_with.ok sc_first_with (fun vs H Q E h => ?_) (fun cdv A outer s H vs Q E hr h => ?_)
 ·obtain ⟨l, p, ls, b, c, rfl, G, l1000, b1000, hc, k1, k2⟩ := h
  rfl
 ·obtain ⟨l, p, ls, b, c, rfl, G, l1000, b1000, hc, k1, k2⟩ := h
  refine ⟨_, (pss_cons (ps_for PassesOwn.never rfl (pi_range2 rfl T.range (pa_cons (pv 1) (pa_cons (pe_callB call_len_seq (by rfl) T.len PySem.boot_len (pa_cons (pv 0) pa_nil)) pa_nil))) (pg_name (i := 3) sc_first_with.nd rfl (Or.inl rfl) (Or.inl rfl))
    (pss_one (ps_if (pt_cmpR op_ne (pe_ix ix_list (pe_ix ix_list (pv 0) (pv 3) (by intro _ _; rfl)) (pv 2) (by intro _ _; rfl)) pe_int (nomark _)) (pss_one (ps_ret (pv 3))) pss_nil)))
   (pss_one (ps_ret pe_non))), ?_⟩
  refine rd_start (σ := [some (.ref p), some (.int b), some (.int c), none]) rfl ?_
  obtain ⟨_, xs, gx, qx⟩ := id G
  have lx := qx.length
  walk_at "w"
  refine ⟨_, _, rfl, .inl (SqL.of gx), ?_⟩
  rw [<- lx]
  walk_at "w"
  refine ⟨⟨by omega, by omega, by omega, by omega⟩, ?_⟩
  refine for_range (lo := (b : Int)) (n := ((ls.length : Int) - (b : Int)).toNat) (fun i σ' H' => H' = H /\ (∃ y, σ' = [some (.ref p), some (.int b), some (.int c), y]) /\ ∀ s, b <= s -> s < b + i -> fnZ ls s c = 0) ⟨rfl, ⟨_, rfl⟩, fun s h1 h2 => absurd h2 (by omega)⟩ ?_ ?_
  ·rintro i σ' H' hi ⟨rfl, ⟨y, rfl⟩, hz⟩
   rw [show ((b : Int) + (i : Int)) = ((b + i : Nat) : Int) by omega]
   obtain ⟨zs, v, ez, ev, mz, q, rfl, _, gq⟩ := paired_at2 qx (i := b + i) (by omega)
   walk_at "w"
   refine rd_ixL (SqL.of gx) (atI_nat ev) ?_
   walk_at "w"
   refine rd_ixL (SqL.of gq) (zs_at (hc zs mz)) ?_
   walk_at "w"
   have ef := z_at (c := c) ez
   by_cases e : zs.getD c 0 = 0
   ·rw [decide_eq_true e]
    walk_at "w"
    refine ⟨rfl, ⟨_, rfl⟩, fun s h1 h2 => ?_⟩
    by_cases e2 : s = b + i
    ·rw [e2, ef, e]
     rfl
    ·exact hz s h1 (by omega)
   ·rw [decide_eq_false e]
    walk_at "w"
    exact k1 (b + i) (by omega) (by omega) (by rw [ef]; exact z_ne.mpr e)
  ·rintro σ' H' ⟨rfl, ⟨y, rfl⟩, hz⟩
   walk_at "w"
   exact k2 fun t h1 h2 => hz t h1 (by omega)
theorem sc_cleared : FnScope ["lines", "at", "place", "before", "used", "by", "swept"] ["lines", "at", "place", "before"] (defScope s_cleared) := ⟨rfl, rfl, rfl, by decide +kernel, rfl, by decide +kernel, by decide +kernel⟩
theorem ok_cleared (T : Txt K mg Z) : FnOk P w K mg base CX0 1 Z.a_cleared Z.d_cleared ["lines", "at", "place", "before"] sp_clearZ := by
 refine T.F_cleared.ok sc_cleared (fun vs H Q E h => ?_) (fun cdv A outer s H vs Q E hr h => ?_)
 ·obtain ⟨l, p, ls, kk, c, n, b, rfl, hl, G, l1000, hk, hw, n1000, hc, b0, sb, hs, k⟩ := h
  rfl
 ·obtain ⟨l, p, ls, kk, c, n, b, rfl, hl, G, l1000, hk, hw, n1000, hc, b0, sb, hs, k⟩ := h
  refine ⟨_, (pss_cons (ps_set (i := 4) sc_cleared.nd rfl (Or.inr rfl) (pe_ix ix_list (pv 0) (pv 1) (by intro _ _; rfl)))
   (pss_cons (ps_set (i := 5) sc_cleared.nd rfl (Or.inr rfl) (pe_ix ix_list (pv 4) (pv 2) (by intro _ _; rfl)))
   (pss_cons (ps_setC 6 ["line"] ["used", "by", "place", "before"] [4, 5, 2, 3] sc_cleared.nd rfl rfl (pi_list (pv 0)) (fun _ => (pg_name (i := 0) (show List.Nodup (α := PySem.Str) ["line", "used", "by", "place", "before"] by decide +kernel) rfl (Or.inr rfl) (Or.inl rfl))) (fun _ => pf_nil) (fun _ => (pe_comp ["mine", "yours"] ["by", "line", "place", "before"] [2, 0, 3, 4] (pi_zip2K K rfl T.zip (pa_cons (pv 0) (pa_cons (pv 1) pa_nil))) (fun _ => (pg_tupK K 2 (pgs_cons (pg_name (i := 0) (show List.Nodup (α := PySem.Str) ["mine", "yours", "by", "line", "place", "before"] by decide +kernel) rfl (Or.inl rfl) (Or.inl rfl)) (pgs_cons (pg_name (i := 1) (show List.Nodup (α := PySem.Str) ["mine", "yours", "by", "line", "place", "before"] by decide +kernel) rfl (Or.inl rfl) (Or.inl rfl)) pgs_nil)))) (fun _ => pf_nil) (fun _ => (pe_op op_fdivS (pe_op op_sub (pe_op op_mulS (pv 2) (pv 0)) (pe_op op_mulS (pe_ix (ix_listK K (by rfl)) (pv 3) (pv 4) (by intro _ _; rfl)) (pv 1))) (pv 5))))))
   (pss_cons (ps_asg (pv 4) (pg_sub (pv 6) (pv 1) set_list))
   (pss_one (ps_ret (pv 6))))))), ?_⟩
  refine rd_start (σ := [some (.ref p), some (.int kk), some (.int c), some (.int b), none, none, none]) rfl ?_
  obtain ⟨pl, xs, gx, qx⟩ := id G
  have lx := qx.length
  obtain ⟨zk, vk, ek, evk, mk, qk, rfl, qkl, gk⟩ := paired_at2 qx hk
  have wk := hw zk mk
  have ek' : ls.getD kk [] = zk := by rw [List.getD_eq_getElem?_getD, ek]; rfl
  walk_at "w"
  refine rd_ixL (SqL.of gx) (atI_nat evk) ?_
  walk_at "w"
  refine rd_ixL (SqL.of gk) (zs_at (by omega)) ?_
  walk_at "w"
  refine ⟨⟨_, SqL.of gx⟩, ?_⟩
  refine comp_list (K := K) (xs := xs) (fun i ys H' => Same H H' /\ Paired (RzR l H') ((ls.take i).map fun zs => List.zipWith (fun x y => (zk.getD c 0 * x - zs.getD c 0 * y).fdiv b) zs zk) ys) (Nat.le_of_lt (small1000 (by omega))) ⟨Same.refl _, .nil⟩ (fun i ys H' _ ⟨s, _⟩ => SqL.of (s _ _ gx)) ?_ ?_
  ·rintro i v ys0 H' hx hlen ⟨s', pr⟩
   obtain ⟨zs, ec, q, rfl, ql, gq⟩ := paired_at qx hx
   have mz := List.mem_of_getElem? ec
   have wz := hw zs mz
   have gq' := s' _ _ gq
   have gk' := s' _ _ gk
   walk_at "w"
   refine ⟨⟨_, SqL.of gq'⟩, ⟨_, SqL.of gk'⟩, ?_⟩
   refine comp_zip (K := K) (xs := zs.map V.int) (ws := zk.map V.int) (fun j ys H2 => Same H' H2 /\ ys = ((List.zipWith (fun x y => (zk.getD c 0 * x - zs.getD c 0 * y).fdiv b) zs zk).take j).map V.int) (Nat.le_of_lt (small1000 (by rw [List.length_map]; omega))) (by rw [List.length_map, List.length_map]; omega) ⟨Same.refl _, rfl⟩ (fun j ys H2 _ ⟨s2, _⟩ => ⟨SqL.of (s2 _ _ gq'), SqL.of (s2 _ _ gk')⟩) ?_ ?_
   ·rintro j v1 v2 ys H2 r h1 h2 hy ⟨s2, rfl⟩ hr
    obtain ⟨x, ex, rfl⟩ : ∃ x, zs[j]? = some x /\ V.int x = v1 := by
     rw [List.getElem?_map] at h1
     cases e : zs[j]? with
     | none => rw [e] at h1; cases h1
     | some x => rw [e] at h1; exact ⟨x, rfl, Option.some.inj h1⟩
    obtain ⟨y, ey, rfl⟩ : ∃ y, zk[j]? = some y /\ V.int y = v2 := by
     rw [List.getElem?_map] at h2
     cases e : zk[j]? with
     | none => rw [e] at h2; cases h2
     | some x => rw [e] at h2; exact ⟨x, rfl, Option.some.inj h2⟩
    have sr : Same H2 (upd H2 r (.tup [.int x, .int y])) := Same.new hr
    have gr : (upd H2 r (.tup [.int x, .int y])) r = some (.tup [.int x, .int y]) := upd_same
    generalize upd H2 r (.tup [.int x, .int y]) = H3 at sr gr ⊢
    have gq3 := sr _ _ (s2 _ _ gq')
    have sx := hs zs mz x (List.mem_of_getElem? ex)
    have sy := hs zk mk y (List.mem_of_getElem? ey)
    have s1 := hs zk mk _ (getD_in (e := 0) (show c < zk.length by omega))
    have s3 := hs zs mz _ (getD_in (e := 0) (show c < zs.length by omega))
    walk_at "w"
    refine rd_I (show CMulS _ _ from .inr ⟨_, _, s1, sx, by decide⟩) ?_
    walk_at "w"
    refine rd_ixL (SqL.of gq3) (zs_at (by omega)) ?_
    walk_at "w"
    refine rd_I (show CMulS _ _ from .inr ⟨_, _, s3, sy, by decide⟩) ?_
    walk_at "w"
    refine rd_I (show CDivS _ _ from ⟨b0, sb⟩) ?_
    have ez : (List.zipWith (fun x y => (zk.getD c 0 * x - zs.getD c 0 * y).fdiv b) zs zk)[j]? = some ((zk.getD c 0 * x - zs.getD c 0 * y).fdiv b) := by rw [List.getElem?_zipWith, ex, ey]
    exact ⟨s2.trans sr, by rw [take_snoc ez]; simp⟩
   ·rintro ys H2 hy ⟨s2, rfl⟩ r hr
    have sn : Same H2 (upd H2 r (.lst (((List.zipWith (fun x y => (zk.getD c 0 * x - zs.getD c 0 * y).fdiv b) zs zk).take (zs.map V.int).length).map V.int))) := Same.new hr
    refine ⟨(s'.trans s2).trans sn, ?_⟩
    rw [take_snoc ec, List.map_append]
    refine paired_app (Paired.imp' (fun _ _ z => (RzR.same z s2).same sn) pr) (.cons ⟨r, rfl, ne_old (fun z => hl (s'.none (s2.none z))) hr, ?_⟩ .nil)
    rw [upd_same, List.take_of_length_le (by rw [List.length_zipWith, List.length_map]; omega)]
  ·rintro ys H1 hy ⟨s1, pr⟩ r hr
   have sn : Same H1 (upd H1 r (.lst ys)) := Same.new hr
   have gn : (upd H1 r (.lst ys)) r = some (.lst ys) := upd_same
   have ly := pr.length
   rw [List.length_map, List.length_take] at ly
   generalize upd H1 r (.lst ys) = H2 at sn gn ⊢
   walk_at "w"
   refine rd_setL gn (ixN_nat (by omega)) rfl ?_
   have s2 : Same H1 (upd H2 r (.lst (ys.set kk (.ref qk)))) := sn.after hr
   walk_at "w"
   refine k r _ (s1.none hr) (s1.trans s2) ⟨ne_old (fun z => hl (s1.none z)) hr, _, upd_same, ?_⟩
   unfold clZ
   rw [ek']
   rw [List.take_of_length_le (by omega)] at pr
   exact paired_put (Paired.imp' (fun _ _ z => RzR.same z s2) pr) kk ⟨qk, rfl, qkl, (s1.trans s2) _ _ gk⟩
theorem sc_brought_up : FnScope ["lines", "at", "to", "swapped"] ["lines", "at", "to"] (defScope s_brought_up) := ⟨rfl, rfl, rfl, by decide +kernel, rfl, by decide +kernel, by decide +kernel⟩
theorem ok_brought_up (T : Txt K mg Z) : FnOk P w K mg base CX0 1 Z.a_brought_up Z.d_brought_up ["lines", "at", "to"] sp_broughtZ := by
 refine T.F_brought_up.ok sc_brought_up (fun vs H Q E h => ?_) (fun cdv A outer s H vs Q E hr h => ?_)
 ·obtain ⟨l, p, ls, t, kk, rfl, hl, G, l1000, ht, hk, k⟩ := h
  rfl
 ·obtain ⟨l, p, ls, t, kk, rfl, hl, G, l1000, ht, hk, k⟩ := h
  refine ⟨_, (pss_cons (ps_set (i := 3) sc_brought_up.nd rfl (Or.inl rfl) (pe_callTy call_list_of (by rfl) T.list PyProof.Rows.boot_list (pa_cons (pv 0) pa_nil)))
   (pss_cons (ps_asg (pe_ix ix_list (pv 0) (pv 1) (by intro _ _; rfl)) (pg_sub (pv 3) (pv 2) set_list))
   (pss_cons (ps_asg (pe_ix ix_list (pv 0) (pv 2) (by intro _ _; rfl)) (pg_sub (pv 3) (pv 1) set_list))
   (pss_one (ps_ret (pv 3)))))), ?_⟩
  refine rd_start (σ := [some (.ref p), some (.int t), some (.int kk), none]) rfl ?_
  obtain ⟨pl, xs, gx, qx⟩ := id G
  have lx := qx.length
  obtain ⟨zt, vt, et, evt, _, Ft⟩ := paired_at2 qx ht
  obtain ⟨zk, vk, ek, evk, _, Fk⟩ := paired_at2 qx hk
  walk_at "w"
  refine ⟨p, xs, rfl, .inl (SqL.of gx), fun c hc => ?_⟩
  have sc : Same H (upd H c (.lst xs)) := Same.new hc
  have gc : (upd H c (.lst xs)) c = some (.lst xs) := upd_same
  generalize upd H c (.lst xs) = Hc at sc gc ⊢
  walk_at "w"
  refine rd_ixL (SqL.of (sc _ _ gx)) (atI_nat evt) ?_
  walk_at "w"
  refine rd_setL gc (ixN_nat (by omega)) rfl ?_
  have s1 : Same H (upd Hc c (.lst (xs.set kk vt))) := sc.after hc
  have g1 : (upd Hc c (.lst (xs.set kk vt))) c = some (.lst (xs.set kk vt)) := upd_same
  generalize upd Hc c (.lst (xs.set kk vt)) = H1 at s1 g1 ⊢
  walk_at "w"
  refine rd_ixL (SqL.of (s1 _ _ gx)) (atI_nat evk) ?_
  walk_at "w"
  refine rd_setL g1 (ixN_nat (by rw [List.length_set]; omega)) rfl ?_
  have s2 : Same H (upd H1 c (.lst ((xs.set kk vt).set t vk))) := s1.after hc
  walk_at "w"
  refine k c _ hc s2 ⟨ne_old hl hc, _, upd_same, ?_⟩
  have et' : ls.getD t [] = zt := by rw [List.getD_eq_getElem?_getD, et]; rfl
  have ek' : ls.getD kk [] = zk := by rw [List.getD_eq_getElem?_getD, ek]; rfl
  unfold swZ
  rw [et', ek']
  exact paired_put (paired_put (Paired.imp' (fun _ _ z => RzR.same z s2) qx) kk (RzR.same Ft s2)) t (RzR.same Fk s2)
theorem sc_swept : FnScope ["rows", "wide", "lines", "leads", "before", "place", "many", "at"] ["rows", "wide"] (defScope s_swept) := ⟨rfl, rfl, rfl, by decide +kernel, rfl, by decide +kernel, by decide +kernel⟩
theorem ok_swept (T : Txt K mg Z) : FnOk P w K mg base CX0 4 Z.a_swept Z.d_swept ["rows", "wide"] (sp_sweptQ K) := by
 have G_tops_over := ok_tops_over (P := P) (w := w) (base := base) T
 have G_common_bottom := ok_common_bottom (P := P) (w := w) (base := base) T
 have G_first_with := ok_first_with (P := P) (w := w) (base := base) T
 have G_cleared := ok_cleared (P := P) (w := w) (base := base) T
 have G_brought_up := ok_brought_up (P := P) (w := w) (base := base) T
 refine T.F_swept.ok sc_swept (fun vs H Q E h => ?_) (fun cdv A outer s H vs Q E hr h => ?_)
 ·obtain ⟨p, n, w, H0, rows, rfl, G, r100, n100, hw, F, k⟩ := h
  rfl
 ·obtain ⟨p, n, w, H0, rows, rfl, G, r100, n100, hw, F, k⟩ := h
  refine ⟨_, (pss_cons (ps_setC 2 ["row"] [] [] sc_swept.nd rfl rfl (pi_list (pv 0)) (fun _ => (pg_name (i := 0) (show List.Nodup (α := PySem.Str) ["row"] by decide +kernel) rfl (Or.inl rfl) (Or.inl rfl))) (fun _ => pf_nil) (fun _ => (pe_call G_tops_over (hr.mono (by decide)) rfl T.mg_tops_over T.F_tops_over.kp T.b_tops_over .nil pass0 (pa_cons (pv 0) (pa_cons (pe_call G_common_bottom (hr.mono (by decide)) rfl T.mg_common_bottom T.F_common_bottom.kp T.b_common_bottom .nil pass0 (pa_cons (pv 0) pa_nil)) pa_nil)))))
   (pss_cons (ps_set (i := 3) sc_swept.nd rfl (Or.inl rfl) (pe_lst pa_nil))
   (pss_cons (ps_set (i := 4) sc_swept.nd rfl (Or.inl rfl) pe_int)
   (pss_cons (ps_for PassesOwn.never rfl (pi_range1 rfl T.range (pa_cons (pv 1) pa_nil)) (pg_name (i := 5) sc_swept.nd rfl (Or.inl rfl) (Or.inl rfl))
    (pss_cons (ps_set (i := 6) sc_swept.nd rfl (Or.inl rfl) (pe_callB call_len_seq (by rfl) T.len PySem.boot_len (pa_cons (pv 3) pa_nil)))
   (pss_cons (ps_set (i := 7) sc_swept.nd rfl (Or.inl rfl) (pe_call G_first_with (hr.mono (by decide)) rfl T.mg_first_with T.F_first_with.kp T.b_first_with .nil pass0 (pa_cons (pv 2) (pa_cons (pv 6) (pa_cons (pv 5) pa_nil)))))
   (pss_one (ps_if (pt_cmpR op_notN (pv 7) pe_non (nomark _)) (pss_cons (ps_set (i := 2) sc_swept.nd rfl (Or.inl rfl) (pe_call G_cleared (hr.mono (by decide)) rfl T.mg_cleared T.F_cleared.kp T.b_cleared .nil pass0 (pa_cons (pe_call G_brought_up (hr.mono (by decide)) rfl T.mg_brought_up T.F_brought_up.kp T.b_brought_up .nil pass0 (pa_cons (pv 2) (pa_cons (pv 7) (pa_cons (pv 6) pa_nil)))) (pa_cons (pv 6) (pa_cons (pv 5) (pa_cons (pv 4) pa_nil))))))
   (pss_cons (ps_set (i := 4) sc_swept.nd rfl (Or.inl rfl) (pe_ix ix_list (pe_ix ix_list (pv 2) (pv 6) (by intro _ _; rfl)) (pv 5) (by intro _ _; rfl)))
   (pss_one (ps_expr (pe_bm PySem.F.plainAttrs_list PySem.F.slot_list_append PySem.F.type_list_append mt_append (pv 3) (pa_cons (pv 5) pa_nil)))))) pss_nil)))))
   (pss_one (ps_ret (pe_tup (pa_cons (pe_slice sl_list (pv 2) po_none (po_some (pe_callB call_len_seq (by rfl) T.len PySem.boot_len (pa_cons (pv 3) pa_nil)))) (pa_cons (pv 3) pa_nil))))))))), ?_⟩
  refine rd_start (σ := [some (.ref p), some (.int n), none, none, none, none, none, none]) rfl ?_
  obtain ⟨xs, gx, qx, _⟩ := id G
  obtain ⟨W, hW, W2, ent⟩ := F.ent
  obtain ⟨_, _, _, _, _, _, _, _, r15, r89⟩ := id F
  walk_at "w"
  refine ⟨⟨_, SqL.of gx⟩, ?_⟩
  refine comp_mapL (K := K) (as := rows) (F := RowF K H0) (fun (H : Hp) (zs : List Int) (v : V) => ∃ q, v = V.ref q /\ H q = some (.lst (zs.map V.int))) topZ gx qx (by omega) (fun a b => a.same b) (fun ⟨q, a, b⟩ s => ⟨q, a, s _ _ b⟩) ?_ ?_
  ·rintro i qs v H' NY NN ec s' ⟨u, rfl, _, R⟩ k1
   have mx := List.mem_of_getElem? ec
   obtain ⟨M, hM⟩ := F.rowM mx
   obtain ⟨b1, sb⟩ := hM.bot
   have lq : (qs.map nm).length <= 1000 := by rw [List.length_map, hw qs mx]; omega
   walk_at "w"
   refine ⟨u, _, M, rfl, R.rowK, lq, hM, fun H2 s2 => ?_⟩
   walk_at "w"
   exact ⟨u, _, M, _, rfl, (R.same s2).rowK, lq, hM, b1, sb, fun r H3 n3 s3 g3 => k1 _ _ (s2.trans s3) ⟨r, rfl, g3⟩⟩
  rintro ys H1 lp0 hlp s1 g1 pr1 nx1
  walk_at "w"
  refine rd_newL fun qp H2 s2 nq gq => ?_
  have G2 : GridZ qp H2 lp0 (rows.map topZ) := ⟨(fun z => by rw [z, nq] at g1; cases g1), ys, s2 _ _ g1, Paired.imp' (fun _ _ ⟨q, a, b⟩ => ⟨q, a, (fun z => by rw [z, nq] at b; cases b), s2 _ _ b⟩) pr1⟩
  have hq0 : H qp = none := s1.none nq
  have s02 := s1.trans s2
  have hm : (rows.map topZ).length = rows.length := List.length_map ..
  clear g1 pr1 nx1
  walk_at "w"
  refine ⟨by omega, by omega, ?_⟩
  refine for_rangeN (n := n) (fun P σ' H' => Same H H' /\ ∃ lp ls ps d y1 y2 y3, σ' = [some (.ref p), some (.int n), some (.ref lp), some (.ref qp), some (.int d), y1, y2, y3] /\ H' qp = some (.lst (natsV ps)) /\ GridZ qp H' lp ls /\ SwI (rows.map topZ) n P ls ps d) ⟨s02, lp0, rows.map topZ, [], 1, _, _, _, rfl, gq, G2, SwI.start fun zs hz => by obtain ⟨x, hx, rfl⟩ := List.mem_map.mp hz; rw [topZ_len]; exact hw x hx⟩ ?_ ?_
  ·rintro P σ' H' hP ⟨s', lp, ls, ps, d, y1, y2, y3, rfl, gq', G', I⟩
   have hl := I.len
   have kP := I.el.kP
   have km := I.el.km
   have lps : (natsV ps).length = ps.length := List.length_map ..
   have hqp : H' qp ≠ none := by rw [gq']; exact fun z => nomatch z
   obtain ⟨z1, z2⟩ := I.sz (r := min rows.length n) hW ent (by omega) (by rw [hm]; exact Nat.le_refl _) r15
   have big : (16 * W) ^ min rows.length n < 2 ^ 8999 := Nat.lt_of_le_of_lt (pow_sz W2) (Nat.pow_lt_pow_right (by decide) (by omega))
   walk_at "w"
   refine ⟨_, _, rfl, .inl (SqL.of gq'), ?_⟩
   rw [lps]
   walk_at "w"
   refine ⟨qp, lp, ls, ps.length, P, rfl, G', by omega, by omega, fun zs hz => by rw [I.wide zs hz]; exact hP, fun t h1 h2 h3 => ?_, fun hz => ?_⟩
   ·walk_at "w"
    refine ⟨rfl, _, rfl, ?_⟩
    rw [show decide (V.int (t : Int) = V.non) = false from decide_eq_false (fun z => nomatch z)]
    walk_at "w"
    refine ⟨qp, lp, ls, t, ps.length, rfl, hqp, G', by omega, h2, by omega, fun l1 Ha na sa Ga => ?_⟩
    walk_at "w"
    refine ⟨qp, l1, _, ps.length, P, n, d, rfl, fun z => hqp (sa.none z), Ga, by rw [sw_len]; omega, by rw [sw_len]; omega, sw_wide I.wide (by omega) h2, by omega, hP, I.d0, Nat.lt_of_le_of_lt z1 big, fun zs hz z hz' => ?_, fun l2 Hb nb sb Gb => ?_⟩
    ·unfold swZ at hz
     have key : ∀ ys, ys ∈ ls -> ∀ z ∈ ys, Sz 8999 z := fun ys hy z hz => Nat.lt_of_le_of_lt (z2 ys hy z hz) big
     rcases List.mem_or_eq_of_mem_set hz with h | h
     ·rcases List.mem_or_eq_of_mem_set h with h | h
      ·exact key zs h z hz'
      ·rw [h] at hz'; exact key _ (getD_in h2) z hz'
     ·rw [h] at hz'; exact key _ (getD_in (by omega)) z hz'
    have sab := sa.trans sb
    have I2 := I.step hW ent h1 h2 h3
    have hk2 : ps.length < (clZ (swZ ls ps.length t) ps.length P d).length := by rw [cl_len, sw_len]; omega
    obtain ⟨n2, xs2, gx2, qx2⟩ := id Gb
    obtain ⟨zk, vk, ek, evk, mk, qk, rfl, _, gk⟩ := paired_at2 qx2 hk2
    have wk := I2.wide zk mk
    walk_at "w"
    refine rd_ixL (SqL.of gx2) (atI_nat evk) ?_
    walk_at "w"
    refine rd_ixL (SqL.of gk) (zs_at (by omega)) ?_
    have gqb := sab _ _ gq'
    walk_at "w"
    refine ⟨.inl ⟨rfl, _, SqL.of gqb⟩, ?_⟩
    walk_at "w"
    refine rd_append gqb (small1000 (by omega)) ?_
    refine ⟨(s'.trans sab).after hq0, l2, _, ps ++ [P], _, _, _, _, rfl, ?_, Gb.upd, ?_⟩
    ·rw [upd_same]
     unfold natsV
     rw [List.map_append]
     rfl
    ·have e : (clZ (swZ ls ps.length t) ps.length P d).getD ps.length [] = zk := by rw [List.getD_eq_getElem?_getD, ek]; rfl
     rw [e] at I2
     exact I2
   ·walk_at "w"
    refine ⟨rfl, _, rfl, ?_⟩
    rw [show decide (V.non = V.non) = true from decide_eq_true rfl]
    walk_at "w"
    exact ⟨s', lp, ls, ps, d, _, _, _, rfl, gq', G', I.skip hz⟩
  rintro σ' H' ⟨s', lp, ls, ps, d, y1, y2, y3, rfl, gq', G', I⟩
  obtain ⟨R, hR⟩ := I.done hw F
  have lps : (natsV ps).length = ps.length := List.length_map ..
  obtain ⟨nl, xs', gx', qx'⟩ := id G'
  walk_at "w"
  refine ⟨_, _, rfl, .inl (SqL.of gq'), ?_⟩
  rw [lps]
  walk_at "w"
  refine rd_slL (SqL.of gx') fun sl H3 s3 n3 g3 => ?_
  rw [cut_upto] at g3
  walk_at "w"
  refine rd_newT fun t H4 s4 g4 => ?_
  have s34 := s3.trans s4
  exact k t sl qp R ps d _ H4 g4 (s34 _ _ gq') ⟨(fun z => by rw [z, gq'] at n3; cases n3), _, s4 _ _ g3, Paired.imp' (fun _ _ z => RzR.same z s34) (paired_take qx' ps.length)⟩ (s'.trans s34) hR
theorem sc_lowest : FnScope ["top", "bottom", "divisor"] ["top", "bottom"] (defScope s_lowest) := ⟨rfl, rfl, rfl, by decide +kernel, rfl, by decide +kernel, by decide +kernel⟩
theorem ok_lowest (T : Txt K mg Z) : FnOk P w K mg base CX0 2 Z.a_lowest Z.d_lowest ["top", "bottom"] sp_lowest := by
 have G_common_divisor := ok_common_divisor (P := P) (w := w) (base := base) T
 refine T.F_lowest.ok sc_lowest (fun vs H Q E h => ?_) (fun cdv A outer s H vs Q E hr h => ?_)
 ·obtain ⟨t, b, rfl, hb, hs, k⟩ := h
  rfl
 ·obtain ⟨t, b, rfl, hb, hs, k⟩ := h
  refine ⟨_, (pss_cons (ps_set (i := 2) sc_lowest.nd rfl (Or.inl rfl) (pe_call G_common_divisor (hr.mono (by decide)) rfl T.mg_common_divisor T.F_common_divisor.kp T.b_common_divisor .nil pass0 (pa_cons (pv 0) (pa_cons (pv 1) pa_nil))))
   (pss_cons (ps_if (pt_cmpR op_lt (pv 1) pe_int (nomark _)) (pss_one (ps_set (i := 2) sc_lowest.nd rfl (Or.inl rfl) (pe_un un_neg (pv 2)))) pss_nil)
   (pss_one (ps_ret (pe_tup (pa_cons (pe_op op_fdivS (pv 0) (pv 2)) (pa_cons (pe_op op_fdivS (pv 1) (pv 2)) pa_nil))))))), ?_⟩
  refine rd_start (σ := [some (.int t), some (.int b), none]) rfl ?_
  walk_at "w"
  refine ⟨t, b, rfl, ?_⟩
  have hg := g_pos (t := t) hb
  have hgs : Sz 8999 (g t b) := hs.le (by
   have h1 : (g t b).natAbs = Int.gcd t b := by unfold g; simp
   rw [h1]
   exact Nat.le_of_dvd (by omega) (by have := Int.gcd_dvd_right (a := t) (b := b); exact Int.natAbs_dvd_natAbs.mpr this |> fun z => by simpa using z))
  have hgn : g (-t) (-b) = g t b := by unfold g; rw [Int.gcd_neg, Int.neg_gcd]
  walk_at "w"
  refine ite2 (fun h => ?_) (fun h => ?_)
  ·have hb0 : b < 0 := of_decide_eq_true h
   walk_at "w"
   refine rd_I (show CDivS _ _ from ⟨by omega, hgs.neg⟩) ?_
   walk_at "w"
   refine rd_I (show CDivS _ _ from ⟨by omega, hgs.neg⟩) ?_
   walk_at "w"
   refine rd_newT fun r H' s' h' => ?_
   have e1 : t.fdiv (-g t b) = lo (-t) (-b) := by
    unfold Nm.lo; rw [hgn, <- Int.fdiv_eq_ediv_of_nonneg _ (by omega), <- Int.neg_fdiv_neg (-t), Int.neg_neg]
   have e2 : b.fdiv (-g t b) = hi (-t) (-b) := by
    unfold Nm.hi; rw [hgn, <- Int.fdiv_eq_ediv_of_nonneg _ (by omega), <- Int.neg_fdiv_neg (-b), Int.neg_neg]
   exact k r H' s' (by rw [if_pos hb0, if_pos hb0, <- e1, <- e2]; exact h')
  ·have hb0 : ¬ b < 0 := fun z => h (decide_eq_true z)
   walk_at "w"
   refine rd_I (show CDivS _ _ from ⟨by omega, hgs⟩) ?_
   walk_at "w"
   refine rd_I (show CDivS _ _ from ⟨by omega, hgs⟩) ?_
   walk_at "w"
   refine rd_newT fun r H' s' h' => ?_
   rw [Int.fdiv_eq_ediv_of_nonneg _ (by omega), Int.fdiv_eq_ediv_of_nonneg _ (by omega)] at h'
   exact k r H' s' (by rw [if_neg hb0, if_neg hb0]; exact h')
theorem sc_reduced : FnScope ["rows", "wide", "found"] ["rows", "wide"] (defScope s_reduced) := ⟨rfl, rfl, rfl, by decide +kernel, rfl, by decide +kernel, by decide +kernel⟩
theorem ok_reduced (T : Txt K mg Z) : FnOk P w K mg base CX0 5 Z.a_reduced Z.d_reduced ["rows", "wide"] (sp_reducedQ K) := by
 have G_swept := ok_swept (P := P) (w := w) (base := base) T
 have G_lowest := ok_lowest (P := P) (w := w) (base := base) T
 refine T.F_reduced.ok sc_reduced (fun vs H Q E h => ?_) (fun cdv A outer s H vs Q E hr h => ?_)
 ·obtain ⟨p, n, w, H0, rows, rfl, G, r100, n100, hw, F, k⟩ := h
  rfl
 ·obtain ⟨p, n, w, H0, rows, rfl, G, r100, n100, hw, F, k⟩ := h
  refine ⟨_, (pss_cons (ps_set (i := 2) sc_reduced.nd rfl (Or.inl rfl) (pe_call G_swept (hr.mono (by decide)) rfl T.mg_swept T.F_swept.kp T.b_swept .nil pass0 (pa_cons (pv 0) (pa_cons (pv 1) pa_nil))))
   (pss_one (ps_ret (pe_comp ["line", "lead"] [] [] (pi_zip2 rfl T.zip (pa_cons (pe_ix ix_tup (pv 2) pe_int (by intro _ _; rfl)) (pa_cons (pe_ix ix_tup (pv 2) pe_int (by intro _ _; rfl)) pa_nil))) (fun _ => (pg_tupK K 2 (pgs_cons (pg_name (i := 0) (show List.Nodup (α := PySem.Str) ["line", "lead"] by decide +kernel) rfl (Or.inr rfl) (Or.inl rfl)) (pgs_cons (pg_name (i := 1) (show List.Nodup (α := PySem.Str) ["line", "lead"] by decide +kernel) rfl (Or.inr rfl) (Or.inl rfl)) pgs_nil)))) (fun _ => pf_nil) (fun _ => (pe_comp ["top"] ["line", "lead"] [0, 1] (pi_listK K (pv 0)) (fun _ => (pg_name (i := 0) (show List.Nodup (α := PySem.Str) ["top", "line", "lead"] by decide +kernel) rfl (Or.inl rfl) (Or.inl rfl))) (fun _ => pf_nil) (fun _ => (pe_call G_lowest (hr.mono (by decide)) rfl T.mg_lowest T.F_lowest.kp T.b_lowest .nil pass0 (pa_cons (pv 0) (pa_cons (pe_ix (ix_listK K (by rfl)) (pv 1) (pv 2) (by intro _ _; rfl)) pa_nil)))))))))), ?_⟩
  refine rd_start (σ := [some (.ref p), some (.int n), none]) rfl ?_
  obtain ⟨_, _, _, _, _, _, _, _, r15, r89⟩ := id F
  walk_at "w"
  refine ⟨p, n, w, H0, rows, rfl, G, r100, n100, hw, F, fun t lp qp R ps d ls H1 gt gq G1 s1 S => ?_⟩
  obtain ⟨lR, wR, RR⟩ := id S.rr
  have hl := S.len
  obtain ⟨_, xs, gx, qx⟩ := id G1
  have lx := qx.length
  have lps : (natsV ps).length = ps.length := List.length_map ..
  have d0 : (d : Rat) ≠ 0 := fun z => S.d0 (cast0 z)
  have dsz : Sz 8999 d := Nat.lt_of_le_of_lt S.dsz (Nat.pow_lt_pow_right (by decide) (by omega))
  have km : ps.length <= n := by
   rcases Nat.lt_or_ge n ps.length with z | z
   ·have inc : ∀ j, j < ps.length -> j <= ps.getD j 0 := by
     intro j
     induction j with
     | zero => intro _; exact Nat.zero_le _
     | succ j ih =>
      intro hj
      have := ih (by omega)
      have := RR.inc j (j + 1) (by omega) hj
      omega
    have h1 := inc (ps.length - 1) (by omega)
    have h2 := RR.low (ps.length - 1) (by omega)
    omega
   ·exact z
  walk_at "w"
  refine ⟨⟨_, SqL.of gx⟩, ⟨_, SqL.of gq⟩, ?_⟩
  refine comp_zip (K := K) (xs := xs) (ws := natsV ps) (fun i ys H' => Same H1 H' /\ Paired (RowF K H1 H') (R.take i) ys) (Nat.le_of_lt (small1000 (by omega))) (by omega) ⟨Same.refl _, .nil⟩ (fun i ys H' _ ⟨s, _⟩ => ⟨SqL.of (s _ _ gx), SqL.of (s _ _ gq)⟩) ?_ ?_
  ·rintro i v1 v2 ys H' r h1 h2 hy ⟨s, pr⟩ hr
   obtain ⟨zs, ez, q, rfl, _, gq1⟩ := paired_at qx h1
   have hi : i < ls.length := (List.getElem?_eq_some_iff.mp ez).1
   have mz := List.mem_of_getElem? ez
   have wz := S.wide zs mz
   obtain ⟨j, ej, rfl⟩ : ∃ j : Nat, ps[i]? = some j /\ V.int (j : Int) = v2 := by
    unfold natsV at h2
    rw [List.getElem?_map] at h2
    cases e : ps[i]? with
    | none => rw [e] at h2; cases h2
    | some x => rw [e] at h2; exact ⟨x, rfl, Option.some.inj h2⟩
   have ej' : ps.getD i 0 = j := by rw [List.getD_eq_getElem?_getD, ej]; rfl
   have jn : j < n := by have := RR.low i (by omega); rw [ej'] at this; exact this
   have sr : Same H' (upd H' r (.tup [.ref q, .int j])) := Same.new hr
   have gr : (upd H' r (.tup [.ref q, .int j])) r = some (.tup [.ref q, .int j]) := upd_same
   generalize upd H' r (.tup [.ref q, .int j]) = H2 at sr gr ⊢
   have s2 := s.trans sr
   have iR : i < R.length := by omega
   have eR := List.getElem?_eq_getElem iR
   have wRi := wR _ (List.getElem_mem iR)
   have ed : zs.getD j 0 = d := by
    have h := S.val i j
    rw [z_at ez] at h
    have u := RR.unit i (by omega) i (by omega)
    rw [if_pos rfl, ej'] at u
    rw [u, Rat.mul_one] at h
    exact Rat.intCast_inj.mp h
   have val : ∀ c, ((zs.getD c 0 : Int) : Rat) = (d : Rat) * (R[i]).getD c 0 := fun c => by
    have h := S.val i c
    rw [z_at ez] at h
    rw [h]
    unfold fnQ
    rw [List.getD_eq_getElem?_getD (l := R), eR]
    rfl
   walk_at "w"
   refine ⟨⟨_, SqL.of (s2 _ _ gq1)⟩, ?_⟩
   refine comp_list (K := K) (xs := zs.map V.int) (fun c ys' H3 => Same H2 H3 /\ Paired (NumQ K H3) ((R[i]).take c) ys') (Nat.le_of_lt (small1000 (by rw [List.length_map]; omega))) ⟨Same.refl _, .nil⟩ (fun c ys' H3 _ ⟨s3, _⟩ => SqL.of ((s2.trans s3) _ _ gq1)) ?_ ?_
   ·rintro c x ys' H3 hx hlen ⟨s3, pr3⟩
    obtain ⟨z, ec, rfl⟩ : ∃ z, zs[c]? = some z /\ V.int z = x := by
     rw [List.getElem?_map] at hx
     cases e : zs[c]? with
     | none => rw [e] at hx; cases hx
     | some x => rw [e] at hx; exact ⟨x, rfl, Option.some.inj hx⟩
    have hc : c < zs.length := (List.getElem?_eq_some_iff.mp ec).1
    have vc := val c
    have e1 : zs.getD c 0 = z := by rw [List.getD_eq_getElem?_getD, ec]; rfl
    rw [e1] at vc
    walk_at "w"
    refine rd_ixL (SqL.of ((s2.trans s3) _ _ gq1)) (zs_at (by omega)) ?_
    rw [ed]
    walk_at "w"
    refine ⟨z, d, rfl, S.d0, dsz, fun r4 H4 s4 g4 => ?_⟩
    have ec' : (R[i])[c]? = some ((R[i]).getD c 0) := by rw [List.getD_eq_getElem?_getD, List.getElem?_eq_getElem (show c < (R[i]).length by omega)]; rfl
    refine ⟨s3.trans s4, ?_⟩
    rw [take_snoc ec']
    refine paired_app (Paired.imp' (fun _ _ z => NumQ.same z s4) pr3) (.cons (NumQ.mk g4 ?_) .nil)
    rcases Int.lt_or_lt_of_ne S.d0 with hd | hd
    ·rw [if_pos hd, if_pos hd]
     refine lohi_nm (by omega) ?_
     rw [Rat.intCast_neg, Rat.intCast_neg, vc]
     grind
    ·rw [if_neg (by omega), if_neg (by omega)]
     refine lohi_nm hd ?_
     rw [vc]
     grind
   ·rintro ys' H3 hy' ⟨s3, pr3⟩ l4 hl4
    have sn : Same H3 (upd H3 l4 (.lst ys')) := Same.new hl4
    refine ⟨(s2.trans s3).trans sn, ?_⟩
    rw [take_snoc eR]
    rw [List.take_of_length_le (by rw [List.length_map]; omega)] at pr3
    exact paired_app (Paired.imp' (fun _ _ z => RowF.same z ((sr.trans s3).trans sn)) pr) (.cons ⟨l4, rfl, (s2.trans s3).none hl4, ys', upd_same, Paired.imp' (fun _ _ z => NumQ.same z sn) pr3⟩ .nil)
  ·rintro ys H' hy ⟨s, pr⟩ r hr
   have sn : Same H' (upd H' r (.lst ys)) := Same.new hr
   rw [List.take_of_length_le (by omega)] at pr
   refine k r R ps d.natAbs _ (s1.none (s.none hr)) ((s1.trans s).trans sn) ⟨ys, upd_same, Paired.imp' (fun _ _ z => (RowF.weak z s1).same sn) pr, notin (H0 := H1) (rows := R) ⟨H', hr, pr⟩⟩ S.rr S.km ?_ S.dsz S.tp
   have := S.d0
   omega
theorem sc_row_dot : FnScope ["one", "other", "one_bottom", "other_bottom", "pairs"] ["one", "other"] (defScope s_row_dot) := ⟨rfl, rfl, rfl, by decide +kernel, rfl, by decide +kernel, by decide +kernel⟩
theorem ok_row_dot (T : Txt K mg Z) : FnOk P w K mg base CX0 4 Z.a_row_dot Z.d_row_dot ["one", "other"] (sp_dotW K) := by
  have G_common_bottom := ok_common_bottom (P := P) (w := w) (base := base) T
  have G_tops_over := ok_tops_over (P := P) (w := w) (base := base) T
  have G_lowest := ok_lowest (P := P) (w := w) (base := base) T
  refine T.F_row_dot.ok sc_row_dot (fun vs H Q E h => ?_) (fun cdv A outer s H vs Q E hr h => ?_)
  · obtain ⟨p, q, xs, ys, rfl, hp, hq, hl, hz, ⟨k1, j1, k2, j2, h1, h2, hkj⟩, kk⟩ := h
    rfl
  · obtain ⟨p, q, xs, ys, rfl, hp, hq, hl, hz, ⟨k1, j1, k2, j2, h1, h2, hkj⟩, kk⟩ := h
    refine ⟨_, (pss_cons (ps_set (i := 2) sc_row_dot.nd rfl (Or.inl rfl) (pe_call G_common_bottom (hr.mono (by decide)) rfl T.mg_common_bottom T.F_common_bottom.kp T.b_common_bottom .nil pass0 (pa_cons (pv 0) pa_nil)))
      (pss_cons (ps_set (i := 3) sc_row_dot.nd rfl (Or.inl rfl) (pe_call G_common_bottom (hr.mono (by decide)) rfl T.mg_common_bottom T.F_common_bottom.kp T.b_common_bottom .nil pass0 (pa_cons (pv 1) pa_nil)))
      (pss_cons (ps_set (i := 4) sc_row_dot.nd rfl (Or.inl rfl) (pe_listZip rfl T.list rfl T.zip (pa_cons (pe_call G_tops_over (hr.mono (by decide)) rfl T.mg_tops_over T.F_tops_over.kp T.b_tops_over .nil pass0 (pa_cons (pv 0) (pa_cons (pv 2) pa_nil))) (pa_cons (pe_call G_tops_over (hr.mono (by decide)) rfl T.mg_tops_over T.F_tops_over.kp T.b_tops_over .nil pass0 (pa_cons (pv 1) (pa_cons (pv 3) pa_nil))) pa_nil))))
      (pss_one (ps_ret (pe_call G_lowest (hr.mono (by decide)) rfl T.mg_lowest T.F_lowest.kp T.b_lowest .nil pass0 (pa_cons (pe_callB (call_sum rfl) (by rfl) T.sum PyProof.Rows.boot_sum (pa_cons (pe_comp ["mine", "yours"] [] [] (pi_list (pv 4)) (fun _ => (pg_tupK K 2 (pgs_cons (pg_name (i := 0) (show List.Nodup (α := PySem.Str) ["mine", "yours"] by decide +kernel) rfl (Or.inl rfl) (Or.inl rfl)) (pgs_cons (pg_name (i := 1) (show List.Nodup (α := PySem.Str) ["mine", "yours"] by decide +kernel) rfl (Or.inl rfl) (Or.inl rfl)) pgs_nil)))) (fun _ => pf_nil) (fun _ => (pe_op op_mulS (pv 0) (pv 1)))) pa_nil)) (pa_cons (pe_op op_mulS (pv 2) (pv 3)) pa_nil)))))))), ?_⟩
    refine rd_start (σ := [some (.ref p), some (.ref q), none, none, none]) rfl ?_
    obtain ⟨M, h1⟩ := h1.rowM (by omega)
    obtain ⟨N, h2⟩ := h2.rowM (by omega)
    replace hp := hp.rowK
    replace hq := hq.rowK
    replace hl : (ys.map nm).length = (xs.map nm).length := by simpa using hl
    replace hz : (xs.map nm).length ≤ 1000 := by simpa using hz
    obtain ⟨b1, s1⟩ := h1.bot
    obtain ⟨b2, s2⟩ := h2.bot
    have k2 : ∀ r H', Same H H' → H' r = some (.tup [.int (lo (dotL (xs.map nm) (ys.map nm)) (botL (xs.map nm) * botL (ys.map nm))), .int (hi (dotL (xs.map nm) (ys.map nm)) (botL (xs.map nm) * botL (ys.map nm)))]) → Q (.ref r) H' := fun r H' s g => kk r H' s (NumQ.mk g (dotL_nm b1 b2))
    clear kk
    generalize xs.map nm = ns at hp hq hl hz h1 h2 b1 b2 s1 s2 k2
    generalize ys.map nm = ms at hp hq hl hz h1 h2 b1 b2 s1 s2 k2
    have hb : 0 < botL ns * botL ms := Int.mul_pos b1 b2
    walk_at "w"
    refine ⟨p, ns, M, rfl, hp, hz, h1, fun H1 t1 => ?_⟩
    walk_at "w"
    refine ⟨q, ms, N, rfl, hq.same t1, by omega, h2, fun H2 t2 => ?_⟩
    have u2 := t1.trans t2
    walk_at "w"
    refine ⟨p, ns, M, _, rfl, hp.same u2, hz, h1, b1, s1, fun r1 H3 n3 t3 g3 => ?_⟩
    walk_at "w"
    refine ⟨q, ms, N, _, rfl, (hq.same u2).same t3, by omega, h2, b2, s2, fun r2 H4 n4 t4 g4 => ?_⟩
    walk_at "w"
    refine ⟨r1, r2, _, _, rfl, SqL.of (t4 _ _ g3), SqL.of g4, by simp [topsL, hl], fun L ts H5 t5 n5 g5 pr => ?_⟩
    have lt := pr.length
    have ll : (topsL ns (botL ns)).length = ns.length := by simp [topsL]
    have lm : (topsL ms (botL ms)).length = ns.length := by simp [topsL, hl]
    rw [List.length_zip, List.length_map, List.length_map, ll, lm] at lt
    walk_at "w"
    refine ⟨⟨_, SqL.of g5⟩, ?_⟩
    refine comp_list (K := K) (xs := ts) (fun i ys H' => H' = H5 ∧ ys = ((List.zipWith (· * ·) (topsL ns (botL ns)) (topsL ms (botL ms))).take i).map V.int) (Nat.le_of_lt (small1000 (by omega))) ⟨rfl, rfl⟩ (fun i ys H' _ ⟨e, _⟩ => by subst e; exact SqL.of g5) ?_ ?_
    · rintro i x ys H' hx hlen ⟨rfl, rfl⟩
      obtain ⟨pq, epq, T, rfl, gT⟩ := paired_at pr hx
      obtain ⟨t, u, et, eu, rfl⟩ := zip_int epq
      walk_at "w"
      refine rd_I (show CMulS _ _ from .inr ⟨_, _, topsM_sz h1 b1 s1 (List.mem_of_getElem? et), topsM_sz h2 b2 s2 (List.mem_of_getElem? eu), by decide⟩) ?_
      have ez : (List.zipWith (· * ·) (topsL ns (botL ns)) (topsL ms (botL ms)))[i]? = some (t * u) := by rw [List.getElem?_zipWith, et, eu]
      exact ⟨rfl, by rw [take_snoc ez]; simp⟩
    · rintro ys H' hy ⟨rfl, rfl⟩ l hl'
      walk_at "w"
      refine ⟨l, List.zipWith (· * ·) (topsL ns (botL ns)) (topsL ms (botL ms)), rfl, SqL.of (by rw [upd_same, List.take_of_length_le (by rw [List.length_zipWith]; omega)]), ?_⟩
      walk_at "w"
      refine rd_I (show CMulS _ _ from .inr ⟨_, _, s1, s2, by decide⟩) ?_
      walk_at "w"
      refine ⟨_, _, rfl, by omega, (s1.mul s2).mono (by decide), fun r H6 t6 g6 => ?_⟩
      rw [if_neg (by omega), if_neg (by omega)] at g6
      exact k2 r H6 ((((u2.trans t3).trans t4).trans t5).trans ((Same.new hl').trans t6)) g6
theorem sc_grid_on : FnScope ["grid", "row"] ["grid", "row"] (defScope s_grid_on) := ⟨rfl, rfl, rfl, by decide +kernel, rfl, by decide +kernel, by decide +kernel⟩
theorem ok_grid_on (T : Txt K mg Z) : FnOk P w K mg base CX0 5 Z.a_grid_on Z.d_grid_on ["grid", "row"] (sp_gonW K) := by
 have G_row_dot := ok_row_dot (P := P) (w := w) (base := base) T
 refine T.F_grid_on.ok sc_grid_on (fun vs H Q E h => ?_) (fun cdv A outer s H vs Q E hr h => ?_)
 ·obtain ⟨p, q, H0, rows, ys, rfl, hp, hq, hz, hl, hr1, kk⟩ := h
  rfl
 ·obtain ⟨p, q, H0, rows, ys, rfl, hp, hq, hz, hl, hr1, kk⟩ := h
  refine ⟨_, (pss_one (ps_ret (pe_comp ["line"] ["row"] [1] (pi_list (pv 0)) (fun _ => (pg_name (i := 0) (show List.Nodup (α := PySem.Str) ["line", "row"] by decide +kernel) rfl (Or.inl rfl) (Or.inl rfl))) (fun _ => pf_nil) (fun _ => (pe_call G_row_dot (hr.mono (by decide)) rfl T.mg_row_dot T.F_row_dot.kp T.b_row_dot .nil pass0 (pa_cons (pv 0) (pa_cons (pv 1) pa_nil))))))), ?_⟩
  refine rd_start (σ := [some (.ref p), some (.ref q)]) rfl ?_
  obtain ⟨xs, gx, qx, _⟩ := id hp
  walk_at "w"
  refine ⟨⟨_, SqL.of gx⟩, ?_⟩
  refine comp_mapL (K := K) (F := RowF K H0) (NumQ K) (fun xs => dotQ xs ys) gx qx hz (fun a b => a.same b) (fun a b => a.same b) ?_ ?_
  ·rintro i ns x H' NY NN en s ⟨u, rfl, _, hu⟩ k
   obtain ⟨e1, e2⟩ := hr1 ns (List.mem_of_getElem? en)
   walk_at "w"
   exact ⟨u, q, ns, ys, rfl, hu, hq.same s, e1.symm, by omega, e2, fun r H2 s2 h2' => k _ _ s2 h2'⟩
  ·rintro ys' H' r hr s g pr nx
   exact kk r H' hr s ⟨ys', g, pr⟩
theorem sc_moved_rows : FnScope ["system", "rows"] ["system", "rows"] (defScope s_moved_rows) := ⟨rfl, rfl, rfl, by decide +kernel, rfl, by decide +kernel, by decide +kernel⟩
theorem ok_moved_rows (T : Txt K mg Z) : FnOk P w K mg base CX0 6 Z.a_moved_rows Z.d_moved_rows ["system", "rows"] (sp_mrowsQ K Z.a_System) := by
 have G_grid_on := ok_grid_on (P := P) (w := w) (base := base) T
 refine T.F_moved_rows.ok sc_moved_rows (fun vs H Q E h => ?_) (fun cdv A outer s H vs Q E hr h => ?_)
 ·obtain ⟨x, p, H0, H1, mv, pt, lk, R, rfl, S, D, G, l100, wR, hf, k⟩ := h
  rfl
 ·obtain ⟨x, p, H0, H1, mv, pt, lk, R, rfl, S, D, G, l100, wR, hf, k⟩ := h
  refine ⟨_, (pss_one (ps_ret (pe_comp ["row"] ["system"] [0] (pi_list (pv 1)) (fun _ => (pg_name (i := 0) (show List.Nodup (α := PySem.Str) ["row", "system"] by decide +kernel) rfl (Or.inl rfl) (Or.inl rfl))) (fun _ => pf_nil) (fun _ => (pe_call G_grid_on (hr.mono (by decide)) rfl T.mg_grid_on T.F_grid_on.kp T.b_grid_on .nil pass0 (pa_cons (pe_fldK K (pv 1) rfl) (pa_cons (pv 0) pa_nil))))))), ?_⟩
  refine rd_start (σ := [some (.ref x), some (.ref p)]) rfl ?_
  obtain ⟨dx, a', b', c', gx, _, _, _, Ga, Gb, Gc⟩ := id S
  have d8 := D.n8
  obtain ⟨xs, gxs, qx, _⟩ := id G
  walk_at "w"
  refine ⟨⟨_, SqL.of gxs⟩, ?_⟩
  refine comp_mapL (K := K) (F := RowF K H1) (RowF K H) (onQ mv) gxs qx (by omega) (fun a b => a.same b) (fun a b => a.same b) ?_ ?_
  ·rintro i ns v H' NY NN en s ⟨u, rfl, _, hu⟩ k1
   have mn := List.mem_of_getElem? en
   walk_at "w"
   refine ⟨x, Z.a_System, dx, _, _, rfl, s _ _ gx, T.cl_System, T.na_move, sys_move, ?_⟩
   walk_at "w"
   exact ⟨a', u, H0, mv, ns, rfl, Ga.same s, hu, by omega, by rw [wR ns mn]; omega, fun xs hx => ⟨by rw [D.mw xs hx, wR ns mn], hf xs hx ns mn⟩, fun r H2 nr s2 R2 => k1 _ _ s2 ⟨r, rfl, s.none nr, R2⟩⟩
  ·rintro ys H' r hr s g pr nx
   exact k r H' hr s ⟨ys, g, pr, notin nx⟩
theorem sc_reach_grown : FnScope ["system", "steps", "lists", "rows"] ["system", "steps"] (defScope s_reach_grown) := ⟨rfl, rfl, rfl, by decide +kernel, rfl, by decide +kernel, by decide +kernel⟩
theorem ok_reach_grown (T : Txt K mg Z) : FnOk P w K mg base CX0 7 Z.a_reach_grown Z.d_reach_grown ["system", "steps"] (sp_grownQ K Z.a_System) := by
 have G_reduced := ok_reduced (P := P) (w := w) (base := base) T
 have G_moved_rows := ok_moved_rows (P := P) (w := w) (base := base) T
 refine T.F_reach_grown.ok sc_reach_grown (fun vs H Q E h => ?_) (fun cdv A outer s H vs Q E hr h => ?_)
 ·obtain ⟨x, a, c, st, H0, mv, pt, lk, rfl, s1000, S, D, F, k⟩ := h
  rfl
 ·obtain ⟨x, a, c, st, H0, mv, pt, lk, rfl, s1000, S, D, F, k⟩ := h
  refine ⟨_, (pss_cons (ps_set (i := 2) sc_reach_grown.nd rfl (Or.inl rfl) (pe_lst (pa_cons (pe_lst pa_nil) pa_nil)))
   (pss_cons (ps_while PassesOwn.never (pt_cmpR op_le (pe_callB call_len_seq (by rfl) T.len PySem.boot_len (pa_cons (pv 2) pa_nil)) (pv 1) (nomark _))
    (pss_cons (ps_set (i := 3) sc_reach_grown.nd rfl (Or.inl rfl) (pe_call G_reduced (hr.mono (by decide)) rfl T.mg_reduced T.F_reduced.kp T.b_reduced .nil pass0 (pa_cons (pe_op op_cat (pe_fld (pv 0) rfl) (pe_call G_moved_rows (hr.mono (by decide)) rfl T.mg_moved_rows T.F_moved_rows.kp T.b_moved_rows .nil pass0 (pa_cons (pv 0) (pa_cons (pe_ix ix_list (pv 2) (pe_un un_neg pe_int) (by intro _ _; rfl)) pa_nil)))) (pa_cons (pe_fld (pv 0) rfl) pa_nil))))
   (pss_cons (ps_if (pt_cmpR op_eq (pe_callB call_len_seq (by rfl) T.len PySem.boot_len (pa_cons (pv 3) pa_nil)) (pe_callB call_len_seq (by rfl) T.len PySem.boot_len (pa_cons (pe_ix ix_list (pv 2) (pe_un un_neg pe_int) (by intro _ _; rfl)) pa_nil)) (nomark _)) (pss_one (ps_ret (pv 2))) pss_nil)
   (pss_one (ps_expr (pe_bm PySem.F.plainAttrs_list PySem.F.slot_list_append PySem.F.type_list_append mt_append (pv 2) (pa_cons (pv 3) pa_nil)))))))
   (pss_one (ps_ret (pv 2))))), ?_⟩
  refine rd_start (σ := [some (.ref x), some (.int st), none, none]) rfl ?_
  obtain ⟨dx, a', b', c', gx, _, _, _, Ga, Gb, Gc⟩ := id S
  have d8 := D.n8
  have i4 := D.i4
  have lP := kry_wide (mv := mv) (pt := pt) rfl D.pw
  walk_at "w"
  refine rd_newL fun q0 H1 s1 nq0 g1 => ?_
  walk_at "w"
  refine rd_newL fun l H2 s2 nl g2 => ?_
  have s02 := s1.trans s2
  have nl0 : H l = none := s1.none nl
  obtain ⟨Hz, eHz⟩ : ∃ Hz, Hz = upd H l (.lst []) := ⟨_, rfl⟩
  have zl : Hz l ≠ none := by rw [eHz, upd_same]; exact fun z => nomatch z
  have zn : ∀ q, Hz q = none -> H q = none /\ q ≠ l := fun q h => by
   have ne : q ≠ l := fun z => zl (by rw [<- z]; exact h)
   rw [eHz, upd_ne ne] at h
   exact ⟨h, ne⟩
  have nz : ∀ q, H q = none -> q ≠ l -> Hz q = none := fun q h ne => by rw [eHz, upd_ne ne]; exact h
  clear eHz
  have q0l : q0 ≠ l := fun z => by rw [z, nl] at g1; cases g1
  have G0 : GridQ K Hz H2 q0 [] := ⟨[], s2 _ _ g1, .nil, fun z => nomatch z⟩
  walk_at "w"
  refine while_i (fun σ' H' => Same H H' /\ ∃ Rs R us y, σ' = [some (.ref x), some (.int st), some (.ref l), y] /\ H' l = some (.lst us) /\ Paired (fun R v => ∃ q, v = V.ref q /\ Hz q = none /\ GridQ K Hz H' q R) (Rs ++ [R]) us /\ Grown mv pt (Rs ++ [R]) /\ Rs.length <= st) (fun _ H' => match H' l with | some (.lst us) => st + 1 - us.length | _ => 0) ⟨s02, [], [], _, _, rfl, g2, .cons ⟨q0, rfl, nz q0 nq0 q0l, G0⟩ .nil, ⟨by simp, fun t R e => ?_, fun t R R' e e' => ?_⟩, Nat.zero_le _⟩ ?_
  ·have ht := (List.getElem?_eq_some_iff.mp e).1
   have : t = 0 := by simpa using ht
   subst this
   cases e
   exact ⟨[], rr_nil⟩
  ·have ht := (List.getElem?_eq_some_iff.mp e').1
   simp at ht
  rintro σ' Ha ⟨sa, Rs, R, us, y, rfl, gu, pa, Gw, hst⟩
  have lu := pa.length
  rw [List.length_append, List.length_singleton] at lu
  have eR : (Rs ++ [R])[Rs.length]? = some R := by rw [List.getElem?_append_right (Nat.le_refl _), Nat.sub_self]; rfl
  obtain ⟨ps, RR⟩ := Gw.rr _ _ eR
  have tn : Rs.length <= mv.length := by have := Gw.len _ _ eR; have := RR.le; have := RR.1; omega
  have fin : ∀ (Hx : Hp) (sx : Same Ha Hx) (hh : ∀ s, (Rs.length = st /\ s = st ∨ Rs.length < st /\ Rs.length <= s) -> ∃ ps, RrefL (kry mv pt s) mv.length R ps), Q (.ref l) Hx := fun Hx sx hh => by
   refine k l (Rs ++ [R]) Hx nl0 (sa.trans sx) ⟨us, sx _ _ gu, Paired.imp' (fun _ _ ⟨q, e1, e2, e3⟩ => ⟨q, e1, (zn q e2).1, (zn q e2).2, GridQ.weakN (GridQ.same e3 sx) fun q h => (zn q h).1⟩) pa⟩ Gw (by rw [List.length_append, List.length_singleton]; omega) fun R2 e2 s hs => ?_
   rw [List.getLast?_concat] at e2
   cases e2
   rw [List.length_append, List.length_singleton, Nat.add_sub_cancel] at hs
   exact hh s hs
  walk_at "w"
  refine ⟨_, _, rfl, .inl (SqL.of gu), ?_⟩
  walk_at "w"
  refine ite2 (fun h0 => ?_) (fun h0 => ?_)
  ·have h0 := of_decide_eq_true h0
   refine rd_wb ?_
   obtain ⟨zs, gS⟩ : ∃ zs q, us = zs ++ [V.ref q] /\ Hz q = none /\ GridQ K Hz Ha q R := by
    obtain ⟨v, ev, q, rfl, e2, e3⟩ : ∃ v, us[Rs.length]? = some v /\ ∃ q, v = V.ref q /\ Hz q = none /\ GridQ K Hz Ha q R := by
     have ev := List.getElem?_eq_getElem (show Rs.length < us.length by omega)
     obtain ⟨R2, e2, w⟩ := paired_at pa ev
     rw [eR] at e2
     cases e2
     exact ⟨_, ev, w⟩
    refine ⟨us.take Rs.length, q, ?_, e2, e3⟩
    rw [<- take_snoc ev, List.take_of_length_le (by omega)]
   obtain ⟨q, rfl, zq, Gq⟩ := gS
   have gxa := sa _ _ gx
   walk_at "w"
   refine ⟨x, Z.a_System, dx, _, _, rfl, gxa, T.cl_System, T.na_put, sys_put, ?_⟩
   walk_at "w"
   refine rd_ixL (SqL.of gu) (atI_last _ _) ?_
   have wR := RR.2.1
   have lR := RR.1
   have pn := RR.le
   walk_at "w"
   refine ⟨x, q, H0, Hz, mv, pt, lk, R, rfl, S.same sa, D, Gq, by omega, wR, F.fit d8 D.mw D.pw tn RR, fun mr Hb nmr sb Gm => ?_⟩
   obtain ⟨pv, gpv, qpv, _⟩ := Gb.same (sa.trans sb)
   obtain ⟨mvs, gmv, qmv, _⟩ := id Gm
   have lpv := qpv.length
   have lmv := qmv.length
   rw [List.length_map] at lmv
   walk_at "w"
   refine rd_cat gpv gmv (Nat.le_of_lt (small1000 (by omega))) fun cr Hc sc nc gc => ?_
   have sab := sa.trans (sb.trans sc)
   have Gc' : GridQ K (fun _ => none) Hc cr (pt ++ R.map (onQ mv)) := grid_subL (H := Hb) (paired_app (Paired.imp' (fun _ _ ⟨q, e1, e2, e3⟩ => ⟨q, e1, rfl, e3⟩) qpv) (Paired.imp' (fun _ _ ⟨q, e1, e2, e3⟩ => ⟨q, e1, rfl, e3⟩) qmv)) sc nc gc
   walk_at "w"
   refine ⟨x, Z.a_System, dx, _, _, rfl, sab _ _ gx, T.cl_System, T.na_states, sys_states, ?_⟩
   walk_at "w"
   refine ⟨cr, mv.length, _, _, _, rfl, Gc', by rw [List.length_append, List.length_map]; omega, by omega, fun xs hx => ?_, F.step d8 D.mw D.pw tn RR, fun rr R' ps' M' Hd nrr sd G' RR' pm' _ _ _ => ?_⟩
   ·rcases List.mem_append.mp hx with hx | hx
    ·exact D.pw xs hx
    ·obtain ⟨y, _, rfl⟩ := List.mem_map.mp hx
     exact on_len
   have sbd := sb.trans (sc.trans sd)
   have sad := sa.trans sbd
   have K1 := kry_step rfl D.mw D.pw RR RR'
   have gud := sbd _ _ gu
   obtain ⟨rv, grv, qrv, _⟩ := id G'
   have lrv := qrv.length
   have lR' := RR'.1
   have pn' := RR'.le
   walk_at "w"
   refine ⟨_, _, rfl, .inl (SqL.of grv), ?_⟩
   walk_at "w"
   refine rd_ixL (SqL.of gud) (atI_last _ _) ?_
   obtain ⟨ov, gov, qov, _⟩ := Gq.same sbd
   have lov := qov.length
   walk_at "w"
   refine ⟨_, _, rfl, .inl (SqL.of gov), ?_⟩
   walk_at "w"
   refine ite2 (fun h1 => ?_) (fun h1 => ?_)
   ·have h1 := of_decide_eq_true h1
    walk_at "w"
    refine fin Hd sbd fun s hs => ⟨ps, ?_⟩
    obtain ⟨s', rfl⟩ : ∃ s', s = Rs.length + s' := ⟨s - Rs.length, by omega⟩
    exact kry_stand rfl D.mw D.pw RR RR' (by omega) s'
   ·have h1 : ¬ ((rv.length : Int) = ov.length) := fun z => h1 (decide_eq_true z)
    have gr := kry_grow rfl D.mw D.pw RR K1
    have rl : rr ≠ l := fun z => by rw [z, (sb.trans sc) _ _ gu] at nrr; cases nrr
    have zc : ∀ q, Hc q = none -> Hz q = none := fun q h => nz q (sab.none h) (fun z => by rw [z, (sb.trans sc) _ _ gu] at h; cases h)
    walk_at "w"
    refine ⟨.inl ⟨rfl, _, SqL.of gud⟩, ?_⟩
    walk_at "w"
    refine rd_append gud (small1000 (by omega)) ?_
    refine ⟨⟨sad.after nl0, Rs ++ [R], R', _, _, rfl, upd_same, paired_app (Paired.imp' (fun _ _ ⟨q, e1, e2, e3⟩ => ⟨q, e1, e2, GridQ.updL (GridQ.same e3 sbd) gud zl (zn q e2).2⟩) pa) (.cons ⟨rr, rfl, zc rr nrr, GridQ.updL (G'.weakN zc) gud zl rl⟩ .nil), Gw.snoc K1 (by omega), by rw [List.length_append, List.length_singleton]; omega⟩, ?_⟩
    simp only [gu, upd_same, List.length_append, List.length_singleton] at lu h0 ⊢
    omega
  ·have h0 : ¬ ((us.length : Int) <= st) := fun z => h0 (decide_eq_true z)
   walk_at "w"
   exact fin Ha (Same.refl _) fun s hs => ⟨ps, by
    have : s = Rs.length := by omega
    rw [this]; exact RR⟩
theorem sc_reach_rows : FnScope ["system", "steps"] ["system", "steps"] (defScope s_reach_rows) := ⟨rfl, rfl, rfl, by decide +kernel, rfl, by decide +kernel, by decide +kernel⟩
theorem ok_reach_rows (T : Txt K mg Z) : FnOk P w K mg base CX0 8 Z.a_reach_rows Z.d_reach_rows ["system", "steps"] (sp_reachQ K Z.a_System) := by
 have G_reach_grown := ok_reach_grown (P := P) (w := w) (base := base) T
 refine T.F_reach_rows.ok sc_reach_rows (fun vs H Q E h => ?_) (fun cdv A outer s H vs Q E hr h => ?_)
 ·obtain ⟨x, a, c, st, H0, mv, pt, lk, rfl, s1000, S, D, F, k⟩ := h
  rfl
 ·obtain ⟨x, a, c, st, H0, mv, pt, lk, rfl, s1000, S, D, F, k⟩ := h
  refine ⟨_, (pss_one (ps_ret (pe_ix ix_list (pe_call G_reach_grown (hr.mono (by decide)) rfl T.mg_reach_grown T.F_reach_grown.kp T.b_reach_grown .nil pass0 (pa_cons (pv 0) (pa_cons (pv 1) pa_nil))) (pe_un un_neg pe_int) (by intro _ _; rfl)))), ?_⟩
  refine rd_start (σ := [some (.ref x), some (.int st)]) rfl ?_
  walk_at "w"
  refine ⟨x, a, c, st, H0, mv, pt, lk, rfl, s1000, S, D, F, fun r Rs H1 nr s1 ⟨us, gu, pa⟩ Gw hl hh => ?_⟩
  have lu := pa.length
  obtain ⟨Rs', R, rfl⟩ : ∃ Rs' R, Rs = Rs' ++ [R] := ⟨Rs.dropLast, Rs.getLast Gw.ne, (List.dropLast_concat_getLast Gw.ne).symm⟩
  rw [List.length_append, List.length_singleton] at lu hl
  have eR : (Rs' ++ [R])[Rs'.length]? = some R := by rw [List.getElem?_append_right (Nat.le_refl _), Nat.sub_self]; rfl
  obtain ⟨zs, q, rfl, zq, ql, Gq⟩ : ∃ zs q, us = zs ++ [V.ref q] /\ H q = none /\ q ≠ r /\ GridQ K H H1 q R := by
   have ev := List.getElem?_eq_getElem (show Rs'.length < us.length by omega)
   obtain ⟨R2, e2, q, e3, e4, e5, e6⟩ := paired_at pa ev
   rw [eR] at e2
   cases e2
   rw [e3] at ev
   refine ⟨us.take Rs'.length, q, ?_, e4, e5, e6⟩
   rw [<- take_snoc ev, List.take_of_length_le (by omega)]
  obtain ⟨ps, RR⟩ := hh R (by rw [List.getLast?_concat]) st (by rw [List.length_append, List.length_singleton, Nat.add_sub_cancel]; omega)
  walk_at "w"
  refine rd_ixL (SqL.of gu) (atI_last _ _) ?_
  exact k q R ps H1 zq s1 Gq RR
theorem sc__law_quot : FnScope ["_law_one", "_law_other"] ["_law_one", "_law_other"] (defScope s__law_quot) := ⟨rfl, rfl, rfl, by decide +kernel, rfl, by decide +kernel, by decide +kernel⟩
theorem ok__law_quot (T : Txt K mg Z) : FnOk P w K mg base CX0 2 Z.a__law_quot Z.d__law_quot ["_law_one", "_law_other"] (sp_quotQ K) := by
 have G__law_low := ok__law_low (P := P) (w := w) (base := base) T
 refine T.F__law_quot.ok sc__law_quot (fun vs H Q E h => ?_) (fun cdv A outer s H vs Q E hr h => ?_)
 ·obtain ⟨p, q, a, b, c, d, rfl, hp, hq, hb, hd, hc, sa, sb, sc, sd, k⟩ := quotQ_of h
  rfl
 ·obtain ⟨p, q, a, b, c, d, rfl, hp, hq, hb, hd, hc, sa, sb, sc, sd, k⟩ := quotQ_of h
  refine ⟨_, (pss_cons (ps_if (pt_cmpR op_lt (pe_ix ix_tup (pv 1) pe_int (by intro _ _; rfl)) pe_int (nomark _)) (pss_one (ps_ret (pe_call G__law_low (hr.mono (by decide)) rfl T.mg__law_low T.F__law_low.kp T.b__law_low .nil pass0 (pa_cons (pe_op op_sub pe_int (pe_op op_mulS (pe_ix ix_tup (pv 0) pe_int (by intro _ _; rfl)) (pe_ix ix_tup (pv 1) pe_int (by intro _ _; rfl)))) (pa_cons (pe_op op_sub pe_int (pe_op op_mulS (pe_ix ix_tup (pv 0) pe_int (by intro _ _; rfl)) (pe_ix ix_tup (pv 1) pe_int (by intro _ _; rfl)))) pa_nil))))) pss_nil)
   (pss_one (ps_ret (pe_call G__law_low (hr.mono (by decide)) rfl T.mg__law_low T.F__law_low.kp T.b__law_low .nil pass0 (pa_cons (pe_op op_mulS (pe_ix ix_tup (pv 0) pe_int (by intro _ _; rfl)) (pe_ix ix_tup (pv 1) pe_int (by intro _ _; rfl))) (pa_cons (pe_op op_mulS (pe_ix ix_tup (pv 0) pe_int (by intro _ _; rfl)) (pe_ix ix_tup (pv 1) pe_int (by intro _ _; rfl))) pa_nil)))))), ?_⟩
  refine rd_start (σ := [some (.ref p), some (.ref q)]) rfl ?_
  have sbc : Sz 8999 (b * c) := (sb.mul sc).mono (by decide)
  walk_at "w"
  refine ite2 (fun h => ?_) (fun h => ?_)
  ·have h0 : c < 0 := of_decide_eq_true h
   have hbc : b * c < 0 := Int.mul_neg_of_pos_of_neg hb h0
   walk_at "w"
   refine rd_I (show CMulS _ _ from .inr ⟨_, _, sa, sd, by decide⟩) ?_
   walk_at "w"
   refine rd_I (show CMulS _ _ from .inr ⟨_, _, sb, sc, by decide⟩) ?_
   walk_at "w"
   refine ⟨_, _, rfl, by omega, by rw [Int.zero_sub]; exact sbc.neg, fun r H' s' h' => ?_⟩
   exact k r H' s' (by rw [if_pos h0, if_pos h0]; exact h')
  ·have h0 : ¬ c < 0 := fun z => h (decide_eq_true z)
   have hbc : 0 < b * c := Int.mul_pos hb (by omega)
   walk_at "w"
   refine rd_I (show CMulS _ _ from .inr ⟨_, _, sa, sd, by decide⟩) ?_
   walk_at "w"
   refine rd_I (show CMulS _ _ from .inr ⟨_, _, sb, sc, by decide⟩) ?_
   walk_at "w"
   refine ⟨_, _, rfl, hbc, sbc, fun r H' s' h' => ?_⟩
   exact k r H' s' (by rw [if_neg h0, if_neg h0]; exact h')
theorem sc__law_less : FnScope ["_law_one", "_law_other"] ["_law_one", "_law_other"] (defScope s__law_less) := ⟨rfl, rfl, rfl, by decide +kernel, rfl, by decide +kernel, by decide +kernel⟩
theorem ok__law_less (T : Txt K mg Z) : FnOk P w K mg base CX0 2 Z.a__law_less Z.d__law_less ["_law_one", "_law_other"] (sp_opQ K (fun x y => x - y)) := by
 have G__law_low := ok__law_low (P := P) (w := w) (base := base) T
 refine T.F__law_less.ok sc__law_less (fun vs H Q E h => ?_) (fun cdv A outer s H vs Q E hr h => ?_)
 ·obtain ⟨p, q, a, b, c, d, rfl, hp, hq, hb, hd, sa, sb, sc, sd, k⟩ := subQ_of h
  rfl
 ·obtain ⟨p, q, a, b, c, d, rfl, hp, hq, hb, hd, sa, sb, sc, sd, k⟩ := subQ_of h
  refine ⟨_, (pss_one (ps_ret (pe_call G__law_low (hr.mono (by decide)) rfl T.mg__law_low T.F__law_low.kp T.b__law_low .nil pass0 (pa_cons (pe_op op_sub (pe_op op_mulS (pe_ix ix_tup (pv 0) pe_int (by intro _ _; rfl)) (pe_ix ix_tup (pv 1) pe_int (by intro _ _; rfl))) (pe_op op_mulS (pe_ix ix_tup (pv 1) pe_int (by intro _ _; rfl)) (pe_ix ix_tup (pv 0) pe_int (by intro _ _; rfl)))) (pa_cons (pe_op op_mulS (pe_ix ix_tup (pv 0) pe_int (by intro _ _; rfl)) (pe_ix ix_tup (pv 1) pe_int (by intro _ _; rfl))) pa_nil))))), ?_⟩
  refine rd_start (σ := [some (.ref p), some (.ref q)]) rfl ?_
  have hbd : 0 < b * d := Int.mul_pos hb hd
  have sbd : Sz 8999 (b * d) := (sb.mul sd).mono (by decide)
  walk_at "w"
  refine rd_I (show CMulS _ _ from .inr ⟨_, _, sa, sd, by decide⟩) ?_
  walk_at "w"
  refine rd_I (show CMulS _ _ from .inr ⟨_, _, sc, sb, by decide⟩) ?_
  walk_at "w"
  refine rd_I (show CMulS _ _ from .inr ⟨_, _, sb, sd, by decide⟩) ?_
  walk_at "w"
  walk_at "w"
  refine ⟨_, _, rfl, hbd, sbd, k⟩
theorem sc__law_minus : FnScope ["_law_one", "_law_other"] ["_law_one", "_law_other"] (defScope s__law_minus) := ⟨rfl, rfl, rfl, by decide +kernel, rfl, by decide +kernel, by decide +kernel⟩
theorem ok__law_minus (T : Txt K mg Z) : FnOk P w K mg base CX0 3 Z.a__law_minus Z.d__law_minus ["_law_one", "_law_other"] (sp_minusQ K) := by
 have G__law_less := ok__law_less (P := P) (w := w) (base := base) T
 refine T.F__law_minus.ok sc__law_minus (fun vs H Q E h => ?_) (fun cdv A outer s H vs Q E hr h => ?_)
 ·obtain ⟨p, q, xs, ys, rfl, hp, hq, hl, hz, h1, h2, kk⟩ := h
  rfl
 ·obtain ⟨p, q, xs, ys, rfl, hp, hq, hl, hz, h1, h2, kk⟩ := h
  refine ⟨_, (pss_one (ps_ret (pe_comp ["_law_k"] ["_law_one", "_law_other"] [0, 1] (pi_range1 rfl T.range (pa_cons (pe_callB call_len_seq (by rfl) T.len PySem.boot_len (pa_cons (pv 0) pa_nil)) pa_nil)) (fun _ => (pg_name (i := 0) (show List.Nodup (α := PySem.Str) ["_law_k", "_law_one", "_law_other"] by decide +kernel) rfl (Or.inl rfl) (Or.inl rfl))) (fun _ => pf_nil) (fun _ => (pe_call G__law_less (hr.mono (by decide)) rfl T.mg__law_less T.F__law_less.kp T.b__law_less .nil pass0 (pa_cons (pe_ix (ix_listK K (by rfl)) (pv 1) (pv 0) (by intro _ _; rfl)) (pa_cons (pe_ix (ix_listK K (by rfl)) (pv 2) (pv 0) (by intro _ _; rfl)) pa_nil))))))), ?_⟩
  refine rd_start (σ := [some (.ref p), some (.ref q)]) rfl ?_
  obtain ⟨us, gu, qu⟩ := id hp
  obtain ⟨ws, gw, qw⟩ := id hq
  have lu := qu.length
  walk_at "w"
  refine ⟨_, _, rfl, .inl (SqL.of gu), ?_⟩
  walk_at "w"
  refine ⟨by omega, by omega, ?_⟩
  refine comp_mapR (n := us.length) (NumQ K) (fun i => xs.getD i 0 - ys.getD i 0) (by omega) (fun a b => a.same b) ?_ ?_
  ·rintro i H' NY NN hi s k1
   have ix : i < xs.length := by omega
   have iy : i < ys.length := by omega
   obtain ⟨vx, ex, nx⟩ := ixQ (Paired.imp' (fun _ _ z => z.same s) qu) ix
   obtain ⟨vy, ey, ny⟩ := ixQ (Paired.imp' (fun _ _ z => z.same s) qw) iy
   walk_at "w"
   refine rd_ixL (SqL.of (s _ _ gu)) ex ?_
   walk_at "w"
   refine rd_ixL (SqL.of (s _ _ gw)) ey ?_
   walk_at "w"
   exact ⟨_, _, _, _, rfl, nx, ny, h1 _ (getD_mem ix), h2 _ (getD_mem iy), fun r3 H3 s3 n3 => k1 _ _ s3 n3⟩
  ·rintro ys' H' l hl' s g pr nx
   exact kk l H' hl' s ⟨ys', g, by rw [zip_rangeM (by omega)]; rw [<- lu] at pr; exact pr⟩
theorem sc__law_lean : FnScope ["_law_rows", "_law_wide", "_law_left", "_law_found", "_law_place", "_law_heads", "_law_head"] ["_law_rows", "_law_wide"] (defScope s__law_lean) := ⟨rfl, rfl, rfl, by decide +kernel, rfl, by decide +kernel, by decide +kernel⟩
theorem ok__law_lean (T : Txt K mg Z) : FnOk P w K mg base CX0 4 Z.a__law_lean Z.d__law_lean ["_law_rows", "_law_wide"] (sp_lawRedS K) := by
 have G__law_by := ok__law_by (P := P) (w := w) (base := base) T
 have G__law_quot := ok__law_quot (P := P) (w := w) (base := base) T
 have G__law_minus := ok__law_minus (P := P) (w := w) (base := base) T
 refine T.F__law_lean.ok sc__law_lean (fun vs H Q E h => ?_) (fun cdv A outer s H vs Q E hr h => ?_)
 ·obtain ⟨p, n, S, H0, rows, rfl, G, r100, n100, hw, ⟨e39, J, j0, jskip, jlean, jlw, jsz⟩, k⟩ := h
  rfl
 ·obtain ⟨p, n, S, H0, rows, rfl, G, r100, n100, hw, ⟨e39, J, j0, jskip, jlean, jlw, jsz⟩, k⟩ := h
  refine ⟨_, (pss_cons (ps_set (i := 2) sc__law_lean.nd rfl (Or.inr rfl) (pe_comp ["_law_row_here"] [] [] (pi_list (pv 0)) (fun _ => (pg_name (i := 0) (show List.Nodup (α := PySem.Str) ["_law_row_here"] by decide +kernel) rfl (Or.inl rfl) (Or.inl rfl))) (fun _ => pf_nil) (fun _ => (pe_callTy (call_list_ofK K (by rfl)) (by rfl) T.list PyProof.Rows.boot_list (pa_cons (pv 0) pa_nil)))))
   (pss_cons (ps_set (i := 3) sc__law_lean.nd rfl (Or.inl rfl) (pe_lst pa_nil))
   (pss_cons (ps_for PassesOwn.never rfl (pi_range1 rfl T.range (pa_cons (pv 1) pa_nil)) (pg_name (i := 4) sc__law_lean.nd rfl (Or.inr rfl) (Or.inl rfl))
    (pss_cons (ps_setC 5 ["_law_k"] ["_law_left", "_law_place"] [2, 4] sc__law_lean.nd rfl rfl (pi_range1 rfl T.range (pa_cons (pe_callB call_len_seq (by rfl) T.len PySem.boot_len (pa_cons (pv 2) pa_nil)) pa_nil)) (fun _ => (pg_name (i := 0) (show List.Nodup (α := PySem.Str) ["_law_k", "_law_left", "_law_place"] by decide +kernel) rfl (Or.inl rfl) (Or.inl rfl))) (fun _ => pf_one (pt_cmpR (op_neDK K (by rfl) (hu50 hr)) (pe_ix (ix_listK K (by rfl)) (pe_ix (ix_listK K (by rfl)) (pv 1) (pv 0) (by intro _ _; rfl)) (pv 2) (by intro _ _; rfl)) (pe_tup (pa_cons pe_int (pa_cons pe_int pa_nil))) (nomark _))) (fun _ => (pv 0)))
   (pss_one (ps_if (pt_cmpR (op_neD (hu50 hr)) (pv 5) (pe_lst pa_nil) (nomark _)) (pss_cons (ps_set (i := 6) sc__law_lean.nd rfl (Or.inr rfl) (pe_bm PySem.F.plainAttrs_list PySem.F.slot_list_pop PySem.F.type_list_pop mt_popAt (pv 2) (pa_cons (pe_ix ix_list (pv 5) pe_int (by intro _ _; rfl)) pa_nil)))
   (pss_cons (ps_set (i := 6) sc__law_lean.nd rfl (Or.inr rfl) (pe_call G__law_by (hr.mono (by decide)) rfl T.mg__law_by T.F__law_by.kp T.b__law_by .nil pass0 (pa_cons (pe_call G__law_quot (hr.mono (by decide)) rfl T.mg__law_quot T.F__law_quot.kp T.b__law_quot .nil pass0 (pa_cons (pe_tup (pa_cons pe_int (pa_cons pe_int pa_nil))) (pa_cons (pe_ix ix_list (pv 6) (pv 4) (by intro _ _; rfl)) pa_nil))) (pa_cons (pv 6) pa_nil))))
   (pss_cons (ps_set (i := 2) sc__law_lean.nd rfl (Or.inr rfl) (pe_comp ["_law_row_here"] ["_law_place", "_law_head"] [4, 6] (pi_list (pv 2)) (fun _ => (pg_name (i := 0) (show List.Nodup (α := PySem.Str) ["_law_row_here", "_law_place", "_law_head"] by decide +kernel) rfl (Or.inl rfl) (Or.inl rfl))) (fun _ => pf_nil) (fun _ => (pe_call G__law_minus (hr.mono (by decide)) rfl T.mg__law_minus T.F__law_minus.kp T.b__law_minus .nil pass0 (pa_cons (pv 0) (pa_cons (pe_call G__law_by (hr.mono (by decide)) rfl T.mg__law_by T.F__law_by.kp T.b__law_by .nil pass0 (pa_cons (pe_ix (ix_listK K (by rfl)) (pv 0) (pv 1) (by intro _ _; rfl)) (pa_cons (pv 2) pa_nil))) pa_nil))))))
   (pss_cons (ps_setC 3 ["_law_row_here"] ["_law_place", "_law_head"] [4, 6] sc__law_lean.nd rfl rfl (pi_list (pv 3)) (fun _ => (pg_name (i := 0) (show List.Nodup (α := PySem.Str) ["_law_row_here", "_law_place", "_law_head"] by decide +kernel) rfl (Or.inl rfl) (Or.inl rfl))) (fun _ => pf_nil) (fun _ => (pe_call G__law_minus (hr.mono (by decide)) rfl T.mg__law_minus T.F__law_minus.kp T.b__law_minus .nil pass0 (pa_cons (pv 0) (pa_cons (pe_call G__law_by (hr.mono (by decide)) rfl T.mg__law_by T.F__law_by.kp T.b__law_by .nil pass0 (pa_cons (pe_ix (ix_listK K (by rfl)) (pv 0) (pv 1) (by intro _ _; rfl)) (pa_cons (pv 2) pa_nil))) pa_nil)))))
   (pss_one (ps_expr (pe_bm PySem.F.plainAttrs_list PySem.F.slot_list_append PySem.F.type_list_append mt_append (pv 3) (pa_cons (pv 6) pa_nil)))))))) pss_nil))))
   (pss_one (ps_ret (pv 3)))))), ?_⟩
  refine rd_start (σ := [some (.ref p), some (.int n), none, none, none, none, none]) rfl ?_
  obtain ⟨xs, gx, qx, _⟩ := id G
  have szT : ∀ {D : Nat} {x : Rat}, 0 < D -> D <= 2 ^ S -> Tp D (2 ^ S) x -> SzN x := fun h0 h1 t => szn_tp t h0 (Nat.le_trans h1 (Nat.pow_le_pow_right (by decide) (by omega))) (Nat.pow_le_pow_right (by decide) (by omega))
  have szP : ∀ {D D' : Nat} {x y : Rat}, 0 < D -> 0 < D' -> D <= 2 ^ S -> D' <= 2 ^ S -> Tp D (2 ^ S) x -> Tp D' (2 ^ S) y -> SzN (x * y) := fun h0 h0' h1 h1' t t' => szn_tp (t.mul t') (Nat.mul_pos h0 h0') (Nat.le_trans (Nat.mul_le_mul h1 h1') (by rw [<- Nat.pow_add]; exact Nat.pow_le_pow_right (by decide) (by omega))) (by rw [<- Nat.pow_add]; exact Nat.pow_le_pow_right (by decide) (by omega))
  walk_at "w"
  refine ⟨⟨_, SqL.of gx⟩, ?_⟩
  refine comp_mapL (K := K) (F := RowF K H0) (RowF K H) id gx qx (by omega) (fun a b => a.same b) (fun a b => a.same b) ?_ ?_
  ·rintro i ns x H' NY NN en s ⟨u, rfl, _, zs, gz, qz⟩ k1
   walk_at "w"
   refine ⟨u, zs, rfl, .inl (SqL.of gz), fun l1 hl1 => ?_⟩
   exact k1 _ _ (Same.new hl1) ⟨l1, rfl, s.none hl1, zs, upd_same, Paired.imp' (fun _ _ z => z.same (Same.new hl1)) qz⟩
  rintro ys1 H1 L hL s1 g1 pr1 nx1
  rw [List.map_id] at pr1 nx1
  have GL1 : GridQ K H H1 L rows := ⟨ys1, g1, pr1, notin nx1⟩
  walk_at "w"
  refine rd_newL fun fd H2 s2 nf gf => ?_
  have fdL : fd ≠ L := fun z => by rw [z, g1] at nf; cases nf
  clear g1 pr1 nx1
  walk_at "w"
  refine ⟨by omega, by omega, ?_⟩
  refine for_rangeN (n := n) (fun P σ' H' => Same H H' /\ ∃ lp fp ls fs ps vs y1 y2 y3, σ' = [some (.ref p), some (.int n), some (.ref lp), some (.ref fp), y1, y2, y3] /\ H lp = none /\ H fp = none /\ fp ≠ lp /\ GridQ K H H' lp ls /\ H' fp = some (.lst vs) /\ Paired (RowE K (fun q => (H q = none /\ q ≠ fp) /\ q ≠ lp) H') fs vs /\ fs.length = ps.length /\ J P (fs ++ ls) ps) ⟨s1.trans s2, L, fd, rows, [], [], [], _, _, _, rfl, hL, s1.none nf, fdL, GL1.same s2, gf, .nil, rfl, j0⟩ ?_ ?_
  ·rintro P σ' H' hP ⟨s', lp, fp, ls, fs, ps, vs, y1, y2, y3, rfl, nlp, nfp, fl, GL, gv, pv, hf, JI⟩
   have I := jlw _ _ _ JI
   have len := I.len
   rw [List.length_append] at len
   have wide := I.wide
   obtain ⟨us, gu, qu, nu⟩ := id GL
   have lu := qu.length
   have lv := pv.length
   have szI : ∀ {i : Nat}, i < rows.length -> ∀ c, SzN (fnQ (fs ++ ls) i c) := fun hi c => by
    obtain ⟨D, D0, D1, D2⟩ := jsz _ _ _ JI (by omega) _ hi
    exact szT D0 D1 (D2 c)
   have ez : ∀ i, (ls.map fun r => r.getD P 0).getD i 0 = fnQ ls i P := fun i => map_gd
   walk_at "w"
   refine ⟨_, _, rfl, .inl (SqL.of gu), ?_⟩
   rw [<- lu]
   walk_at "w"
   refine ⟨by omega, by omega, ?_⟩
   refine comp_range (n := ls.length) (fun i ys H'' => Same H' H'' /\ ys = natsV (nzN (ls.map fun r => r.getD P 0) i)) (Nat.le_of_lt (small1000 (by omega))) ⟨Same.refl _, rfl⟩ ?_ ?_
   ·rintro i ys Hb hi hlen ⟨sb, rfl⟩
    rw [Int.zero_add]
    obtain ⟨xt, vt, et, evt, mt, qt, rfl, nqt, Rt⟩ := paired_at2 (Paired.imp' (fun _ _ z => RowF.same z sb) qu) hi
    have wt := wide xt (List.mem_append.mpr (.inr mt))
    obtain ⟨zs, gz, qz⟩ := id Rt
    obtain ⟨vx, ex, nx⟩ := ixQ qz (j := P) (by omega)
    have fx : (ls.map fun r => r.getD P 0).getD i 0 = xt.getD P 0 := by rw [ez]; unfold fnQ; rw [List.getD_eq_getElem?_getD (l := ls), et]; rfl
    walk_at "w"
    refine rd_ixL (SqL.of (sb _ _ gu)) (atI_nat evt) ?_
    walk_at "w"
    refine rd_ixL (SqL.of gz) ex ?_
    walk_at "w"
    refine rd_newT fun t0 Hc sc gc => ?_
    walk_at "w"
    refine ⟨_, _, kNumQ, xt.getD P 0, 0, by decide, nx.same sc, NumQ.mk (q := 0) gc rfl, ?_⟩
    by_cases e : xt.getD P 0 = 0
    ·rw [decide_eq_true e]
     walk_at "w"
     refine ⟨sb.trans sc, ?_⟩
     rw [nz_succ, fx, if_neg (by simpa using e)]
    ·rw [decide_eq_false e]
     walk_at "w"
     refine ⟨sb.trans sc, ?_⟩
     rw [nz_succ, fx, if_pos e]
     unfold natsV
     rw [List.map_append]
     rfl
   rintro ys Hb hy ⟨sb, rfl⟩ hd hhd
   have nzm : ∀ c, c ∈ nzN (ls.map fun r => r.getD P 0) ls.length ↔ c < ls.length /\ fnQ ls c P ≠ 0 := fun c => by rw [nz_mem, ez]
   generalize nzN (ls.map fun r => r.getD P 0) ls.length = hs at hy hhd nzm
   have sn : Same Hb (upd Hb hd (.lst (natsV hs))) := Same.new hhd
   have gh : (upd Hb hd (.lst (natsV hs))) hd = some (.lst (natsV hs)) := upd_same
   generalize upd Hb hd (.lst (natsV hs)) = Hc at sn gh ⊢
   have sbc := sb.trans sn
   walk_at "w"
   refine rd_newL fun em Hd sd nd gd => ?_
   walk_at "w"
   refine ⟨_, _, kLst kInt, intsN hs, intsN [], by decide, nats_kind (sd _ _ gh), nats_kind gd, ?_⟩
   have sbd := sbc.trans sd
   by_cases e0 : hs = []
   ·subst e0
    rw [decide_eq_true rfl]
    walk_at "w"
    refine ⟨s'.trans sbd, lp, fp, ls, fs, ps, vs, _, _, _, rfl, nlp, nfp, fl, GL.same sbd, sbd _ _ gv, Paired.imp' (fun _ _ z => RowE.same z sbd) pv, hf, jskip _ _ _ JI fun i h1 h2 => ?_⟩
    rw [List.length_append] at h2
    obtain ⟨j, rfl⟩ : ∃ j, i = fs.length + j := ⟨i - fs.length, by omega⟩
    rw [ap_r]
    by_cases z : fnQ ls j P = 0
    ·exact z
    ·exact absurd ((nzm j).mpr ⟨by omega, z⟩) (by simp)
   ·rw [decide_eq_false (fun z => e0 (ints_inj z))]
    obtain ⟨t, hs', rfl⟩ : ∃ t hs', hs = t :: hs' := by cases hs with
     | nil => exact absurd rfl e0
     | cons t r => exact ⟨t, r, rfl⟩
    obtain ⟨tl, hne⟩ := (nzm t).mp (.head _)
    have gud := sbd _ _ gu
    obtain ⟨xt, vt, et, evt, mt, qt, rfl, nqt, Rt⟩ := paired_at2 (Paired.imp' (fun _ _ z => RowF.same z sbd) qu) tl
    have ext : ls.getD t [] = xt := by rw [List.getD_eq_getElem?_getD, et]; rfl
    have hne' : xt.getD P 0 ≠ 0 := by unfold fnQ at hne; rw [ext] at hne; exact hne
    have wt := wide xt (List.mem_append.mpr (.inr mt))
    have qtl : qt ≠ lp := fun z => nu (by rw [<- z]; exact List.mem_of_getElem? evt)
    walk_at "w"
    refine ⟨.inl ⟨rfl, _, SqL.of gud⟩, ?_⟩
    walk_at "w"
    refine rd_ixL (SqL.of (sd _ _ gh)) (atI_nat (j := 0) rfl) ?_
    walk_at "w"
    refine ⟨lp, us, t, t, _, rfl, rfl, gud, by omega, by omega, PySem.StrLaws.seqIndex_nonneg (by omega) (by omega), evt, ?_⟩
    have s0e : Same H (upd Hd lp (.lst (us.eraseIdx t))) := (s'.trans sbd).after nlp
    obtain ⟨us', gu', pu'⟩ := (GL.same sbd).toE
    have eus : us' = us := by rw [gud] at gu'; cases gu'; rfl
    subst eus
    have ple : Paired (RowE K (fun q => H q = none /\ q ≠ lp) (upd Hd lp (.lst (us'.eraseIdx t)))) (ls.eraseIdx t) (us'.eraseIdx t) := paired_erase (Paired.imp' (fun _ _ z => RowE.updL z gud (fun q h => h.2)) pu') t
    have gle : (upd Hd lp (.lst (us'.eraseIdx t))) lp = some (.lst (us'.eraseIdx t)) := upd_same
    have gve : (upd Hd lp (.lst (us'.eraseIdx t))) fp = some (.lst vs) := by rw [upd_ne fl]; exact sbd _ _ gv
    have pve : Paired (RowE K (fun q => (H q = none /\ q ≠ fp) /\ q ≠ lp) (upd Hd lp (.lst (us'.eraseIdx t)))) fs vs := Paired.imp' (fun _ _ z => RowE.updL (RowE.same z sbd) gud (fun q h => h.2)) pv
    have Re : RowQ K (upd Hd lp (.lst (us'.eraseIdx t))) qt xt := Rt.updL gud qtl
    generalize upd Hd lp (.lst (us'.eraseIdx t)) = He at s0e ple gle gve pve Re ⊢
    clear pu' gu' gud Rt
    have I2 := jlean _ _ _ _ _ JI hf tl hP (by rw [ext]; exact hne')
    rw [ext] at I2
    have rowD : ∀ r ∈ fs ++ ls, ∃ D : Nat, 0 < D /\ D <= 2 ^ S /\ ∀ c, Tp D (2 ^ S) (r.getD c 0) := fun r hr => by
     obtain ⟨i, hi, rfl⟩ := List.getElem_of_mem hr
     obtain ⟨D, D0, D1, D2⟩ := jsz _ _ _ JI (by omega) i (by rw [List.length_append] at hi; omega)
     refine ⟨D, D0, D1, fun c => ?_⟩
     have := D2 c
     unfold fnQ at this
     rw [List.getD_eq_getElem?_getD (l := fs ++ ls), List.getElem?_eq_getElem hi] at this
     exact this
    have szr : ∀ r ∈ fs ++ ls, ∀ y ∈ r, SzN y := fun r hr y hy => by
     obtain ⟨D, D0, D1, D2⟩ := rowD r hr
     obtain ⟨c, hc, rfl⟩ := List.getElem_of_mem hy
     have := D2 c
     rw [List.getD_eq_getElem?_getD, List.getElem?_eq_getElem hc] at this
     exact szT D0 D1 this
    have mxt : xt ∈ fs ++ ls := List.mem_append.mpr (.inr mt)
    have lu2 : (hdQ P xt).length = n := by unfold hdQ; rw [List.length_map]; exact wt
    obtain ⟨Du, Du0, Du1, Du2⟩ : ∃ D : Nat, 0 < D /\ D <= 2 ^ S /\ ∀ y ∈ hdQ P xt, Tp D (2 ^ S) y := by
     obtain ⟨D, D0, D1, D2⟩ := jsz _ _ _ I2 (by omega) ps.length (by omega)
     refine ⟨D, D0, D1, fun y hy => ?_⟩
     obtain ⟨c, hc, rfl⟩ := List.getElem_of_mem hy
     have := D2 c
     rw [List.append_assoc, show ps.length = (fs.map (lsQ P (hdQ P xt))).length + 0 by rw [List.length_map]; omega, ap_r] at this
     have e : fnQ ([hdQ P xt] ++ (ls.eraseIdx t).map (lsQ P (hdQ P xt))) 0 c = (hdQ P xt)[c] := by
      show (hdQ P xt).getD c 0 = _
      rw [List.getD_eq_getElem?_getD, List.getElem?_eq_getElem hc]; rfl
     rw [e] at this
     exact this
    have szu : ∀ y ∈ hdQ P xt, SzN y := fun y hy => szT Du0 Du1 (Du2 y hy)
    have szp : ∀ r ∈ fs ++ ls, ∀ y ∈ hdQ P xt, SzN (r.getD P 0 * y) := fun r hr y hy => by
     obtain ⟨D, D0, D1, D2⟩ := rowD r hr
     exact szP D0 Du0 D1 Du1 (D2 P) (Du2 y hy)
    obtain ⟨zs, gz, qz⟩ := id Re
    obtain ⟨vx, ex, nx⟩ := ixQ qz (j := P) (by omega)
    have szx : SzN (xt.getD P 0) := szr xt mxt _ (getD_in (by omega))
    walk_at "w"
    refine rd_newT fun tq Hf sf gf => ?_
    walk_at "w"
    refine rd_ixL (SqL.of (sf _ _ gz)) ex ?_
    walk_at "w"
    refine ⟨_, _, 1, xt.getD P 0, rfl, NumQ.mk (q := 1) gf rfl, nx.same sf, szn_one, szx, hne', fun qr Hg sg nq => ?_⟩
    have sfg := sf.trans sg
    walk_at "w"
    refine ⟨_, qt, 1 / xt.getD P 0, xt, rfl, nq, szn_inv szx hne', Re.same sfg, by omega, szr xt mxt, fun ur Hh nur sh Rur => ?_⟩
    have Rur : RowQ K Hh ur (hdQ P xt) := Rur
    have seh := sfg.trans sh
    have s0h := s0e.trans seh
    have nur0 : H ur = none := (s0e.trans sfg).none nur
    walk_at "w"
    refine ⟨⟨_, SqL.of (seh _ _ gle)⟩, ?_⟩
    refine comp_mapL (K := K) (F := RowE K (fun q => H q = none /\ q ≠ lp)) (RowF K H) (lsQ P (hdQ P xt)) (seh _ _ gle) (Paired.imp' (fun _ _ z => RowE.same z seh) ple) (by rw [List.length_eraseIdx_of_lt tl]; omega) (fun a b => a.same b) (fun a b => a.same b) ?_ ?_
    ·rintro i ns x Hi NY NN en si ⟨q, rfl, nq0, Rq⟩ k1
     have mn : ns ∈ fs ++ ls := List.mem_append.mpr (.inr (List.mem_of_mem_eraseIdx (List.mem_of_getElem? en)))
     have wn := wide ns mn
     obtain ⟨zs2, gz2, qz2⟩ := id Rq
     obtain ⟨vx2, ex2, nx2⟩ := ixQ qz2 (j := P) (by omega)
     walk_at "w"
     refine rd_ixL (SqL.of gz2) ex2 ?_
     walk_at "w"
     refine ⟨_, ur, ns.getD P 0, hdQ P xt, rfl, nx2, szr ns mn _ (getD_in (by omega)), Rur.same si, by omega, szu, fun b1 Hj nb1 sj Rb => ?_⟩
     walk_at "w"
     refine ⟨q, b1, ns, _, rfl, Rq.same sj, Rb, by rw [List.length_map]; omega, by omega, szr ns mn, fun y hy => ?_, fun r2 Hk nr2 sk Rk => ?_⟩
     ·obtain ⟨y', hy', rfl⟩ := List.mem_map.mp hy
      exact szp ns mn y' hy'
     ·exact k1 _ _ (sj.trans sk) ⟨r2, rfl, s0h.none (si.none (sj.none nr2)), Rk⟩
    rintro yl Hk lp2 hlp2 sk gk prk nxk
    have s0k := s0h.trans sk
    have Gk : GridQ K H Hk lp2 ((ls.eraseIdx t).map (lsQ P (hdQ P xt))) := ⟨yl, gk, prk, notin nxk⟩
    have Ruk := Rur.same sk
    walk_at "w"
    refine ⟨⟨_, SqL.of (sk _ _ (seh _ _ gve))⟩, ?_⟩
    refine comp_mapL (K := K) (F := RowE K (fun q => (H q = none /\ q ≠ fp) /\ q ≠ lp)) (RowF K Hk) (lsQ P (hdQ P xt)) (sk _ _ (seh _ _ gve)) (Paired.imp' (fun _ _ z => RowE.same (RowE.same z seh) sk) pve) (by omega) (fun a b => a.same b) (fun a b => a.same b) ?_ ?_
    ·rintro i ns x Hi NY NN en si ⟨q, rfl, nq0, Rq⟩ k1
     have mn : ns ∈ fs ++ ls := List.mem_append.mpr (.inl (List.mem_of_getElem? en))
     have wn := wide ns mn
     obtain ⟨zs2, gz2, qz2⟩ := id Rq
     obtain ⟨vx2, ex2, nx2⟩ := ixQ qz2 (j := P) (by omega)
     walk_at "w"
     refine rd_ixL (SqL.of gz2) ex2 ?_
     walk_at "w"
     refine ⟨_, ur, ns.getD P 0, hdQ P xt, rfl, nx2, szr ns mn _ (getD_in (by omega)), Ruk.same si, by omega, szu, fun b1 Hj nb1 sj Rb => ?_⟩
     walk_at "w"
     refine ⟨q, b1, ns, _, rfl, Rq.same sj, Rb, by rw [List.length_map]; omega, by omega, szr ns mn, fun y hy => ?_, fun r2 Hl nr2 sl Rl => ?_⟩
     ·obtain ⟨y', hy', rfl⟩ := List.mem_map.mp hy
      exact szp ns mn y' hy'
     ·exact k1 _ _ (sj.trans sl) ⟨r2, rfl, si.none (sj.none nr2), Rl⟩
    rintro yf Hl fp2 hfp2 sl gl prl nxl
    have lyf := prl.length
    rw [List.length_map] at lyf
    have nfp2 : H fp2 = none := s0k.none hfp2
    have nlp2 : H lp2 = none := s0h.none hlp2
    have fl2 : fp2 ≠ lp2 := fun z => by rw [z, gk] at hfp2; cases hfp2
    have urk : Hk ur ≠ none := by obtain ⟨_, gg, _⟩ := Ruk; rw [gg]; exact fun z => nomatch z
    have urf : ur ≠ fp2 := fun z => urk (by rw [z]; exact hfp2)
    have url : ur ≠ lp2 := fun z => by obtain ⟨_, gg, _⟩ := Rur; rw [z, hlp2] at gg; cases gg
    walk_at "w"
    refine ⟨.inl ⟨rfl, _, SqL.of gl⟩, ?_⟩
    walk_at "w"
    refine rd_append gl (small1000 (by omega)) ?_
    refine ⟨(s0k.trans sl).after nfp2, lp2, fp2, _, _, ps ++ [P], _, _, _, _, rfl, nlp2, nfp2, fl2, ?_, upd_same, ?_, by rw [List.length_append, List.length_append, List.length_map]; show fs.length + 1 = ps.length + 1; omega, I2⟩
    ·obtain ⟨ul, gul, pul⟩ := Gk.toE
     refine GridQ.ofE (P := fun q => (H q = none /\ q ≠ lp2) /\ q ≠ fp2) (by rw [upd_ne (Ne.symm fl2)]; exact sl _ _ gul) (Paired.imp' (fun _ _ ⟨q, e1, e2, e3⟩ => ?_) pul) (fun q h => h.1.1) (fun q h => h.1.2)
     have qf : q ≠ fp2 := fun z => by obtain ⟨_, gg, _⟩ := e3; rw [z, hfp2] at gg; cases gg
     exact ⟨q, e1, ⟨e2, qf⟩, (RowQ.same e3 sl).updL gl qf⟩
    ·have nn := notin nxl
     refine paired_app (paired_impM (fun xs v hv ⟨q, e1, e2, e3⟩ => ?_) prl) (.cons ⟨ur, rfl, ⟨⟨nur0, urf⟩, url⟩, (Ruk.same sl).updL gl urf⟩ .nil)
     have qf : q ≠ fp2 := fun z => nn (by rw [<- z, <- e1]; exact hv)
     exact ⟨q, e1, ⟨⟨s0k.none e2, qf⟩, fun z => by rw [z, gk] at e2; cases e2⟩, RowQ.updL e3 gl qf⟩
  ·rintro σ' H' ⟨s', lp, fp, ls, fs, ps, vs, y1, y2, y3, rfl, nlp, nfp, fl, GL, gv, pv, hf, JI⟩
   have I := jlw _ _ _ JI
   have D := I.done hw
   rw [List.take_left' hf] at D
   obtain ⟨km, _⟩ := I.km
   walk_at "w"
   exact k fp fs ps H' nfp s' (GridQ.ofE gv pv (fun q h => h.1.1) (fun q h => h.1.2)) D km
theorem sc__law_dot : FnScope ["_law_one", "_law_other", "_law_total", "_law_k"] ["_law_one", "_law_other"] (defScope s__law_dot) := ⟨rfl, rfl, rfl, by decide +kernel, rfl, by decide +kernel, by decide +kernel⟩
theorem ok__law_dot (T : Txt K mg Z) : FnOk P w K mg base CX0 3 Z.a__law_dot Z.d__law_dot ["_law_one", "_law_other"] (sp_dotW K) := by
 have G__law_sum := ok__law_sum (P := P) (w := w) (base := base) T
 have G__law_prod := ok__law_prod (P := P) (w := w) (base := base) T
 refine T.F__law_dot.ok sc__law_dot (fun vs H Q E h => ?_) (fun cdv A outer s H vs Q E hr h => ?_)
 ·obtain ⟨p, q, xs, ys, rfl, hp, hq, hl, hz, ⟨k1, j1, k2, j2, h1, h2, hkj⟩, kk⟩ := h
  rfl
 ·obtain ⟨p, q, xs, ys, rfl, hp, hq, hl, hz, ⟨k1, j1, k2, j2, h1, h2, hkj⟩, kk⟩ := h
  refine ⟨_, (pss_cons (ps_set (i := 2) sc__law_dot.nd rfl (Or.inl rfl) (pe_tup (pa_cons pe_int (pa_cons pe_int pa_nil))))
   (pss_cons (ps_for PassesOwn.never rfl (pi_range1 rfl T.range (pa_cons (pe_callB call_len_seq (by rfl) T.len PySem.boot_len (pa_cons (pv 0) pa_nil)) pa_nil)) (pg_name (i := 3) sc__law_dot.nd rfl (Or.inl rfl) (Or.inl rfl))
    (pss_one (ps_set (i := 2) sc__law_dot.nd rfl (Or.inl rfl) (pe_call G__law_sum (hr.mono (by decide)) rfl T.mg__law_sum T.F__law_sum.kp T.b__law_sum .nil pass0 (pa_cons (pv 2) (pa_cons (pe_call G__law_prod (hr.mono (by decide)) rfl T.mg__law_prod T.F__law_prod.kp T.b__law_prod .nil pass0 (pa_cons (pe_ix ix_list (pv 0) (pv 3) (by intro _ _; rfl)) (pa_cons (pe_ix ix_list (pv 1) (pv 3) (by intro _ _; rfl)) pa_nil))) pa_nil))))))
   (pss_one (ps_ret (pv 2))))), ?_⟩
  refine rd_start (σ := [some (.ref p), some (.ref q), none, none]) rfl ?_
  obtain ⟨us, gu, qu⟩ := id hp
  obtain ⟨ws, gw, qw⟩ := id hq
  have lu := qu.length
  have lw := qw.length
  walk_at "w"
  refine rd_newT fun r0 H0 s0 g0 => ?_
  walk_at "w"
  refine ⟨_, _, rfl, .inl (SqL.of (s0 _ _ gu)), ?_⟩
  walk_at "w"
  refine ⟨by omega, by omega, ?_⟩
  refine for_rangeN (n := us.length) (fun i σ' H' => Same H H' /\ ∃ (r : V) (v : Option V), σ' = [some (.ref p), some (.ref q), some r, v] /\ NumQ K H' (dotQ (xs.take i) (ys.take i)) r) ⟨s0, _, none, rfl, NumQ.mk g0 rfl⟩ ?_ ?_
  ·rintro i σ' H' hi ⟨s, r, v, rfl, hr⟩
   have ix : i < xs.length := by omega
   have iy : i < ys.length := by omega
   obtain ⟨vx, ex, nx⟩ := ixQ (Paired.imp' (fun _ _ z => z.same s) qu) ix
   obtain ⟨vy, ey, ny⟩ := ixQ (Paired.imp' (fun _ _ z => z.same s) qw) iy
   walk_at "w"
   refine rd_ixL (SqL.of (s _ _ gu)) ex ?_
   walk_at "w"
   refine rd_ixL (SqL.of (s _ _ gw)) ey ?_
   walk_at "w"
   refine ⟨_, _, _, _, rfl, nx, ny, h1.szn (getD_mem ix) (by omega), h2.szn (getD_mem iy) (by omega), fun r3 H3 s3 n3 => ?_⟩
   walk_at "w"
   refine ⟨_, _, _, _, rfl, hr.same s3, n3, dot_sznW h1 h2 hz i hkj, mul_sznW (h1.one (getD_mem ix)) (h2.one (getD_mem iy)) hkj, fun r4 H4 s4 n4 => ?_⟩
   walk_at "w"
   exact ⟨(s.trans s3).trans s4, _, _, rfl, by rw [dotQ_snoc ix iy]; exact n4⟩
  ·rintro σ' H' ⟨s, r, v, rfl, hr⟩
   rw [List.take_of_length_le (by omega), List.take_of_length_le (by omega)] at hr
   obtain ⟨t, rfl, ht⟩ := hr
   walk_at "w"
   exact kk _ H' s ⟨t, rfl, ht⟩
theorem sc__law_on : FnScope ["_law_grid", "_law_row_here"] ["_law_grid", "_law_row_here"] (defScope s__law_on) := ⟨rfl, rfl, rfl, by decide +kernel, rfl, by decide +kernel, by decide +kernel⟩
theorem ok__law_on (T : Txt K mg Z) : FnOk P w K mg base CX0 4 Z.a__law_on Z.d__law_on ["_law_grid", "_law_row_here"] (sp_gonW K) := by
 have G__law_dot := ok__law_dot (P := P) (w := w) (base := base) T
 refine T.F__law_on.ok sc__law_on (fun vs H Q E h => ?_) (fun cdv A outer s H vs Q E hr h => ?_)
 ·obtain ⟨p, q, H0, rows, ys, rfl, hp, hq, hz, hl, hr1, kk⟩ := h
  rfl
 ·obtain ⟨p, q, H0, rows, ys, rfl, hp, hq, hz, hl, hr1, kk⟩ := h
  refine ⟨_, (pss_one (ps_ret (pe_comp ["_law_one"] ["_law_row_here"] [1] (pi_list (pv 0)) (fun _ => (pg_name (i := 0) (show List.Nodup (α := PySem.Str) ["_law_one", "_law_row_here"] by decide +kernel) rfl (Or.inl rfl) (Or.inl rfl))) (fun _ => pf_nil) (fun _ => (pe_call G__law_dot (hr.mono (by decide)) rfl T.mg__law_dot T.F__law_dot.kp T.b__law_dot .nil pass0 (pa_cons (pv 0) (pa_cons (pv 1) pa_nil))))))), ?_⟩
  refine rd_start (σ := [some (.ref p), some (.ref q)]) rfl ?_
  obtain ⟨xs, gx, qx, _⟩ := id hp
  walk_at "w"
  refine ⟨⟨_, SqL.of gx⟩, ?_⟩
  refine comp_mapL (K := K) (F := RowF K H0) (NumQ K) (fun xs => dotQ xs ys) gx qx hz (fun a b => a.same b) (fun a b => a.same b) ?_ ?_
  ·rintro i ns x H' NY NN en s ⟨u, rfl, _, hu⟩ k
   obtain ⟨e1, e2⟩ := hr1 ns (List.mem_of_getElem? en)
   walk_at "w"
   exact ⟨u, q, ns, ys, rfl, hu, hq.same s, e1.symm, by omega, e2, fun r H2 s2 h2' => k _ _ s2 h2'⟩
  ·rintro ys' H' r hr s g pr nx
   exact kk r H' hr s ⟨ys', g, pr⟩
theorem sc_law : FnScope ["_law_script", "_law_bag_here", "_law_parts_here", "_law_wide", "_law_n", "_law_system_here", "_law_stood", "_law_rows", "_law_steps", "_law_later"] ["_law_script"] (defScope s_law) := ⟨rfl, rfl, rfl, by decide +kernel, rfl, by decide +kernel, by decide +kernel⟩
theorem ok_law (T : Txt K mg Z) : FnOk P w K mg base CX0 9 Z.a_law Z.d_law ["_law_script"] (sp_law K) := by
 have G__law_bag := ok__law_bag (P := P) (w := w) (base := base) T
 have G__law_system := ok__law_system (P := P) (w := w) (base := base) T
 have G__law_made := ok__law_made (P := P) (w := w) (base := base) T
 have G_reach_rows := ok_reach_rows (P := P) (w := w) (base := base) T
 have G__law_lean := ok__law_lean (P := P) (w := w) (base := base) T
 have G__law_on := ok__law_on (P := P) (w := w) (base := base) T
 have G__law_take := ok__law_take (P := P) (w := w) (base := base) T
 refine T.F_law.ok sc_law (fun vs H Q E h => ?_) (fun cdv A outer s H vs Q E hr h => ?_)
 ·obtain ⟨a, ns, rfl, hS, hlen, k⟩ := h
  rfl
 ·obtain ⟨a, ns, rfl, hS, hlen, k⟩ := h
  refine ⟨_, (pss_cons (ps_set (i := 1) sc_law.nd rfl (Or.inl rfl) (pe_call G__law_bag (hr.mono (by decide)) rfl T.mg__law_bag T.F__law_bag.kp T.b__law_bag .nil pass0 (pa_cons (pv 0) pa_nil)))
   (pss_cons (ps_asg (pe_call G__law_system (hr.mono (by decide)) rfl T.mg__law_system T.F__law_system.kp T.b__law_system .nil pass0 (pa_cons (pv 1) pa_nil)) (pg_tup rfl (pgs_cons (pg_name (i := 2) sc_law.nd rfl (Or.inr rfl) (Or.inl rfl)) (pgs_cons (pg_name (i := 3) sc_law.nd rfl (Or.inl rfl) (Or.inl rfl)) pgs_nil))))
   (pss_cons (ps_set (i := 4) sc_law.nd rfl (Or.inl rfl) (pe_callB call_len_seq (by rfl) T.len PySem.boot_len (pa_cons (pe_ix (ix_tupK K (by rfl)) (pv 2) pe_int (by intro _ _; rfl)) pa_nil)))
   (pss_cons (ps_set (i := 5) sc_law.nd rfl (Or.inl rfl) (pe_call G__law_made (hr.mono (by decide)) rfl T.mg__law_made T.F__law_made.kp T.b__law_made .nil pass0 (pa_cons (pv 2) pa_nil)))
   (pss_cons (ps_set (i := 6) sc_law.nd rfl (Or.inl rfl) pe_bl)
   (pss_cons (ps_set (i := 7) sc_law.nd rfl (Or.inl rfl) (pe_call G_reach_rows (hr.mono (by decide)) rfl T.mg_reach_rows T.F_reach_rows.kp T.b_reach_rows .nil pass0 (pa_cons (pv 5) (pa_cons pe_int pa_nil))))
   (pss_cons (ps_if (pt_cmpR (op_neD (hu50 hr)) (pv 7) (pe_lst pa_nil) (nomark _)) (pss_one (ps_ret pe_bl)) pss_nil)
   (pss_cons (ps_for PassesOwn.never rfl (pi_range2 rfl T.range (pa_cons pe_int (pa_cons (pe_op op_add (pv 4) pe_int) pa_nil))) (pg_name (i := 8) sc_law.nd rfl (Or.inl rfl) (Or.inl rfl))
    (pss_cons (ps_set (i := 9) sc_law.nd rfl (Or.inl rfl) (pe_call G_reach_rows (hr.mono (by decide)) rfl T.mg_reach_rows T.F_reach_rows.kp T.b_reach_rows .nil pass0 (pa_cons (pv 5) (pa_cons (pv 8) pa_nil))))
   (pss_cons (ps_if (pt_cmpR (op_neD (hu50 hr)) (pv 9) (pe_call G__law_lean (hr.mono (by decide)) rfl T.mg__law_lean T.F__law_lean.kp T.b__law_lean .nil pass0 (pa_cons (pe_op op_cat (pe_ix ix_tup (pv 2) pe_int (by intro _ _; rfl)) (pe_comp ["_law_row_here"] ["_law_parts_here"] [2] (pi_list (pv 7)) (fun _ => (pg_name (i := 0) (show List.Nodup (α := PySem.Str) ["_law_row_here", "_law_parts_here"] by decide +kernel) rfl (Or.inl rfl) (Or.inl rfl))) (fun _ => pf_nil) (fun _ => (pe_call G__law_on (hr.mono (by decide)) rfl T.mg__law_on T.F__law_on.kp T.b__law_on .nil pass0 (pa_cons (pe_ix (ix_tupK K (by rfl)) (pv 1) pe_int (by intro _ _; rfl)) (pa_cons (pv 0) pa_nil)))))) (pa_cons (pv 4) pa_nil))) (nomark _)) (pss_one (ps_ret pe_bl)) pss_nil)
   (pss_cons (ps_if (PW.pt (pw_or (pt_cmpR (op_neD (hu50 hr)) (pe_call G__law_lean (hr.mono (by decide)) rfl T.mg__law_lean T.F__law_lean.kp T.b__law_lean .nil pass0 (pa_cons (pe_op op_cat (pv 7) (pv 9)) (pa_cons (pv 4) pa_nil))) (pv 9) (nomark _)) (pw_or1 (PW.pt (pw_and (pt_val (pv 6)) (pw_and1 (pt_cmpR (op_neD (hu50 hr)) (pv 9) (pv 7) (nomark _)))))))) (pss_one (ps_ret pe_bl)) pss_nil)
   (pss_cons (ps_set (i := 6) sc_law.nd rfl (Or.inl rfl) (pe_cmpR (op_eqD (hu50 hr)) (pv 9) (pv 7) (nomark _)))
   (pss_cons (ps_if (PW.pt (pw_and (pt_cmpR op_gt (pv 8) (pv 4) (nomark _)) (pw_and1 (pt_not (pt_val (pv 6)))))) (pss_one (ps_ret pe_bl)) pss_nil)
   (pss_one (ps_set (i := 7) sc_law.nd rfl (Or.inl rfl) (pv 9)))))))))
   (pss_one (ps_ret (pe_cmpR (op_eqD (hu50 hr)) (pe_call G_reach_rows (hr.mono (by decide)) rfl T.mg_reach_rows T.F_reach_rows.kp T.b_reach_rows .nil pass0 (pa_cons (pv 5) (pa_cons (pe_callB (call_min2 rfl) (by rfl) T.min PyProof.Rows.boot_min (pa_cons pe_int (pa_cons (pe_op op_add (pe_op op_add (pv 4) pe_int) (pe_call G__law_take (hr.mono (by decide)) rfl T.mg__law_take T.F__law_take.kp T.b__law_take .nil pass0 (pa_cons (pv 1) (pa_cons pe_int pa_nil)))) pa_nil))) pa_nil))) (pv 7) (nomark _)))))))))))), ?_⟩
  refine rd_start (σ := [some (.ref a), none, none, none, none, none, none, none, none, none]) rfl ?_
  walk_at "w"
  refine ⟨a, ns, rfl, hS, hlen, fun b H0 hb0 B0 s0 => ?_⟩
  walk_at "w"
  refine ⟨b, rfl, B0, fun t r w a' c mv pt lk H1 g1 P1 D F KF K2 l1 w1 B1 u1 => ?_⟩
  have d8 := D.n8
  have d4 := D.i4
  obtain ⟨m, p, l, gt, mn, pn, ln, Gm, Gp, Gl⟩ := id P1
  obtain ⟨um, gm, qm, _⟩ := id Gm
  have lum := qm.length
  walk_at "w"
  refine ⟨_, _, rfl, .inl (SqL.of gm), ?_⟩
  rw [<- lum]
  walk_at "w"
  refine ⟨r, H0, mv, pt, lk, rfl, P1, D, F, fun x H2 nx s2 S2 => ?_⟩
  walk_at "w"
  refine ⟨x, a', c, 0, H1, mv, pt, lk, rfl, by decide, S2, D, KF, fun q R0 ps0 H3 nq s3 G3 RR0 => ?_⟩
  obtain ⟨rfl, rfl⟩ := RR0.same (R' := []) (ps' := []) rr_nil
  walk_at "w"
  refine rd_newL fun em H4 s4 n4 g4 => ?_
  walk_at "w"
  refine ⟨_, _, kGridQ, [], [], by decide, (G3.same s4).kind, ⟨em, [], rfl, SqL.of g4, .nil⟩, ?_⟩
  rw [decide_eq_true rfl]
  have s14 := (s2.trans s3).trans s4
  have w2 : ∀ q, H2 q = none -> H1 q = none := fun q h => s2.none h
  have S4 := (S2.same s3).same s4
  have G4 := (G3.same s4).weakN w2
  have gt4 := s14 _ _ gt
  have Gm4 := Gm.same s14
  have Gp4 := Gp.same s14
  walk_at "w"
  refine ⟨⟨by omega, by omega, by omega, by omega⟩, ?_⟩
  rw [show ((mv.length : Int) + 3 - 1).toNat = mv.length + 2 by omega]
  refine for_range (lo := 1) (n := mv.length + 2) (fun i σ' H' => Same H4 H' /\ ∃ y1 y2 q R ps st, σ' = [some (.ref a), some (.ref b), some (.ref r), some (.int w), some (.int mv.length), some (.ref x), some (.bl st), some (.ref q), y1, y2] /\ H1 q = none /\ GridQ K H1 H' q R /\ Gd mv pt i R ps /\ (st = true -> ∀ s, RrefL (kry mv pt (i + s)) mv.length R ps)) ⟨Same.refl _, _, _, q, [], [], false, rfl, w2 _ nq, G4, Gd.start, (fun z => nomatch z)⟩ ?_ ?_
  ·rintro i σ' H' hi ⟨s', y1, y2, q, R, ps, st, rfl, hq1, G, GD, hst⟩
   obtain ⟨RRi, t', t1, t2, RRt, _⟩ := id GD
   have lps := RRi.le
   have lR := RRi.1
   walk_at "w"
   rw [show (1 : Int) + (i : Int) = ((i + 1 : Nat) : Int) by omega]
   refine ⟨x, a', c, i + 1, H1, mv, pt, lk, rfl, by omega, S4.same s', D, KF, fun q' R' ps' Ha nq' sa Ga RR' => ?_⟩
   obtain ⟨GD', hlast⟩ := GD.step D.mw D.pw RR'
   obtain ⟨_, t2', t1', _, RRt', _⟩ := id GD'
   have lps' := RR'.le
   have lR' := RR'.1
   have s4a := s'.trans sa
   have s1a := s14.trans s4a
   have Gaw := Ga.weakN (H1 := H1) fun q h => s14.none (s'.none h)
   have gta := s4a _ _ gt4
   obtain ⟨us, gu, qu, _⟩ := id (G.same sa)
   have Gma := Gm4.same s4a
   obtain ⟨up, gp, qp, _⟩ := id (Gp4.same s4a)
   have lup := qp.length
   have lus := qu.length
   walk_at "w"
   refine ⟨⟨_, SqL.of gu⟩, ?_⟩
   refine comp_mapL (K := K) (F := RowF K H1) (RowF K H1) (onQ mv) gu qu (by omega) (fun a b => a.same b) (fun a b => a.same b) ?_ ?_
   ·rintro j ns v Hi NY NN en si ⟨u, rfl, _, hu⟩ k1
    have mn := List.mem_of_getElem? en
    have wn := RRi.2.1 ns mn
    have gti := si _ _ gta
    walk_at "w"
    exact ⟨m, u, H0, mv, ns, rfl, Gma.same si, hu, by omega, by omega, fun xs hx => ⟨by rw [D.mw xs hx, wn], KF.fit d8 D.mw D.pw (by omega) RRt xs hx ns mn⟩, fun z Hj nz sj Rz => k1 _ _ sj ⟨z, rfl, s1a.none (si.none nz), Rz⟩⟩
   rintro ys Hb cl hcl sb gcl prl _
   have lys := prl.length
   rw [List.length_map] at lys
   walk_at "w"
   refine rd_cat (sb _ _ gp) gcl (Nat.le_of_lt (small1000 (by omega))) fun cc Hc sc nc gc => ?_
   have qpb : Paired (RowF K H0 Hb) pt up := Paired.imp' (fun _ _ z => RowF.same z sb) qp
   have prb : Paired (RowF K H0 Hb) (R.map (onQ mv)) ys := Paired.imp' (fun _ _ ⟨q, a, b, c⟩ => ⟨q, a, u1.none B1 b, c⟩) prl
   have Gc : GridQ K H0 Hc cc (pt ++ R.map (onQ mv)) := ⟨_, gc, Paired.imp' (fun _ _ z => RowF.same z sc) (paired_app qpb prb), notin ⟨Hb, nc, paired_app qpb prb⟩⟩
   obtain ⟨S, LS⟩ := KF.lws d8 D.mw D.pw t1 RRt
   have sac := sb.trans sc
   walk_at "w"
   refine ⟨cc, mv.length, S, H0, _, rfl, Gc, by rw [List.length_append, List.length_map]; omega, by omega, fun xs hx => ?_, LS, fun l1 RM pl Hd nl sd Gl1 RL _ => ?_⟩
   ·rcases List.mem_append.mp hx with hx | hx
    ·exact D.pw xs hx
    ·obtain ⟨y, _, rfl⟩ := List.mem_map.mp hx
     exact on_len
   obtain ⟨rfl, rfl⟩ := RL.same (kry_back rfl D.mw D.pw RRi RR')
   have sad := sac.trans sd
   walk_at "w"
   refine ⟨_, _, kGridQ, RM, RM, by decide, (Ga.same sad).kind, Gl1.kind, ?_⟩
   rw [decide_eq_true rfl]
   obtain ⟨ua, gua, qa, _⟩ := id (Gaw.same sad)
   have lua := qa.length
   have qud : Paired (RowF K H1 Hd) R us := Paired.imp' (fun _ _ z => RowF.same z sad) qu
   walk_at "w"
   refine rd_cat (sad _ _ gu) gua (Nat.le_of_lt (small1000 (by omega))) fun ce He se ne ge => ?_
   have Ge : GridQ K H1 He ce (R ++ RM) := ⟨_, ge, Paired.imp' (fun _ _ z => RowF.same z se) (paired_app qud qa), notin ⟨Hd, ne, paired_app qud qa⟩⟩
   obtain ⟨S2', LS2⟩ := KF.lws2 K2 d8 D.mw D.pw t1 RRt t1' RRt'
   walk_at "w"
   refine ⟨ce, mv.length, S2', H1, _, rfl, Ge, by rw [List.length_append]; omega, by omega, fun xs hx => ?_, LS2, fun l2 RN pl2 Hf nl2 sf Gl2 RL2 _ => ?_⟩
   ·rcases List.mem_append.mp hx with hx | hx
    ·exact RRi.2.1 xs hx
    ·exact RR'.2.1 xs hx
   obtain ⟨rfl, rfl⟩ := RL2.same (rr_app RRi RR' (kry_within rfl D.mw D.pw RRi RR'))
   have saf := (sad.trans se).trans sf
   have Gaf := Gaw.same saf
   have Guf := (G.same sa).same saf
   walk_at "w"
   refine ⟨_, _, kGridQ, RN, RN, by decide, Gl2.kind, Gaf.kind, ?_⟩
   rw [decide_eq_true rfl]
   walk_at "w"
   have fin : ∀ st, (st = true -> RN = R) -> Same H4 Hf /\ ∃ z1 z2 q0 R0 ps0 st0, ([some (.ref a), some (.ref b), some (.ref r), some (.int w), some (.int mv.length), some (.ref x), some (.bl st), some (.ref q'), some (.int ((i + 1 : Nat) : Int)), some (.ref q')] : List (Option V)) = [some (.ref a), some (.ref b), some (.ref r), some (.int w), some (.int mv.length), some (.ref x), some (.bl st0), some (.ref q0), z1, z2] /\ H1 q0 = none /\ GridQ K H1 Hf q0 R0 /\ Gd mv pt (i + 1) R0 ps0 /\ (st0 = true -> ∀ s, RrefL (kry mv pt (i + 1 + s)) mv.length R0 ps0) := fun st hs => ⟨s4a.trans saf, _, _, q', RN, _, st, rfl, s14.none (s'.none nq'), Gaf, GD', fun hd s => by
    have e := hs hd
    have ll := congrArg List.length e
    have ss := rr_stand D.mw D.pw RRi RR' (by omega)
    have s1 := ss 1
    obtain ⟨e1, e2⟩ := s1.same RR'
    have := ss (1 + s)
    rw [e1, e2, <- Nat.add_assoc] at this
    exact this⟩
   cases st with
   | true =>
    have eR : RN = R := by
     have := hst rfl 1
     exact (RR'.same this).1
    rw [if_pos rfl]
    walk_at "w"
    refine ⟨_, _, kGridQ, RN, R, by decide, Gaf.kind, Guf.kind, ?_⟩
    rw [decide_eq_true eR]
    walk_at "w"
    refine ⟨_, _, kGridQ, RN, R, by decide, Gaf.kind, Guf.kind, ?_⟩
    walk_at "w"
    refine ite2 (fun h => ?_) (fun h => ?_)
    ·have eR : RN = R := hlast (by have := of_decide_eq_true h; omega)
     rw [decide_eq_true eR]
     walk_at "w"
     exact fin true (fun _ => eR)
    ·walk_at "w"
     exact fin _ (fun z => of_decide_eq_true z)
    
   | false =>
    rw [if_neg (by decide)]
    walk_at "w"
    refine ⟨_, _, kGridQ, RN, R, by decide, Gaf.kind, Guf.kind, ?_⟩
    walk_at "w"
    refine ite2 (fun h => ?_) (fun h => ?_)
    ·have eR : RN = R := hlast (by have := of_decide_eq_true h; omega)
     rw [decide_eq_true eR]
     walk_at "w"
     exact fin true (fun _ => eR)
    ·walk_at "w"
     exact fin _ (fun z => of_decide_eq_true z)
    
  ·rintro σ' H' ⟨s', y1, y2, q, R, ps, st, rfl, hq1, G, GD, hst⟩
   walk_at "w"
   have B' := (B1.same s14).same s'
   refine ⟨b, 4, rfl, B', by decide, by decide, fun v Ha v0 v1 Ba ua => ?_⟩
   obtain ⟨v, rfl⟩ := Int.eq_ofNat_of_zero_le v0
   walk_at "w"
   rw [show (if (mv.length : Int) + 2 + (v : Int) < 12 then (mv.length : Int) + 2 + (v : Int) else 12) = ((min 12 (mv.length + 2 + v) : Nat) : Int) by split <;> omega]
   have nb : H1 b ≠ none := B1.at
   refine ⟨x, a', c, min 12 (mv.length + 2 + v), H1, mv, pt, lk, rfl, by omega, (S4.same s').upto ua B' nb, D, KF, fun q' R' ps' Hb nq' sb Gb RR' => ?_⟩
   obtain ⟨rfl, rfl⟩ := RR'.same (GD.late (by omega) (by omega))
   have G' := (G.upto ua B' (fun z => nb (by rw [<- z]; exact hq1)) nb).same sb
   walk_at "w"
   refine ⟨_, _, kGridQ, R', R', by decide, Gb.kind, G'.kind, ?_⟩
   rw [decide_eq_true rfl]
   walk_at "w"
   exact k _
end
theorem all_mk {l : PySem.W.OpenLaw} {w : World} {K : PySem.W.Frag} {h : Heap} {mg : Str -> Option Value} {fa : Addr} (X : K.In h) (G : h.Ns mainGlobals mg) (hfa : mg "law" = some (.ref fa))
  {C : Addr} (aC : PySem.W.nsIn K mainGlobals "System" = some (some (.ref C)))
  {f0 : Addr} {od0 an0 : Option Addr} {sl0 : Array (Option Value)} {oc0 kV0 dc0 pm0 cd0 ct0 : Value}
  (a0 : PySem.W.nsIn K mainGlobals "_law_bag" = some (some (.ref f0))) (l0 : K.lookup f0 = some ⟨oc0, od0, .func (PySem.W.fnOf "_law_bag" "_law_bag" (defArgs s__law_bag) (defBody s__law_bag) (defScope s__law_bag) .none kV0 dc0 pm0 an0 cd0 ct0), sl0⟩) (c0 : PySem.W.codeIn K cd0 "_law_bag" = true) (k0 : PySem.W.keepIn K (.ref f0) = true)
  {f1 : Addr} {od1 an1 : Option Addr} {sl1 : Array (Option Value)} {oc1 kV1 dc1 pm1 cd1 ct1 : Value}
  (a1 : PySem.W.nsIn K mainGlobals "_law_take" = some (some (.ref f1))) (l1 : K.lookup f1 = some ⟨oc1, od1, .func (PySem.W.fnOf "_law_take" "_law_take" (defArgs s__law_take) (defBody s__law_take) (defScope s__law_take) .none kV1 dc1 pm1 an1 cd1 ct1), sl1⟩) (c1 : PySem.W.codeIn K cd1 "_law_take" = true) (k1 : PySem.W.keepIn K (.ref f1) = true)
  {f2 : Addr} {od2 an2 : Option Addr} {sl2 : Array (Option Value)} {oc2 kV2 dc2 pm2 cd2 ct2 : Value}
  (a2 : PySem.W.nsIn K mainGlobals "_law_sizes" = some (some (.ref f2))) (l2 : K.lookup f2 = some ⟨oc2, od2, .func (PySem.W.fnOf "_law_sizes" "_law_sizes" (defArgs s__law_sizes) (defBody s__law_sizes) (defScope s__law_sizes) .none kV2 dc2 pm2 an2 cd2 ct2), sl2⟩) (c2 : PySem.W.codeIn K cd2 "_law_sizes" = true) (k2 : PySem.W.keepIn K (.ref f2) = true)
  {f3 : Addr} {od3 an3 : Option Addr} {sl3 : Array (Option Value)} {oc3 kV3 dc3 pm3 cd3 ct3 : Value}
  (a3 : PySem.W.nsIn K mainGlobals "_law_line" = some (some (.ref f3))) (l3 : K.lookup f3 = some ⟨oc3, od3, .func (PySem.W.fnOf "_law_line" "_law_line" (defArgs s__law_line) (defBody s__law_line) (defScope s__law_line) .none kV3 dc3 pm3 an3 cd3 ct3), sl3⟩) (c3 : PySem.W.codeIn K cd3 "_law_line" = true) (k3 : PySem.W.keepIn K (.ref f3) = true)
  {f4 : Addr} {od4 an4 : Option Addr} {sl4 : Array (Option Value)} {oc4 kV4 dc4 pm4 cd4 ct4 : Value}
  (a4 : PySem.W.nsIn K mainGlobals "_law_low" = some (some (.ref f4))) (l4 : K.lookup f4 = some ⟨oc4, od4, .func (PySem.W.fnOf "_law_low" "_law_low" (defArgs s__law_low) (defBody s__law_low) (defScope s__law_low) .none kV4 dc4 pm4 an4 cd4 ct4), sl4⟩) (c4 : PySem.W.codeIn K cd4 "_law_low" = true) (k4 : PySem.W.keepIn K (.ref f4) = true)
  {f5 : Addr} {od5 an5 : Option Addr} {sl5 : Array (Option Value)} {oc5 kV5 dc5 pm5 cd5 ct5 : Value}
  (a5 : PySem.W.nsIn K mainGlobals "_law_sum" = some (some (.ref f5))) (l5 : K.lookup f5 = some ⟨oc5, od5, .func (PySem.W.fnOf "_law_sum" "_law_sum" (defArgs s__law_sum) (defBody s__law_sum) (defScope s__law_sum) .none kV5 dc5 pm5 an5 cd5 ct5), sl5⟩) (c5 : PySem.W.codeIn K cd5 "_law_sum" = true) (k5 : PySem.W.keepIn K (.ref f5) = true)
  {f6 : Addr} {od6 an6 : Option Addr} {sl6 : Array (Option Value)} {oc6 kV6 dc6 pm6 cd6 ct6 : Value}
  (a6 : PySem.W.nsIn K mainGlobals "_law_plus" = some (some (.ref f6))) (l6 : K.lookup f6 = some ⟨oc6, od6, .func (PySem.W.fnOf "_law_plus" "_law_plus" (defArgs s__law_plus) (defBody s__law_plus) (defScope s__law_plus) .none kV6 dc6 pm6 an6 cd6 ct6), sl6⟩) (c6 : PySem.W.codeIn K cd6 "_law_plus" = true) (k6 : PySem.W.keepIn K (.ref f6) = true)
  {f7 : Addr} {od7 an7 : Option Addr} {sl7 : Array (Option Value)} {oc7 kV7 dc7 pm7 cd7 ct7 : Value}
  (a7 : PySem.W.nsIn K mainGlobals "_law_prod" = some (some (.ref f7))) (l7 : K.lookup f7 = some ⟨oc7, od7, .func (PySem.W.fnOf "_law_prod" "_law_prod" (defArgs s__law_prod) (defBody s__law_prod) (defScope s__law_prod) .none kV7 dc7 pm7 an7 cd7 ct7), sl7⟩) (c7 : PySem.W.codeIn K cd7 "_law_prod" = true) (k7 : PySem.W.keepIn K (.ref f7) = true)
  {f8 : Addr} {od8 an8 : Option Addr} {sl8 : Array (Option Value)} {oc8 kV8 dc8 pm8 cd8 ct8 : Value}
  (a8 : PySem.W.nsIn K mainGlobals "_law_by" = some (some (.ref f8))) (l8 : K.lookup f8 = some ⟨oc8, od8, .func (PySem.W.fnOf "_law_by" "_law_by" (defArgs s__law_by) (defBody s__law_by) (defScope s__law_by) .none kV8 dc8 pm8 an8 cd8 ct8), sl8⟩) (c8 : PySem.W.codeIn K cd8 "_law_by" = true) (k8 : PySem.W.keepIn K (.ref f8) = true)
  {f9 : Addr} {od9 an9 : Option Addr} {sl9 : Array (Option Value)} {oc9 kV9 dc9 pm9 cd9 ct9 : Value}
  (a9 : PySem.W.nsIn K mainGlobals "_law_mixed" = some (some (.ref f9))) (l9 : K.lookup f9 = some ⟨oc9, od9, .func (PySem.W.fnOf "_law_mixed" "_law_mixed" (defArgs s__law_mixed) (defBody s__law_mixed) (defScope s__law_mixed) .none kV9 dc9 pm9 an9 cd9 ct9), sl9⟩) (c9 : PySem.W.codeIn K cd9 "_law_mixed" = true) (k9 : PySem.W.keepIn K (.ref f9) = true)
  {f10 : Addr} {od10 an10 : Option Addr} {sl10 : Array (Option Value)} {oc10 kV10 dc10 pm10 cd10 ct10 : Value}
  (a10 : PySem.W.nsIn K mainGlobals "_law_two_lines" = some (some (.ref f10))) (l10 : K.lookup f10 = some ⟨oc10, od10, .func (PySem.W.fnOf "_law_two_lines" "_law_two_lines" (defArgs s__law_two_lines) (defBody s__law_two_lines) (defScope s__law_two_lines) .none kV10 dc10 pm10 an10 cd10 ct10), sl10⟩) (c10 : PySem.W.codeIn K cd10 "_law_two_lines" = true) (k10 : PySem.W.keepIn K (.ref f10) = true)
  {f11 : Addr} {od11 an11 : Option Addr} {sl11 : Array (Option Value)} {oc11 kV11 dc11 pm11 cd11 ct11 : Value}
  (a11 : PySem.W.nsIn K mainGlobals "_law_number" = some (some (.ref f11))) (l11 : K.lookup f11 = some ⟨oc11, od11, .func (PySem.W.fnOf "_law_number" "_law_number" (defArgs s__law_number) (defBody s__law_number) (defScope s__law_number) .none kV11 dc11 pm11 an11 cd11 ct11), sl11⟩) (c11 : PySem.W.codeIn K cd11 "_law_number" = true) (k11 : PySem.W.keepIn K (.ref f11) = true)
  {f12 : Addr} {od12 an12 : Option Addr} {sl12 : Array (Option Value)} {oc12 kV12 dc12 pm12 cd12 ct12 : Value}
  (a12 : PySem.W.nsIn K mainGlobals "_law_row" = some (some (.ref f12))) (l12 : K.lookup f12 = some ⟨oc12, od12, .func (PySem.W.fnOf "_law_row" "_law_row" (defArgs s__law_row) (defBody s__law_row) (defScope s__law_row) .none kV12 dc12 pm12 an12 cd12 ct12), sl12⟩) (c12 : PySem.W.codeIn K cd12 "_law_row" = true) (k12 : PySem.W.keepIn K (.ref f12) = true)
  {f13 : Addr} {od13 an13 : Option Addr} {sl13 : Array (Option Value)} {oc13 kV13 dc13 pm13 cd13 ct13 : Value}
  (a13 : PySem.W.nsIn K mainGlobals "_law_move" = some (some (.ref f13))) (l13 : K.lookup f13 = some ⟨oc13, od13, .func (PySem.W.fnOf "_law_move" "_law_move" (defArgs s__law_move) (defBody s__law_move) (defScope s__law_move) .none kV13 dc13 pm13 an13 cd13 ct13), sl13⟩) (c13 : PySem.W.codeIn K cd13 "_law_move" = true) (k13 : PySem.W.keepIn K (.ref f13) = true)
  {f14 : Addr} {od14 an14 : Option Addr} {sl14 : Array (Option Value)} {oc14 kV14 dc14 pm14 cd14 ct14 : Value}
  (a14 : PySem.W.nsIn K mainGlobals "_law_parts" = some (some (.ref f14))) (l14 : K.lookup f14 = some ⟨oc14, od14, .func (PySem.W.fnOf "_law_parts" "_law_parts" (defArgs s__law_parts) (defBody s__law_parts) (defScope s__law_parts) .none kV14 dc14 pm14 an14 cd14 ct14), sl14⟩) (c14 : PySem.W.codeIn K cd14 "_law_parts" = true) (k14 : PySem.W.keepIn K (.ref f14) = true)
  {f15 : Addr} {od15 an15 : Option Addr} {sl15 : Array (Option Value)} {oc15 kV15 dc15 pm15 cd15 ct15 : Value}
  (a15 : PySem.W.nsIn K mainGlobals "_law_system" = some (some (.ref f15))) (l15 : K.lookup f15 = some ⟨oc15, od15, .func (PySem.W.fnOf "_law_system" "_law_system" (defArgs s__law_system) (defBody s__law_system) (defScope s__law_system) .none kV15 dc15 pm15 an15 cd15 ct15), sl15⟩) (c15 : PySem.W.codeIn K cd15 "_law_system" = true) (k15 : PySem.W.keepIn K (.ref f15) = true)
  {f16 : Addr} {od16 an16 : Option Addr} {sl16 : Array (Option Value)} {oc16 kV16 dc16 pm16 cd16 ct16 : Value}
  (a16 : PySem.W.nsIn K mainGlobals "want_list" = some (some (.ref f16))) (l16 : K.lookup f16 = some ⟨oc16, od16, .func (PySem.W.fnOf "want_list" "want_list" (defArgs s_want_list) (defBody s_want_list) (defScope s_want_list) .none kV16 dc16 pm16 an16 cd16 ct16), sl16⟩) (c16 : PySem.W.codeIn K cd16 "want_list" = true) (k16 : PySem.W.keepIn K (.ref f16) = true)
  {f17 : Addr} {od17 an17 : Option Addr} {sl17 : Array (Option Value)} {oc17 kV17 dc17 pm17 cd17 ct17 : Value}
  (a17 : PySem.W.nsIn K mainGlobals "is_whole" = some (some (.ref f17))) (l17 : K.lookup f17 = some ⟨oc17, od17, .func (PySem.W.fnOf "is_whole" "is_whole" (defArgs s_is_whole) (defBody s_is_whole) (defScope s_is_whole) .none kV17 dc17 pm17 an17 cd17 ct17), sl17⟩) (c17 : PySem.W.codeIn K cd17 "is_whole" = true) (k17 : PySem.W.keepIn K (.ref f17) = true)
  {f18 : Addr} {od18 an18 : Option Addr} {sl18 : Array (Option Value)} {oc18 kV18 dc18 pm18 cd18 ct18 : Value}
  (a18 : PySem.W.nsIn K mainGlobals "common_divisor" = some (some (.ref f18))) (l18 : K.lookup f18 = some ⟨oc18, od18, .func (PySem.W.fnOf "common_divisor" "common_divisor" (defArgs s_common_divisor) (defBody s_common_divisor) (defScope s_common_divisor) .none kV18 dc18 pm18 an18 cd18 ct18), sl18⟩) (c18 : PySem.W.codeIn K cd18 "common_divisor" = true) (k18 : PySem.W.keepIn K (.ref f18) = true)
  {f19 : Addr} {od19 an19 : Option Addr} {sl19 : Array (Option Value)} {oc19 kV19 dc19 pm19 cd19 ct19 : Value}
  (a19 : PySem.W.nsIn K mainGlobals "is_number" = some (some (.ref f19))) (l19 : K.lookup f19 = some ⟨oc19, od19, .func (PySem.W.fnOf "is_number" "is_number" (defArgs s_is_number) (defBody s_is_number) (defScope s_is_number) .none kV19 dc19 pm19 an19 cd19 ct19), sl19⟩) (c19 : PySem.W.codeIn K cd19 "is_number" = true) (k19 : PySem.W.keepIn K (.ref f19) = true)
  {f20 : Addr} {od20 an20 : Option Addr} {sl20 : Array (Option Value)} {oc20 kV20 dc20 pm20 cd20 ct20 : Value}
  (a20 : PySem.W.nsIn K mainGlobals "is_row" = some (some (.ref f20))) (l20 : K.lookup f20 = some ⟨oc20, od20, .func (PySem.W.fnOf "is_row" "is_row" (defArgs s_is_row) (defBody s_is_row) (defScope s_is_row) .none kV20 dc20 pm20 an20 cd20 ct20), sl20⟩) (c20 : PySem.W.codeIn K cd20 "is_row" = true) (k20 : PySem.W.keepIn K (.ref f20) = true)
  {f21 : Addr} {od21 an21 : Option Addr} {sl21 : Array (Option Value)} {oc21 kV21 dc21 pm21 cd21 ct21 : Value}
  (a21 : PySem.W.nsIn K mainGlobals "copied_rows" = some (some (.ref f21))) (l21 : K.lookup f21 = some ⟨oc21, od21, .func (PySem.W.fnOf "copied_rows" "copied_rows" (defArgs s_copied_rows) (defBody s_copied_rows) (defScope s_copied_rows) .none kV21 dc21 pm21 an21 cd21 ct21), sl21⟩) (c21 : PySem.W.codeIn K cd21 "copied_rows" = true) (k21 : PySem.W.keepIn K (.ref f21) = true)
  {f22 : Addr} {od22 an22 : Option Addr} {sl22 : Array (Option Value)} {oc22 kV22 dc22 pm22 cd22 ct22 : Value}
  (a22 : PySem.W.findIn K (.ref C) "__init__" = some (some (.ref f22))) (i22 : PySem.W.isFn K (.ref f22) = true) (l22 : K.lookup f22 = some ⟨oc22, od22, .func (PySem.W.fnOf "__init__" "System.__init__" (defArgs s_System___init__) (defBody s_System___init__) (defScope s_System___init__) .none kV22 dc22 pm22 an22 cd22 ct22), sl22⟩) (c22 : PySem.W.codeIn K cd22 "System.__init__" = true) (k22 : PySem.W.keepIn K (.ref f22) = true)
  {f23 : Addr} {od23 an23 : Option Addr} {sl23 : Array (Option Value)} {oc23 kV23 dc23 pm23 cd23 ct23 : Value}
  (a23 : PySem.W.nsIn K mainGlobals "_law_copied" = some (some (.ref f23))) (l23 : K.lookup f23 = some ⟨oc23, od23, .func (PySem.W.fnOf "_law_copied" "_law_copied" (defArgs s__law_copied) (defBody s__law_copied) (defScope s__law_copied) .none kV23 dc23 pm23 an23 cd23 ct23), sl23⟩) (c23 : PySem.W.codeIn K cd23 "_law_copied" = true) (k23 : PySem.W.keepIn K (.ref f23) = true)
  {f24 : Addr} {od24 an24 : Option Addr} {sl24 : Array (Option Value)} {oc24 kV24 dc24 pm24 cd24 ct24 : Value}
  (a24 : PySem.W.nsIn K mainGlobals "_law_made" = some (some (.ref f24))) (l24 : K.lookup f24 = some ⟨oc24, od24, .func (PySem.W.fnOf "_law_made" "_law_made" (defArgs s__law_made) (defBody s__law_made) (defScope s__law_made) .none kV24 dc24 pm24 an24 cd24 ct24), sl24⟩) (c24 : PySem.W.codeIn K cd24 "_law_made" = true) (k24 : PySem.W.keepIn K (.ref f24) = true)
  {f25 : Addr} {od25 an25 : Option Addr} {sl25 : Array (Option Value)} {oc25 kV25 dc25 pm25 cd25 ct25 : Value}
  (a25 : PySem.W.nsIn K mainGlobals "tops_over" = some (some (.ref f25))) (l25 : K.lookup f25 = some ⟨oc25, od25, .func (PySem.W.fnOf "tops_over" "tops_over" (defArgs s_tops_over) (defBody s_tops_over) (defScope s_tops_over) .none kV25 dc25 pm25 an25 cd25 ct25), sl25⟩) (c25 : PySem.W.codeIn K cd25 "tops_over" = true) (k25 : PySem.W.keepIn K (.ref f25) = true)
  {f26 : Addr} {od26 an26 : Option Addr} {sl26 : Array (Option Value)} {oc26 kV26 dc26 pm26 cd26 ct26 : Value}
  (a26 : PySem.W.nsIn K mainGlobals "common_multiple" = some (some (.ref f26))) (l26 : K.lookup f26 = some ⟨oc26, od26, .func (PySem.W.fnOf "common_multiple" "common_multiple" (defArgs s_common_multiple) (defBody s_common_multiple) (defScope s_common_multiple) .none kV26 dc26 pm26 an26 cd26 ct26), sl26⟩) (c26 : PySem.W.codeIn K cd26 "common_multiple" = true) (k26 : PySem.W.keepIn K (.ref f26) = true)
  {f27 : Addr} {od27 an27 : Option Addr} {sl27 : Array (Option Value)} {oc27 kV27 dc27 pm27 cd27 ct27 : Value}
  (a27 : PySem.W.nsIn K mainGlobals "common_bottom" = some (some (.ref f27))) (l27 : K.lookup f27 = some ⟨oc27, od27, .func (PySem.W.fnOf "common_bottom" "common_bottom" (defArgs s_common_bottom) (defBody s_common_bottom) (defScope s_common_bottom) .none kV27 dc27 pm27 an27 cd27 ct27), sl27⟩) (c27 : PySem.W.codeIn K cd27 "common_bottom" = true) (k27 : PySem.W.keepIn K (.ref f27) = true)
  {f28 : Addr} {od28 an28 : Option Addr} {sl28 : Array (Option Value)} {oc28 kV28 dc28 pm28 cd28 ct28 : Value}
  (a28 : PySem.W.nsIn K mainGlobals "first_with" = some (some (.ref f28))) (l28 : K.lookup f28 = some ⟨oc28, od28, .func (PySem.W.fnOf "first_with" "first_with" (defArgs s_first_with) (defBody s_first_with) (defScope s_first_with) .none kV28 dc28 pm28 an28 cd28 ct28), sl28⟩) (c28 : PySem.W.codeIn K cd28 "first_with" = true) (k28 : PySem.W.keepIn K (.ref f28) = true)
  {f29 : Addr} {od29 an29 : Option Addr} {sl29 : Array (Option Value)} {oc29 kV29 dc29 pm29 cd29 ct29 : Value}
  (a29 : PySem.W.nsIn K mainGlobals "cleared" = some (some (.ref f29))) (l29 : K.lookup f29 = some ⟨oc29, od29, .func (PySem.W.fnOf "cleared" "cleared" (defArgs s_cleared) (defBody s_cleared) (defScope s_cleared) .none kV29 dc29 pm29 an29 cd29 ct29), sl29⟩) (c29 : PySem.W.codeIn K cd29 "cleared" = true) (k29 : PySem.W.keepIn K (.ref f29) = true)
  {f30 : Addr} {od30 an30 : Option Addr} {sl30 : Array (Option Value)} {oc30 kV30 dc30 pm30 cd30 ct30 : Value}
  (a30 : PySem.W.nsIn K mainGlobals "brought_up" = some (some (.ref f30))) (l30 : K.lookup f30 = some ⟨oc30, od30, .func (PySem.W.fnOf "brought_up" "brought_up" (defArgs s_brought_up) (defBody s_brought_up) (defScope s_brought_up) .none kV30 dc30 pm30 an30 cd30 ct30), sl30⟩) (c30 : PySem.W.codeIn K cd30 "brought_up" = true) (k30 : PySem.W.keepIn K (.ref f30) = true)
  {f31 : Addr} {od31 an31 : Option Addr} {sl31 : Array (Option Value)} {oc31 kV31 dc31 pm31 cd31 ct31 : Value}
  (a31 : PySem.W.nsIn K mainGlobals "swept" = some (some (.ref f31))) (l31 : K.lookup f31 = some ⟨oc31, od31, .func (PySem.W.fnOf "swept" "swept" (defArgs s_swept) (defBody s_swept) (defScope s_swept) .none kV31 dc31 pm31 an31 cd31 ct31), sl31⟩) (c31 : PySem.W.codeIn K cd31 "swept" = true) (k31 : PySem.W.keepIn K (.ref f31) = true)
  {f32 : Addr} {od32 an32 : Option Addr} {sl32 : Array (Option Value)} {oc32 kV32 dc32 pm32 cd32 ct32 : Value}
  (a32 : PySem.W.nsIn K mainGlobals "lowest" = some (some (.ref f32))) (l32 : K.lookup f32 = some ⟨oc32, od32, .func (PySem.W.fnOf "lowest" "lowest" (defArgs s_lowest) (defBody s_lowest) (defScope s_lowest) .none kV32 dc32 pm32 an32 cd32 ct32), sl32⟩) (c32 : PySem.W.codeIn K cd32 "lowest" = true) (k32 : PySem.W.keepIn K (.ref f32) = true)
  {f33 : Addr} {od33 an33 : Option Addr} {sl33 : Array (Option Value)} {oc33 kV33 dc33 pm33 cd33 ct33 : Value}
  (a33 : PySem.W.nsIn K mainGlobals "reduced" = some (some (.ref f33))) (l33 : K.lookup f33 = some ⟨oc33, od33, .func (PySem.W.fnOf "reduced" "reduced" (defArgs s_reduced) (defBody s_reduced) (defScope s_reduced) .none kV33 dc33 pm33 an33 cd33 ct33), sl33⟩) (c33 : PySem.W.codeIn K cd33 "reduced" = true) (k33 : PySem.W.keepIn K (.ref f33) = true)
  {f34 : Addr} {od34 an34 : Option Addr} {sl34 : Array (Option Value)} {oc34 kV34 dc34 pm34 cd34 ct34 : Value}
  (a34 : PySem.W.nsIn K mainGlobals "row_dot" = some (some (.ref f34))) (l34 : K.lookup f34 = some ⟨oc34, od34, .func (PySem.W.fnOf "row_dot" "row_dot" (defArgs s_row_dot) (defBody s_row_dot) (defScope s_row_dot) .none kV34 dc34 pm34 an34 cd34 ct34), sl34⟩) (c34 : PySem.W.codeIn K cd34 "row_dot" = true) (k34 : PySem.W.keepIn K (.ref f34) = true)
  {f35 : Addr} {od35 an35 : Option Addr} {sl35 : Array (Option Value)} {oc35 kV35 dc35 pm35 cd35 ct35 : Value}
  (a35 : PySem.W.nsIn K mainGlobals "grid_on" = some (some (.ref f35))) (l35 : K.lookup f35 = some ⟨oc35, od35, .func (PySem.W.fnOf "grid_on" "grid_on" (defArgs s_grid_on) (defBody s_grid_on) (defScope s_grid_on) .none kV35 dc35 pm35 an35 cd35 ct35), sl35⟩) (c35 : PySem.W.codeIn K cd35 "grid_on" = true) (k35 : PySem.W.keepIn K (.ref f35) = true)
  {f36 : Addr} {od36 an36 : Option Addr} {sl36 : Array (Option Value)} {oc36 kV36 dc36 pm36 cd36 ct36 : Value}
  (a36 : PySem.W.nsIn K mainGlobals "moved_rows" = some (some (.ref f36))) (l36 : K.lookup f36 = some ⟨oc36, od36, .func (PySem.W.fnOf "moved_rows" "moved_rows" (defArgs s_moved_rows) (defBody s_moved_rows) (defScope s_moved_rows) .none kV36 dc36 pm36 an36 cd36 ct36), sl36⟩) (c36 : PySem.W.codeIn K cd36 "moved_rows" = true) (k36 : PySem.W.keepIn K (.ref f36) = true)
  {f37 : Addr} {od37 an37 : Option Addr} {sl37 : Array (Option Value)} {oc37 kV37 dc37 pm37 cd37 ct37 : Value}
  (a37 : PySem.W.nsIn K mainGlobals "reach_grown" = some (some (.ref f37))) (l37 : K.lookup f37 = some ⟨oc37, od37, .func (PySem.W.fnOf "reach_grown" "reach_grown" (defArgs s_reach_grown) (defBody s_reach_grown) (defScope s_reach_grown) .none kV37 dc37 pm37 an37 cd37 ct37), sl37⟩) (c37 : PySem.W.codeIn K cd37 "reach_grown" = true) (k37 : PySem.W.keepIn K (.ref f37) = true)
  {f38 : Addr} {od38 an38 : Option Addr} {sl38 : Array (Option Value)} {oc38 kV38 dc38 pm38 cd38 ct38 : Value}
  (a38 : PySem.W.nsIn K mainGlobals "reach_rows" = some (some (.ref f38))) (l38 : K.lookup f38 = some ⟨oc38, od38, .func (PySem.W.fnOf "reach_rows" "reach_rows" (defArgs s_reach_rows) (defBody s_reach_rows) (defScope s_reach_rows) .none kV38 dc38 pm38 an38 cd38 ct38), sl38⟩) (c38 : PySem.W.codeIn K cd38 "reach_rows" = true) (k38 : PySem.W.keepIn K (.ref f38) = true)
  {f39 : Addr} {od39 an39 : Option Addr} {sl39 : Array (Option Value)} {oc39 kV39 dc39 pm39 cd39 ct39 : Value}
  (a39 : PySem.W.nsIn K mainGlobals "_law_quot" = some (some (.ref f39))) (l39 : K.lookup f39 = some ⟨oc39, od39, .func (PySem.W.fnOf "_law_quot" "_law_quot" (defArgs s__law_quot) (defBody s__law_quot) (defScope s__law_quot) .none kV39 dc39 pm39 an39 cd39 ct39), sl39⟩) (c39 : PySem.W.codeIn K cd39 "_law_quot" = true) (k39 : PySem.W.keepIn K (.ref f39) = true)
  {f40 : Addr} {od40 an40 : Option Addr} {sl40 : Array (Option Value)} {oc40 kV40 dc40 pm40 cd40 ct40 : Value}
  (a40 : PySem.W.nsIn K mainGlobals "_law_less" = some (some (.ref f40))) (l40 : K.lookup f40 = some ⟨oc40, od40, .func (PySem.W.fnOf "_law_less" "_law_less" (defArgs s__law_less) (defBody s__law_less) (defScope s__law_less) .none kV40 dc40 pm40 an40 cd40 ct40), sl40⟩) (c40 : PySem.W.codeIn K cd40 "_law_less" = true) (k40 : PySem.W.keepIn K (.ref f40) = true)
  {f41 : Addr} {od41 an41 : Option Addr} {sl41 : Array (Option Value)} {oc41 kV41 dc41 pm41 cd41 ct41 : Value}
  (a41 : PySem.W.nsIn K mainGlobals "_law_minus" = some (some (.ref f41))) (l41 : K.lookup f41 = some ⟨oc41, od41, .func (PySem.W.fnOf "_law_minus" "_law_minus" (defArgs s__law_minus) (defBody s__law_minus) (defScope s__law_minus) .none kV41 dc41 pm41 an41 cd41 ct41), sl41⟩) (c41 : PySem.W.codeIn K cd41 "_law_minus" = true) (k41 : PySem.W.keepIn K (.ref f41) = true)
  {f42 : Addr} {od42 an42 : Option Addr} {sl42 : Array (Option Value)} {oc42 kV42 dc42 pm42 cd42 ct42 : Value}
  (a42 : PySem.W.nsIn K mainGlobals "_law_lean" = some (some (.ref f42))) (l42 : K.lookup f42 = some ⟨oc42, od42, .func (PySem.W.fnOf "_law_lean" "_law_lean" (defArgs s__law_lean) (defBody s__law_lean) (defScope s__law_lean) .none kV42 dc42 pm42 an42 cd42 ct42), sl42⟩) (c42 : PySem.W.codeIn K cd42 "_law_lean" = true) (k42 : PySem.W.keepIn K (.ref f42) = true)
  {f43 : Addr} {od43 an43 : Option Addr} {sl43 : Array (Option Value)} {oc43 kV43 dc43 pm43 cd43 ct43 : Value}
  (a43 : PySem.W.nsIn K mainGlobals "_law_dot" = some (some (.ref f43))) (l43 : K.lookup f43 = some ⟨oc43, od43, .func (PySem.W.fnOf "_law_dot" "_law_dot" (defArgs s__law_dot) (defBody s__law_dot) (defScope s__law_dot) .none kV43 dc43 pm43 an43 cd43 ct43), sl43⟩) (c43 : PySem.W.codeIn K cd43 "_law_dot" = true) (k43 : PySem.W.keepIn K (.ref f43) = true)
  {f44 : Addr} {od44 an44 : Option Addr} {sl44 : Array (Option Value)} {oc44 kV44 dc44 pm44 cd44 ct44 : Value}
  (a44 : PySem.W.nsIn K mainGlobals "_law_on" = some (some (.ref f44))) (l44 : K.lookup f44 = some ⟨oc44, od44, .func (PySem.W.fnOf "_law_on" "_law_on" (defArgs s__law_on) (defBody s__law_on) (defScope s__law_on) .none kV44 dc44 pm44 an44 cd44 ct44), sl44⟩) (c44 : PySem.W.codeIn K cd44 "_law_on" = true) (k44 : PySem.W.keepIn K (.ref f44) = true)
  {f45 : Addr} {od45 an45 : Option Addr} {sl45 : Array (Option Value)} {oc45 kV45 dc45 pm45 cd45 ct45 : Value}
  (a45 : PySem.W.nsIn K mainGlobals "law" = some (some (.ref f45))) (l45 : K.lookup f45 = some ⟨oc45, od45, .func (PySem.W.fnOf "law" "law" (defArgs s_law) (defBody s_law) (defScope s_law) .none kV45 dc45 pm45 an45 cd45 ct45), sl45⟩) (c45 : PySem.W.codeIn K cd45 "law" = true) (k45 : PySem.W.keepIn K (.ref f45) = true)
  {it0 : Tok} (ci0 : PySem.W.nsIn K mainGlobals "MOST_STATES" = some (some (.int 8 it0)))
  {it1 : Tok} (ci1 : PySem.W.nsIn K mainGlobals "MOST_PUTS" = some (some (.int 4 it1)))
  {it2 : Tok} (ci2 : PySem.W.nsIn K mainGlobals "MOST_LOOKS" = some (some (.int 4 it2)))
  (pg : PySem.W.plainGet K C Str.empty = true) (hd : PySem.W.hasDictIn K C = true) (po : PySem.W.plainOver K C = true) (sa : PySem.W.findIn K (.ref C) "__setattr__" = some (some (.builtin "object.__setattr__"))) (mk : PySem.W.makesIn K C = true) (kc : PySem.W.keepIn K (.ref C) = true)
  (n_move : PySem.W.findIn K (.ref C) "move" = some none)
  (n_states : PySem.W.findIn K (.ref C) "states" = some none)
  (n_put : PySem.W.findIn K (.ref C) "put" = some none)
  (n_ins : PySem.W.findIn K (.ref C) "ins" = some none)
  (n_look : PySem.W.findIn K (.ref C) "look" = some none)
  (n_outs : PySem.W.findIn K (.ref C) "outs" = some none)
  (z_abs : PySem.W.nsIn K mainGlobals "abs" = some none)
  (z_len : PySem.W.nsIn K mainGlobals "len" = some none)
  (z_min : PySem.W.nsIn K mainGlobals "min" = some none)
  (z_int : PySem.W.nsIn K mainGlobals "int" = some none)
  (z_range : PySem.W.nsIn K mainGlobals "range" = some none)
  (z_isinstance : PySem.W.nsIn K mainGlobals "isinstance" = some none)
  (z_list : PySem.W.nsIn K mainGlobals "list" = some none)
  (z_bool : PySem.W.nsIn K mainGlobals "bool" = some none)
  (z_tuple : PySem.W.nsIn K mainGlobals "tuple" = some none)
  (z_all : PySem.W.nsIn K mainGlobals "all" = some none)
  (z_enumerate : PySem.W.nsIn K mainGlobals "enumerate" = some none)
  (z_zip : PySem.W.nsIn K mainGlobals "zip" = some none)
  (z_sum : PySem.W.nsIn K mainGlobals "sum" = some none)
  : ∃ fd : FuncData, (∀ (s : Shared) (v : Value), BindsTo s fd ⟨[v], []⟩ [("_law_script", v)]) /\ ∀ base : Heap, K.In base -> base.Ns mainGlobals mg -> FnOk l.prog w K mg base CX0 9 fa fd ["_law_script"] (sp_law K) := by
 have e := hfa.symm.trans (PySem.W.mg_of X G a45)
 cases e
 have F0 := fun_mk (st := s__law_bag) l0 c0 k0
 have F1 := fun_mk (st := s__law_take) l1 c1 k1
 have F2 := fun_mk (st := s__law_sizes) l2 c2 k2
 have F3 := fun_mk (st := s__law_line) l3 c3 k3
 have F4 := fun_mk (st := s__law_low) l4 c4 k4
 have F5 := fun_mk (st := s__law_sum) l5 c5 k5
 have F6 := fun_mk (st := s__law_plus) l6 c6 k6
 have F7 := fun_mk (st := s__law_prod) l7 c7 k7
 have F8 := fun_mk (st := s__law_by) l8 c8 k8
 have F9 := fun_mk (st := s__law_mixed) l9 c9 k9
 have F10 := fun_mk (st := s__law_two_lines) l10 c10 k10
 have F11 := fun_mk (st := s__law_number) l11 c11 k11
 have F12 := fun_mk (st := s__law_row) l12 c12 k12
 have F13 := fun_mk (st := s__law_move) l13 c13 k13
 have F14 := fun_mk (st := s__law_parts) l14 c14 k14
 have F15 := fun_mk (st := s__law_system) l15 c15 k15
 have F16 := fun_mk (st := s_want_list) l16 c16 k16
 have F17 := fun_mk (st := s_is_whole) l17 c17 k17
 have F18 := fun_mk (st := s_common_divisor) l18 c18 k18
 have F19 := fun_mk (st := s_is_number) l19 c19 k19
 have F20 := fun_mk (st := s_is_row) l20 c20 k20
 have F21 := fun_mk (st := s_copied_rows) l21 c21 k21
 have F22 := fun_mk (st := s_System___init__) l22 c22 k22
 have F23 := fun_mk (st := s__law_copied) l23 c23 k23
 have F24 := fun_mk (st := s__law_made) l24 c24 k24
 have F25 := fun_mk (st := s_tops_over) l25 c25 k25
 have F26 := fun_mk (st := s_common_multiple) l26 c26 k26
 have F27 := fun_mk (st := s_common_bottom) l27 c27 k27
 have F28 := fun_mk (st := s_first_with) l28 c28 k28
 have F29 := fun_mk (st := s_cleared) l29 c29 k29
 have F30 := fun_mk (st := s_brought_up) l30 c30 k30
 have F31 := fun_mk (st := s_swept) l31 c31 k31
 have F32 := fun_mk (st := s_lowest) l32 c32 k32
 have F33 := fun_mk (st := s_reduced) l33 c33 k33
 have F34 := fun_mk (st := s_row_dot) l34 c34 k34
 have F35 := fun_mk (st := s_grid_on) l35 c35 k35
 have F36 := fun_mk (st := s_moved_rows) l36 c36 k36
 have F37 := fun_mk (st := s_reach_grown) l37 c37 k37
 have F38 := fun_mk (st := s_reach_rows) l38 c38 k38
 have F39 := fun_mk (st := s__law_quot) l39 c39 k39
 have F40 := fun_mk (st := s__law_less) l40 c40 k40
 have F41 := fun_mk (st := s__law_minus) l41 c41 k41
 have F42 := fun_mk (st := s__law_lean) l42 c42 k42
 have F43 := fun_mk (st := s__law_dot) l43 c43 k43
 have F44 := fun_mk (st := s__law_on) l44 c44 k44
 have F45 := fun_mk (st := s_law) l45 c45 k45
 have T : Txt K mg { a__law_bag := f0, d__law_bag := _, a__law_take := f1, d__law_take := _, a__law_sizes := f2, d__law_sizes := _, a__law_line := f3, d__law_line := _, a__law_low := f4, d__law_low := _, a__law_sum := f5, d__law_sum := _, a__law_plus := f6, d__law_plus := _, a__law_prod := f7, d__law_prod := _, a__law_by := f8, d__law_by := _, a__law_mixed := f9, d__law_mixed := _, a__law_two_lines := f10, d__law_two_lines := _, a__law_number := f11, d__law_number := _, a__law_row := f12, d__law_row := _, a__law_move := f13, d__law_move := _, a__law_parts := f14, d__law_parts := _, a__law_system := f15, d__law_system := _, a_want_list := f16, d_want_list := _, a_is_whole := f17, d_is_whole := _, a_common_divisor := f18, d_common_divisor := _, a_is_number := f19, d_is_number := _, a_is_row := f20, d_is_row := _, a_copied_rows := f21, d_copied_rows := _, a_System___init__ := f22, d_System___init__ := _, a__law_copied := f23, d__law_copied := _, a__law_made := f24, d__law_made := _, a_tops_over := f25, d_tops_over := _, a_common_multiple := f26, d_common_multiple := _, a_common_bottom := f27, d_common_bottom := _, a_first_with := f28, d_first_with := _, a_cleared := f29, d_cleared := _, a_brought_up := f30, d_brought_up := _, a_swept := f31, d_swept := _, a_lowest := f32, d_lowest := _, a_reduced := f33, d_reduced := _, a_row_dot := f34, d_row_dot := _, a_grid_on := f35, d_grid_on := _, a_moved_rows := f36, d_moved_rows := _, a_reach_grown := f37, d_reach_grown := _, a_reach_rows := f38, d_reach_rows := _, a__law_quot := f39, d__law_quot := _, a__law_less := f40, d__law_less := _, a__law_minus := f41, d__law_minus := _, a__law_lean := f42, d__law_lean := _, a__law_dot := f43, d__law_dot := _, a__law_on := f44, d__law_on := _, a_law := fa, d_law := _, t_MOST_STATES := it0, t_MOST_PUTS := it1, t_MOST_LOOKS := it2, a_System := C } := {
  mg__law_bag := PySem.W.mg_of X G a0
  b__law_bag := F0.binds (ps := ["_law_script"]) fun _ _ _ _ _ _ us hl => match us, hl with | [_], _ => rfl
  F__law_bag := F0
  mg__law_take := PySem.W.mg_of X G a1
  b__law_take := F1.binds (ps := ["_law_bag_here", "_law_many"]) fun _ _ _ _ _ _ us hl => match us, hl with | [_, _], _ => rfl
  F__law_take := F1
  mg__law_sizes := PySem.W.mg_of X G a2
  b__law_sizes := F2.binds (ps := ["_law_bag_here"]) fun _ _ _ _ _ _ us hl => match us, hl with | [_], _ => rfl
  F__law_sizes := F2
  mg__law_line := PySem.W.mg_of X G a3
  b__law_line := F3.binds (ps := ["_law_bag_here", "_law_n"]) fun _ _ _ _ _ _ us hl => match us, hl with | [_, _], _ => rfl
  F__law_line := F3
  mg__law_low := PySem.W.mg_of X G a4
  b__law_low := F4.binds (ps := ["_law_top", "_law_bottom"]) fun _ _ _ _ _ _ us hl => match us, hl with | [_, _], _ => rfl
  F__law_low := F4
  mg__law_sum := PySem.W.mg_of X G a5
  b__law_sum := F5.binds (ps := ["_law_one", "_law_other"]) fun _ _ _ _ _ _ us hl => match us, hl with | [_, _], _ => rfl
  F__law_sum := F5
  mg__law_plus := PySem.W.mg_of X G a6
  b__law_plus := F6.binds (ps := ["_law_one", "_law_other"]) fun _ _ _ _ _ _ us hl => match us, hl with | [_, _], _ => rfl
  F__law_plus := F6
  mg__law_prod := PySem.W.mg_of X G a7
  b__law_prod := F7.binds (ps := ["_law_one", "_law_other"]) fun _ _ _ _ _ _ us hl => match us, hl with | [_, _], _ => rfl
  F__law_prod := F7
  mg__law_by := PySem.W.mg_of X G a8
  b__law_by := F8.binds (ps := ["_law_by_here", "_law_row_here"]) fun _ _ _ _ _ _ us hl => match us, hl with | [_, _], _ => rfl
  F__law_by := F8
  mg__law_mixed := PySem.W.mg_of X G a9
  b__law_mixed := F9.binds (ps := ["_law_bag_here", "_law_move_here", "_law_put", "_law_look"]) fun _ _ _ _ _ _ us hl => match us, hl with | [_, _, _, _], _ => rfl
  F__law_mixed := F9
  mg__law_two_lines := PySem.W.mg_of X G a10
  b__law_two_lines := F10.binds (ps := ["_law_bag_here"]) fun _ _ _ _ _ _ us hl => match us, hl with | [_], _ => rfl
  F__law_two_lines := F10
  mg__law_number := PySem.W.mg_of X G a11
  b__law_number := F11.binds (ps := ["_law_bag_here", "_law_wide"]) fun _ _ _ _ _ _ us hl => match us, hl with | [_, _], _ => rfl
  F__law_number := F11
  mg__law_row := PySem.W.mg_of X G a12
  b__law_row := F12.binds (ps := ["_law_bag_here", "_law_many", "_law_wide"]) fun _ _ _ _ _ _ us hl => match us, hl with | [_, _, _], _ => rfl
  F__law_row := F12
  mg__law_move := PySem.W.mg_of X G a13
  b__law_move := F13.binds (ps := ["_law_bag_here", "_law_n", "_law_way", "_law_first", "_law_wide"]) fun _ _ _ _ _ _ us hl => match us, hl with | [_, _, _, _, _], _ => rfl
  F__law_move := F13
  mg__law_parts := PySem.W.mg_of X G a14
  b__law_parts := F14.binds (ps := ["_law_bag_here", "_law_n", "_law_ins", "_law_outs", "_law_wide"]) fun _ _ _ _ _ _ us hl => match us, hl with | [_, _, _, _, _], _ => rfl
  F__law_parts := F14
  mg__law_system := PySem.W.mg_of X G a15
  b__law_system := F15.binds (ps := ["_law_bag_here"]) fun _ _ _ _ _ _ us hl => match us, hl with | [_], _ => rfl
  F__law_system := F15
  mg_want_list := PySem.W.mg_of X G a16
  b_want_list := F16.binds (ps := ["thing", "at", "most"]) fun _ _ _ _ _ _ us hl => match us, hl with | [_, _, _], _ => rfl
  F_want_list := F16
  mg_is_whole := PySem.W.mg_of X G a17
  b_is_whole := F17.binds (ps := ["thing"]) fun _ _ _ _ _ _ us hl => match us, hl with | [_], _ => rfl
  F_is_whole := F17
  mg_common_divisor := PySem.W.mg_of X G a18
  b_common_divisor := F18.binds (ps := ["one", "other"]) fun _ _ _ _ _ _ us hl => match us, hl with | [_, _], _ => rfl
  F_common_divisor := F18
  mg_is_number := PySem.W.mg_of X G a19
  b_is_number := F19.binds (ps := ["thing"]) fun _ _ _ _ _ _ us hl => match us, hl with | [_], _ => rfl
  F_is_number := F19
  mg_is_row := PySem.W.mg_of X G a20
  b_is_row := F20.binds (ps := ["thing", "many"]) fun _ _ _ _ _ _ us hl => match us, hl with | [_, _], _ => rfl
  F_is_row := F20
  mg_copied_rows := PySem.W.mg_of X G a21
  b_copied_rows := F21.binds (ps := ["things", "wide"]) fun _ _ _ _ _ _ us hl => match us, hl with | [_, _], _ => rfl
  F_copied_rows := F21
  b_System___init__ := F22.binds (ps := ["self", "move", "put", "look"]) fun _ _ _ _ _ _ us hl => match us, hl with | [_, _, _, _], _ => rfl
  F_System___init__ := F22
  mg__law_copied := PySem.W.mg_of X G a23
  b__law_copied := F23.binds (ps := ["_law_grid"]) fun _ _ _ _ _ _ us hl => match us, hl with | [_], _ => rfl
  F__law_copied := F23
  mg__law_made := PySem.W.mg_of X G a24
  b__law_made := F24.binds (ps := ["_law_parts_here"]) fun _ _ _ _ _ _ us hl => match us, hl with | [_], _ => rfl
  F__law_made := F24
  mg_tops_over := PySem.W.mg_of X G a25
  b_tops_over := F25.binds (ps := ["row", "bottom"]) fun _ _ _ _ _ _ us hl => match us, hl with | [_, _], _ => rfl
  F_tops_over := F25
  mg_common_multiple := PySem.W.mg_of X G a26
  b_common_multiple := F26.binds (ps := ["wholes"]) fun _ _ _ _ _ _ us hl => match us, hl with | [_], _ => rfl
  F_common_multiple := F26
  mg_common_bottom := PySem.W.mg_of X G a27
  b_common_bottom := F27.binds (ps := ["row"]) fun _ _ _ _ _ _ us hl => match us, hl with | [_], _ => rfl
  F_common_bottom := F27
  mg_first_with := PySem.W.mg_of X G a28
  b_first_with := F28.binds (ps := ["lines", "begin", "place"]) fun _ _ _ _ _ _ us hl => match us, hl with | [_, _, _], _ => rfl
  F_first_with := F28
  mg_cleared := PySem.W.mg_of X G a29
  b_cleared := F29.binds (ps := ["lines", "at", "place", "before"]) fun _ _ _ _ _ _ us hl => match us, hl with | [_, _, _, _], _ => rfl
  F_cleared := F29
  mg_brought_up := PySem.W.mg_of X G a30
  b_brought_up := F30.binds (ps := ["lines", "at", "to"]) fun _ _ _ _ _ _ us hl => match us, hl with | [_, _, _], _ => rfl
  F_brought_up := F30
  mg_swept := PySem.W.mg_of X G a31
  b_swept := F31.binds (ps := ["rows", "wide"]) fun _ _ _ _ _ _ us hl => match us, hl with | [_, _], _ => rfl
  F_swept := F31
  mg_lowest := PySem.W.mg_of X G a32
  b_lowest := F32.binds (ps := ["top", "bottom"]) fun _ _ _ _ _ _ us hl => match us, hl with | [_, _], _ => rfl
  F_lowest := F32
  mg_reduced := PySem.W.mg_of X G a33
  b_reduced := F33.binds (ps := ["rows", "wide"]) fun _ _ _ _ _ _ us hl => match us, hl with | [_, _], _ => rfl
  F_reduced := F33
  mg_row_dot := PySem.W.mg_of X G a34
  b_row_dot := F34.binds (ps := ["one", "other"]) fun _ _ _ _ _ _ us hl => match us, hl with | [_, _], _ => rfl
  F_row_dot := F34
  mg_grid_on := PySem.W.mg_of X G a35
  b_grid_on := F35.binds (ps := ["grid", "row"]) fun _ _ _ _ _ _ us hl => match us, hl with | [_, _], _ => rfl
  F_grid_on := F35
  mg_moved_rows := PySem.W.mg_of X G a36
  b_moved_rows := F36.binds (ps := ["system", "rows"]) fun _ _ _ _ _ _ us hl => match us, hl with | [_, _], _ => rfl
  F_moved_rows := F36
  mg_reach_grown := PySem.W.mg_of X G a37
  b_reach_grown := F37.binds (ps := ["system", "steps"]) fun _ _ _ _ _ _ us hl => match us, hl with | [_, _], _ => rfl
  F_reach_grown := F37
  mg_reach_rows := PySem.W.mg_of X G a38
  b_reach_rows := F38.binds (ps := ["system", "steps"]) fun _ _ _ _ _ _ us hl => match us, hl with | [_, _], _ => rfl
  F_reach_rows := F38
  mg__law_quot := PySem.W.mg_of X G a39
  b__law_quot := F39.binds (ps := ["_law_one", "_law_other"]) fun _ _ _ _ _ _ us hl => match us, hl with | [_, _], _ => rfl
  F__law_quot := F39
  mg__law_less := PySem.W.mg_of X G a40
  b__law_less := F40.binds (ps := ["_law_one", "_law_other"]) fun _ _ _ _ _ _ us hl => match us, hl with | [_, _], _ => rfl
  F__law_less := F40
  mg__law_minus := PySem.W.mg_of X G a41
  b__law_minus := F41.binds (ps := ["_law_one", "_law_other"]) fun _ _ _ _ _ _ us hl => match us, hl with | [_, _], _ => rfl
  F__law_minus := F41
  mg__law_lean := PySem.W.mg_of X G a42
  b__law_lean := F42.binds (ps := ["_law_rows", "_law_wide"]) fun _ _ _ _ _ _ us hl => match us, hl with | [_, _], _ => rfl
  F__law_lean := F42
  mg__law_dot := PySem.W.mg_of X G a43
  b__law_dot := F43.binds (ps := ["_law_one", "_law_other"]) fun _ _ _ _ _ _ us hl => match us, hl with | [_, _], _ => rfl
  F__law_dot := F43
  mg__law_on := PySem.W.mg_of X G a44
  b__law_on := F44.binds (ps := ["_law_grid", "_law_row_here"]) fun _ _ _ _ _ _ us hl => match us, hl with | [_, _], _ => rfl
  F__law_on := F44
  F_law := F45
  abs := PySem.W.mg_none_of X G z_abs
  len := PySem.W.mg_none_of X G z_len
  min := PySem.W.mg_none_of X G z_min
  int := PySem.W.mg_none_of X G z_int
  range := PySem.W.mg_none_of X G z_range
  isinstance := PySem.W.mg_none_of X G z_isinstance
  list := PySem.W.mg_none_of X G z_list
  bool := PySem.W.mg_none_of X G z_bool
  tuple := PySem.W.mg_none_of X G z_tuple
  all := PySem.W.mg_none_of X G z_all
  enumerate := PySem.W.mg_none_of X G z_enumerate
  zip := PySem.W.mg_none_of X G z_zip
  sum := PySem.W.mg_none_of X G z_sum
  mg_MOST_STATES := PySem.W.mg_of X G ci0
  mg_MOST_PUTS := PySem.W.mg_of X G ci1
  mg_MOST_LOOKS := PySem.W.mg_of X G ci2
  mg_System := PySem.W.mg_of X G aC
  cl_System := ⟨pg, hd, po, sa⟩
  na_move := n_move
  na_states := n_states
  na_put := n_put
  na_ins := n_ins
  na_look := n_look
  na_outs := n_outs
  mk_System := ⟨mk, a22, i22, kc⟩ }
 exact ⟨_, fun s v => .of_eq rfl, fun base _ _ => ok_law T⟩
theorem walk {l : PySem.W.OpenLaw} {q : Program} {loose : List Str} {XP : (Str -> Option Value) -> Heap -> Prop} {YP : World -> Heap -> Prop} {d : DefRec} {K : Params -> PySem.W.Frag} (hn : l.most = some 63) (hdf : d.params.defaults = [])
  (hY : ∀ (w : World) (h : Heap), YP w h -> (K w.params).In h)
  (F : ∀ (w : World) (mg : Str -> Option Value) (fa : Addr) (h : Heap), (K w.params).In h -> h.Ns mainGlobals mg -> mg d.name = some (.ref fa) →
   ∃ fd : FuncData, (∀ (s : Shared) (u : Value), BindsTo s fd ⟨[u], []⟩ [("_law_script", u)]) /\ ∀ base : Heap, (K w.params).In base -> base.Ns mainGlobals mg -> FnOk l.prog w (K w.params) mg base CX0 9 fa fd ["_law_script"] (sp_law (K w.params))) :
  PySem.W.WalkO q loose XP YP l.row.toRowW d [] (fun f vs => PySem.call f vs) :=
 L2.walk_of (n := 63) (k := 9) (x := "_law_script") (CX := fun _ => CX0) (sp := fun w => sp_law (K w.params)) hn (by decide) hdf ⟨rfl, by decide, by decide⟩ hY F (fun _ _ a ns hl _ hS => ⟨a, ns, rfl, hS, hl, fun _ => rfl⟩) fun _ _ _ _ _ z => z
end Lw
def PySem.W.Fast.tw3886680710410012087 : Unit := ()
theorem PySem.W.Fast.te3886680710410012087 : True := trivial
def PySem.W.Fast.tw1709618962983574889 : Unit := ()
def PySem.W.Fast.tw11746309733659886194 : Unit := ()
def PySem.W.Fast.tw16884707166394191355 : Unit := ()
def PySem.W.Fast.tw10038429142831825198 : Unit := ()
def PySem.W.Fast.tw4252981707141171227 : Unit := ()
def PySem.W.Fast.tw10025671059972443315 : Unit := ()
def PySem.W.Fast.tw12993214810712094228 : Unit := ()
def PySem.W.Fast.tw7570850507874152753 : Unit := ()
def PySem.W.Fast.tw1733956377154895670 : Unit := ()
def PySem.W.Fast.tw15586954306771609924 : Unit := ()
def PySem.W.Fast.tw12124175512271394771 : Unit := ()
def PySem.W.Fast.tw10716034841509320884 : Unit := ()
def PySem.W.Fast.tw11161412662645322881 : Unit := ()
def PySem.W.Fast.tw17915260649878938740 : Unit := ()
def PySem.W.Fast.tw6916157723268550518 : Unit := ()
def PySem.W.Fast.tw8332435966539392054 : Unit := ()
def PySem.W.Fast.tw12882602770608768709 : Unit := ()
open PySem PySem.W PyProof.Rows
set_option maxRecDepth 100000 in
set_option maxHeartbeats 0 in
theorem PySem.Challenge.cw_helmsum_k43_whole_reach_grows_and_stands_holds : PySem.Challenge.rw_helmsum_k43_whole_reach_grows_and_stands.Holds := by
 w_on; o_law; k_head; (case hw => w_witness2)
 k_fill
 refine Lw.walk (l := PySem.Challenge.rw_helmsum_k43_whole_reach_grows_and_stands) rfl rfl (fun w h Y => PySem.W.kIn_of Y) ?F
 case F =>
  intro w mg fa h KX G hmg
  refine' Lw.all_mk KX G hmg ?aC ?a0 ?l0 ?c0 ?k0 ?a1 ?l1 ?c1 ?k1 ?a2 ?l2 ?c2 ?k2 ?a3 ?l3 ?c3 ?k3 ?a4 ?l4 ?c4 ?k4 ?a5 ?l5 ?c5 ?k5 ?a6 ?l6 ?c6 ?k6 ?a7 ?l7 ?c7 ?k7 ?a8 ?l8 ?c8 ?k8 ?a9 ?l9 ?c9 ?k9 ?a10 ?l10 ?c10 ?k10 ?a11 ?l11 ?c11 ?k11 ?a12 ?l12 ?c12 ?k12 ?a13 ?l13 ?c13 ?k13 ?a14 ?l14 ?c14 ?k14 ?a15 ?l15 ?c15 ?k15 ?a16 ?l16 ?c16 ?k16 ?a17 ?l17 ?c17 ?k17 ?a18 ?l18 ?c18 ?k18 ?a19 ?l19 ?c19 ?k19 ?a20 ?l20 ?c20 ?k20 ?a21 ?l21 ?c21 ?k21 ?a22 ?i22 ?l22 ?c22 ?k22 ?a23 ?l23 ?c23 ?k23 ?a24 ?l24 ?c24 ?k24 ?a25 ?l25 ?c25 ?k25 ?a26 ?l26 ?c26 ?k26 ?a27 ?l27 ?c27 ?k27 ?a28 ?l28 ?c28 ?k28 ?a29 ?l29 ?c29 ?k29 ?a30 ?l30 ?c30 ?k30 ?a31 ?l31 ?c31 ?k31 ?a32 ?l32 ?c32 ?k32 ?a33 ?l33 ?c33 ?k33 ?a34 ?l34 ?c34 ?k34 ?a35 ?l35 ?c35 ?k35 ?a36 ?l36 ?c36 ?k36 ?a37 ?l37 ?c37 ?k37 ?a38 ?l38 ?c38 ?k38 ?a39 ?l39 ?c39 ?k39 ?a40 ?l40 ?c40 ?k40 ?a41 ?l41 ?c41 ?k41 ?a42 ?l42 ?c42 ?k42 ?a43 ?l43 ?c43 ?k43 ?a44 ?l44 ?c44 ?k44 ?a45 ?l45 ?c45 ?k45 ?ci0 ?ci1 ?ci2 ?pg ?hd ?po ?sa ?mk ?kc ?n_move ?n_states ?n_put ?n_ins ?n_look ?n_outs ?z_abs ?z_len ?z_min ?z_int ?z_range ?z_isinstance ?z_list ?z_bool ?z_tuple ?z_all ?z_enumerate ?z_zip ?z_sum
  (case aC => k_is)
  (case a0 => k_is)
  (case l0 => k_is)
  (case c0 => k_is)
  (case k0 => k_is)
  (case a1 => k_is)
  (case l1 => k_is)
  (case c1 => k_is)
  (case k1 => k_is)
  (case a2 => k_is)
  (case l2 => k_is)
  (case c2 => k_is)
  (case k2 => k_is)
  (case a3 => k_is)
  (case l3 => k_is)
  (case c3 => k_is)
  (case k3 => k_is)
  (case a4 => k_is)
  (case l4 => k_is)
  (case c4 => k_is)
  (case k4 => k_is)
  (case a5 => k_is)
  (case l5 => k_is)
  (case c5 => k_is)
  (case k5 => k_is)
  (case a6 => k_is)
  (case l6 => k_is)
  (case c6 => k_is)
  (case k6 => k_is)
  (case a7 => k_is)
  (case l7 => k_is)
  (case c7 => k_is)
  (case k7 => k_is)
  (case a8 => k_is)
  (case l8 => k_is)
  (case c8 => k_is)
  (case k8 => k_is)
  (case a9 => k_is)
  (case l9 => k_is)
  (case c9 => k_is)
  (case k9 => k_is)
  (case a10 => k_is)
  (case l10 => k_is)
  (case c10 => k_is)
  (case k10 => k_is)
  (case a11 => k_is)
  (case l11 => k_is)
  (case c11 => k_is)
  (case k11 => k_is)
  (case a12 => k_is)
  (case l12 => k_is)
  (case c12 => k_is)
  (case k12 => k_is)
  (case a13 => k_is)
  (case l13 => k_is)
  (case c13 => k_is)
  (case k13 => k_is)
  (case a14 => k_is)
  (case l14 => k_is)
  (case c14 => k_is)
  (case k14 => k_is)
  (case a15 => k_is)
  (case l15 => k_is)
  (case c15 => k_is)
  (case k15 => k_is)
  (case a16 => k_is)
  (case l16 => k_is)
  (case c16 => k_is)
  (case k16 => k_is)
  (case a17 => k_is)
  (case l17 => k_is)
  (case c17 => k_is)
  (case k17 => k_is)
  (case a18 => k_is)
  (case l18 => k_is)
  (case c18 => k_is)
  (case k18 => k_is)
  (case a19 => k_is)
  (case l19 => k_is)
  (case c19 => k_is)
  (case k19 => k_is)
  (case a20 => k_is)
  (case l20 => k_is)
  (case c20 => k_is)
  (case k20 => k_is)
  (case a21 => k_is)
  (case l21 => k_is)
  (case c21 => k_is)
  (case k21 => k_is)
  (case a22 => k_is)
  (case i22 => k_is)
  (case l22 => k_is)
  (case c22 => k_is)
  (case k22 => k_is)
  (case a23 => k_is)
  (case l23 => k_is)
  (case c23 => k_is)
  (case k23 => k_is)
  (case a24 => k_is)
  (case l24 => k_is)
  (case c24 => k_is)
  (case k24 => k_is)
  (case a25 => k_is)
  (case l25 => k_is)
  (case c25 => k_is)
  (case k25 => k_is)
  (case a26 => k_is)
  (case l26 => k_is)
  (case c26 => k_is)
  (case k26 => k_is)
  (case a27 => k_is)
  (case l27 => k_is)
  (case c27 => k_is)
  (case k27 => k_is)
  (case a28 => k_is)
  (case l28 => k_is)
  (case c28 => k_is)
  (case k28 => k_is)
  (case a29 => k_is)
  (case l29 => k_is)
  (case c29 => k_is)
  (case k29 => k_is)
  (case a30 => k_is)
  (case l30 => k_is)
  (case c30 => k_is)
  (case k30 => k_is)
  (case a31 => k_is)
  (case l31 => k_is)
  (case c31 => k_is)
  (case k31 => k_is)
  (case a32 => k_is)
  (case l32 => k_is)
  (case c32 => k_is)
  (case k32 => k_is)
  (case a33 => k_is)
  (case l33 => k_is)
  (case c33 => k_is)
  (case k33 => k_is)
  (case a34 => k_is)
  (case l34 => k_is)
  (case c34 => k_is)
  (case k34 => k_is)
  (case a35 => k_is)
  (case l35 => k_is)
  (case c35 => k_is)
  (case k35 => k_is)
  (case a36 => k_is)
  (case l36 => k_is)
  (case c36 => k_is)
  (case k36 => k_is)
  (case a37 => k_is)
  (case l37 => k_is)
  (case c37 => k_is)
  (case k37 => k_is)
  (case a38 => k_is)
  (case l38 => k_is)
  (case c38 => k_is)
  (case k38 => k_is)
  (case a39 => k_is)
  (case l39 => k_is)
  (case c39 => k_is)
  (case k39 => k_is)
  (case a40 => k_is)
  (case l40 => k_is)
  (case c40 => k_is)
  (case k40 => k_is)
  (case a41 => k_is)
  (case l41 => k_is)
  (case c41 => k_is)
  (case k41 => k_is)
  (case a42 => k_is)
  (case l42 => k_is)
  (case c42 => k_is)
  (case k42 => k_is)
  (case a43 => k_is)
  (case l43 => k_is)
  (case c43 => k_is)
  (case k43 => k_is)
  (case a44 => k_is)
  (case l44 => k_is)
  (case c44 => k_is)
  (case k44 => k_is)
  (case a45 => k_is)
  (case l45 => k_is)
  (case c45 => k_is)
  (case k45 => k_is)
  (case ci0 => k_is)
  (case ci1 => k_is)
  (case ci2 => k_is)
  (case pg => k_is)
  (case hd => k_is)
  (case po => k_is)
  (case sa => k_is)
  (case mk => k_is)
  (case kc => k_is)
  (case n_move => k_is)
  (case n_states => k_is)
  (case n_put => k_is)
  (case n_ins => k_is)
  (case n_look => k_is)
  (case n_outs => k_is)
  (case z_abs => k_is)
  (case z_len => k_is)
  (case z_min => k_is)
  (case z_int => k_is)
  (case z_range => k_is)
  (case z_isinstance => k_is)
  (case z_list => k_is)
  (case z_bool => k_is)
  (case z_tuple => k_is)
  (case z_all => k_is)
  (case z_enumerate => k_is)
  (case z_zip => k_is)
  (case z_sum => k_is)

