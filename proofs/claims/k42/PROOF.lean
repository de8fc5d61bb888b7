import PyProof.Rows.All
import KE.KTabLook
import KE.KLam
import Wide.All
import OpenK.AllK
import Wide.FinOn
import Lean
import PyProof.EqAt
import PyProof.EqKinds
import PyProof.TupleCall
import PySem.Challenge.RW_bentwires_k42_drawn
set_option Elab.async false
-- CHANGE: your row's module here, as the last of these rows
set_option Elab.async false
set_option linter.all false
set_option maxRecDepth 100000
/-! THE HAND LAYER, for ints, bools, texts, own classes, LISTS and tuples (index, slices, in, append, pop ..), calls, loops. Paste it whole ahead of your own text; what your proof does not reach may be deleted. -/
namespace L2
open PySem PySem.Spec PyProof.Rows

/-- a key: an int or a str -/
noncomputable abbrev Key := Sum Int Str
noncomputable def keyIs : Key → Value → Bool
  | .inl k, v => Value.isInt k v
  | .inr x, v => Value.isStrOf x v
noncomputable def keyH (w : World) : Key → Int
  | .inl k => hashInt k
  | .inr x => hashStr w x
theorem keyIs_shape : ∀ {k : Key} {v : Value}, keyIs k v = true → (∃ i t, k = Sum.inl i ∧ v = Value.int i t) ∨ (∃ x t, k = Sum.inr x ∧ v = Value.str x t)
  | .inl i, v, h => by
    obtain ⟨t, e⟩ := Value.isInt_shape (k := i) (v := v) h
    exact .inl ⟨i, t, rfl, e⟩
  | .inr x, v, h => by
    obtain ⟨t, e⟩ := Value.isStrOf_shape (x := x) (v := v) h
    exact .inr ⟨x, t, rfl, e⟩
theorem keyIs_int (i : Int) (t : Tok) : keyIs (.inl i) (.int i t) = true := by simp [keyIs, Value.isInt]
theorem keyIs_str (x : Str) (t : Tok) : keyIs (.inr x) (.str x t) = true := by simp [keyIs, Value.isStrOf]
theorem key_ll (a b : Int) : decide ((Sum.inl a : Key) = Sum.inl b) = (a == b) := by
  by_cases e : a = b
  · subst e; simp
  · have h : ¬ (Sum.inl a : Key) = Sum.inl b := fun q => e (Sum.inl.inj q)
    rw [decide_eq_false h]
    exact (beq_eq_false_iff_ne.mpr e).symm
theorem key_rr (a b : Str) : decide ((Sum.inr a : Key) = Sum.inr b) = decide (a = b) := by
  by_cases e : a = b
  · subst e; simp
  · have h : ¬ (Sum.inr a : Key) = Sum.inr b := fun q => e (Sum.inr.inj q)
    rw [decide_eq_false h, decide_eq_false e]
theorem key_lr (a : Int) (b : Str) : decide ((Sum.inl a : Key) = Sum.inr b) = false := decide_eq_false (fun q => nomatch q)
theorem key_rl (a : Str) (b : Int) : decide ((Sum.inr a : Key) = Sum.inl b) = false := decide_eq_false (fun q => nomatch q)

noncomputable def mixKind (prog : Program) (w : World) : PySem.KeyKind prog w Key where
  is := keyIs
  hash := keyH w
  inj := fun v a b ha hb => by
    rcases keyIs_shape ha with ⟨i, t, rfl, rfl⟩ | ⟨x, t, rfl, rfl⟩
    · rcases keyIs_shape hb with ⟨j, u, rfl, e⟩ | ⟨y, u, rfl, e⟩
      · injection e with e1 _; rw [e1]
      · exact nomatch e
    · rcases keyIs_shape hb with ⟨j, u, rfl, e⟩ | ⟨y, u, rfl, e⟩
      · exact nomatch e
      · injection e with e1 _; rw [e1]
  byValue := fun k v h => by
    rcases keyIs_shape h with ⟨i, t, rfl, rfl⟩ | ⟨x, t, rfl, rfl⟩ <;> rfl
  pyHash := fun hv h => by
    rcases keyIs_shape hv with ⟨i, t, rfl, rfl⟩ | ⟨x, t, rfl, rfl⟩
    · exact wpAny_pyHash_int h
    · exact wpAny_pyHash_str h
  eqBool := fun hu hv h => by
    rcases keyIs_shape hu with ⟨i, t, rfl, rfl⟩ | ⟨x, t, rfl, rfl⟩
    · rcases keyIs_shape hv with ⟨j, u, rfl, rfl⟩ | ⟨y, u, rfl, rfl⟩
      · rw [key_ll] at h; exact wpAny_eqBool_int h
      · rw [key_lr] at h; exact SeqAt.EqAt.int_str i t y u _ _ _ _ h
    · rcases keyIs_shape hv with ⟨j, u, rfl, rfl⟩ | ⟨y, u, rfl, rfl⟩
      · rw [key_rl] at h; exact SeqAt.EqAt.str_int x t j u _ _ _ _ h
      · rw [key_rr] at h; exact wpAny_eqBool_str h
  «strs» := fun k x t v h => by
    rcases keyIs_shape h with ⟨i, u, rfl, e⟩ | ⟨y, u, rfl, e⟩
    · exact nomatch e
    · injection e with e1 _
      subst e1
      cases v <;> rfl

theorem mixKind_int (prog : Program) (w : World) (i : Int) (t : Tok) : (mixKind prog w).is (.inl i) (.int i t) = true := keyIs_int i t
theorem mixKind_str (prog : Program) (w : World) (x : Str) (t : Tok) : (mixKind prog w).is (.inr x) (.str x t) = true := keyIs_str x t
end L2

namespace L2
open PySem PySem.Spec PyProof.Rows

/-- a value, without the heap -/
inductive V where
  | non | bl (b : Bool) | int (i : Int) | str (x : Str) | byt (b : Array UInt8) | flt (b : UInt64) | ref (a : Addr) | ty (n : String)
  deriving DecidableEq

noncomputable def RelV : V → Value → Prop
  | .non, u => u = Value.none
  | .bl b, u => u = Value.bool b
  | .int i, u => ∃ t, u = Value.int i t
  | .str x, u => ∃ t, u = Value.str x t
  | .byt b, u => ∃ t, u = Value.bytes b t
  | .flt b, u => ∃ t, u = Value.float b t
  | .ref a, u => u = Value.ref a
  | .ty n, u => u = Value.type n

noncomputable abbrev Vals : List V → List Value → Prop := Paired RelV
theorem Vals.length {xs : List V} {us : List Value} (r : Vals xs us) : xs.length = us.length := Paired.length r
theorem Vals.get : ∀ {xs : List V} {us : List Value} {i : Nat} {x : V}, Vals xs us → xs[i]? = some x → ∃ u, us[i]? = some u ∧ RelV x u
  | _, _, _, _, .nil, e => by simp at e
  | _, _, 0, _, .cons r _, e => by simp at e; subst e; exact ⟨_, rfl, r⟩
  | _, _, i + 1, x, .cons _ t, e => by
    obtain ⟨u, h1, h2⟩ := Vals.get (i := i) (x := x) t (by simpa using e)
    exact ⟨u, by simpa using h1, h2⟩
theorem Vals.append : ∀ {xs ys : List V} {us ws : List Value}, Vals xs us → Vals ys ws → Vals (xs ++ ys) (us ++ ws)
  | _, _, _, _, .nil, s => s
  | _, _, _, _, .cons r t, s => .cons r (Vals.append t s)
theorem Vals.take : ∀ {xs : List V} {us : List Value} (n : Nat), Vals xs us → Vals (xs.take n) (us.take n)
  | _, _, 0, _ => .nil
  | _, _, _ + 1, .nil => .nil
  | _, _, n + 1, .cons r t => .cons r (Vals.take n t)
theorem Vals.drop : ∀ {xs : List V} {us : List Value} (n : Nat), Vals xs us → Vals (xs.drop n) (us.drop n)
  | _, _, 0, r => r
  | _, _, _ + 1, .nil => .nil
  | _, _, n + 1, .cons _ t => Vals.drop n t
noncomputable def RelO : Option V → Option Value → Prop
  | some v, some u => RelV v u
  | none, none => True
  | _, _ => False
noncomputable def KV {κ : Type} : List (κ × V) → List (κ × Value) → Prop := Paired fun (p : κ × V) (q : κ × Value) => p.1 = q.1 ∧ RelV p.2 q.2

/-- a key of a dict (00_mix): an int or a text -/
noncomputable def kV : Key → V
  | .inl i => .int i
  | .inr x => .str x

/-- what stands at a tracked address -/
inductive HO where
  /-- a list -/
  | lst (xs : List V)
  /-- a tuple (never changes) -/
  | tup (xs : List V)
  /-- a dict whose keys are ints and texts; one whose keys are tuples of ints and texts (the empty one is both) -/
  | dK (kvs : List (Key × V)) | dT (kvs : List (List Key × V))
  /-- a set of ints: its members, its size -/
  | set (S : Int → Bool) (n : Nat)
  /-- an instance of the class at C, its dict at dx, its attributes -/
  | ins (C dx : Addr) (fs : List (Str × V))
  /-- the dict of the instance at x -/
  | own (x : Addr)
  /-- the dict of an exception -/
  | xd (fs : List (Str × V))
  /-- a bound method, f of x -/
  | met (f x : Addr)
  /-- a range object lo, lo + 1, .. below hi -/
  | rng (lo hi : Int)
  /-- a thing that is known to the object (the script; a dict while a loop walks it): read, never written while it is so -/
  | frz (o : Obj) (u : HO)
  /-- a code object's table -/
  | tbl (ps : Array Value)
  /-- any other thing, by what is true of its one object (a def of one's own: SetO a S n := HO.ext fun h => ..) -/
  | ext (φ : Heap → Prop)

noncomputable abbrev Hp := Addr → Option HO
noncomputable def upd (H : Hp) (a : Addr) (o : HO) : Hp := fun b => if b = a then some o else H b
theorem upd_same {H : Hp} {a : Addr} {o : HO} : upd H a o a = some o := by unfold upd; rw [if_pos rfl]
theorem upd_ne {H : Hp} {a b : Addr} {o : HO} (h : b ≠ a) : upd H a o b = H b := by unfold upd; rw [if_neg h]
/-- two objects of different content stand apart -/
theorem ne_of {H : Hp} {a b : Addr} {o u : HO} (h : H a = some o) (h' : H b = some u) (d : o ≠ u) : a ≠ b := by
  intro e; subst e; rw [h] at h'; exact d (Option.some.inj h')
theorem ne_of_none {H : Hp} {a b : Addr} {o : HO} (h : H a = some o) (h' : H b = none) : a ≠ b := by
  intro e; subst e; rw [h] at h'; cases h'

section
variable (P : Program) (w : World)
noncomputable def ObjOk (H : Hp) (h : Heap) (a : Addr) : HO → Prop
  | .lst xs => xs.length ≤ sizeLine ∧ ∃ (its : List Value) (n : Nat), Vals xs its ∧ h.get? a = some { cls := .type "list", data := .seq its.toArray n }
  | .tup xs => xs.length ≤ sizeLine ∧ ∃ its : List Value, Vals xs its ∧ IsTup h a its.toArray
  | .dK kvs => kvs.length ≤ sizeLine ∧ (a == sysModules) = false ∧ ∃ vs, KV kvs vs ∧ h.DictOf (mixKind P w) a vs
  | .dT kvs => kvs.length ≤ sizeLine ∧ (a == sysModules) = false ∧ ∃ xs : List (List Key × Addr × Value),
      Paired (fun (p : List Key × V) (q : List Key × Addr × Value) => p.1 = q.1 ∧ H q.2.1 = some (.tup (p.1.map kV)) ∧ RelV p.2 q.2.2) kvs xs ∧
      ∃ o es ep, h.get? a = some o ∧ o.ExactDict ∧ o.data = .dict es ep ∧ es.toList = xs.map (entryOfKey (tupleKind (mixKind P w))) ∧ (xs.map (·.1)).Nodup
  | .set S n => h.SetOf (intKind P w) a S n
  | .ins C dx fs => H dx = some (.own a) ∧ fs.length ≤ 1000 ∧ dx ≠ a ∧ h.get? a = some (PySem.W.instObj C dx) ∧
      ∃ mA, h.Ns1 dx mA ∧ (∀ f, RelO (fs.lookup f) (mA f)) ∧ PySem.Within mA (fs.map (·.1))
  | .own _ => ∃ o, h.get? a = some o
  | .xd fs => ∃ mA, h.Ns1 a mA ∧ ∀ f, RelO (fs.lookup f) (mA f)
  | .rng lo hi => ∃ t u v, h.get? a = some { cls := .type "range", data := .fields #[.int lo t, .int hi u, .int 1 v] }
  | .frz o u => h.get? a = some o ∧ ObjOk H h a u
  | .tbl ps => h.get? a = some { cls := .none, data := .fields ps }
  | .met f x => h.get? a = some (PySem.W.methodObj (.ref f) (.ref x))
  | .ext φ => φ h ∧ (∃ o, h.get? a = some o) ∧ ∀ h1 h2 : Heap, φ h1 → (∀ o, h1.get? a = some o → h2.get? a = some o) → φ h2
/-- the abstract heap is held -/
noncomputable def HOk (H : Hp) (h : Heap) : Prop := ∀ a o, H a = some o → ObjOk P w H h a o
end

section
variable {P : Program} {w : World} {H H' : Hp} {h h' : Heap} {a : Addr} {o : HO}
theorem ObjOk.lt (x : ObjOk P w H h a o) : a < h.objs.size := by
  cases o with
  | lst xs => obtain ⟨_, _, _, _, e⟩ := x; exact Heap.lt_size e
  | tup xs => obtain ⟨_, _, _, p⟩ := x; exact p.lt
  | dK kvs => obtain ⟨_, _, _, _, o, _, _, e, _⟩ := x; exact Heap.lt_size e
  | dT kvs => obtain ⟨_, _, _, _, o, _, _, e, _⟩ := x; exact Heap.lt_size e
  | set S n => obtain ⟨o, _, _, _, e, _⟩ := x; exact Heap.lt_size e
  | ins C dx fs => obtain ⟨_, _, _, e, _⟩ := x; exact Heap.lt_size e
  | own y => obtain ⟨_, e⟩ := x; exact Heap.lt_size e
  | xd fs => obtain ⟨_, ⟨_, _, _, e, _⟩, _⟩ := x; exact Heap.lt_size e
  | rng lo hi => obtain ⟨_, _, _, e⟩ := x; exact Heap.lt_size e
  | frz ob u => obtain ⟨e, _⟩ := x; exact Heap.lt_size e
  | tbl ps => exact Heap.lt_size (show h.get? a = some _ from x)
  | met f y => exact Heap.lt_size (show h.get? a = some _ from x)
  | ext φ => obtain ⟨_, ⟨_, e⟩, _⟩ := x; exact Heap.lt_size e
theorem Paired.mapP {α β : Type} {F G : α → β → Prop} : ∀ {l₁ : List α} {l₂ : List β}, Paired F l₁ l₂ → (∀ a b, F a b → G a b) → Paired G l₁ l₂
  | _, _, .nil, _ => .nil
  | _, _, .cons r t, f => .cons (f _ _ r) (Paired.mapP t f)
/-- what an object's description leans on: its own object, its own dict, the tuples -/
theorem ObjOk.stay (x : ObjOk P w H h a o) (k : ∀ b u, (b = a ∨ H b = some (.own a)) → h.get? b = some u → h'.get? b = some u)
    (ho : ∀ b, H b = some (.own a) → H' b = some (.own a)) (ht : ∀ b xs, H b = some (.tup xs) → H' b = some (.tup xs)) : ObjOk P w H' h' a o := by
  induction o with
  | lst xs => obtain ⟨z, its, n, r, e⟩ := x; exact ⟨z, its, n, r, k _ _ (.inl rfl) e⟩
  | tup xs => obtain ⟨z, its, r, ob, e, c⟩ := x; exact ⟨z, its, r, ob, k _ _ (.inl rfl) e, c⟩
  | dK kvs => obtain ⟨z, y, vs, r, ob, es, ep, e, c⟩ := x; exact ⟨z, y, vs, r, ob, es, ep, k _ _ (.inl rfl) e, c⟩
  | dT kvs =>
    obtain ⟨z, y, xs, r, ob, es, ep, e, c⟩ := x
    exact ⟨z, y, xs, Paired.mapP r fun p q z => ⟨z.1, ht _ _ z.2.1, z.2.2⟩, ob, es, ep, k _ _ (.inl rfl) e, c⟩
  | set S n => obtain ⟨ob, es, ep, t, e, c⟩ := x; exact ⟨ob, es, ep, t, k _ _ (.inl rfl) e, c⟩
  | ins C dx fs =>
    obtain ⟨d, z, ne, e, mA, ⟨od, es, ep, e2, c⟩, r⟩ := x
    exact ⟨ho _ d, z, ne, k _ _ (.inl rfl) e, mA, ⟨od, es, ep, k _ _ (.inr d) e2, c⟩, r⟩
  | own y => obtain ⟨ob, e⟩ := x; exact ⟨ob, k _ _ (.inl rfl) e⟩
  | xd fs => obtain ⟨mA, ⟨od, es, ep, e, c⟩, r⟩ := x; exact ⟨mA, ⟨od, es, ep, k _ _ (.inl rfl) e, c⟩, r⟩
  | rng lo hi => obtain ⟨t, u, v, e⟩ := x; exact ⟨t, u, v, k _ _ (.inl rfl) e⟩
  | frz ob u ih => obtain ⟨e, q⟩ := x; exact ⟨k _ _ (.inl rfl) e, ih q⟩
  | tbl ps =>
    have e : h.get? a = some { cls := .none, data := .fields ps } := x
    show h'.get? a = some { cls := .none, data := .fields ps }
    exact k a _ (.inl rfl) e
  | met f y =>
    have e : h.get? a = some (PySem.W.methodObj (.ref f) (.ref y)) := x
    show h'.get? a = some (PySem.W.methodObj (.ref f) (.ref y))
    exact k a _ (.inl rfl) e
  | ext φ => obtain ⟨p, ⟨o, e⟩, st⟩ := x; exact ⟨st _ _ p fun o q => k _ _ (.inl rfl) q, ⟨o, k _ _ (.inl rfl) e⟩, st⟩
theorem HOk.lt (x : HOk P w H h) (e : H a = some o) : a < h.objs.size := (x a o e).lt
theorem HOk.fresh (x : HOk P w H h) (e : h.objs.size ≤ a) : H a = none := by
  cases q : H a with
  | none => rfl
  | some u => exact absurd (Nat.lt_of_lt_of_le (x.lt q) e) (Nat.lt_irrefl _)
/-- every object of the heap is kept -/
theorem HOk.kept (x : HOk P w H h) (k : ∀ b u, h.get? b = some u → h'.get? b = some u) : HOk P w H h' := fun a o e =>
  (x a o e).stay (fun b u _ q => k b u q) (fun _ q => q) fun _ _ q => q
/-- a new object is laid and tracked -/
theorem HOk.laid (x : HOk P w H h) (k : ∀ b u, h.get? b = some u → h'.get? b = some u) (hp : h.objs.size ≤ a) (new : ObjOk P w (upd H a o) h' a o) : HOk P w (upd H a o) h' := fun b u e => by
  have hn := x.fresh hp
  by_cases hb : b = a
  · subst hb; rw [upd_same] at e; cases e; exact new
  · rw [upd_ne hb] at e
    exact (x b u e).stay (fun c v _ q => k c v q) (fun c q => by rw [upd_ne (ne_of_none q hn)]; exact q) fun c xs q => by rw [upd_ne (ne_of_none q hn)]; exact q
end

/-- what may be read as u: it is u, or a known u -/
noncomputable def Rd (H : Hp) (a : Addr) (u : HO) : Prop := H a = some u ∨ ∃ o, H a = some (.frz o u)
theorem Rd.ok {P : Program} {w : World} {H : Hp} {h : Heap} {a : Addr} {u : HO} (r : Rd H a u) (x : HOk P w H h) : ObjOk P w H h a u := by
  rcases r with r | ⟨o, r⟩
  · exact x a u r
  · obtain ⟨_, q⟩ := x a _ r
    exact q
/-- what may be written -/
noncomputable def Mut : Option HO → Prop
  | some (.lst _) => True
  | some (.dK _) => True
  | some (.dT _) => True
  | some (.set _ _) => True
  | some (.ins _ _ _) => True
  | some (.ext _) => True
  | _ => False
section
variable {P : Program} {w : World} {H : Hp} {h h' : Heap} {x e : Addr} {o' : HO}
/-- the object at e is changed: x itself, or the dict of the instance x -/
theorem HOk.write (ok : HOk P w H h) (mu : Mut (H x)) (he : e = x ∨ H e = some (.own x)) (k : ∀ b u, b ≠ e → h.get? b = some u → h'.get? b = some u) (heo : ∃ u, h'.get? e = some u)
    (new : ObjOk P w (upd H x o') h' x o') : HOk P w (upd H x o') h' := fun b u q => by
  have nown : ∀ c y, H c = some (.own y) → c ≠ x := fun c y r z => by subst z; rw [r] at mu; exact mu
  have ntup : ∀ c xs, H c = some (.tup xs) → c ≠ x := fun c xs r z => by subst z; rw [r] at mu; exact mu
  by_cases hb : b = x
  · subst hb; rw [upd_same] at q; cases q; exact new
  · rw [upd_ne hb] at q
    by_cases hbe : b = e
    · have q' : H b = some (.own x) := by
        rcases he with z | z
        · exact absurd (hbe.trans z) hb
        · rw [hbe]; exact z
      rw [q] at q'; cases q'
      obtain ⟨v, hv⟩ := heo
      exact ⟨v, by rw [hbe]; exact hv⟩
    · refine (ok b u q).stay (fun c v hc r => k c v ?_ r) (fun c r => by rw [upd_ne (nown c b r)]; exact r) fun c xs r => by rw [upd_ne (ntup c xs r)]; exact r
      rcases hc with rfl | hc
      · exact hbe
      · rintro rfl
        rcases he with z | z
        · exact nown c b hc z
        · rw [hc] at z; cases z; exact hb rfl
end

/-! ### kept unless tracked; of the frames at fs (the callers') the slots may change (an exception that passes writes there); of the records at ex (iterators) nothing is said -/
structure Un (fs ex : List Addr) (H H' : Hp) (h h' : Heap) : Prop where
  keep : ∀ b o, h.get? b = some o → H b = none → b ∉ fs → b ∉ ex → h'.get? b = some o
  slot : ∀ b o, h.get? b = some o → H b = none → b ∈ fs → b ∉ ex → ∃ sl, h'.get? b = some { o with slots := sl }
  free : ∀ b o, h.get? b = some o → H b = none → b ∉ ex → H' b = none
  there : ∀ b o, h.get? b = some o → b ∉ ex → ∃ o', h'.get? b = some o'
  tups : ∀ b xs, H b = some (.tup xs) → H' b = some (.tup xs)
  frzs : ∀ b o u, H b = some (.frz o u) → H' b = some (.frz o u)
  tbls : ∀ b ps, H b = some (.tbl ps) → ∃ more, H' b = some (.tbl (ps ++ more))
section
variable {fs fs' ex ex' : List Addr} {H H1 H2 : Hp} {h h1 h2 h' : Heap} {a x e : Addr} {o : HO}
theorem Un.any (u : Un fs ex H H1 h h1) {b : Addr} {ob : Obj} (q : h.get? b = some ob) (n : H b = none) (hx : b ∉ ex) : ∃ sl, h1.get? b = some { ob with slots := sl } := by
  by_cases hb : b ∈ fs
  · exact u.slot b ob q n hb hx
  · exact ⟨ob.slots, u.keep b ob q n hb hx⟩
theorem Un.kept (k : ∀ b u, h.get? b = some u → h'.get? b = some u) : Un fs ex H H h h' :=
  ⟨fun b ob q _ _ _ => k b ob q, fun b ob q _ _ _ => ⟨ob.slots, k b ob q⟩, fun _ _ _ n _ => n, fun b ob q _ => ⟨ob, k b ob q⟩, fun _ _ q => q, fun _ _ _ q => q, fun _ ps q => ⟨#[], by rw [q]; simp⟩⟩
theorem Un.refl : Un fs ex H H h h := Un.kept fun _ _ q => q
theorem Un.laid (k : ∀ b u, h.get? b = some u → h'.get? b = some u) (hp : h.objs.size ≤ a) (hn : H a = none) : Un fs ex H (upd H a o) h h' where
  keep := fun b u q _ _ _ => k b u q
  slot := fun b u q _ _ _ => ⟨u.slots, k b u q⟩
  free := fun b u q n _ => by rw [upd_ne (Nat.ne_of_lt (Nat.lt_of_lt_of_le (Heap.lt_size q) hp))]; exact n
  there := fun b u q _ => ⟨u, k b u q⟩
  tups := fun b xs q => by rw [upd_ne (ne_of_none q hn)]; exact q
  frzs := fun b u xs q => by rw [upd_ne (ne_of_none q hn)]; exact q
  tbls := fun b ps q => ⟨#[], by rw [upd_ne (ne_of_none q hn), q]; simp⟩
theorem Un.write (mu : Mut (H x)) (he : e = x ∨ H e = some (.own x)) (k : ∀ b u, b ≠ e → h.get? b = some u → h'.get? b = some u) (heo : ∃ u, h'.get? e = some u) : Un fs ex H (upd H x o) h h' := by
  have hx : ∀ b, H b = none → b ≠ x := fun b n z => by subst z; rw [n] at mu; exact mu
  have hb : ∀ b, H b = none → b ≠ e := fun b n z => by
    subst z
    rcases he with r | r
    · exact hx b n r
    · rw [n] at r; cases r
  have hm : ∀ b u, H b = some u → ¬ Mut (some u) → b ≠ x := fun b u q nm z => by subst z; rw [q] at mu; exact nm mu
  refine ⟨fun b u q n _ _ => k b u (hb b n) q, fun b u q n _ _ => ⟨u.slots, k b u (hb b n) q⟩, fun b u q n _ => by rw [upd_ne (hx b n)]; exact n, fun b u q _ => ?_,
    fun b xs q => by rw [upd_ne (hm b _ q fun z => z)]; exact q, fun b u xs q => by rw [upd_ne (hm b _ q fun z => z)]; exact q, fun b ps q => ⟨#[], by rw [upd_ne (hm b _ q fun z => z), q]; simp⟩⟩
  by_cases hbe : b = e
  · subst hbe; exact heo
  · exact ⟨u, k b u hbe q⟩
end

/-! ### the heap without what is tracked -/
noncomputable def trk (h : Heap) (H : Hp) : List Addr := (List.range h.objs.size).filter fun a => (H a).isSome
noncomputable def hidT (h : Heap) (H : Hp) : Heap := PySem.W.hideAll h (trk h H)
theorem hidT_size (h : Heap) (H : Hp) : (hidT h H).objs.size = h.objs.size := PySem.W.hideAll_size _ _
theorem hidT_get {h : Heap} {H : Hp} {b : Addr} {o : Obj} (e : h.get? b = some o) (n : H b = none) : (hidT h H).get? b = some o :=
  PySem.W.hideAll_get _ e fun hm => by
    have q : (H b).isSome = true := (List.mem_filter.mp hm).2
    rw [n] at q; simp at q
theorem of_hidT {h : Heap} {H : Hp} {b : Addr} {o : Obj} (e : (hidT h H).get? b = some o) : h.get? b = some o ∧ H b = none := by
  have e' : h.get? b = some o := PySem.W.of_hideAll (trk h H) e
  refine ⟨e', ?_⟩
  cases q : H b with
  | none => rfl
  | some x =>
    have hm : b ∈ trk h H := List.mem_filter.mpr ⟨List.mem_range.mpr (Heap.lt_size e'), by simp [q]⟩
    have z : (hidT h H).get? b = none := PySem.W.hideAll_none (trk h H) hm
    rw [z] at e; cases e

/-! ### OpenK's ledger, filled with every new object but one -/
noncomputable def allNews (g h : Heap) (L : Addr) : List (Addr × Obj) := (List.range h.objs.size).filterMap fun a => if a = L ∨ (g.get? a).isSome = true then none else (h.get? a).map fun o => (a, o)
noncomputable def rest (g h : Heap) (L d : Addr) : List (Addr × Obj) := (allNews g h L).filter fun p => decide (p.1 ≠ d)
end L2

namespace L2
open PySem PySem.Spec PyProof.Rows

/-- the module's facts, over the base: the heap at the law's entry without what is tracked there -/
structure Mod (K : PySem.W.Frag) (mg : Str → Option Value) (base : Heap) : Prop where
  kin : K.In base
  glob : base.Ns mainGlobals mg
  blt : ∃ mb, base.Ns builtinsNs mb ∧ ∀ x : Str, x ≠ "__name__" → mb x = bootBuiltins x
  nolimit : base.NoLimit

/-- the context: a def's body (or a comprehension's block) running. base: fixed through the whole law; s₀, H₀: the entry; outer: the frames whose slots others may change (a def's callers); stack: all frames that run;
   ex: iterators that were made ahead of the entry and are walked here (a comprehension's); fn: the names whose cells were made at the entry (a def: all; a comprehension's block: its own); calm: not within an except suite; pn: pins that every state bears; xe: what is wanted of an exception that leaves the code -/
structure Cx where
  prog : Program
  w : World
  K : PySem.W.Frag
  mg : Str → Option Value
  base : Heap
  A : Around
  N : List Str
  s₀ : Shared
  H₀ : Hp
  env : Env
  outer : List Env
  stack : List Env
  ex : List Addr
  fn : Str → Bool
  calm : Bool
  pn : List (Addr × Obj)
  xe : Value → Shared → Prop
/-- the callers' frames -/
noncomputable def frs (l : List Env) : List Addr := l.filterMap (·.frame)
noncomputable abbrev Cx.fs (X : Cx) : List Addr := frs X.outer

noncomputable def Vis (sc : Scope) (x : Str) : Prop := sc.names.lookup x = some .local ∨ sc.names.lookup x = some .cell ∨ sc.names.lookup x = some .free
noncomputable def Loc (sc : Scope) (x : Str) : Prop := sc.names.lookup x = some .local ∨ sc.names.lookup x = some .cell
noncomputable def Look (env : Env) (h : Heap) (m : Str → Option Value) (x : Str) (u : Value) : Prop :=
  (env.kindOf x = some .local ∧ m x = some u) ∨ ((env.kindOf x = some .cell ∨ env.kindOf x = some .free) ∧ ∃ c, env.cells.lookup x = some c ∧ h.IsCell c (some u))

structure Cx.Ok (X : Cx) : Prop where
  mod : Mod X.K X.mg X.base
  kind : X.env.scope.kind = .function
  glob : X.env.globals = mainGlobals
  blt : X.env.builtins = builtinsNs
  above : X.s₀.heap.objs.size ≤ X.env.locals
  inj : ∀ x y c, X.env.cells.lookup x = some c → X.env.cells.lookup y = some c → x = y
  has : ∀ x, (X.env.kindOf x = some .cell ∨ X.env.kindOf x = some .free) → ∃ c, X.env.cells.lookup x = some c
  cab : ∀ x c, X.fn x = true → X.env.cells.lookup x = some c → X.s₀.heap.objs.size ≤ c
  hd : X.calm = true → X.A.handled = none
  frames : X.A.frames = some X.stack
  stk : X.stack = X.outer ∨ (X.stack = X.env :: X.outer ∧ X.env.frame = some X.env.locals)
  exf : ∀ b ∈ X.ex, b ≠ X.env.locals ∧ ∀ x c, X.env.cells.lookup x = some c → c ≠ b
  bs : ∀ b o, X.base.get? b = some o → X.s₀.heap.get? b = some o ∧ X.H₀ b = none
  bsz : X.base.objs.size ≤ X.s₀.heap.objs.size
  noex : ∀ b o, X.base.get? b = some o → b ∉ X.ex
  exfs : ∀ b ∈ X.ex, b ∉ X.fs
  funs : X.s₀.heap.FunFrames X.base X.outer
  frf : ∀ b ∈ X.fs, X.H₀ b = none

structure Inv (X : Cx) (pins : List (Addr × Obj)) (σ : List (Option V)) (H : Hp) (s : Shared) : Prop where
  ok : X.Ok
  os : s.os = X.s₀.os
  bare : AllBare s.gens
  base : Un X.fs X.ex X.H₀ H X.s₀.heap s.heap
  loc : ∃ m, s.heap.Ns X.env.locals m ∧ ∀ (i : Nat) (x : Str) (v : V), X.N[i]? = some x → σ[i]? = some (some v) → Vis X.env.scope x → ∃ u, RelV v u ∧ Look X.env s.heap m x u
  cell : ∀ x c, X.env.cells.lookup x = some c → ∃ v, s.heap.IsCell c v
  free : H X.env.locals = none
  freeC : ∀ x c, X.env.cells.lookup x = some c → H c = none
  pin : ∀ p ∈ X.pn ++ pins, s.heap.get? p.1 = some p.2 ∧ H p.1 = none ∧ p.1 ≠ X.env.locals ∧ p.1 ∉ X.fs ∧ ∀ v, p.2.data ≠ .cell v
  hok : HOk X.prog X.w H s.heap
  len : σ.length = X.N.length

section
variable {X : Cx} {pins : List (Addr × Obj)} {σ : List (Option V)} {H H' : Hp} {s : Shared} {h' : Heap}

theorem Cx.Ok.nofr (ok : X.Ok) {b : Addr} {o : Obj} (e : X.base.get? b = some o) : b ∉ X.fs := fun hb => by
  have := (ok.funs.mem hb).1
  rw [e] at this; cases this
theorem Inv.bs (I : Inv X pins σ H s) : ∀ b o, X.base.get? b = some o → s.heap.get? b = some o ∧ H b = none := fun b o e =>
  ⟨I.base.keep b o (I.ok.bs b o e).1 (I.ok.bs b o e).2 (I.ok.nofr e) (I.ok.noex b o e), I.base.free b o (I.ok.bs b o e).1 (I.ok.bs b o e).2 (I.ok.noex b o e)⟩
theorem Inv.bk (I : Inv X pins σ H s) : ∀ b o, X.base.get? b = some o → s.heap.get? b = some o := fun b o e => (I.bs b o e).1
theorem Inv.mod (I : Inv X pins σ H s) : Mod X.K X.mg X.base := I.ok.mod
theorem Inv.kIn (I : Inv X pins σ H s) : X.K.In s.heap := I.ok.mod.kin.keeps I.bk
theorem Inv.lt (I : Inv X pins σ H s) : X.env.locals < s.heap.objs.size := let ⟨_, hn, _⟩ := I.loc; hn.lt
theorem Inv.sz (I : Inv X pins σ H s) : X.s₀.heap.objs.size ≤ s.heap.objs.size := Nat.le_trans I.ok.above (Nat.le_of_lt I.lt)
theorem Inv.nofs (I : Inv X pins σ H s) {a : Addr} (h : s.heap.objs.size ≤ a) : a ∉ X.fs := fun hb => by
  obtain ⟨_, o, ho, _⟩ := I.ok.funs.mem hb
  exact absurd (Nat.lt_of_lt_of_le (Heap.lt_size ho) (Nat.le_trans I.sz h)) (Nat.lt_irrefl _)
theorem Inv.cne (I : Inv X pins σ H s) : ∀ x c, X.env.cells.lookup x = some c → c ≠ X.env.locals := fun x c e z => by
  obtain ⟨v, o, ho, hd⟩ := I.cell x c e
  obtain ⟨m, ⟨o', es, ep, ho', hd', _⟩, _⟩ := I.loc
  rw [z, ho'] at ho; cases ho; rw [hd'] at hd; cases hd
theorem Inv.funs (I : Inv X pins σ H s) : s.heap.FunFrames X.base X.outer := by
  have all : ∀ (l : List Env), (∀ b ∈ frs l, b ∈ X.fs) → X.s₀.heap.FunFrames X.base l → s.heap.FunFrames X.base l := by
    intro l
    induction l with
    | nil => intro _ _; trivial
    | cons env r ih =>
      intro hs hl
      obtain ⟨hk, ⟨L, o, hf, hn, ho, hd⟩, hr⟩ := hl
      have hL : L ∈ X.fs := hs L (by unfold frs; rw [List.filterMap_cons, hf]; exact List.mem_cons_self)
      obtain ⟨sl, e⟩ := I.base.slot L o ho (I.ok.frf L hL) hL fun z => I.ok.exfs L z hL
      exact ⟨hk, ⟨L, _, hf, hn, e, hd⟩, ih (fun b hb => hs b (by unfold frs; rw [List.filterMap_cons, hf]; exact List.mem_cons_of_mem _ hb)) hr⟩
  exact all X.outer (fun _ hb => hb) I.ok.funs

/-- the frames that run, for a call -/
theorem Inv.stack (I : Inv X pins σ H s) : s.heap.FunFrames X.base X.stack := by
  rcases I.ok.stk with e | ⟨e, hf⟩
  · rw [e]; exact I.funs
  · rw [e]
    obtain ⟨m, hn, _⟩ := I.loc
    refine .cons (by rw [I.ok.kind]; decide) hf hn ?_ I.funs
    exact Heap.get?_none_of_le (Nat.le_trans I.ok.bsz I.ok.above)
theorem Inv.stkSub (I : Inv X pins σ H s) : ∀ b ∈ frs X.stack, b ∈ X.env.locals :: X.fs := fun b hb => by
  rcases I.ok.stk with e | ⟨e, hf⟩
  · rw [e] at hb; exact List.mem_cons_of_mem _ hb
  · rw [e] at hb
    unfold frs at hb
    rw [List.filterMap_cons, hf] at hb
    exact hb
theorem Inv.stkFree (I : Inv X pins σ H s) : ∀ b ∈ frs X.stack, H b = none := fun b hb => by
  rcases List.mem_cons.mp (I.stkSub b hb) with e | hb
  · rw [e]; exact I.free
  · obtain ⟨_, o, ho, _⟩ := I.ok.funs.mem hb
    exact I.base.free b o ho (I.ok.frf b hb) fun z => I.ok.exfs b z hb

/-- THE STEP: the untracked objects but the frame and the records at ch are kept (the callers' frames up to slots), the frame's map is kept, the new abstract heap is held -/
theorem Inv.step {g' : Array GenState} {t' : Nat} {d' : Drawn} {ch : List Addr} (I : Inv X pins σ H s)
    (hch : ∀ b ∈ ch, (b ∈ X.ex ∨ X.s₀.heap.objs.size ≤ b) ∧ b ≠ X.env.locals ∧ (∀ x c, X.env.cells.lookup x = some c → c ≠ b) ∧ ∀ p ∈ X.pn ++ pins, p.1 ≠ b)
    (keep : ∀ b o, b ≠ X.env.locals → b ∉ X.fs → b ∉ ch → s.heap.get? b = some o → H b = none → h'.get? b = some o)
    (slot : ∀ b o, b ≠ X.env.locals → b ∈ X.fs → b ∉ ch → s.heap.get? b = some o → H b = none → ∃ sl, h'.get? b = some { o with slots := sl }) (free : ∀ b o, b ∉ ch → s.heap.get? b = some o → H b = none → H' b = none)
    (there : ∀ b o, b ∉ ch → s.heap.get? b = some o → ∃ o', h'.get? b = some o')
    (tups : ∀ b xs, H b = some (.tup xs) → H' b = some (.tup xs)) (frzs : ∀ b o u, H b = some (.frz o u) → H' b = some (.frz o u)) (tbls : ∀ b ps, H b = some (.tbl ps) → ∃ more, H' b = some (.tbl (ps ++ more)))
    (ns : ∀ m, s.heap.Ns X.env.locals m → h'.Ns X.env.locals m) (hok : HOk X.prog X.w H' h') (hg : AllBare g') :
    Inv X pins σ H' { s with heap := h', gens := g', drawn := d', toks := t' } := by
  have neL : ∀ b o, X.s₀.heap.get? b = some o → b ≠ X.env.locals := fun b o e => Nat.ne_of_lt (Nat.lt_of_lt_of_le (Heap.lt_size e) I.ok.above)
  have neC : ∀ b o, X.s₀.heap.get? b = some o → b ∉ X.ex → b ∉ ch := fun b o e hx hb => by
    rcases (hch b hb).1 with z | z
    · exact hx z
    · exact absurd (Nat.lt_of_lt_of_le (Heap.lt_size e) z) (Nat.lt_irrefl _)
  have cellK : ∀ x c, X.env.cells.lookup x = some c → ∀ v, s.heap.IsCell c v → h'.IsCell c v := fun x c e v ⟨o, ho, hd⟩ => by
    have nch : c ∉ ch := fun z => (hch c z).2.2.1 x c e rfl
    by_cases hc : c ∈ X.fs
    · obtain ⟨sl, q⟩ := slot c o (I.cne x c e) hc nch ho (I.freeC x c e)
      exact ⟨_, q, hd⟩
    · exact ⟨o, keep c o (I.cne x c e) hc nch ho (I.freeC x c e), hd⟩
  refine ⟨I.ok, I.os, hg, ⟨fun b o e n hb hx => ?_, fun b o e n hb hx => ?_, fun b o e n hx => ?_, fun b o e hx => ?_, fun b xs e => tups b xs (I.base.tups b xs e), fun b o xs e => frzs b o xs (I.base.frzs b o xs e), fun b ps e => ?_⟩, ?_, fun x c e => ?_, ?_, fun x c e => ?_, fun p hp => ?_, hok, I.len⟩
  · exact keep b o (neL b o e) hb (neC b o e hx) (I.base.keep b o e n hb hx) (I.base.free b o e n hx)
  · obtain ⟨sl, e1⟩ := I.base.slot b o e n hb hx
    obtain ⟨sl', e2⟩ := slot b _ (neL b o e) hb (neC b o e hx) e1 (I.base.free b o e n hx)
    exact ⟨sl', e2⟩
  · obtain ⟨o', e1⟩ := I.base.there b o e hx
    exact free b o' (neC b o e hx) e1 (I.base.free b o e n hx)
  · obtain ⟨o', e1⟩ := I.base.there b o e hx
    exact there b o' (neC b o e hx) e1
  · obtain ⟨m1, e1⟩ := I.base.tbls b ps e
    obtain ⟨m2, e2⟩ := tbls b _ e1
    exact ⟨m1 ++ m2, by rw [e2, Array.append_assoc]⟩
  · obtain ⟨m, hn, hl⟩ := I.loc
    refine ⟨m, ns m hn, fun i x v e1 e2 e3 => ?_⟩
    obtain ⟨u, r, l⟩ := hl i x v e1 e2 e3
    refine ⟨u, r, ?_⟩
    rcases l with l | ⟨k, c, e, z⟩
    · exact .inl l
    · exact .inr ⟨k, c, e, cellK x c e _ z⟩
  · obtain ⟨v, z⟩ := I.cell x c e
    exact ⟨v, cellK x c e v z⟩
  · obtain ⟨m, ⟨o, _, _, ho, _⟩, _⟩ := I.loc
    exact free _ o (fun z => (hch _ z).2.1 rfl) ho I.free
  · obtain ⟨v, o, ho, hd⟩ := I.cell x c e
    exact free c o (fun z => (hch c z).2.2.1 x c e rfl) ho (I.freeC x c e)
  · obtain ⟨e, n, ne, nf, d⟩ := I.pin p hp
    have nch : p.1 ∉ ch := fun z => (hch p.1 z).2.2.2 p hp rfl
    exact ⟨keep p.1 p.2 ne nf nch e n, free p.1 p.2 nch e n, ne, nf, d⟩
/-- .. where the frame's own object is kept too -/
theorem Inv.un {t' : Nat} (I : Inv X pins σ H s) (u : Un X.fs [] H H' s.heap h') (hok : HOk X.prog X.w H' h') : Inv X pins σ H' { s with heap := h', toks := t' } := by
  obtain ⟨m, ⟨o, es, ep, ho, r⟩, _⟩ := id I.loc
  obtain ⟨sl, hL⟩ := u.any ho I.free (by simp)
  exact I.step (g' := s.gens) (d' := s.drawn) (ch := []) (fun _ z => nomatch z) (fun b o _ hb _ e n => u.keep b o e n hb (by simp)) (fun b o _ hb _ e n => u.slot b o e n hb (by simp)) (fun b o _ e n => u.free b o e n (by simp)) (fun b o _ e => u.there b o e (by simp)) u.tups u.frzs u.tbls (fun m' hm => by
    obtain ⟨o', es', ep', ho', r'⟩ := hm
    rw [ho] at ho'; cases ho'
    exact ⟨_, es', ep', hL, r'⟩) hok I.bare
/-- behind a call (or a comprehension's block): the slots of this frame may have changed too, the records at ch may have turned -/
theorem Inv.call {g' : Array GenState} {t' : Nat} {d' : Drawn} {ch : List Addr} (I : Inv X pins σ H s) (u : Un (frs X.stack) ch H H' s.heap h') (hok : HOk X.prog X.w H' h') (hg : AllBare g')
    (hch : ∀ b ∈ ch, (b ∈ X.ex ∨ X.s₀.heap.objs.size ≤ b) ∧ b ≠ X.env.locals ∧ (∀ x c, X.env.cells.lookup x = some c → c ≠ b) ∧ ∀ p ∈ X.pn ++ pins, p.1 ≠ b) :
    Inv X pins σ H' { s with heap := h', gens := g', drawn := d', toks := t' } := by
  obtain ⟨m, ⟨o, es, ep, ho, r⟩, _⟩ := id I.loc
  obtain ⟨sl, hL⟩ := u.any ho I.free fun z => (hch _ z).2.1 rfl
  exact I.step (ch := ch) hch (fun b o hL hb hc e n => u.keep b o e n (fun z => (List.mem_cons.mp (I.stkSub b z)).elim hL hb) hc) (fun b o _ _ hc e n => u.any e n hc) (fun b o hc e n => u.free b o e n hc) (fun b o hc e => u.there b o e hc) u.tups u.frzs u.tbls (fun m' hm => by
    obtain ⟨o', es', ep', ho', r'⟩ := hm
    rw [ho] at ho'; cases ho'
    exact ⟨_, es', ep', hL, r'⟩) hok hg
/-- an untracked record of ours (an iterator) has turned -/
theorem Inv.turned {t' : Nat} {it : Addr} (I : Inv X pins σ H s) (k : ∀ b o, b ≠ it → s.heap.get? b = some o → h'.get? b = some o) (hn : H it = none) (hL : it ≠ X.env.locals)
    (h1 : it ∈ X.ex ∨ X.s₀.heap.objs.size ≤ it) (h2 : ∀ x c, X.env.cells.lookup x = some c → c ≠ it) (h3 : ∀ p ∈ X.pn ++ pins, p.1 ≠ it) : Inv X pins σ H { s with heap := h', toks := t' } := by
  have nit : ∀ b u, H b = some u → b ≠ it := fun b u e z => by rw [z, hn] at e; cases e
  refine I.step (g' := s.gens) (d' := s.drawn) (ch := [it]) (fun b hb => ?_) (fun b o _ _ hc e _ => k b o (fun z => hc (by simp [z])) e) (fun b o _ _ hc e _ => ⟨o.slots, k b o (fun z => hc (by simp [z])) e⟩) (fun _ _ _ _ n => n)
    (fun b o hc e => ⟨o, k b o (fun z => hc (by simp [z])) e⟩) (fun _ _ e => e) (fun _ _ _ e => e) (fun b ps e => ⟨#[], by rw [e]; simp⟩) (fun m hm => ?_) (fun b u e => ?_) I.bare
  · have e : b = it := by simpa using hb
    subst e
    exact ⟨h1, hL, h2, h3⟩
  · obtain ⟨o, es, ep, ho, r⟩ := hm
    exact ⟨o, es, ep, k _ o (Ne.symm hL) ho, r⟩
  · refine (I.hok b u e).stay (fun c v hc q => k c v ?_ q) (fun _ q => q) fun _ _ q => q
    rcases hc with z | z
    · rw [z]; exact nit b u e
    · exact nit c _ z
theorem Inv.tok (I : Inv X pins σ H s) (t : Nat) : Inv X pins σ H { s with toks := t } := I.un (h' := s.heap) (t' := t) Un.refl I.hok
/-- all objects kept -/
theorem Inv.kept {t' : Nat} (I : Inv X pins σ H s) (k : ∀ b u, s.heap.get? b = some u → h'.get? b = some u) : Inv X pins σ H { s with heap := h', toks := t' } := I.un (Un.kept k) (I.hok.kept k)
/-- a new object laid and tracked -/
theorem Inv.laid {a : Addr} {o : HO} {t' : Nat} (I : Inv X pins σ H s) (k : ∀ b u, s.heap.get? b = some u → h'.get? b = some u) (hp : s.heap.objs.size ≤ a) (new : ObjOk X.prog X.w (upd H a o) h' a o) :
    Inv X pins σ (upd H a o) { s with heap := h', toks := t' } := I.un (Un.laid k hp (I.hok.fresh hp)) (I.hok.laid k hp new)
/-- an object written -/
theorem Inv.write {x e : Addr} {o : HO} {t' : Nat} (I : Inv X pins σ H s) (mu : Mut (H x)) (he : e = x ∨ H e = some (.own x)) (k : ∀ b u, b ≠ e → s.heap.get? b = some u → h'.get? b = some u) (heo : ∃ u, h'.get? e = some u)
    (new : ObjOk X.prog X.w (upd H x o) h' x o) : Inv X pins σ (upd H x o) { s with heap := h', toks := t' } := I.un (Un.write mu he k heo) (I.hok.write mu he k heo new)
theorem Inv.pins_of {pins' : List (Addr × Obj)} (I : Inv X pins σ H s) (h : ∀ p ∈ pins', s.heap.get? p.1 = some p.2 ∧ H p.1 = none ∧ p.1 ≠ X.env.locals ∧ p.1 ∉ X.fs ∧ ∀ v, p.2.data ≠ .cell v) : Inv X pins' σ H s :=
  ⟨I.ok, I.os, I.bare, I.base, I.loc, I.cell, I.free, I.freeC, fun p hp => (List.mem_append.mp hp).elim (fun z => I.pin p (List.mem_append_left _ z)) (h p), I.hok, I.len⟩

theorem nodup_ix {N : List Str} (hN : N.Nodup) {i j : Nat} {x : Str} (a : N[i]? = some x) (b : N[j]? = some x) : i = j := by
  obtain ⟨h1, e1⟩ := List.getElem?_eq_some_iff.mp a
  obtain ⟨h2, e2⟩ := List.getElem?_eq_some_iff.mp b
  exact (List.getElem_inj hN).mp (e1.trans e2.symm)

/-- a name is stored; what changed -/
theorem store_ok2 {M : Model} {A : Around} {E : Value → Shared → Prop} {i : Nat} {x : Str} {v : V} {u : Value} {Q : Unit → Shared → Prop} (I : Inv X pins σ H s) (hN : X.N.Nodup) (hi : X.N[i]? = some x) (hx : Loc X.env.scope x) (r : RelV v u)
    (h : ∀ s', Inv X pins (σ.set i (some v)) H s' → (∃ a, Heap.SameBut a s.heap s'.heap ∧ (a = X.env.locals ∨ X.env.cells.lookup x = some a)) → Q () s') (hf : X.fn x = true ∨ X.env.scope.names.lookup x = some .local := by first | exact .inl rfl | exact .inr rfl | assumption) : wpAny M A (storeName X.env x u) Q E s := by
  obtain ⟨m, hn, hl⟩ := id I.loc
  have hcls : (X.env.scope.kind == .class || (X.env.scope.kind == .module && X.env.locals != X.env.globals)) = false := by rw [I.ok.kind]; rfl
  have hiσ : i < σ.length := by rw [I.len]; exact (List.getElem?_eq_some_iff.mp hi).1
  have cne := I.cne
  have tracked : ∀ {a : Addr} {h' : Heap}, (∃ o, s.heap.get? a = some o ∧ H a = none) → Heap.SameBut a s.heap h' → HOk X.prog X.w H h' := fun {a h'} ha hs b ob e => by
    obtain ⟨_, _, hfree⟩ := ha
    refine (I.hok b ob e).stay (fun c w' hc q => (hs.2 c ?_).trans q) (fun _ q => q) fun _ _ q => q
    rintro rfl
    rcases hc with rfl | hc
    · rw [hfree] at e; cases e
    · rw [hfree] at hc; cases hc
  rcases hx with hk | hk
  · refine wpAny_storeName_local hk hn (fun h' hn' hs => ?_) hcls
    obtain ⟨oL, _, _, hoL, _⟩ := id hn
    refine h _ ⟨I.ok, I.os, I.bare, ⟨fun b o e n hb hx => ?_, fun b o e n hb hx => ?_, I.base.free, fun b o e hx => ?_, I.base.tups, I.base.frzs, I.base.tbls⟩, ⟨_, hn', fun j y v' e1 e2 e3 => ?_⟩, fun y c e => ?_, I.free, I.freeC, fun p hp => ?_, tracked ⟨oL, hoL, I.free⟩ hs, by simpa using I.len⟩ ⟨_, hs, .inl rfl⟩
    · exact (hs.2 b (Nat.ne_of_lt (Nat.lt_of_lt_of_le (Heap.lt_size e) I.ok.above))).trans (I.base.keep b o e n hb hx)
    · obtain ⟨sl, e1⟩ := I.base.slot b o e n hb hx
      exact ⟨sl, (hs.2 b (Nat.ne_of_lt (Nat.lt_of_lt_of_le (Heap.lt_size e) I.ok.above))).trans e1⟩
    · obtain ⟨o', e1⟩ := I.base.there b o e hx
      exact ⟨o', (hs.2 b (Nat.ne_of_lt (Nat.lt_of_lt_of_le (Heap.lt_size e) I.ok.above))).trans e1⟩
    · by_cases hj : j = i
      · subst hj
        rw [hi] at e1; cases e1
        rw [List.getElem?_set_self hiσ] at e2
        cases e2
        exact ⟨u, r, .inl ⟨hk, by simp⟩⟩
      · rw [List.getElem?_set_ne (Ne.symm hj)] at e2
        obtain ⟨u', r', q⟩ := hl j y v' e1 e2 e3
        refine ⟨u', r', ?_⟩
        rcases q with ⟨k, e⟩ | ⟨k, c, e, z⟩
        · refine .inl ⟨k, ?_⟩
          have : y ≠ x := fun e => hj (nodup_ix hN e1 (e ▸ hi))
          simp [this, e]
        · exact .inr ⟨k, c, e, z.sameBut hs (cne y c e)⟩
    · obtain ⟨w', z⟩ := I.cell y c e
      exact ⟨w', z.sameBut hs (cne y c e)⟩
    · obtain ⟨e, n, ne, nf, d⟩ := I.pin p hp
      exact ⟨(hs.2 p.1 ne).trans e, n, ne, nf, d⟩
  · have hfn : X.fn x = true := by
      rcases hf with z | z
      · exact z
      · rw [z] at hk; cases hk
    obtain ⟨c, hc⟩ := I.ok.has x (.inl hk)
    obtain ⟨w', z⟩ := I.cell x c hc
    refine wpAny_storeName_cell I.ok.kind hk hc z (fun h' hc' hs => ?_)
    obtain ⟨oc, hoc, hocd⟩ := id z
    refine h { s with heap := h' } ⟨I.ok, I.os, I.bare, ⟨fun b o e n hb hx => ?_, fun b o e n hb hx => ?_, I.base.free, fun b o e hx => ?_, I.base.tups, I.base.frzs, I.base.tbls⟩, ⟨m, hn.sameBut hs (Ne.symm (cne x c hc)), fun j y v' e1 e2 e3 => ?_⟩, fun y c' e => ?_, I.free, I.freeC, fun p hp => ?_, tracked ⟨oc, hoc, I.freeC x c hc⟩ hs, by simpa using I.len⟩ ⟨c, hs, .inr hc⟩
    · exact (hs.2 b (Nat.ne_of_lt (Nat.lt_of_lt_of_le (Heap.lt_size e) (I.ok.cab x c hfn hc)))).trans (I.base.keep b o e n hb hx)
    · obtain ⟨sl, e1⟩ := I.base.slot b o e n hb hx
      exact ⟨sl, (hs.2 b (Nat.ne_of_lt (Nat.lt_of_lt_of_le (Heap.lt_size e) (I.ok.cab x c hfn hc)))).trans e1⟩
    · obtain ⟨o', e1⟩ := I.base.there b o e hx
      exact ⟨o', (hs.2 b (Nat.ne_of_lt (Nat.lt_of_lt_of_le (Heap.lt_size e) (I.ok.cab x c hfn hc)))).trans e1⟩
    · by_cases hj : j = i
      · subst hj
        rw [hi] at e1; cases e1
        rw [List.getElem?_set_self hiσ] at e2
        cases e2
        exact ⟨u, r, .inr ⟨.inl hk, c, hc, hc'⟩⟩
      · rw [List.getElem?_set_ne (Ne.symm hj)] at e2
        obtain ⟨u', r', q⟩ := hl j y v' e1 e2 e3
        refine ⟨u', r', ?_⟩
        rcases q with q | ⟨k, c', e, z'⟩
        · exact .inl q
        · refine .inr ⟨k, c', e, z'.sameBut hs ?_⟩
          rintro rfl
          exact hj (nodup_ix hN e1 (I.ok.inj _ _ _ e hc ▸ hi))
    · by_cases hcc : c' = c
      · subst hcc; exact ⟨_, hc'⟩
      · obtain ⟨w2, z2⟩ := I.cell y c' e
        exact ⟨w2, z2.sameBut hs hcc⟩
    · obtain ⟨e, n, ne, nf, d⟩ := I.pin p hp
      refine ⟨(hs.2 p.1 ?_).trans e, n, ne, nf, d⟩
      intro q
      rw [q, hoc] at e
      have q' : oc = p.2 := Option.some.inj e
      exact d w' (by rw [← q']; exact hocd)
theorem store_ok {M : Model} {A : Around} {E : Value → Shared → Prop} {i : Nat} {x : Str} {v : V} {u : Value} {Q : Unit → Shared → Prop} (I : Inv X pins σ H s) (hN : X.N.Nodup) (hi : X.N[i]? = some x) (hx : Loc X.env.scope x) (r : RelV v u)
    (h : ∀ s', Inv X pins (σ.set i (some v)) H s' → Q () s') (hf : X.fn x = true ∨ X.env.scope.names.lookup x = some .local := by first | exact .inl rfl | exact .inr rfl | assumption) : wpAny M A (storeName X.env x u) Q E s :=
  store_ok2 I hN hi hx r (fun s' I' _ => h s' I') hf
/-- behind a call or a block, the state as it is -/
theorem Inv.call' {s' : Shared} {ch : List Addr} (I : Inv X pins σ H s) (ho : s'.os = s.os) (u : Un (frs X.stack) ch H H' s.heap s'.heap) (hok : HOk X.prog X.w H' s'.heap) (hg : AllBare s'.gens)
    (hch : ∀ b ∈ ch, (b ∈ X.ex ∨ X.s₀.heap.objs.size ≤ b) ∧ b ≠ X.env.locals ∧ (∀ x c, X.env.cells.lookup x = some c → c ≠ b) ∧ ∀ p ∈ X.pn ++ pins, p.1 ≠ b) : Inv X pins σ H' s' := by
  obtain ⟨h', g', d', t', o'⟩ := s'
  have e : o' = s.os := ho
  subst e
  exact I.call (g' := g') (t' := t') (d' := d') u hok hg hch
end

/-! ### the judgements -/
/-- an exception: its class, its own dict's address (where it has one), the abstract heap behind it -/
noncomputable abbrev XK := Value → Option Addr → Hp → Prop
noncomputable abbrev St := List (Option V)
noncomputable abbrev VK := V → Hp → Prop
/-- an expression's reading; a test's; an argument list's -/
noncomputable abbrev TE := St → Hp → VK → Prop
noncomputable abbrev TT := St → Hp → (Bool → Hp → Prop) → Prop
noncomputable abbrev TA := St → Hp → (List V → Hp → Prop) → Prop
/-- what is wanted behind a statement -/
structure Ends where
  nx : St → Hp → Prop
  rt : VK
  bk : St → Hp → Prop := fun _ _ => False
  ct : St → Hp → Prop := fun _ _ => False
noncomputable abbrev TS := Ends → St → Hp → Prop

noncomputable def EP (X : Cx) (pins : List (Addr × Obj)) (σ : St) (Q : VK) (u : Value) (s' : Shared) : Prop := ∃ v H', Inv X pins σ H' s' ∧ RelV v u ∧ Q v H'
noncomputable def TP (X : Cx) (pins : List (Addr × Obj)) (σ : St) (Q : Bool → Hp → Prop) (b : Bool) (s' : Shared) : Prop := ∃ H', Inv X pins σ H' s' ∧ Q b H'
noncomputable def AP (X : Cx) (pins : List (Addr × Obj)) (σ : St) (Q : List V → Hp → Prop) (us : List Value) (s' : Shared) : Prop := ∃ vs H', Inv X pins σ H' s' ∧ Vals vs us ∧ Q vs H'
noncomputable def SP (X : Cx) (pins : List (Addr × Obj)) (D : Ends) (f : Flow) (s' : Shared) : Prop :=
  match f with
  | .next => ∃ σ' H', Inv X pins σ' H' s' ∧ D.nx σ' H'
  | .brk => ∃ σ' H', Inv X pins σ' H' s' ∧ D.bk σ' H'
  | .cont => ∃ σ' H', Inv X pins σ' H' s' ∧ D.ct σ' H'
  | .ret u => ∃ v σ' H', Inv X pins σ' H' s' ∧ RelV v u ∧ D.rt v H'

noncomputable def PE (X : Cx) (e : Expr) (t : TE) : Prop :=
  ∀ (pins : List (Addr × Obj)) (s : Shared) (σ : St) (H : Hp) (Q : VK), Inv X pins σ H s → t σ H Q → wpAny (model X.prog X.w) X.A (eval e X.env) (EP X pins σ Q) X.xe s
noncomputable def PT (X : Cx) (e : Expr) (t : TT) : Prop :=
  ∀ (pins : List (Addr × Obj)) (s : Shared) (σ : St) (H : Hp) (Q : Bool → Hp → Prop), Inv X pins σ H s → t σ H Q → wpAny (model X.prog X.w) X.A (isTrue e X.env (eval e X.env)) (TP X pins σ Q) X.xe s
/-- a test whatever its 'whole' is (and, or) -/
noncomputable def PW (X : Cx) (e : Expr) (t : TT) : Prop :=
  ∀ (whole : Sem Value) (pins : List (Addr × Obj)) (s : Shared) (σ : St) (H : Hp) (Q : Bool → Hp → Prop), Inv X pins σ H s → t σ H Q → wpAny (model X.prog X.w) X.A (isTrue e X.env whole) (TP X pins σ Q) X.xe s
theorem PW.pt {X : Cx} {e : Expr} {t : TT} (h : PW X e t) : PT X e t := h _
/-- an argument list (no star), from the left -/
noncomputable def PA (X : Cx) (es : List Expr) (t : TA) : Prop :=
  ∀ (pos : Pos) (pins : List (Addr × Obj)) (s : Shared) (σ : St) (H : Hp) (Q : List V → Hp → Prop), Inv X pins σ H s → t σ H Q → wpAny (model X.prog X.w) X.A (spliced (backTo pos (starEach es X.env))) (AP X pins σ Q) X.xe s
noncomputable def PS (X : Cx) (st : Stmt) (t : TS) : Prop :=
  ∀ (pins : List (Addr × Obj)) (s : Shared) (σ : St) (H : Hp) (D : Ends), Inv X pins σ H s → t D σ H → wpAny (model X.prog X.w) X.A (exec st X.env) (SP X pins D) X.xe s
noncomputable def PSs (X : Cx) (st : List Stmt) (t : TS) : Prop :=
  ∀ (pins : List (Addr × Obj)) (s : Shared) (σ : St) (H : Hp) (D : Ends), Inv X pins σ H s → t D σ H → wpAny (model X.prog X.w) X.A (execs st X.env) (SP X pins D) X.xe s
/-- weaken the end -/
theorem thn {α : Type} {t : Sem α} {Q Q' : α → Shared → Prop} {M : Model} {A : Around} {E : Value → Shared → Prop} {s : Shared} (h : wpAny M A t Q E s) (hQ : ∀ a s, Q a s → Q' a s) : wpAny M A t Q' E s := wpAny_mono h hQ fun _ _ x => x
end L2

namespace L2
open PySem PySem.Spec PyProof.Rows
section
variable {X : Cx}

/-! ### names and constants -/
noncomputable def tVar (i : Nat) : TE := fun σ H Q => ∃ v, σ[i]? = some (some v) ∧ Q v H
noncomputable def tC (v : V) : TE := fun _ H Q => Q v H
theorem pe_var {i : Nat} {x : Str} {pos : Pos} (hN : X.N[i]? = some x) (hv : Vis X.env.scope x) (hd : (x == ("__debug__" : Str)) = false := by decide) (hcd : (x == ("__classdict__" : Str)) = false := by decide) : PE X (.Name x pos) (tVar i) := by
  intro pins s σ H Q I h
  obtain ⟨v, e, h⟩ := h
  obtain ⟨m, hn, hl⟩ := I.loc
  obtain ⟨u, r, l⟩ := hl i x v hN e hv
  have fin : EP X pins σ Q u s := ⟨v, H, I, r, h⟩
  rcases l with ⟨hk, hm⟩ | ⟨hk, c, hc, hcell⟩
  · exact wpAny_Name (wpAny_loadName_local I.ok.kind hk hn hm fin) hd
  · rcases hk with hk | hk
    · exact wpAny_Name (wpAny_loadName_cell I.ok.kind hk hc hcell fin) hd
    · exact wpAny_Name (wpAny_loadName_free I.ok.kind hk hc hcell fin hcd) hd
theorem pe_int {i j pos} : PE X (.Constant (.int i) j pos) (tC (.int i)) := fun _ _ _ H _ I h => wpAny_Constant_int ⟨.int i, H, I.tok _, ⟨_, rfl⟩, h⟩
theorem pe_bl {b j pos} : PE X (.Constant (.bool b) j pos) (tC (.bl b)) := fun _ _ _ H _ I h => Constant_bool ⟨.bl b, H, I, rfl, h⟩
theorem pe_non {j pos} : PE X (.Constant .none j pos) (tC .non) := fun _ _ _ H _ I h => Constant_none ⟨.non, H, I, rfl, h⟩
theorem pe_str {x j pos} : PE X (.Constant (.str x) j pos) (tC (.str x)) := fun _ _ _ H _ I h => Calls.Constant_str ⟨.str x, H, I.tok _, ⟨_, rfl⟩, h⟩

/-- a global name of the def -/
noncomputable def Gl (X : Cx) (x : Str) : Prop := X.env.kindOf x = some .globalImplicit
theorem ld_glob {E : Value → Shared → Prop} {pins : List (Addr × Obj)} {s : Shared} {σ : St} {H : Hp} {x : Str} {u : Value} {pos : Pos} {Q : Value → Shared → Prop} (I : Inv X pins σ H s) (hg : Gl X x) (hm : X.mg x = some u) (h : Q u s)
    (hd : (x == ("__debug__" : Str)) = false := by decide) : wpAny (model X.prog X.w) X.A (eval (.Name x pos) X.env) Q E s :=
  Calls.Name_function_global I.ok.kind hg (Calls.loadGlobal_global (by rw [I.ok.glob]; exact I.mod.glob.keeps I.bk) hm h) hd
theorem ld_blt {E : Value → Shared → Prop} {pins : List (Addr × Obj)} {s : Shared} {σ : St} {H : Hp} {x : Str} {u : Value} {pos : Pos} {Q : Value → Shared → Prop} (I : Inv X pins σ H s) (hg : Gl X x) (hm : X.mg x = none) (hv : bootBuiltins x = some u) (h : Q u s)
    (hn : x ≠ "__name__" := by decide) (hd : (x == ("__debug__" : Str)) = false := by decide) : wpAny (model X.prog X.w) X.A (eval (.Name x pos) X.env) Q E s := by
  obtain ⟨mb, h1, h2⟩ := I.mod.blt
  exact Calls.Name_function_global I.ok.kind hg (Calls.loadGlobal_builtin (by rw [I.ok.glob]; exact I.mod.glob.keeps I.bk) hm (by rw [I.ok.blt]; exact h1.keeps I.bk) ((h2 x hn).trans hv) h) hd
theorem pe_bltn {x : Str} {v : V} {u : Value} {pos : Pos} (hg : Gl X x) (hm : X.mg x = none) (hv : bootBuiltins x = some u) (r : RelV v u) (hn : x ≠ "__name__" := by decide) (hd : (x == ("__debug__" : Str)) = false := by decide) : PE X (.Name x pos) (tC v) :=
  fun _ _ _ H _ I h => ld_blt I hg hm hv ⟨v, H, I, r, h⟩ hn hd

/-! ### arithmetic -/
variable {a b : Expr} {ta tb : TE} {pos : Pos}
/-! ### comparisons -/
noncomputable def PC (X : Cx) (op : CmpOp) (a b : Expr) (t : TE) : Prop :=
  ∀ (pins : List (Addr × Obj)) (s : Shared) (σ : St) (H : Hp) (Q : VK), Inv X pins σ H s → t σ H Q →
    wpAny (model X.prog X.w) X.A (eval a X.env) (fun v s₁ => wpAny (model X.prog X.w) X.A (eval b X.env) (fun u s₂ => wpAny (model X.prog X.w) X.A (compareOp op v u) (EP X pins σ Q) X.xe s₂) X.xe s₁) X.xe s
theorem nobehind (b : Expr) {op : CmpOp} (h : op ≠ .In) (h2 : op ≠ .NotIn) : behindInMarks op b = false := by
  have e1 : (op == CmpOp.In) = false := by cases op <;> first | rfl | exact absurd rfl h
  have e2 : (op == CmpOp.NotIn) = false := by cases op <;> first | rfl | exact absurd rfl h2
  cases b <;> simp [behindInMarks, e1, e2]
noncomputable def tNotN (ta : TE) : TE := fun σ H Q => ta σ H fun x H1 => Q (.bl (!decide (x = .non))) H1
theorem RelV.none_iff {x : V} {v : Value} (r : RelV x v) : (v == Value.none) = decide (x = .non) := by
  cases x with
  | non => cases r; rfl
  | bl _ => cases r; rfl
  | int _ => obtain ⟨t, rfl⟩ := r; rfl
  | str _ => obtain ⟨t, rfl⟩ := r; rfl
  | byt _ => obtain ⟨t, rfl⟩ := r; rfl
  | flt _ => obtain ⟨t, rfl⟩ := r; rfl
  | ref _ => cases r; rfl
  | ty _ => cases r; rfl
theorem pc_notN {j pos'} (ha : PE X a ta) : PC X .IsNot a (.Constant .none j pos') (tNotN ta) := by
  intro pins s σ H Q I h
  refine thn (ha pins s σ H _ I h) fun v s1 ⟨x, H1, I1, r1, q1⟩ => ?_
  exact Constant_none (isnot_none_gen ⟨.bl _, H1, I1, by rw [r1.none_iff]; rfl, q1⟩)
/-- a comparison as a value, as a test -/
noncomputable def tB (t : TE) : TT := fun σ H Q => t σ H fun x H1 => ∃ c, x = .bl c ∧ Q c H1
theorem pt_cmp {op : CmpOp} {t : TE} (h : PC X op a b t) (h1 : behindInMarks op b = false := by first | exact nobehind _ (by decide) (by decide) | rfl) : PT X (.Compare a [op] [b] pos) (tB t) := by
  intro pins s σ H Q I hw
  refine wpAny_isTrue_Compare1 (thn (h pins s σ H _ I hw) fun v s1 h1 => thn h1 fun u s2 h2 => thn h2 fun c s3 ⟨x, H1, I1, r1, q1⟩ => ?_) h1
  obtain ⟨d, rfl, q⟩ := q1
  cases r1
  exact wpAny_truthy_bool ⟨H1, I1, q⟩
/-- an expression whose value is a bool, as a test -/
theorem pt_val {e : Expr} {t : TE} (h : PE X e t) (he : ∀ whole, isTrue e X.env whole = (do let v ← whole; standAt e.pos; holding [v] (truthy v)) := by intro _; rfl) : PT X e (tB t) := by
  intro pins s σ H Q I hw
  refine isTrue_plain (thn (h pins s σ H _ I hw) fun v s1 ⟨x, H1, I1, r1, q1⟩ => ?_) (he _)
  obtain ⟨d, rfl, q⟩ := q1
  cases r1
  exact wpAny_truthy_bool ⟨H1, I1, q⟩

/-! ### and, or, not -/
variable {tA tB' : TT} {rest : List Expr}
noncomputable def tAnd (t u : TT) : TT := fun σ H Q => t σ H fun c H1 => if c = true then u σ H1 Q else Q false H1
noncomputable def tOr (t u : TT) : TT := fun σ H Q => t σ H fun c H1 => if c = true then Q true H1 else u σ H1 Q
noncomputable def tNot (t : TT) : TT := fun σ H Q => t σ H fun c H1 => Q (!c) H1
theorem pw_and1 (ha : PT X a tA) : PW X (.BoolOp .And [a] pos) tA := by
  intro wh pins s σ H Q I h
  refine isTrue_and (thn (ha pins s σ H Q I h) fun c s1 e => ?_)
  cases c with
  | true => exact isTrue_and_nil e
  | false => exact e
theorem pw_or1 (ha : PT X a tA) : PW X (.BoolOp .Or [a] pos) tA := by
  intro wh pins s σ H Q I h
  refine isTrue_or (thn (ha pins s σ H Q I h) fun c s1 e => ?_)
  cases c with
  | false => exact isTrue_or_nil e
  | true => exact e
theorem pw_and (ha : PT X a tA) (hb : PW X (.BoolOp .And (b :: rest) pos) tB') : PW X (.BoolOp .And (a :: b :: rest) pos) (tAnd tA tB') := by
  intro wh pins s σ H Q I h
  refine isTrue_and (thn (ha pins s σ H _ I h) fun c s1 ⟨H1, I1, q1⟩ => ?_)
  cases c with
  | true => exact hb wh pins s1 σ H1 Q I1 q1
  | false => exact ⟨H1, I1, q1⟩
theorem pw_or (ha : PT X a tA) (hb : PW X (.BoolOp .Or (b :: rest) pos) tB') : PW X (.BoolOp .Or (a :: b :: rest) pos) (tOr tA tB') := by
  intro wh pins s σ H Q I h
  refine isTrue_or (thn (ha pins s σ H _ I h) fun c s1 ⟨H1, I1, q1⟩ => ?_)
  cases c with
  | true => exact ⟨H1, I1, q1⟩
  | false => exact hb wh pins s1 σ H1 Q I1 q1
theorem pt_not (ha : PT X a tA) : PT X (.UnaryOp .Not a pos) (tNot tA) := by
  intro pins s σ H Q I h
  exact isTrue_not (ha pins s σ H (fun c H1 => Q (!c) H1) I h)
noncomputable def tNotV (ta : TE) : TE := fun σ H Q => ta σ H fun x H1 => ∃ c, x = .bl c ∧ Q (.bl (!c)) H1
theorem pe_not (ha : PE X a ta) : PE X (.UnaryOp .Not a pos) (tNotV ta) := by
  intro pins s σ H Q I h
  refine UnaryOp_ (thn (ha pins s σ H _ I h) fun v s1 ⟨x, H1, I1, r1, q1⟩ => ?_)
  obtain ⟨c, rfl, q1⟩ := q1
  cases r1
  exact not_of (wpAny_truthy_bool ⟨.bl (!c), H1, I1, rfl, q1⟩)
/-- a if t else b -/
noncomputable def tIf (t : TT) (ta tb : TE) : TE := fun σ H Q => t σ H fun c H1 => if c = true then ta σ H1 Q else tb σ H1 Q
theorem pe_ifExp {c : Expr} (hc : PT X c tA) (ha : PE X a ta) (hb : PE X b tb) : PE X (.IfExp c a b pos) (tIf tA ta tb) := by
  intro pins s σ H Q I h
  refine wpAny_IfExp (thn (hc pins s σ H _ I h) fun d s1 ⟨H1, I1, q1⟩ => ?_)
  cases d with
  | true => exact ha pins s1 σ H1 Q I1 q1
  | false => exact hb pins s1 σ H1 Q I1 q1
end
end L2

namespace L2
open PySem PySem.Spec PyProof.Rows

/-! ### a list, a tuple that is read: tracked, frozen, or an object of the module -/
noncomputable def SqL (K : PySem.W.Frag) (H : Hp) (a : Addr) (xs : List V) : Prop :=
  Rd H a (.lst xs) ∨
    ∃ (o : Obj) (its : Array Value) (n : Nat), K.lookup a = some o ∧ o.cls = .type "list" ∧ o.dict = none ∧ o.data = .seq its n ∧ its.size ≤ sizeLine ∧ Vals xs its.toList
noncomputable def SqT (K : PySem.W.Frag) (H : Hp) (a : Addr) (xs : List V) : Prop :=
  Rd H a (.tup xs) ∨
    ∃ (o : Obj) (its : Array Value) (n : Nat), K.lookup a = some o ∧ o.cls = .type "tuple" ∧ o.data = .seq its n ∧ its.size ≤ sizeLine ∧ Vals xs its.toList
noncomputable def absV : Value → Option V
  | .none => some .non
  | .bool b => some (.bl b)
  | .int i _ => some (.int i)
  | .str x _ => some (.str x)
  | .bytes b _ => some (.byt b)
  | .float b _ => some (.flt b)
  | .ref a => some (.ref a)
  | .type n => some (.ty n)
  | _ => none
theorem RelV.abs {x : V} {u : Value} (r : RelV x u) : absV u = some x := by
  cases x with
  | non => cases r; rfl
  | bl _ => cases r; rfl
  | int _ => obtain ⟨t, rfl⟩ := r; rfl
  | str _ => obtain ⟨t, rfl⟩ := r; rfl
  | byt _ => obtain ⟨t, rfl⟩ := r; rfl
  | flt _ => obtain ⟨t, rfl⟩ := r; rfl
  | ref _ => cases r; rfl
  | ty _ => cases r; rfl
theorem RelV.inj {x y : V} {u : Value} (r : RelV x u) (q : RelV y u) : x = y := Option.some.inj (r.abs.symm.trans q.abs)
theorem Vals.inj : ∀ {xs ys : List V} {us : List Value}, Vals xs us → Vals ys us → xs = ys
  | _, _, _, .nil, .nil => rfl
  | _, _, _, .cons r t, .cons r' t' => by rw [r.inj r', Vals.inj t t']
section
variable {X : Cx} {pins : List (Addr × Obj)} {σ : St} {H : Hp} {s : Shared} {a : Addr} {xs ys : List V}
theorem SqL.of {K : PySem.W.Frag} (h : H a = some (.lst xs)) : SqL K H a xs := .inl (.inl h)
theorem SqT.of {K : PySem.W.Frag} (h : H a = some (.tup xs)) : SqT K H a xs := .inl (.inl h)
theorem Inv.list (I : Inv X pins σ H s) (h : SqL X.K H a xs) : ∃ its : List Value, Vals xs its ∧ PlainL s.heap a its.toArray ∧ xs.length ≤ sizeLine := by
  rcases h with h | ⟨o, its, n, hk, hc, hd, hs, hz, r⟩
  · obtain ⟨z, its, n, r, e⟩ := h.ok I.hok
    exact ⟨its, r, ⟨_, n, e, rfl, rfl, rfl⟩, z⟩
  · refine ⟨its.toList, r, ⟨o, n, I.kIn a o hk, hc, hd, by simpa using hs⟩, ?_⟩
    have e := r.length
    simp only [Array.length_toList] at e
    omega
theorem Inv.tuple (I : Inv X pins σ H s) (h : SqT X.K H a xs) : ∃ its : List Value, Vals xs its ∧ IsTup s.heap a its.toArray ∧ xs.length ≤ sizeLine := by
  rcases h with h | ⟨o, its, n, hk, hc, hs, hz, r⟩
  · obtain ⟨z, its, r, p⟩ := h.ok I.hok
    exact ⟨its, r, p, z⟩
  · refine ⟨its.toList, r, ⟨o, I.kIn a o hk, hc, n, by simpa using hs⟩, ?_⟩
    have e := r.length
    simp only [Array.length_toList] at e
    omega
theorem Inv.list_inj (I : Inv X pins σ H s) (h : SqL X.K H a xs) (h' : SqL X.K H a ys) : xs = ys := by
  obtain ⟨its, r, ⟨o, n, e, _, _, d⟩, _⟩ := I.list h
  obtain ⟨its', r', ⟨o', n', e', _, _, d'⟩, _⟩ := I.list h'
  rw [e] at e'; cases e'
  rw [d] at d'
  injection d' with d1 _
  have : its = its' := by simpa using congrArg Array.toList d1
  subst this
  exact r.inj r'
theorem Inv.tuple_inj (I : Inv X pins σ H s) (h : SqT X.K H a xs) (h' : SqT X.K H a ys) : xs = ys := by
  obtain ⟨its, r, ⟨o, e, _, n, d⟩, _⟩ := I.tuple h
  obtain ⟨its', r', ⟨o', e', _, n', d'⟩, _⟩ := I.tuple h'
  rw [e] at e'; cases e'
  rw [d] at d'
  injection d' with d1 _
  have : its = its' := by simpa using congrArg Array.toList d1
  subst this
  exact r.inj r'
end

/-! ### another wish about exceptions -/
noncomputable abbrev Cx.wish (X : Cx) (E : Value → Shared → Prop) : Cx := { X with xe := E }
/-- no exception leaves -/
noncomputable abbrev Cx.nox (X : Cx) : Cx := X.wish fun _ _ => False
theorem Cx.Ok.wish {X : Cx} (ok : X.Ok) (E : Value → Shared → Prop) : (X.wish E).Ok :=
  ⟨ok.mod, ok.kind, ok.glob, ok.blt, ok.above, ok.inj, ok.has, ok.cab, ok.hd, ok.frames, ok.stk, ok.exf, ok.bs, ok.bsz, ok.noex, ok.exfs, ok.funs, ok.frf⟩
theorem Cx.Ok.unwish {X : Cx} {E : Value → Shared → Prop} (ok : (X.wish E).Ok) : X.Ok :=
  ⟨ok.mod, ok.kind, ok.glob, ok.blt, ok.above, ok.inj, ok.has, ok.cab, ok.hd, ok.frames, ok.stk, ok.exf, ok.bs, ok.bsz, ok.noex, ok.exfs, ok.funs, ok.frf⟩
section
variable {X : Cx} {pins : List (Addr × Obj)} {σ : St} {H : Hp} {s : Shared} {E : Value → Shared → Prop}
theorem Inv.wish (I : Inv X pins σ H s) (E : Value → Shared → Prop) : Inv (X.wish E) pins σ H s := ⟨I.ok.wish E, I.os, I.bare, I.base, I.loc, I.cell, I.free, I.freeC, I.pin, I.hok, I.len⟩
theorem Inv.unwish (I : Inv (X.wish E) pins σ H s) : Inv X pins σ H s := ⟨I.ok.unwish, I.os, I.bare, I.base, I.loc, I.cell, I.free, I.freeC, I.pin, I.hok, I.len⟩
theorem SP.unwish {D : Ends} {f : Flow} {s' : Shared} (h : SP (X.wish E) pins D f s') : SP X pins D f s' := by
  cases f with
  | next => obtain ⟨σ', H', I, q⟩ := h; exact ⟨σ', H', I.unwish, q⟩
  | brk => obtain ⟨σ', H', I, q⟩ := h; exact ⟨σ', H', I.unwish, q⟩
  | cont => obtain ⟨σ', H', I, q⟩ := h; exact ⟨σ', H', I.unwish, q⟩
  | ret u => obtain ⟨v, σ', H', I, r, q⟩ := h; exact ⟨v, σ', H', I.unwish, r, q⟩
theorem PSs.nox {st : List Stmt} {t : TS} (h : PSs X.nox st t) : PSs X st t := fun pins s σ H D I hw =>
  wpAny_mono (h pins s σ H D (I.wish _) hw) (fun _ _ q => q.unwish) fun _ _ z => False.elim z
end

/-! ### blocks and small statements -/
section
variable {X : Cx} {st : Stmt} {rest : List Stmt} {t u : TS} {e : Expr} {te : TE} {pos : Pos}
noncomputable def tNext : TS := fun D σ H => D.nx σ H
noncomputable def tSeq (t u : TS) : TS := fun D σ H => t { D with nx := u D } σ H
theorem pss_nil : PSs X [] tNext := fun _ _ σ H _ I h => wpAny_execs_nil ⟨σ, H, I, h⟩
theorem pss_cons (h1 : PS X st t) (h2 : PSs X rest u) : PSs X (st :: rest) (tSeq t u) := by
  intro pins s σ H D I h
  refine wpAny_execs_cons (thn (h1 pins s σ H { D with nx := u D } I h) fun f s1 q => ?_)
  cases f with
  | next =>
    obtain ⟨σ', H', I', q⟩ := q
    exact h2 pins s1 σ' H' D I' q
  | ret v => exact q
  | brk => exact q
  | cont => exact q
theorem pss_one (h1 : PS X st t) : PSs X [st] t := by
  intro pins s σ H D I h
  refine wpAny_execs_cons (thn (h1 pins s σ H D I h) fun f s1 q => ?_)
  cases f with
  | next => exact wpAny_execs_nil q
  | ret v => exact q
  | brk => exact q
  | cont => exact q
noncomputable def tCont : TS := fun D σ H => D.ct σ H
theorem ps_continue : PS X (.Continue pos) tCont := fun _ _ σ H _ I h => wpAny_Continue ⟨σ, H, I, h⟩
/-- in a def's body nothing is shown -/
theorem Inv.quiet {pins : List (Addr × Obj)} {σ : St} {H : Hp} {s : Shared} (I : Inv X pins σ H s) : interactive X.env = false := by simp [interactive, I.ok.kind]
/-- an expression whose value is dropped -/
noncomputable def tDrop (te : TE) : TS := fun D σ H => te σ H fun _ H1 => D.nx σ H1
theorem ps_expr (he : PE X e te) (hs : swapsWith e none pos.line X.env = pure false := by rfl) : PS X (.Expr e pos) (tDrop te) := by
  intro pins s σ H D I h
  exact wpAny_Expr_any (thn (he pins s σ H _ I h) fun v s1 ⟨x, H1, I1, r1, q1⟩ => ⟨σ, H1, I1, q1⟩) I.quiet hs
noncomputable def tRet (te : TE) : TS := fun D σ H => te σ H D.rt
theorem ps_ret (he : PE X e te) : PS X (.Return (some e) pos) (tRet te) := by
  intro pins s σ H D I h
  exact wpAny_Return_some (thn (he pins s σ H _ I h) fun v s1 ⟨x, H1, I1, r1, q1⟩ => ⟨x, σ, H1, I1, r1, q1⟩)
noncomputable def tIfS (c : TT) (t u : TS) : TS := fun D σ H => c σ H fun b H1 => if b = true then t D σ H1 else u D σ H1
theorem ps_if {c : Expr} {a b : List Stmt} {tc : TT} (hc : PT X c tc) (ha : PSs X a t) (hb : PSs X b u) : PS X (.If c a b pos) (tIfS tc t u) := by
  intro pins s σ H D I h
  refine wpAny_If (thn (hc pins s σ H _ I h) fun d s1 ⟨H1, I1, q1⟩ => ?_)
  cases d with
  | true => exact ha pins s1 σ H1 D I1 q1
  | false => exact hb pins s1 σ H1 D I1 q1
end

/-! ### targets -/
noncomputable abbrev TG := V → St → Hp → (St → Hp → Prop) → Prop
noncomputable abbrev TGs := List V → St → Hp → (St → Hp → Prop) → Prop
noncomputable def PG (X : Cx) (target : Expr) (t : TG) : Prop :=
  ∀ (pins : List (Addr × Obj)) (s : Shared) (σ : St) (H : Hp) (v : V) (u : Value) (Q : St → Hp → Prop), Inv X pins σ H s → RelV v u → t v σ H Q →
    wpAny (model X.prog X.w) X.A (assign target X.env u) (fun _ s' => ∃ σ' H', Inv X pins σ' H' s' ∧ Q σ' H') X.xe s
/-- several targets, one after another -/
noncomputable def PGs (X : Cx) (ts : List Expr) (t : TGs) : Prop :=
  ∀ (pins : List (Addr × Obj)) (s : Shared) (σ : St) (H : Hp) (vs : List V) (us : List Value) (Q : St → Hp → Prop), Inv X pins σ H s → Vals vs us → t vs σ H Q →
    wpAny (model X.prog X.w) X.A (assignInOrder ((assignEach ts X.env).map (·.2)) us) (fun _ s' => ∃ σ' H', Inv X pins σ' H' s' ∧ Q σ' H') X.xe s
section
variable {X : Cx} {pos : Pos}
noncomputable def gName (i : Nat) : TG := fun v σ H Q => Q (σ.set i (some v)) H
theorem pg_name {i : Nat} {x : Str} (hN : X.N.Nodup) (hi : X.N[i]? = some x) (hx : Loc X.env.scope x) (hf : X.fn x = true ∨ X.env.scope.names.lookup x = some .local := by first | exact .inl rfl | exact .inr rfl | assumption) : PG X (.Name x pos) (gName i) := by
  intro pins s σ H v u Q I r h
  exact wpAny_assign_Name (store_ok I hN hi hx r (fun s' I' => ⟨_, H, I', h⟩) hf)
noncomputable def gNil : TGs := fun vs σ H Q => vs = [] ∧ Q σ H
noncomputable def gCons (t : TG) (u : TGs) : TGs := fun vs σ H Q => ∃ v r, vs = v :: r ∧ t v σ H fun σ' H' => u r σ' H' Q
theorem pgs_nil : PGs X [] gNil := by
  intro pins s σ H vs us Q I r h
  obtain ⟨e, h⟩ := h
  subst e
  cases r
  exact assignInOrder_nil ⟨σ, H, I, h⟩
theorem pgs_cons {e : Expr} {es : List Expr} {t : TG} {u : TGs} (h1 : PG X e t) (h2 : PGs X es u)
    (hs : (assignEach (e :: es) X.env).map (·.2) = assign e X.env :: (assignEach es X.env).map (·.2) := by rfl) : PGs X (e :: es) (gCons t u) := by
  intro pins s σ H vs us Q I r h
  obtain ⟨v, vr, e1, h⟩ := h
  subst e1
  cases r with
  | cons r rr =>
    rw [hs]
    refine assignInOrder_cons (thn (h1 pins s σ H _ _ _ I r h) fun _ s1 ⟨σ1, H1, I1, q1⟩ => ?_)
    exact h2 pins s1 σ1 H1 _ _ Q I1 rr q1
/-- (a, b, ..) = a tuple of that length -/
noncomputable def gTup (K : PySem.W.Frag) (n : Nat) (t : TGs) : TG := fun v σ H Q => ∃ a xs, v = .ref a ∧ SqT K H a xs ∧ xs.length = n ∧ t xs σ H Q
theorem pg_tup {es : List Expr} {k : Nat} {t : TGs} {n : Nat} (hc : X.calm = true) (h : PGs X es t)
    (hn : (assignEach es X.env).length = n := by rfl) (hst : (assignEach es X.env).findIdx? (·.1) = none := by rfl) : PG X (.Tuple es k pos) (gTup X.K n t) := by
  intro pins s σ H v u Q I r hw
  obtain ⟨a, xs, e1, hq, hl, hw⟩ := hw
  subst e1
  cases r
  obtain ⟨its, rv, ht, hz⟩ := I.tuple hq
  refine assign_Tuple_tuple (I.ok.hd hc) ht (by simp [hn, ← hl, rv.length]) hst fun h' hx => ?_
  have I1 : Inv X pins σ H { s with heap := h' } := I.kept (t' := s.toks) fun b o e => hx b o (Nat.ne_of_lt (Heap.lt_size e)) e
  exact h pins _ σ H xs _ Q I1 (by simpa using rv) hw
/-- target = value -/
noncomputable def tAsg (te : TE) (g : TG) : TS := fun D σ H => te σ H fun x H1 => g x σ H1 D.nx
theorem ps_asg {tg e : Expr} {te : TE} {g : TG} (he : PE X e te) (hg : PG X tg g) (hs : swapsWithSole [tg] e pos.line X.env = pure false := by rfl) (hw : swappedStores [tg] e X.env = pure none := by rfl)
    (h1 : (assignEach [tg] X.env).map (·.2) = [assign tg X.env] := by rfl) : PS X (.Assign [tg] e pos) (tAsg te g) := by
  intro pins s σ H D I h
  refine wpAny_Assign_stores (thn (he pins s σ H _ I h) fun v s1 ⟨x, H1, I1, r1, q1⟩ => ?_) hs hw
  rw [h1]
  exact thn (hg pins s1 σ H1 x v _ I1 r1 q1) fun _ s2 q => q
/-- name = value -/
theorem ps_set {i : Nat} {x : Str} {e : Expr} {te : TE} {pos' : Pos} (hN : X.N.Nodup) (hi : X.N[i]? = some x) (hx : Loc X.env.scope x) (he : PE X e te) (hs : swapsWith e (some (.Name x pos')) pos.line X.env = pure false := by rfl) (hf : X.fn x = true ∨ X.env.scope.names.lookup x = some .local := by first | exact .inl rfl | exact .inr rfl | assumption) :
    PS X (.Assign [.Name x pos'] e pos) (tAsg te (gName i)) := by
  intro pins s σ H D I h
  refine wpAny_Assign_Name (thn (he pins s σ H _ I h) fun v s1 ⟨y, H1, I1, r1, q1⟩ => ?_) hs
  exact store_ok I1 hN hi hx r1 (fun s2 I2 => ⟨_, H1, I2, q1⟩) hf
end

/-! ### while -/
section
variable {X : Cx} {pos : Pos}
/-- the invariant W with its measure -/
noncomputable def tWhile (c : TT) (tb : TS) : TS := fun D σ H => ∃ W : Nat → St → Hp → Prop, (∃ m, W m σ H) ∧ ∀ m σ H, W m σ H →
  c σ H fun b H1 => if b = true then ∃ N : St → Hp → Prop, (∀ σ' H', N σ' H' → ∃ m', m' < m ∧ W m' σ' H') ∧ tb { D with nx := N, ct := N, bk := D.nx } σ H1 else D.nx σ H1
theorem ps_while {c : Expr} {body : List Stmt} {tc : TT} {tb : TS} (hp : PassesOwn (model X.prog X.w) X.A X.env X.xe) (hc : PT X c tc) (hb : PSs X body tb) : PS X (.While c body [] pos) (tWhile tc tb) := by
  intro pins s σ H D I h
  obtain ⟨W, ⟨m0, w0⟩, turn⟩ := h
  refine wpAny_While (codeAny_whileLoop (fun n s' => ∃ σ' H', Inv X pins σ' H' s' ∧ W n σ' H') ?_ m0 ⟨σ, H, I, w0⟩)
  rintro n s1 ⟨σ1, H1, I1, w1⟩
  refine wpAny_passesOwn hp (thn (hc pins s1 σ1 H1 _ I1 (turn n σ1 H1 w1)) fun b s2 ⟨H2, I2, q2⟩ => ?_)
  cases b with
  | true =>
    obtain ⟨N, hN, q2⟩ := q2
    rw [if_pos rfl]
    refine wpAny_passesOwn hp (thn (hb pins s2 σ1 H2 _ I2 q2) fun f s3 q3 => ?_)
    cases f with
    | next =>
      obtain ⟨σ3, H3, I3, n3⟩ := q3
      obtain ⟨m', hm, w3⟩ := hN σ3 H3 n3
      exact ⟨m', hm, σ3, H3, I3, w3⟩
    | cont =>
      obtain ⟨σ3, H3, I3, n3⟩ := q3
      obtain ⟨m', hm, w3⟩ := hN σ3 H3 n3
      exact ⟨m', hm, σ3, H3, I3, w3⟩
    | brk => exact q3
    | ret v => exact q3
  | false =>
    rw [if_neg Bool.false_ne_true]
    exact wpAny_execs_nil ⟨σ1, H2, I2, q2⟩
end

/-! ### what a loop or a comprehension walks -/
/-- at turn i: it yields x (the heap may grow), or it stops -/
structure It where
  go : Nat → Hp → Prop
  yld : Nat → Hp → V → Hp → Prop
  stop : Nat → Hp → Prop
/-- the iterator's own objects may turn: they are not the frame's, not pinned, younger than the entry (or a comprehension's own) -/
noncomputable def FpOk (X : Cx) (pins : List (Addr × Obj)) (H : Hp) (b : Addr) : Prop :=
  H b = none ∧ b ≠ X.env.locals ∧ b ∉ X.fs ∧ (b ∈ X.ex ∨ X.s₀.heap.objs.size ≤ b) ∧ (∀ x c, X.env.cells.lookup x = some c → c ≠ b) ∧ ∀ p ∈ X.pn ++ pins, p.1 ≠ b
theorem Inv.fpOk {X : Cx} {pins : List (Addr × Obj)} {σ : St} {H H' : Hp} {s : Shared} {b : Addr} (I : Inv X pins σ H s) (hb : s.heap.objs.size ≤ b) (hn : H' b = none) : FpOk X pins H' b := by
  refine ⟨hn, Nat.ne_of_gt (Nat.lt_of_lt_of_le I.lt hb), I.nofs hb, .inr (Nat.le_trans I.sz hb), fun x c e z => ?_, fun p hp z => ?_⟩
  · obtain ⟨v, q⟩ := I.cell x c e
    exact absurd (Nat.lt_of_lt_of_le q.lt (by rw [z]; exact hb)) (Nat.lt_irrefl _)
  · exact absurd (Nat.lt_of_lt_of_le (Heap.lt_size (I.pin p hp).1) (by rw [z]; exact hb)) (Nat.lt_irrefl _)
structure Turn (P : Program) (w : World) (K : PySem.W.Frag) (tg : Expr) (J : It) (fp : List Addr) (it : Addr) (tn : Nat → Heap → Prop) : Prop where
  mem : it ∈ fp
  obj : ∀ i h, tn i h → ∀ b ∈ fp, ∃ o, h.get? b = some o ∧ ∀ v, o.data ≠ .cell v
  keep : ∀ i h h', tn i h → (∀ b ∈ fp, ∀ o, h.get? b = some o → h'.get? b = some o) → tn i h'
  item : ∀ (X : Cx), X.prog = P → X.w = w → X.K = K → X.calm = true → ∀ (i : Nat) (pins : List (Addr × Obj)) (s : Shared) (σ : St) (H : Hp) (E : Value → Shared → Prop), Inv X pins σ H s → (∀ b ∈ fp, FpOk X pins H b) → tn i s.heap → J.go i H →
    wpAny (model P w) X.A (pyNext (.ref it)) (fun r s1 => ∃ u, r = some u ∧
      wpAny (model P w) X.A (letOwnedTupleGo tg (.ref it) u) (fun _ s2 => ∃ x H', Inv X pins σ H' s2 ∧ RelV x u ∧ J.yld i H x H' ∧ tn (i + 1) s2.heap ∧ ∀ b ∈ fp, H' b = none) E s1) E s
  done : ∀ (X : Cx), X.prog = P → X.w = w → X.K = K → X.calm = true → ∀ (i : Nat) (pins : List (Addr × Obj)) (s : Shared) (σ : St) (H : Hp) (E : Value → Shared → Prop), Inv X pins σ H s → (∀ b ∈ fp, FpOk X pins H b) → tn i s.heap → J.stop i H →
    wpAny (model P w) X.A (pyNext (.ref it)) (fun r s1 => r = none ∧ Inv X pins σ H s1) E s
  self : ∀ (A : Around) (i : Nat) (s : Shared) (Q : Value → Shared → Prop) (E : Value → Shared → Prop), tn i s.heap → Q (.ref it) s → wpAny (model P w) A (pyIter (.ref it)) Q E s
noncomputable abbrev TI := St → Hp → (It → Hp → Prop) → Prop
/-- an iterator has come -/
noncomputable def PIE (X : Cx) (pins : List (Addr × Obj)) (σ : St) (tg : Expr) (R : It → Hp → Prop) (itv : Value) (s2 : Shared) : Prop :=
  ∃ (it : Addr) (fp : List Addr) (tn : Nat → Heap → Prop) (J : It) (H' : Hp), itv = .ref it ∧ Inv X pins σ H' s2 ∧ Turn X.prog X.w X.K tg J fp it tn ∧ tn 0 s2.heap ∧ (∀ b ∈ fp, FpOk X pins H' b) ∧ R J H'
noncomputable def PI (X : Cx) (tg iter : Expr) (wi : TI) : Prop :=
  ∀ (pins : List (Addr × Obj)) (s : Shared) (σ : St) (H : Hp) (R : It → Hp → Prop), Inv X pins σ H s → wi σ H R →
    wpAny (model X.prog X.w) X.A (eval iter X.env) (fun v s1 => wpAny (model X.prog X.w) X.A (pyIter v) (PIE X pins σ tg R) X.xe s1) X.xe s

/-- the step ahead of the store is nothing for an iterator that keeps no tuple -/
theorem go_of {M : Model} {A : Around} {E : Value → Shared → Prop} {s : Shared} {tg : Expr} {it : Addr} {u : Value} {o : Obj} {n : String} {vs : Array Value} {Q : Unit → Shared → Prop} (ho : s.heap.get? it = some o) (hc : o.cls = .type n) (hd : o.data = .fields vs)
    (hn : ["enumerate", "zip", "dict_itemiterator", "dict_reverseitemiterator", "odict_iterator", "itertools.zip_longest", "itertools.pairwise"].contains n = false) (hQ : Q () s) : wpAny M A (letOwnedTupleGo tg (.ref it) u) Q E s := by
  unfold letOwnedTupleGo
  cases tg <;> first
    | exact wpAny_pure hQ
    | (cases u <;> first
        | exact wpAny_pure hQ
        | (refine wpAny_bind (wpAny_load ho ?_)
           rw [hc, hd]
           show wpAny M A (if (["enumerate", "zip", "dict_itemiterator", "dict_reverseitemiterator", "odict_iterator", "itertools.zip_longest", "itertools.pairwise"].contains n && vs[0]? == some (rawInt _)) = true then _ else _) Q E s
           rw [if_neg (by intro h; rw [hn, Bool.false_and] at h; cases h)]
           exact wpAny_pure hQ))

/-- the list at a, as it stands at each turn (a loop may append to it) -/
noncomputable def Itl (K : PySem.W.Frag) (a : Addr) : It :=
  ⟨fun i H => ∃ xs x, SqL K H a xs ∧ xs[i]? = some x, fun i H x H' => H' = H ∧ ∀ xs, SqL K H a xs → xs[i]? = some x, fun i H => ∃ xs, SqL K H a xs ∧ xs.length ≤ i⟩
noncomputable def Itt (K : PySem.W.Frag) (a : Addr) : It :=
  ⟨fun i H => ∃ xs x, SqT K H a xs ∧ xs[i]? = some x, fun i H x H' => H' = H ∧ ∀ xs, SqT K H a xs → xs[i]? = some x, fun i H => ∃ xs, SqT K H a xs ∧ xs.length ≤ i⟩
/-- lo, lo + 1, .. (n of them) -/
noncomputable def Itr (lo : Int) (n : Nat) : It := ⟨fun i _ => i < n, fun i H x H' => H' = H ∧ x = .int (lo + i), fun i _ => n ≤ i⟩
theorem turn_list {P : Program} {w : World} {K : PySem.W.Frag} {tg : Expr} (a it : Addr) : Turn P w K tg (Itl K a) [it] it (fun i h => h.IsListIter it a i) where
  mem := by simp
  obj := fun i h st b hb => by
    have e : b = it := by simpa using hb
    subst e
    obtain ⟨o, e, c, d⟩ := st
    exact ⟨o, e, fun v z => by rw [d] at z; cases z⟩
  keep := fun i h h' st k => st.at fun o e => k it (by simp) o e
  item := by
    intro X hP hw hK hc i pins s σ H E I hf st hg
    subst hP hw hK
    obtain ⟨xs, x, hq, hx⟩ := hg
    obtain ⟨its, rv, p, hz⟩ := I.list hq
    obtain ⟨u, hu, ru⟩ := rv.get hx
    obtain ⟨f0, f1, f2, f3, f4, f5⟩ := hf it (by simp)
    refine wpAny_pyNext_list_item st p.isList (x := u) (by simpa using hu) fun h' st' sb => ?_
    have I1 : Inv X pins σ H { s with heap := h' } := I.turned (t' := s.toks) (fun b o hb e => (sb.2 b hb).trans e) f0 f1 f3 f4 f5
    obtain ⟨o, e, c, d⟩ := id st'
    exact ⟨u, rfl, go_of (s := { s with heap := h' }) e c d (by decide) ⟨x, H, I1, ru, ⟨rfl, fun ys hy => by rw [I.list_inj hy hq]; exact hx⟩, st', fun b hb => (hf b hb).1⟩⟩
  done := by
    intro X hP hw hK hc i pins s σ H E I hf st hg
    subst hP hw hK
    obtain ⟨xs, hq, hx⟩ := hg
    obtain ⟨its, rv, p, hz⟩ := I.list hq
    obtain ⟨f0, f1, f2, f3, f4, f5⟩ := hf it (by simp)
    have hl := rv.length
    exact wpAny_pyNext_list_end (I.ok.hd hc) st p.isList (by simp; omega) fun h' eb => ⟨rfl, I.turned (t' := s.toks) (fun b o hb e => eb b o hb e) f0 f1 f3 f4 f5⟩
  self := fun _ _ _ _ _ st h => wpAny_pyIter_listiter st h
theorem turn_tuple {P : Program} {w : World} {K : PySem.W.Frag} {tg : Expr} (a it : Addr) : Turn P w K tg (Itt K a) [it] it (fun i h => h.IsTupleIter it a i) where
  mem := by simp
  obj := fun i h st b hb => by
    have e : b = it := by simpa using hb
    subst e
    obtain ⟨o, e, c, d⟩ := st
    exact ⟨o, e, fun v z => by rw [d] at z; cases z⟩
  keep := fun i h h' st k => st.at fun o e => k it (by simp) o e
  item := by
    intro X hP hw hK hc i pins s σ H E I hf st hg
    subst hP hw hK
    obtain ⟨xs, x, hq, hx⟩ := hg
    obtain ⟨its, rv, p, hz⟩ := I.tuple hq
    obtain ⟨u, hu, ru⟩ := rv.get hx
    obtain ⟨f0, f1, f2, f3, f4, f5⟩ := hf it (by simp)
    refine wpAny_pyNext_tuple_item st (show s.heap.IsTuple a its.toArray from p) (x := u) (by simpa using hu) fun h' st' sb => ?_
    have I1 : Inv X pins σ H { s with heap := h' } := I.turned (t' := s.toks) (fun b o hb e => (sb.2 b hb).trans e) f0 f1 f3 f4 f5
    obtain ⟨o, e, c, d⟩ := id st'
    exact ⟨u, rfl, go_of (s := { s with heap := h' }) e c d (by decide) ⟨x, H, I1, ru, ⟨rfl, fun ys hy => by rw [I.tuple_inj hy hq]; exact hx⟩, st', fun b hb => (hf b hb).1⟩⟩
  done := by
    intro X hP hw hK hc i pins s σ H E I hf st hg
    subst hP hw hK
    obtain ⟨xs, hq, hx⟩ := hg
    obtain ⟨its, rv, p, hz⟩ := I.tuple hq
    obtain ⟨f0, f1, f2, f3, f4, f5⟩ := hf it (by simp)
    have hl := rv.length
    exact wpAny_pyNext_tuple_end (I.ok.hd hc) st (show s.heap.IsTuple a its.toArray from p) (by simp; omega) fun h' eb => ⟨rfl, I.turned (t' := s.toks) (fun b o hb e => eb b o hb e) f0 f1 f3 f4 f5⟩
  self := fun _ _ _ _ _ st h => wpAny_pyIter_tupleiter st h
theorem turn_range {P : Program} {w : World} {K : PySem.W.Frag} {tg : Expr} (it : Addr) (lo : Int) (n : Nat) : Turn P w K tg (Itr lo n) [it] it (fun i h => IsRangeIter h it (lo + (i : Nat) * 1) ((n : Int) - (i : Nat)) 1) where
  mem := by simp
  obj := fun i h st b hb => by
    have e : b = it := by simpa using hb
    subst e
    exact ⟨_, st, fun v z => by
      have z' : Data.fields _ = Data.cell v := z
      cases z'⟩
  keep := fun i h h' st k => k it (by simp) _ st
  item := by
    intro X hP hw hK hc i pins s σ H E I hf st hg
    subst hP hw hK
    obtain ⟨f0, f1, f2, f3, f4, f5⟩ := hf it (by simp)
    have W := Walks.range (prog := X.prog) (w := X.w) (I.ok.hd hc) it lo 1 n
    refine W.item i s _ _ hg st fun v h' tk hv st' kk => ?_
    obtain ⟨t, rfl⟩ := hv
    have I1 : Inv X pins σ H { s with heap := h', toks := tk } := I.turned (fun b o hb e => kk b o (by simpa using hb) e) f0 f1 f3 f4 f5
    refine ⟨_, rfl, go_of (s := { s with heap := h', toks := tk }) (n := "range_iterator") st' rfl rfl (by decide) ⟨.int (lo + i), H, I1, ⟨t, ?_⟩, ⟨rfl, rfl⟩, st', fun b hb => (hf b hb).1⟩⟩
    rw [Int.mul_one]
  done := by
    intro X hP hw hK hc i pins s σ H E I hf st hg
    subst hP hw hK
    obtain ⟨f0, f1, f2, f3, f4, f5⟩ := hf it (by simp)
    exact wpAny_pyNext_range_end (I.ok.hd hc) st (by have : n ≤ i := hg; omega) fun h' eb => ⟨rfl, I.turned (t' := s.toks) (fun b o hb e => eb b o hb e) f0 f1 f3 f4 f5⟩
  self := fun _ _ _ _ _ st h => wpAny_pyIter_rangeiter st h
end L2

namespace L2
open PySem PySem.Spec PyProof.Rows
section
variable {X : Cx} {tg : Expr}
noncomputable def iList (K : PySem.W.Frag) (tl : TE) : TI := fun σ H R => tl σ H fun x H1 => ∃ a, x = .ref a ∧ (∃ xs, SqL K H1 a xs) ∧ R (Itl K a) H1
noncomputable def iTup (K : PySem.W.Frag) (tl : TE) : TI := fun σ H R => tl σ H fun x H1 => ∃ a, x = .ref a ∧ (∃ xs, SqT K H1 a xs) ∧ R (Itt K a) H1
theorem pi_list {l : Expr} {tl : TE} (hl : PE X l tl) : PI X tg l (iList X.K tl) := by
  intro pins s σ H R I h
  refine thn (hl pins s σ H _ I h) fun v s1 ⟨x, H1, I1, r1, q1⟩ => ?_
  obtain ⟨a, e, ⟨xs, hq⟩, q⟩ := q1
  subst e
  cases r1
  obtain ⟨its, rv, p, hz⟩ := I1.list hq
  refine wpAny_pyIter_list p.isList ?_
  refine ⟨s1.heap.objs.size, [s1.heap.objs.size], _, _, H1, rfl, I1.kept (t' := s1.toks) fun b o e => Heap.get?_push_of_some _ e, turn_list a _, ⟨_, Heap.get?_push_size _ rfl, rfl, rfl⟩, fun b hb => ?_, q⟩
  have e : b = s1.heap.objs.size := by simpa using hb
  subst e
  exact I1.fpOk (Nat.le_refl _) (I1.hok.fresh (Nat.le_refl _))
theorem pi_tup {l : Expr} {tl : TE} (hl : PE X l tl) : PI X tg l (iTup X.K tl) := by
  intro pins s σ H R I h
  refine thn (hl pins s σ H _ I h) fun v s1 ⟨x, H1, I1, r1, q1⟩ => ?_
  obtain ⟨a, e, ⟨xs, hq⟩, q⟩ := q1
  subst e
  cases r1
  obtain ⟨its, rv, p, hz⟩ := I1.tuple hq
  refine wpAny_pyIter_tuple (show s1.heap.IsTuple a its.toArray from p) ?_
  refine ⟨s1.heap.objs.size, [s1.heap.objs.size], _, _, H1, rfl, I1.kept (t' := s1.toks) fun b o e => Heap.get?_push_of_some _ e, turn_tuple a _, ⟨_, Heap.get?_push_size _ rfl, rfl, rfl⟩, fun b hb => ?_, q⟩
  have e : b = s1.heap.objs.size := by simpa using hb
  subst e
  exact I1.fpOk (Nat.le_refl _) (I1.hok.fresh (Nat.le_refl _))
/-- a range object just made, walked -/
theorem range_it {pins : List (Addr × Obj)} {σ : St} {H : Hp} {s : Shared} {R : It → Hp → Prop} {E : Value → Shared → Prop} {lo hi : Int} {t u v : Tok} {tk : Nat} (I : Inv X pins σ H s) (h1 : -(2 ^ 62) ≤ lo) (h2 : lo < 2 ^ 62) (h3 : -(2 ^ 62) ≤ hi) (h4 : hi < 2 ^ 62)
    (q : R (Itr lo (hi - lo).toNat) H) : wpAny (model X.prog X.w) X.A (pyIter (.ref s.heap.objs.size)) (PIE X pins σ tg R) E { s with heap := s.heap.push { cls := .type "range", data := .fields #[.int lo t, .int hi u, .int 1 v] }, toks := tk } := by
  refine wpAny_pyIter_range (IsRange.new ..) (small_one h1 h2 h3 h4) ?_
  have I1 : Inv X pins σ H { s with heap := s.heap.push { cls := .type "range", data := .fields #[.int lo t, .int hi u, .int 1 v] }, toks := tk } := I.kept fun b o e => Heap.get?_push_of_some _ e
  refine ⟨(s.heap.push { cls := .type "range", data := .fields #[.int lo t, .int hi u, .int 1 v] }).objs.size, [(s.heap.push { cls := .type "range", data := .fields #[.int lo t, .int hi u, .int 1 v] }).objs.size], _, _, H, rfl,
    I1.kept (t' := tk) fun b o e => Heap.get?_push_of_some _ e, turn_range _ lo (hi - lo).toNat, ?_, fun b hb => ?_, q⟩
  · have e1 : lo + ((0 : Nat) : Int) * 1 = lo := by simp
    have e2 : (((hi - lo).toNat : Nat) : Int) - ((0 : Nat) : Int) = Builtin.Range.rangeSize lo hi 1 := by rw [rangeSize_one]; split <;> omega
    show IsRangeIter _ _ (lo + ((0 : Nat) : Int) * 1) ((((hi - lo).toNat : Nat) : Int) - ((0 : Nat) : Int)) 1
    rw [e1, e2]
    exact Heap.get?_push_size _ rfl
  · have e : b = (s.heap.push { cls := .type "range", data := .fields #[.int lo t, .int hi u, .int 1 v] }).objs.size := by simpa using hb
    subst e
    exact I1.fpOk (Nat.le_refl _) (I1.hok.fresh (Nat.le_refl _))
noncomputable def iRng1 (ta : TA) : TI := fun σ H R => ta σ H fun vs H1 => ∃ j : Int, vs = [.int j] ∧ -(2 ^ 62) ≤ j ∧ j < 2 ^ 62 ∧ R (Itr 0 j.toNat) H1
theorem pi_range1 {a : Expr} {ta : TA} {p pos : Pos} (hg : Gl X "range") (hm : X.mg "range" = none) (ha : PA X [a] ta) (hs : starEach [a] X.env = [(false, eval a X.env)] := by rfl) : PI X tg (.Call (.Name "range" p) [a] [] pos) (iRng1 ta) := by
  intro pins s σ H R I h
  refine Call_ (ld_blt I hg hm boot_range (PyProof.Rows.callWith_type1 (thn (ha pos pins s σ H _ I h) fun us s1 ⟨vs, H1, I1, r1, q1⟩ => ?_) hs rfl))
  obtain ⟨j, e, q1, q2, q⟩ := q1
  subst e
  cases r1 with
  | cons r rr =>
    cases rr
    obtain ⟨t, rfl⟩ := r
    exact call_range_1 (range_it I1 (by omega) (by omega) q1 q2 (by simpa using q))
/-! ### for -/
/-- W: the invariant by the turn and a measure; N: what the body is to reach -/
noncomputable def tFor (wi : TI) (g : TG) (tb : TS) : TS := fun D σ H => wi σ H fun J H1 => ∃ W : Nat → Nat → St → Hp → Prop, (∃ m, W 0 m σ H1) ∧ ∀ i m σ H, W i m σ H →
  (J.stop i H ∧ D.nx σ H) ∨ (J.go i H ∧ ∃ N : St → Hp → Prop, (∀ σ' H', N σ' H' → ∃ m', m' < m ∧ W (i + 1) m' σ' H') ∧ ∀ x H', J.yld i H x H' → g x σ H' fun σ2 H2 => tb { D with nx := N, ct := N, bk := D.nx } σ2 H2)
/-- the records at fp as they stand -/
noncomputable def pinsAt (fp : List Addr) (h : Heap) : List (Addr × Obj) := fp.filterMap fun b => (h.get? b).map fun o => (b, o)
theorem mem_pinsAt {fp : List Addr} {h : Heap} {b : Addr} {o : Obj} (hb : b ∈ fp) (e : h.get? b = some o) : (b, o) ∈ pinsAt fp h := List.mem_filterMap.mpr ⟨b, hb, by rw [e]; rfl⟩
theorem of_pinsAt {fp : List Addr} {h : Heap} {p : Addr × Obj} (hp : p ∈ pinsAt fp h) : p.1 ∈ fp ∧ h.get? p.1 = some p.2 := by
  obtain ⟨b, hb, e⟩ := List.mem_filterMap.mp hp
  cases q : h.get? b with
  | none => rw [q] at e; cases e
  | some o =>
    rw [q] at e
    have e' : (b, o) = p := Option.some.inj e
    subst e'
    exact ⟨hb, q⟩
theorem Inv.pinned {pins : List (Addr × Obj)} {σ : St} {H : Hp} {s : Shared} {fp : List Addr} (I : Inv X pins σ H s) (hf : ∀ b ∈ fp, FpOk X pins H b) (ho : ∀ b ∈ fp, ∃ o, s.heap.get? b = some o ∧ ∀ v, o.data ≠ .cell v) : Inv X (pins ++ pinsAt fp s.heap) σ H s :=
  I.pins_of fun p hp => (List.mem_append.mp hp).elim (fun z => I.pin p (List.mem_append_right _ z)) fun z => by
    obtain ⟨hb, e⟩ := of_pinsAt z
    obtain ⟨f0, f1, f2, _⟩ := hf p.1 hb
    obtain ⟨o, e', d⟩ := ho p.1 hb
    rw [e] at e'; cases e'
    exact ⟨e, f0, f1, f2, d⟩
theorem Inv.unpinned {pins pl : List (Addr × Obj)} {σ : St} {H : Hp} {s : Shared} (I : Inv X (pins ++ pl) σ H s) : Inv X pins σ H s := I.pins_of fun p hp => I.pin p (List.mem_append_right _ (List.mem_append_left _ hp))
theorem ps_for {iter : Expr} {body : List Stmt} {wi : TI} {g : TG} {tb : TS} {pos : Pos} (hp : PassesOwn (model X.prog X.w) X.A X.env X.xe) (hc : X.calm = true) (hi : PI X tg iter wi) (hg : PG X tg g) (hb : PSs X body tb)
    (hs : ∀ x, foldedSetIterable iter X.env x = pure x := by intro _; rfl) : PS X (.For tg iter body [] pos) (tFor wi g tb) := by
  intro pins s σ H D I h
  refine wpAny_For (thn (hi pins s σ H _ I h) fun v s1 h1 => thn h1 fun itv s2 h2 => ?_) hs
  obtain ⟨it, fp, tn, J, H2, e, I2, T, st2, f2, W, ⟨m0, w0⟩, turn⟩ := h2
  subst e
  -- what stays true of the iterator's objects through the loop
  have stat : ∀ {H' : Hp}, (∀ b ∈ fp, H' b = none) → ∀ b ∈ fp, FpOk X pins H' b := fun hn b hb => ⟨hn b hb, (f2 b hb).2⟩
  refine codeAny_forLoop_any (fun n s' => ∃ i σ' H', Inv X pins σ' H' s' ∧ tn i s'.heap ∧ (∀ b ∈ fp, H' b = none) ∧ W i n σ' H') ?_ m0 ⟨0, σ, H2, I2, st2, fun b hb => (f2 b hb).1, w0⟩
  rintro n s3 ⟨i, σ3, H3, I3, st3, fr3, w3⟩
  rcases turn i n σ3 H3 w3 with ⟨stop, qn⟩ | ⟨go, N, hN, step⟩
  · refine wpAny_passesOwn hp (thn (T.done X rfl rfl rfl hc i pins s3 σ3 H3 X.xe I3 (stat fr3) st3 stop) fun r s4 ⟨hr, I4⟩ => ?_)
    subst hr
    exact wpAny_execs_nil ⟨σ3, H3, I4, qn⟩
  · refine wpAny_passesOwn hp (thn (T.item X rfl rfl rfl hc i pins s3 σ3 H3 X.xe I3 (stat fr3) st3 go) fun r s4 ⟨u, hr, h4⟩ => ?_)
    subst hr
    refine wpAny_passesOwn hp (thn h4 fun _ s5 ⟨x, H5, I5, r5, y5, st5, fr5⟩ => ?_)
    have I5' := I5.pinned (stat fr5) (T.obj _ _ st5)
    refine wpAny_passesOwn hp (thn (hg _ s5 σ3 H5 x u _ I5' r5 (step x H5 y5)) fun _ s6 ⟨σ6, H6, I6, q6⟩ => ?_)
    refine wpAny_passesOwn hp (thn (hb _ s6 σ6 H6 _ I6 q6) fun f s7 q7 => ?_)
    have again : ∀ {σ7 : St} {H7 : Hp}, Inv X (pins ++ pinsAt fp s5.heap) σ7 H7 s7 → N σ7 H7 → ∃ m, m < n ∧ ∃ i σ' H', Inv X pins σ' H' s7 ∧ tn i s7.heap ∧ (∀ b ∈ fp, H' b = none) ∧ W i m σ' H' := fun {σ7 H7} I7 n7 => by
      obtain ⟨m', hm, w7⟩ := hN σ7 H7 n7
      refine ⟨m', hm, i + 1, σ7, H7, I7.unpinned, T.keep _ _ _ st5 fun b hb o e => (I7.pin (b, o) (List.mem_append_right _ (List.mem_append_right _ (mem_pinsAt hb e)))).1, fun b hb => ?_, w7⟩
      obtain ⟨o, e, d⟩ := T.obj _ _ st5 b hb
      exact (I7.pin (b, o) (List.mem_append_right _ (List.mem_append_right _ (mem_pinsAt hb e)))).2.1
    cases f with
    | next => obtain ⟨σ7, H7, I7, n7⟩ := q7; exact again I7 n7
    | cont => obtain ⟨σ7, H7, I7, n7⟩ := q7; exact again I7 n7
    | brk => obtain ⟨σ7, H7, I7, q7⟩ := q7; exact ⟨σ7, H7, I7.unpinned, q7⟩
    | ret v => obtain ⟨x7, σ7, H7, I7, r7, q7⟩ := q7; exact ⟨x7, σ7, H7, I7.unpinned, r7, q7⟩
end

/-! ### the forms one uses -/
/-- over a list that the body leaves as it is -/
theorem for_list {K : PySem.W.Frag} {a : Addr} {xs : List V} {g : TG} {tb : TS} {D : Ends} {σ : St} {H : Hp} (Pv : Nat → St → Hp → Prop) (h0 : Pv 0 σ H) (hl : ∀ i σ H, i ≤ xs.length → Pv i σ H → SqL K H a xs)
    (hs : ∀ i x σ H, xs[i]? = some x → Pv i σ H → g x σ H fun σ2 H2 => tb { D with nx := Pv (i + 1), ct := Pv (i + 1), bk := D.nx } σ2 H2) (hd : ∀ σ H, Pv xs.length σ H → D.nx σ H) :
    ∃ W : Nat → Nat → St → Hp → Prop, (∃ m, W 0 m σ H) ∧ ∀ i m σ H, W i m σ H →
      ((Itl K a).stop i H ∧ D.nx σ H) ∨ ((Itl K a).go i H ∧ ∃ N : St → Hp → Prop, (∀ σ' H', N σ' H' → ∃ m', m' < m ∧ W (i + 1) m' σ' H') ∧ ∀ x H', (Itl K a).yld i H x H' → g x σ H' fun σ2 H2 => tb { D with nx := N, ct := N, bk := D.nx } σ2 H2) := by
  refine ⟨fun i m σ H => m = xs.length - i ∧ i ≤ xs.length ∧ Pv i σ H, ⟨xs.length, by simp, Nat.zero_le _, h0⟩, ?_⟩
  rintro i m σ H ⟨rfl, hi, p⟩
  have q := hl i σ H hi p
  by_cases hlt : i < xs.length
  · refine .inr ⟨⟨xs, xs[i], q, by simp [hlt]⟩, Pv (i + 1), fun σ' H' p' => ⟨xs.length - (i + 1), by omega, rfl, hlt, p'⟩, fun x H' y => ?_⟩
    obtain ⟨e, y⟩ := y
    subst e
    exact hs i x σ _ (y xs q) p
  · have e : i = xs.length := by omega
    subst e
    exact .inl ⟨⟨xs, q, Nat.le_refl _⟩, hd σ H p⟩
theorem for_range {lo : Int} {n : Nat} {g : TG} {tb : TS} {D : Ends} {σ : St} {H : Hp} (Pv : Nat → St → Hp → Prop) (h0 : Pv 0 σ H)
    (hs : ∀ i σ H, i < n → Pv i σ H → g (.int (lo + i)) σ H fun σ2 H2 => tb { D with nx := Pv (i + 1), ct := Pv (i + 1), bk := D.nx } σ2 H2) (hd : ∀ σ H, Pv n σ H → D.nx σ H) :
    ∃ W : Nat → Nat → St → Hp → Prop, (∃ m, W 0 m σ H) ∧ ∀ i m σ H, W i m σ H →
      ((Itr lo n).stop i H ∧ D.nx σ H) ∨ ((Itr lo n).go i H ∧ ∃ N : St → Hp → Prop, (∀ σ' H', N σ' H' → ∃ m', m' < m ∧ W (i + 1) m' σ' H') ∧ ∀ x H', (Itr lo n).yld i H x H' → g x σ H' fun σ2 H2 => tb { D with nx := N, ct := N, bk := D.nx } σ2 H2) := by
  refine ⟨fun i m σ H => m = n - i ∧ i ≤ n ∧ Pv i σ H, ⟨n, by simp, Nat.zero_le _, h0⟩, ?_⟩
  rintro i m σ H ⟨rfl, hi, p⟩
  by_cases hlt : i < n
  · refine .inr ⟨hlt, Pv (i + 1), fun σ' H' p' => ⟨n - (i + 1), by omega, rfl, hlt, p'⟩, fun x H' y => ?_⟩
    obtain ⟨e, y⟩ := y
    subst e y
    exact hs i σ _ hlt p
  · have e : i = n := by omega
    subst e
    exact .inl ⟨Nat.le_refl _, hd σ H p⟩
end L2

namespace L2
open PySem PySem.Spec PyProof.Rows

noncomputable abbrev R2 := V → V → Hp → VK → Prop
/-- a two-place operation on values: f is binaryOp op, inplaceOp op or compareOp op -/
noncomputable def OpR (X : Cx) (f : Value → Value → Sem Value) (r : R2) : Prop :=
  ∀ (pins : List (Addr × Obj)) (s : Shared) (σ : St) (H : Hp) (x y : V) (v u : Value) (Q : VK), Inv X pins σ H s → RelV x v → RelV y u → r x y H Q →
    wpAny (model X.prog X.w) X.A (f v u) (EP X pins σ Q) X.xe s
/-- a call of a value that is known (a builtin, a type) with values -/
noncomputable def CallR (X : Cx) (f : Value) (r : List V → Hp → VK → Prop) : Prop :=
  ∀ (pins : List (Addr × Obj)) (s : Shared) (σ : St) (H : Hp) (xs : List V) (us : List Value) (Q : VK), Inv X pins σ H s → Vals xs us → r xs H Q →
    wpAny (model X.prog X.w) X.A (call f us) (EP X pins σ Q) X.xe s
/-- a value's truth -/
noncomputable def TruR (X : Cx) (r : V → Hp → (Bool → Hp → Prop) → Prop) : Prop :=
  ∀ (pins : List (Addr × Obj)) (s : Shared) (σ : St) (H : Hp) (x : V) (v : Value) (Q : Bool → Hp → Prop), Inv X pins σ H s → RelV x v → r x H Q →
    wpAny (model X.prog X.w) X.A (truthy v) (TP X pins σ Q) X.xe s

noncomputable def tOp (r : R2) (ta tb : TE) : TE := fun σ H Q => ta σ H fun x H1 => tb σ H1 fun y H2 => r x y H2 Q
/-- ints in, under C, and a value out -/
noncomputable def rI (C : Int → Int → Prop) (g : Int → Int → V) : R2 := fun x y H Q => ∃ i j, x = .int i ∧ y = .int j ∧ C i j ∧ Q (g i j) H
noncomputable def rI0 (g : Int → Int → V) : R2 := fun x y H Q => ∃ i j, x = .int i ∧ y = .int j ∧ Q (g i j) H
section
variable {X : Cx} {a b c : Expr} {ta tb tc : TE} {pos : Pos}

theorem binT (ha : PE X a ta) (hb : PE X b tb) {pins : List (Addr × Obj)} {s : Shared} {σ : St} {H : Hp} {R : V → V → Hp → Prop} (I : Inv X pins σ H s)
    (h : ta σ H fun x H1 => tb σ H1 fun y H2 => R x y H2) {Q : Value → Shared → Prop} {f : Value → Value → Sem Value}
    (hf : ∀ v u s2 x y H2, Inv X pins σ H2 s2 → RelV x v → RelV y u → R x y H2 → wpAny (model X.prog X.w) X.A (f v u) Q X.xe s2) :
    wpAny (model X.prog X.w) X.A (eval a X.env) (fun v s₁ => wpAny (model X.prog X.w) X.A (eval b X.env) (fun u s₂ => wpAny (model X.prog X.w) X.A (f v u) Q X.xe s₂) X.xe s₁) X.xe s := by
  refine thn (ha pins s σ H _ I h) fun v s1 ⟨x, H1, I1, r1, q1⟩ => ?_
  refine thn (hb pins s1 σ H1 _ I1 q1) fun u s2 ⟨y, H2, I2, r2, q2⟩ => ?_
  exact hf v u s2 x y H2 I2 r1 r2 q2

theorem pe_op {op : Operator} {r : R2} (ho : OpR X (binaryOp op) r) (ha : PE X a ta) (hb : PE X b tb) : PE X (.BinOp a op b pos) (tOp r ta tb) := by
  intro pins s σ H Q I h
  exact wpAny_BinOp (binT ha hb I h fun v u s2 x y H2 I2 rx ry q => ho pins s2 σ H2 x y v u Q I2 rx ry q)
/-! ### ints -/
theorem opI {f : Value → Value → Sem Value} {C : Int → Int → Prop} {g : Int → Int → Int}
    (rule : ∀ (i j : Int) (t u : Tok) (s : Shared) (Q : Value → Shared → Prop) (E : Value → Shared → Prop), C i j → Q (.int (g i j) s.toks) { s with toks := s.toks + 1 } → wpAny (model X.prog X.w) X.A (f (.int i t) (.int j u)) Q E s) :
    OpR X f (rI C fun i j => .int (g i j)) := by
  intro pins s σ H x y v u Q I rx ry h
  obtain ⟨i, j, rfl, rfl, hc, q⟩ := h
  obtain ⟨t, rfl⟩ := rx
  obtain ⟨t', rfl⟩ := ry
  exact rule i j t t' s _ _ hc ⟨.int (g i j), H, I.tok _, ⟨_, rfl⟩, q⟩
theorem opI0 {f : Value → Value → Sem Value} {g : Int → Int → Int}
    (rule : ∀ (i j : Int) (t u : Tok) (s : Shared) (Q : Value → Shared → Prop) (E : Value → Shared → Prop), Q (.int (g i j) s.toks) { s with toks := s.toks + 1 } → wpAny (model X.prog X.w) X.A (f (.int i t) (.int j u)) Q E s) :
    OpR X f (rI0 fun i j => .int (g i j)) := by
  intro pins s σ H x y v u Q I rx ry h
  obtain ⟨i, j, rfl, rfl, q⟩ := h
  obtain ⟨t, rfl⟩ := rx
  obtain ⟨t', rfl⟩ := ry
  exact rule i j t t' s _ _ ⟨.int (g i j), H, I.tok _, ⟨_, rfl⟩, q⟩
theorem opB0 {f : Value → Value → Sem Value} {g : Int → Int → Bool}
    (rule : ∀ (i j : Int) (t u : Tok) (s : Shared) (Q : Value → Shared → Prop) (E : Value → Shared → Prop), Q (.bool (g i j)) s → wpAny (model X.prog X.w) X.A (f (.int i t) (.int j u)) Q E s) :
    OpR X f (rI0 fun i j => .bl (g i j)) := by
  intro pins s σ H x y v u Q I rx ry h
  obtain ⟨i, j, rfl, rfl, q⟩ := h
  obtain ⟨t, rfl⟩ := rx
  obtain ⟨t', rfl⟩ := ry
  exact rule i j t t' s _ _ ⟨.bl (g i j), H, I, rfl, q⟩

noncomputable def CDiv (i j : Int) : Prop := 0 < j ∧ j < 1073741824
noncomputable def CMul (i j : Int) : Prop := (-(2 ^ 64) < i ∧ i < 2 ^ 64) ∨ (-(2 ^ 64) < j ∧ j < 2 ^ 64)
theorem CMul.ok {i j : Int} (h : CMul i j) : IntMulOk i j := by
  rcases h with ⟨h1, h2⟩ | ⟨h1, h2⟩
  · exact .of_left (intBits_le_64 h1 h2)
  · exact .of_right (intBits_le_64 h1 h2)
theorem op_add : OpR X (binaryOp .Add) (rI0 fun i j => .int (i + j)) := opI0 fun _ _ _ _ _ _ _ q => add_int q
theorem op_sub : OpR X (binaryOp .Sub) (rI0 fun i j => .int (i - j)) := opI0 fun _ _ _ _ _ _ _ q => sub_int q
theorem op_mul : OpR X (binaryOp .Mult) (rI CMul fun i j => .int (i * j)) := opI fun _ _ _ _ _ _ _ hc q => mul_int q hc.ok
/-- // by a positive divisor -/
theorem op_fdiv : OpR X (binaryOp .FloorDiv) (rI CDiv fun i j => .int (i / j)) := opI fun i j _ _ _ _ _ hc q => by
  have h1 : (0 : Int) < j := hc.1
  have h2 : j < 1073741824 := hc.2
  exact floordiv_int (by omega) (by rw [Int.fdiv_eq_ediv_of_nonneg i (by omega)]; exact q) (.inl (PyProof.noPylong_small (by omega)))
/-- % by a positive divisor of any size -/
theorem op_mod : OpR X (binaryOp .Mod) (rI (fun _ j => 0 < j) fun i j => .int (i % j)) := opI fun i j _ _ _ _ _ hc q => by
  have h1 : (0 : Int) < j := hc
  exact mod_int' (by omega) (by rw [Int.fmod_eq_emod_of_nonneg i (by omega)]; exact q)
/-! ### bools among ints: n += (a < b) -/
end

/-! ### comparisons -/
/-- the scalars that == tells apart as data does -/
noncomputable def scal : V → V → Bool
  | .non, .non => true | .non, .int _ => true | .int _, .non => true | .non, .bl _ => true | .bl _, .non => true | .non, .str _ => true | .str _, .non => true
  | .int _, .int _ => true | .bl _, .bl _ => true | .str _, .str _ => true | .byt _, .byt _ => true
  | .int _, .str _ => true | .str _, .int _ => true | .bl _, .str _ => true | .str _, .bl _ => true
  | _, _ => false
noncomputable def rEq : R2 := fun x y H Q => scal x y = true ∧ Q (.bl (decide (x = y))) H
noncomputable def rNe : R2 := fun x y H Q => scal x y = true ∧ Q (.bl (!decide (x = y))) H

theorem dec_int {i j : Int} : decide (V.int i = V.int j) = (i == j) := by
  rw [Bool.eq_iff_iff]
  simp
theorem dec_bl {i j : Bool} : decide (V.bl i = V.bl j) = (i == j) := by
  rw [Bool.eq_iff_iff]
  simp
theorem dec_str {i j : Str} : decide (V.str i = V.str j) = (i == j) := by
  rw [Bool.eq_iff_iff]
  simp
theorem dec_byt {i j : Array UInt8} : decide (V.byt i = V.byt j) = (i.toList == j.toList) := by
  rw [Bool.eq_iff_iff]
  cases i
  cases j
  simp

section
variable {X : Cx} {a b c : Expr} {ta tb tc : TE} {pos : Pos}
theorem fin_bl {pins : List (Addr × Obj)} {σ : St} {H : Hp} {s : Shared} {Q : VK} {k k' : Bool} (I : Inv X pins σ H s) (q : Q (.bl k) H) (e : k = k') : EP X pins σ Q (.bool k') s := by
  subst e
  exact ⟨.bl k, H, I, rfl, q⟩
theorem op_eq : OpR X (compareOp .Eq) rEq := by
  intro pins s σ H x y v u Q I rx ry h
  obtain ⟨hs, q⟩ := h
  cases x with
  | non =>
    cases rx
    cases y with
    | non => cases ry; exact PySem.EqNone.eq_none_none (fin_bl I q (by simp))
    | bl j => cases ry; exact PySem.EqNone.eq_none_bool (fin_bl I q (by simp))
    | int j => obtain ⟨t', rfl⟩ := ry; exact PySem.EqNone.eq_none_int (fin_bl I q (by simp))
    | str j => obtain ⟨t', rfl⟩ := ry; exact PySem.EqNone.eq_none_str (fin_bl I q (by simp))
    | _ => exact absurd (show false = true from hs) Bool.false_ne_true
  | bl i =>
    cases rx
    cases y with
    | non => cases ry; exact PySem.EqNone.eq_bool_none (fin_bl I q (by simp))
    | bl j => cases ry; exact eq_bool (fin_bl I q dec_bl)
    | str j => obtain ⟨t', rfl⟩ := ry; exact PySem.EqMixed.eq_bool_str (fin_bl I q (by simp))
    | _ => exact absurd (show false = true from hs) Bool.false_ne_true
  | int i =>
    obtain ⟨t, rfl⟩ := rx
    cases y with
    | non => cases ry; exact PySem.EqNone.eq_int_none (fin_bl I q (by simp))
    | int j => obtain ⟨t', rfl⟩ := ry; exact eq_int (fin_bl I q dec_int)
    | str j => obtain ⟨t', rfl⟩ := ry; exact PySem.EqMixed.eq_int_str (fin_bl I q (by simp))
    | _ => exact absurd (show false = true from hs) Bool.false_ne_true
  | str i =>
    obtain ⟨t, rfl⟩ := rx
    cases y with
    | non => cases ry; exact PySem.EqNone.eq_str_none (fin_bl I q (by simp))
    | bl j => cases ry; exact PySem.EqMixed.eq_str_bool (fin_bl I q (by simp))
    | int j => obtain ⟨t', rfl⟩ := ry; exact PySem.EqMixed.eq_str_int (fin_bl I q (by simp))
    | str j => obtain ⟨t', rfl⟩ := ry; exact eq_str (fin_bl I q dec_str)
    | _ => exact absurd (show false = true from hs) Bool.false_ne_true
  | byt i =>
    obtain ⟨t, rfl⟩ := rx
    cases y with
    | byt j => obtain ⟨t', rfl⟩ := ry; exact PySem.W.eq_bytes (fin_bl I q dec_byt)
    | _ => exact absurd (show false = true from hs) Bool.false_ne_true
  | _ => cases y <;> exact absurd (show false = true from hs) Bool.false_ne_true
theorem op_ne : OpR X (compareOp .NotEq) rNe := by
  intro pins s σ H x y v u Q I rx ry h
  obtain ⟨hs, q⟩ := h
  cases x with
  | non =>
    cases rx
    cases y with
    | non => cases ry; exact PySem.EqNone.ne_none_none (fin_bl I q (by simp))
    | bl j => cases ry; exact PySem.EqNone.ne_none_bool (fin_bl I q (by simp))
    | int j => obtain ⟨t', rfl⟩ := ry; exact PySem.EqNone.ne_none_int (fin_bl I q (by simp))
    | str j => obtain ⟨t', rfl⟩ := ry; exact PySem.EqNone.ne_none_str (fin_bl I q (by simp))
    | _ => exact absurd (show false = true from hs) Bool.false_ne_true
  | bl i =>
    cases rx
    cases y with
    | non => cases ry; exact PySem.EqNone.ne_bool_none (fin_bl I q (by simp))
    | bl j => cases ry; exact ne_bool (fin_bl I q (congrArg not dec_bl))
    | str j => obtain ⟨t', rfl⟩ := ry; exact PySem.EqMixed.ne_bool_str (fin_bl I q (by simp))
    | _ => exact absurd (show false = true from hs) Bool.false_ne_true
  | int i =>
    obtain ⟨t, rfl⟩ := rx
    cases y with
    | non => cases ry; exact PySem.EqNone.ne_int_none (fin_bl I q (by simp))
    | int j => obtain ⟨t', rfl⟩ := ry; exact ne_int (fin_bl I q (congrArg not dec_int))
    | str j => obtain ⟨t', rfl⟩ := ry; exact PySem.EqMixed.ne_int_str (fin_bl I q (by simp))
    | _ => exact absurd (show false = true from hs) Bool.false_ne_true
  | str i =>
    obtain ⟨t, rfl⟩ := rx
    cases y with
    | non => cases ry; exact PySem.EqNone.ne_str_none (fin_bl I q (by simp))
    | bl j => cases ry; exact PySem.EqMixed.ne_str_bool (fin_bl I q (by simp))
    | int j => obtain ⟨t', rfl⟩ := ry; exact PySem.EqMixed.ne_str_int (fin_bl I q (by simp))
    | str j => obtain ⟨t', rfl⟩ := ry; exact ne_str (fin_bl I q (congrArg not dec_str))
    | _ => exact absurd (show false = true from hs) Bool.false_ne_true
  | byt i =>
    obtain ⟨t, rfl⟩ := rx
    cases y with
    | byt j => obtain ⟨t', rfl⟩ := ry; exact PySem.W.ne_bytes (fin_bl I q (congrArg not dec_byt))
    | _ => exact absurd (show false = true from hs) Bool.false_ne_true
  | _ => cases y <;> exact absurd (show false = true from hs) Bool.false_ne_true

theorem op_lt : OpR X (compareOp .Lt) (rI0 fun i j => .bl (decide (i < j))) := opB0 fun _ _ _ _ _ _ _ q => lt_int q
theorem op_le : OpR X (compareOp .LtE) (rI0 fun i j => .bl (decide (i ≤ j))) := opB0 fun _ _ _ _ _ _ _ q => le_int q
theorem op_gt : OpR X (compareOp .Gt) (rI0 fun i j => .bl (decide (j < i))) := opB0 fun _ _ _ _ _ _ _ q => gt_int q
theorem op_ge : OpR X (compareOp .GtE) (rI0 fun i j => .bl (decide (j ≤ i))) := opB0 fun _ _ _ _ _ _ _ q => ge_int q
/-- is None, is not None: the right side a value none -/
theorem op_isN : OpR X (compareOp .Is) (fun x y H Q => y = .non ∧ Q (.bl (decide (x = .non))) H) := by
  intro pins s σ H x y v u Q I rx ry h
  obtain ⟨rfl, q⟩ := h
  cases ry
  refine is_none_gen (fin_bl I q ?_)
  cases x <;> first
    | (cases rx; rfl)
    | (obtain ⟨t, rfl⟩ := rx; rfl)
theorem op_notN : OpR X (compareOp .IsNot) (fun x y H Q => y = .non ∧ Q (.bl (!decide (x = .non))) H) := by
  intro pins s σ H x y v u Q I rx ry h
  obtain ⟨rfl, q⟩ := h
  cases ry
  refine isnot_none_gen (fin_bl I q ?_)
  cases x <;> first
    | (cases rx; rfl)
    | (obtain ⟨t, rfl⟩ := rx; rfl)

theorem nomark (b : Expr) {op : CmpOp} (h : op ≠ .In := by decide) (h2 : op ≠ .NotIn := by decide) : behindInMarks op b = false := by
  have e1 : (op == CmpOp.In) = false := by cases op <;> first | rfl | exact absurd rfl h
  have e2 : (op == CmpOp.NotIn) = false := by cases op <;> first | rfl | exact absurd rfl h2
  cases b <;> simp [behindInMarks, e1, e2]
/-- a comparison as a value; hm: nomark b, or (for in, not in) by with_unfolding_all rfl -/
theorem pe_cmpR {op : CmpOp} {r : R2} (ho : OpR X (compareOp op) r) (ha : PE X a ta) (hb : PE X b tb) (hm : behindInMarks op b = false) : PE X (.Compare a [op] [b] pos) (tOp r ta tb) := by
  intro pins s σ H Q I h
  exact wpAny_Compare1 (binT ha hb I h fun v u s2 x y H2 I2 rx ry q => ho pins s2 σ H2 x y v u Q I2 rx ry q) hm
/-- a reading of a value as a test -/
noncomputable def tTest (t : TE) : TT := fun σ H Q => t σ H fun x H' => ∃ k, x = .bl k ∧ Q k H'
theorem pt_cmpR {op : CmpOp} {r : R2} (ho : OpR X (compareOp op) r) (ha : PE X a ta) (hb : PE X b tb) (hm : behindInMarks op b = false) : PT X (.Compare a [op] [b] pos) (tTest (tOp r ta tb)) := by
  intro pins s σ H Q I h
  refine wpAny_isTrue_Compare1 (thn (ha pins s σ H _ I h) fun v s1 ⟨x, H1, I1, r1, q1⟩ => thn (hb pins s1 σ H1 _ I1 q1) fun u s2 ⟨y, H2, I2, r2, q2⟩ =>
    thn (ho pins s2 σ H2 x y v u _ I2 r1 r2 q2) fun c s3 ⟨z, H3, I3, r3, k, e, q3⟩ => ?_) hm
  subst e
  cases r3
  exact wpAny_truthy_bool ⟨H3, I3, q3⟩
/-- a op1 b op2 c -/
noncomputable def tChain (r r' : R2) (ta tb tc : TE) : TE := fun σ H Q => ta σ H fun x H1 => tb σ H1 fun y H2 => r x y H2 fun z H3 => ∃ k, z = .bl k ∧
  (if k = true then tc σ H3 fun w' H4 => r' y w' H4 Q else Q (.bl false) H3)
theorem pt_chain {op op' : CmpOp} {r r' : R2} (ho : OpR X (compareOp op) r) (ho' : OpR X (compareOp op') r') (ha : PE X a ta) (hb : PE X b tb) (hc : PE X c tc)
    (hm : lastMarks [op, op'] [b, c] = false := by with_unfolding_all rfl) : PT X (.Compare a [op, op'] [b, c] pos) (tTest (tChain r r' ta tb tc)) := by
  intro pins s σ H Q I h
  refine isTrue_chain (thn (ha pins s σ H _ I h) fun v s1 ⟨x, H1, I1, r1, q1⟩ => test_link (thn (hb pins s1 σ H1 _ I1 q1) fun u s2 ⟨y, H2, I2, r2, q2⟩ =>
    thn (ho pins s2 σ H2 x y v u _ I2 r1 r2 q2) fun d s3 ⟨z, H3, I3, r3, k, e, q3⟩ => ?_)) hm
  subst e
  cases r3
  refine wpAny_truthy_bool ?_
  cases k with
  | false =>
    obtain ⟨k', e', q'⟩ := q3
    cases e'
    exact ite_ff ⟨H3, I3, q'⟩
  | true =>
    refine ite_tt (test_last (thn (hc pins s3 σ H3 _ I3 q3) fun w' s4 ⟨z', H4, I4, r4, q4⟩ => thn (ho' pins s4 σ H4 y z' u w' _ I4 r2 r4 q4) fun d' s5 ⟨z2, H5, I5, r5, k2, e2, q5⟩ => ?_))
    subst e2
    cases r5
    exact wpAny_truthy_bool ⟨H5, I5, q5⟩

/-! ### truth -/
/-- a value's truth by the abstract heap -/
noncomputable def TruV (K : PySem.W.Frag) (x : V) (H : Hp) (k : Bool) : Prop :=
  match x with
  | .non => k = false
  | .bl b => k = b
  | .int i => k = (i != 0)
  | .str y => y.length ≤ sizeLine ∧ k = ((y.length : Int) != 0)
  | .byt y => y.size ≤ sizeLine ∧ k = ((y.size : Int) != 0)
  | .ref p => (∃ xs, SqL K H p xs ∧ k = !xs.isEmpty) ∨ (∃ xs, SqT K H p xs ∧ k = !xs.isEmpty) ∨ ∃ kvs, H p = some (.dK kvs) ∧ k = !kvs.isEmpty
  | _ => False
theorem isEmpty_kv {κ : Type} {kvs : List (κ × V)} {vs : List (κ × Value)} (r : KV kvs vs) : (!vs.isEmpty) = !kvs.isEmpty := by
  cases r <;> rfl
theorem isEmpty_of {xs : List V} {its : List Value} (r : Vals xs its) : (!its.toArray.isEmpty) = !xs.isEmpty := by
  cases r <;> simp
theorem line63 : (sizeLine : Nat) < 2 ^ 63 := by rw [sizeLine_eq]; decide
theorem tru_ok : TruR X (fun x H Q => ∃ k, TruV X.K x H k ∧ Q k H) := by
  intro pins s σ H x v Q I rx h
  obtain ⟨k, e, q⟩ := h
  have hl := line63
  have hs : sizeLine = 16777216 := sizeLine_eq
  cases x with
  | non =>
    cases rx
    have e' : k = false := e
    subst e'
    exact truthy_none ⟨H, I, q⟩
  | bl b =>
    cases rx
    have e' : k = b := e
    subst e'
    exact wpAny_truthy_bool ⟨H, I, q⟩
  | int i =>
    obtain ⟨t, rfl⟩ := rx
    have e' : k = (i != 0) := e
    subst e'
    exact PySem.P.truthy_int ⟨H, I, q⟩
  | str y =>
    obtain ⟨t, rfl⟩ := rx
    obtain ⟨hy, e'⟩ : y.length ≤ sizeLine ∧ k = ((y.length : Int) != 0) := e
    subst e'
    exact PySem.P.truthy_str (by omega) ⟨H, I.tok _, q⟩
  | byt y =>
    obtain ⟨t, rfl⟩ := rx
    obtain ⟨hy, e'⟩ : y.size ≤ sizeLine ∧ k = ((y.size : Int) != 0) := e
    subst e'
    exact PySem.W.truthy_bytes (by omega) ⟨H, I.tok _, q⟩
  | ref p =>
    cases rx
    have e' : (∃ xs, SqL X.K H p xs ∧ k = !xs.isEmpty) ∨ (∃ xs, SqT X.K H p xs ∧ k = !xs.isEmpty) ∨ ∃ kvs, H p = some (.dK kvs) ∧ k = !kvs.isEmpty := e
    rcases e' with ⟨xs, hx, e'⟩ | ⟨xs, hx, e'⟩ | ⟨kvs, hx, e'⟩
    · subst e'
      obtain ⟨its, r, pl, hz⟩ := I.list hx
      have hlen := r.length
      exact wpAny_truthy_list pl.isList (by simp only [List.size_toArray]; omega) ⟨H, I.tok _, by rw [isEmpty_of r]; exact q⟩
    · subst e'
      obtain ⟨its, r, pl, hz⟩ := I.tuple hx
      have hlen := r.length
      exact truthy_tuple pl (by simp only [List.size_toArray]; omega) ⟨H, I.tok _, by rw [isEmpty_of r]; exact q⟩
    · subst e'
      obtain ⟨hz, hS, vs, r, m⟩ : kvs.length ≤ sizeLine ∧ (p == sysModules) = false ∧ ∃ vs, KV kvs vs ∧ s.heap.DictOf (mixKind X.prog X.w) p vs := I.hok p _ hx
      have hlen : kvs.length = vs.length := Paired.length r
      exact wpAny_truthy_dict hS m (by omega) ⟨H, I.tok _, by rw [isEmpty_kv r]; exact q⟩
  | _ => exact (show False from e).elim
/-- any expression whose test is its value's truth (a name, a call, a subscript, a field ..: he by fun _ => rfl) -/
theorem pt_truth (ha : PE X a ta) (he : ∀ whole, isTrue a X.env whole = (do let v ← whole; standAt a.pos; holding [v] (truthy v))) :
    PT X a (fun σ H Q => ta σ H fun x H' => ∃ k, TruV X.K x H' k ∧ Q k H') := by
  intro pins s σ H Q I h
  exact isTrue_plain (thn (ha pins s σ H _ I h) fun v s1 ⟨x, H1, I1, r1, q1⟩ => tru_ok pins s1 σ H1 x v Q I1 r1 q1) (he _)

/-! ### strs and bytes -/
/-! ### scalar builtins, by CallR -/
theorem vals1 {x : V} {us : List Value} (r : Vals [x] us) : ∃ u, us = [u] ∧ RelV x u := by
  cases r with
  | cons r1 r2 => cases r2; exact ⟨_, rfl, r1⟩
theorem vals2 {x y : V} {us : List Value} (r : Vals [x, y] us) : ∃ u w', us = [u, w'] ∧ RelV x u ∧ RelV y w' := by
  cases r with
  | cons r1 r2 =>
    cases r2 with
    | cons r3 r4 => cases r4; exact ⟨_, _, rfl, r1, r3⟩
theorem call_max2 (hc : X.calm = true) : CallR X (.builtin "max") (fun xs H Q => ∃ i j, xs = [.int i, .int j] ∧ Q (.int (if j > i then j else i)) H) := by
  intro pins s σ H xs us Q I r h
  obtain ⟨i, j, rfl, q⟩ := h
  obtain ⟨u, w', rfl, ⟨t, rfl⟩, ⟨t', rfl⟩⟩ := vals2 r
  refine max_two_ints (I.ok.hd hc) fun h' tk k => ⟨_, H, I.kept k, ?_, q⟩
  by_cases hj : j > i
  · rw [if_pos hj, if_pos hj]; exact ⟨_, rfl⟩
  · rw [if_neg hj, if_neg hj]; exact ⟨_, rfl⟩
theorem call_int1 : CallR X (.type "int") (fun xs H Q => (∃ i, xs = [.int i] ∧ Q (.int i) H) ∨ ∃ k, xs = [.bl k] ∧ Q (.int (if k then 1 else 0)) H) := by
  intro pins s σ H xs us Q I r h
  rcases h with ⟨i, rfl, q⟩ | ⟨k, rfl, q⟩
  · obtain ⟨u, rfl, t, rfl⟩ := vals1 r
    exact call_int_int ⟨.int i, H, I, ⟨_, rfl⟩, q⟩
  · obtain ⟨u, rfl, r1⟩ := vals1 r
    cases r1
    exact call_int_bool ⟨.int (if k then 1 else 0), H, I.tok _, ⟨_, rfl⟩, q⟩
end
end L2

namespace L2
open PySem PySem.Spec PyProof.Rows

/-! ### an instance, its attributes a map -/
structure ObjM (h : Heap) (x dx C : Addr) (mA : Str → Option Value) : Prop where
  obj : h.get? x = some (PySem.W.instObj C dx)
  ns : h.Ns1 dx mA
  ne : dx ≠ x

theorem lookIn_ns {h : Heap} {dx : Addr} {mA : Str → Option Value} (n : h.Ns1 dx mA) : ∃ od, h.get? dx = some od ∧ ∀ name, PySem.W.lookIn name od = some (mA name) := by
  obtain ⟨o, es, ep, ho, hd, hk, _, hm⟩ := n
  refine ⟨o, ho, fun name => ?_⟩
  have e := hm name
  unfold nsFind findBy at e
  rw [← Array.find?_toList] at e
  unfold PySem.W.lookIn
  rw [hd]
  dsimp only
  split
  · rename_i y q
    rw [q] at e
    exact congrArg some e
  · rename_i q
    rw [q] at e
    have a : es.toList.any (·.refKey) = false := by
      rw [List.any_eq_false]
      intro y hy
      obtain ⟨z, t, hkey⟩ := hk y (Array.mem_toList_iff.mp hy)
      simp [DictEntry.refKey, hkey]
    have a' : ¬ es.toList.any (·.refKey) = true := by rw [a]; exact Bool.false_ne_true
    rw [if_neg a']
    exact congrArg some e

theorem ObjM.look {h : Heap} {x dx C : Addr} {mA : Str → Option Value} (I : ObjM h x dx C mA) : ∃ od, PySem.W.InstAt h x (PySem.W.instObj C dx) C (some od) ∧ ∀ name, PySem.W.lookIn name od = some (mA name) :=
  let ⟨od, ho, hl⟩ := lookIn_ns I.ns
  ⟨od, ⟨I.obj, rfl, rfl, ho⟩, hl⟩

section
variable {prog : Program} {w : World} {A : Around} {E : Value → Shared → Prop} {s : Shared} {K : PySem.W.Frag} {x dx C f : Addr} {mA : Str → Option Value} {name : Str} {v : Value}

end

/-! ### the attributes as a list of pairs -/
theorem RelO.some_of {v : V} {o : Option Value} (r : RelO (some v) o) : ∃ u, o = some u ∧ RelV v u := by
  cases o with
  | none => exact (show False from r).elim
  | some u => exact ⟨u, rfl, r⟩
section
variable {P : Program} {w : World} {H H' : Hp} {h h' : Heap} {a C dx : Addr} {fs fs' : List (Str × V)}
theorem ins_get (hok : HOk P w H h) (e : H a = some (.ins C dx fs)) : ∃ mA, ObjM h a dx C mA ∧ (∀ f, RelO (fs.lookup f) (mA f)) ∧ PySem.Within mA (fs.map (·.1)) ∧ fs.length ≤ 1000 ∧ H dx = some (.own a) := by
  obtain ⟨d, z, ne, ob, mA, n, r, q⟩ := (show ObjOk P w H h a (.ins C dx fs) from hok a _ e)
  exact ⟨mA, ⟨ob, n, ne⟩, r, q, z, d⟩
end

/-! ### what of the text a class must have -/
structure Cls (K : PySem.W.Frag) (C : Addr) : Prop where
  pg : PySem.W.plainGet K C Str.empty = true
  hd : PySem.W.hasDictIn K C = true
  po : PySem.W.plainOver K C = true
  sa : PySem.W.findIn K (.ref C) "__setattr__" = some (some (.builtin "object.__setattr__"))
theorem Cls.get {K : PySem.W.Frag} {C : Addr} (c : Cls K C) (f : Str) : PySem.W.plainGet K C f = true := c.pg
section
variable {X : Cx} {pins : List (Addr × Obj)} {σ : St} {H : Hp} {s : Shared} {a C dx : Addr} {fs : List (Str × V)} {f : Str} {v : V} {A : Around} {E : Value → Shared → Prop}

end

/-! ### readings and rules -/
section
variable {X : Cx} {o e value : Expr} {f : Str} {pos pos' tpos : Pos} {ta tv : TE}
end

/-! ### isinstance -/
section
variable {X : Cx} {pins : List (Addr × Obj)} {σ : St} {H : Hp} {s : Shared} {A : Around} {E : Value → Shared → Prop} {Q : Value → Shared → Prop} {c : Value} {b : Bool}
/-- the type of a value, as the fragment's deciders take it; for an instance its class -/
inductive TyOf (K : PySem.W.Frag) (H : Hp) : V → Value → Prop where
  | non : TyOf K H .non (.type "NoneType")
  | bl (x : Bool) : TyOf K H (.bl x) (.type "bool")
  | int (i : Int) : TyOf K H (.int i) (.type "int")
  | str (x : Str) : TyOf K H (.str x) (.type "str")
  | flt (x : UInt64) : TyOf K H (.flt x) (.type "float")
  | lst {a : Addr} {xs : List V} (e : H a = some (.lst xs)) : TyOf K H (.ref a) (.type "list")
  | frz {a : Addr} {o : Obj} {xs : List V} (e : H a = some (.frz o (.lst xs))) : TyOf K H (.ref a) (.type "list")
  | tup {a : Addr} {xs : List V} (e : H a = some (.tup xs)) : TyOf K H (.ref a) (.type "tuple")
  | dK {a : Addr} {kvs : List (Key × V)} (e : H a = some (.dK kvs)) : TyOf K H (.ref a) (.type "dict")
  | dT {a : Addr} {kvs : List (List Key × V)} (e : H a = some (.dT kvs)) : TyOf K H (.ref a) (.type "dict")
  | ins {a C dx : Addr} {fs : List (Str × V)} (e : H a = some (.ins C dx fs)) (cl : Cls K C) (ha : PySem.W.findIn K (.ref C) "__class__" = some (some (.builtin "object.__class__")))
      (hn : PySem.W.specialIn K (.builtin "object.__class__") "__get__" = some (some (.builtin "getset_descriptor.__get__"))) (htk : PySem.W.takesIn K (.builtin "object.__class__") = some true)
      (hm : PySem.W.mroIn K C (.type "object") = some true) : TyOf K H (.ref a) (.ref C)
/-- isinstance(x, c) for one class c, a built-in or an own one: kitOne's answer -/
theorem isinst_ok {x : V} {u t : Value} (I : Inv X pins σ H s) (rx : RelV x u) (ty : TyOf X.K H x t) (e : PySem.W.kitOne X.K t c = some b) (h : ∀ tk, Q (.bool b) { s with toks := tk }) :
    wpAny (model X.prog X.w) A (call (.builtin "isinstance") [u, c]) Q E s := by
  cases ty with
  | non => cases (show u = Value.none from rx); exact PySem.W.kia_one PySem.W.kitx_none I.kIn True.intro e (fun z => nomatch z) h
  | bl y => cases (show u = Value.bool y from rx); exact PySem.W.kia_one PySem.W.kitx_bool I.kIn True.intro e (fun z => nomatch z) h
  | int i => obtain ⟨t, q⟩ := (show ∃ t, u = Value.int i t from rx); cases q; exact PySem.W.kia_one PySem.W.kitx_int I.kIn True.intro e (fun z => nomatch z) h
  | str y => obtain ⟨t, q⟩ := (show ∃ t, u = Value.str y t from rx); cases q; exact PySem.W.kia_one PySem.W.kitx_str I.kIn True.intro e (fun z => nomatch z) h
  | flt y => obtain ⟨t, q⟩ := (show ∃ t, u = Value.float y t from rx); cases q; exact PySem.W.kia_one PySem.W.kitx_float I.kIn True.intro e (fun z => nomatch z) h
  | @lst a xs ea =>
    cases (show u = Value.ref a from rx)
    obtain ⟨_, _, n, _, h1⟩ := (show ObjOk X.prog X.w H s.heap a (.lst xs) from I.hok a _ ea)
    exact PySem.W.kia_one PySem.W.kitx_list I.kIn ⟨_, h1, rfl⟩ e (fun z => nomatch z) h
  | @frz a ob xs ea =>
    cases (show u = Value.ref a from rx)
    obtain ⟨_, _, _, n, _, h1⟩ := (show ObjOk X.prog X.w H s.heap a (.frz ob (.lst xs)) from I.hok a _ ea)
    exact PySem.W.kia_one PySem.W.kitx_list I.kIn ⟨_, h1, rfl⟩ e (fun z => nomatch z) h
  | @tup a xs ea =>
    cases (show u = Value.ref a from rx)
    obtain ⟨_, _, _, p⟩ := (show ObjOk X.prog X.w H s.heap a (.tup xs) from I.hok a _ ea)
    obtain ⟨o, h1, h2, _⟩ := p
    exact PySem.W.kia_one PySem.W.kitx_tuple I.kIn ⟨o, h1, h2⟩ e (fun z => nomatch z) h
  | @dK a kvs ea =>
    cases (show u = Value.ref a from rx)
    obtain ⟨_, _, vs, _, p⟩ := (show ObjOk X.prog X.w H s.heap a (.dK kvs) from I.hok a _ ea)
    obtain ⟨o, es, ep, h1, h2, _⟩ := p
    exact PySem.W.kia_one PySem.W.kitx_dict I.kIn ⟨o, h1, h2.1⟩ e (fun z => nomatch z) h
  | @dT a kvs ea =>
    cases (show u = Value.ref a from rx)
    obtain ⟨_, _, xs, _, o, es, ep, h1, h2, _⟩ := (show ObjOk X.prog X.w H s.heap a (.dT kvs) from I.hok a _ ea)
    exact PySem.W.kia_one PySem.W.kitx_dict I.kIn ⟨o, h1, h2.1⟩ e (fun z => nomatch z) h
  | @ins a C dx fs ea cl ha hn htk hm =>
    cases (show u = Value.ref a from rx)
    obtain ⟨mA, O, _⟩ := ins_get I.hok ea
    obtain ⟨od, J, _⟩ := O.look
    exact PySem.W.kia_one (PySem.W.kitx_own (cl.get _) cl.hd ha hn htk hm) I.kIn J e (fun z => nomatch z) h
end
end L2

namespace L2
open PySem PySem.Spec PyProof.Rows

/-! ### room -/
structure Room (k : Nat) (A : Around) : Prop where
  hd : A.handled = none
  dp : A.depth + 3 * k + 5 < recursionLimit
  un : A.units + 16 * k + 200 < cLine
theorem Room.mono {j k : Nat} {A : Around} (r : Room k A) (h : j ≤ k) : Room j A := ⟨r.hd, by have := r.dp; omega, by have := r.un; omega⟩
theorem Room.deeper {k : Nat} {A : Around} (r : Room (k + 1) A) (env : Env) : Room k (A.deeper env) :=
  ⟨r.hd, by have := r.dp; show A.depth + 1 + 3 * k + 5 < _; omega, by have := r.un; show A.units + 3 + 16 * k + 200 < _; omega⟩
theorem Room.depth {k : Nat} {A : Around} (r : Room k A) : A.depth < recursionLimit := by have := r.dp; omega
theorem Room.units {k : Nat} {A : Around} (r : Room k A) : A.units + 64 < cLine := by have := r.un; omega
/-! ### argument lists and displays -/
noncomputable def tNil : TA := fun _ H Q => Q [] H
noncomputable def tCons (ta : TE) (tr : TA) : TA := fun σ H Q => ta σ H fun x H1 => tr σ H1 fun xs H2 => Q (x :: xs) H2
section
variable {X : Cx} {e : Expr} {es : List Expr} {te : TE} {t : TA} {pos : Pos}
theorem pa_nil : PA X [] tNil := fun _ _ _ _ H Q I h => Calls.spliced_nil ⟨[], H, I, .nil, h⟩
theorem pa_cons (ha : PE X e te) (hr : PA X es t) (hs : starEach (e :: es) X.env = (false, eval e X.env) :: starEach es X.env := by rfl) : PA X (e :: es) (tCons te t) := by
  intro pos pins s σ H Q I h
  rw [hs]
  show wpAny _ _ (spliced ((false, eval e X.env) :: backTo pos (starEach es X.env))) _ _ s
  refine Calls.spliced_cons (thn (ha pins s σ H _ I h) fun u s1 ⟨x, H1, I1, r1, q1⟩ => ?_)
  exact thn (hr pos pins s1 σ H1 _ I1 q1) fun us s2 ⟨xs, H2, I2, r2, q2⟩ => ⟨x :: xs, H2, I2, .cons r1 r2, q2⟩

/-- a tuple, a list of written items -/
noncomputable def tTup (t : TA) : TE := fun σ H Q => t σ H fun xs H1 => xs.length ≤ sizeLine ∧ ∀ p, H1 p = none → Q (.ref p) (upd H1 p (.tup xs))
noncomputable def tLst (t : TA) : TE := fun σ H Q => t σ H fun xs H1 => xs.length ≤ sizeLine ∧ ∀ p, H1 p = none → Q (.ref p) (upd H1 p (.lst xs))
theorem pe_tup {x1} (h : PA X es t) : PE X (.Tuple es x1 pos) (tTup t) := by
  intro pins s σ H Q I hq
  refine wpAny_Tuple_spliced (thn (h pos pins s σ H _ I hq) fun us s1 ⟨xs, H1, I1, r, z, q⟩ => ⟨by rw [← r.length]; exact z, ?_⟩)
  have hf : H1 s1.heap.objs.size = none := I1.hok.fresh (Nat.le_refl _)
  refine ⟨.ref s1.heap.objs.size, upd H1 s1.heap.objs.size (.tup xs), I1.laid (t' := s1.toks) (fun b u e => Heap.get?_push_of_some _ e) (Nat.le_refl _) ?_, rfl, q _ hf⟩
  exact ⟨z, us, r, ⟨_, Heap.get?_push_size _ rfl, rfl, _, rfl⟩⟩
theorem pe_lst (h : PA X es t) : PE X (.List es pos) (tLst t) := by
  intro pins s σ H Q I hq
  refine wpAny_List_spliced (thn (h pos pins s σ H _ I hq) fun us s1 ⟨xs, H1, I1, r, z, q⟩ => ⟨by rw [← r.length]; exact z, ?_⟩)
  have hf : H1 s1.heap.objs.size = none := I1.hok.fresh (Nat.le_refl _)
  refine ⟨.ref s1.heap.objs.size, upd H1 s1.heap.objs.size (.lst xs), I1.laid (t' := s1.toks) (fun b u e => Heap.get?_push_of_some _ e) (Nat.le_refl _) ?_, rfl, q _ hf⟩
  exact ⟨z, us, 0, r, Heap.get?_push_size _ rfl⟩
end

/-! ### what a def promises -/
/-- a def's promise: the bound arguments in the parameters' order, the heap, the wanted end, the wanted exception -/
noncomputable abbrev Sp := List V → Hp → VK → XK → Prop
/-- how an exception lies behind a call (file 08 gives it): the callers' frames, abstract heap and state ahead of the call, the wish, the exception, the state -/
noncomputable abbrev CXT := List Env → Hp → Shared → XK → Value → Shared → Prop

/-- the state at a call -/
structure Env0 (P : Program) (w : World) (K : PySem.W.Frag) (mg : Str → Option Value) (base : Heap) (A : Around) (outer : List Env) (s : Shared) (H : Hp) : Prop where
  frames : A.frames = some outer
  mod : Mod K mg base
  bs : ∀ b o, base.get? b = some o → s.heap.get? b = some o ∧ H b = none
  bsz : base.objs.size ≤ s.heap.objs.size
  funs : s.heap.FunFrames base outer
  frf : ∀ b ∈ frs outer, H b = none
  hok : HOk P w H s.heap
  bare : AllBare s.gens
/-- a call's end -/
noncomputable def CE (outer : List Env) (P : Program) (w : World) (H : Hp) (s : Shared) (Q : VK) (u : Value) (s' : Shared) : Prop :=
  ∃ v H', s'.os = s.os ∧ AllBare s'.gens ∧ Un (frs outer) [] H H' s.heap s'.heap ∧ HOk P w H' s'.heap ∧ RelV v u ∧ Q v H'
noncomputable def CR (CX : CXT) (outer : List Env) (P : Program) (w : World) (H : Hp) (s : Shared) (Q : VK) (E : XK) (r : Result) (s' : Shared) : Prop :=
  match r with
  | .ok (.ret u) => CE outer P w H s Q u s'
  | .ok _ => False
  | .error e => CX outer H s E e s'
structure FnOk (P : Program) (w : World) (K : PySem.W.Frag) (mg : Str → Option Value) (base : Heap) (CX : CXT) (k : Nat) (f : Addr) (fd : FuncData) (ps : List Str) (sp : Sp) : Prop where
  len : ∀ vs H Q E, sp vs H Q E → vs.length = ps.length
  run : ∀ (A : Around) (outer : List Env) (s : Shared) (H : Hp) (args : Args) (us : List Value) (vs : List V) (Q : VK) (E : XK), Room k A → Env0 P w K mg base A outer s H → BindsTo s fd args (ps.zip us) → Vals vs us → sp vs H Q E →
    codeAny (model P w) A (.call (.ref f) args) (CR CX outer P w H s Q E) s
section
variable {X : Cx} {pins : List (Addr × Obj)} {σ : St} {H : Hp} {s s' : Shared}
/-- from a body: what a callee wants -/
theorem Inv.env0 (I : Inv X pins σ H s) : Env0 X.prog X.w X.K X.mg X.base X.A X.stack s H :=
  ⟨I.ok.frames, I.ok.mod, I.bs, Nat.le_trans I.ok.bsz I.sz, I.stack, I.stkFree, I.hok, I.bare⟩
/-- behind a call -/
theorem Inv.after {Q : VK} {u : Value} (I : Inv X pins σ H s) (h : CE X.stack X.prog X.w H s Q u s') : EP X pins σ Q u s' := by
  obtain ⟨v, H', os, bare, un, hok, r, q⟩ := h
  obtain ⟨hh, g, d, t, os'⟩ := s'
  obtain rfl : os' = s.os := os
  exact ⟨v, H', I.call (h' := hh) (g' := g) (d' := d) (t' := t) (ch := []) un hok bare (fun b z => absurd z (by simp)), r, q⟩
end

/-! ### calls -/
/-- f(..): the written arguments, then the defaults dvs; E: what is wanted of an exception -/
noncomputable def tCall (sp : Sp) (dvs : List V) (E : XK) (t : TA) : TE := fun σ H Q => t σ H fun vs H1 => sp (vs ++ dvs) H1 Q E
/-- how the parameters are bound: us the positional arguments, kw the keywords' values by name, ds the defaults that fill up -/
noncomputable def Binds (K : PySem.W.Frag) (fd : FuncData) (ps : List Str) (ds : List Value) : Prop :=
  ∀ (s : Shared) (us : List Value), K.In s.heap → (us ++ ds).length = ps.length → BindsTo s fd ⟨us, []⟩ (ps.zip (us ++ ds))
/-- every parameter is given -/
theorem Binds.all {K : PySem.W.Frag} {fd : FuncData} {ps : List Str} (h : ∀ us : List Value, us.length = ps.length → bindArgs fd ⟨us, []⟩ = pure (ps.zip us)) : Binds K fd ps [] := fun s us _ hl => by
  rw [List.append_nil] at hl ⊢
  exact .of_eq (h us hl)

/-- an exception of a callee reaches what this body wants of exceptions -/
noncomputable def Passes (CX : CXT) (X : Cx) (E : XK) : Prop := ∀ (pins : List (Addr × Obj)) (σ : St) (H : Hp) (s : Shared) (e : Value) (s' : Shared), Inv X pins σ H s → CX X.stack H s E e s' → X.xe e s'

section
variable {X : Cx} {CX : CXT} {k : Nat} {f C : Addr} {fd : FuncData} {ps : List Str} {sp : Sp} {dvs : List V} {ds : List Value} {E : XK} {x m : Str} {p pos apos : Pos} {e o : Expr} {es : List Expr} {ta : TE} {t : TA}

/-- the callee runs -/
theorem run_fn {pins : List (Addr × Obj)} {σ : St} {H : Hp} {s : Shared} {Q : VK} {us : List Value} {vs : List V} (F : FnOk X.prog X.w X.K X.mg X.base CX k f fd ps sp) (hr : Room k X.A) (hb : Binds X.K fd ps ds) (hd : Vals dvs ds) (hx : Passes CX X E)
    (I : Inv X pins σ H s) (r : Vals vs us) (h : sp (vs ++ dvs) H Q E) : wpAny (model X.prog X.w) X.A (call (.ref f) us) (EP X pins σ Q) X.xe s := by
  have r2 : Vals (vs ++ dvs) (us ++ ds) := r.append hd
  have hl : (us ++ ds).length = ps.length := by rw [← r2.length]; exact F.len _ _ _ _ h
  refine wpAny_call (codeAny_mono (F.run X.A X.stack s H ⟨us, []⟩ (us ++ ds) (vs ++ dvs) Q E hr I.env0 (hb s us I.kIn hl) r2 h) fun r s' hq => ?_)
  cases r with
  | error e => exact hx pins σ H s e s' I hq
  | ok fl =>
    cases fl with
    | ret u => exact I.after hq
    | next => exact False.elim hq
    | brk => exact False.elim hq
    | cont => exact False.elim hq

theorem pe_call (F : FnOk X.prog X.w X.K X.mg X.base CX k f fd ps sp) (hr : Room k X.A) (hg : Gl X x) (hm : X.mg x = some (.ref f)) (hk : PySem.W.keepIn X.K (.ref f) = true) (hb : Binds X.K fd ps ds) (hd : Vals dvs ds) (hx : Passes CX X E)
    (ha : PA X (e :: es) t) (hdb : (x == ("__debug__" : Str)) = false := by decide) (he : starEach (e :: es) X.env = (false, eval e X.env) :: starEach es X.env := by rfl) (hpl : (backTo pos (starEach es X.env)).any (·.1) = false := by rfl) :
    PE X (.Call (.Name x p) (e :: es) [] pos) (tCall sp dvs E t) := by
  intro pins s σ H Q I h
  refine wpAny_Call_Name_kw (ld_glob I hg hm ?_ hdb)
  refine PySem.W.callWith_K (h₀ := X.base) I.ok.mod.kin hk (thn (ha pos pins s σ H _ I h) fun us s1 ⟨vs, H1, I1, r, q⟩ => ⟨I1.kIn, ?_⟩) he hpl
  exact run_fn F hr hb hd hx I1 r q
end

/-! ### keywords -/
section
variable {X : Cx} {CX : CXT} {k : Nat} {f C : Addr} {fd : FuncData} {ps ks : List Str} {sp : Sp} {E : XK} {x m : Str} {p pos apos kpos : Pos} {e o : Expr} {es : List Expr} {kws : List Keyword} {te ta : TE} {t tk : TA} {nm : Option Str}
variable {g : List Value → List Value → List Value} {gV : List V → List V → List V}
end

/-! ### a def's body keeps its promise -/
/-- names: the parameters first -/
structure FnScope (N P : List Str) (sc : Scope) : Prop where
  kind : sc.kind = .function
  co : sc.isCoroutine = false
  gen : sc.isGenerator = false
  nd : N.Nodup
  pre : N.take P.length = P
  par : ∀ x ∈ P, sc.names.lookup x = some .local ∨ sc.names.lookup x = some .cell
  nofree : ∀ y ∈ sc.names, y.2 ≠ .free

theorem bindL_out {kindOf : Str → Option NameKind} {x : Str} : ∀ {binds : List (Str × Value)} {m : Str → Option Value}, (∀ v, (x, v) ∉ binds) → bindL kindOf binds m x = m x
  | [], _, _ => rfl
  | (n, v) :: r, m, h => by
    unfold bindL
    rw [bindL_out fun w hw => h w (List.mem_cons_of_mem _ hw)]
    split
    · have : x ≠ n := by rintro rfl; exact h v List.mem_cons_self
      simp [this]
    · rfl
theorem bindC_out {kindOf : Str → Option NameKind} {x : Str} : ∀ {binds : List (Str × Value)} {m : Str → Option Value}, (∀ v, (x, v) ∉ binds) → bindC kindOf binds m x = m x
  | [], _, _ => rfl
  | (n, v) :: r, m, h => by
    unfold bindC
    rw [bindC_out fun w hw => h w (List.mem_cons_of_mem _ hw)]
    split
    · rfl
    · have : x ≠ n := by rintro rfl; exact h v List.mem_cons_self
      simp [this]
theorem bindL_get {kindOf : Str → Option NameKind} {x : Str} {v : Value} : ∀ {P : List Str} {vs : List Value} {i : Nat} {m : Str → Option Value}, P.Nodup → P[i]? = some x → vs[i]? = some v → kindOf x = some .local →
    bindL kindOf (P.zip vs) m x = some v
  | [], _, _, _, _, h, _, _ => by simp at h
  | _ :: _, [], _, _, _, _, h, _ => by simp at h
  | p :: P, w :: vs, 0, m, nd, h1, h2, hk => by
    simp at h1 h2; subst h1; subst h2
    show bindL kindOf ((p, w) :: P.zip vs) m p = _
    unfold bindL
    rw [bindL_out fun v hv => (List.nodup_cons.mp nd).1 (List.of_mem_zip hv).1, if_pos hk]
    simp
  | p :: P, w :: vs, i + 1, m, nd, h1, h2, hk => by
    show bindL kindOf ((p, w) :: P.zip vs) m x = _
    unfold bindL
    exact bindL_get (i := i) (List.nodup_cons.mp nd).2 (by simpa using h1) (by simpa using h2) hk
theorem bindC_get {kindOf : Str → Option NameKind} {x : Str} {v : Value} : ∀ {P : List Str} {vs : List Value} {i : Nat} {m : Str → Option Value}, P.Nodup → P[i]? = some x → vs[i]? = some v → kindOf x ≠ some .local →
    bindC kindOf (P.zip vs) m x = some v
  | [], _, _, _, _, h, _, _ => by simp at h
  | _ :: _, [], _, _, _, _, h, _ => by simp at h
  | p :: P, w :: vs, 0, m, nd, h1, h2, hk => by
    simp at h1 h2; subst h1; subst h2
    show bindC kindOf ((p, w) :: P.zip vs) m p = _
    unfold bindC
    rw [bindC_out fun v hv => (List.nodup_cons.mp nd).1 (List.of_mem_zip hv).1, if_neg hk]
    simp
  | p :: P, w :: vs, i + 1, m, nd, h1, h2, hk => by
    show bindC kindOf ((p, w) :: P.zip vs) m x = _
    unfold bindC
    exact bindC_get (i := i) (List.nodup_cons.mp nd).2 (by simpa using h1) (by simpa using h2) hk

/-- the names' values at the entry -/
noncomputable def start (N : List Str) (vs : List V) : St := vs.map some ++ List.replicate (N.length - vs.length) none

/-- the context of a def's body, at its entry; an exception leaves the frame, then lies as CX says -/
noncomputable def cxOf (CX : CXT) (P : Program) (w : World) (K : PySem.W.Frag) (mg : Str → Option Value) (base : Heap) (N : List Str) (qual : Str) (scope : Scope) (f : Addr) (cd : Value) (A : Around) (outer : List Env) (s : Shared) (H : Hp) (E : XK) : Cx where
  prog := P
  w := w
  K := K
  mg := mg
  base := base
  A := A.deeper (envOfC qual scope s.heap.objs.size f cd)
  N := N
  s₀ := s
  H₀ := H
  env := envOfC qual scope s.heap.objs.size f cd
  outer := outer
  stack := envOfC qual scope s.heap.objs.size f cd :: outer
  ex := []
  calm := true
  fn := fun _ => true
  pn := []
  xe := fun e s' => wpAny (model P w) (A.deeper (envOfC qual scope s.heap.objs.size f cd)) (leaving (envOfC qual scope s.heap.objs.size f cd) e) (fun _ s'' => CX outer H s E e s'') (fun e' s'' => CX outer H s E e' s'') s'

theorem cell_has {sc : Scope} {n : Nat} {x : Str} (h : sc.names.lookup x = some .cell) : ∃ c, (cellsFrom n sc.names []).lookup x = some c := by
  have q := PySem.W.cellsFrom_some sc.names n [] (.inl h)
  exact Option.isSome_iff_exists.mp q

theorem inv_start {CX : CXT} {P : Program} {w : World} {K : PySem.W.Frag} {mg : Str → Option Value} {base : Heap} {N ps : List Str} {qual : Str} {scope : Scope} {f : Addr} {cd : Value} {A : Around} {outer : List Env} {s s1 : Shared} {H : Hp} {E : XK} {us : List Value} {vs : List V}
    (S : FnScope N ps scope) (hd : A.handled = none) (e0 : Env0 P w K mg base A outer s H) (hl : vs.length = ps.length) (r : Vals vs us)
    (x : InCallC s s.heap.objs.size (bindL (envOfC qual scope s.heap.objs.size f cd).kindOf (ps.zip us) fun _ => none) (cellsFrom (s.heap.objs.size + 1) scope.names []) (bindC (envOfC qual scope s.heap.objs.size f cd).kindOf (ps.zip us) fun _ => none) s1) :
    Inv (cxOf CX P w K mg base N qual scope f cd A outer s H E) [] (start N vs) H s1 := by
  have hpl : ps.length ≤ N.length := by have := congrArg List.length S.pre; rw [List.length_take] at this; omega
  obtain ⟨h1, tk, rfl, hk⟩ := x.done
  have noA : ∀ b : Addr, b ∉ (cxOf CX P w K mg base N qual scope f cd A outer s H E).ex := fun b z => absurd (show b ∈ ([] : List Addr) from z) (by simp)
  refine ⟨⟨e0.mod, S.kind, rfl, rfl, Nat.le_refl _, fun y z c h1 h2 => ?_, fun y hy => ?_, fun y c _ h => ?_, fun _ => hd, Around.frames_deeper e0.frames, .inr ⟨rfl, rfl⟩, fun b z => absurd z (noA b), e0.bs, e0.bsz, fun b _ _ => noA b, fun b z => absurd z (noA b), e0.funs, e0.frf⟩,
    rfl, e0.bare, Un.kept hk, ⟨_, x.toInCall.ns, fun i y v h1 h2 h3 => ?_⟩, fun y c h => ⟨_, x.cell y c h⟩, e0.hok.fresh (Nat.le_refl _), fun y c h => ?_, fun p hp => absurd (show p ∈ ([] : List (Addr × Obj)) from hp) (by simp), e0.hok.kept hk, ?_⟩
  · exact name_of_addr x.apart (PySem.mem_of_lookup h1) (PySem.mem_of_lookup h2)
  · have hy : scope.names.lookup y = some .cell ∨ scope.names.lookup y = some .free := hy
    rcases hy with hy | hy
    · exact cell_has hy
    · exact absurd rfl (S.nofree _ (PySem.mem_of_lookup hy))
  · exact Nat.le_of_lt (x.above y c (PySem.mem_of_lookup h))
  · have hi : i < vs.length := by
      unfold start at h2
      by_cases hi : i < vs.length
      · exact hi
      · rw [List.getElem?_append_right (by simpa using hi)] at h2
        rw [List.getElem?_replicate] at h2
        split at h2 <;> cases h2
    have ha : vs[i]? = some v := by
      unfold start at h2
      rw [List.getElem?_append_left (by simpa using hi), List.getElem?_map] at h2
      cases e : vs[i]? with
      | none => rw [e] at h2; cases h2
      | some a => rw [e] at h2; cases h2; rfl
    obtain ⟨u, hu, rv⟩ := r.get ha
    have hp : ps[i]? = some y := by
      rw [← S.pre, List.getElem?_take_of_lt (by omega)]; exact h1
    have ndP : ps.Nodup := by rw [← S.pre]; exact S.nd.sublist (List.take_sublist _ _)
    refine ⟨u, rv, ?_⟩
    rcases S.par y (List.mem_of_getElem? hp) with k | k
    · exact .inl ⟨k, bindL_get ndP hp hu k⟩
    · obtain ⟨c, e⟩ := cell_has (n := s.heap.objs.size + 1) k
      refine .inr ⟨.inl k, c, e, ?_⟩
      have q := x.cell y c e
      rw [bindC_get ndP hp hu (by show scope.names.lookup y ≠ _; rw [k]; decide)] at q
      exact q
  · exact e0.hok.fresh (Nat.le_of_lt (x.above y c (PySem.mem_of_lookup h)))
  · unfold start
    show _ = N.length
    rw [List.length_append, List.length_map, List.length_replicate]
    omega

/-- THE RULE: a def (or a method) of the text, by its body. The body's reading t is chosen for each entry; it is run at the parameters' values -/
theorem fn_of {CX : CXT} {P : Program} {w : World} {K : PySem.W.Frag} {mg : Str → Option Value} {base : Heap} {k : Nat} {f : Addr} {name qual : Str} {params : Arguments} {body : List Stmt} {scope : Scope} {dV kV doc pm cdv ct oc : Value} {an od : Option Addr}
    {osl : Array (Option Value)} {N ps : List Str} {sp : Sp} (lk : K.lookup f = some ⟨oc, od, .func (PySem.W.fnOf name qual params body scope dV kV doc pm an cdv ct), osl⟩) (hcd : PySem.W.codeIn K cdv qual = true) (S : FnScope N ps scope)
    (len : ∀ vs H Q E, sp vs H Q E → vs.length = ps.length)
    (hbody : ∀ (A : Around) (outer : List Env) (s : Shared) (H : Hp) (vs : List V) (Q : VK) (E : XK), Room k (A.deeper (envOfC qual scope s.heap.objs.size f cdv)) → sp vs H Q E →
      ∃ t, PSs (cxOf CX P w K mg base N qual scope f cdv A outer s H E) body t ∧ t { nx := fun _ H' => Q .non H', rt := Q } (start N vs) H) :
    FnOk P w K mg base CX (k + 1) f (PySem.W.fnOf name qual params body scope dV kV doc pm an cdv ct) ps sp := by
  refine ⟨len, fun A outer s H args us vs Q E hr e0 hb r hsp => ?_⟩
  have hl := len _ _ _ _ hsp
  have KX : K.In s.heap := e0.mod.kin.keeps fun b o e => (e0.bs b o e).1
  have lim : s.heap.NoLimit := e0.mod.nolimit.keeps fun b o e => (e0.bs b o e).1
  have hkind : ∀ y ∈ ps.zip us, scope.names.lookup y.1 = some .local ∨ (scope.names.lookup y.1 = some .cell ∧ ((cellsFrom (s.heap.objs.size + 1) scope.names []).lookup y.1).isSome = true) := fun ⟨n, v⟩ hy => by
    rcases S.par n (List.of_mem_zip hy).1 with q | q
    · exact .inl q
    · exact .inr ⟨q, PySem.W.cellsFrom_some _ _ _ (.inl q)⟩
  refine codeAny_call_function hr.depth (KX _ _ lk) rfl S.co S.gen rfl (PySem.W.codeRec_of KX hcd) (hb _ _ _ _ ?_)
  refine wpAny_newFunctionEnv_cells S.kind hkind fun env he s1 x => ?_
  subst he
  refine ⟨lim.keeps x.toInCall.keep, codeAny_func ?_⟩
  obtain ⟨t, ht, hq⟩ := hbody A outer s H vs Q E (hr.deeper _) hsp
  have I : Inv (cxOf CX P w K mg base N qual scope f cdv A outer s H E) [] (start N vs) H s1 := inv_start S hr.hd e0 hl r x
  refine wpAny_mono (ht [] s1 (start N vs) H _ I hq) (fun fl s' hs => ?_) fun e s' hs => hs
  have fin : ∀ {σ' : St} {H' : Hp} {v : V} {u : Value}, Inv (cxOf CX P w K mg base N qual scope f cdv A outer s H E) [] σ' H' s' → RelV v u → Q v H' → CE outer P w H s Q u s' :=
    fun {σ' H' v u} J rv q => ⟨v, H', J.os, J.bare, J.base, J.hok, rv, q⟩
  cases fl with
  | ret u =>
    obtain ⟨v, σ', H', J, rv, q⟩ := hs
    exact fin J rv q
  | next =>
    obtain ⟨σ', H', J, q⟩ := hs
    exact fin (v := V.non) (u := Value.none) J rfl q
  | brk =>
    obtain ⟨_, _, _, q⟩ := hs
    exact False.elim q
  | cont =>
    obtain ⟨_, _, _, q⟩ := hs
    exact False.elim q
end L2

namespace L2
open PySem PySem.Spec PyProof.Rows
section
variable {X : Cx} {x : Str} {p pos : Pos} {e : Expr} {es : List Expr} {t : TA} {id T : String} {r : List V → Hp → VK → Prop}

noncomputable def tCB (r : List V → Hp → VK → Prop) (t : TA) : TE := fun σ H Q => t σ H fun vs H1 => r vs H1 Q
/-- f(e, ..), f a built-in function -/
theorem pe_callB (hc : CallR X (.builtin id) r) (hg : Gl X x) (hm : X.mg x = none) (hv : bootBuiltins x = some (.builtin id)) (ha : PA X (e :: es) t) (hn : x ≠ "__name__" := by decide) (hdb : (x == ("__debug__" : Str)) = false := by decide)
    (he : starEach (e :: es) X.env = (false, eval e X.env) :: starEach es X.env := by rfl) (hpl : (backTo pos (starEach es X.env)).any (·.1) = false := by rfl) : PE X (.Call (.Name x p) (e :: es) [] pos) (tCB r t) := by
  intro pins s σ H Q I h
  refine wpAny_Call_Name_kw (ld_blt I hg hm hv ?_ hn hdb)
  exact PyProof.Rows.callWith_builtin1 (thn (ha pos pins s σ H _ I h) fun us s1 ⟨vs, H1, I1, r1, q1⟩ => hc pins s1 σ H1 vs us Q I1 r1 q1) he hpl
/-- T(e, ..), T a built-in type -/
theorem pe_callTy (hc : CallR X (.type T) r) (hg : Gl X x) (hm : X.mg x = none) (hv : bootBuiltins x = some (.type T)) (ha : PA X (e :: es) t) (hn : x ≠ "__name__" := by decide) (hdb : (x == ("__debug__" : Str)) = false := by decide)
    (he : starEach (e :: es) X.env = (false, eval e X.env) :: starEach es X.env := by rfl) (hpl : (backTo pos (starEach es X.env)).any (·.1) = false := by rfl) : PE X (.Call (.Name x p) (e :: es) [] pos) (tCB r t) := by
  intro pins s σ H Q I h
  refine wpAny_Call_Name_kw (ld_blt I hg hm hv ?_ hn hdb)
  exact PyProof.Rows.callWith_type1 (thn (ha pos pins s σ H _ I h) fun us s1 ⟨vs, H1, I1, r1, q1⟩ => hc pins s1 σ H1 vs us Q I1 r1 q1) he hpl
end
end L2

namespace HT
open PySem PyProof.Rows

section
open PySem.SeqAt
open PySem.AutoSeq1 (wpAny_loadPart')
open PySem.MeetsSeq PySem.MeetsSeq2 PySem.MeetsSeq3

end

section
variable {prog : Program} {w : World} {A : Around} {E : Value → Shared → Prop} {s : Shared}

/-- t + u, t not empty -/
theorem cat_tup {t b : Addr} {vs ws : List Value} {Q : Value → Shared → Prop} (ht : IsTup s.heap t vs.toArray) (hb : IsTup s.heap b ws.toArray) (hv : vs ≠ [])
    (h1 : ws = [] → Q (.ref t) s) (h2 : ws ≠ [] → Q (.ref s.heap.objs.size) { s with heap := s.heap.push { cls := .type "tuple", data := .seq (vs ++ ws).toArray } })
    (hsz : vs.length + ws.length ≤ sizeLine) : wpAny (model prog w) A (binaryOp .Add (.ref t) (.ref b)) Q E s := by
  obtain ⟨⟨cls, dd, data, sl⟩, ho, hc, n, hd⟩ := id ht
  obtain ⟨⟨cls2, dd2, data2, sl2⟩, ho2, hc2, n2, hd2⟩ := id hb
  simp only at hc hd hc2 hd2
  subst hc hd hc2 hd2
  have e : vs.toArray ++ ws.toArray = (vs ++ ws).toArray := by simp
  by_cases hw : ws = []
  · exact concat_meets ⟨_, ho, rfl⟩ ⟨_, ho2, rfl⟩ noFill_tuple_add seq_tuple_add PySem.F.slot_tuple_add PySem.F.entry_tuple_add (PySem.F.args_tuple_add_2 _ _)
      (tuple_addW1 t b vs.toArray ws.toArray n n2 dd dd2 sl sl2 (by simpa using hv) (by simp [hw])) ⟨ho, ho2, h1 hw⟩
  · refine concat_meets ⟨_, ho, rfl⟩ ⟨_, ho2, rfl⟩ noFill_tuple_add seq_tuple_add PySem.F.slot_tuple_add PySem.F.entry_tuple_add (PySem.F.args_tuple_add_2 _ _)
      (tuple_addW2 t b vs.toArray ws.toArray n n2 dd dd2 sl sl2 (by simpa using hv) (by simpa using hw) (by rw [List.size_toArray, List.size_toArray]; exact hsz)) ⟨ho, ho2, ?_⟩
    rw [e]
    exact h2 hw

/-! ### t[a:b], not the whole -/
/-- a slice's bound as a place among n (d where it is left out) -/
noncomputable def sIx (n d : Nat) : Option Int → Nat
  | none => d
  | some v => if v < 0 then (v + (n : Int)).toNat else min v.toNat n
theorem sIx_none (n d : Nat) : sIx n d none = d := rfl
theorem sIx_nat (n d k : Nat) : sIx n d (some (k : Int)) = min k n := by
  show (if (k : Int) < 0 then ((k : Int) + (n : Int)).toNat else min (k : Int).toNat n) = min k n
  rw [if_neg (by omega), Int.toNat_natCast]
theorem sIx_le (n d : Nat) (hd : d ≤ n) (o : Option Int) : sIx n d o ≤ n := by
  cases o with
  | none => exact hd
  | some v =>
    show (if v < 0 then (v + (n : Int)).toNat else min v.toNat n) ≤ n
    by_cases hv : v < 0
    · rw [if_pos hv]; omega
    · rw [if_neg hv]; exact Nat.min_le_right _ _
theorem clip_eq (v : Int) (n d : Nat) : (if v < 0 then max (v + (n : Int)) 0 else min v (n : Int)) = ((sIx n d (some v) : Nat) : Int) := by
  show (if v < 0 then max (v + (n : Int)) 0 else min v (n : Int)) = (((if v < 0 then (v + (n : Int)).toNat else min v.toNat n) : Nat) : Int)
  by_cases hv : v < 0
  · simp only [if_pos hv]; omega
  · simp only [if_neg hv]; omega
theorem adjust_gen (lo hi : Option Int) (n : Nat) : Builtin.Slice.sliceAdjust lo hi 1 (n : Int) = (((sIx n 0 lo : Nat) : Int), ((sIx n n hi : Nat) : Int)) := by
  have h1 : ¬ ((1 : Int) < 0) := by omega
  unfold Builtin.Slice.sliceAdjust
  simp only [h1, if_false]
  refine Prod.ext ?_ ?_
  · cases lo with
    | none => rfl
    | some v => exact clip_eq v n 0
  · cases hi with
    | none => rfl
    | some v => exact clip_eq v n n
theorem places_gen (i j : Nat) : Builtin.Slice.slicePlaces (i : Int) (j : Int) 1 = j - i := by
  unfold Builtin.Slice.slicePlaces
  have h1 : (1 : Int) > 0 := by omega
  simp only [h1, if_true, Int.ediv_one]
  split <;> omega
theorem slicePart_ {v : Value} {o : Option Int} {Q : Option Int → Shared → Prop} (p : IsPart v o) (h : Q o s) : wpAny (model prog w) A (Builtin.Slice.slicePartIndex v) Q E s := by
  cases p with
  | none => exact slicePart_none h
  | int i t => exact slicePart_int h
theorem sliceApplied_gen {sl : Addr} {vl vu : Value} {lo hi : Option Int} {n : Nat} {Q : Int × Int × Nat → Shared → Prop} (hs : s.heap.IsSliceOf sl vl vu .none) (pl : IsPart vl lo) (pu : IsPart vu hi)
    (h : Q (((sIx n 0 lo : Nat) : Int), 1, sIx n n hi - sIx n 0 lo) s) : wpAny (model prog w) A (Builtin.Slice.sliceApplied (.ref sl) (pure (n : Int))) Q E s := by
  obtain ⟨os, hos, hcs, hds⟩ := id hs
  unfold Builtin.Slice.sliceApplied Builtin.Slice.sliceFields
  refine wpAny_bind (wpAny_bind (wpAny_field hos hds (x := vl) rfl (wpAny_bind (wpAny_field hos hds (x := vu) rfl (wpAny_bind (wpAny_field hos hds (x := .none) rfl (wpAny_pure ?_)))))))
  refine wpAny_bind (slicePart_none ?_)
  show wpAny _ _ (if ((1 : Int) == 0) = true then _ else _) _ _ s
  rw [if_neg (by decide)]
  refine wpAny_bind (slicePart_ pl (wpAny_bind (slicePart_ pu (wpAny_bind (wpAny_pure ?_)))))
  show wpAny _ _ (match Builtin.Slice.sliceAdjust lo hi 1 (n : Int) with | (lo, hi) => pure (lo, (1 : Int), Builtin.Slice.slicePlaces lo hi 1)) _ _ s
  rw [adjust_gen lo hi n]
  show wpAny _ _ (pure (((sIx n 0 lo : Nat) : Int), (1 : Int), Builtin.Slice.slicePlaces ((sIx n 0 lo : Nat) : Int) ((sIx n n hi : Nat) : Int) 1)) _ _ s
  rw [places_gen]
  exact wpAny_pure h
theorem pick_gen (xs : Array Value) (i k : Nat) : ((List.range k).filterMap fun (m : Nat) => xs[((i : Int) + (m : Int) * 1).toNat]?).toArray = ((xs.toList.drop i).take k).toArray := by
  have e : (fun (m : Nat) => xs[((i : Int) + (m : Int) * 1).toNat]?) = fun m => xs[i + m]? := by
    funext m
    have : ((i : Int) + (m : Int) * 1).toNat = i + m := by omega
    rw [this]
  rw [e]
  have := pick_run xs i k
  rw [List.filterMap_map] at this
  have e2 : ((fun x => xs[x]?) ∘ fun x => i + x) = fun m => xs[i + m]? := rfl
  rw [e2] at this
  rw [this]

theorem getItem_tuple_cut {t sl : Addr} {items : Array Value} {vl vu : Value} {lo hi : Option Int} {Q : Value → Shared → Prop} (ht : IsTup s.heap t items) (hs : s.heap.IsSliceOf sl vl vu .none) (pl : IsPart vl lo) (pu : IsPart vu hi)
    (hw : ¬ (sIx items.size 0 lo = 0 ∧ sIx items.size items.size hi = items.size))
    (h : Q (.ref s.heap.objs.size) { s with heap := s.heap.push { cls := .type "tuple", data := .seq ((items.toList.drop (sIx items.size 0 lo)).take (sIx items.size items.size hi - sIx items.size 0 lo)).toArray } })
    (hsz : items.size ≤ sizeLine) : wpAny (model prog w) A (getItem (.ref t) (.ref sl)) Q E s := by
  have htake : sizeOk (.seq ((items.toList.drop (sIx items.size 0 lo)).take (sIx items.size items.size hi - sIx items.size 0 lo)).toArray) := by
    show ((items.toList.drop (sIx items.size 0 lo)).take (sIx items.size items.size hi - sIx items.size 0 lo)).toArray.size ≤ sizeLine
    rw [List.size_toArray, List.length_take, List.length_drop, Array.length_toList]
    omega
  have hj : sIx items.size items.size hi ≤ items.size := sIx_le _ _ (Nat.le_refl _) hi
  obtain ⟨os, hos, hcs, hds⟩ := id hs
  have hTs : s.TypeIs (.ref sl) "slice" := ⟨os, hos, hcs⟩
  unfold getItem
  try with_reducible refine wpAny_holding ?_
  first | refine wpAny_bind (wpAny_pure ?_) | skip
  refine wpAny_bind (wpAny_sequenceKey ht.typeIs (by decide) ?_)
  refine wpAny_bind (wpAny_callSpecial?_slot (name := Str.ofString "__getitem__") ht.typeIs PyProof.Rows.slot_tuple_getitem
    (wpAny_call_entry PyProof.Rows.slot_tuple_getitem ht.typeIs entry_tuple_getitem ?_ (args_tuple_getitem _ _)))
  show wpAny _ _ (Builtin.Tuple.tupleItemsOf (.ref t) >>= _) _ _ s
  refine wpAny_bind (tupleItemsOf_ ht ?_)
  refine wpAny_bind (wpAny_typeOf hTs ?_)
  rw [if_pos (by decide)]
  refine wpAny_bind (sliceApplied_gen hs pl pu ?_)
  have hno : ¬ ((((sIx items.size 0 lo : Nat) : Int) == 0 && (1 : Int) == 1 && (sIx items.size items.size hi - sIx items.size 0 lo) == items.size) = true) := by
    intro q
    rw [Bool.and_eq_true, Bool.and_eq_true] at q
    have q1 : ((sIx items.size 0 lo : Nat) : Int) = 0 := eq_of_beq q.1.1
    have q2 : sIx items.size items.size hi - sIx items.size 0 lo = items.size := eq_of_beq q.2
    exact hw ⟨by omega, by omega⟩
  show wpAny _ _ (if (((sIx items.size 0 lo : Nat) : Int) == 0 && (1 : Int) == 1 && (sIx items.size items.size hi - sIx items.size 0 lo) == items.size) = true then _ else _) _ _ s
  rw [if_neg hno, pick_gen]
  first
    | exact wpAny_bind (m := Builtin.Tuple.tupleExact _) (wpAny_newObj_type (wpAny_pure ⟨_, rfl, wpAny_pure h⟩) htake)
    | exact wpAny_bind (m := Builtin.Tuple.tupleExact _) (wpAny_newObj_type (wpAny_bind (wpAny_pure (wpAny_pure ⟨_, rfl, wpAny_pure h⟩))) htake)
    | exact wpAny_bind (wpAny_bind (m := Builtin.Tuple.tupleExact _) (wpAny_newObj_type (wpAny_pure (wpAny_pure ⟨_, rfl, wpAny_pure h⟩)) htake))
    | exact wpAny_bind (wpAny_bind (m := Builtin.Tuple.tupleExact _) (wpAny_newObj_type (wpAny_pure ⟨_, rfl, wpAny_pure h⟩) htake))
end
end HT

namespace L2
open PySem PySem.Spec PyProof.Rows

/-! ### the parts of a slice -/
noncomputable abbrev TO := St → Hp → (Option Int → Hp → Prop) → Prop
/-- a slice's part (left out, or an int) -/
noncomputable def PO (X : Cx) (e : Option Expr) (t : TO) : Prop :=
  ∀ (pins : List (Addr × Obj)) (s : Shared) (σ : St) (H : Hp) (Q : Option Int → Hp → Prop), Inv X pins σ H s → t σ H Q →
    wpAny (model X.prog X.w) X.A (evalPart e X.env) (fun u s' => ∃ o H', Inv X pins σ H' s' ∧ IsPart u o ∧ Q o H') X.xe s
noncomputable def tNoPart : TO := fun _ H Q => Q none H
noncomputable def tPart (t : TE) : TO := fun σ H Q => t σ H fun x H1 => ∃ i, x = .int i ∧ Q (some i) H1

section
variable {X : Cx} {e : Expr} {te : TE} {lo hi : Option Expr} {tl th : TO} {pos p2 : Pos}

theorem po_none : PO X none tNoPart := by
  intro pins s σ H Q I h
  rw [evalPart_none]
  exact wpAny_pure ⟨none, H, I, .none, h⟩
theorem po_some (h : PE X e te) : PO X (some e) (tPart te) := by
  intro pins s σ H Q I hw
  rw [evalPart_some]
  refine thn (h pins s σ H _ I hw) fun u s1 ⟨x, H1, I1, r1, q1⟩ => ?_
  obtain ⟨i, rfl, q⟩ := q1
  obtain ⟨t, rfl⟩ := r1
  exact ⟨some i, H1, I1, .int i t, q⟩

/-- what a slice of a value is, by values: the slice object stands at sl -/
noncomputable def SlR (X : Cx) (r : V → Option Int → Option Int → Hp → VK → Prop) : Prop :=
  ∀ (pins : List (Addr × Obj)) (s : Shared) (σ : St) (H : Hp) (x : V) (v vl vu : Value) (lo hi : Option Int) (sl : Addr) (Q : VK), Inv X pins σ H s → RelV x v → s.heap.IsSliceOf sl vl vu .none → IsPart vl lo → IsPart vu hi → r x lo hi H Q →
    ∃ T id, typeLookup (.type T) "__getitem__" = pure (some (.builtin id)) ∧ s.TypeIs v T ∧ wpAny (model X.prog X.w) X.A (getItem v (.ref sl)) (EP X pins σ Q) X.xe s
noncomputable def tSl (r : V → Option Int → Option Int → Hp → VK → Prop) (te : TE) (tl th : TO) : TE := fun σ H Q => te σ H fun x H1 => tl σ H1 fun l H2 => th σ H2 fun u H3 => r x l u H3 Q
/-- a[lo:hi], any a -/
theorem pe_slice {r : V → Option Int → Option Int → Hp → VK → Prop} (hr : SlR X r) (he : PE X e te) (hl : PO X lo tl) (hu : PO X hi th) : PE X (.Subscript e (.Slice lo hi none p2) pos) (tSl r te tl th) := by
  intro pins s σ H Q I h
  refine Subscript_ (thn (he pins s σ H _ I h) fun v s1 ⟨x, H1, I1, r1, q1⟩ => ?_)
  refine wpAny_Slice (thn (hl pins s1 σ H1 _ I1 q1) fun vl s2 ⟨l, H2, I2, pl, q2⟩ => thn (hu pins s2 σ H2 _ I2 q2) fun vu s3 ⟨u, H3, I3, pu, q3⟩ => ?_)
  rw [evalPart_none]
  refine wpAny_pure ?_
  have I4 : Inv X pins σ H3 { s3 with heap := s3.heap.push { cls := .type "slice", data := .fields #[vl, vu, .none] } } := I3.kept (t' := s3.toks) fun b ob q => Heap.get?_push_of_some _ q
  obtain ⟨T, id, hT, ht, hg⟩ := hr pins { s3 with heap := s3.heap.push { cls := .type "slice", data := .fields #[vl, vu, .none] } } σ H3 x v vl vu l u s3.heap.objs.size Q I4 r1 (Heap.IsSliceOf.new ..) pl pu q3
  show wpAny (model X.prog X.w) X.A (subscriptTail e (.Slice lo hi none p2) v (.ref s3.heap.objs.size)) (EP X pins σ Q) X.xe { s3 with heap := s3.heap.push { cls := .type "slice", data := .fields #[vl, vu, .none] } }
  exact tail_any (ops := [.ref s3.heap.objs.size, v]) ht hT hg (by with_unfolding_all rfl)

/-- the items of xs[lo:hi] -/
noncomputable def cutV (xs : List V) (lo hi : Option Int) : List V := (xs.drop (HT.sIx xs.length 0 lo)).take (HT.sIx xs.length xs.length hi - HT.sIx xs.length 0 lo)
theorem cutV_length (xs : List V) (lo hi : Option Int) : (cutV xs lo hi).length ≤ xs.length := by
  unfold cutV
  rw [List.length_take, List.length_drop]
  omega
/-- t[lo:hi], not the whole of it (the whole would be t itself) -/
noncomputable def rSlT (K : PySem.W.Frag) : V → Option Int → Option Int → Hp → VK → Prop := fun x lo hi H Q => ∃ a xs, x = .ref a ∧ SqT K H a xs ∧
  ¬ (HT.sIx xs.length 0 lo = 0 ∧ HT.sIx xs.length xs.length hi = xs.length) ∧ ∀ p, H p = none → Q (.ref p) (upd H p (.tup (cutV xs lo hi)))
theorem sl_tup : SlR X (rSlT X.K) := by
  intro pins s σ H x v vl vu lo hi sl Q I rx hs pl pu h
  obtain ⟨a, xs, rfl, hx, hw, q⟩ := h
  cases rx
  obtain ⟨its, r, ht, hz⟩ := I.tuple hx
  have hlen : its.toArray.size = xs.length := by rw [List.size_toArray]; exact r.length.symm
  refine ⟨"tuple", _, PyProof.Rows.slot_tuple_getitem.lookup, ht.typeIs, ?_⟩
  refine HT.getItem_tuple_cut ht hs pl pu (by rw [hlen]; exact hw) ?_ (by rw [hlen]; exact hz)
  rw [hlen]
  refine ⟨.ref s.heap.objs.size, _, I.laid (t' := s.toks) (o := .tup (cutV xs lo hi)) (fun b ob q => Heap.get?_push_of_some _ q) (Nat.le_refl _) ?_, rfl, q _ (I.hok.fresh (Nat.le_refl _))⟩
  exact ⟨Nat.le_trans (cutV_length xs lo hi) hz, _, (r.drop (HT.sIx xs.length 0 lo)).take (HT.sIx xs.length xs.length hi - HT.sIx xs.length 0 lo), IsTup.new _ _⟩

/-! ### t < u, t + u -/
/-- t + u, t not empty: u empty gives t itself -/
noncomputable def rCatT (K : PySem.W.Frag) : R2 := fun x y H Q => ∃ a b xs ys, x = .ref a ∧ y = .ref b ∧ SqT K H a xs ∧ SqT K H b ys ∧ xs ≠ [] ∧ xs.length + ys.length ≤ sizeLine ∧
  (ys = [] → Q (.ref a) H) ∧ (ys ≠ [] → ∀ p, H p = none → Q (.ref p) (upd H p (.tup (xs ++ ys))))
theorem Vals.nil_iff {xs : List V} {us : List Value} (r : Vals xs us) : us = [] ↔ xs = [] := by
  cases r with
  | nil => simp
  | cons _ _ => simp
theorem op_catT : OpR X (binaryOp .Add) (rCatT X.K) := by
  intro pins s σ H x y v u Q I rx ry h
  obtain ⟨a, b, xs, ys, rfl, rfl, ha, hb, hx, hz, q1, q2⟩ := h
  cases rx
  cases ry
  obtain ⟨its, r1, p1, _⟩ := I.tuple ha
  obtain ⟨its2, r2, p2, _⟩ := I.tuple hb
  refine HT.cat_tup p1 p2 (fun z => hx (r1.nil_iff.mp z)) (fun z => ⟨.ref a, H, I, rfl, q1 (r2.nil_iff.mp z)⟩) (fun z => ?_) (by rw [← r1.length, ← r2.length]; exact hz)
  refine ⟨.ref s.heap.objs.size, _, I.laid (t' := s.toks) (o := .tup (xs ++ ys)) (fun b ob q => Heap.get?_push_of_some _ q) (Nat.le_refl _) ?_, rfl, q2 (fun w => z (r2.nil_iff.mpr w)) _ (I.hok.fresh (Nat.le_refl _))⟩
  exact ⟨by rw [List.length_append]; exact hz, _, r1.append r2, IsTup.new _ _⟩
end
end L2

namespace L2
open PySem PySem.Spec PyProof.Rows

/-! ### places -/
/-- the place that an index of any sign means -/
noncomputable def ixN (n : Nat) (i : Int) : Option Nat := if 0 ≤ i then (if i < n then some i.toNat else none) else if -(n : Int) ≤ i then some (i + n).toNat else none
noncomputable def atI {α : Type} (xs : List α) (i : Int) : Option α := (ixN xs.length i).bind fun j => xs[j]?
theorem ixN_seq {n : Nat} {i : Int} {j : Nat} (h : ixN n i = some j) : seqIndex? i n = some j ∧ j < n ∧ -(n : Int) ≤ i ∧ i < n := by
  unfold ixN at h
  by_cases h0 : 0 ≤ i
  · rw [if_pos h0] at h
    by_cases h1 : i < n
    · rw [if_pos h1] at h
      have e : i.toNat = j := Option.some.inj h
      exact ⟨by rw [seqIndex_of h0 h1, e], by omega, by omega, h1⟩
    · rw [if_neg h1] at h; cases h
  · rw [if_neg h0] at h
    by_cases h1 : -(n : Int) ≤ i
    · rw [if_pos h1] at h
      have e : (i + n).toNat = j := Option.some.inj h
      exact ⟨by rw [seqIndex_neg (by omega) h1, e], by omega, h1, by omega⟩
    · rw [if_neg h1] at h; cases h
theorem atI_get {α : Type} {xs : List α} {i : Int} {v : α} (h : atI xs i = some v) : ∃ j, seqIndex? i xs.length = some j ∧ xs[j]? = some v ∧ j < xs.length ∧ -(xs.length : Int) ≤ i ∧ i < xs.length := by
  unfold atI at h
  cases e : ixN xs.length i with
  | none => rw [e] at h; cases h
  | some j =>
    rw [e] at h
    obtain ⟨h1, h2, h3, h4⟩ := ixN_seq e
    exact ⟨j, h1, h, h2, h3, h4⟩
theorem atI_nat {α : Type} {xs : List α} {j : Nat} {v : α} (h : xs[j]? = some v) : atI xs (j : Int) = some v := by
  have hj : j < xs.length := (List.getElem?_eq_some_iff.mp h).1
  have e : ixN xs.length (j : Int) = some j := by
    unfold ixN
    rw [if_pos (by omega), if_pos (by omega)]; simp
  unfold atI; rw [e]; exact h
/-! ### what may be subscripted -/
/-- what stands as an index of a plain subscript -/
noncomputable def PlainIx (b : Expr) : Prop := ∀ o i, subscripted b false o i = operate [o, i] (getItem o i)
/-- a subscript by values -/
noncomputable def IxR (X : Cx) (r : R2) : Prop :=
  ∀ (value slice : Expr) (pins : List (Addr × Obj)) (s : Shared) (σ : St) (H : Hp) (x y : V) (v u : Value) (Q : VK), Inv X pins σ H s → RelV x v → RelV y u → r x y H Q →
    subscripted slice false v u = operate [v, u] (getItem v u) → wpAny (model X.prog X.w) X.A (subscriptTail value slice v u) (EP X pins σ Q) X.xe s
/-- a call of a builtin's method by values: the receiver, the arguments -/
noncomputable def MtR (X : Cx) (id : String) (r : V → List V → Hp → VK → Prop) : Prop :=
  ∀ (pins : List (Addr × Obj)) (s : Shared) (σ : St) (H : Hp) (x : V) (xs : List V) (v : Value) (us : List Value) (Q : VK), Inv X pins σ H s → RelV x v → Vals xs us → r x xs H Q →
    wpAny (model X.prog X.w) X.A (call (.builtin id) (v :: us)) (EP X pins σ Q) X.xe s
section
variable {X : Cx} {a b : Expr} {ta tb : TE} {pos : Pos}
/-- a[b] -/
theorem pe_ix {r : R2} (hr : IxR X r) (ha : PE X a ta) (hb : PE X b tb) (hs : PlainIx b) : PE X (.Subscript a b pos) (tOp r ta tb) := by
  intro pins s σ H Q I h
  exact Subscript_ (binT ha hb I h fun v u s2 x y H2 I2 rx ry q => hr a b pins s2 σ H2 x y v u Q I2 rx ry q (hs _ _))

noncomputable def rIxL (K : PySem.W.Frag) : R2 := fun x y H Q => ∃ p xs i v, x = .ref p ∧ y = .int i ∧ SqL K H p xs ∧ atI xs i = some v ∧ Q v H
noncomputable def rIxT (K : PySem.W.Frag) : R2 := fun x y H Q => ∃ p xs i v, x = .ref p ∧ y = .int i ∧ SqT K H p xs ∧ atI xs i = some v ∧ Q v H
theorem ix_list : IxR X (rIxL X.K) := by
  intro value slice pins s σ H x y v u Q I rx ry h hs
  obtain ⟨p, xs, i, z, rfl, rfl, hq, he, q⟩ := h
  cases rx
  obtain ⟨t, rfl⟩ := ry
  obtain ⟨its, r, pl, hz⟩ := I.list hq
  obtain ⟨j, h1, h2, h3, h4, h5⟩ := atI_get he
  obtain ⟨w, ew, rw'⟩ := r.get h2
  have hl := r.length
  have hn := line63
  have fin : EP X pins σ Q w s := ⟨z, H, I, rw', q⟩
  by_cases h0 : 0 ≤ i
  · have hj : i.toNat = j := by
      rw [seqIndex_of h0 h5] at h1
      exact Option.some.inj h1
    exact item_listR pl.isList h0 (by omega) (by rw [hj]; simpa using ew) fin hs
  · have hj : (i + (its.toArray.size : Int)).toNat = j := by
      rw [seqIndex_neg (by omega) h4] at h1
      rw [List.size_toArray, ← hl]
      exact Option.some.inj h1
    exact subscriptTail_builtinR (x := w) pl.isList.typeIs slot_list_getitem.lookup
      (wpAny_getItem_list_neg (Q := fun r s' => r = w ∧ EP X pins σ Q r s') pl.isList (by omega) (by rw [List.size_toArray] <;> omega) (by omega) (by rw [hj]; simpa using ew) ⟨rfl, fin⟩) hs
theorem ix_tup : IxR X (rIxT X.K) := by
  intro value slice pins s σ H x y v u Q I rx ry h hs
  obtain ⟨p, xs, i, z, rfl, rfl, hq, he, q⟩ := h
  cases rx
  obtain ⟨t, rfl⟩ := ry
  obtain ⟨its, r, pl, hz⟩ := I.tuple hq
  obtain ⟨j, h1, h2, h3, h4, h5⟩ := atI_get he
  obtain ⟨w, ew, rw'⟩ := r.get h2
  have hl := r.length
  have hn := line63
  have fin : EP X pins σ Q w s := ⟨z, H, I, rw', q⟩
  exact subscriptTail_builtinR (x := w) pl.typeIs slot_tuple_getitem.lookup
    (getItem_tuple (j := j) (Q := fun r s' => r = w ∧ EP X pins σ Q r s') pl (by omega) (by omega) (by rw [List.size_toArray, ← hl]; exact h1) (by simpa using ew) ⟨rfl, fin⟩) hs
/-! ### xs[i] = v, any sign -/
/-! ### slices -/
theorem slice_bounds (lo hi : Option Int) (n : Nat) : (sliceBounds lo hi none n).1 = ((HT.sIx n 0 lo : Nat) : Int) ∧ (sliceBounds lo hi none n).2.1 = ((HT.sIx n n hi : Nat) : Int) ∧ (sliceBounds lo hi none n).2.2 = 1 := by
  refine ⟨?_, ?_, rfl⟩
  · cases lo with
    | none => simp [sliceBounds, HT.sIx]
    | some i =>
      simp only [sliceBounds, HT.sIx, Option.getD_none, show (1 : Int) > 0 by decide, if_true]
      by_cases h : i < 0
      · simp only [h, if_true] <;> omega
      · simp only [h, if_false] <;> omega
  · cases hi with
    | none => simp [sliceBounds, HT.sIx]
    | some i =>
      simp only [sliceBounds, HT.sIx, Option.getD_none, show (1 : Int) > 0 by decide, if_true]
      by_cases h : i < 0
      · simp only [h, if_true] <;> omega
      · simp only [h, if_false] <;> omega
theorem slicePick_cut (its : List Value) (lo hi : Option Int) : slicePick its.toArray lo hi none = ((its.drop (HT.sIx its.length 0 lo)).take (HT.sIx its.length its.length hi - HT.sIx its.length 0 lo)).toArray := by
  obtain ⟨h1, h2, h3⟩ := slice_bounds lo hi its.toArray.size
  unfold slicePick
  rw [h1, h2, h3]
  simp only [sliceRange_one, pick_run, List.size_toArray] <;> rfl
/-- xs[lo:hi] of a list: a new list -/
noncomputable def rSlL (K : PySem.W.Frag) : V → Option Int → Option Int → Hp → VK → Prop := fun x lo hi H Q => ∃ a xs, x = .ref a ∧ SqL K H a xs ∧ ∀ p, H p = none → Q (.ref p) (upd H p (.lst (cutV xs lo hi)))
theorem sl_list : SlR X (rSlL X.K) := by
  intro pins s σ H x v vl vu lo hi sl Q I rx hs pl pu h
  obtain ⟨a, xs, rfl, hx, q⟩ := h
  cases rx
  obtain ⟨its, r, ht, hz⟩ := I.list hx
  have hlen := r.length
  refine ⟨"list", _, slot_list_getitem.lookup, ht.isList.typeIs, ?_⟩
  refine wpAny_getItem_list_slice ht.isList hs pl pu .none (by simp) ?_ (by rw [List.size_toArray] <;> omega)
  rw [slicePick_cut, ← hlen]
  refine ⟨.ref s.heap.objs.size, _, I.laid (t' := s.toks) (o := .lst (cutV xs lo hi)) (fun b ob q => Heap.get?_push_of_some _ q) (Nat.le_refl _) ?_, rfl, q _ (I.hok.fresh (Nat.le_refl _))⟩
  exact ⟨Nat.le_trans (cutV_length xs lo hi) hz, _, 0, (r.drop (HT.sIx xs.length 0 lo)).take (HT.sIx xs.length xs.length hi - HT.sIx xs.length 0 lo), Heap.get?_push_size _ rfl⟩

/-! ### in, not in: flat items -/
noncomputable def flatV : V → Bool
  | .non => true
  | .bl _ => true
  | .int _ => true
  | .str _ => true
  | _ => false
/-- == of flat values -/
noncomputable def eqV : V → V → Bool
  | .non, .non => true
  | .bl a, .bl b => a == b
  | .bl a, .int b => (if a then 1 else 0) == b
  | .int a, .bl b => a == (if b then 1 else 0)
  | .int a, .int b => a == b
  | .str a, .str b => a == b
  | _, _ => false
theorem eqAt_V {A : Around} {s : Shared} {y x : V} {u v : Value} (ry : RelV y u) (rx : RelV x v) (fy : flatV y = true) (fx : flatV x = true) : SeqAt.EqAt A s u v (eqV y x) := by
  cases y with
  | non =>
    cases ry
    cases x with
    | non => cases rx; exact SeqAt.EqAt.same _
    | bl b => cases rx; exact SeqAt.EqAt.none_bool b
    | int b => obtain ⟨t, rfl⟩ := rx; exact SeqAt.EqAt.none_int b t
    | str b => obtain ⟨t, rfl⟩ := rx; exact SeqAt.EqAt.none_str b t
    | _ => exact absurd (show false = true from fx) Bool.false_ne_true
  | bl a =>
    cases ry
    cases x with
    | non => cases rx; exact SeqAt.EqAt.bool_none a
    | bl b => cases rx; exact SeqAt.EqAt.bool_bool a b
    | int b => obtain ⟨t, rfl⟩ := rx; exact SeqAt.EqAt.bool_int a b t
    | str b => obtain ⟨t, rfl⟩ := rx; exact SeqAt.EqAt.bool_str a b t
    | _ => exact absurd (show false = true from fx) Bool.false_ne_true
  | int a =>
    obtain ⟨t', rfl⟩ := ry
    cases x with
    | non => cases rx; exact SeqAt.EqAt.int_none a t'
    | bl b => cases rx; exact SeqAt.EqAt.int_bool a t' b
    | int b => obtain ⟨t, rfl⟩ := rx; exact SeqAt.EqAt.int_int a t' b t
    | str b => obtain ⟨t, rfl⟩ := rx; exact SeqAt.EqAt.int_str a t' b t
    | _ => exact absurd (show false = true from fx) Bool.false_ne_true
  | str a =>
    obtain ⟨t', rfl⟩ := ry
    cases x with
    | non => cases rx; exact SeqAt.EqAt.str_none a t'
    | bl b => cases rx; exact SeqAt.EqAt.str_bool a t' b
    | int b => obtain ⟨t, rfl⟩ := rx; exact SeqAt.EqAt.str_int a t' b t
    | str b => obtain ⟨t, rfl⟩ := rx; exact SeqAt.EqAt.str_str a t' b t
    | _ => exact absurd (show false = true from fx) Bool.false_ne_true
  | _ => exact absurd (show false = true from fy) Bool.false_ne_true
/-- the items' answers, read off the values (a value's own answer does not lean on its token) -/
noncomputable def eqU (x : V) (u : Value) : Bool := match u with
  | .none => eqV .non x
  | .bool b => eqV (.bl b) x
  | .int i _ => eqV (.int i) x
  | .str z _ => eqV (.str z) x
  | _ => false
theorem eqU_of {x y : V} {u : Value} (r : RelV y u) (f : flatV y = true) : eqU x u = eqV y x := by
  cases y with
  | non => cases r; rfl
  | bl b => cases r; rfl
  | int i => obtain ⟨t, rfl⟩ := r; rfl
  | str z => obtain ⟨t, rfl⟩ := r; rfl
  | _ => exact absurd (show false = true from f) Bool.false_ne_true
theorem any_eqU {x : V} : ∀ {xs : List V} {us : List Value}, Vals xs us → xs.all flatV = true → us.any (eqU x) = xs.any fun y => eqV y x
  | _, _, .nil, _ => rfl
  | y :: xs, u :: us, .cons r t, f => by
    rw [List.all_cons, Bool.and_eq_true] at f
    rw [List.any_cons, List.any_cons, eqU_of r f.1, any_eqU t f.2]
theorem mem_eqAt {A : Around} {s : Shared} {x : V} {v : Value} (rx : RelV x v) (fx : flatV x = true) : ∀ {xs : List V} {us : List Value}, Vals xs us → xs.all flatV = true → ∀ u ∈ us, SeqAt.EqAt A s u v (eqU x u)
  | _, _, .nil, _ => fun u hu => by cases hu
  | y :: xs, u :: us, .cons r t, f => fun u' hu => by
    rw [List.all_cons, Bool.and_eq_true] at f
    rcases List.mem_cons.mp hu with rfl | hu
    · rw [eqU_of r f.1]; exact eqAt_V r rx f.1 fx
    · exact mem_eqAt rx fx t f.2 u' hu
noncomputable def inV (x : V) (xs : List V) : Bool := xs.any fun y => eqV y x
/-- x in a list or tuple of flat items -/
noncomputable def rIn (K : PySem.W.Frag) (neg : Bool) : R2 := fun x y H Q => ∃ p xs, y = .ref p ∧ (SqL K H p xs ∨ SqT K H p xs) ∧ flatV x = true ∧ xs.all flatV = true ∧ Q (.bl (if neg then !inV x xs else inV x xs)) H
theorem op_notIn_seq : OpR X (compareOp .NotIn) (rIn X.K true) := by
  intro pins s σ H x y v u Q I rx ry h
  obtain ⟨p, xs, rfl, hq, fx, fs, q⟩ := h
  cases ry
  rcases hq with hq | hq
  · obtain ⟨its, r, pl, hz⟩ := I.list hq
    refine SeqAt.notIn_listAt (eqU x) pl.isList (fun w hw => mem_eqAt rx fx r fs w (by simpa using hw)) ⟨.bl _, H, I, rfl, ?_⟩
    rw [show its.toArray.any (eqU x) = its.any (eqU x) by simp, any_eqU r fs]
    exact q
  · obtain ⟨its, r, pl, hz⟩ := I.tuple hq
    refine SeqAt.notIn_tupleAt (eqU x) pl (fun w hw => mem_eqAt rx fx r fs w (by simpa using hw)) ⟨.bl _, H, I, rfl, ?_⟩
    rw [show its.toArray.any (eqU x) = its.any (eqU x) by simp, any_eqU r fs]
    exact q
/-! ### len, list(x), tuple(x) of any list or tuple that is read -/
theorem call_len_seq : CallR X (.builtin "len") (fun xs H Q => ∃ p ys, xs = [.ref p] ∧ (SqL X.K H p ys ∨ SqT X.K H p ys) ∧ Q (.int ys.length) H) := by
  intro pins s σ H xs us Q I r h
  obtain ⟨p, ys, rfl, hq, q⟩ := h
  obtain ⟨u, rfl, rx⟩ := vals1 r
  cases rx
  have hn := line63
  rcases hq with hq | hq
  · obtain ⟨its, r', pl, hz⟩ := I.list hq
    have hlen := r'.length
    exact Calls.call_len_list pl.isList (by simp only [List.size_toArray] <;> omega) ⟨.int ys.length, H, I.tok _, ⟨s.toks + 1, by rw [List.size_toArray, hlen]⟩, q⟩
  · obtain ⟨its, r', pl, hz⟩ := I.tuple hq
    have hlen := r'.length
    exact len_tuple pl (by simp only [List.size_toArray] <;> omega) ⟨.int ys.length, H, I.tok _, ⟨s.toks + 1, by rw [List.size_toArray, hlen]⟩, q⟩
theorem call_list_of : CallR X (.type "list") (fun xs H Q => ∃ p ys, xs = [.ref p] ∧ (SqL X.K H p ys ∨ SqT X.K H p ys) ∧ ∀ l, H l = none → Q (.ref l) (upd H l (.lst ys))) := by
  intro pins s σ H xs us Q I r h
  obtain ⟨p, ys, rfl, hq, q⟩ := h
  obtain ⟨u, rfl, rx⟩ := vals1 r
  cases rx
  have fin : ∀ (its : List Value), Vals ys its → ys.length ≤ sizeLine → ∀ (h' : Heap) (c' : Nat), (∀ b o', s.heap.get? b = some o' → h'.get? b = some o') →
      h'.get? s.heap.objs.size = some { cls := .type "list", dict := none, data := .seq its.toArray c', slots := #[] } → EP X pins σ Q (.ref s.heap.objs.size) { s with heap := h' } := fun its r' hz h' c' kp e =>
    ⟨.ref s.heap.objs.size, _, I.laid (t' := s.toks) kp (Nat.le_refl _) (show ObjOk X.prog X.w _ h' _ (.lst ys) from ⟨hz, its, c', r', e⟩), rfl, q _ (I.hok.fresh (Nat.le_refl _))⟩
  rcases hq with hq | hq
  · obtain ⟨its, r', pl, hz⟩ := I.list hq
    have hlen := r'.length
    obtain ⟨o, ho, hc, n, hd⟩ := pl.isList
    exact call_list_seq p (.inl rfl) ho hc hd (fun h' c' kp e => fin its r' hz h' c' kp e) (by simp only [List.size_toArray] <;> omega)
  · obtain ⟨its, r', pl, hz⟩ := I.tuple hq
    have hlen := r'.length
    obtain ⟨o, ho, hc, n, hd⟩ := pl
    exact call_list_seq p (.inr rfl) ho hc hd (fun h' c' kp e => fin its r' hz h' c' kp e) (by simp only [List.size_toArray] <;> omega)
theorem call_tuple_of : CallR X (.type "tuple") (fun xs H Q => ∃ p ys, xs = [.ref p] ∧ ((SqL X.K H p ys ∧ ∀ l, H l = none → Q (.ref l) (upd H l (.tup ys))) ∨ (SqT X.K H p ys ∧ Q (.ref p) H))) := by
  intro pins s σ H xs us Q I r h
  obtain ⟨p, ys, rfl, h⟩ := h
  obtain ⟨u, rfl, rx⟩ := vals1 r
  cases rx
  rcases h with ⟨hq, q⟩ | ⟨hq, q⟩
  · obtain ⟨its, r', pl, hz⟩ := I.list hq
    have hlen := r'.length
    refine call_tuple_list pl.isList (fun h' kp => ?_) (by simp only [List.size_toArray] <;> omega)
    have I1 : Inv X pins σ H { s with heap := h' } := I.kept (t' := s.toks) kp
    have I2 : Inv X pins σ (upd H h'.objs.size (.tup ys)) { s with heap := h'.push { cls := .type "tuple", data := .seq its.toArray } } :=
      I1.laid (t' := s.toks) (fun b o e => Heap.get?_push_of_some _ e) (Nat.le_refl _) (show ObjOk X.prog X.w _ _ _ (.tup ys) from ⟨hz, its, r', IsTup.new _ _⟩)
    exact ⟨.ref h'.objs.size, _, I2, rfl, q _ (I1.hok.fresh (Nat.le_refl _))⟩
  · obtain ⟨its, r', pl, hz⟩ := I.tuple hq
    exact call_tuple_same pl ⟨.ref p, H, I, rfl, q⟩

/-! ### the call of a builtin's method: o.m(..) -/
/-- the value is of that builtin type -/
noncomputable def tyV (K : PySem.W.Frag) (T : String) (x : V) (H : Hp) : Prop := match x with
  | .str _ => T = "str"
  | .int _ => T = "int"
  | .ref p => (T = "list" ∧ ∃ xs, SqL K H p xs) ∨ (T = "tuple" ∧ ∃ o, K.lookup p = some o ∧ o.cls = .type "tuple" ∧ o.dict = none) ∨
      (T = "dict" ∧ ((∃ kvs, H p = some (.dK kvs)) ∨ ∃ kvs, H p = some (.dT kvs))) ∨ (T = "set" ∧ ∃ S n, H p = some (.set S n))
  | _ => False
theorem tyV_is {pins : List (Addr × Obj)} {σ : St} {H : Hp} {s : Shared} {T : String} {x : V} {v : Value} (I : Inv X pins σ H s) (r : RelV x v) (ty : tyV X.K T x H) :
    s.TypeIs v T ∧ ∀ a, v = .ref a → ∃ ob, s.heap.get? a = some ob ∧ ob.dict = none := by
  cases x with
  | str z =>
    obtain ⟨t, rfl⟩ := r
    cases (show T = "str" from ty)
    exact ⟨typeIs_str s z t, fun _ e => nomatch e⟩
  | int i =>
    obtain ⟨t, rfl⟩ := r
    cases (show T = "int" from ty)
    exact ⟨typeIs_int s i t, fun _ e => nomatch e⟩
  | ref p =>
    cases r
    rcases ty with ⟨rfl, xs, hq⟩ | ⟨rfl, o, hk, hc, hd⟩ | ⟨rfl, hk⟩ | ⟨rfl, S, n, hk⟩
    · obtain ⟨its, _, pl, _⟩ := I.list hq
      refine ⟨pl.isList.typeIs, fun a e => ?_⟩
      cases e
      obtain ⟨o, n, e, c, hd, _⟩ := pl
      exact ⟨o, e, hd⟩
    · refine ⟨⟨o, I.kIn p o hk, hc⟩, fun a e => ?_⟩
      cases e
      exact ⟨o, I.kIn _ o hk, hd⟩
    · have z : ∃ o, s.heap.get? p = some o ∧ o.ExactDict := by
        rcases hk with ⟨kvs, hk⟩ | ⟨kvs, hk⟩
        · obtain ⟨_, _, _, _, o, _, _, e, ex, _⟩ := I.hok p _ hk
          exact ⟨o, e, ex⟩
        · obtain ⟨_, _, _, _, o, _, _, e, ex, _⟩ := I.hok p _ hk
          exact ⟨o, e, ex⟩
      obtain ⟨o, e, ex⟩ := z
      refine ⟨⟨o, e, ex.1⟩, fun a e2 => ?_⟩
      cases e2
      exact ⟨o, e, ex.2.1⟩
    · obtain ⟨o, _, _, _, e, ex, _⟩ := I.hok p _ hk
      refine ⟨⟨o, e, ex.1⟩, fun a e2 => ?_⟩
      cases e2
      exact ⟨o, e, ex.2.1⟩
  | _ => exact False.elim ty
noncomputable def tBM0 (K : PySem.W.Frag) (T : String) (r : V → List V → Hp → VK → Prop) (to : TE) : TE := fun σ H Q => to σ H fun x H1 => tyV K T x H1 ∧ r x [] H1 Q
noncomputable def tBM (K : PySem.W.Frag) (T : String) (r : V → List V → Hp → VK → Prop) (to : TE) (t : TA) : TE := fun σ H Q => to σ H fun x H1 => tyV K T x H1 ∧ t σ H1 fun xs H2 => r x xs H2 Q
variable {o e : Expr} {es : List Expr} {to : TE} {t : TA} {name : Str} {apos cpos : Pos} {T id : String} {r : V → List V → Hp → VK → Prop}
theorem pe_bm0 (pa : PlainAttrs T) (slot : Slot T name id) (hty : typeOf (.builtin id) = pure (.type "method_descriptor")) (hm : MtR X id r) (ho : PE X o to)
    (hbase : attributeBase o name X.env (eval o X.env) = eval o X.env := by rfl) (hline : (apos.endLine == cpos.line) = true := by rfl) : PE X (.Call (.Attribute o name apos) [] [] cpos) (tBM0 X.K T r to) := by
  intro pins s σ H Q I h
  refine wpAny_Call_method0_late hbase hline (thn (ho pins s σ H _ I h) fun v s1 ⟨x, H1, I1, r1, ty, q1⟩ => ?_)
  obtain ⟨h1, h2⟩ := tyV_is I1 r1 ty
  exact ⟨T, id, pa, slot, hty, h1, h2, Calls.callWith_builtin rfl (PySem.evalArgs_none (hm pins s1 σ H1 x [] v [] Q I1 r1 .nil q1))⟩
theorem pe_bm (pa : PlainAttrs T) (slot : Slot T name id) (hty : typeOf (.builtin id) = pure (.type "method_descriptor")) (hm : MtR X id r) (ho : PE X o to) (ha : PA X (e :: es) t)
    (hbase : attributeBase o name X.env (eval o X.env) = eval o X.env := by rfl)
    (hfew : ((backTo cpos (starEach (e :: es) X.env)).all (fun x => !x.1) && (backToKw cpos (keywordEach [] X.env)).all (fun x => x.1.isSome)
      && decide ((e :: es).length + ([] : List Keyword).length + (if ([] : List Keyword).isEmpty then 0 else 1) < 30)) = true := by rfl)
    (hline : (apos.endLine == cpos.line) = true := by rfl) (hs : starEach (e :: es) X.env = (false, eval e X.env) :: starEach es X.env := by rfl) (hplain : (backTo cpos (starEach es X.env)).any (·.1) = false := by rfl) :
    PE X (.Call (.Attribute o name apos) (e :: es) [] cpos) (tBM X.K T r to t) := by
  intro pins s σ H Q I h
  refine wpAny_Call_method_late hbase hfew hline rfl (thn (ho pins s σ H _ I h) fun v s1 ⟨x, H1, I1, r1, ty, q1⟩ => ?_)
  obtain ⟨h1, h2⟩ := tyV_is I1 r1 ty
  refine ⟨T, id, pa, slot, hty, h1, h2, ?_⟩
  have hA := ha cpos pins s1 σ H1 _ I1 q1
  rw [hs] at hA ⊢
  refine Calls.callWith_builtin (by show (false || (backTo cpos (starEach es X.env)).any (·.1)) = false; rw [hplain] <;> rfl) (Calls.evalArgs_plain ?_)
  exact thn hA fun us s2 ⟨vs, H2, I2, r2, q2⟩ => hm pins s2 σ H2 x vs v us Q I2 r1 r2 q2
/- xs.append(e), list.index on a module's tuple .. are MtR facts of 06m -/
end
end L2

namespace L2
open PySem PySem.Spec PyProof.Rows

noncomputable def MtM (X : Cx) (id : String) (r : V → List V → Hp → VK → Prop) : Prop :=
  ∀ (pins : List (Addr × Obj)) (s : Shared) (σ : St) (H : Hp) (x : V) (xs : List V) (v : Value) (us : List Value) (Q : VK), Inv X pins σ H s → RelV x v → Vals xs us → r x xs H Q →
    wpAny (model X.prog X.w) X.A (call (.builtin id) (v :: us)) (EP X pins σ Q) X.xe s

/-! ### lists of values -/
theorem Vals.one : ∀ {x : V} {us : List Value}, Vals [x] us → ∃ u, us = [u] ∧ RelV x u
  | _, _, .cons r .nil => ⟨_, rfl, r⟩
theorem Vals.zero : ∀ {us : List Value}, Vals [] us → us = []
  | _, .nil => rfl
theorem Vals.dropLast {xs : List V} {us : List Value} (h : Vals xs us) : Vals xs.dropLast us.dropLast := by
  induction h with
  | nil => exact .nil
  | cons r t ih =>
    cases t with
    | nil => exact .nil
    | cons q t' => exact .cons r ih
theorem Vals.eraseIdx : ∀ {xs : List V} {us : List Value} (i : Nat), Vals xs us → Vals (xs.eraseIdx i) (us.eraseIdx i)
  | _, _, _, .nil => .nil
  | _, _, 0, .cons _ t => t
  | _, _, i + 1, .cons r t => .cons r (Vals.eraseIdx i t)
theorem Vals.reverse {xs : List V} {us : List Value} (h : Vals xs us) : Vals xs.reverse us.reverse := by
  induction h with
  | nil => exact .nil
  | cons r t ih => rw [List.reverse_cons, List.reverse_cons]; exact Vals.append ih (.cons r .nil)
theorem Vals.rep {xs : List V} {us : List Value} (h : Vals xs us) : ∀ k : Nat, Vals (List.replicate k xs).flatten (List.replicate k us).flatten
  | 0 => .nil
  | k + 1 => by
    rw [List.replicate_succ, List.replicate_succ, List.flatten_cons, List.flatten_cons]
    exact Vals.append h (Vals.rep h k)
theorem erase_last {α : Type} (l : List α) : l.eraseIdx (l.length - 1) = l.dropLast := by
  induction l with
  | nil => rfl
  | cons a r ih =>
    cases r with
    | nil => rfl
    | cons b r =>
      have e : (a :: b :: r).length - 1 = ((b :: r).length - 1) + 1 := by
        have h1 : (a :: b :: r).length = r.length + 2 := rfl
        have h2 : (b :: r).length = r.length + 1 := rfl
        omega
      rw [e, List.eraseIdx_cons_succ, ih]
      all_goals rfl
theorem len_erase {α : Type} : ∀ (l : List α) (i : Nat), (l.eraseIdx i).length ≤ l.length
  | [], _ => Nat.le_refl _
  | _ :: _, 0 => Nat.le_succ _
  | _ :: r, i + 1 => Nat.succ_le_succ (len_erase r i)
theorem foldl_rep (its : List Value) : ∀ (k : Nat) (acc : List Value),
    List.foldl (fun x1 x2 => x1 ++ x2) acc.toArray (List.replicate k its.toArray) = (acc ++ (List.replicate k its).flatten).toArray
  | 0, acc => by simp
  | k + 1, acc => by
    have e : acc.toArray ++ its.toArray = (acc ++ its).toArray := by simp
    have e2 : (acc ++ its) ++ (List.replicate k its).flatten = acc ++ (List.replicate (k + 1) its).flatten := by
      rw [List.replicate_succ, List.flatten_cons, List.append_assoc]
    rw [← e2, ← foldl_rep its k (acc ++ its), ← e, List.replicate_succ, List.foldl_cons]

section
variable {X : Cx} {pins : List (Addr × Obj)} {σ : St} {H : Hp} {s : Shared} {l b : Addr} {xs ys zs : List V}

/-! ### the two steps: a tracked list is rewritten, a new list is laid -/
theorem Inv.lset {its its' : List Value} {n : Nat} {f : Array Value → Array Value} {t' : Nat} (I : Inv X pins σ H s) (hH : H l = some (.lst xs))
    (e : s.heap.get? l = some { cls := .type "list", data := .seq its.toArray n }) (hf : f its.toArray = its'.toArray) (hv : Vals ys its') (hz : ys.length ≤ sizeLine) :
    Inv X pins σ (upd H l (.lst ys)) { s with heap := s.heap.update l (Obj.mapSeq f), toks := t' } := by
  have q := PySem.IsL.update e f
  rw [hf] at q
  refine I.write (x := l) (e := l) (by rw [hH]; exact trivial) (.inl rfl) (fun b' u hb hu => (Heap.get?_update_other s.heap (Obj.mapSeq f) (Ne.symm hb)).trans hu) ⟨_, q⟩ ?_
  exact ⟨hz, its', _, hv, q⟩
theorem Inv.lnew {its : List Value} {t' : Nat} (I : Inv X pins σ H s) (hv : Vals ys its) (hz : ys.length ≤ sizeLine) :
    Inv X pins σ (upd H s.heap.objs.size (.lst ys)) { s with heap := s.heap.push { cls := .type "list", data := .seq its.toArray }, toks := t' } :=
  I.laid (fun _ _ q => Heap.get?_push_of_some _ q) (Nat.le_refl _) ⟨hz, its, 0, hv, Heap.get?_push_size _ rfl⟩
theorem Inv.fresh (I : Inv X pins σ H s) : H s.heap.objs.size = none := I.hok.fresh (Nat.le_refl _)
theorem Inv.lstM (I : Inv X pins σ H s) (hH : H l = some (.lst xs)) : xs.length ≤ sizeLine ∧ ∃ (its : List Value) (n : Nat), Vals xs its ∧ xs.length = its.length ∧ s.heap.get? l = some { cls := .type "list", data := .seq its.toArray n } := by
  obtain ⟨z, its, n, r, e⟩ := I.hok l _ hH
  exact ⟨z, its, n, r, r.length, e⟩

theorem notLongL {n : Nat} (h : n ≤ sizeLine) : Builtin.List.listTooLong n = false := by
  unfold Builtin.List.listTooLong
  exact decide_eq_false (by omega)
end

section
variable {X : Cx}

/-! ### methods -/
noncomputable def rAppend : V → List V → Hp → VK → Prop := fun x vs H Q => ∃ l xs y, x = .ref l ∧ vs = [y] ∧ H l = some (.lst xs) ∧ xs.length < sizeLine ∧ Q .non (upd H l (.lst (xs ++ [y])))
theorem mt_append : MtM X "list.append" rAppend := by
  intro pins s σ H x vs v us Q I rx rv h
  obtain ⟨l, xs, y, rfl, rfl, hH, hz, q⟩ := h
  cases rx
  obtain ⟨u, rfl, ru⟩ := rv.one
  obtain ⟨z, its, n, r, hl, e⟩ := I.lstM hH
  refine call_meets F.slot_list_append ⟨_, e, rfl⟩ F.entry_list_append (F.args_list_append_2 _ _) (PySem.list_append l its.toArray n u (by rw [List.size_toArray]; omega)) ⟨e, ?_⟩
  refine ⟨.non, _, I.lset (its' := its ++ [u]) hH e (by simp) (r.append (.cons ru .nil)) ?_, rfl, q⟩
  rw [List.length_append, List.length_singleton]
  omega

noncomputable def rPop : V → List V → Hp → VK → Prop := fun x vs H Q => ∃ l xs y, x = .ref l ∧ vs = [] ∧ H l = some (.lst xs) ∧ xs[xs.length - 1]? = some y ∧ Q y (upd H l (.lst xs.dropLast))
theorem mt_pop : MtM X "list.pop" rPop := by
  intro pins s σ H x vs v us Q I rx rv h
  obtain ⟨l, xs, y, rfl, rfl, hH, hy, q⟩ := h
  cases rx
  have hus := rv.zero
  subst hus
  obtain ⟨z, its, n, r, hl, e⟩ := I.lstM hH
  obtain ⟨u, hu, ru⟩ := r.get hy
  have hy' : its.toArray[its.toArray.size - 1]? = some u := by
    show its.toArray[its.length - 1]? = some u
    rw [← Array.getElem?_toList, ← hl]
    exact hu
  refine call_meets F.slot_list_pop ⟨_, e, rfl⟩ F.entry_list_pop (F.args_list_pop_1 _) (MeetsSeq.list_pop_last l its.toArray n u hy' (by rw [List.size_toArray]; omega)) ⟨e, ?_⟩
  refine ⟨y, _, I.lset (its' := its.dropLast) hH e ?_ r.dropLast ?_, ru, q⟩
  · show its.toArray.eraseIdxIfInBounds (its.toArray.size - 1) = its.dropLast.toArray
    rw [List.size_toArray, List.eraseIdxIfInBounds_toArray, erase_last]
  · rw [List.length_dropLast]
    omega

/-! ### list + list, list += list, list * int -/
noncomputable def rCat : R2 := fun x y H Q => ∃ l b xs zs, x = .ref l ∧ y = .ref b ∧ H l = some (.lst xs) ∧ H b = some (.lst zs) ∧ xs.length + zs.length ≤ sizeLine ∧ ∀ p, H p = none → Q (.ref p) (upd H p (.lst (xs ++ zs)))
theorem op_cat : OpR X (binaryOp .Add) rCat := by
  intro pins s σ H x y v u Q I rx ry h
  obtain ⟨l, b, xs, zs, rfl, rfl, hH, hB, hz, q⟩ := h
  cases rx
  cases ry
  obtain ⟨z, its, n, r, hl, e⟩ := I.lstM hH
  obtain ⟨z2, its2, n2, r2, hl2, e2⟩ := I.lstM hB
  refine PySem.P.add_list e e2 ?_ (by rw [List.size_toArray, List.size_toArray]; omega)
  have ea : its.toArray ++ its2.toArray = (its ++ its2).toArray := by simp
  rw [ea]
  exact ⟨.ref _, _, I.lnew (t' := s.toks) (r.append r2) (by rw [List.length_append]; omega), rfl, q _ I.fresh⟩
/-- a list times an int (a negative one is nothing) -/
noncomputable def rRep : R2 := fun x y H Q => ∃ l k xs, x = .ref l ∧ y = .int k ∧ H l = some (.lst xs) ∧ -(2 ^ 63) ≤ k ∧ k < 2 ^ 63 ∧ xs.length * k.toNat ≤ sizeLine ∧
  ∀ p, H p = none → Q (.ref p) (upd H p (.lst (List.replicate k.toNat xs).flatten))
theorem len_rep {α : Type} (xs : List α) (k : Nat) : (List.replicate k xs).flatten.length = k * xs.length := by
  induction k with
  | zero => simp
  | succ k ih => rw [List.replicate_succ, List.flatten_cons, List.length_append, ih, Nat.succ_mul, Nat.add_comm]
theorem op_rep : OpR X (binaryOp .Mult) rRep := by
  intro pins s σ H x y v u Q I rx ry h
  obtain ⟨l, k, xs, rfl, rfl, hH, h1, h2, hz, q⟩ := h
  cases rx
  obtain ⟨t, rfl⟩ := ry
  obtain ⟨z, its, n, r, hl, e⟩ := I.lstM hH
  have hlen : its.toArray.size * k.toNat ≤ sizeLine := by rw [List.size_toArray, ← hl]; exact hz
  have hcap : ¬ its.toArray.size * k.toNat > (2 ^ 63 - 1) / 8 := by
    have : (sizeLine : Nat) ≤ (2 ^ 63 - 1) / 8 := by decide
    omega
  have hfit : ¬ (!Builtin.List.listFitsIndex k) = true := by
    rw [fitsIndex_both h1 h2]
    exact Bool.false_ne_true
  have hlong : ¬ Builtin.List.listTooLong (its.toArray.size * k.toNat) = true := by
    rw [notLongL hlen]
    exact Bool.false_ne_true
  have hnew : List.foldl (fun x1 x2 => x1 ++ x2) #[] (List.replicate (if its.toArray.isEmpty = true then 0 else k.toNat) its.toArray) = (List.replicate k.toNat its).flatten.toArray := by
    have f0 : ∀ m : Nat, List.foldl (fun x1 x2 => x1 ++ x2) #[] (List.replicate m its.toArray) = (List.replicate m its).flatten.toArray := fun m => by
      have := foldl_rep its m []
      rw [List.nil_append] at this
      exact this
    rw [f0]
    cases its with
    | nil => simp
    | cons a r' => rw [if_neg (by simp)]
  refine wpAny_binaryOp_repeat_ref (T := "list") (U := "int") (by decide) ⟨_, e, rfl⟩ (fun s' => typeIs_int s' k t) noFill_list_mul F.fills_int_mul F.slot_int_rmul repeat_list F.slot_int_index.lookup
    (call_meets F.slot_int_rmul (typeIs_int s k t) F.entry_int_rmul (F.args_int_rmul_2 _ _) (int___rmul___int_list k t l its.toArray n)
      ⟨e, rfl, ⟨_, e, rfl⟩, call_meets F.slot_list_mul ⟨_, e, rfl⟩ F.entry_list_mul (F.args_list_mul_2 _ _) (AutoListH.list___mul___list_int_3 l its.toArray n k t hfit hcap hlong) ⟨e, ?_⟩⟩)
  rw [hnew]
  exact ⟨.ref _, _, I.lnew (t' := s.toks) (r.rep k.toNat) (by rw [len_rep, Nat.mul_comm]; exact hz), rfl, q _ I.fresh⟩

/-! ### del xs[i] -/
end

/-! ### xs[a:b] = ys -/
section
variable {prog : Program} {w : World} {A : Around} {E : Value → Shared → Prop} {s : Shared}
end

section
variable {X : Cx}
end
end L2

namespace Att
open PySem PySem.W PySem.Calls PyProof.Rows

/-! ### the script -/
theorem ints_of_wellAll {P : Params} {h : Heap} : ∀ (ns : List Int) (vs : List Value), WellAll P h vs (ns.map WData.int) → IntsAre vs ns := by
  intro ns
  induction ns with
  | nil =>
    intro vs w
    rw [List.map_nil] at w
    cases w
    exact .nil
  | cons n ns ih =>
    intro vs w
    rw [List.map_cons] at w
    cases w with
    | cons a b =>
      cases a
      exact .cons _ _ (ih _ b)

theorem script_of {l : OpenLaw} {n : Nat} (hn : l.most = some n) {P : Params} {h : Heap} {args : List WData} {vals : List Value}
    (hpre : l.row.toRowW.claim.pre args = true) (hwl : WellAll P h vals args) :
    ∃ a vs ns, vals = [Value.ref a] ∧ args = [WData.list (ns.map WData.int)] ∧ h.get? a = some { cls := .type "list", data := .seq vs.toArray } ∧ IntsAre vs ns ∧ ns.length ≤ n := by
  have hsh : WShape.hasAll [] args [.list .int] = true := (pre_splitW hpre).1
  have hc : l.pre.holds [] { args := args } = true := (pre_splitW hpre).2
  obtain ⟨d, r, rfl, h1, h2⟩ := hasAllW_cons hsh
  obtain rfl := hasAllW_nil h2
  obtain ⟨xs, rfl, h3⟩ := hasW_list h1
  obtain ⟨ns, rfl⟩ := items_int h3
  have hlen : ns.length ≤ n := by
    unfold OpenLaw.pre at hc
    have h4 : (WTm.not (.lt (.lit (.int (n : Int))) (.len (.arg 0)))).holds [] { args := [.list (ns.map .int)] } = true := by
      have h4 := (holds_andW hc).1
      rw [hn] at h4
      exact h4
    have h5 := condW_of h4 (w_not (w_lt w_lit (w_len_list (w_arg rfl))))
    rw [List.length_map] at h5
    refine Nat.le_of_not_lt fun q => ?_
    have q' : (n : Int) < ((ns.length : Nat) : Int) := by omega
    first
      | (rw [decide_eq_true q'] at h5; exact absurd h5 (by decide))
      | (simp at h5; omega)
  cases hwl with
  | cons w1 w2 =>
    cases w2
    cases w1 with
    | list ho hall => exact ⟨_, _, ns, rfl, rfl, ho, ints_of_wellAll ns _ hall, hlen⟩

theorem post_true (l : OpenLaw) (args : List WData) : l.row.toRowW.claim.post args (.bool true) args = true :=
  postW_of (r := l.row.toRowW) (X := (true == true))
    (show WShape.has [] (.bool true) .bool = true by first | rfl | decide | simp [WShape.has, WShape.arms, WShape.armsAll])
    (show (WTm.eq .res (.lit (.bool true))).value [] { args := args, res := some (.bool true), after := args } = some (.bool (true == true)) from w_eq_bool (w_res rfl) w_lit) rfl

/-! ### the attachment: holds_open's last premise (the goal 'hc' behind k_head) from a wpAny of the law's body -/
/-- the same from a codeAny of the CALL (for a layer whose function contracts speak of calls) -/
theorem attach_call {l : OpenLaw} {n : Nat} {q : Program} {loose : List Str} {XP : (Str → Option Value) → Heap → Prop} {YP : World → Heap → Prop} {d : DefRec}
    (hn : l.most = some n) (hdf : d.params.defaults = [])
    (call : ∀ (w : World) (s₀ s₁ : Shared) (mg mb : Str → Option Value) (fa : Addr) (o : Obj) (pm cd doc : Value) (a : Addr) (vs : List Value) (ns : List Int),
      Ground q loose [] XP w s₀ mg mb s₁.heap → YP w s₁.heap →
      s₁.heap.get? fa = some o → o.data = .func (docDef d.name d.params d.body d.scope pm cd doc) → s₁.heap.CodeRec cd d.name → mg d.name = some (.ref fa) →
      s₁.heap.get? a = some { cls := .type "list", data := .seq vs.toArray } → IntsAre vs ns → ns.length ≤ n → s₁.gens = #[] →
      codeAny (model l.prog w) callerA (.call (.ref fa) ⟨[.ref a], []⟩) (fun r s' => r = .ok (.ret (.bool true)) ∧ OldK s₁.heap s'.heap ∧ s'.os = s₁.os ∧ AllBare s'.gens) s₁) :
    WalkO q loose XP YP l.row.toRowW d [] (fun f vs => PySem.call f vs) := by
  intro w s₀ s₁ mg mb G Y fa o pm cd doc dV kV ho hd hcd hD hmg hg args vals as hpre hlay hrd hwl hlo
  obtain rfl : dV = .none := Dflts.none hD hdf
  obtain rfl : kV = .none := Dflts.noKw hD
  obtain ⟨a, vs, ns, rfl, rfl, hobj, hints, hlen⟩ := script_of hn hpre hwl
  refine enter_call (codeAny_mono (call w s₀ s₁ mg mb fa o pm cd doc a vs ns G Y ho (fd_plain hd) hcd hmg hobj hints hlen hg) fun r s' hq => ?_)
  obtain ⟨rfl, h2, h3, h4⟩ := hq
  exact ⟨.inl ⟨.bool true, .bool true, [], rfl, fun _ => rfl, .bool true, post_true l _, fun _ => ⟨List.Pairwise.nil, fun _ hm => (nomatch hm)⟩⟩, h2, h3, h4⟩

/-! ### rules over ANY heap (no ledger) from facts about the written part K: the library's own take a ledger (News) for what they write -/
section
variable {prog : Program} {w : World} {A : Around} {E : Value → Shared → Prop} {s : Shared} {K : Frag}

/-! the whole heap as the ledger: makes every rule that writes through a ledger a rule over any heap -/
end
end Att

namespace L2
open PySem PySem.Spec PyProof.Rows

theorem vals_ints : ∀ {vs : List Value} {ns : List Int}, IntsAre vs ns → Vals (ns.map V.int) vs
  | _, _, .nil => .nil
  | _, _, .cons n t h => .cons ⟨t, rfl⟩ (vals_ints h)

/-- nothing is tracked but the script, known to the object (or it is an object of the module) -/
noncomputable def Only (H : Hp) : Prop := ∀ b, H b = none ∨ ∃ o xs, H b = some (.frz o (.lst xs))

/-- THE HEAD: the law's promise, at the heap behind the top. F, the promise of the law's def, may use that base is part of the heap (so K.In base, base.Ns mainGlobals mg stand in Mod) -/
theorem law_call {P : Program} {w : World} {K : PySem.W.Frag} {mg mb : Str → Option Value} {CX : CXT} {k : Nat} {fa a : Addr} {fd : FuncData} {x : Str} {sp : Sp} {s₁ : Shared} {vs : List Value} {ns : List Int}
    (KX : K.In s₁.heap) (hns : s₁.heap.Ns mainGlobals mg) (hb : s₁.heap.Ns builtinsNs mb) (hbb : ∀ x : Str, x ≠ "__name__" → mb x = bootBuiltins x) (hlim : s₁.heap.NoLimit) (hg : s₁.gens = #[])
    (ha : s₁.heap.get? a = some { cls := .type "list", data := .seq vs.toArray }) (hi : IntsAre vs ns) (hl : ns.length ≤ sizeLine) (hr : Room k callerA)
    (F : ∀ base : Heap, K.In base → base.Ns mainGlobals mg → FnOk P w K mg base CX k fa fd [x] sp) (hbind : ∀ (s : Shared) (u : Value), BindsTo s fd ⟨[u], []⟩ [(x, u)])
    (hsp : ∀ H : Hp, Only H → SqL K H a (ns.map V.int) → sp [.ref a] H (fun v _ => v = .bl true) fun _ _ _ => False)
    (hCX : ∀ H e s', CX [] H s₁ (fun _ _ _ => False) e s' → False) :
    codeAny (model P w) callerA (.call (.ref fa) ⟨[.ref a], []⟩) (fun r s' => r = .ok (.ret (.bool true)) ∧ OldK s₁.heap s'.heap ∧ s'.os = s₁.os ∧ AllBare s'.gens) s₁ := by
  have rv := vals_ints hi
  have lenV := hi.length
  -- from an abstract heap in which nothing but the script may be tracked
  have core : ∀ H : Hp, Only H → SqL K H a (ns.map V.int) → HOk P w H s₁.heap → (∀ b, H b ≠ none → b = a) → (H a ≠ none → K.lookup a = none) →
      codeAny (model P w) callerA (.call (.ref fa) ⟨[.ref a], []⟩) (fun r s' => r = .ok (.ret (.bool true)) ∧ OldK s₁.heap s'.heap ∧ s'.os = s₁.os ∧ AllBare s'.gens) s₁ := by
    intro H hO hS hok hA hK
    have base_of : ∀ {b : Addr} {o : Obj}, s₁.heap.get? b = some o → H b = none → (hidT s₁.heap H).get? b = some o := fun e n => hidT_get e n
    have noA : ∀ {b : Addr} {o : Obj} {es : Array DictEntry} {ep : Nat}, s₁.heap.get? b = some o → o.data = .dict es ep → H b = none := fun {b o es ep} e d => by
      cases q : H b with
      | none => rfl
      | some u =>
        have e' : b = a := hA b (by rw [q]; simp)
        subst e'
        rw [ha] at e; cases e
        have d' : Data.seq vs.toArray _ = Data.dict es ep := d
        cases d'
    have nsK : ∀ {b : Addr} {m : Str → Option Value}, s₁.heap.Ns b m → (hidT s₁.heap H).Ns b m := fun {b m} ⟨o, es, ep, e, d, r⟩ => ⟨o, es, ep, base_of e (noA e d), d, r⟩
    have hKb : K.In (hidT s₁.heap H) := fun b o e => base_of (KX b o e) (by
      cases q : H b with
      | none => rfl
      | some u =>
        have e' : b = a := hA b (by rw [q]; simp)
        subst e'
        rw [hK (by rw [q]; simp)] at e; cases e)
    have hM : Mod K mg (hidT s₁.heap H) := ⟨hKb, nsK hns, ⟨mb, nsK hb, hbb⟩, let ⟨mc, h1, h2⟩ := hlim; ⟨mc, nsK h1, h2⟩⟩
    have e0 : Env0 P w K mg (hidT s₁.heap H) callerA [] s₁ H := ⟨rfl, hM, fun b o e => of_hidT e, Nat.le_of_eq (hidT_size _ _), trivial, fun b hb => absurd (show b ∈ ([] : List Addr) from hb) (by simp), hok, .of_eq hg⟩
    refine codeAny_mono ((F _ hKb (nsK hns)).run callerA [] s₁ H ⟨[.ref a], []⟩ [.ref a] [.ref a] _ _ hr e0 (hbind s₁ (.ref a)) (.cons rfl .nil) (hsp H hO hS)) fun r s' h => ?_
    cases r with
    | error e => exact (hCX H e s' h).elim
    | ok fl =>
      cases fl with
      | next => exact False.elim h
      | brk => exact False.elim h
      | cont => exact False.elim h
      | ret u =>
        obtain ⟨v, H', os, bare, un, hok', r', q⟩ := h
        have q' : v = .bl true := q
        subst q'
        obtain rfl : u = Value.bool true := r'
        refine ⟨rfl, OldK.of_keep fun b o e => ?_, os, bare⟩
        cases q : H b with
        | none => exact un.keep b o e q (by intro z; exact absurd (show b ∈ ([] : List Addr) from z) (by simp)) (by simp)
        | some u =>
          rcases hO b with z | ⟨ob, xs, z⟩
          · rw [q] at z; cases z
          · have z2 := un.frzs b ob _ z
            obtain ⟨e1, _⟩ := hok b _ z
            obtain ⟨e2, _⟩ := hok' b _ z2
            rw [e] at e1; cases e1
            exact e2
  cases hk : K.lookup a with
  | some o =>
    -- the script is one of the module's own objects
    have e := KX a o hk
    rw [ha] at e
    cases e
    refine core (fun _ => none) (fun _ => .inl rfl) (.inr ⟨_, vs.toArray, _, hk, rfl, rfl, rfl, by rw [List.size_toArray, lenV]; exact hl, by simpa using rv⟩) (fun b u z => by have z' : (none : Option HO) = some u := z; cases z') (fun b z => absurd rfl z) fun z => absurd rfl z
  | none =>
    refine core (fun b => if b = a then some (.frz { cls := .type "list", data := .seq vs.toArray } (.lst (ns.map V.int))) else none) (fun b => ?_) (.inl (.inr ⟨{ cls := .type "list", data := .seq vs.toArray }, if_pos rfl⟩)) (fun b u z => ?_) (fun b z => ?_) fun _ => hk
    · by_cases hb : b = a
      · exact .inr ⟨_, _, if_pos hb⟩
      · exact .inl (if_neg hb)
    · by_cases hb : b = a
      · have z' := (if_pos hb).symm.trans z
        cases z'
        subst hb
        exact ⟨ha, by rw [List.length_map]; exact hl, vs, _, rv, ha⟩
      · have z' := (if_neg hb).symm.trans z
        cases z'
    · by_cases hb : b = a
      · exact hb
      · exact absurd (if_neg hb) z
end L2

namespace L2
open PySem PySem.Spec PyProof.Rows

/-- the goal that k_head leaves (case hc), from the law's promise. F gives the function object fd (K's own) once, then the promise over every base -/
theorem walk_of {l : PySem.W.OpenLaw} {n k : Nat} {q : Program} {loose : List Str} {XP : (Str → Option Value) → Heap → Prop} {YP : World → Heap → Prop} {d : DefRec} {K : Params → PySem.W.Frag} {CX : World → CXT} {sp : World → Sp} {x : Str}
    (hn : l.most = some n) (hn2 : n ≤ sizeLine) (hdf : d.params.defaults = []) (hr : Room k callerA)
    (hY : ∀ (w : World) (h : Heap), YP w h → (K w.params).In h)
    (F : ∀ (w : World) (mg : Str → Option Value) (fa : Addr) (h : Heap), (K w.params).In h → h.Ns mainGlobals mg → mg d.name = some (.ref fa) →
      ∃ fd : FuncData, (∀ (s : Shared) (u : Value), BindsTo s fd ⟨[u], []⟩ [(x, u)]) ∧
        ∀ base : Heap, (K w.params).In base → base.Ns mainGlobals mg → FnOk l.prog w (K w.params) mg base (CX w) k fa fd [x] (sp w))
    (hsp : ∀ (w : World) (H : Hp) (a : Addr) (ns : List Int), ns.length ≤ n → Only H → SqL (K w.params) H a (ns.map V.int) → sp w [.ref a] H (fun v _ => v = .bl true) fun _ _ _ => False)
    (hCX : ∀ (w : World) (H : Hp) (s : Shared) (e : Value) (s' : Shared), CX w [] H s (fun _ _ _ => False) e s' → False) :
    PySem.W.WalkO q loose XP YP l.row.toRowW d [] (fun f vs => PySem.call f vs) := by
  refine Att.attach_call hn hdf fun w s₀ s₁ mg mb fa o pm cd doc a vs ns G Y ho hd hcd hmg hobj hints hlen hg => ?_
  have KX := hY w _ Y
  obtain ⟨fd, hb, hF⟩ := F w mg fa _ KX G.T.g hmg
  exact law_call KX G.T.g G.T.b G.T.builtins G.T.nolimit hg hobj hints (Nat.le_trans hlen hn2) hr hF hb (fun H hO hS => hsp w H a ns hlen hO hS) fun H e s' => hCX w H s₁ e s'
end L2

/-! SHORT WORDS over the layer: a def of the text, its body, what a loop and a test want. -/
namespace L2
open PySem PySem.Spec PyProof.Rows

/-! ### the text by places -/
noncomputable def defArgs (s : Stmt) : Arguments := match s with
  | .FunctionDef _ a _ _ _ _ _ _ _ _ => a
  | _ => { posonlyargs := [], args := [], vararg := none, kwonlyargs := [], kw_defaults := [], kwarg := none, defaults := [] }
noncomputable def defBody (s : Stmt) : List Stmt := match s with
  | .FunctionDef _ _ b _ _ _ _ _ _ _ => b
  | _ => []
noncomputable def defScope (s : Stmt) : Scope := match s with
  | .FunctionDef _ _ _ _ _ _ sc _ _ _ => sc
  | _ => { kind := .function, names := [], isGenerator := false, isCoroutine := false }

/-! ### no exception leaves a def -/
noncomputable abbrev CX0 : CXT := fun _ _ _ _ _ _ => False
noncomputable abbrev E0 : XK := fun _ _ _ => False
theorem pass0 {X : Cx} : Passes CX0 X E0 := fun _ _ _ _ _ _ _ h => h.elim

/-! ### a def (or method) of the text as it stands behind the top -/
structure Fun (K : PySem.W.Frag) (x qual : Str) (st : Stmt) (f : Addr) (fd : FuncData) : Prop where
  ex : ∃ (oc : Value) (od : Option Addr) (kV doc pm : Value) (an : Option Addr) (cdv ct : Value) (osl : Array (Option Value)),
    fd = PySem.W.fnOf x qual (defArgs st) (defBody st) (defScope st) .none kV doc pm an cdv ct ∧ K.lookup f = some ⟨oc, od, .func fd, osl⟩ ∧ PySem.W.codeIn K cdv qual = true
  kp : PySem.W.keepIn K (.ref f) = true
section
variable {P : Program} {w : World} {K : PySem.W.Frag} {mg : Str → Option Value} {base : Heap}
/-- THE RULE for a def: its body as a term of rules, and the reading of that term -/
theorem Fun.ok {x qual : Str} {st : Stmt} {f : Addr} {fd : FuncData} {N ps : List Str} {k : Nat} {sp : Sp} (F : Fun K x qual st f fd) (S : FnScope N ps (defScope st)) (len : ∀ vs H Q E, sp vs H Q E → vs.length = ps.length)
    (hbody : ∀ (cdv : Value) (A : Around) (outer : List Env) (s : Shared) (H : Hp) (vs : List V) (Q : VK) (E : XK), Room k (A.deeper (envOfC qual (defScope st) s.heap.objs.size f cdv)) → sp vs H Q E →
      ∃ t, PSs (cxOf CX0 P w K mg base N qual (defScope st) f cdv A outer s H E).nox (defBody st) t ∧ t { nx := fun _ H' => Q .non H', rt := Q } (start N vs) H) : FnOk P w K mg base CX0 (k + 1) f fd ps sp := by
  obtain ⟨oc, od, kV, doc, pm, an, cdv, ct, osl, rfl, lk, hcd⟩ := F.ex
  refine fn_of lk hcd S len fun A outer s H vs Q E hr hsp => ?_
  obtain ⟨t, h, q⟩ := hbody cdv A outer s H vs Q E hr hsp
  exact ⟨t, h.nox, q⟩
/-- how its arguments bind (no defaults): h is «fun _ _ _ _ _ _ us hl => match us, hl with | [_, _], _ => rfl», one _ a parameter -/
theorem Fun.binds {x qual : Str} {st : Stmt} {f : Addr} {fd : FuncData} {ps : List Str} (F : Fun K x qual st f fd)
    (h : ∀ (kV doc pm : Value) (an : Option Addr) (cdv ct : Value) (us : List Value), us.length = ps.length → bindArgs (PySem.W.fnOf x qual (defArgs st) (defBody st) (defScope st) .none kV doc pm an cdv ct) ⟨us, []⟩ = pure (ps.zip us)) : Binds K fd ps [] := by
  obtain ⟨oc, od, kV, doc, pm, an, cdv, ct, osl, rfl, lk, hcd⟩ := F.ex
  exact .all (h kV doc pm an cdv ct)
theorem fun_mk {x qual : Str} {st : Stmt} {f : Addr} {oc : Value} {od an : Option Addr} {osl : Array (Option Value)} {kV doc pm cdv ct : Value} (l : K.lookup f = some ⟨oc, od, .func (PySem.W.fnOf x qual (defArgs st) (defBody st) (defScope st) .none kV doc pm an cdv ct), osl⟩)
    (c : PySem.W.codeIn K cdv qual = true) (k : PySem.W.keepIn K (.ref f) = true) : Fun K x qual st f (PySem.W.fnOf x qual (defArgs st) (defBody st) (defScope st) .none kV doc pm an cdv ct) := ⟨⟨oc, od, kV, doc, pm, an, cdv, ct, osl, rfl, l, c⟩, k⟩
end
/-! ### expressions in short: the name that stands in the i-th slot -/
section
variable {X : Cx}
theorem pv (i : Nat) {x : Str} {pos : Pos} (hN : X.N[i]? = some x := by rfl) (hv : Vis X.env.scope x := by first | exact Or.inl rfl | exact Or.inr (Or.inl rfl) | exact Or.inr (Or.inr rfl)) (hd : (x == ("__debug__" : Str)) = false := by decide)
    (hcd : (x == ("__classdict__" : Str)) = false := by decide) : PE X (.Name x pos) (tVar i) := pe_var hN hv hd hcd
end

/-! ### tests -/
theorem iteF {A B : Prop} (h : B) : if false = true then A else B := by
  rw [if_neg Bool.false_ne_true]
  exact h
theorem iteT {A B : Prop} (h : A) : if true = true then A else B := by
  rw [if_pos rfl]
  exact h
theorem ite2 {c A B : Prop} [Decidable c] (h1 : c → A) (h2 : ¬ c → B) : if c then A else B := by
  by_cases h : c
  · rw [if_pos h]
    exact h1 h
  · rw [if_neg h]
    exact h2 h
theorem iteNS {c A B : Prop} [Decidable c] (hc : c) (h : B) : if (!decide c) = true then A else B := by
  rw [decide_eq_true hc]
  exact iteF h

/-! ### heaps -/
/-- all that was tracked is as it was -/
noncomputable def Same (H H' : Hp) : Prop := ∀ b o, H b = some o → H' b = some o
theorem Same.refl (H : Hp) : Same H H := fun _ _ h => h
theorem Same.trans {H H1 H2 : Hp} (a : Same H H1) (b : Same H1 H2) : Same H H2 := fun c o h => b c o (a c o h)
theorem Same.seq {K : PySem.W.Frag} {H H' : Hp} {a : Addr} {xs : List V} (e : Same H H') (h : SqL K H a xs) : SqL K H' a xs := by
  rcases h with (h | ⟨o, h⟩) | h
  · exact .inl (.inl (e _ _ h))
  · exact .inl (.inr ⟨o, e _ _ h⟩)
  · exact .inr h

end L2
/-! A COMPREHENSION, over the hand layer: [elt for target in iter if test] -/
namespace L2
open PySem PySem.Spec PyProof.Rows

/-! ### the block's cells -/
noncomputable def clOf (cells : List (Str × Addr)) : List (Str × NameKind) → List (Str × Addr) → List (Str × Addr)
  | [], acc => acc
  | (n, k) :: r, acc => if k == .free then clOf cells r ((n, (cells.lookup n).getD 0) :: acc) else clOf cells r acc

theorem closureFor_eq {scope : Scope} {env : Env} (h : ∀ x ∈ scope.names, x.2 = .free → ∃ c, env.cells.lookup x.1 = some c) : closureFor scope env = pure (clOf env.cells scope.names []) := by
  unfold closureFor
  have key : ∀ (names : List (Str × NameKind)) (acc : List (Str × Addr)), (∀ x ∈ names, x.2 = .free → ∃ c, env.cells.lookup x.1 = some c) →
      (forIn names acc (fun (x : Str × NameKind) (r : List (Str × Addr)) => (if (x.2 == NameKind.free) = true then do let c ← cellOf env x.1; pure (ForInStep.yield ((x.1, c) :: r)) else pure (ForInStep.yield r) : Sem (ForInStep (List (Str × Addr)))))) = pure (clOf env.cells names acc) := by
    intro names
    induction names with
    | nil => intro acc _; rfl
    | cons x r ih =>
      intro acc hx
      obtain ⟨n, k⟩ := x
      rw [List.forIn_cons]
      unfold clOf
      by_cases hk : (k == NameKind.free) = true
      · have hk' : k = .free := by simpa using hk
        obtain ⟨c, hc⟩ := hx (n, k) List.mem_cons_self hk'
        have hc' : env.cells.lookup n = some c := hc
        simp only [hk, if_true]
        have e1 : cellOf env n = pure c := by unfold cellOf; rw [hc']
        rw [e1, hc']
        exact ih ((n, c) :: acc) fun y hy => hx y (List.mem_cons_of_mem _ hy)
      · simp only [hk, if_false, Bool.false_eq_true]
        exact ih acc fun y hy => hx y (List.mem_cons_of_mem _ hy)
  have e := key scope.names [] h
  first
    | exact e
    | (simp only [bind_pure]; exact e)

theorem clOf_some {cells : List (Str × Addr)} {x : Str} {c : Addr} : ∀ (names : List (Str × NameKind)) (acc : List (Str × Addr)), (clOf cells names acc).lookup x = some c → acc.lookup x = some c ∨ ((x, NameKind.free) ∈ names ∧ c = (cells.lookup x).getD 0)
  | [], _, h => .inl h
  | (n, k) :: r, acc, h => by
    unfold clOf at h
    by_cases hk : (k == NameKind.free) = true
    · have hk' : k = .free := by simpa using hk
      rw [if_pos hk] at h
      rcases clOf_some r _ h with z | ⟨z, e⟩
      · rw [List.lookup_cons] at z
        cases hb : x == n with
        | true =>
          rw [hb] at z
          have e' : x = n := by simpa using hb
          subst e'
          subst hk'
          exact .inr ⟨List.mem_cons_self, (Option.some.inj z).symm⟩
        | false => rw [hb] at z; exact .inl z
      · exact .inr ⟨List.mem_cons_of_mem _ z, e⟩
    · rw [if_neg hk] at h
      rcases clOf_some r _ h with z | ⟨z, e⟩
      · exact .inl z
      · exact .inr ⟨List.mem_cons_of_mem _ z, e⟩
theorem clOf_has {cells : List (Str × Addr)} {x : Str} : ∀ (names : List (Str × NameKind)) (acc : List (Str × Addr)), ((x, NameKind.free) ∈ names ∨ (acc.lookup x).isSome = true) → ((clOf cells names acc).lookup x).isSome = true
  | [], _, h => by
    rcases h with h | h
    · cases h
    · exact h
  | (n, k) :: r, acc, h => by
    unfold clOf
    by_cases hk : (k == NameKind.free) = true
    · rw [if_pos hk]
      refine clOf_has r _ ?_
      rcases h with h | h
      · rcases (List.mem_cons.mp h) with (e | h)
        · cases e
          exact .inr (by rw [List.lookup_cons]; simp)
        · exact .inl h
      · refine .inr ?_
        rw [List.lookup_cons]
        cases hb : x == n <;> simp [h]
    · rw [if_neg hk]
      refine clOf_has r _ ?_
      rcases h with h | h
      · rcases (List.mem_cons.mp h) with (e | h)
        · cases e
          exact absurd rfl hk
        · exact .inl h
      · exact .inr h
theorem cellsFrom_app : ∀ (names : List (Str × NameKind)) (n : Nat) (acc : List (Str × Addr)), cellsFrom n names acc = cellsFrom n names [] ++ acc
  | [], _, _ => rfl
  | (x, k) :: r, n, acc => by
    unfold cellsFrom
    by_cases hk : (k == NameKind.cell) = true
    · rw [if_pos hk, if_pos hk, cellsFrom_app r (n + 1) ((x, n) :: acc), cellsFrom_app r (n + 1) [(x, n)], List.append_assoc]
      rfl
    · rw [if_neg hk, if_neg hk]
      exact cellsFrom_app r n acc
theorem cellsFrom_mem : ∀ (names : List (Str × NameKind)) (n : Nat) (x : Str) (c : Addr), (x, c) ∈ cellsFrom n names [] → (x, NameKind.cell) ∈ names
  | [], _, _, _, h => nomatch h
  | (y, k) :: r, n, x, c, h => by
    unfold cellsFrom at h
    by_cases hk : (k == NameKind.cell) = true
    · have hk' : k = .cell := by simpa using hk
      rw [if_pos hk, cellsFrom_app] at h
      refine (List.mem_append.mp h).elim (fun h => ?_) fun h => ?_
      · exact List.mem_cons_of_mem _ (cellsFrom_mem r _ x c h)
      · have e : (x, c) = (y, n) := by simpa using h
        cases e
        subst hk'
        exact List.mem_cons_self
    · rw [if_neg hk] at h
      exact List.mem_cons_of_mem _ (cellsFrom_mem r n x c h)
theorem lookup_app {α : Type} {x : Str} : ∀ (a b : List (Str × α)), (a ++ b).lookup x = (a.lookup x).or (b.lookup x)
  | [], _ => by simp
  | (y, v) :: r, b => by
    rw [List.cons_append, List.lookup_cons, List.lookup_cons]
    cases hb : x == y with
    | true => simp
    | false => exact lookup_app r b
theorem lookup_of_mem {α : Type} {x : Str} {v : α} : ∀ {l : List (Str × α)}, (l.map (·.1)).Nodup → (x, v) ∈ l → l.lookup x = some v
  | [], _, h => by cases h
  | (y, w) :: r, nd, h => by
    rw [List.map_cons, List.nodup_cons] at nd
    rw [List.lookup_cons]
    cases h with
    | head => simp
    | tail _ h =>
      have hne : (x == y) = false := by
        apply beq_false_of_ne
        intro hxy
        exact nd.1 (List.mem_map.mpr ⟨(x, v), h, hxy⟩)
      rw [hne]
      exact lookup_of_mem nd.2 h

/-- a map that keeps every key -/
theorem lookup_keyed {α β : Type} {x : Str} (f : Str × α → Str × β) (hf : ∀ p, (f p).1 = p.1) : ∀ (l : List (Str × α)), (l.map f).lookup x = (l.lookup x).map fun k => (f (x, k)).2
  | [] => rfl
  | (n, k) :: r => by
    obtain ⟨m, z⟩ : ∃ z, f (n, k) = (n, z) := ⟨(f (n, k)).2, Prod.ext (hf _) rfl⟩
    rw [List.map_cons, z, List.lookup_cons, List.lookup_cons]
    cases hx : x == n with
    | false => exact lookup_keyed f hf r
    | true => cases (beq_iff_eq.mp hx); simp [z]
/-- the names of a block that are relabelled -/
theorem relabel_lookup {env : Env} {x : Str} (names : List (Str × NameKind)) : (names.map fun (n, k) => if (k == NameKind.free && env.scope.kind == .function && env.kindOf n == some .cell) then (n, NameKind.cell) else (n, k)).lookup x =
    (names.lookup x).map fun k => if (k == NameKind.free && env.scope.kind == .function && env.kindOf x == some .cell) = true then NameKind.cell else k := by
  rw [lookup_keyed _ (fun p => by dsimp only; split <;> rfl)]
  congr 1
  funext k
  dsimp only
  split <;> rfl

/-- the block's own namespace and cells -/
theorem newEnv_blk {M : Model} {A : Around} {E : Value → Shared → Prop} {s : Shared} {scope : Scope} {env : Env} {cl : List (Str × Addr)} {Q : Env → Shared → Prop}
    (q : Q (newEnv scope s.heap.objs.size env.globals (cellsFrom (s.heap.objs.size + 1) scope.names cl) env.qual none .none (some env) builtinsNs)
      { s with heap := pushCells (s.heap.push { cls := .type "dict", data := .dict #[] }) scope.names }) :
    wpAny M A (newFunctionEnv scope env.globals cl [] env.qual none .none (some env)) Q E s := by
  have z : (s.heap.push { cls := .type "dict", data := .dict #[] }).objs.size = s.heap.objs.size + 1 := Heap.size_push ..
  rw [← z] at q
  unfold newFunctionEnv
  have cells := wpAny_layCells (M := M) (A := A) (E := E) (fun x r => if (x.2 == NameKind.cell) = true then (do let c ← alloc { cls := .type "cell", data := .cell none }; pure (ForInStep.yield ((x.1, c) :: r))) else pure (ForInStep.yield r)) (fun _ _ _ => rfl) scope.names cl { s with heap := s.heap.push { cls := .type "dict", data := .dict #[] } }
  exact wpAny_bind (wpAny_alloc (wpAny_bind (cells _ (wpAny_bind (wpAny_pure (wpAny_pure q))))))
end L2
namespace L2
open PySem PySem.Spec PyProof.Rows

/-- the context of a comprehension's block within X: no exception leaves it -/
noncomputable def blk (X : Cx) (N : List Str) (scope : Scope) (cs : List (Str × Addr)) (C : Addr) (s₀ : Shared) (H₀ : Hp) (ex : List Addr) : Cx where
  prog := X.prog
  w := X.w
  K := X.K
  mg := X.mg
  base := X.base
  A := X.A
  N := N
  s₀ := s₀
  H₀ := H₀
  env := compEnvC scope cs C X.env
  outer := X.stack
  stack := X.stack
  ex := ex
  fn := fun x => scope.names.lookup x == some .cell
  calm := X.calm
  pn := []
  xe := fun _ _ => False

/-- what of the block's scope is read off the text: oN, osc the names and the scope around; own names first, then the captured ones -/
structure BlkScope (oN : List Str) (osc : Scope) (N : List Str) (own : Nat) (caps : List Nat) (scope : Scope) : Prop where
  kind : scope.kind = .function
  nd : N.Nodup
  ndn : (scope.names.map (·.1)).Nodup
  free : ∀ x ∈ scope.names, x.2 = .free → osc.names.lookup x.1 = some .cell ∨ osc.names.lookup x.1 = some .free
  len : N.length = own + caps.length
  cap : caps.map (fun i => oN[i]?) = (N.drop own).map some
  capf : ∀ x ∈ N.drop own, scope.names.lookup x = some .free

noncomputable def blkStart (own : Nat) (caps : List Nat) (σ : St) : St := List.replicate own none ++ caps.map fun i => (σ[i]?).join
noncomputable abbrev blkCells (X : Cx) (scope : Scope) (C : Addr) : List (Str × Addr) := cellsFrom (C + 1) scope.names (clOf X.env.cells scope.names [])
noncomputable abbrev blkHeap (h : Heap) (scope : Scope) : Heap := pushCells (h.push { cls := .type "dict", data := .dict #[] }) scope.names

section
variable {X : Cx} {pins : List (Addr × Obj)} {σ : St} {H : Hp} {s : Shared} {N : List Str} {own : Nat} {caps : List Nat} {scope : Scope} {ex : List Addr}

theorem blk_look (S : BlkScope X.N X.env.scope N own caps scope) (I : Inv X pins σ H s) (n : Nat) {x : Str} {c : Addr} (h : (cellsFrom n scope.names (clOf X.env.cells scope.names [])).lookup x = some c) :
    (x, c) ∈ cellsFrom n scope.names [] ∨ ((x, NameKind.free) ∈ scope.names ∧ X.env.cells.lookup x = some c) := by
  rw [cellsFrom_app, lookup_app] at h
  cases q : (cellsFrom n scope.names []).lookup x with
  | some c' =>
    rw [q] at h
    have e : c' = c := by simpa using h
    subst e
    exact .inl (PySem.mem_of_lookup q)
  | none =>
    rw [q] at h
    have h' : (clOf X.env.cells scope.names []).lookup x = some c := by simpa using h
    rcases clOf_some _ _ h' with z | ⟨z, e⟩
    · cases z
    · refine .inr ⟨z, ?_⟩
      obtain ⟨c', hc'⟩ := I.ok.has x (S.free (x, .free) z rfl)
      rw [hc'] at e ⊢
      rw [e]; rfl
theorem blk_capt (S : BlkScope X.N X.env.scope N own caps scope) (I : Inv X pins σ H s) (n : Nat) {x : Str} (hx : scope.names.lookup x = some .free) :
    ∃ c, X.env.cells.lookup x = some c ∧ (cellsFrom n scope.names (clOf X.env.cells scope.names [])).lookup x = some c := by
  have hm : (x, NameKind.free) ∈ scope.names := PySem.mem_of_lookup hx
  obtain ⟨c, hc⟩ := I.ok.has x (S.free (x, .free) hm rfl)
  refine ⟨c, hc, ?_⟩
  obtain ⟨c', hc'⟩ := Option.isSome_iff_exists.mp (clOf_has (cells := X.env.cells) (x := x) scope.names [] (.inl hm))
  have e0 : (cellsFrom n scope.names []).lookup x = none := by
    cases q : (cellsFrom n scope.names []).lookup x with
    | none => rfl
    | some d =>
      have := lookup_of_mem S.ndn (cellsFrom_mem _ _ _ _ (PySem.mem_of_lookup q))
      rw [hx] at this
      cases this
  rw [cellsFrom_app, lookup_app, e0, hc']
  rcases clOf_some _ _ hc' with z | ⟨_, e⟩
  · cases z
  · rw [hc] at e
    rw [e]; rfl

theorem inv_blk (S : BlkScope X.N X.env.scope N own caps scope) (I : Inv X pins σ H s) (hex : ∀ b ∈ ex, FpOk X pins H b ∧ b < s.heap.objs.size) :
    Inv (blk X N scope (blkCells X scope s.heap.objs.size) s.heap.objs.size s H ex) [] (blkStart own caps σ) H { s with heap := blkHeap s.heap scope } := by
  have k1 : ∀ b o, s.heap.get? b = some o → (blkHeap s.heap scope).get? b = some o := fun b o e => pushCells_keeps _ _ b o (Heap.get?_push_of_some _ e)
  have ok := cellsFrom_ok scope.names (s.heap.push { cls := .type "dict", data := .dict #[] }) (s.heap.objs.size + 1) [] ⟨fun _ _ hm => (nomatch hm), List.Pairwise.nil⟩ (by rw [Heap.size_push]; exact Nat.le_refl _)
  rw [Heap.size_push] at ok
  have oldc : ∀ x c, X.env.cells.lookup x = some c → c < s.heap.objs.size := fun x c e => by
    obtain ⟨v, q⟩ := I.cell x c e
    exact q.lt
  have kof : ∀ x, (compEnvC scope (blkCells X scope s.heap.objs.size) s.heap.objs.size X.env).kindOf x = (scope.names.lookup x).map fun k => if (k == NameKind.free && X.env.scope.kind == .function && X.env.kindOf x == some .cell) = true then NameKind.cell else k :=
    fun x => relabel_lookup (env := X.env) scope.names
  have kk : ∀ x, (compEnvC scope (blkCells X scope s.heap.objs.size) s.heap.objs.size X.env).kindOf x = some .cell ∨ (compEnvC scope (blkCells X scope s.heap.objs.size) s.heap.objs.size X.env).kindOf x = some .free →
      scope.names.lookup x = some .cell ∨ scope.names.lookup x = some .free := fun x h => by
    rw [kof] at h
    cases q : scope.names.lookup x with
    | none => rw [q] at h; rcases h with h | h <;> cases h
    | some k =>
      rw [q] at h
      by_cases hf : k = .free
      · exact .inr (by rw [hf])
      · have hb : (k == NameKind.free) = false := by simpa using hf
        have e : (some k).map (fun k => if (k == NameKind.free && X.env.scope.kind == .function && X.env.kindOf x == some .cell) = true then NameKind.cell else k) = some k := by
          simp [hf]
        rw [e] at h
        exact h
  refine ⟨⟨I.ok.mod, S.kind, I.ok.glob, I.ok.blt, Nat.le_refl _, fun x y c h1 h2 => ?_, fun x hx => ?_, fun x c hf h => ?_, I.ok.hd, I.ok.frames, .inl rfl, fun b hb => ⟨?_, fun x c h => ?_⟩, fun b o e => ?_, Nat.le_trans I.ok.bsz I.sz, fun b o e hb => ?_, fun b hb hf => ?_, I.stack, I.stkFree⟩,
    rfl, I.bare, Un.kept k1, ⟨fun _ => none, ?_, fun i x v h1 h2 h3 => ?_⟩, fun x c h => ?_, I.hok.fresh (Nat.le_refl _), fun x c h => ?_, fun p hp => absurd (show p ∈ ([] : List (Addr × Obj)) from hp) (by simp), I.hok.kept k1, ?_⟩
  · -- inj
    rcases blk_look S I _ h1 with a1 | ⟨_, a1⟩ <;> rcases blk_look S I _ h2 with a2 | ⟨_, a2⟩
    · exact name_of_addr ok.apart a1 a2
    · exact absurd (oldc _ _ a2) (Nat.not_lt.mpr (Nat.le_of_succ_le (ok.empty _ _ a1).2))
    · exact absurd (oldc _ _ a1) (Nat.not_lt.mpr (Nat.le_of_succ_le (ok.empty _ _ a2).2))
    · exact I.ok.inj _ _ _ a1 a2
  · -- has
    rcases kk x hx with q | q
    · exact Option.isSome_iff_exists.mp (PySem.W.cellsFrom_some scope.names _ _ (.inl q))
    · obtain ⟨c, _, hc⟩ := blk_capt S I (s.heap.objs.size + 1) q
      exact ⟨c, hc⟩
  · -- cab
    have hf' : scope.names.lookup x = some .cell := by simpa [blk] using hf
    rcases blk_look S I _ h with a | ⟨a, _⟩
    · exact Nat.le_of_succ_le (ok.empty _ _ a).2
    · rw [lookup_of_mem S.ndn a] at hf'
      cases hf'
  · exact Nat.ne_of_lt (hex b hb).2
  · rcases blk_look S I _ h with a | ⟨_, a⟩
    · exact Nat.ne_of_gt (Nat.lt_of_lt_of_le (hex b hb).2 (Nat.le_of_succ_le (ok.empty _ _ a).2))
    · exact (hex b hb).1.2.2.2.2.1 x c a
  · exact I.bs b o e
  · rcases (hex b hb).1.2.2.2.1 with z | z
    · exact I.ok.noex b o e z
    · exact absurd (Nat.lt_of_lt_of_le (Heap.lt_size e) (Nat.le_trans I.ok.bsz z)) (Nat.lt_irrefl _)
  · rcases List.mem_cons.mp (I.stkSub b hf) with z | z
    · exact (hex b hb).1.2.1 z
    · exact (hex b hb).1.2.2.1 z
  · exact (Heap.Ns.new s.heap (.type "dict")).keeps (pushCells_keeps _ _)
  · -- the captured names
    have hi : own ≤ i := by
      refine Nat.le_of_not_lt fun hlt => ?_
      unfold blkStart at h2
      rw [List.getElem?_append_left (by simpa using hlt), List.getElem?_replicate] at h2
      split at h2 <;> cases h2
    obtain ⟨j, rfl⟩ : ∃ j, i = own + j := ⟨i - own, by omega⟩
    unfold blkStart at h2
    rw [List.getElem?_append_right (by simp), List.length_replicate, Nat.add_sub_cancel_left, List.getElem?_map] at h2
    cases hc : caps[j]? with
    | none => rw [hc] at h2; cases h2
    | some ci =>
      rw [hc] at h2
      have hσ : σ[ci]? = some (some v) := by
        have z : (σ[ci]?).join = some v := by simpa using h2
        cases q : σ[ci]? with
        | none => rw [q] at z; cases z
        | some o => rw [q] at z; have z' : o = some v := z; rw [z']
      have hNx : (N.drop own)[j]? = some x := by rw [List.getElem?_drop]; exact h1
      have hX : X.N[ci]? = some x := by
        have e := congrArg (fun l => l[j]?) S.cap
        simp only [List.getElem?_map, hc, hNx, Option.map_some] at e
        exact Option.some.inj e
      have hfr := S.capf x (List.mem_of_getElem? hNx)
      obtain ⟨c, hc1, hc2⟩ := blk_capt S I (s.heap.objs.size + 1) hfr
      obtain ⟨m, hn, hl⟩ := I.loc
      have hk := S.free (x, .free) (PySem.mem_of_lookup hfr) rfl
      have hvis : Vis X.env.scope x := .inr hk
      obtain ⟨u, ru, lk⟩ := hl ci x v hX hσ hvis
      refine ⟨u, ru, ?_⟩
      rcases lk with ⟨z, _⟩ | ⟨_, c', e', z⟩
      · have z' : X.env.scope.names.lookup x = some .local := z
        rcases hk with hk | hk
        · have hk' : X.env.scope.names.lookup x = some .cell := hk
          rw [z'] at hk'; cases hk'
        · have hk' : X.env.scope.names.lookup x = some .free := hk
          rw [z'] at hk'; cases hk'
      · rw [hc1] at e'
        cases e'
        refine .inr ⟨?_, c, hc2, z.keeps k1⟩
        show (compEnvC scope _ _ X.env).kindOf x = _ ∨ (compEnvC scope _ _ X.env).kindOf x = _
        rw [kof, hfr]
        show some (if _ then NameKind.cell else NameKind.free) = _ ∨ some (if _ then NameKind.cell else NameKind.free) = _
        split
        · exact .inl rfl
        · exact .inr rfl
  · rcases blk_look S I _ h with a | ⟨_, a⟩
    · exact ⟨_, (ok.empty _ _ a).1⟩
    · obtain ⟨v, q⟩ := I.cell x c a
      exact ⟨v, q.keeps k1⟩
  · rcases blk_look S I _ h with a | ⟨_, a⟩
    · exact I.hok.fresh (Nat.le_of_succ_le (ok.empty _ _ a).2)
    · exact I.freeC x c a
  · unfold blkStart
    show _ = N.length
    rw [S.len, List.length_append, List.length_replicate, List.length_map]
end
end L2
namespace L2
open PySem PySem.Spec PyProof.Rows

/-- the tests of a comprehension -/
noncomputable def PTs (X : Cx) (ifs : List Expr) (t : TT) : Prop :=
  ∀ (pins : List (Addr × Obj)) (s : Shared) (σ : St) (H : Hp) (Q : Bool → Hp → Prop), Inv X pins σ H s → t σ H Q →
    wpAny (model X.prog X.w) X.A (forIn ifs true fun c r => if r = true then do let ok ← isTrue c X.env (eval c X.env); pure (ForInStep.yield ok) else pure (ForInStep.yield r)) (TP X pins σ Q) X.xe s
noncomputable def tTrue : TT := fun _ H Q => Q true H
theorem pts_nil {X : Cx} : PTs X [] tTrue := fun _ _ _ H _ I h => wpAny_tests_nil ⟨H, I, h⟩
theorem pts_one {X : Cx} {c : Expr} {t : TT} (h : PT X c t) : PTs X [c] t := fun pins s σ H Q I q => wpAny_tests_one (h pins s σ H Q I q)

/-- one turn of a comprehension's loop: the draw, the hand-over, the store, the tests, the element, the append; at the end 'fin', behind a turn 'more' -/
noncomputable def TurnWp (M : Model) (A : Around) (env : Env) (it acc : Value) (tg elt : Expr) (ifs : List Expr) (E : Value → Shared → Prop) (fin more : Shared → Prop) : Shared → Prop :=
  let kept : Shared → Prop := fun u => wpAny M A (eval elt env) (fun x u5 => wpAny M A (call (.builtin "list.append") [acc, x]) (fun _ u6 => more u6) E u5) E u
  let tested : Shared → Prop := fun u => wpAny M A (forIn ifs true fun c r => if r = true then (do let ok ← isTrue c env (eval c env); pure (ForInStep.yield ok)) else pure (ForInStep.yield r)) (fun ok u4 => if ok = true then kept u4 else more u4) E u
  let taken : Value → Shared → Prop := fun v u => wpAny M A (letOwnedTupleGo tg it v) (fun _ u2 => wpAny M A (assign tg env v) (fun _ u3 => tested u3) E u2) E u
  fun u => wpAny M A (pyNext it) (fun o u1 => match o with | none => fin u1 | some v => taken v u1) E u
theorem loop_by {prog : Program} {w : World} {A : Around} {R : Result → Shared → Prop} {s : Shared} {elt tg iter : Expr} {ifs : List Expr} {scope : Scope} {pos : Pos} {it acc : Value} {env : Env} (I : Nat → Shared → Prop) (n : Nat) (start : I n s)
    (turn : ∀ m u, I m u → TurnWp (model prog w) A env it acc tg elt ifs (notedBy (model prog w) A env fun e v => R (.error e) v) (R (.ok .next)) (fun v => ∃ j, j < m ∧ I j v) u) :
    codeAny (model prog w) A (.compLoop (.ListComp elt [⟨tg, iter, ifs, 0⟩] scope pos) 0 it acc env) R s := by
  refine codeAny_loop rfl I (fun m u hu => wpAny_noted (m := compTurn (.ListComp elt [⟨tg, iter, ifs, 0⟩] scope pos) 0 it acc env) ?_) n start
  have go := turn m u hu
  unfold TurnWp at go
  rw [compTurn_list]
  refine wpAny_bind (wpAny_standAt (wpAny_bind (thn go fun o u1 b1 => ?_)))
  match o, b1 with
  | none, b1 => exact wpAny_pure b1
  | some v, b1 =>
    refine wpAny_bind (thn b1 fun _ u2 b2 => wpAny_bind (thn b2 fun _ u3 b3 => wpAny_bind (thn b3 fun ok u4 b4 => ?_)))
    match ok, b4 with
    | false, b4 => exact wpAny_pure ⟨rfl, b4⟩
    | true, b4 => exact wpAny_bind (wpAny_bind (thn b4 fun x u5 b5 => wpAny_bind (thn b5 fun _ u6 b6 => wpAny_pure (wpAny_pure ⟨rfl, b6⟩))))

/-- a comprehension's reading: own names first, then the captured slots; W: the invariant by the turn, a measure, the block's names, the heap, the items so far -/
noncomputable def CompW (J : It) (g : TG) (tt : TT) (te : TE) (Q : VK) (W : Nat → Nat → St → Hp → List V → Prop) : Prop :=
  ∀ i m σ' H' ys, W i m σ' H' ys →
    (J.stop i H' ∧ ys.length ≤ sizeLine ∧ ∀ p, H' p = none → Q (.ref p) (upd H' p (.lst ys))) ∨
    (J.go i H' ∧ ys.length < sizeLine ∧ ∃ N : St → Hp → List V → Prop, (∀ σ2 H2 zs, N σ2 H2 zs → ∃ m', m' < m ∧ W (i + 1) m' σ2 H2 zs) ∧
      ∀ x H2, J.yld i H' x H2 → g x σ' H2 fun σ3 H3 => tt σ3 H3 fun b H4 => if b = true then te σ3 H4 fun v H5 => N σ3 H5 (ys ++ [v]) else N σ3 H4 ys)
noncomputable def tComp (wi : TI) (own : Nat) (caps : List Nat) (g : TG) (tt : TT) (te : TE) : TE := fun σ H Q => wi σ H fun J H1 =>
  ∃ W : Nat → Nat → St → Hp → List V → Prop, (∃ m, W 0 m (blkStart own caps σ) H1 []) ∧ CompW J g tt te Q W

section
variable {X : Cx} {tg elt iter : Expr} {ifs : List Expr} {scope : Scope} {pos : Pos} {N : List Str} {own : Nat} {caps : List Nat} {wi : TI} {g : TG} {tt : TT} {te : TE}

theorem comp_run {pins : List (Addr × Obj)} {σ : St} {H2 : Hp} {s2 : Shared} {J : It} {fp : List Addr} {it : Addr} {tn : Nat → Heap → Prop} {Q : VK} {W : Nat → Nat → St → Hp → List V → Prop} {m0 : Nat}
    {E : Value → Shared → Prop} {R : Value → Addr → Result → Shared → Prop} (hc : X.calm = true) (S : BlkScope X.N X.env.scope N own caps scope)
    (hg : ∀ cs C s₀ H₀ ex, PG (blk X N scope cs C s₀ H₀ ex) tg g) (ht : ∀ cs C s₀ H₀ ex, PTs (blk X N scope cs C s₀ H₀ ex) ifs tt) (he : ∀ cs C s₀ H₀ ex, PE (blk X N scope cs C s₀ H₀ ex) elt te)
    (I2 : Inv X pins σ H2 s2) (T : Turn X.prog X.w X.K tg J fp it tn) (st2 : tn 0 s2.heap) (f2 : ∀ b ∈ fp, FpOk X pins H2 b)
    (w0 : W 0 m0 (blkStart own caps σ) H2 []) (turn : CompW J g tt te Q W)
    (hpost : ∀ D C s' H' ys, Inv X pins σ (upd H' D (.lst ys)) s' → FpOk X pins (upd H' D (.lst ys)) C → (∃ m, s'.heap.Ns C m) → Q (.ref D) (upd H' D (.lst ys)) → R (.ref D) C (.ok .next) s') :
    wpAny (model X.prog X.w) X.A (newList []) (fun acc s₃ => wpAny (model X.prog X.w) X.A (newFunctionEnv scope X.env.globals (clOf X.env.cells scope.names []) [] X.env.qual none .none (some X.env)) (fun cenv s₄ =>
      codeAny (model X.prog X.w) X.A (.compStart (.ListComp elt [⟨tg, iter, ifs, 0⟩] scope pos) 0 (.ref it) acc { cenv with scope := relabel scope X.env }) (R acc cenv.locals) s₄) E s₃) E s2 := by
  refine wpAny_newObj_type (newEnv_blk ?_)
  dsimp only
  generalize hh3 : s2.heap.push { cls := .type "list", dict := none, data := .seq ([] : List Value).toArray } = h3
  have hC : h3.objs.size = s2.heap.objs.size + 1 := by rw [← hh3, Heap.size_push]
  have up3 : ∀ b o, s2.heap.get? b = some o → h3.get? b = some o := fun b o e => hh3 ▸ Heap.get?_push_of_some _ e
  have I3 : Inv X pins σ H2 { s2 with heap := h3 } := I2.kept (t' := s2.toks) up3
  have gD : h3.get? s2.heap.objs.size = some { cls := .type "list", data := .seq ([] : List Value).toArray } := hh3 ▸ Heap.get?_push_size _ rfl
  have fD : FpOk X pins H2 s2.heap.objs.size := I2.fpOk (Nat.le_refl _) (I2.hok.fresh (Nat.le_refl _))
  have fplt : ∀ b ∈ fp, b < s2.heap.objs.size := fun b hb => by
    obtain ⟨o, e, _⟩ := T.obj 0 _ st2 b hb
    exact Heap.lt_size e
  have hex : ∀ b ∈ s2.heap.objs.size :: fp, FpOk X pins H2 b ∧ b < ({ s2 with heap := h3 } : Shared).heap.objs.size := fun b hb => by
    show _ ∧ b < h3.objs.size
    rw [hC]
    cases hb with
    | head => exact ⟨fD, Nat.lt_succ_self _⟩
    | tail _ hb => exact ⟨f2 b hb, Nat.lt_succ_of_lt (fplt b hb)⟩
  have IB := inv_blk S I3 hex
  -- the block's context
  generalize hY : blk X N scope (blkCells X scope h3.objs.size) h3.objs.size { s2 with heap := h3 } H2 (s2.heap.objs.size :: fp) = Y at IB
  have yP : Y.prog = X.prog := by rw [← hY]; rfl
  have yW : Y.w = X.w := by rw [← hY]; rfl
  have yK : Y.K = X.K := by rw [← hY]; rfl
  have yc : Y.calm = true := by rw [← hY]; exact hc
  have yA : Y.A = X.A := by rw [← hY]; rfl
  have yx : Y.xe = fun _ _ => False := by rw [← hY]; rfl
  have yL : Y.env.locals = h3.objs.size := by rw [← hY]; rfl
  have yex : Y.ex = s2.heap.objs.size :: fp := by rw [← hY]; rfl
  have yfs : Y.fs = frs X.stack := by rw [← hY]; rfl
  have ypn : Y.pn = [] := by rw [← hY]; rfl
  have yenv : Y.env = compEnvC scope (blkCells X scope h3.objs.size) h3.objs.size X.env := by rw [← hY]; rfl
  have yg : PG Y tg g := by rw [← hY]; exact hg _ _ _ _ _
  have yt : PTs Y ifs tt := by rw [← hY]; exact ht _ _ _ _ _
  have ye : PE Y elt te := by rw [← hY]; exact he _ _ _ _ _
  have yb : ∀ {σ' : St} {H' : Hp} {s' : Shared} {pn : List (Addr × Obj)}, Inv Y pn σ' H' s' → Un (frs X.stack) (s2.heap.objs.size :: fp) H2 H' h3 s'.heap := fun {σ' H' s' pn} J => by
    have b := J.base
    rw [yfs, yex] at b
    have e1 : Y.H₀ = H2 := by rw [← hY]; rfl
    have e2 : Y.s₀.heap = h3 := by rw [← hY]; rfl
    rw [e1, e2] at b
    exact b
  have yos : ∀ {σ' : St} {H' : Hp} {s' : Shared} {pn : List (Addr × Obj)}, Inv Y pn σ' H' s' → s'.os = s2.os := fun {σ' H' s' pn} J => by
    have e : Y.s₀.os = s2.os := by rw [← hY]; rfl
    exact J.os.trans e
  have DL : s2.heap.objs.size ≠ Y.env.locals := by rw [yL, hC]; exact Nat.ne_of_lt (Nat.lt_succ_self _)
  have Dfp : s2.heap.objs.size ∉ fp := fun z => Nat.lt_irrefl _ (fplt _ z)
  have exY : ∀ b ∈ s2.heap.objs.size :: fp, b ∈ Y.ex := fun b hb => by rw [yex]; exact hb
  have fpY : ∀ {pn : List (Addr × Obj)} {H' : Hp}, (∀ p ∈ pn, p.1 ∉ fp) → (∀ b ∈ fp, H' b = none) → ∀ b ∈ fp, FpOk Y pn H' b := fun {pn H'} hp hn b hb => by
    have hb' := exY b (List.mem_cons_of_mem _ hb)
    refine ⟨hn b hb, (IB.ok.exf b hb').1, IB.ok.exfs b hb', .inl hb', (IB.ok.exf b hb').2, fun p hp' z => ?_⟩
    rw [ypn, List.nil_append] at hp'
    exact hp p hp' (z ▸ hb)
  have up4 : ∀ b o, h3.get? b = some o → (blkHeap h3 scope).get? b = some o := fun b o e => pushCells_keeps _ _ b o (Heap.get?_push_of_some _ e)
  have st4 : tn 0 (blkHeap h3 scope) := T.keep 0 s2.heap _ st2 fun b _ o e => up4 b o (up3 b o e)
  have gD4 := up4 _ _ gD
  have loop : codeAny (model X.prog X.w) X.A (.compLoop (.ListComp elt [⟨tg, iter, ifs, 0⟩] scope pos) 0 (.ref it) (.ref s2.heap.objs.size) (compEnvC scope (blkCells X scope h3.objs.size) h3.objs.size X.env)) (R (.ref s2.heap.objs.size) h3.objs.size)
      { s2 with heap := blkHeap h3 scope } := by
    refine loop_by (fun n s' => ∃ i σ' H' ys its cap, Inv Y [] σ' H' s' ∧ tn i s'.heap ∧ (∀ b ∈ fp, H' b = none) ∧ H' s2.heap.objs.size = none ∧
      s'.heap.get? s2.heap.objs.size = some { cls := .type "list", data := .seq (its : List Value).toArray cap } ∧ Vals ys its ∧ W i n σ' H' ys) m0
      ⟨0, _, H2, [], [], _, IB, st4, fun b hb => (f2 b hb).1, fD.1, gD4, .nil, w0⟩ ?_
    rintro n s5 ⟨i, σ5, H5, ys, its, cap, I5, t5, fr5, nD5, gD5, rv5, w5⟩
    unfold TurnWp
    dsimp only
    have pin5 : Inv Y [(s2.heap.objs.size, { cls := .type "list", data := .seq its.toArray cap })] σ5 H5 s5 := I5.pins_of fun p hp => by
      have e := List.mem_singleton.mp hp
      subst e
      exact ⟨gD5, nD5, DL, IB.ok.exfs _ (exY _ List.mem_cons_self), fun v z => by cases z⟩
    have pno : ∀ p ∈ [((s2.heap.objs.size : Addr), ({ cls := .type "list", data := .seq its.toArray cap } : Obj))], p.1 ∉ fp := fun p hp => by
      have e := List.mem_singleton.mp hp
      subst e
      exact Dfp
    have fpo : ∀ {H' : Hp}, (∀ b ∈ fp, H' b = none) → ∀ b ∈ fp, FpOk Y [((s2.heap.objs.size : Addr), ({ cls := .type "list", data := .seq its.toArray cap } : Obj))] H' b := fun hn => fpY pno hn
    rcases turn i n σ5 H5 ys w5 with ⟨stop, hz, qn⟩ | ⟨go, hz, NN, hNN, step⟩
    · rw [← yA]
      refine wpAny_mono (T.done Y yP yW yK yc i _ s5 σ5 H5 (fun _ _ => False) pin5 (fpo fr5) t5 stop) (fun r s6 h6 => ?_) fun _ _ f => f.elim
      obtain ⟨hr, I6⟩ := h6
      subst hr
      have hp6 := I6.pin (s2.heap.objs.size, _) (List.mem_append_right _ (List.mem_singleton.mpr rfl))
      have nD : H2 s2.heap.objs.size = none := fD.1
      have base := yb I6
      have un : Un (frs X.stack) (s2.heap.objs.size :: fp) H2 (upd H5 s2.heap.objs.size (.lst ys)) h3 s6.heap := ⟨base.keep, base.slot, fun b o e n hx => by
          rw [upd_ne (fun z => hx (by rw [z]; exact List.mem_cons_self))]; exact base.free b o e n hx, base.there,
        fun b xs e => by rw [upd_ne (ne_of_none e nD)]; exact base.tups b xs e, fun b o u e => by rw [upd_ne (ne_of_none e nD)]; exact base.frzs b o u e, fun b ps e => by
          obtain ⟨more, q⟩ := base.tbls b ps e
          exact ⟨more, by rw [upd_ne (ne_of_none e nD)]; exact q⟩⟩
      have hok : HOk X.prog X.w (upd H5 s2.heap.objs.size (.lst ys)) s6.heap := fun b u e => by
        have hok6 := I6.hok
        rw [yP, yW] at hok6
        by_cases hb : b = s2.heap.objs.size
        · subst hb
          rw [upd_same] at e
          cases e
          exact ⟨hz, its, cap, rv5, hp6.1⟩
        · rw [upd_ne hb] at e
          exact (hok6 b u e).stay (fun c v _ q => q) (fun c q => by rw [upd_ne (ne_of_none q hp6.2.1)]; exact q) fun c xs q => by rw [upd_ne (ne_of_none q hp6.2.1)]; exact q
      have I7 : Inv X pins σ (upd H5 s2.heap.objs.size (.lst ys)) s6 := I3.call' (yos I6) un hok I6.bare fun b hb => by
        have z := (hex b hb).1
        exact ⟨z.2.2.2.1, z.2.1, z.2.2.2.2.1, z.2.2.2.2.2⟩
      have hCn : H5 h3.objs.size = none := by rw [← yL]; exact I6.free
      have CD : h3.objs.size ≠ s2.heap.objs.size := by rw [hC]; exact Nat.succ_ne_self _
      refine hpost _ _ s6 H5 ys I7 (I3.fpOk (Nat.le_refl _) (by rw [upd_ne CD]; exact hCn)) ?_ (qn _ nD5)
      obtain ⟨m, hn, _⟩ := I6.loc
      rw [yL] at hn
      exact ⟨m, hn⟩
    · rw [← yA]
      have lift : ∀ {α : Type} {t : Sem α} {Q1 Q2 : α → Shared → Prop} {s' : Shared}, wpAny (model X.prog X.w) Y.A t Q1 Y.xe s' → (∀ a s'', Q1 a s'' → Q2 a s'') →
          wpAny (model X.prog X.w) Y.A t Q2 (notedBy (model X.prog X.w) Y.A (compEnvC scope (blkCells X scope h3.objs.size) h3.objs.size X.env) fun e s' => R (.ref s2.heap.objs.size) h3.objs.size (.error e) s') s' := fun h k =>
        wpAny_mono h k fun _ _ f => by rw [yx] at f; exact f.elim
      refine lift (T.item Y yP yW yK yc i _ s5 σ5 H5 Y.xe pin5 (fpo fr5) t5 go) fun r s6 h6 => ?_
      obtain ⟨u, hr, h6⟩ := h6
      subst hr
      refine lift h6 fun _ s7 h7 => ?_
      obtain ⟨x, H7, I7, r7, y7, t7, fr7⟩ := h7
      have I7' := I7.pinned (fpo fr7) (T.obj _ _ t7)
      have ha := yg _ s7 σ5 H7 x u _ I7' r7 (step x H7 y7)
      rw [yP, yW, yenv] at ha
      refine lift ha fun _ s8 h8 => ?_
      obtain ⟨σ8, H8, I8, q8⟩ := h8
      have hb := yt _ s8 σ8 H8 _ I8 q8
      rw [yP, yW, yenv] at hb
      refine lift hb fun ok s9 h9 => ?_
      obtain ⟨H9, I9, q9⟩ := h9
      -- what the pins tell
      have after : ∀ {σ' : St} {H' : Hp} {s' : Shared}, Inv Y ([((s2.heap.objs.size : Addr), ({ cls := .type "list", data := .seq its.toArray cap } : Obj))] ++ pinsAt fp s7.heap) σ' H' s' →
          Inv Y [] σ' H' s' ∧ tn (i + 1) s'.heap ∧ (∀ b ∈ fp, H' b = none) ∧ H' s2.heap.objs.size = none ∧ s'.heap.get? s2.heap.objs.size = some { cls := .type "list", data := .seq its.toArray cap } := fun {σ' H' s'} J => by
        have pD := J.pin (s2.heap.objs.size, _) (List.mem_append_right _ (List.mem_append_left _ (List.mem_singleton.mpr rfl)))
        refine ⟨J.pins_of (fun p hp => by cases hp), T.keep _ _ _ t7 fun b hb o e => (J.pin (b, o) (List.mem_append_right _ (List.mem_append_right _ (mem_pinsAt hb e)))).1, fun b hb => ?_, pD.2.1, pD.1⟩
        obtain ⟨o, e, d⟩ := T.obj _ _ t7 b hb
        exact (J.pin (b, o) (List.mem_append_right _ (List.mem_append_right _ (mem_pinsAt hb e)))).2.1
      cases ok with
      | false =>
        rw [if_neg (by decide)] at q9
        rw [if_neg (by decide)]
        obtain ⟨m', hm, w9⟩ := hNN _ _ _ q9
        obtain ⟨a1, a2, a3, a4, a5⟩ := after I9
        exact ⟨m', hm, i + 1, σ8, H9, ys, its, cap, a1, a2, a3, a4, a5, rv5, w9⟩
      | true =>
        rw [if_pos rfl] at q9
        rw [if_pos rfl]
        have hd := ye _ s9 σ8 H9 _ I9 q9
        rw [yP, yW, yenv] at hd
        refine lift hd fun v s10 h10 => ?_
        obtain ⟨y, H10, I10, r10, n10⟩ := h10
        obtain ⟨m', hm, w10⟩ := hNN _ _ _ n10
        obtain ⟨a1, a2, a3, a4, a5⟩ := after I10
        have hlen := rv5.length
        refine append_at (hsz := by rw [List.size_toArray]; omega) a5 fun h' sb g' => ?_
        have hDx := exY _ (List.mem_cons_self (a := s2.heap.objs.size) (l := fp))
        have I11 : Inv Y [] σ8 H10 { s10 with heap := h' } := a1.turned (t' := s10.toks) (it := s2.heap.objs.size) (fun b o hb e => (sb.2 b hb).trans e) a4 DL (.inl hDx) (IB.ok.exf _ hDx).2 (by rw [ypn]; intro p hp; cases hp)
        refine ⟨m', hm, i + 1, σ8, H10, ys ++ [y], its ++ [v], cap + 1, I11, T.keep _ _ _ a2 fun b hb o e => (sb.2 b (fun z => Dfp (z ▸ hb))).trans e, a3, a4, ?_, rv5.snoc r10, w10⟩
        rw [g', List.push_toArray]
  exact codeAny_compStart_list loop (T.self X.A 0 _ _ _ st4 loop)

theorem comp_clos (S : BlkScope X.N X.env.scope N own caps scope) {pins : List (Addr × Obj)} {σ : St} {H : Hp} {s : Shared} (I : Inv X pins σ H s) : closureFor scope X.env = pure (clOf X.env.cells scope.names []) :=
  closureFor_eq fun x hx hk => I.ok.has x.1 (S.free x hx hk)

theorem pe_comp (hc : X.calm = true) (hi : PI X tg iter wi) (S : BlkScope X.N X.env.scope N own caps scope)
    (hg : ∀ cs C s₀ H₀ ex, PG (blk X N scope cs C s₀ H₀ ex) tg g) (ht : ∀ cs C s₀ H₀ ex, PTs (blk X N scope cs C s₀ H₀ ex) ifs tt) (he : ∀ cs C s₀ H₀ ex, PE (blk X N scope cs C s₀ H₀ ex) elt te)
    (hs : ∀ x, foldedSetIterable iter X.env x = pure x := by intro _; rfl) : PE X (.ListComp elt [⟨tg, iter, ifs, 0⟩] scope pos) (tComp wi own caps g tt te) := by
  intro pins s σ H Q I h
  rw [eval_ListComp]
  refine wpAny_comprehension_free (use := none) rfl hs (comp_clos S I) S.kind (fun x hx hl => lookup_of_mem S.ndn (by rw [← hl]; exact hx)) ?_
  refine thn (hi pins s σ H _ I h) fun v s1 h1 => thn h1 fun itv s2 h2 => ?_
  obtain ⟨it, fp, tn, J, H2, e, I2, T, st2, f2, W, ⟨m0, w0⟩, turn⟩ := h2
  subst e
  refine comp_run hc S hg ht he I2 T st2 f2 w0 turn fun D C s' H' ys I' F' hn q => ?_
  obtain ⟨m, hn⟩ := hn
  refine ⟨m, hn, fun h' sb => ⟨.ref D, _, I'.turned (t' := s'.toks) (fun b o hb e => (sb.2 b hb).trans e) F'.1 F'.2.1 F'.2.2.2.1 F'.2.2.2.2.1 F'.2.2.2.2.2, rfl, q⟩⟩

theorem ps_setComp {i : Nat} {x : Str} {pos' spos : Pos} (hc : X.calm = true) (hN : X.N.Nodup) (hix : X.N[i]? = some x) (hx : X.env.scope.names.lookup x = some .local) (hi : PI X tg iter wi) (S : BlkScope X.N X.env.scope N own caps scope)
    (hg : ∀ cs C s₀ H₀ ex, PG (blk X N scope cs C s₀ H₀ ex) tg g) (ht : ∀ cs C s₀ H₀ ex, PTs (blk X N scope cs C s₀ H₀ ex) ifs tt) (he : ∀ cs C s₀ H₀ ex, PE (blk X N scope cs C s₀ H₀ ex) elt te)
    (hsw : swapsWith (.ListComp elt [⟨tg, iter, ifs, 0⟩] scope pos) (some (.Name x pos')) spos.line X.env = pure true := by rfl)
    (hs : ∀ x, foldedSetIterable iter X.env x = pure x := by intro _; rfl) : PS X (.Assign [.Name x pos'] (.ListComp elt [⟨tg, iter, ifs, 0⟩] scope pos) spos) (tAsg (tComp wi own caps g tt te) (gName i)) := by
  intro pins s σ H D I h
  rw [exec_Assign_Name_used _ _ _ _ hsw]; refine wpAny_bind (wpAny_standAt (wpAny_bind ?_))
  show wpAny _ X.A (do let _ ← comprehension (.ListComp elt [⟨tg, iter, ifs, 0⟩] scope pos) scope X.env _ (newList []) false (eval iter X.env) (some (assign (.Name x pos') X.env))) _ _ s
  refine wpAny_bind (wpAny_mono (wpAny_comprehension_free (use := some (assign (.Name x pos') X.env)) (Q := fun _ s' => SP X pins D .next s') rfl hs (comp_clos S I) S.kind (fun x hx hl => lookup_of_mem S.ndn (by rw [← hl]; exact hx)) ?_) (fun _ s' hq => wpAny_pure (wpAny_pure hq)) fun _ _ e => e)
  refine thn (hi pins s σ H _ I h) fun v s1 h1 => thn h1 fun itv s2 h2 => ?_
  obtain ⟨it, fp, tn, J, H2, e, I2, T, st2, f2, W, ⟨m0, w0⟩, turn⟩ := h2
  subst e
  refine comp_run hc S hg ht he I2 T st2 f2 w0 turn fun D' C s' H' ys I' F' hn q => ?_
  obtain ⟨m, hn⟩ := hn
  refine wpAny_assign_Name (store_ok2 (v := .ref D') I' hN hix (.inl hx) rfl (fun s'' I'' h'' => ?_) (.inr hx))
  obtain ⟨a, sb, ha⟩ := h''
  have hCa : C ≠ a := by
    rcases ha with ha | ha
    · rw [ha]; exact F'.2.1
    · exact (F'.2.2.2.2.1 x a ha).symm
  exact ⟨m, hn.sameBut sb hCa, fun h' sb' => ⟨_, _, I''.turned (t' := s''.toks) (fun b o hb e => (sb'.2 b hb).trans e) F'.1 F'.2.1 F'.2.2.2.1 F'.2.2.2.2.1 F'.2.2.2.2.2, q⟩⟩
end
end L2
namespace L2
open PySem PySem.Spec PyProof.Rows
set_option maxRecDepth 100000
/-! ### iterators of lists and tuples, and zip over them: by walking the builtins -/
section
variable (it a : Addr) (i : Nat) (its : Array Value) (o : Obj) (n : Nat) (ed : o.data = .seq its n)
include ed
end
section
variable {prog : Program} {w : World} {A : Around} {E : Value → Shared → Prop} {s : Shared} {b : Bool} {it a : Addr} {i : Nat} {its : Array Value}
end
section
variable {prog : Program} {w : World} {A : Around} {E : Value → Shared → Prop} {z TI TO i1 i2 : Addr} {fp1 fp2 : List Addr} {n1 n2 k : Nat} {P1 P2 : Nat → Value → Prop} {S1 S2 : Nat → Heap → Prop} {a b : Value}
end
section
variable {prog : Program} {w : World} {A : Around} {E : Value → Shared → Prop} {z TI TO i1 i2 : Addr} {fp1 fp2 : List Addr} {n1 n2 k : Nat} {P1 P2 : Nat → Value → Prop} {S1 S2 : Nat → Heap → Prop} {a b : Value}
end
/-! ### a list (true) or a tuple (false) that is walked -/
noncomputable def Sq (b : Bool) (K : PySem.W.Frag) (H : Hp) (a : Addr) (xs : List V) : Prop := match b with
  | true => SqL K H a xs
  | false => SqT K H a xs
/-! ### several records have turned; an untracked object is tracked -/
section
variable {X : Cx} {pins : List (Addr × Obj)} {σ : St} {H : Hp} {s : Shared} {h' : Heap}
theorem Inv.track {p : Addr} {o : HO} (I : Inv X pins σ H s) (f : FpOk X pins H p) (new : ObjOk X.prog X.w (upd H p o) s.heap p o) : Inv X pins σ (upd H p o) s := by
  have hp := f.1
  refine I.step (g' := s.gens) (d' := s.drawn) (t' := s.toks) (h' := s.heap) (ch := [p]) (fun b hb => ?_) (fun b o _ _ _ e _ => e) (fun b o _ _ _ e _ => ⟨o.slots, e⟩) (fun b o hc e n => ?_)
    (fun b o _ e => ⟨o, e⟩) (fun b xs e => by rw [upd_ne (ne_of_none e hp)]; exact e) (fun b o u e => by rw [upd_ne (ne_of_none e hp)]; exact e) (fun b ps e => ⟨#[], by rw [upd_ne (ne_of_none e hp), e]; simp⟩) (fun m hm => hm) (fun b u e => ?_) I.bare
  · have e := List.mem_singleton.mp hb
    subst e
    exact ⟨f.2.2.2.1, f.2.1, f.2.2.2.2.1, f.2.2.2.2.2⟩
  · rw [upd_ne (fun z => hc (by rw [z]; exact List.mem_singleton.mpr rfl))]; exact n
  · by_cases hb : b = p
    · subst hb
      rw [upd_same] at e
      cases e
      exact new
    · rw [upd_ne hb] at e
      exact (I.hok b u e).stay (fun c v _ q => q) (fun c q => by rw [upd_ne (ne_of_none q hp)]; exact q) fun c xs q => by rw [upd_ne (ne_of_none q hp)]; exact q
end
end L2
namespace L2
open PySem PySem.Spec PyProof.Rows
set_option maxRecDepth 100000
section
variable {prog : Program} {w : World} {A : Around} {E : Value → Shared → Prop} {s : Shared}
/-- an iterator's turn by what its __next__ does -/
theorem pyNext_of {T id : String} {v : Value} {Q : Option Value → Shared → Prop} (ty : s.TypeIs v T) (sl : Slot T (Str.ofString "__next__") id)
    (h : wpAny (model prog w) A (call (.builtin id) [v]) (fun x s' => Q (some x) s') (fun e s' => ∃ c o, e = .ref c ∧ s'.heap.get? c = some o ∧ o.cls = .type "StopIteration" ∧ Q none s') s) : wpAny (model prog w) A (pyNext v) Q E s := by
  unfold pyNext
  refine wpAny_bind (wpAny_attempt (wpAny_callSpecial?_slot ty sl (wpAny_mono h (fun x s' y => wpAny_pure y) fun e s' y => ?_)))
  obtain ⟨c, o, rfl, e1, e2, y⟩ := y
  exact wpAny_bind (wpAny_isInstance (b := true) ⟨o, e1, e2⟩ isSubtype_stop (wpAny_pure y))
end
section
variable {prog : Program} {w : World} {A : Around} {E : Value → Shared → Prop} {s : Shared}
end
/-! ### the turns -/
section
variable {X : Cx}
end
end L2
namespace L2
open PySem PySem.Spec PyProof.Rows
set_option maxRecDepth 100000

theorem Same.sq {K : PySem.W.Frag} {H H' : Hp} {a : Addr} {xs : List V} {b : Bool} (e : Same H H') (h : Sq b K H a xs) : Sq b K H' a xs := by
  cases b with
  | true => exact e.seq h
  | false =>
    rcases h with h | h
    · refine .inl ?_
      rcases h with h | ⟨o, h⟩
      · exact .inl (e _ _ h)
      · exact .inr ⟨o, e _ _ h⟩
    · exact .inr h
theorem Same.seqT {K : PySem.W.Frag} {H H' : Hp} {a : Addr} {xs : List V} (e : Same H H') (h : SqT K H a xs) : SqT K H' a xs := e.sq (b := false) h
theorem Same.upd {H : Hp} {p : Addr} {o : HO} (h : H p = none) : Same H (upd H p o) := fun b u e => by rw [upd_ne (ne_of_none e h)]; exact e

/-! ### t * n, t + u, t[a:b] of tuples: a tuple with these items, new or not -/
noncomputable def AnyT (K : PySem.W.Frag) (H : Hp) (xs : List V) (Q : VK) : Prop := ∀ p H', Same H H' → SqT K H' p xs → Q (.ref p) H'
theorem AnyT.old {K : PySem.W.Frag} {H : Hp} {xs : List V} {Q : VK} {p : Addr} (h : AnyT K H xs Q) (q : SqT K H p xs) : Q (.ref p) H := h p H (.refl H) q
theorem AnyT.new {K : PySem.W.Frag} {H : Hp} {xs : List V} {Q : VK} {p : Addr} (h : AnyT K H xs Q) (n : H p = none) : Q (.ref p) (upd H p (.tup xs)) := h p _ (.upd n) (.of upd_same)

theorem noFill_tuple_mul : fillsNumberSlot (.type "tuple") "mul" = pure false :=
  PySem.fillsNumberSlot_seq (id := "tuple.__mul__") (r := some (.builtin "tuple.__rmul__")) F.slot_tuple_mul.lookup (by decide +kernel) F.slot_tuple_rmul.lookup (by decide +kernel)
theorem repeat_tuple : seqRepeat? (.type "tuple") = pure (some (.builtin "tuple.__mul__")) := by
  unfold seqRepeat?
  rw [PySem.seqSlot_of (T := "tuple") (name := "__mul__") (id := "tuple.__mul__") F.slot_tuple_mul.lookup (by decide +kernel), PySem.seqSlot_of (T := "tuple") (name := "__rmul__") (id := "tuple.__rmul__") F.slot_tuple_rmul.lookup (by decide +kernel)]
  rfl
theorem rmul_int_tuple (a : Int) (t : Tok) (l : Addr) (items : Array Value) (n : Nat) (dd : Option Addr) (sl : Array (Option Value)) :
    Meets (Builtin.«int.__rmul__» ⟨[.int a t, .ref l], []⟩) (fun _ R s => s.heap.get? l = some { cls := .type "tuple", dict := dd, data := .seq items n, slots := sl } ∧ R (.ok (.ret Value.notImplemented)) s) :=
  .of_wp fun prog w A R s h => by
    obtain ⟨hp_a, g_a, d_a, tk_a, os_a⟩ := s
    have at0 := h.1
    wp_walk
    exact ⟨_, rfl, h.2⟩

/-! ### list(range(..)) -/
section
variable {X : Cx}
/-- range(a, b) as a value, just made: told as a tracked range -/
theorem call_range2 : CallR X (.type "range") (fun xs H Q => ∃ i j : Int, xs = [.int i, .int j] ∧ ∀ p, H p = none → Q (.ref p) (upd H p (.rng i j))) := by
  intro pins s σ H vs us Q I r h
  obtain ⟨i, j, rfl, q⟩ := h
  obtain ⟨u, v, rfl, ru, rv⟩ := vals2 r
  obtain ⟨t, rfl⟩ := ru
  obtain ⟨t', rfl⟩ := rv
  refine call_range_2 ?_
  exact ⟨.ref _, _, I.laid (t' := _) (o := .rng i j) (fun b o e => Heap.get?_push_of_some _ e) (Nat.le_refl _) ⟨_, _, _, Heap.get?_push_size _ rfl⟩, rfl, q _ I.fresh⟩
theorem itemsOf_vals {a : Int} : ∀ (n : Nat) (acc : Array Value), ItemsOf (fun i v => ∃ t, v = .int (a + i * 1) t) acc n → Vals ((List.range n).map fun (i : Nat) => V.int (a + i)) acc.toList := by
  intro n acc h
  have hsz : acc.size = n := h.1
  have key : ∀ (k : Nat), k ≤ n → Vals (((List.range n).map fun (i : Nat) => V.int (a + i)).take k) (acc.toList.take k) := by
    intro k
    induction k with
    | zero => intro _; exact .nil
    | succ k ih =>
      intro hk
      have hk' : k < acc.size := by omega
      rw [List.take_add_one, List.take_add_one]
      refine Vals.append (ih (by omega)) ?_
      have e1 : ((List.range n).map fun (i : Nat) => V.int (a + i))[k]? = some (V.int (a + k)) := by
        rw [List.getElem?_map, List.getElem?_range (by omega)]; rfl
      have e2 : acc.toList[k]? = some acc[k] := by simp [hk']
      rw [e1, e2]
      obtain ⟨t, e⟩ := h.2 k acc[k] (by simp [hk'])
      refine .cons ⟨t, ?_⟩ .nil
      rw [e, Int.mul_one]
  have := key n (Nat.le_refl _)
  rw [List.take_of_length_le (by simp), List.take_of_length_le (by simp [hsz])] at this
  exact this
theorem call_list_rng (hc : X.calm = true) : CallR X (.type "list") (fun xs H Q => ∃ p i j, xs = [.ref p] ∧ H p = some (.rng i j) ∧ (-(2 ^ 62) ≤ i ∧ i < 2 ^ 62 ∧ -(2 ^ 62) ≤ j ∧ j < 2 ^ 62) ∧ j - i ≤ 16777216 ∧
    ∀ l, H l = none → Q (.ref l) (upd H l (.lst ((List.range (j - i).toNat).map fun (k : Nat) => V.int (i + k))))) := by
  intro pins s σ H vs us Q I r h
  obtain ⟨p, i, j, rfl, hp, ⟨h1, h2, h3, h4⟩, hz, q⟩ := h
  obtain ⟨u, rfl, ru⟩ := vals1 r
  cases ru
  obtain ⟨t, u, v, e⟩ := I.hok p _ hp
  have hn : Builtin.Range.rangeSize i j 1 = (((j - i).toNat : Nat) : Int) := by rw [rangeSize_one]; split <;> omega
  refine call_list_range (I.ok.hd hc) (show IsRange s.heap p i j 1 t u v from e) (small_one h1 h2 h3 h4) hn (by omega) fun h' tk acc c hk hS hI => ?_
  have rv := itemsOf_vals (a := i) _ _ hI
  have I1 : Inv X pins σ H { s with heap := h', toks := tk } := I.kept hk
  have f : FpOk X pins H s.heap.objs.size := I.fpOk (Nat.le_refl _) I.fresh
  have I2 := I1.track (o := .lst ((List.range (j - i).toNat).map fun (k : Nat) => V.int (i + k))) f ⟨?_, acc.toList, c, rv, hS⟩
  · exact ⟨.ref _, _, I2, rfl, q _ f.1⟩
  · rw [List.length_map, List.length_range]
    have : (16777216 : Nat) ≤ sizeLine := by decide
    omega

/-! ### sum(a list of ints) -/
theorem ints_as : ∀ {ns : List Int} {its : List Value}, Vals (ns.map V.int) its → ∃ ps : List (Int × Tok), its = ps.map (fun p => Value.int p.1 p.2) ∧ ps.map (·.1) = ns
  | [], _, .nil => ⟨[], rfl, rfl⟩
  | n :: ns, _, .cons r rr => by
    obtain ⟨t, rfl⟩ := r
    obtain ⟨ps, rfl, rfl⟩ := ints_as rr
    exact ⟨(n, t) :: ps, rfl, rfl⟩
theorem call_sum (hc : X.calm = true) : CallR X (.builtin "sum") (fun xs H Q => ∃ p ns, xs = [.ref p] ∧ SqL X.K H p (List.map V.int ns) ∧ Q (.int ns.sum) H) := by
  intro pins s σ H vs us Q I r h
  obtain ⟨p, ns, rfl, hq, q⟩ := h
  obtain ⟨u, rfl, ru⟩ := vals1 r
  cases ru
  obtain ⟨its, rv, pl, hz⟩ := I.list hq
  obtain ⟨ps, rfl, rfl⟩ := ints_as rv
  have hl' : s.heap.IsList p (intItems ps.toArray) := by
    have z := pl.isList
    rwa [show (ps.map fun p => Value.int p.1 p.2).toArray = intItems ps.toArray by simp [intItems]] at z
  refine sum_intListG (I.ok.hd hc) hl' fun h' tk t' hk => ⟨.int _, H, I.kept hk, ⟨t', ?_⟩, q⟩
  have := preSum_eq ps.toArray ps.toArray.size
  simp only [List.size_toArray] at this
  rw [List.take_of_length_le (Nat.le_of_eq (List.length_map _))] at this
  simp [this]

/-! ### isinstance(x, T) of a builtin T -/
theorem call_isinst {T : String} : CallR X (.builtin "isinstance") (fun xs H Q => ∃ x t b, xs = [x, .ty T] ∧ TyOf X.K H x t ∧ PySem.W.kitOne X.K t (.type T) = some b ∧ Q (.bl b) H) := by
  intro pins s σ H vs us Q I r h
  obtain ⟨x, t, b, rfl, ty, e, q⟩ := h
  obtain ⟨u, v, rfl, ru, rv⟩ := vals2 r
  cases rv
  exact isinst_ok I ru ty e fun tk => ⟨.bl b, H, I.tok tk, rfl, q⟩
end

/-! ### what a value is, to its end -/
mutual
inductive HasD (K : PySem.W.Frag) (H : Hp) : V → PySem.W.Dat → Prop
  | none : HasD K H .non .none
  | bool (b : Bool) : HasD K H (.bl b) (.bool b)
  | int (i : Int) : HasD K H (.int i) (.int i)
  | str (x : Str) : HasD K H (.str x) (.str x)
  | tuple {a : Addr} {xs : List V} {ds : List PySem.W.Dat} : SqT K H a xs → HasA K H xs ds → HasD K H (.ref a) (.tuple ds)
  | list {a : Addr} {xs : List V} {ds : List PySem.W.Dat} : SqL K H a xs → HasA K H xs ds → HasD K H (.ref a) (.list ds)
inductive HasA (K : PySem.W.Frag) (H : Hp) : List V → List PySem.W.Dat → Prop
  | nil : HasA K H [] []
  | cons {v : V} {vs : List V} {d : PySem.W.Dat} {ds : List PySem.W.Dat} : HasD K H v d → HasA K H vs ds → HasA K H (v :: vs) (d :: ds)
end
mutual
theorem HasD.mono {K : PySem.W.Frag} {H H' : Hp} (e : Same H H') : ∀ {v : V} {d : PySem.W.Dat}, HasD K H v d → HasD K H' v d
  | _, _, .none => .none
  | _, _, .bool b => .bool b
  | _, _, .int i => .int i
  | _, _, .str x => .str x
  | _, _, .tuple h r => .tuple (e.seqT h) (HasA.mono e r)
  | _, _, .list h r => .list (e.seq h) (HasA.mono e r)
theorem HasA.mono {K : PySem.W.Frag} {H H' : Hp} (e : Same H H') : ∀ {vs : List V} {ds : List PySem.W.Dat}, HasA K H vs ds → HasA K H' vs ds
  | _, _, .nil => .nil
  | _, _, .cons h r => .cons (HasD.mono e h) (HasA.mono e r)
end
theorem HasA.length {K : PySem.W.Frag} {H : Hp} : ∀ {vs : List V} {ds : List PySem.W.Dat}, HasA K H vs ds → vs.length = ds.length
  | _, _, .nil => rfl
  | _, _, .cons _ r => by rw [List.length_cons, List.length_cons, HasA.length r]
theorem HasA.append {K : PySem.W.Frag} {H : Hp} : ∀ {vs ws : List V} {ds es : List PySem.W.Dat}, HasA K H vs ds → HasA K H ws es → HasA K H (vs ++ ws) (ds ++ es)
  | _, _, _, _, .nil, k => k
  | _, _, _, _, .cons h r, k => .cons h (HasA.append r k)
theorem HasA.get {K : PySem.W.Frag} {H : Hp} : ∀ {vs : List V} {ds : List PySem.W.Dat} {i : Nat} {v : V}, HasA K H vs ds → vs[i]? = some v → ∃ d, ds[i]? = some d ∧ HasD K H v d
  | _, _, 0, _, .cons h _, e => by
    have e' : _ = _ := Option.some.inj e
    subst e'
    exact ⟨_, rfl, h⟩
  | _, _, i + 1, v, .cons _ r, e => HasA.get (i := i) (v := v) r e
theorem HasA.ints {K : PySem.W.Frag} {H : Hp} : ∀ (ns : List Int), HasA K H (ns.map V.int) (ns.map PySem.W.Dat.int)
  | [] => .nil
  | n :: ns => .cons (.int n) (HasA.ints ns)
theorem HasA.intsV {K : PySem.W.Frag} {H : Hp} : ∀ {xs : List V} {ns : List Int}, HasA K H xs (ns.map PySem.W.Dat.int) → xs = ns.map V.int
  | _, [], h => by cases h; rfl
  | _, n :: ns, h => by
    cases h with
    | cons h r =>
      cases h
      rw [HasA.intsV r]; rfl
mutual
theorem HasD.reads {X : Cx} {pins : List (Addr × Obj)} {σ : St} {H : Hp} {s : Shared} (I : Inv X pins σ H s) : ∀ {v : V} {d : PySem.W.Dat} {u : Value}, HasD X.K H v d → RelV v u → ∃ as, Reads s.heap u (PySem.W.kqdP d) as
  | _, _, u, .none, r => by cases (show u = Value.none from r); exact ⟨_, .none⟩
  | _, _, u, .bool b, r => by cases (show u = Value.bool b from r); exact ⟨_, .bool b⟩
  | _, _, u, .int i, r => by obtain ⟨t, rfl⟩ := r; exact ⟨_, .int i t⟩
  | _, _, u, .str x, r => by obtain ⟨t, rfl⟩ := r; exact ⟨_, .str x t⟩
  | _, _, u, .tuple (a := a) h q, r => by
    cases (show u = Value.ref a from r)
    obtain ⟨its, rv, ⟨o, ho, hc, n, hd⟩, _⟩ := I.tuple h
    obtain ⟨as, z⟩ := HasA.reads I q rv
    rw [PySem.W.kqdP]
    exact ⟨as, .tuple ho hc hd (by simpa using z)⟩
  | _, _, u, .list (a := a) h q, r => by
    cases (show u = Value.ref a from r)
    obtain ⟨its, rv, p, _⟩ := I.list h
    obtain ⟨o, ho, hc, n, hd⟩ := p.isList
    obtain ⟨as, z⟩ := HasA.reads I q rv
    rw [PySem.W.kqdP]
    exact ⟨_, .list ho hc hd (by simpa using z)⟩
theorem HasA.reads {X : Cx} {pins : List (Addr × Obj)} {σ : St} {H : Hp} {s : Shared} (I : Inv X pins σ H s) : ∀ {vs : List V} {ds : List PySem.W.Dat} {us : List Value}, HasA X.K H vs ds → Vals vs us → ∃ as, ReadsAll s.heap us (PySem.W.kqdPs ds) as
  | _, _, _, .nil, .nil => ⟨_, .nil⟩
  | _, _, _, .cons h q, .cons r rr => by
    obtain ⟨as, z⟩ := HasD.reads I h r
    obtain ⟨bs, y⟩ := HasA.reads I q rr
    rw [PySem.W.kqdPs]
    exact ⟨_, .cons z y⟩
end
section
variable {X : Cx}
open Classical in
noncomputable def rEqD (K : PySem.W.Frag) (neg : Bool) : R2 := fun x y H Q => ∃ d e, HasD K H x d ∧ HasD K H y e ∧ PySem.W.kqdOk 8 d = true ∧ PySem.W.kqdOk 8 e = true ∧ Q (.bl (if neg then !decide (d = e) else decide (d = e))) H
open Classical in
theorem eqv_dec {d e : PySem.W.Dat} (hd : PySem.W.kqdOk 8 d = true) (he : PySem.W.kqdOk 8 e = true) : PyData.eqv (PySem.W.kqdP d) (PySem.W.kqdP e) = decide (d = e) := by
  exact Bool.eq_iff_iff.mpr ((PySem.W.kqd_eqv 8 d e 8 hd he).trans decide_eq_true_iff.symm)
theorem shaped_of {d : PySem.W.Dat} (hd : PySem.W.kqdOk 8 d = true) : SeqAt.shaped (PySem.W.kqdP d) = true := by
  have l := PySem.W.kqd_lay 8 d hd
  unfold SeqAt.shaped
  rw [l.1, Bool.true_and]
  exact decide_eq_true (Nat.le_trans l.2 (by decide))
theorem op_neD (hu : X.A.units + 64 < cLine) : OpR X (compareOp .NotEq) (rEqD X.K true) := by
  intro pins s σ H x y v u Q I rx ry h
  obtain ⟨d, e, hx, hy, hd, he, q⟩ := h
  obtain ⟨as, ra⟩ := hx.reads I rx
  obtain ⟨bs, rb⟩ := hy.reads I ry
  refine ne_dataH ra rb (shaped_of hd) (shaped_of he) hu ?_
  rw [eqv_dec hd he]
  exact ⟨.bl _, H, I, rfl, q⟩
end

/-! ### data of ints -/
noncomputable def intsT (ns : List Int) : PySem.W.Dat := .tuple (ns.map .int)
theorem kqd_intsT (n : Nat) (ns : List Int) : PySem.W.kqdOk (n + 1) (intsT ns) = true := by
  unfold intsT PySem.W.kqdOk
  rw [List.all_map]
  exact List.all_eq_true.mpr fun _ _ => by cases n <;> rfl
end L2
namespace L2
open PySem PySem.Spec PyProof.Rows
set_option maxRecDepth 100000

theorem tuple_mul1 (l : Addr) (items : Array Value) (n : Nat) (dd : Option Addr) (sl : Array (Option Value)) (u : Tok) :
    Meets (Builtin.«tuple.__mul__» ⟨[.ref l, .int 1 u], []⟩) (fun _ R s => s.heap.get? l = some { cls := .type "tuple", dict := dd, data := .seq items n, slots := sl } ∧ R (.ok (.ret (.ref l))) s) :=
  .of_wp fun prog w A R s h => by
    obtain ⟨hp_a, g_a, d_a, tk_a, os_a⟩ := s
    have at0 := h.1
    have f1 := AutoSeq1.idx_int
    wp_walk using AutoSeq1.wpAny_loadPart' at0
    exact ⟨_, rfl, h.2⟩
theorem tuple_mul0 (l : Addr) (items : Array Value) (n : Nat) (dd : Option Addr) (sl : Array (Option Value)) (x : Int) (u : Tok) (hx : x ≤ 0) (hx2 : -(2 ^ 63) ≤ x) (hne : items.isEmpty = false) :
    Meets (Builtin.«tuple.__mul__» ⟨[.ref l, .int x u], []⟩) (fun _ R s => s.heap.get? l = some { cls := .type "tuple", dict := dd, data := .seq items n, slots := sl } ∧
      R (.ok (.ret (Value.ref s.heap.objs.size))) { s with heap := s.heap.push { cls := Value.type "tuple", data := Data.seq #[] } }) :=
  .of_wp fun prog w A R s h => by
    obtain ⟨hp_a, g_a, d_a, tk_a, os_a⟩ := s
    have at0 := h.1
    have f1 := AutoSeq1.idx_int
    have c1 : (decide (x < -2 ^ 63) || decide (x ≥ 2 ^ 63)) = false := by simp; omega
    have c2 : (items.isEmpty || x == 1) = false := by rw [hne]; simp; omega
    have c3 : (decide (x ≤ 0) || items.isEmpty) = true := by simp [hx]
    wp_walk using AutoSeq1.wpAny_loadPart' at0
    refine wpAny_ite_false (by rw [c1]; rfl) ?_
    wp_walk using AutoSeq1.wpAny_loadPart' at0
    refine wpAny_ite_false (by rw [c2]; rfl) ?_
    wp_walk using AutoSeq1.wpAny_loadPart' at0
    exact ⟨_, rfl, h.2⟩
theorem size_rep (items : Array Value) : ∀ (k : Nat) (acc : Array Value), (List.foldl (fun x1 x2 => x1 ++ x2) acc (List.replicate k items)).size = acc.size + k * items.size
  | 0, acc => by simp
  | k + 1, acc => by rw [List.replicate_succ, List.foldl_cons, size_rep items k, Array.size_append, Nat.succ_mul]; omega
theorem tuple_mulN (l : Addr) (items : Array Value) (n : Nat) (dd : Option Addr) (sl : Array (Option Value)) (x : Int) (u : Tok) (hx : 2 ≤ x) (hx2 : x < 2 ^ 63) (hne : items.isEmpty = false) (hz : items.size * x.toNat ≤ sizeLine) :
    Meets (Builtin.«tuple.__mul__» ⟨[.ref l, .int x u], []⟩) (fun _ R s => s.heap.get? l = some { cls := .type "tuple", dict := dd, data := .seq items n, slots := sl } ∧
      R (.ok (.ret (Value.ref s.heap.objs.size))) { s with heap := s.heap.push { cls := Value.type "tuple", data := Data.seq (List.foldl (fun x1 x2 => x1 ++ x2) #[] (List.replicate x.toNat items)) } }) :=
  .of_wp fun prog w A R s h => by
    obtain ⟨hp_a, g_a, d_a, tk_a, os_a⟩ := s
    have at0 := h.1
    have f1 := AutoSeq1.idx_int
    have c1 : (decide (x < -2 ^ 63) || decide (x ≥ 2 ^ 63)) = false := by simp; omega
    have c2 : (items.isEmpty || x == 1) = false := by rw [hne]; simp; omega
    have c3 : (decide (x ≤ 0) || items.isEmpty) = false := by rw [hne]; simp; omega
    have e : (items.size : Int) * x = ((items.size * x.toNat : Nat) : Int) := by
      rw [Int.natCast_mul]; congr 1; omega
    have hl2 : (sizeLine : Nat) ≤ (2 ^ 63 - 1) / 8 := by decide
    have c4 : decide ((items.size : Int) * x > (2 ^ 63 - 1) / 8) = false := by rw [e]; simp only [decide_eq_false_iff_not]; omega
    have c5 : Builtin.Tuple.tupleTooMany ((items.size : Int) * x) = false := by rw [e]; unfold Builtin.Tuple.tupleTooMany; simp only [decide_eq_false_iff_not]; omega
    have c6 : (List.foldl (fun x1 x2 => x1 ++ x2) #[] (List.replicate x.toNat items)).size ≤ sizeLine := by rw [size_rep, Array.size_empty, Nat.zero_add, Nat.mul_comm]; exact hz
    wp_walk using AutoSeq1.wpAny_loadPart' at0
    refine wpAny_ite_false (by rw [c1]; rfl) ?_
    wp_walk using AutoSeq1.wpAny_loadPart' at0
    refine wpAny_ite_false (by rw [c2]; rfl) ?_
    wp_walk using AutoSeq1.wpAny_loadPart' at0
    refine wpAny_ite_false (by rw [c3]; rfl) ?_
    wp_walk
    refine wpAny_ite_false c4 ?_
    wp_walk
    refine wpAny_ite_false (by rw [c5]; rfl) ?_
    wp_walk
    exact ⟨_, rfl, h.2⟩

/-- t * k, t not empty -/
noncomputable def rRepT (K : PySem.W.Frag) : R2 := fun x y H Q => ∃ a k xs, x = .ref a ∧ y = .int k ∧ SqT K H a xs ∧ xs ≠ [] ∧ -(2 ^ 63) ≤ k ∧ k < 2 ^ 63 ∧ xs.length * k.toNat ≤ sizeLine ∧ AnyT K H (List.replicate k.toNat xs).flatten Q
theorem op_repT {X : Cx} : OpR X (binaryOp .Mult) (rRepT X.K) := by
  intro pins s σ H x y v u Q I rx ry h
  obtain ⟨l, k, xs, rfl, rfl, hH, hne, h1, h2, hz, q⟩ := h
  cases rx
  obtain ⟨t, rfl⟩ := ry
  obtain ⟨its, r, ht, _⟩ := I.tuple hH
  obtain ⟨⟨cls, dd, data, sl⟩, ho, hc, n, hd⟩ := id ht
  simp only at hc hd
  subst hc hd
  have hi : its.toArray.isEmpty = false := by
    have : its ≠ [] := fun z => hne (r.nil_iff.mp z)
    cases its with
    | nil => exact absurd rfl this
    | cons a b => rfl
  have hlen : its.toArray.size * k.toNat ≤ sizeLine := by rw [List.size_toArray, ← r.length]; exact hz
  have f0 : ∀ m : Nat, List.foldl (fun x1 x2 => x1 ++ x2) #[] (List.replicate m its.toArray) = (List.replicate m its).flatten.toArray := fun m => by
    have := foldl_rep its m []
    rw [List.nil_append] at this
    exact this
  refine wpAny_binaryOp_repeat_ref (T := "tuple") (U := "int") (by decide) ⟨_, ho, rfl⟩ (fun s' => typeIs_int s' k t) noFill_tuple_mul F.fills_int_mul F.slot_int_rmul repeat_tuple F.slot_int_index.lookup
    (call_meets F.slot_int_rmul (typeIs_int s k t) F.entry_int_rmul (F.args_int_rmul_2 _ _) (rmul_int_tuple k t l its.toArray n dd sl) ⟨ho, rfl, ⟨_, ho, rfl⟩, ?_⟩)
  by_cases hk1 : k = 1
  · subst hk1
    refine call_meets F.slot_tuple_mul ⟨_, ho, rfl⟩ F.entry_tuple_mul (F.args_tuple_mul_2 _ _) (tuple_mul1 l its.toArray n dd sl t) ⟨ho, ?_⟩
    exact ⟨.ref l, H, I, rfl, q.old (by simpa using hH)⟩
  · by_cases hk0 : k ≤ 0
    · refine call_meets F.slot_tuple_mul ⟨_, ho, rfl⟩ F.entry_tuple_mul (F.args_tuple_mul_2 _ _) (tuple_mul0 l its.toArray n dd sl k t hk0 h1 hi) ⟨ho, ?_⟩
      have e : k.toNat = 0 := by omega
      rw [e] at q
      exact ⟨.ref _, _, I.laid (t' := s.toks) (o := .tup []) (fun b ob q => Heap.get?_push_of_some _ q) (Nat.le_refl _) ⟨Nat.zero_le _, [], .nil, IsTup.new _ _⟩, rfl, q.new I.fresh⟩
    · refine call_meets F.slot_tuple_mul ⟨_, ho, rfl⟩ F.entry_tuple_mul (F.args_tuple_mul_2 _ _) (tuple_mulN l its.toArray n dd sl k t (by omega) h2 hi hlen) ⟨ho, ?_⟩
      rw [f0]
      exact ⟨.ref _, _, I.laid (t' := s.toks) (o := .tup (List.replicate k.toNat xs).flatten) (fun b ob q => Heap.get?_push_of_some _ q) (Nat.le_refl _) ⟨by rw [len_rep, Nat.mul_comm]; exact hz, _, r.rep k.toNat, IsTup.new _ _⟩, rfl, q.new I.fresh⟩
end L2
namespace L2
open PySem PySem.Spec PyProof.Rows

/-! ### the block's scope, checked -/
noncomputable def blkCheck (oN : List Str) (osc : Scope) (N : List Str) (own : Nat) (caps : List Nat) (scope : Scope) : Bool :=
  decide (scope.kind = .function) && decide N.Nodup && decide (scope.names.map (·.1)).Nodup &&
  scope.names.all (fun x => x.2 != .free || (decide (osc.names.lookup x.1 = some .cell) || decide (osc.names.lookup x.1 = some .free))) &&
  decide (N.length = own + caps.length) && decide (caps.map (fun i => oN[i]?) = (N.drop own).map some) && (N.drop own).all (fun x => decide (scope.names.lookup x = some .free))
theorem BlkScope.mk' {oN : List Str} {osc : Scope} {N : List Str} {own : Nat} {caps : List Nat} {scope : Scope} (h : blkCheck oN osc N own caps scope = true) : BlkScope oN osc N own caps scope := by
  unfold blkCheck at h
  simp only [Bool.and_eq_true, decide_eq_true_eq, List.all_eq_true, Bool.or_eq_true, bne_iff_ne, ne_eq] at h
  obtain ⟨⟨⟨⟨⟨⟨h1, h2⟩, h3⟩, h4⟩, h5⟩, h6⟩, h7⟩ := h
  exact ⟨h1, h2, h3, fun x hx hk => (h4 x hx).elim (fun z => absurd hk z) id, h5, h6, h7⟩

/-! ### comprehensions, in the forms one uses: the heap grows, the captured names cp stay -/
/-- behind a turn with n own names -/
noncomputable def CpN (n : Nat) (cp : St) (H1 : Hp) (P : Hp → List V → Prop) : St → Hp → List V → Prop := fun σ H zs => (∃ o : St, o.length = n ∧ σ = o ++ cp) ∧ Same H1 H ∧ P H zs
section
variable {K : PySem.W.Frag} {H1 : Hp} {cp : St} {g : TG} {tt : TT} {te : TE} {Q : VK} {xs ys : List V} {l1 l2 a : Addr} {b1 b2 b : Bool} {n own : Nat} {J : It}
/-- any iterator that goes n turns over whatever grows out of H1 -/
theorem comp_any (Pv : Nat → Hp → List V → Prop) (hn : n ≤ sizeLine) (h0 : Pv 0 H1 []) (hlen : ∀ i H zs, Pv i H zs → zs.length ≤ i)
    (hgo : ∀ i H, Same H1 H → i < n → J.go i H) (hstop : ∀ H, Same H1 H → J.stop n H)
    (step : ∀ i o H zs, i < n → o.length = own → Same H1 H → Pv i H zs → ∀ x H2, J.yld i H x H2 → g x (o ++ cp) H2 fun σ3 H3 => tt σ3 H3 fun c H4 => if c = true then te σ3 H4 fun v H5 => CpN own cp H1 (Pv (i + 1)) σ3 H5 (zs ++ [v]) else CpN own cp H1 (Pv (i + 1)) σ3 H4 zs)
    (done : ∀ H zs, Same H1 H → Pv n H zs → ∀ p, H p = none → Q (.ref p) (upd H p (.lst zs))) :
    ∃ W : Nat → Nat → St → Hp → List V → Prop, (∃ m, W 0 m (List.replicate own none ++ cp) H1 []) ∧ CompW J g tt te Q W := by
  refine ⟨fun i m σ H zs => m = n - i ∧ i ≤ n ∧ CpN own cp H1 (Pv i) σ H zs, ⟨n, by simp, Nat.zero_le _, ⟨_, by simp, rfl⟩, .refl _, h0⟩, ?_⟩
  rintro i m σ H zs ⟨rfl, hi, ⟨o, ho, rfl⟩, sm, pv⟩
  have hl := hlen _ _ _ pv
  by_cases hlt : i < n
  · exact .inr ⟨hgo i H sm hlt, by omega, CpN own cp H1 (Pv (i + 1)), fun σ2 H2 zs2 q => ⟨n - (i + 1), by omega, rfl, hlt, q⟩, step i o H zs hlt ho sm pv⟩
  · have e : i = n := by omega
    subst e
    exact .inl ⟨hstop H sm, by omega, done H zs sm pv⟩
theorem one_of {o : St} (h : o.length = 1) : ∃ x, o = [x] := by
  match o, h with
  | [x], _ => exact ⟨x, rfl⟩
/-- .. for x in a list or tuple -/
theorem comp_list (Pv : Nat → Hp → List V → Prop) (hq : SqL K H1 a xs) (hz : xs.length ≤ sizeLine) (h0 : Pv 0 H1 []) (hlen : ∀ i H zs, Pv i H zs → zs.length ≤ i)
    (step : ∀ i x H zs, xs[i]? = some x → Same H1 H → Pv i H zs → tt (some x :: cp) H fun c H4 => if c = true then te (some x :: cp) H4 fun v H5 => CpN 1 cp H1 (Pv (i + 1)) (some x :: cp) H5 (zs ++ [v]) else CpN 1 cp H1 (Pv (i + 1)) (some x :: cp) H4 zs)
    (done : ∀ H zs, Same H1 H → Pv xs.length H zs → ∀ p, H p = none → Q (.ref p) (upd H p (.lst zs))) :
    ∃ W : Nat → Nat → St → Hp → List V → Prop, (∃ m, W 0 m (List.replicate 1 none ++ cp) H1 []) ∧ CompW (Itl K a) (gName 0) tt te Q W := by
  refine comp_any (n := xs.length) Pv hz h0 hlen (fun i H sm hi => ⟨xs, xs[i], sm.seq hq, by simp [hi]⟩) (fun H sm => ⟨xs, sm.seq hq, Nat.le_refl _⟩) (fun i o H zs hi ho sm pv x H2 y => ?_) done
  obtain ⟨w, rfl⟩ := one_of ho
  obtain ⟨rfl, y⟩ := y
  exact step i x _ zs (y xs (sm.seq hq)) sm pv
theorem comp_tup (Pv : Nat → Hp → List V → Prop) (hq : SqT K H1 a xs) (hz : xs.length ≤ sizeLine) (h0 : Pv 0 H1 []) (hlen : ∀ i H zs, Pv i H zs → zs.length ≤ i)
    (step : ∀ i x H zs, xs[i]? = some x → Same H1 H → Pv i H zs → tt (some x :: cp) H fun c H4 => if c = true then te (some x :: cp) H4 fun v H5 => CpN 1 cp H1 (Pv (i + 1)) (some x :: cp) H5 (zs ++ [v]) else CpN 1 cp H1 (Pv (i + 1)) (some x :: cp) H4 zs)
    (done : ∀ H zs, Same H1 H → Pv xs.length H zs → ∀ p, H p = none → Q (.ref p) (upd H p (.lst zs))) :
    ∃ W : Nat → Nat → St → Hp → List V → Prop, (∃ m, W 0 m (List.replicate 1 none ++ cp) H1 []) ∧ CompW (Itt K a) (gName 0) tt te Q W := by
  refine comp_any (n := xs.length) Pv hz h0 hlen (fun i H sm hi => ⟨xs, xs[i], sm.seqT hq, by simp [hi]⟩) (fun H sm => ⟨xs, sm.seqT hq, Nat.le_refl _⟩) (fun i o H zs hi ho sm pv x H2 y => ?_) done
  obtain ⟨w, rfl⟩ := one_of ho
  obtain ⟨rfl, y⟩ := y
  exact step i x _ zs (y xs (sm.seqT hq)) sm pv
/-- .. for k in range(..) -/
theorem comp_rng {lo : Int} (Pv : Nat → Hp → List V → Prop) (hz : n ≤ sizeLine) (h0 : Pv 0 H1 []) (hlen : ∀ i H zs, Pv i H zs → zs.length ≤ i)
    (step : ∀ i H zs, i < n → Same H1 H → Pv i H zs → tt (some (.int (lo + (i : Nat))) :: cp) H fun c H4 => if c = true then te (some (.int (lo + (i : Nat))) :: cp) H4 fun v H5 => CpN 1 cp H1 (Pv (i + 1)) (some (.int (lo + (i : Nat))) :: cp) H5 (zs ++ [v]) else CpN 1 cp H1 (Pv (i + 1)) (some (.int (lo + (i : Nat))) :: cp) H4 zs)
    (done : ∀ H zs, Same H1 H → Pv n H zs → ∀ p, H p = none → Q (.ref p) (upd H p (.lst zs))) :
    ∃ W : Nat → Nat → St → Hp → List V → Prop, (∃ m, W 0 m (List.replicate 1 none ++ cp) H1 []) ∧ CompW (Itr lo n) (gName 0) tt te Q W := by
  refine comp_any (n := n) Pv hz h0 hlen (fun i H sm hi => hi) (fun H sm => Nat.le_refl _) (fun i o H zs hi ho sm pv x H2 y => ?_) done
  obtain ⟨w, rfl⟩ := one_of ho
  obtain ⟨rfl, rfl⟩ := y
  exact step i _ zs hi sm pv
end

/-! ### for over zip, enumerate -/
section
variable {K : PySem.W.Frag} {a l1 l2 : Addr} {xs ys : List V} {b b1 b2 : Bool} {tb : TS} {D : Ends} {σ : St} {H : Hp} {i j : Nat}
end
end L2
namespace L2
open PySem PySem.Spec PyProof.Rows
/-! ### isinstance of what is read -/
theorem kit_int_int (K : PySem.W.Frag) : PySem.W.kitOne K (.type "int") (.type "int") = some true := by kernel_rfl
theorem kit_int_bool (K : PySem.W.Frag) : PySem.W.kitOne K (.type "int") (.type "bool") = some false := by kernel_rfl
theorem kit_tuple_tuple (K : PySem.W.Frag) : PySem.W.kitOne K (.type "tuple") (.type "tuple") = some true := by kernel_rfl
theorem kit_str_int (K : PySem.W.Frag) : PySem.W.kitOne K (.type "str") (.type "int") = some false := by kernel_rfl
section
variable {X : Cx}
theorem call_isinstT {T : String} : CallR X (.builtin "isinstance") (fun xs H Q => ∃ a ys b, xs = [.ref a, .ty T] ∧ SqT X.K H a ys ∧ PySem.W.kitOne X.K (.type "tuple") (.type T) = some b ∧ Q (.bl b) H) := by
  intro pins s σ H vs us Q I r h
  obtain ⟨a, ys, b, rfl, hq, e, q⟩ := h
  obtain ⟨u, v, rfl, ru, rv⟩ := vals2 r
  cases ru
  cases rv
  obtain ⟨its, rr, ⟨o, h1, h2, _⟩, _⟩ := I.tuple hq
  exact PySem.W.kia_one PySem.W.kitx_tuple I.kIn ⟨o, h1, h2⟩ e (fun z => nomatch z) fun tk => ⟨.bl b, H, I.tok tk, rfl, q⟩
theorem call_isinstI {T : String} : CallR X (.builtin "isinstance") (fun xs H Q => ∃ i b, xs = [.int i, .ty T] ∧ PySem.W.kitOne X.K (.type "int") (.type T) = some b ∧ Q (.bl b) H) := by
  intro pins s σ H vs us Q I r h
  obtain ⟨i, b, rfl, e, q⟩ := h
  exact call_isinst pins s σ H _ us Q I r ⟨.int i, _, b, rfl, .int i, e, q⟩
end
/-! ### values -/
theorem relTy (n : String) : RelV (.ty n) (.type n) := rfl
/-- a name of a builtin type as a value -/
theorem pe_ty {X : Cx} {x : Str} {T : String} {pos : Pos} (hg : Gl X x) (hm : X.mg x = none) (hv : bootBuiltins x = some (.type T)) (hn : x ≠ "__name__" := by decide) (hd : (x == ("__debug__" : Str)) = false := by decide) : PE X (.Name x pos) (tC (.ty T)) := pe_bltn hg hm hv (relTy T) hn hd
end L2
namespace L2
open PySem PySem.Spec PyProof.Rows
/-! ### a display of written ints -/
noncomputable def constInts : List Expr → Option (List Int)
  | [] => some []
  | .Constant (.int i) _ _ :: es => (constInts es).map (i :: ·)
  | _ => none
theorem pa_ints {X : Cx} : ∀ (es : List Expr) (ns : List Int), constInts es = some ns → PA X es (fun _ H Q => Q (ns.map V.int) H)
  | [], ns, h => by
    cases h
    exact pa_nil
  | .Constant (.int i) j pos :: es, ns, h => by
    unfold constInts at h
    cases e : constInts es with
    | none => rw [e] at h; cases h
    | some ms =>
      rw [e] at h
      have h' : i :: ms = ns := Option.some.inj h
      subst h'
      exact pa_cons pe_int (pa_ints es ms e) rfl
  | .Constant .none _ _ :: _, _, h => by cases h
  | .Constant (.bool _) _ _ :: _, _, h => by cases h
  | .Constant (.str _) _ _ :: _, _, h => by cases h
  | .Constant (.bytes _) _ _ :: _, _, h => by cases h
  | .Constant .ellipsis _ _ :: _, _, h => by cases h
  | .Name .. :: _, _, h => by cases h
theorem hasT {K : PySem.W.Frag} {H : Hp} {x : V} {r : List Int} (h : HasD K H x (intsT r)) : ∃ a, x = .ref a ∧ SqT K H a (r.map V.int) := by
  unfold intsT at h
  cases h with
  | tuple hq ha => exact ⟨_, rfl, by rw [← ha.intsV]; exact hq⟩
theorem hasT_of {K : PySem.W.Frag} {H : Hp} {a : Addr} {r : List Int} (h : SqT K H a (r.map V.int)) : HasD K H (.ref a) (intsT r) := .tuple h (HasA.ints r)
/-- a fresh object is written again -/
theorem Same.write {H H' : Hp} {l : Addr} {o : HO} (sm : Same H H') (h : H l = none) : Same H (L2.upd H' l o) := fun b u e => by rw [upd_ne (ne_of_none e h)]; exact sm b u e
end L2

namespace L2
open PySem PySem.Spec PyProof.Rows
open Classical in
theorem iteNeD {d e : PySem.W.Dat} {A B : Prop} (h : d = e) (b : B) : if (if true = true then !decide (d = e) else decide (d = e)) = true then A else B := by
  subst h
  simp only [decide_true, Bool.not_true, if_true, Bool.false_eq_true, if_false]
  exact b
theorem kqd_ints (n : Nat) (ns : List Int) : (ns.map PySem.W.Dat.int).all (PySem.W.kqdOk n) = true := by
  rw [List.all_map]
  exact List.all_eq_true.mpr fun _ _ => by cases n <;> rfl
theorem kqd_rows (n : Nat) (rs : List (List Int)) : (rs.map intsT).all (PySem.W.kqdOk (n + 1)) = true := by
  rw [List.all_map]
  exact List.all_eq_true.mpr fun r _ => kqd_intsT n r
end L2

namespace L2
end L2
namespace L2
open PySem PySem.Spec PyProof.Rows
/-! ### the rules that name the written part, with it named: for a comprehension's block -/
section
variable {X : Cx} (K : PySem.W.Frag) (hK : X.K = K)
include hK
theorem ixL : IxR X (rIxL K) := hK ▸ ix_list
theorem ixT : IxR X (rIxT K) := hK ▸ ix_tup
theorem slL : SlR X (rSlL K) := hK ▸ sl_list
theorem cLen : CallR X (.builtin "len") (fun xs H Q => ∃ p ys, xs = [.ref p] ∧ (SqL K H p ys ∨ SqT K H p ys) ∧ Q (.int ys.length) H) := hK ▸ call_len_seq
theorem cList : CallR X (.type "list") (fun xs H Q => ∃ p ys, xs = [.ref p] ∧ (SqL K H p ys ∨ SqT K H p ys) ∧ ∀ l, H l = none → Q (.ref l) (upd H l (.lst ys))) := hK ▸ call_list_of
theorem cTuple : CallR X (.type "tuple") (fun xs H Q => ∃ p ys, xs = [.ref p] ∧ ((SqL K H p ys ∧ ∀ l, H l = none → Q (.ref l) (upd H l (.tup ys))) ∨ (SqT K H p ys ∧ Q (.ref p) H))) := hK ▸ call_tuple_of
theorem cIsT {T : String} : CallR X (.builtin "isinstance") (fun xs H Q => ∃ a ys b, xs = [.ref a, .ty T] ∧ SqT K H a ys ∧ PySem.W.kitOne K (.type "tuple") (.type T) = some b ∧ Q (.bl b) H) := hK ▸ call_isinstT
theorem cIsI {T : String} : CallR X (.builtin "isinstance") (fun xs H Q => ∃ i b, xs = [.int i, .ty T] ∧ PySem.W.kitOne K (.type "int") (.type T) = some b ∧ Q (.bl b) H) := hK ▸ call_isinstI
theorem cSum (hc : X.calm = true) : CallR X (.builtin "sum") (fun xs H Q => ∃ p ns, xs = [.ref p] ∧ SqL K H p (List.map V.int ns) ∧ Q (.int ns.sum) H) := hK ▸ call_sum hc
theorem opNeD (hu : X.A.units + 64 < cLine) : OpR X (compareOp .NotEq) (rEqD K true) := hK ▸ op_neD hu
theorem opRepT : OpR X (binaryOp .Mult) (rRepT K) := hK ▸ op_repT
theorem opNotIn : OpR X (compareOp .NotIn) (rIn K true) := hK ▸ op_notIn_seq
theorem piList {tg l : Expr} {tl : TE} (hl : PE X l tl) : PI X tg l (iList K tl) := hK ▸ pi_list hl
theorem piTup {tg l : Expr} {tl : TE} (hl : PE X l tl) : PI X tg l (iTup K tl) := hK ▸ pi_tup hl
theorem pgTup {es : List Expr} {k : Nat} {t : TGs} {n : Nat} {pos : Pos} (hc : X.calm = true) (h : PGs X es t)
    (hn : (assignEach es X.env).length = n := by rfl) (hst : (assignEach es X.env).findIdx? (·.1) = none := by rfl) : PG X (.Tuple es k pos) (gTup K n t) := hK ▸ pg_tup hc h hn hst
end
theorem bt_tuple : bootBuiltins "tuple" = some (.type "tuple") := by decide +kernel
theorem bt_list : bootBuiltins "list" = some (.type "list") := by decide +kernel
theorem bt_int : bootBuiltins "int" = some (.type "int") := by decide +kernel
theorem bt_bool : bootBuiltins "bool" = some (.type "bool") := by decide +kernel
theorem bt_range : bootBuiltins "range" = some (.type "range") := by decide +kernel
theorem bt_isinstance : bootBuiltins "isinstance" = some (.builtin "isinstance") := by decide +kernel
theorem bt_sum : bootBuiltins "sum" = some (.builtin "sum") := by decide +kernel
theorem bt_len : bootBuiltins "len" = some (.builtin "len") := by decide +kernel
end L2
namespace L2
/-- a comprehension without a test -/
theorem tgo {σ : St} {H : Hp} {Y N : Hp → Prop} (h : Y H) : tTrue σ H (fun c H4 => if c = true then Y H4 else N H4) := by
  show if true = true then Y H else N H
  exact iteT h
end L2

namespace L2
open PySem
/-- a display of written ints, behind a wall (so that nobody runs it) -/
structure PAI (X : Cx) (es : List Expr) (ns : List Int) : Prop where
  get : PA X es (fun _ H Q => Q (ns.map V.int) H)
theorem pai {X : Cx} {es : List Expr} {ns : List Int} (h : constInts es = some ns) : PAI X es ns := ⟨pa_ints es ns h⟩
noncomputable def tInts (ns : List Int) : TE := tLst (fun _ H Q => Q (ns.map V.int) H)
theorem pe_ints {X : Cx} {es : List Expr} {ns : List Int} {pos : Pos} (h : PAI X es ns) : PE X (.List es pos) (tInts ns) := pe_lst h.get
end L2
namespace L2
open PySem PySem.Spec PyProof.Rows
set_option maxRecDepth 100000
/-! ### a, b = a list -/
section
variable {X : Cx} {pos : Pos}
noncomputable def gLst (K : PySem.W.Frag) (n : Nat) (t : TGs) : TG := fun v σ H Q => ∃ a xs, v = .ref a ∧ SqL K H a xs ∧ xs.length = n ∧ t xs σ H Q
theorem pg_lst {es : List Expr} {k n : Nat} {t : TGs} (hc : X.calm = true) (h : PGs X es t) (hn : (assignEach es X.env).length = n := by rfl) (hst : (assignEach es X.env).findIdx? (·.1) = none := by rfl) : PG X (.Tuple es k pos) (gLst X.K n t) := by
  rintro pins s σ H v u Q I r ⟨a, xs, rfl, hq, hl, hw⟩
  cases r
  obtain ⟨its, rv, pl, _⟩ := I.list hq
  have sz : its.toArray.size = n := by rw [List.size_toArray, ← rv.length, hl]
  rw [assign_Tuple]
  refine wpAny_bind (wpAny_standAt ?_)
  unfold unpack
  rw [hst, hn, ← sz]
  refine wpAny_bind (wpAny_holding (PySem.W.kun_itemsOf (I.ok.hd hc) pl.isList fun h' ex => ?_))
  exact h pins _ σ H xs _ Q (I.kept (t' := s.toks) fun b o e => ex b o (Nat.ne_of_lt (Heap.lt_size e)) e) (by simpa using rv) hw
end
/-! ### range(0, j, 2) -/
noncomputable def Itc (c : Int) (n : Nat) : It := ⟨fun i _ => i < n, fun i H x H' => H' = H ∧ x = .int (i * c), fun i _ => n ≤ i⟩
theorem turn_step {P : Program} {w : World} {K : PySem.W.Frag} {tg : Expr} (it : Addr) (c : Int) (n : Nat) : Turn P w K tg (Itc c n) [it] it (fun i h => IsRangeIter h it (0 + (i : Nat) * c) ((n : Int) - (i : Nat)) c) := by
  refine ⟨List.mem_singleton.mpr rfl, fun i h st b hb => ?_, fun i h h' st q => q it (List.mem_singleton.mpr rfl) _ st, ?_, ?_, fun _ _ _ _ _ st q => wpAny_pyIter_rangeiter st q⟩
  · cases List.mem_singleton.mp hb
    refine ⟨_, st, fun v q => ?_⟩
    have q' : Data.fields _ = Data.cell v := q
    cases q'
  · rintro X rfl rfl rfl hc i pins s σ H E I hf st hg
    obtain ⟨f0, f1, _, f3, f4, f5⟩ := hf it (List.mem_singleton.mpr rfl)
    refine (Walks.range (I.ok.hd hc) it 0 c n).item i s _ _ hg st fun v h' tk hv st' kk => ?_
    obtain ⟨t, rfl⟩ := hv
    have I1 := I.turned (h' := h') (t' := tk) (it := it) (fun b o hb e => kk b o (fun z => hb (List.mem_singleton.mp z)) e) f0 f1 f3 f4 f5
    exact ⟨_, rfl, go_of (s := { s with heap := h', toks := tk }) (n := "range_iterator") st' rfl rfl (by decide) ⟨.int (i * c), H, I1, ⟨t, by rw [Int.zero_add]⟩, ⟨rfl, rfl⟩, st', fun b hb => (hf b hb).1⟩⟩
  · rintro X rfl rfl rfl hc i pins s σ H E I hf st hg
    obtain ⟨f0, f1, _, f3, f4, f5⟩ := hf it (List.mem_singleton.mpr rfl)
    have hg : n ≤ i := hg
    exact wpAny_pyNext_range_end (I.ok.hd hc) st (by omega) fun h' eb => ⟨rfl, I.turned (t' := s.toks) (fun b o hb e => eb b o hb e) f0 f1 f3 f4 f5⟩
theorem vals_cons {x : V} {xs : List V} {us : List Value} (r : Vals (x :: xs) us) : ∃ u us', us = u :: us' ∧ RelV x u ∧ Vals xs us' := by
  cases r with
  | cons a b => exact ⟨_, _, rfl, a, b⟩
theorem for_step {c : Int} {n : Nat} {g : TG} {tb : TS} {D : Ends} {σ : St} {H : Hp} (Pv : Nat → St → Hp → Prop) (h0 : Pv 0 σ H)
    (hs : ∀ i σ H, i < n → Pv i σ H → g (.int (i * c)) σ H fun σ2 H2 => tb { D with nx := Pv (i + 1), ct := Pv (i + 1), bk := D.nx } σ2 H2) (hd : ∀ σ H, Pv n σ H → D.nx σ H) :
    ∃ W : Nat → Nat → St → Hp → Prop, (∃ m, W 0 m σ H) ∧ ∀ i m σ H, W i m σ H →
      ((Itc c n).stop i H ∧ D.nx σ H) ∨ ((Itc c n).go i H ∧ ∃ N : St → Hp → Prop, (∀ σ' H', N σ' H' → ∃ m', m' < m ∧ W (i + 1) m' σ' H') ∧ ∀ x H', (Itc c n).yld i H x H' → g x σ H' fun σ2 H2 => tb { D with nx := N, ct := N, bk := D.nx } σ2 H2) := by
  refine ⟨fun i m σ H => m + i = n ∧ Pv i σ H, ⟨n, rfl, h0⟩, ?_⟩
  rintro i m σ H ⟨e, p⟩
  cases m with
  | zero =>
    have : i = n := by omega
    subst this
    exact .inl ⟨Nat.le_refl _, hd σ H p⟩
  | succ m =>
    refine .inr ⟨show i < n by omega, Pv (i + 1), fun σ' H' p' => ⟨m, Nat.lt_succ_self _, by omega, p'⟩, ?_⟩
    rintro x H' ⟨rfl, rfl⟩
    exact hs i σ _ (by omega) p
end L2
namespace L2
open PySem PySem.Spec PyProof.Rows
set_option maxRecDepth 100000
/-! ### t + u of any two tuples -/
theorem add_none (l b : Addr) (its its2 : Array Value) (n n2 : Nat) (dd dd2 : Option Addr) (sl sl2 : Array (Option Value)) (he : its.isEmpty = true) :
    Meets (Builtin.«tuple.__add__» ⟨[.ref l, .ref b], []⟩) (fun _ R s => s.heap.get? l = some { cls := .type "tuple", dict := dd, data := .seq its n, slots := sl } ∧ s.heap.get? b = some { cls := .type "tuple", dict := dd2, data := .seq its2 n2, slots := sl2 } ∧ R (.ok (.ret (.ref b))) s) :=
  .of_wp fun _ _ _ _ s h => by
    obtain ⟨hpA, gA, dA, tkA, osA⟩ := s
    have at0 := h.1
    have at1 := h.2.1
    have f2 := AutoSeq1.sub_tuple_tuple
    wp_walk using AutoSeq1.wpAny_loadPart' at0, AutoSeq1.wpAny_loadPart' at1
    exact ⟨_, rfl, h.2.2⟩
noncomputable def rCatA (K : PySem.W.Frag) : R2 := fun x y H Q => ∃ a b xs ys, x = .ref a ∧ y = .ref b ∧ SqT K H a xs ∧ SqT K H b ys ∧ xs.length + ys.length ≤ sizeLine ∧ AnyT K H (xs ++ ys) Q
theorem op_catA {X : Cx} : OpR X (binaryOp .Add) (rCatA X.K) := by
  rintro pins s σ H x y v u Q I rx ry ⟨a, b, xs, ys, rfl, rfl, ha, hb, hz, q⟩
  by_cases hx : xs = []
  · subst hx
    cases rx
    cases ry
    obtain ⟨its, r1, ⟨⟨c1, d1, t1, s1⟩, o1, e1, n1, f1⟩, _⟩ := I.tuple ha
    obtain ⟨its2, r2, ⟨⟨c2, d2, t2, s2⟩, o2, e2, n2, f2⟩, _⟩ := I.tuple hb
    simp only at e1 f1 e2 f2
    subst e1 f1 e2 f2
    cases r1
    refine concat_meets ⟨_, o1, rfl⟩ ⟨_, o2, rfl⟩ noFill_tuple_add seq_tuple_add PySem.F.slot_tuple_add PySem.F.entry_tuple_add (PySem.F.args_tuple_add_2 _ _) (add_none a b _ _ _ _ d1 d2 s1 s2 rfl) ⟨o1, o2, ?_⟩
    exact ⟨.ref b, H, I, rfl, q.old hb⟩
  · refine op_catT pins s σ H _ _ v u Q I rx ry ⟨a, b, xs, ys, rfl, rfl, ha, hb, hx, hz, fun hy => ?_, fun _ p hp => q.new hp⟩
    subst hy
    exact q.old (by rw [List.append_nil]; exact ha)
theorem opCatA {X : Cx} (K : PySem.W.Frag) (hK : X.K = K) : OpR X (binaryOp .Add) (rCatA K) := hK ▸ op_catA
end L2
namespace L2
open PySem PySem.Spec PyProof.Rows
set_option maxRecDepth 100000
/-! ### all(a list of truths), any(..) -/
theorem bools_as : ∀ {bs : List Bool} {its : List Value}, Vals (bs.map V.bl) its → its = bs.map Value.bool
  | [], _, .nil => rfl
  | b :: bs, _, .cons r rr => by
    cases r
    rw [bools_as rr]; rfl
theorem rng_map (d : Bool) (bs : List Bool) : (List.range bs.length).map (fun i => (bs[i]?).getD d) = bs := by
  apply List.ext_getElem
  · simp
  · intro i h1 h2
    simp [List.getElem?_eq_getElem h2]
theorem rng_any (bs : List Bool) : ((List.range bs.length).any fun i => (bs[i]?).getD false) = bs.any id := by
  have e := congrArg (fun l => List.any l id) (rng_map false bs)
  rw [← e]
  simp only [List.any_map]; rfl
section
variable {X : Cx}
theorem call_any (hc : X.calm = true) : CallR X (.builtin "any") (fun xs H Q => ∃ p bs, xs = [.ref p] ∧ SqL X.K H p (List.map V.bl bs) ∧ Q (.bl (bs.any id)) H) := by
  intro pins s σ H vs us Q I r h
  obtain ⟨p, bs, rfl, hq, q⟩ := h
  obtain ⟨u, rfl, ru⟩ := vals1 r
  cases ru
  obtain ⟨its, rv, pl, hz⟩ := I.list hq
  have e := bools_as rv
  subst e
  have hl := pl.isList
  have hlt : p < s.heap.objs.size := by obtain ⟨_, e, _⟩ := hl; exact Heap.lt_size e
  apply call_any_walk
  apply wpAny_pyIter_list hl
  refine ⟨s.heap.objs.size, [s.heap.objs.size, p], [s.heap.objs.size], (bs.map Value.bool).toArray.size, _, _, fun i => (bs[i]?).getD false, rfl, Walks.list (A := X.A.in1) (I.ok.hd hc) _ p (Nat.ne_of_lt hlt) (bs.map Value.bool).toArray,
    ⟨⟨_, Heap.get?_push_size _ rfl, rfl, rfl⟩, hl.push _⟩, fun i v s1 Q1 E1 hP hQ => ?_, fun h1 tk1 hk => ?_⟩
  · have hP : (bs.map Value.bool)[i]? = some v := by simpa using hP
    rw [List.getElem?_map] at hP
    cases e : bs[i]? with
    | none => rw [e] at hP; cases hP
    | some b =>
      rw [e] at hP
      cases hP
      dsimp only at hQ
      rw [e, Option.getD_some] at hQ
      exact wpAny_truthy_bool hQ
  · have e : ((List.range (bs.map Value.bool).toArray.size).any fun i => (bs[i]?).getD false) = bs.any id := by
      rw [List.size_toArray, List.length_map]; exact rng_any bs
    rw [e]
    refine ⟨.bl _, H, I.kept (fun b x e => hk b x (fun hm => by rw [List.mem_singleton.mp hm] at e; exact Nat.lt_irrefl _ (Heap.lt_size e)) (Heap.get?_push_of_some _ e)), rfl, q⟩
theorem cAny (K : PySem.W.Frag) (hK : X.K = K) (hc : X.calm = true) : CallR X (.builtin "any") (fun xs H Q => ∃ p bs, xs = [.ref p] ∧ SqL K H p (List.map V.bl bs) ∧ Q (.bl (bs.any id)) H) := hK ▸ call_any hc
theorem bt_any : bootBuiltins "any" = some (.builtin "any") := by decide +kernel
end
end L2
/-! THE MATHEMATICS of rows of numbers (plain Lean). -/
namespace Bw
noncomputable def primesL : List Int := [2, 3, 5, 7, 11, 13, 17, 19, 23, 29, 31, 37, 41, 43, 47, 53, 59, 61, 67, 71, 73, 79, 83, 89, 97]
/-- the program's turned -/
noncomputable def turnI (p n : Int) : Nat → Int
  | 0 => 1
  | k + 1 => turnI p n k * n % p
noncomputable def turnM (p n : Int) : Int := turnI p n (p - 2).toNat
noncomputable def turnOk (p n : Int) : Bool := decide (1 ≤ turnM p n) && decide (turnM p n < p) && decide (turnM p n * n % p = 1)
theorem turn_all : (primesL.all fun p => (List.range p.toNat).all fun n => n == 0 || turnOk p n) = true := by decide +kernel
theorem prime_pos : ∀ p ∈ primesL, 2 ≤ p ∧ p ≤ 97 := by decide +kernel
theorem turn_ok {p n : Int} (hp : p ∈ primesL) (h1 : 1 ≤ n) (h2 : n < p) : 1 ≤ turnM p n ∧ turnM p n < p ∧ turnM p n * n % p = 1 := by
  have h := List.all_eq_true.mp turn_all p hp
  have h' := List.all_eq_true.mp h n.toNat (List.mem_range.mpr (by omega))
  have en : ((n.toNat : Nat) : Int) = n := by omega
  have n0 : (n.toNat == 0) = false := by simp; omega
  rw [n0, Bool.false_or, en] at h'
  unfold turnOk at h'
  simp only [decide_eq_true_eq, Bool.and_eq_true] at h'
  exact ⟨h'.1.1, h'.1.2, h'.2⟩
/-- the program's added, summed -/
noncomputable def addM (p : Int) (row : List Int) (f : Int) (other : List Int) : List Int := List.zipWith (fun a b => (a + f * b) % p) row other
noncomputable def sumM (p : Int) : List (List Int × Int) → List Int → List Int
  | [], t => t
  | (r, f) :: L, t => sumM p L (addM p t f r)
/-- a column's sum -/
noncomputable def colS (L : List (List Int × Int)) (j : Nat) : Int := (L.map fun q => q.1.getD j 0 * q.2).sum
theorem colS_cons (r : List Int) (f : Int) (L : List (List Int × Int)) (j : Nat) : colS ((r, f) :: L) j = r.getD j 0 * f + colS L j := by simp [colS]
theorem addM_map {p f : Int} {n : Nat} {r : List Int} (c : Nat → Int) (hr : r.length = n) : addM p ((List.range n).map fun j => c j % p) f r = (List.range n).map fun j => (c j + r.getD j 0 * f) % p := by
  apply List.ext_getElem
  · simp [addM, hr]
  · intro i h1 h2
    have hi : i < r.length := by simp [addM, hr] at h1; omega
    simp only [addM, List.getElem_zipWith, List.getElem_map, List.getElem_range]
    rw [List.getD_eq_getElem?_getD, List.getElem?_eq_getElem hi, Option.getD_some, Int.mul_comm f, Int.emod_add_emod]
theorem sumM_eq {p : Int} {n : Nat} : ∀ (L : List (List Int × Int)) (c : Nat → Int), (∀ q ∈ L, q.1.length = n) → sumM p L ((List.range n).map fun j => c j % p) = (List.range n).map fun j => (c j + colS L j) % p
  | [], c, _ => by simp [sumM, colS]
  | (r, f) :: L, c, h => by
    rw [sumM, addM_map c (h (r, f) List.mem_cons_self), sumM_eq L (fun j => c j + r.getD j 0 * f) fun q hq => h q (List.mem_cons_of_mem _ hq)]
    apply List.map_congr_left
    intro j _
    rw [colS_cons, Int.add_assoc]
theorem sumM_zero {p : Int} {n : Nat} (L : List (List Int × Int)) (h : ∀ q ∈ L, q.1.length = n) : sumM p L (List.replicate n 0) = (List.range n).map fun j => colS L j % p := by
  have e : List.replicate n (0 : Int) = (List.range n).map fun j => (fun _ => (0 : Int)) j % p := by
    apply List.ext_getElem
    · simp
    · intro i _ _; simp
  rw [e, sumM_eq L (fun _ => 0) h]
  apply List.map_congr_left
  intro j _
  rw [Int.zero_add]
end Bw
/-! THE MATHEMATICS 2: spans over a prime, echelons (plain Lean). -/
namespace Bw
noncomputable abbrev Fn := Nat → Int
noncomputable def eqm (p : Int) (u v : Fn) : Prop := ∀ j, p ∣ u j - v j
theorem dvd_mod (p a : Int) : p ∣ a % p - a := ⟨-(a / p), by
  have := Int.emod_add_mul_ediv a p
  rw [Int.mul_neg]
  omega⟩
theorem eqm.trans {p : Int} {u v w : Fn} (h : eqm p u v) (k : eqm p v w) : eqm p u w := fun j => by
  have := Int.dvd_add (h j) (k j)
  rwa [show u j - v j + (v j - w j) = u j - w j by omega] at this
/-- what vectors span -/
inductive Sp (p : Int) (R : Fn → Prop) : Fn → Prop
  | zero : Sp p R (fun _ => 0)
  | add {v r : Fn} (c : Int) : Sp p R v → R r → Sp p R (fun j => v j + c * r j)
  | cong {u v : Fn} : Sp p R v → eqm p v u → Sp p R u
section
variable {p : Int} {R R' : Fn → Prop}
theorem Sp.of_eq {u v : Fn} (h : Sp p R v) (e : ∀ j, v j = u j) : Sp p R u := .cong h fun j => ⟨0, by rw [e j]; omega⟩
theorem Sp.mem {r : Fn} (h : R r) : Sp p R r := (Sp.add 1 .zero h).of_eq fun j => by omega
theorem Sp.plus {u v : Fn} (c : Int) (hu : Sp p R u) (hv : Sp p R v) : Sp p R (fun j => u j + c * v j) := by
  induction hv with
  | zero => exact hu.of_eq fun j => by simp
  | @add v r d _ hr ih => exact (Sp.add (c * d) ih hr).of_eq fun j => by rw [Int.mul_add, ← Int.add_assoc, Int.mul_assoc]
  | @cong w v _ e ih =>
    refine .cong ih fun j => ?_
    have : p ∣ c * (v j - w j) := Int.dvd_mul_of_dvd_right (e j)
    rw [Int.mul_sub] at this
    rwa [show u j + c * v j - (u j + c * w j) = c * v j - c * w j by omega]
theorem Sp.trans {v : Fn} (h : ∀ r, R r → Sp p R' r) (hv : Sp p R v) : Sp p R' v := by
  induction hv with
  | zero => exact .zero
  | add c _ hr ih => exact ih.plus c (h _ hr)
  | cong _ e ih => exact .cong ih e
end
/-- a row as a vector -/
noncomputable def fn (r : List Int) : Fn := fun j => r.getD j 0
noncomputable def RS (L : List (List Int)) : Fn → Prop := fun f => ∃ r ∈ L, f = fn r
/-- rows of numbers of p -/
noncomputable def Rw (p : Int) (n : Nat) (r : List Int) : Prop := r.length = n ∧ ∀ x ∈ r, 0 ≤ x ∧ x < p
noncomputable def Rws (p : Int) (n : Nat) (L : List (List Int)) : Prop := ∀ r ∈ L, Rw p n r
theorem Rw.at {p : Int} {n : Nat} {r : List Int} (hp : 0 < p) (h : Rw p n r) (j : Nat) : 0 ≤ r.getD j 0 ∧ r.getD j 0 < p := by
  rw [List.getD_eq_getElem?_getD (i := j)]
  by_cases hj : j < r.length
  · rw [List.getElem?_eq_getElem hj]; exact h.2 _ (List.getElem_mem hj)
  · rw [List.getElem?_eq_none (by omega)]; exact ⟨Int.le_refl 0, hp⟩
theorem Rw.out {p : Int} {n : Nat} {r : List Int} (h : Rw p n r) {j : Nat} (hj : n ≤ j) : r.getD j 0 = 0 := by
  rw [List.getD_eq_getElem?_getD, List.getElem?_eq_none (by rw [h.1]; exact hj)]; rfl
theorem small_eq {p a b : Int} (h : p ∣ a - b) (a0 : 0 ≤ a) (a1 : a < p) (b0 : 0 ≤ b) (b1 : b < p) : a = b := by
  obtain ⟨c, hc⟩ := h
  have : c = 0 := by
    rcases Int.lt_trichotomy c 0 with h | h | h
    · have := Int.mul_le_mul_of_nonneg_left (show c ≤ -1 by omega) (show 0 ≤ p by omega)
      omega
    · exact h
    · have := Int.mul_le_mul_of_nonneg_left (show 1 ≤ c by omega) (show 0 ≤ p by omega)
      omega
  rw [this] at hc
  omega
theorem Rw.ext {p : Int} {n : Nat} {r s : List Int} (hp : 0 < p) (hr : Rw p n r) (hs : Rw p n s) (h : ∀ j, p ∣ r.getD j 0 - s.getD j 0) : r = s := by
  apply List.ext_getElem (by rw [hr.1, hs.1])
  intro i h1 h2
  have := small_eq (h i) (hr.at hp i).1 (hr.at hp i).2 (hs.at hp i).1 (hs.at hp i).2
  simpa [List.getD_eq_getElem?_getD, h1, h2] using this
/-! ### adding a row -/
theorem addM_at {p : Int} {n : Nat} {r o : List Int} (f : Int) (hr : r.length = n) (ho : o.length = n) (j : Nat) : (addM p r f o).getD j 0 = if j < n then (r.getD j 0 + f * o.getD j 0) % p else 0 := by
  by_cases hj : j < n
  · rw [if_pos hj]
    have h1 : j < r.length := by omega
    have h2 : j < o.length := by omega
    have h3 : j < (addM p r f o).length := by simp [addM]; omega
    rw [List.getD_eq_getElem?_getD, List.getElem?_eq_getElem h3, List.getD_eq_getElem?_getD, List.getElem?_eq_getElem h1, List.getD_eq_getElem?_getD, List.getElem?_eq_getElem h2]
    simp [addM]
  · rw [if_neg hj, List.getD_eq_getElem?_getD, List.getElem?_eq_none (by simp [addM]; omega)]; rfl
theorem addM_Rw {p : Int} {n : Nat} {r o : List Int} (f : Int) (hp : 0 < p) (hr : r.length = n) (ho : o.length = n) : Rw p n (addM p r f o) := by
  refine ⟨by simp [addM]; omega, fun x hx => ?_⟩
  obtain ⟨i, hi, rfl⟩ := List.mem_iff_getElem.mp hx
  simp only [addM, List.getElem_zipWith]
  exact ⟨Int.emod_nonneg _ (show p ≠ 0 by omega), Int.emod_lt_of_pos _ hp⟩
theorem addM_eqm {p : Int} {n : Nat} {r o : List Int} (f : Int) (hr : r.length = n) (ho : o.length = n) : eqm p (fun j => fn r j + f * fn o j) (fn (addM p r f o)) := fun j => by
  show p ∣ r.getD j 0 + f * o.getD j 0 - (addM p r f o).getD j 0
  rw [addM_at f hr ho]
  by_cases hj : j < n
  · rw [if_pos hj]
    have := Int.dvd_neg.mpr (dvd_mod p (r.getD j 0 + f * o.getD j 0))
    rwa [show -((r.getD j 0 + f * o.getD j 0) % p - (r.getD j 0 + f * o.getD j 0)) = r.getD j 0 + f * o.getD j 0 - (r.getD j 0 + f * o.getD j 0) % p by omega] at this
  · rw [if_neg hj]
    have e1 : r.getD j 0 = 0 := by rw [List.getD_eq_getElem?_getD, List.getElem?_eq_none (by omega)]; rfl
    have e2 : o.getD j 0 = 0 := by rw [List.getD_eq_getElem?_getD, List.getElem?_eq_none (by omega)]; rfl
    rw [e1, e2]
    exact ⟨0, by simp⟩
/-- the program's cleared -/
noncomputable def clearM (p : Int) (lead : List Int) (place : Nat) (row : List Int) : List Int := if row.getD place 0 ≠ 0 then addM p row (-(row.getD place 0)) lead else row
section
variable {p : Int} {n place : Nat} {lead row : List Int}
theorem clearM_Rw (hp : 0 < p) (hl : Rw p n lead) (hr : Rw p n row) : Rw p n (clearM p lead place row) := by
  unfold clearM; split
  · exact addM_Rw _ hp hr.1 hl.1
  · exact hr
theorem clearM_eqm (hl : Rw p n lead) (hr : Rw p n row) : eqm p (fun j => fn row j + -(row.getD place 0) * fn lead j) (fn (clearM p lead place row)) := by
  unfold clearM; split
  · exact addM_eqm _ hr.1 hl.1
  · rename_i h
    have h0 : row.getD place 0 = 0 := by simpa using h
    rw [h0]
    intro j
    exact ⟨0, by simp⟩
theorem clearM_at (hl : Rw p n lead) (hr : Rw p n row) {j : Nat} (hj : lead.getD j 0 = 0) (hp : 0 < p) : (clearM p lead place row).getD j 0 = row.getD j 0 := by
  unfold clearM; split
  · rw [addM_at _ hr.1 hl.1, hj, Int.mul_zero, Int.add_zero]
    by_cases h : j < n
    · rw [if_pos h]; exact Int.emod_eq_of_lt (hr.at hp j).1 (hr.at hp j).2
    · rw [if_neg h, hr.out (by omega)]
  · rfl
theorem clearM_place (hl : Rw p n lead) (hr : Rw p n row) (h1 : lead.getD place 0 = 1) : (clearM p lead place row).getD place 0 = 0 := by
  unfold clearM; split
  · rw [addM_at _ hr.1 hl.1, h1]
    split
    · rw [Int.mul_one, show row.getD place 0 + -(row.getD place 0) = 0 by omega]; exact Int.zero_emod p
    · rfl
  · rename_i h
    simpa using h
end
/-! ### the program's reduced -/
noncomputable def leadM (p : Int) (n : Nat) (h : List Int) (place : Nat) : List Int := sumM p [(h, turnM p (h.getD place 0))] (List.replicate n 0)
noncomputable def stepM (p : Int) (n : Nat) (st : List (List Int) × List (List Int)) (place : Nat) : List (List Int) × List (List Int) :=
  match st.2.filter fun r => r.getD place 0 ≠ 0 with
  | [] => st
  | h :: _ => (st.1.map (clearM p (leadM p n h place) place) ++ [leadM p n h place], st.2.map (clearM p (leadM p n h place) place))
noncomputable def redI (p : Int) (n : Nat) (L : List (List Int)) : Nat → List (List Int) × List (List Int)
  | 0 => ([], L)
  | k + 1 => stepM p n (redI p n L k) k
noncomputable def lenM (L : List (List Int)) : Nat := (L.head?.map List.length).getD 0
noncomputable def redM (p : Int) (L : List (List Int)) : List (List Int) := (redI p (lenM L) L (lenM L)).1
/-- an echelon: each row with its lead -/
structure Ech (n k : Nat) (D : List (List Int)) (ls : List Nat) : Prop where
  len : ls.length = D.length
  up : ls.Pairwise (· < ·)
  lt : ∀ l ∈ ls, l < k
  one : ∀ (i : Nat) (r : List Int) (l : Nat), D[i]? = some r → ls[i]? = some l → r.getD l 0 = 1 ∧ ∀ j, j < l → r.getD j 0 = 0
  alone : ∀ (i i' : Nat) (r : List Int) (l : Nat), i ≠ i' → D[i']? = some r → ls[i]? = some l → r.getD l 0 = 0
theorem leadM_at {p : Int} {n place : Nat} {h : List Int} (hh : Rw p n h) (j : Nat) : (leadM p n h place).getD j 0 = if j < n then h.getD j 0 * turnM p (h.getD place 0) % p else 0 := by
  unfold leadM
  rw [sumM_zero _ (fun q hq => by rw [List.mem_singleton.mp hq]; exact hh.1)]
  by_cases hj : j < n
  · rw [if_pos hj]; simp [List.getD_eq_getElem?_getD, hj, colS]
  · rw [if_neg hj]; simp [List.getD_eq_getElem?_getD, hj]
theorem leadM_Rw {p : Int} {n place : Nat} {h : List Int} (hp : 0 < p) (hh : Rw p n h) : Rw p n (leadM p n h place) := by
  unfold leadM
  rw [sumM_zero _ (fun q hq => by rw [List.mem_singleton.mp hq]; exact hh.1)]
  refine ⟨by simp, fun x hx => ?_⟩
  obtain ⟨j, _, rfl⟩ := List.mem_map.mp hx
  exact ⟨Int.emod_nonneg _ (show p ≠ 0 by omega), Int.emod_lt_of_pos _ hp⟩
theorem leadM_eqm {p : Int} {n place : Nat} {h : List Int} (hh : Rw p n h) : eqm p (fun j => turnM p (h.getD place 0) * fn h j) (fn (leadM p n h place)) := fun j => by
  show p ∣ turnM p (h.getD place 0) * h.getD j 0 - (leadM p n h place).getD j 0
  rw [leadM_at hh, Int.mul_comm]
  by_cases hj : j < n
  · rw [if_pos hj]
    have := Int.dvd_neg.mpr (dvd_mod p (h.getD j 0 * turnM p (h.getD place 0)))
    rwa [show -(h.getD j 0 * turnM p (h.getD place 0) % p - h.getD j 0 * turnM p (h.getD place 0)) = h.getD j 0 * turnM p (h.getD place 0) - h.getD j 0 * turnM p (h.getD place 0) % p by omega] at this
  · rw [if_neg hj, hh.out (by omega)]; exact ⟨0, by simp⟩
structure RedOk (p : Int) (n : Nat) (L : List (List Int)) (k : Nat) (st : List (List Int) × List (List Int)) : Prop where
  d : Rws p n st.1
  r : Rws p n st.2
  z : ∀ r ∈ st.2, ∀ j, j < k → r.getD j 0 = 0
  ech : ∃ ls, Ech n k st.1 ls
  sub : ∀ r ∈ st.1 ++ st.2, Sp p (RS L) (fn r)
  sup : ∀ r ∈ L, Sp p (RS (st.1 ++ st.2)) (fn r)
theorem step_ok {p : Int} {n k : Nat} {L : List (List Int)} {st : List (List Int) × List (List Int)} (hp : p ∈ primesL) (hk : k + 1 ≤ n) (I : RedOk p n L k st) : RedOk p n L (k + 1) (stepM p n st k) := by
    have p0 : 0 < p := by have := prime_pos p hp; omega
    obtain ⟨D, T⟩ := st
    unfold stepM
    dsimp only
    cases hf : T.filter fun r => r.getD k 0 ≠ 0 with
    | nil =>
      dsimp only
      obtain ⟨ls, E⟩ := I.ech
      refine ⟨I.d, I.r, fun r hr j hj => ?_, ⟨ls, E.len, E.up, fun l hl => Nat.lt_succ_of_lt (E.lt l hl), E.one, E.alone⟩, I.sub, I.sup⟩
      by_cases hjk : j < k
      · exact I.z r hr j hjk
      · have ej : j = k := by omega
        subst ej
        by_cases h0 : r.getD j 0 = 0
        · exact h0
        · have : r ∈ T.filter fun r => r.getD j 0 ≠ 0 := List.mem_filter.mpr ⟨hr, by simpa using h0⟩
          rw [hf] at this; cases this
    | cons h rest =>
      dsimp only
      have hm : h ∈ T.filter fun r => r.getD k 0 ≠ 0 := by rw [hf]; exact List.mem_cons_self
      obtain ⟨hT, hk0⟩ := List.mem_filter.mp hm
      have hk0' : h.getD k 0 ≠ 0 := by simpa using hk0
      have hh := I.r h hT
      have hlR : Rw p n (leadM p n h k) := leadM_Rw p0 hh
      have hb := hh.at p0 k
      obtain ⟨t1, t2, t3⟩ := turn_ok hp (show 1 ≤ h.getD k 0 by omega) hb.2
      have l1 : (leadM p n h k).getD k 0 = 1 := by rw [leadM_at hh, if_pos (by omega), Int.mul_comm]; exact t3
      have l0 : ∀ j, j < k → (leadM p n h k).getD j 0 = 0 := fun j hj => by
        rw [leadM_at hh, I.z h hT j hj, Int.zero_mul]; split
        · exact Int.zero_emod p
        · rfl
      have hlS : ∀ {Q : Fn → Prop}, Sp p Q (fn h) → Sp p Q (fn (leadM p n h k)) := fun q => .cong (((Sp.zero).plus (turnM p (h.getD k 0)) q).of_eq fun j => by rw [Int.zero_add]) (leadM_eqm hh)
      have hhS : ∀ {Q : Fn → Prop}, Sp p Q (fn (leadM p n h k)) → Sp p Q (fn h) := fun {Q} q => by
        refine .cong (((Sp.zero).plus (h.getD k 0) q)) fun j => ?_
        rw [Int.zero_add]
        show p ∣ h.getD k 0 * (leadM p n h k).getD j 0 - h.getD j 0
        have a := leadM_eqm (place := k) hh j
        have a' : p ∣ h.getD k 0 * (turnM p (h.getD k 0) * fn h j - fn (leadM p n h k) j) := Int.dvd_mul_of_dvd_right a
        rw [Int.mul_sub] at a'
        have t4 : p ∣ turnM p (h.getD k 0) * h.getD k 0 - 1 := by
          have z := Int.dvd_neg.mpr (dvd_mod p (turnM p (h.getD k 0) * h.getD k 0))
          rw [t3] at z
          rwa [show -(1 - turnM p (h.getD k 0) * h.getD k 0) = turnM p (h.getD k 0) * h.getD k 0 - 1 by omega] at z
        have b : p ∣ h.getD j 0 * (turnM p (h.getD k 0) * h.getD k 0 - 1) := Int.dvd_mul_of_dvd_right t4
        have c := Int.dvd_sub b a'
        have e : h.getD j 0 * (turnM p (h.getD k 0) * h.getD k 0 - 1) - (h.getD k 0 * (turnM p (h.getD k 0) * fn h j) - h.getD k 0 * fn (leadM p n h k) j) = h.getD k 0 * (leadM p n h k).getD j 0 - h.getD j 0 := by
          show h.getD j 0 * (turnM p (h.getD k 0) * h.getD k 0 - 1) - (h.getD k 0 * (turnM p (h.getD k 0) * h.getD j 0) - h.getD k 0 * (leadM p n h k).getD j 0) = _
          rw [Int.mul_sub, Int.mul_one, Int.mul_left_comm (h.getD k 0), Int.mul_comm (h.getD j 0) (turnM p (h.getD k 0) * h.getD k 0), Int.mul_assoc]
          omega
        rwa [e] at c
      generalize leadM p n h k = lead at hlR l1 l0 hlS hhS ⊢
      obtain ⟨ls, E⟩ := I.ech
      have elen : ls.length = D.length := E.len
      have hD : ∀ r ∈ D, Rw p n r := I.d
      have hTr : ∀ r ∈ T, Rw p n r := I.r
      have spT : Sp p (RS L) (fn h) := I.sub h (List.mem_append_right _ hT)
      have spL := hlS spT
      have clS : ∀ {Q : Fn → Prop} {r : List Int}, Rw p n r → Sp p Q (fn r) → Sp p Q (fn lead) → Sp p Q (fn (clearM p lead k r)) := fun hr a b => .cong (a.plus _ b) (clearM_eqm hlR hr)
      have unS : ∀ {Q : Fn → Prop} {r : List Int}, Rw p n r → Sp p Q (fn (clearM p lead k r)) → Sp p Q (fn lead) → Sp p Q (fn r) := fun {Q r} hr a b => by
        refine .cong (a.plus (r.getD k 0) b) fun j => ?_
        have q := (clearM_eqm (place := k) hlR hr j)
        have q' := Int.dvd_neg.mpr q
        rwa [show -(fn r j + -(r.getD k 0) * fn lead j - fn (clearM p lead k r) j) = fn (clearM p lead k r) j + r.getD k 0 * fn lead j - fn r j by rw [Int.neg_mul]; omega] at q'
      refine ⟨fun r hr => ?_, fun r hr => ?_, fun r hr j hj => ?_, ⟨ls ++ [k], ?_, ?_, ?_, ?_, ?_⟩, fun r hr => ?_, fun r hr => ?_⟩
      · rcases (List.mem_append.mp hr) with (hr | hr)
        · obtain ⟨r0, h0, rfl⟩ := List.mem_map.mp hr
          exact clearM_Rw p0 hlR (hD r0 h0)
        · rw [List.mem_singleton.mp hr]; exact hlR
      · obtain ⟨r0, h0, rfl⟩ := List.mem_map.mp hr
        exact clearM_Rw p0 hlR (hTr r0 h0)
      · obtain ⟨r0, h0, rfl⟩ := List.mem_map.mp hr
        by_cases hjk : j < k
        · rw [clearM_at hlR (hTr r0 h0) (l0 j hjk) p0]; exact I.z r0 h0 j hjk
        · have ej : j = k := by omega
          subst ej
          exact clearM_place hlR (hTr r0 h0) l1
      · simp [E.len]
      · refine List.pairwise_append.mpr ⟨E.up, by simp, fun a ha b hb => ?_⟩
        rw [List.mem_singleton.mp hb]; exact E.lt a ha
      · intro l hl
        rcases (List.mem_append.mp hl) with (hl | hl)
        · exact Nat.lt_succ_of_lt (E.lt l hl)
        · rw [List.mem_singleton.mp hl]; exact Nat.lt_succ_self k
      · intro i r l hr hl
        by_cases hi : i < D.length
        · rw [List.getElem?_append_left (by simpa using hi), List.getElem?_map, List.getElem?_eq_getElem hi] at hr
          rw [List.getElem?_append_left (by rw [elen]; exact hi)] at hl
          cases hr
          have hlk : l < k := E.lt l (List.mem_of_getElem? hl)
          obtain ⟨o1, o2⟩ := E.one i _ l (List.getElem?_eq_getElem hi) hl
          have rD := hD _ (List.getElem_mem hi)
          refine ⟨by rw [clearM_at hlR rD (l0 l hlk) p0]; exact o1, fun j hj => ?_⟩
          rw [clearM_at hlR rD (l0 j (by omega)) p0]; exact o2 j hj
        · rw [List.getElem?_append_right (by simpa using hi), List.length_map] at hr
          rw [List.getElem?_append_right (by omega), elen] at hl
          have e0 : i - D.length = 0 := by
            have := (List.getElem?_eq_some_iff.mp hr).1
            simp at this; omega
          rw [e0] at hr hl
          simp at hr hl
          subst hr hl
          exact ⟨l1, l0⟩
      · intro i i' r l hne hr hl
        by_cases hi : i < ls.length
        · rw [List.getElem?_append_left hi] at hl
          have hlk : l < k := E.lt l (List.mem_of_getElem? hl)
          by_cases hi' : i' < D.length
          · rw [List.getElem?_append_left (by simpa using hi'), List.getElem?_map, List.getElem?_eq_getElem hi'] at hr
            cases hr
            rw [clearM_at hlR (hD _ (List.getElem_mem hi')) (l0 l hlk) p0]
            exact E.alone i i' _ l hne (List.getElem?_eq_getElem hi') hl
          · rw [List.getElem?_append_right (by simpa using hi'), List.length_map] at hr
            have e0 : i' - D.length = 0 := by
              have := (List.getElem?_eq_some_iff.mp hr).1
              simp at this; omega
            rw [e0] at hr
            simp at hr
            subst hr
            exact l0 l hlk
        · rw [List.getElem?_append_right (by omega)] at hl
          have e0 : i - ls.length = 0 := by
            have := (List.getElem?_eq_some_iff.mp hl).1
            simp at this; omega
          rw [e0] at hl
          simp at hl
          subst hl
          by_cases hi' : i' < D.length
          · rw [List.getElem?_append_left (by simpa using hi'), List.getElem?_map, List.getElem?_eq_getElem hi'] at hr
            cases hr
            exact clearM_place hlR (hD _ (List.getElem_mem hi')) l1
          · rw [List.getElem?_append_right (by simpa using hi'), List.length_map] at hr
            have e1 : i' - D.length = 0 := by
              have := (List.getElem?_eq_some_iff.mp hr).1
              simp at this; omega
            omega
      · rcases (List.mem_append.mp hr) with (hr | hr)
        · rcases (List.mem_append.mp hr) with (hr | hr)
          · obtain ⟨r0, h0, rfl⟩ := List.mem_map.mp hr
            exact clS (hD r0 h0) (I.sub r0 (List.mem_append_left _ h0)) spL
          · rw [List.mem_singleton.mp hr]; exact spL
        · obtain ⟨r0, h0, rfl⟩ := List.mem_map.mp hr
          exact clS (hTr r0 h0) (I.sub r0 (List.mem_append_right _ h0)) spL
      · refine Sp.trans (fun f hf => ?_) (I.sup r hr)
        obtain ⟨r0, h0, rfl⟩ := hf
        have hL1 : Sp p (RS (D.map (clearM p lead k) ++ [lead] ++ T.map (clearM p lead k))) (fn lead) := .mem ⟨lead, by simp, rfl⟩
        rcases (List.mem_append.mp h0) with (h0 | h0)
        · exact unS (hD r0 h0) (.mem ⟨_, by simp; exact .inl ⟨r0, h0, rfl⟩, rfl⟩) hL1
        · exact unS (hTr r0 h0) (.mem ⟨_, by simp; exact .inr (.inr ⟨r0, h0, rfl⟩), rfl⟩) hL1

theorem redI_ok {p : Int} {n : Nat} {L : List (List Int)} (hp : p ∈ primesL) (hL : Rws p n L) : ∀ k, k ≤ n → RedOk p n L k (redI p n L k)
  | 0, _ => ⟨fun r hr => absurd hr (by simp [redI]), by simpa [redI] using hL, fun r _ j hj => absurd hj (by omega), ⟨[], by simp [redI], .nil, by simp, by simp [redI], by simp⟩,
      fun r hr => .mem ⟨r, by simpa [redI] using hr, rfl⟩, fun r hr => .mem ⟨r, by simpa [redI] using hr, rfl⟩⟩
  | k + 1, hk => step_ok hp hk (redI_ok hp hL k (by omega))
/-! ### coefficients -/
/-- a finite sum -/
noncomputable def Sg (f : Nat → Int) : Nat → Int
  | 0 => 0
  | n + 1 => Sg f n + f n
theorem Sg_zero {f : Nat → Int} {n : Nat} (h : ∀ i, i < n → f i = 0) : Sg f n = 0 := by
  induction n with
  | zero => rfl
  | succ n ih => rw [Sg, ih fun i hi => h i (by omega), h n (by omega)]; rfl
theorem Sg_add (f g : Nat → Int) (n : Nat) : Sg (fun i => f i + g i) n = Sg f n + Sg g n := by
  induction n with
  | zero => rfl
  | succ n ih => rw [Sg, ih, Sg, Sg]; omega
theorem Sg_dvd {p : Int} {f : Nat → Int} {n : Nat} (h : ∀ i, i < n → p ∣ f i) : p ∣ Sg f n := by
  induction n with
  | zero => exact ⟨0, by simp [Sg]⟩
  | succ n ih => rw [Sg]; exact Int.dvd_add (ih fun i hi => h i (by omega)) (h n (by omega))
/-- the sum but for one place -/
theorem Sg_one {f : Nat → Int} {n l : Nat} (hl : l < n) : Sg f n = f l + Sg (fun i => if i = l then 0 else f i) n := by
  induction n with
  | zero => omega
  | succ n ih =>
    by_cases h : l = n
    · subst h
      rw [Sg, Sg, if_pos rfl]
      have e : Sg (fun i => if i = l then 0 else f i) l = Sg f l := by
        have : ∀ m, m ≤ l → Sg (fun i => if i = l then 0 else f i) m = Sg f m := by
          intro m
          induction m with
          | zero => intro _; rfl
          | succ m ih => intro hm; rw [Sg, Sg, ih (by omega), if_neg (by omega)]
        exact this l (Nat.le_refl l)
      rw [e]; omega
    · rw [Sg, Sg, ih (by omega), if_neg (fun z => h z.symm)]; omega
/-- rows by their leads -/
noncomputable def ES (n : Nat) (e : Nat → Option (List Int)) : Fn → Prop := fun f => ∃ l r, l < n ∧ e l = some r ∧ f = fn r
noncomputable def eAt (e : Nat → Option (List Int)) (l j : Nat) : Int := match e l with | some r => r.getD j 0 | none => 0
theorem ES.coeff {p : Int} {n : Nat} {e : Nat → Option (List Int)} {v : Fn} (h : Sp p (ES n e) v) : ∃ c : Nat → Int, eqm p (fun j => Sg (fun l => c l * eAt e l j) n) v := by
  induction h with
  | zero => exact ⟨fun _ => 0, fun j => ⟨0, by simp [Sg_zero]⟩⟩
  | @add v r d _ hr ih =>
    obtain ⟨c, hc⟩ := ih
    obtain ⟨l, row, hl, he, rfl⟩ := hr
    refine ⟨fun i => c i + if i = l then d else 0, fun j => ?_⟩
    have e1 : Sg (fun i => (c i + if i = l then d else 0) * eAt e i j) n = Sg (fun i => c i * eAt e i j) n + d * fn row j := by
      have e2 : (fun i => (c i + if i = l then d else 0) * eAt e i j) = fun i => c i * eAt e i j + (if i = l then d * fn row j else 0) := by
        funext i
        by_cases hi : i = l
        · subst hi
          rw [if_pos rfl, if_pos rfl, Int.add_mul]
          congr 1
          simp [eAt, he, fn]
        · rw [if_neg hi, if_neg hi, Int.add_zero, Int.add_zero]
      rw [e2, Sg_add]
      congr 1
      rw [Sg_one hl, if_pos rfl, Sg_zero fun i _ => by by_cases hi : i = l <;> simp [hi]]
      omega
    show p ∣ Sg (fun i => (c i + if i = l then d else 0) * eAt e i j) n - (v j + d * fn row j)
    rw [e1, show Sg (fun i => c i * eAt e i j) n + d * fn row j - (v j + d * fn row j) = Sg (fun i => c i * eAt e i j) n - v j by omega]
    exact hc j
  | cong _ q ih =>
    obtain ⟨c, hc⟩ := ih
    exact ⟨c, hc.trans q⟩
/-- each row has 1 at its lead and 0 ahead of it -/
structure Lead (n : Nat) (e : Nat → Option (List Int)) : Prop where
  one : ∀ l r, e l = some r → l < n → r.getD l 0 = 1 ∧ ∀ j, j < l → r.getD j 0 = 0
/-- what is 0 at all leads is 0 -/
theorem Lead.zero {p : Int} {n : Nat} {e : Nat → Option (List Int)} {v : Fn} (E : Lead n e) (h : Sp p (ES n e) v) (hz : ∀ l r, l < n → e l = some r → p ∣ v l) : ∀ j, p ∣ v j := by
  obtain ⟨c, hc⟩ := ES.coeff h
  have all : ∀ m, m ≤ n → ∀ l, l < m → ∀ j, p ∣ c l * eAt e l j := by
    intro m
    induction m with
    | zero => intro _ l hl; omega
    | succ m ih =>
      intro hm l hl j
      by_cases hlm : l < m
      · exact ih (by omega) l hlm j
      · have el : l = m := by omega
        subst el
        cases hr : e l with
        | none => exact ⟨0, by simp [eAt, hr]⟩
        | some r =>
          obtain ⟨o1, o2⟩ := E.one l r hr (by omega)
          have s := hc l
          dsimp only at s
          rw [Sg_one (show l < n by omega)] at s
          have rest : p ∣ Sg (fun i => if i = l then 0 else c i * eAt e i l) n := Sg_dvd fun i hi => by
            by_cases h1 : i = l
            · rw [if_pos h1]; exact ⟨0, by simp⟩
            · rw [if_neg h1]
              by_cases h2 : i < l
              · exact ih (by omega) i h2 l
              · cases hi2 : e i with
                | none => exact ⟨0, by simp [eAt, hi2]⟩
                | some r2 =>
                  have := (E.one i r2 hi2 hi).2 l (by omega)
                  refine ⟨0, ?_⟩
                  simp only [eAt, hi2, this, Int.mul_zero]
          have e1 : eAt e l l = 1 := by simp only [eAt, hr]; exact o1
          rw [e1, Int.mul_one] at s
          have k := Int.dvd_add (Int.dvd_sub s rest) (hz l r (by omega) hr)
          rw [show c l + Sg (fun i => if i = l then 0 else c i * eAt e i l) n - v l - Sg (fun i => if i = l then 0 else c i * eAt e i l) n + v l = c l by omega] at k
          exact Int.dvd_mul_of_dvd_left k
  intro j
  have s := hc j
  dsimp only at s
  have t : p ∣ Sg (fun l => c l * eAt e l j) n := Sg_dvd fun i hi => all n (Nat.le_refl n) i hi j
  have k := Int.dvd_sub t s
  rwa [show Sg (fun l => c l * eAt e l j) n - (Sg (fun l => c l * eAt e l j) n - v j) = v j by omega] at k
end Bw
/-! THE MATHEMATICS 3: the reduced list is one; a list kept by first places. -/
namespace Bw
theorem fn_zero {p : Int} {n : Nat} {r : List Int} (h : Rw p n r) (hz : ∀ j, j < n → r.getD j 0 = 0) (j : Nat) : fn r j = 0 := by
  by_cases hj : j < n
  · exact hz j hj
  · exact h.out (by omega)
/-- the echelon as a map from its leads -/
noncomputable def eOf : List (List Int) → List Nat → Nat → Option (List Int)
  | r :: D, l :: ls, i => if i = l then some r else eOf D ls i
  | _, _, _ => none
theorem eOf_some : ∀ {D : List (List Int)} {ls : List Nat} {l : Nat} {r : List Int}, eOf D ls l = some r → ∃ (i : Nat), D[i]? = some r ∧ ls[i]? = some l
  | [], _, _, _, h => by simp [eOf] at h
  | _ :: _, [], _, _, h => by simp [eOf] at h
  | q :: D, m :: ls, l, r, h => by
    rw [eOf] at h
    by_cases e : l = m
    · rw [if_pos e] at h; cases h; exact ⟨0, rfl, by rw [e]; rfl⟩
    · rw [if_neg e] at h
      obtain ⟨i, h1, h2⟩ := eOf_some h
      exact ⟨i + 1, by simpa using h1, by simpa using h2⟩
theorem eOf_at : ∀ {D : List (List Int)} {ls : List Nat} {i l : Nat} {r : List Int}, ls.Pairwise (· < ·) → D[i]? = some r → ls[i]? = some l → eOf D ls l = some r
  | [], _, _, _, _, _, h, _ => by simp at h
  | _ :: _, [], _, _, _, _, _, h => by simp at h
  | q :: D, m :: ls, 0, l, r, _, h1, h2 => by simp at h1 h2; subst h1 h2; simp [eOf]
  | q :: D, m :: ls, i + 1, l, r, hp, h1, h2 => by
    have hl : ls[i]? = some l := by simpa using h2
    have : m < l := (List.pairwise_cons.mp hp).1 l (List.mem_of_getElem? hl)
    rw [eOf, if_neg (by omega)]
    exact eOf_at (List.pairwise_cons.mp hp).2 (by simpa using h1) hl
theorem Ech.lead {n k : Nat} {D : List (List Int)} {ls : List Nat} (E : Ech n k D ls) : Lead k (eOf D ls) := ⟨fun l r h _ => by
  obtain ⟨i, h1, h2⟩ := eOf_some h
  exact E.one i r l h1 h2⟩
theorem Ech.sp {p : Int} {n k : Nat} {D : List (List Int)} {ls : List Nat} (E : Ech n k D ls) {v : Fn} (h : Sp p (RS D) v) : Sp p (ES k (eOf D ls)) v := h.trans fun f hf => by
  obtain ⟨r, hr, rfl⟩ := hf
  obtain ⟨i, hi, rfl⟩ := List.mem_iff_getElem.mp hr
  have hl : i < ls.length := by rw [E.len]; exact hi
  exact .mem ⟨ls[i], D[i], E.lt _ (List.getElem_mem hl), eOf_at E.up (List.getElem?_eq_getElem hi) (List.getElem?_eq_getElem hl), rfl⟩
/-- what the program's reduced list is -/
structure Redu (p : Int) (n : Nat) (L D : List (List Int)) : Prop where
  rws : Rws p n D
  ech : ∃ ls, Ech n n D ls
  sub : ∀ r ∈ D, Sp p (RS L) (fn r)
  sup : ∀ r ∈ L, Sp p (RS D) (fn r)
theorem lenM_eq {p : Int} {n : Nat} {L : List (List Int)} (h : Rws p n L) (hne : L ≠ []) : lenM L = n := by
  cases L with
  | nil => exact absurd rfl hne
  | cons r L => exact (h r List.mem_cons_self).1
theorem redM_ok {p : Int} {n : Nat} {L : List (List Int)} (hp : p ∈ primesL) (hL : Rws p n L) : Redu p n L (redM p L) := by
  by_cases hne : L = []
  · subst hne
    exact ⟨fun r hr => absurd hr (by simp [redM, lenM, redI]), ⟨[], by simp [redM, lenM, redI], .nil, by simp, by simp, by simp⟩, fun r hr => absurd hr (by simp [redM, lenM, redI]), fun r hr => absurd hr (by simp)⟩
  · unfold redM
    rw [lenM_eq hL hne]
    have I := redI_ok hp hL n (Nat.le_refl n)
    generalize redI p n L n = st at I
    refine ⟨I.d, I.ech, fun r hr => I.sub r (List.mem_append_left _ hr), fun r hr => (I.sup r hr).trans fun f hf => ?_⟩
    obtain ⟨r0, h0, rfl⟩ := hf
    rcases (List.mem_append.mp h0) with (h0 | h0)
    · exact .mem ⟨r0, h0, rfl⟩
    · exact (Sp.zero).of_eq fun j => (fn_zero (I.r r0 h0) (I.z r0 h0) j).symm
/-- a vector of an echelon's span is the sum of its rows by its own numbers at the leads: two that agree there agree -/
theorem Ech.same {p : Int} {n : Nat} {D : List (List Int)} {ls : List Nat} (E : Ech n n D ls) {u v : Fn} (hu : Sp p (RS D) u) (hv : Sp p (RS D) v) (h : ∀ l ∈ ls, p ∣ u l - v l) : eqm p u v := fun j => by
  have hd : Sp p (RS D) (fun j => u j + (-1) * v j) := hu.plus (-1) hv
  have := E.lead.zero (E.sp hd) (fun l r _ he => by
    obtain ⟨i, _, h2⟩ := eOf_some he
    have q := h l (List.mem_of_getElem? h2)
    show p ∣ u l + -1 * v l
    rwa [show u l + -1 * v l = u l - v l by omega]) j
  rwa [show u j + -1 * v j = u j - v j by omega] at this
theorem not_dvd {p : Int} (hp : p ∈ primesL) : ¬ p ∣ 1 := fun ⟨c, hc⟩ => by
  have := prime_pos p hp
  rcases Int.lt_trichotomy c 0 with h | h | h
  · have := Int.mul_le_mul_of_nonneg_left (show c ≤ -1 by omega) (show 0 ≤ p by omega)
    omega
  · rw [h] at hc; omega
  · have := Int.mul_le_mul_of_nonneg_left (show 1 ≤ c by omega) (show 0 ≤ p by omega)
    omega
/-- a row with a first 1 in the span begins at a lead -/
theorem Ech.starts {p : Int} {n : Nat} {D : List (List Int)} {ls : List Nat} (hp : p ∈ primesL) (E : Ech n n D ls) {v : Fn} {l : Nat} (hv : Sp p (RS D) v) (h1 : v l = 1) (h0 : ∀ j, j < l → v j = 0) : l ∈ ls := by
  by_cases hm : l ∈ ls
  · exact hm
  · exfalso
    -- take away, by the leads behind l, nothing is left at the leads; so v would be 0
    obtain ⟨c, hc⟩ := ES.coeff (E.sp hv)
    have all : ∀ m, m ≤ l → ∀ i, i < m → ∀ j, p ∣ c i * eAt (eOf D ls) i j := by
      intro m
      induction m with
      | zero => intro _ i hi; omega
      | succ m ih =>
        intro hml i hi j
        by_cases him : i < m
        · exact ih (by omega) i him j
        · have ei : i = m := by omega
          subst ei
          cases hr : eOf D ls i with
          | none => exact ⟨0, by simp [eAt, hr]⟩
          | some r =>
            obtain ⟨z, z1, z2⟩ := eOf_some hr
            have hin : i < n := E.lt i (List.mem_of_getElem? z2)
            have s := hc i
            dsimp only at s
            rw [Sg_one hin, h0 i (by omega)] at s
            have rest : p ∣ Sg (fun q => if q = i then 0 else c q * eAt (eOf D ls) q i) n := Sg_dvd fun q hq => by
              by_cases q1 : q = i
              · rw [if_pos q1]; exact ⟨0, by simp⟩
              · rw [if_neg q1]
                by_cases q2 : q < i
                · exact ih (by omega) q q2 i
                · cases hq2 : eOf D ls q with
                  | none => exact ⟨0, by simp [eAt, hq2]⟩
                  | some r2 =>
                    have := (E.lead.one q r2 hq2 hq).2 i (by omega)
                    exact ⟨0, by simp only [eAt, hq2, this, Int.mul_zero]⟩
            have e1 : eAt (eOf D ls) i i = 1 := by simp only [eAt, hr]; exact (E.lead.one i r hr hin).1
            rw [e1, Int.mul_one] at s
            have k := Int.dvd_sub s rest
            rw [show c i + Sg (fun q => if q = i then 0 else c q * eAt (eOf D ls) q i) n - 0 - Sg (fun q => if q = i then 0 else c q * eAt (eOf D ls) q i) n = c i by omega] at k
            exact Int.dvd_mul_of_dvd_left k
    have s := hc l
    dsimp only at s
    have t : p ∣ Sg (fun q => c q * eAt (eOf D ls) q l) n := Sg_dvd fun q hq => by
      by_cases q2 : q < l
      · exact all l (Nat.le_refl l) q q2 l
      · cases hq2 : eOf D ls q with
        | none => exact ⟨0, by simp [eAt, hq2]⟩
        | some r2 =>
          obtain ⟨z, z1, z2⟩ := eOf_some hq2
          have : q ≠ l := fun e => hm (e ▸ List.mem_of_getElem? z2)
          have := (E.lead.one q r2 hq2 hq).2 l (by omega)
          exact ⟨0, by simp only [eAt, hq2, this, Int.mul_zero]⟩
    have k := Int.dvd_sub t s
    rw [show Sg (fun q => c q * eAt (eOf D ls) q l) n - (Sg (fun q => c q * eAt (eOf D ls) q l) n - v l) = v l by omega, h1] at k
    exact not_dvd hp k
theorem sorted_ext : ∀ {a b : List Nat}, a.Pairwise (· < ·) → b.Pairwise (· < ·) → (∀ x, x ∈ a ↔ x ∈ b) → a = b
  | [], [], _, _, _ => rfl
  | [], y :: b, _, _, h => absurd ((h y).mpr List.mem_cons_self) (by simp)
  | x :: a, [], _, _, h => absurd ((h x).mp List.mem_cons_self) (by simp)
  | x :: a, y :: b, ha, hb, h => by
    obtain ⟨a1, a2⟩ := List.pairwise_cons.mp ha
    obtain ⟨b1, b2⟩ := List.pairwise_cons.mp hb
    have exy : x = y := by
      rcases List.mem_cons.mp ((h x).mp List.mem_cons_self) with e | e
      · exact e
      · rcases List.mem_cons.mp ((h y).mpr List.mem_cons_self) with e2 | e2
        · exact e2.symm
        · have := b1 x e
          have := a1 y e2
          omega
    subst exy
    congr 1
    refine sorted_ext a2 b2 fun z => ⟨fun hz => ?_, fun hz => ?_⟩
    · rcases List.mem_cons.mp ((h z).mp (List.mem_cons_of_mem _ hz)) with e | e
      · have := a1 z hz; omega
      · exact e
    · rcases List.mem_cons.mp ((h z).mpr (List.mem_cons_of_mem _ hz)) with e | e
      · have := b1 z hz; omega
      · exact e
/-- two echelons of one span are one -/
theorem Ech.unique {p : Int} {n : Nat} {D D' : List (List Int)} {ls ls' : List Nat} (hp : p ∈ primesL) (E : Ech n n D ls) (E' : Ech n n D' ls') (hD : Rws p n D) (hD' : Rws p n D') (s1 : ∀ r ∈ D, Sp p (RS D') (fn r)) (s2 : ∀ r ∈ D', Sp p (RS D) (fn r)) : D = D' := by
  have p0 : 0 < p := by have := prime_pos p hp; omega
  have half : ∀ {D D' : List (List Int)} {ls ls' : List Nat}, Ech n n D ls → Ech n n D' ls' → (∀ r ∈ D, Sp p (RS D') (fn r)) → ∀ x, x ∈ ls → x ∈ ls' := fun {D D' ls ls'} E E' s x hx => by
    obtain ⟨i, hi, rfl⟩ := List.mem_iff_getElem.mp hx
    have hiD : i < D.length := by rw [← E.len]; exact hi
    obtain ⟨o1, o2⟩ := E.one i D[i] ls[i] (List.getElem?_eq_getElem hiD) (List.getElem?_eq_getElem hi)
    exact E'.starts hp (s _ (List.getElem_mem hiD)) o1 o2
  have el : ls = ls' := sorted_ext E.up E'.up fun x => ⟨half E E' s1 x, half E' E s2 x⟩
  subst el
  have elen : D.length = D'.length := by rw [← E.len, ← E'.len]
  apply List.ext_getElem elen
  intro i h1 h2
  have hi : i < ls.length := by rw [E.len]; exact h1
  refine (hD _ (List.getElem_mem h1)).ext p0 (hD' _ (List.getElem_mem h2)) ?_
  refine E'.same (s1 _ (List.getElem_mem h1)) (.mem ⟨_, List.getElem_mem h2, rfl⟩) fun l hl => ?_
  obtain ⟨k, hk, rfl⟩ := List.mem_iff_getElem.mp hl
  by_cases hik : k = i
  · subst hik
    have a := (E.one k D[k] ls[k] (List.getElem?_eq_getElem h1) (List.getElem?_eq_getElem hk)).1
    have b := (E'.one k D'[k] ls[k] (List.getElem?_eq_getElem h2) (List.getElem?_eq_getElem hk)).1
    show p ∣ (D[k]).getD ls[k] 0 - (D'[k]).getD ls[k] 0
    rw [a, b]; exact ⟨0, by omega⟩
  · have a := E.alone k i D[i] ls[k] hik (List.getElem?_eq_getElem h1) (List.getElem?_eq_getElem hk)
    have b := E'.alone k i D'[i] ls[k] hik (List.getElem?_eq_getElem h2) (List.getElem?_eq_getElem hk)
    show p ∣ (D[i]).getD ls[k] 0 - (D'[i]).getD ls[k] 0
    rw [a, b]; exact ⟨0, by omega⟩
/-- the reduced list of lists that span the same is one -/
theorem redM_one {p : Int} {n : Nat} {L L' : List (List Int)} (hp : p ∈ primesL) (hL : Rws p n L) (hL' : Rws p n L') (s1 : ∀ r ∈ L, Sp p (RS L') (fn r)) (s2 : ∀ r ∈ L', Sp p (RS L) (fn r)) : redM p L = redM p L' := by
  have A := redM_ok hp hL
  have B := redM_ok hp hL'
  obtain ⟨ls, E⟩ := A.ech
  obtain ⟨ls', E'⟩ := B.ech
  have t : ∀ {P Q : List (List Int)}, (∀ r ∈ P, Sp p (RS Q) (fn r)) → ∀ {v : Fn}, Sp p (RS P) v → Sp p (RS Q) v := fun h v hv => hv.trans fun f hf => by
    obtain ⟨r, hr, rfl⟩ := hf
    exact h r hr
  exact E.unique hp E' A.rws B.rws (fun r hr => t B.sup (t s1 (A.sub r hr))) (fun r hr => t A.sup (t s2 (B.sub r hr)))
/-! ### rows kept by their first places -/
end Bw
/-! rows kept: one more; what a list of places and of leads tells -/
namespace Bw
theorem map_at {f : Int → Int} {r : List Int} {j n : Nat} (hr : r.length = n) (h0 : j < n) : (r.map f).getD j 0 = f (r.getD j 0) := by
  have : j < r.length := by omega
  rw [List.getD_eq_getElem?_getD, List.getElem?_map, List.getElem?_eq_getElem this, List.getD_eq_getElem?_getD, List.getElem?_eq_getElem this]; rfl
end Bw
/-! factors: products with the rows of a list and with those of its span -/
namespace Bw
/-- factors, then -1 -/
noncomputable def hat (f : Fn) (c : Nat) : Fn := fun i => if i = c then -1 else f i
end Bw
/-! the factors, one by one; the asked rows -/
namespace Bw
end Bw
/-! sums of rows and factors: both ways -/
namespace Bw
end Bw
/-! families in steps: how many there can be; the rows that are barred -/
namespace Bw
/-! ### a barred row -/
/-- the places that lead no row -/
noncomputable def freeM (n : Nat) (ls : List Nat) : List Nat := (List.range n).filter fun j => j ∉ ls
theorem free_len {n : Nat} {ls : List Nat} (up : ls.Pairwise (· < ·)) (lt : ∀ l ∈ ls, l < n) : (freeM n ls).length + ls.length = n := by
  have hnd : ls.Nodup := up.imp fun h => by omega
  have h1 : ((List.range n).filter fun j => j ∈ ls).length = ls.length := by
    have e : ((List.range n).filter fun j => j ∈ ls) = ls := by
      refine sorted_ext (List.Pairwise.filter _ List.pairwise_lt_range) up fun x => ?_
      simp only [List.mem_filter, List.mem_range, decide_eq_true_eq]
      exact ⟨fun h => h.2, fun h => ⟨lt x h, h⟩⟩
    rw [e]
  have h2 : ∀ L : List Nat, (L.filter fun j => j ∉ ls).length + (L.filter fun j => j ∈ ls).length = L.length := by
    intro L
    induction L with
    | nil => rfl
    | cons a L ih =>
      by_cases h : a ∈ ls
      · rw [List.filter_cons_of_neg (by simpa using h), List.filter_cons_of_pos (by simpa using h), List.length_cons, List.length_cons]; omega
      · rw [List.filter_cons_of_pos (by simpa using h), List.filter_cons_of_neg (by simpa using h), List.length_cons, List.length_cons]; omega
  have := h2 (List.range n)
  rw [h1, List.length_range] at this
  exact this
end Bw
/-! the law's own rank: rows taken from behind, by their last places -/
namespace Bw
end Bw
/-! the barred rows as they are made -/
namespace Bw
section
variable {p : Int} {n : Nat} {D : List (List Int)} {ls : List Nat}
end
end Bw
namespace L2
open PySem Bw
/-! ### a list of rows that are lists, each at an address that N allows -/
noncomputable def LR (N : Addr → Prop) (H : Hp) (LS : List V) (L : List (List Int)) : Prop := LS.length = L.length ∧ ∀ (i : Nat) (v : V) (r : List Int), LS[i]? = some v → L[i]? = some r → ∃ a, v = .ref a ∧ N a ∧ H a = some (.lst (r.map V.int))
noncomputable abbrev intsL (r : List Int) : PySem.W.Dat := .list (r.map .int)
section
variable {N : Addr → Prop} {H H' : Hp} {LS : List V} {L : List (List Int)} {l a : Addr} {o : HO} {r : List Int}
theorem LR.nil : LR N H [] [] := ⟨rfl, fun i v r h => by simp at h⟩
theorem LR.mono (h : LR N H LS L) (e : Same H H') : LR N H' LS L := ⟨h.1, fun i v r a b => by
  obtain ⟨x, rfl, hN, g⟩ := h.2 i v r a b
  exact ⟨x, rfl, hN, e _ _ g⟩⟩
theorem LR.wr (h : LR (· ≠ l) H LS L) : LR (· ≠ l) (upd H l o) LS L := ⟨h.1, fun i v r a b => by
  obtain ⟨x, rfl, ne, g⟩ := h.2 i v r a b
  exact ⟨x, rfl, ne, by rw [upd_ne ne]; exact g⟩⟩
theorem LR.snoc (h : LR N H LS L) (hN : N a) (g : H a = some (.lst (r.map V.int))) : LR N H (LS ++ [.ref a]) (L ++ [r]) := ⟨by simp [h.1], fun j v q e1 e2 => by
  by_cases hj : j < LS.length
  · rw [List.getElem?_append_left hj] at e1
    rw [List.getElem?_append_left (by rw [← h.1]; exact hj)] at e2
    exact h.2 j v q e1 e2
  · rw [List.getElem?_append_right (by omega)] at e1
    rw [List.getElem?_append_right (by rw [← h.1]; omega), ← h.1] at e2
    cases hk : j - LS.length with
    | zero => rw [hk] at e1 e2; cases e1; cases e2; exact ⟨a, rfl, hN, g⟩
    | succ k => rw [hk] at e1; cases e1⟩
theorem LR.has {K : PySem.W.Frag} : ∀ {LS : List V} {L : List (List Int)}, LR N H LS L → HasA K H LS (L.map intsL)
  | [], [], _ => .nil
  | [], _ :: _, h => by have := h.1; simp at this
  | _ :: _, [], h => by have := h.1; simp at this
  | v :: LS, r :: L, h => by
    obtain ⟨a, rfl, _, g⟩ := h.2 0 v r rfl rfl
    refine .cons (.list (.of g) (HasA.ints _)) (LR.has ⟨by have := h.1; simpa using this, fun i v r e1 e2 => h.2 (i + 1) v r e1 e2⟩)
end
theorem kqd_LL (L : List (List Int)) : PySem.W.kqdOk 8 (.list (L.map intsL)) = true := by
  show (L.map intsL).all (PySem.W.kqdOk 7) = true
  rw [List.all_eq_true]
  intro d hd
  obtain ⟨r, _, rfl⟩ := List.mem_map.mp hd
  show (r.map PySem.W.Dat.int).all (PySem.W.kqdOk 6) = true
  exact kqd_ints 6 r
end L2
namespace L2
open PySem PySem.Spec PyProof.Rows
set_option maxRecDepth 100000
/-! ### xs.insert(k, y) -/
end L2
namespace L2
open PySem Bw
/-! ### lists of rows: more -/
end L2
set_option linter.all false
set_option maxRecDepth 100000
namespace L2
open PySem PySem.Spec PyProof.Rows

/-! ### lists of pairs as tables -/
section
variable {κ : Type} [DecidableEq κ]
noncomputable def valV (kvs : List (κ × V)) (k : κ) : Option V := (kvs.find? fun kv => decide (kv.1 = k)).map (·.2)
/-- in its place, or at the end -/
noncomputable def putK (kvs : List (κ × V)) (k : κ) (v : V) : List (κ × V) :=
  if (kvs.any fun kv => decide (kv.1 = k)) = true then kvs.map (fun kv => if kv.1 = k then (kv.1, v) else kv) else kvs ++ [(k, v)]
theorem valV_pos {p : κ × V} {r : List (κ × V)} {k : κ} (e : p.1 = k) : valV (p :: r) k = some p.2 := by simp [valV, List.find?_cons, e]
theorem valV_neg {p : κ × V} {r : List (κ × V)} {k : κ} (e : ¬ p.1 = k) : valV (p :: r) k = valV r k := by simp [valV, List.find?_cons, e]
theorem valV_any (k : κ) : ∀ kvs : List (κ × V), (kvs.any fun kv => decide (kv.1 = k)) = (valV kvs k).isSome
  | [] => rfl
  | p :: r => by
    rw [List.any_cons]
    by_cases e : p.1 = k
    · simp only [valV_pos e, decide_eq_true e, Bool.true_or, Option.isSome_some]
    · rw [valV_neg e, decide_eq_false e, Bool.false_or]; exact valV_any k r
theorem valV_map (k j : κ) (y : V) : ∀ kvs : List (κ × V), valV (kvs.map fun kv => if kv.1 = k then (kv.1, y) else kv) j = (valV kvs j).map fun x => if j = k then y else x
  | [] => rfl
  | p :: r => by
    have ih := valV_map k j y r
    rw [List.map_cons]
    by_cases h : p.1 = k
    · rw [if_pos h]
      by_cases e : p.1 = j
      · rw [valV_pos (p := (p.1, y)) e, valV_pos e, Option.map_some, if_pos (e.symm.trans h)]
      · rw [valV_neg (p := (p.1, y)) e, valV_neg e, ih]
    · rw [if_neg h]
      by_cases e : p.1 = j
      · rw [valV_pos (p := p) e, valV_pos e, Option.map_some, if_neg (fun z => h (e.trans z))]
      · rw [valV_neg (p := p) e, valV_neg e, ih]
theorem valV_snoc (k j : κ) (y : V) : ∀ kvs : List (κ × V), valV kvs k = none → valV (kvs ++ [(k, y)]) j = if j = k then some y else valV kvs j
  | [], _ => by
    by_cases e : k = j
    · rw [if_pos e.symm]; exact valV_pos (p := (k, y)) e
    · rw [if_neg (fun z => e z.symm)]; exact valV_neg (p := (k, y)) e
  | p :: r, hn => by
    rw [List.cons_append]
    have hk : ¬ p.1 = k := fun z => by rw [valV_pos z] at hn; cases hn
    rw [valV_neg hk] at hn
    have ih := valV_snoc k j y r hn
    by_cases e : p.1 = j
    · rw [valV_pos e, valV_pos e, if_neg (fun z => hk (e.trans z))]
    · rw [valV_neg e, valV_neg e, ih]
theorem valV_put (kvs : List (κ × V)) (k j : κ) (y : V) : valV (putK kvs k y) j = if j = k then some y else valV kvs j := by
  unfold putK
  by_cases a : (kvs.any fun kv => decide (kv.1 = k)) = true
  · rw [if_pos a, valV_map]
    rw [valV_any] at a
    by_cases e : j = k
    · obtain ⟨x, hx⟩ := Option.isSome_iff_exists.mp a
      rw [if_pos e, e, hx, Option.map_some, if_pos rfl]
    · rw [if_neg e]
      cases valV kvs j with
      | none => rfl
      | some x => rw [Option.map_some, if_neg e]
  · rw [if_neg a]
    refine valV_snoc k j y kvs ?_
    rw [valV_any] at a
    cases q : valV kvs k with
    | none => rfl
    | some x => rw [q] at a; exact (a rfl).elim
theorem length_putK (kvs : List (κ × V)) (k : κ) (v : V) : (putK kvs k v).length ≤ kvs.length + 1 := by
  unfold putK
  split
  · rw [List.length_map]; omega
  · rw [List.length_append, List.length_cons, List.length_nil]; omega
theorem putK_new {kvs : List (κ × V)} {k : κ} (v : V) (h : valV kvs k = none) : putK kvs k v = kvs ++ [(k, v)] := by
  unfold putK
  rw [valV_any, h]
  exact if_neg (by decide)

theorem RelO.isSome_eq {o : Option V} {u : Option Value} (r : RelO o u) : o.isSome = u.isSome := by
  cases o with
  | none => cases u with
    | none => rfl
    | some _ => exact (show False from r).elim
  | some _ => cases u with
    | none => exact (show False from r).elim
    | some _ => rfl
/-- raw tables of the same keys -/
theorem KV.val {kvs : List (κ × V)} {vs : List (κ × Value)} (r : KV kvs vs) (k : κ) : RelO (valV kvs k) (valueAt vs k) := by
  unfold KV at r
  induction r with
  | nil => exact True.intro
  | @cons p q ps qs h t ih =>
    obtain ⟨h1, h2⟩ := h
    by_cases e : p.1 = k
    · have e' : q.1 = k := h1.symm.trans e
      have b : valueAt (q :: qs) k = some q.2 := by simp [valueAt, List.find?_cons, e']
      rw [valV_pos e, b]; exact h2
    · have e' : ¬ q.1 = k := fun z => e (h1.trans z)
      have b : valueAt (q :: qs) k = valueAt qs k := by simp [valueAt, List.find?_cons, e']
      rw [valV_neg e, b]; exact ih
theorem KV.any {kvs : List (κ × V)} {vs : List (κ × Value)} (r : KV kvs vs) (k : κ) : (kvs.any fun kv => decide (kv.1 = k)) = vs.any fun kv => decide (kv.1 = k) := by
  unfold KV at r
  induction r with
  | nil => rfl
  | cons h t ih => rw [List.any_cons, List.any_cons, ih, h.1]
theorem KV.repl {kvs : List (κ × V)} {vs : List (κ × Value)} (r : KV kvs vs) (k : κ) {y : V} {u : Value} (ry : RelV y u) :
    KV (kvs.map fun kv => if kv.1 = k then (kv.1, y) else kv) (vs.map fun kv => if kv.1 = k then (kv.1, u) else kv) := by
  unfold KV at r ⊢
  induction r with
  | nil => exact .nil
  | @cons p q ps qs h t ih =>
    rw [List.map_cons, List.map_cons]
    refine .cons ?_ ih
    obtain ⟨h1, h2⟩ := h
    by_cases e : p.1 = k
    · rw [if_pos e, if_pos (h1.symm.trans e)]; exact ⟨h1, ry⟩
    · rw [if_neg e, if_neg (fun z => e (h1.trans z))]; exact ⟨h1, h2⟩
theorem KV.put {kvs : List (κ × V)} {vs : List (κ × Value)} (r : KV kvs vs) (k : κ) {y : V} {u : Value} (ry : RelV y u) : KV (putK kvs k y) (stored vs k u) := by
  unfold putK stored
  rw [r.any k]
  by_cases e : (vs.any fun kv => decide (kv.1 = k)) = true
  · rw [if_pos e, if_pos e]; exact r.repl k ry
  · rw [if_neg e, if_neg e]; exact Paired.snoc r ⟨rfl, ry⟩
theorem KV.length {kvs : List (κ × V)} {vs : List (κ × Value)} (r : KV kvs vs) : kvs.length = vs.length := Paired.length r
end

/-! ### a tracked dict, its keys ints and texts or tuples of these -/
theorem kV_is {P : Program} {w : World} {k : Key} {u : Value} (r : RelV (kV k) u) : (mixKind P w).is k u = true := by
  cases k with
  | inl i => obtain ⟨t, e⟩ := (show ∃ t, u = Value.int i t from r); subst e; exact mixKind_int P w i t
  | inr x => obtain ⟨t, e⟩ := (show ∃ t, u = Value.str x t from r); subst e; exact mixKind_str P w x t
theorem items_are {P : Program} {w : World} : ∀ {ks : List Key} {us : List Value}, Vals (ks.map kV) us → ItemsAre (mixKind P w) ks us
  | [], _, r => by rw [List.map_nil] at r; cases r; exact .nil
  | k :: ks, _, r => by
    rw [List.map_cons] at r
    cases r with
    | cons h t => exact .cons (kV_is h) (items_are t)

/-- raw entries of a dict with tuple keys -/
noncomputable abbrev KT (H : Hp) : List (List Key × V) → List (List Key × Addr × Value) → Prop := Paired fun p q => p.1 = q.1 ∧ H q.2.1 = some (.tup (p.1.map kV)) ∧ RelV p.2 q.2.2
theorem KT.val {H : Hp} {kvs : List (List Key × V)} {xs : List (List Key × Addr × Value)} (r : KT H kvs xs) (k : List Key) : RelO (valV kvs k) ((atKey xs k).map (·.2)) := by
  induction r with
  | nil => exact True.intro
  | @cons p q ps qs h t ih =>
    obtain ⟨h1, _, h2⟩ := h
    by_cases e : p.1 = k
    · have e' : q.1 = k := h1.symm.trans e
      have b : atKey (q :: qs) k = some q.2 := by simp [atKey, List.find?_cons, e']
      rw [valV_pos e, b]; exact h2
    · have e' : ¬ q.1 = k := fun z => e (h1.trans z)
      have b : atKey (q :: qs) k = atKey qs k := by simp [atKey, List.find?_cons, e']
      rw [valV_neg e, b]; exact ih
theorem KT.repl {H : Hp} {kvs : List (List Key × V)} {xs : List (List Key × Addr × Value)} (r : KT H kvs xs) (k : List Key) {y : V} {u : Value} (ry : RelV y u) :
    KT H (kvs.map fun kv => if kv.1 = k then (kv.1, y) else kv) (xs.map (putAt k u)) := by
  induction r with
  | nil => exact .nil
  | @cons p q ps qs h t ih =>
    rw [List.map_cons, List.map_cons]
    refine .cons ?_ ih
    obtain ⟨h1, h2, h3⟩ := h
    unfold putAt
    by_cases e : p.1 = k
    · rw [if_pos e, if_pos (h1.symm.trans e)]; exact ⟨h1, h2, ry⟩
    · rw [if_neg e, if_neg (fun z => e (h1.trans z))]; exact ⟨h1, h2, h3⟩
theorem KT.put {H : Hp} {kvs : List (List Key × V)} {xs : List (List Key × Addr × Value)} (r : KT H kvs xs) (k : List Key) {b : Addr} {y : V} {u : Value} (hb : H b = some (.tup (k.map kV))) (ry : RelV y u) :
    KT H (putK kvs k y) (storedH xs k b u) := by
  have e : (kvs.any fun kv => decide (kv.1 = k)) = (atKey xs k).isSome := by
    rw [valV_any, (r.val k).isSome_eq, Option.isSome_map]
  unfold putK storedH
  rw [e]
  by_cases q : (atKey xs k).isSome = true
  · rw [if_pos q, if_pos q]; exact r.repl k ry
  · rw [if_neg q, if_neg q]; exact Paired.snoc r ⟨rfl, hb, ry⟩
theorem KT.keeps {H H' : Hp} {kvs : List (List Key × V)} {xs : List (List Key × Addr × Value)} (r : KT H kvs xs) (ht : ∀ b ys, H b = some (.tup ys) → H' b = some (.tup ys)) : KT H' kvs xs :=
  Paired.mapP r fun _ _ z => ⟨z.1, ht _ _ z.2.1, z.2.2⟩

section
variable {P : Program} {w : World} {H : Hp} {h : Heap} {a : Addr}
theorem rd_of {u : HO} (ok : HOk P w H h) (e : Rd H a u) : ObjOk P w H h a u := e.ok ok
theorem dk_rd {kvs : List (Key × V)} (ok : HOk P w H h) (e : Rd H a (.dK kvs)) : kvs.length ≤ sizeLine ∧ (a == sysModules) = false ∧ ∃ vs, KV kvs vs ∧ h.DictOf (mixKind P w) a vs :=
  show ObjOk P w H h a (.dK kvs) from rd_of ok e
theorem dk_of {kvs : List (Key × V)} (ok : HOk P w H h) (e : H a = some (.dK kvs)) : kvs.length ≤ sizeLine ∧ (a == sysModules) = false ∧ ∃ vs, KV kvs vs ∧ h.DictOf (mixKind P w) a vs := dk_rd ok (.inl e)
/-- a tracked tuple of ints and texts is a key -/
theorem key_of {ks : List Key} (ok : HOk P w H h) (e : H a = some (.tup (ks.map kV))) : (tupleKind (mixKind P w)).is h ks a := by
  obtain ⟨_, its, r, o, h1, h2, n, h3⟩ := (show ObjOk P w H h a (.tup (ks.map kV)) from ok a _ e)
  exact ⟨o, its.toArray, n, h1, h2, h3, by simpa using items_are r⟩
theorem dt_rd {kvs : List (List Key × V)} (ok : HOk P w H h) (e : Rd H a (.dT kvs)) : kvs.length ≤ sizeLine ∧ (a == sysModules) = false ∧
    ∃ xs, KT H kvs xs ∧ h.DictOfH (tupleKind (mixKind P w)) a xs := by
  obtain ⟨z, y, xs, r, o, es, ep, h1, h2, h3, h4, h5⟩ := (show ObjOk P w H h a (.dT kvs) from rd_of ok e)
  refine ⟨z, y, xs, r, o, es, ep, h1, h2, h3, h4, fun x hx => ?_, h5⟩
  have all : ∀ {l : List (List Key × V)} {m : List (List Key × Addr × Value)}, KT H l m → ∀ x ∈ m, (tupleKind (mixKind P w)).is h x.1 x.2.1 := by
    intro l m q
    induction q with
    | nil => intro x hx; exact nomatch hx
    | @cons p q ps qs hq t ih =>
      intro x hx
      rcases List.mem_cons.mp hx with e | hx
      · subst e
        exact key_of ok (by rw [← hq.1]; exact hq.2.1)
      · exact ih x hx
  exact all r x hx
theorem dt_of {kvs : List (List Key × V)} (ok : HOk P w H h) (e : H a = some (.dT kvs)) : kvs.length ≤ sizeLine ∧ (a == sysModules) = false ∧
    ∃ xs, KT H kvs xs ∧ h.DictOfH (tupleKind (mixKind P w)) a xs := dt_rd ok (.inl e)
end

/-- what the dict at a holds at the key y -/
noncomputable def DGet (H : Hp) (a : Addr) (y : V) (r : Option V) : Prop :=
  (∃ kvs k, Rd H a (.dK kvs) ∧ y = kV k ∧ r = valV kvs k) ∨ ∃ kvs k b, Rd H a (.dT kvs) ∧ y = .ref b ∧ H b = some (.tup (k.map kV)) ∧ r = valV kvs k
/-- the heap behind a[y] = v -/
noncomputable def DPut (H : Hp) (a : Addr) (y v : V) (H' : Hp) : Prop :=
  (∃ kvs k, H a = some (.dK kvs) ∧ y = kV k ∧ kvs.length < sizeLine ∧ H' = upd H a (.dK (putK kvs k v))) ∨
  ∃ kvs k b, H a = some (.dT kvs) ∧ y = .ref b ∧ H b = some (.tup (k.map kV)) ∧ kvs.length < sizeLine ∧ H' = upd H a (.dT (putK kvs k v))
theorem DGet.k {H : Hp} {a : Addr} {kvs : List (Key × V)} {k : Key} (e : H a = some (.dK kvs)) : DGet H a (kV k) (valV kvs k) := .inl ⟨kvs, k, .inl e, rfl, rfl⟩
theorem DPut.k {H : Hp} {a : Addr} {kvs : List (Key × V)} {k : Key} {v : V} (e : H a = some (.dK kvs)) (hl : kvs.length < sizeLine) : DPut H a (kV k) v (upd H a (.dK (putK kvs k v))) := .inl ⟨kvs, k, e, rfl, hl, rfl⟩
section
variable {X : Cx} {pins : List (Addr × Obj)} {σ : St} {H : Hp} {s : Shared} {a : Addr} {y v : V} {u r : Value} {o : Option V} {A : Around} {E : Value → Shared → Prop}

theorem Inv.big (I : Inv X pins σ H s) : sysModules < s.heap.objs.size := by
  have h : mainGlobals < s.heap.objs.size := (I.mod.glob.keeps I.bk).lt
  exact Nat.lt_trans (by decide) h

/-- d[y], there -/
theorem d_getItem {Q : Value → Shared → Prop} (hu : A.units + 1 < cLine) (I : Inv X pins σ H s) (g : DGet H a y (some v)) (ry : RelV y u) (h : ∀ w' s', Inv X pins σ H s' → RelV v w' → Q w' s') :
    wpAny (model X.prog X.w) A (getItem (.ref a) u) Q E s := by
  rcases g with ⟨kvs, k, e, ey, l⟩ | ⟨kvs, k, b, e, ey, eb, l⟩
  · subst ey
    obtain ⟨z, hd, vs, rel, dd⟩ := dk_rd I.hok e
    obtain ⟨w', hw, rw'⟩ := RelO.some_of (v := v) (o := valueAt vs k) (by rw [l]; exact rel.val k)
    exact wpAny_getItem_of (kV_is ry) dd.mapOf hw (h w' _ (I.tok _) rw')
  · subst ey
    cases (show u = Value.ref b from ry)
    obtain ⟨z, hd, xs, rel, dd⟩ := dt_rd I.hok e
    obtain ⟨w', hw, rw'⟩ := RelO.some_of (v := v) (o := (atKey xs k).map (·.2)) (by rw [l]; exact rel.val k)
    obtain ⟨p, hp, hp2⟩ := Option.map_eq_some_iff.mp hw
    refine wpAny_getItem_heap (tupleKind_room_in1 hu) (key_of I.hok eb) dd hp ?_
    rw [hp2]
    exact h w' _ (I.tok _) rw'
/-- y in d -/
theorem d_in {Q : Value → Shared → Prop} (hu : A.units + 1 < cLine) (I : Inv X pins σ H s) (g : DGet H a y o) (ry : RelV y u) (h : ∀ s', Inv X pins σ H s' → Q (.bool o.isSome) s') :
    wpAny (model X.prog X.w) A (compareOp .In u (.ref a)) Q E s := by
  rcases g with ⟨kvs, k, e, ey, l⟩ | ⟨kvs, k, b, e, ey, eb, l⟩
  · subst ey
    obtain ⟨z, hd, vs, rel, dd⟩ := dk_rd I.hok e
    refine wpAny_in_of (kV_is ry) hd dd.mapOf ?_
    rw [← (rel.val k).isSome_eq, ← l]
    exact h _ (I.tok _)
  · subst ey
    cases (show u = Value.ref b from ry)
    obtain ⟨z, hd, xs, rel, dd⟩ := dt_rd I.hok e
    refine wpAny_in_heap (tupleKind_room_in1 hu) (key_of I.hok eb) hd dd ?_
    have q := (rel.val k).isSome_eq
    rw [Option.isSome_map] at q
    rw [← q, ← l]
    exact h _ (I.tok _)
/-- a dict's object is replaced -/
theorem d_write {h' : Heap} {t' : Nat} {ob : HO} (I : Inv X pins σ H s) (mu : Mut (H a)) (hs : Heap.SameBut a s.heap h') (he : ∃ q, h'.get? a = some q) (new : ObjOk X.prog X.w (upd H a ob) h' a ob) :
    Inv X pins σ (upd H a ob) { s with heap := h', toks := t' } :=
  I.write (x := a) (e := a) mu (.inl rfl) (fun b q hb z => (hs.2 b hb).trans z) he new
theorem dk_new {P : Program} {w : World} {H' : Hp} {h' : Heap} {kvs : List (Key × V)} {vs : List (Key × Value)} (z : kvs.length ≤ sizeLine) (hd : (a == sysModules) = false) (rel : KV kvs vs) (dd : h'.DictOf (mixKind P w) a vs) :
    ObjOk P w H' h' a (.dK kvs) := ⟨z, hd, vs, rel, dd⟩
/-- d[y] = v -/
theorem d_setItem {H' : Hp} {Q : Unit → Shared → Prop} (hu : A.units + 1 < cLine) (I : Inv X pins σ H s) (g : DPut H a y v H') (ry : RelV y u) (rv : RelV v r) (h : ∀ s', Inv X pins σ H' s' → Q () s') :
    wpAny (model X.prog X.w) A (setItem (.ref a) u r) Q E s := by
  rcases g with ⟨kvs, k, e, ey, l, eH⟩ | ⟨kvs, k, b, e, ey, eb, l, eH⟩
  · subst ey eH
    obtain ⟨z, hd, vs, rel, dd⟩ := dk_of I.hok e
    have hz : vs.length ≤ sizeLine := by rw [← rel.length]; exact z
    have hl : (putK kvs k v).length ≤ sizeLine := by have := length_putK kvs k v; omega
    refine wpAny_setItem_pairs (hsz := hz) (kV_is ry) dd fun h' dd' hs => h _ ?_
    have he : ∃ q, h'.get? a = some q := let ⟨q, _, _, hq, _⟩ := dd'; ⟨q, hq⟩
    exact d_write I (by rw [e]; exact True.intro) hs he (dk_new hl hd (rel.put k rv) dd')
  · subst ey eH
    cases (show u = Value.ref b from ry)
    obtain ⟨z, hd, xs, rel, dd⟩ := dt_of I.hok e
    have hz : xs.length ≤ sizeLine := by rw [← Paired.length rel]; exact z
    have hl : (putK kvs k v).length ≤ sizeLine := by have := length_putK kvs k v; omega
    refine wpAny_setItem_heap (hsz := hz) (tupleKind_room_in1 hu) (key_of I.hok eb) dd fun h' dd' hs => h _ ?_
    obtain ⟨q, es, ep, hq, h2, h3, h4, _, h5⟩ := dd'
    refine d_write I (by rw [e]; exact True.intro) hs ⟨q, hq⟩ ⟨hl, hd, _, (rel.put k eb rv).keeps fun c ys ec => ?_, q, es, ep, hq, h2, h3, h4, h5⟩
    rw [upd_ne (ne_of ec e (fun z => nomatch z))]
    exact ec
end

section
variable {X : Cx} {pins : List (Addr × Obj)} {σ : St} {H : Hp} {s : Shared} {a : Addr} {kvs : List (Key × V)} {k : Key} {u : Value} {A : Around} {E : Value → Shared → Prop}
end

/-! ### readings and rules -/
/-- the element of a subscription, not a slice -/
noncomputable def NoSl (i : Expr) : Prop := ∀ ov iv, subscripted i false ov iv = operate [ov, iv] (getItem ov iv)
theorem subD_of {prog : Program} {w : World} {A : Around} {E : Value → Shared → Prop} {s : Shared} {env : Env} {value slice : Expr} {pos : Pos} {T id : String} {Q : Value → Shared → Prop}
    (hl : typeLookup (.type T) "__getitem__" = pure (some (.builtin id))) (hs : NoSl slice)
    (h : wpAny (model prog w) A (eval value env) (fun o s₁ => wpAny (model prog w) A (eval slice env) (fun i s₂ => s₂.TypeIs o T ∧ wpAny (model prog w) A (getItem o i) Q E s₂) E s₁) E s) :
    wpAny (model prog w) A (eval (.Subscript value slice pos) env) Q E s := by
  refine Subscript_ (wpAny_mono h (fun o s₁ h₁ => wpAny_mono h₁ (fun i s₂ h₂ => ?_) fun _ _ x => x) fun _ _ x => x)
  obtain ⟨hT, h₂⟩ := h₂
  unfold subscriptTail
  refine wpAny_bind ?_
  rw [getitemInPython_of_ne hT.not_modules]
  refine wpAny_bind (wpAny_specialOf hT hl ?_)
  have fin : wpAny (model prog w) A (subscripted slice false o i) (fun r s₃ => wpAny (model prog w) A (letTemporaryGo value o r >>= fun _ => pure r) Q E s₃) E s₂ := by
    rw [hs o i]
    exact wpAny_operating (wpAny_mono h₂ (fun r s₃ h₃ => wpAny_bind (wpAny_letTemporaryGo (wpAny_pure h₃))) fun _ _ x => x)
  first
    | exact wpAny_pure (wpAny_bind fin)
    | exact wpAny_bind (wpAny_pure (wpAny_bind fin))
    | exact wpAny_bind fin

theorem dict_typeIs {X : Cx} {pins : List (Addr × Obj)} {σ : St} {H : Hp} {s : Shared} {a : Addr} {y : V} {o : Option V} (I : Inv X pins σ H s) (g : DGet H a y o) : s.TypeIs (.ref a) "dict" := by
  rcases g with ⟨kvs, k, e, _, _⟩ | ⟨kvs, k, b, e, _, _, _⟩
  · obtain ⟨_, _, vs, _, dd⟩ := dk_rd I.hok e
    exact dd.typeIs
  · obtain ⟨_, _, xs, _, dd⟩ := dt_rd I.hok e
    exact dd.typeIs
/-- d[y] -/
noncomputable def tDGet (td ty : TE) : TE := fun σ H Q => td σ H fun x H1 => ty σ H1 fun y H2 => ∃ a v, x = .ref a ∧ DGet H2 a y (some v) ∧ Q v H2
/-- y in d, y not in d -/
noncomputable def tDIn (ty td : TE) : TE := fun σ H Q => ty σ H fun y H1 => td σ H1 fun x H2 => ∃ a o, x = .ref a ∧ DGet H2 a y o ∧ Q (.bl o.isSome) H2
/-- d[y] = v -/
noncomputable def sDPut (td ty tv : TE) : TS := fun D σ H => tv σ H fun v H1 => td σ H1 fun x H2 => ty σ H2 fun y H3 => ∃ a H4, x = .ref a ∧ DPut H3 a y v H4 ∧ D.nx σ H4
section
variable {X : Cx} {o i e value : Expr} {pos pos' tpos : Pos} {td ty tv : TE}
theorem pe_dget (hu : X.A.units + 1 < cLine) (ho : PE X o td) (hi : PE X i ty) (hs : NoSl i) : PE X (.Subscript o i pos) (tDGet td ty) := by
  intro pins s σ H Q I h
  refine subD_of PySem.F.slot_dict_getitem.lookup hs (thn (ho pins s σ H _ I h) fun u s1 ⟨x, H1, I1, rx, q1⟩ => thn (hi pins s1 σ H1 _ I1 q1) fun iv s2 ⟨y, H2, I2, ry, a, v, ex, g, q2⟩ => ?_)
  subst ex
  obtain rfl : u = Value.ref a := rx
  exact ⟨dict_typeIs I2 g, d_getItem hu I2 g ry fun w' s3 I3 rw' => ⟨v, H2, I3, rw', q2⟩⟩
theorem pc_din (hu : X.A.units + 1 < cLine) (hi : PE X i ty) (ho : PE X o td) : PC X .In i o (tDIn ty td) := by
  intro pins s σ H Q I h
  refine thn (hi pins s σ H _ I h) fun iv s1 ⟨y, H1, I1, ry, q1⟩ => thn (ho pins s1 σ H1 _ I1 q1) fun u s2 ⟨x, H2, I2, rx, a, ov, ex, g, q2⟩ => ?_
  subst ex
  obtain rfl : u = Value.ref a := rx
  exact d_in hu I2 g ry fun s3 I3 => ⟨.bl ov.isSome, H2, I3, rfl, q2⟩
theorem ps_dput (hu : X.A.units + 1 < cLine) (ho : PE X o td) (hi : PE X i ty) (hv : PE X value tv) (hs : swapsWith value (some (.Subscript o i pos')) pos.line X.env = pure false) :
    PS X (.Assign [.Subscript o i pos'] value pos) (sDPut td ty tv) := by
  intro pins s σ H D I h
  refine wpAny_Assign_Subscript (thn (hv pins s σ H _ I h) fun r s1 ⟨v, H1, I1, rv, q1⟩ => thn (ho pins s1 σ H1 _ I1 q1) fun u s2 ⟨x, H2, I2, rx, q2⟩ => thn (hi pins s2 σ H2 _ I2 q2) fun iv s3 ⟨y, H3, I3, ry, a, H4, ex, g, q3⟩ => ?_) hs
  subst ex
  obtain rfl : u = Value.ref a := rx
  exact d_setItem hu I3 g ry rv fun s4 I4 => ⟨σ, H4, I4, q3⟩
end

/-! ### displays -/
theorem dk_empty {P : Program} {w : World} {H : Hp} (h : Heap) (hb : sysModules < h.objs.size) : ObjOk P w H (h.push { cls := .type "dict", data := .dict #[] }) h.objs.size (.dK []) :=
  ⟨Nat.zero_le _, beq_eq_false_iff_ne.mpr (Ne.symm (Nat.ne_of_lt hb)), [], .nil, Heap.DictOf.new h⟩
section
variable {X : Cx} {pos : Pos}
end

/-- the pairs of a display, from the left -/
noncomputable def tPairs : List (TE × TE) → St → Hp → (List (V × V) → Hp → Prop) → Prop
  | [], _, H, Q => Q [] H
  | (tk, tv) :: r, σ, H, Q => tk σ H fun x H1 => tv σ H1 fun y H2 => tPairs r σ H2 fun ps H3 => Q ((x, y) :: ps) H3
noncomputable abbrev VV : List (V × V) → List (Value × Value) → Prop := Paired fun p q => RelV p.1 q.1 ∧ RelV p.2 q.2
noncomputable def PPs (X : Cx) (pos : Pos) (keys : List (Option Expr)) (values : List Expr) (trs : List (TE × TE)) : Prop :=
  ∀ (pins : List (Addr × Obj)) (s : Shared) (σ : St) (H : Hp) (Q : List (V × V) → Hp → Prop), Inv X pins σ H s → tPairs trs σ H Q →
    wpAny (model X.prog X.w) X.A (evalPairs (pairTrees keys values X.env pos)) (fun vs s' => ∃ ps H', Inv X pins σ H' s' ∧ VV ps vs ∧ Q ps H') X.xe s
theorem pps_nil {X : Cx} {pos : Pos} : PPs X pos [] [] [] := fun pins s σ H Q I h => pairTrees_nil_walk ⟨[], H, I, .nil, h⟩
theorem pps_cons {X : Cx} {pos : Pos} {k v : Expr} {ks : List (Option Expr)} {vs : List Expr} {tk tv : TE} {trs : List (TE × TE)} (hk : PE X k tk) (hv : PE X v tv) (hr : PPs X pos ks vs trs) :
    PPs X pos (some k :: ks) (v :: vs) ((tk, tv) :: trs) := fun pins s σ H Q I h =>
  pairTrees_cons_walk (thn (hk pins s σ H _ I h) fun u s1 ⟨x, H1, I1, rx, q1⟩ => thn (hv pins s1 σ H1 _ I1 q1) fun w2 s2 ⟨y, H2, I2, ry, q2⟩ =>
    thn (hr pins s2 σ H2 _ I2 q2) fun ws s3 ⟨ps, H3, I3, rel, q3⟩ => ⟨(x, y) :: ps, H3, I3, .cons ⟨rx, ry⟩ rel, q3⟩)

noncomputable def mergeK (kvs more : List (Key × V)) : List (Key × V) := more.foldl (fun acc kv => putK acc kv.1 kv.2) kvs
theorem KV.merge : ∀ {more : List (Key × V)} {rs : List (Key × Value)} {kvs : List (Key × V)} {vs : List (Key × Value)}, KV more rs → KV kvs vs → KV (mergeK kvs more) (merged vs rs) := by
  intro more rs kvs vs r
  unfold KV at r
  induction r generalizing kvs vs with
  | nil => intro q; exact q
  | @cons p q ps qs h t ih =>
    intro r0
    have e : KV (putK kvs p.1 p.2) (stored vs q.1 q.2) := by
      have := r0.put p.1 h.2
      rw [← h.1]; exact this
    exact ih e
theorem length_mergeK : ∀ (more kvs : List (Key × V)), (mergeK kvs more).length ≤ kvs.length + more.length
  | [], kvs => by show kvs.length ≤ kvs.length + 0; omega
  | p :: r, kvs => by
    have h1 := length_mergeK r (putK kvs p.1 p.2)
    have h2 := length_putK kvs p.1 p.2
    show (mergeK (putK kvs p.1 p.2) r).length ≤ _
    rw [List.length_cons]; omega
theorem carries_of {P : Program} {w : World} : ∀ {kvs : List (Key × V)} {ws : List (Value × Value)}, VV (kvs.map fun kv => (kV kv.1, kv.2)) ws → ∃ rs, Carries (mixKind P w) ws rs ∧ KV kvs rs
  | [], _, r => by rw [List.map_nil] at r; cases r; exact ⟨[], True.intro, .nil⟩
  | p :: kvs, _, r => by
    rw [List.map_cons] at r
    cases r with
    | @cons a b as bs h t =>
      obtain ⟨rs, c, q⟩ := carries_of (P := P) (w := w) t
      obtain ⟨b1, b2⟩ := b
      exact ⟨(p.1, b2) :: rs, ⟨kV_is h.1, rfl, c⟩, .cons ⟨rfl, h.2⟩ q⟩
/-- {k: v, ..} with keys ints and texts; the new dict stands empty while the pairs are made -/
noncomputable def tDisp (trs : List (TE × TE)) : TE := fun σ H Q => ∀ p, H p = none → tPairs trs σ (upd H p (.dK [])) fun ps H2 => H2 p = some (.dK []) ∧ ∃ kvs : List (Key × V), ps = kvs.map (fun kv => (kV kv.1, kv.2)) ∧ kvs.length ≤ 15 ∧ Q (.ref p) (upd H2 p (.dK (mergeK [] kvs)))
theorem pe_disp {X : Cx} {pos : Pos} {keys : List (Option Expr)} {values : List Expr} {trs : List (TE × TE)} (h : PPs X pos keys values trs) (hall : keys.all (·.isSome) = true) (hl : keys.length = values.length) (h0 : keys ≠ [])
    (h15 : keys.length ≤ 15) : PE X (.Dict keys values pos) (tDisp trs) := by
  intro pins s σ H Q I q
  have hn := I.hok.fresh (Nat.le_refl s.heap.objs.size)
  have I1 := I.laid (a := s.heap.objs.size) (o := .dK []) (h' := s.heap.push { cls := .type "dict", data := .dict #[] }) (t' := s.toks) (fun _ _ q => Heap.get?_push_of_some _ q) (Nat.le_refl _) (dk_empty s.heap I.big)
  refine wpAny_Dict_walk (knd := mixKind X.prog X.w) hall hl h0 h15 (thn (h pins _ σ _ _ I1 (q _ hn)) fun ws s2 ⟨ps, H2, I2, rel, e, kvs, ep, lk, q2⟩ => ?_)
  subst ep
  obtain ⟨rs, c, rk⟩ := carries_of (P := X.prog) (w := X.w) rel
  obtain ⟨z, hd, vs0, r0, dd⟩ := dk_of I2.hok e
  cases r0
  refine ⟨rs, c, dd, fun h' dd' hs => ⟨.ref s.heap.objs.size, _, ?_, rfl, q2⟩⟩
  have hz : (mergeK [] kvs).length ≤ sizeLine := by
    have h1 := length_mergeK kvs []
    rw [List.length_nil] at h1
    rw [sizeLine_eq]; omega
  have he : ∃ q, h'.get? s.heap.objs.size = some q := let ⟨q, _, _, hq, _⟩ := dd'; ⟨q, hq⟩
  exact d_write I2 (by rw [e]; exact True.intro) hs he (dk_new hz hd (rk.merge .nil) dd')

/-! ### methods -/
section
variable {X : Cx} {pins : List (Addr × Obj)} {σ : St} {H : Hp} {s : Shared} {a : Addr} {y d : V} {u r : Value} {o : Option V} {A : Around} {E : Value → Shared → Prop}
end

section
variable {X : Cx} {o e f : Expr} {apos cpos : Pos} {td ty tx : TE}
end

/-! ### dict(d): a copy -/
section
variable {X : Cx} {pins : List (Addr × Obj)} {σ : St} {H : Hp} {s : Shared} {a : Addr} {kvs : List (Key × V)} {A : Around} {E : Value → Shared → Prop}
end

section
variable {X : Cx} {pins : List (Addr × Obj)} {σ : St} {H : Hp} {s : Shared} {a : Addr} {y : V} {u : Value} {A : Around} {E : Value → Shared → Prop}
end
end L2
namespace HT
open PySem PySem.Spec PyProof.Rows
set_option maxRecDepth 100000
variable {prog : Program} {w : World} {A : Around} {E : Value → Shared → Prop} {s : Shared}
theorem getItem_tuple_whole {t sl : Addr} {items : Array Value} {vl vu : Value} {lo hi : Option Int} {Q : Value → Shared → Prop} (ht : IsTup s.heap t items) (hs : s.heap.IsSliceOf sl vl vu .none) (pl : IsPart vl lo) (pu : IsPart vu hi)
    (h0 : sIx items.size 0 lo = 0) (h1 : sIx items.size items.size hi = items.size) (h : Q (.ref t) s) : wpAny (model prog w) A (getItem (.ref t) (.ref sl)) Q E s := by
  obtain ⟨os, hos, hcs, hds⟩ := id hs
  have hTs : s.TypeIs (.ref sl) "slice" := ⟨os, hos, hcs⟩
  unfold getItem
  try with_reducible refine wpAny_holding ?_
  first | refine wpAny_bind (wpAny_pure ?_) | skip
  refine wpAny_bind (wpAny_sequenceKey ht.typeIs (by decide) ?_)
  refine wpAny_bind (wpAny_callSpecial?_slot (name := Str.ofString "__getitem__") ht.typeIs PyProof.Rows.slot_tuple_getitem
    (wpAny_call_entry PyProof.Rows.slot_tuple_getitem ht.typeIs entry_tuple_getitem ?_ (args_tuple_getitem _ _)))
  show wpAny _ _ (Builtin.Tuple.tupleItemsOf (.ref t) >>= _) _ _ s
  refine wpAny_bind (tupleItemsOf_ ht ?_)
  refine wpAny_bind (wpAny_typeOf hTs ?_)
  rw [if_pos (by decide)]
  refine wpAny_bind (sliceApplied_gen hs pl pu ?_)
  have hyes : (((sIx items.size 0 lo : Nat) : Int) == 0 && (1 : Int) == 1 && (sIx items.size items.size hi - sIx items.size 0 lo) == items.size) = true := by
    rw [h0, h1]; simp
  show wpAny _ _ (if (((sIx items.size 0 lo : Nat) : Int) == 0 && (1 : Int) == 1 && (sIx items.size items.size hi - sIx items.size 0 lo) == items.size) = true then _ else _) _ _ s
  rw [if_pos hyes]
  unfold Builtin.Tuple.tupleIsExact
  refine wpAny_bind (wpAny_bind (wpAny_typeOf ht.typeIs (wpAny_pure ?_)))
  rw [if_pos (by decide)]
  first
    | exact wpAny_bind (wpAny_pure (wpAny_pure ⟨_, rfl, wpAny_pure h⟩))
    | exact wpAny_bind (m := rule _) (wpAny_pure ⟨_, rfl, wpAny_pure h⟩)
    | exact wpAny_pure ⟨_, rfl, wpAny_pure h⟩
    | exact wpAny_bind (wpAny_rule (wpAny_pure ⟨_, rfl, wpAny_pure h⟩))
    | exact wpAny_bind (wpAny_rule (wpAny_bind (wpAny_pure (wpAny_pure ⟨_, rfl, wpAny_pure h⟩))))
end HT
namespace L2
open PySem PySem.Spec PyProof.Rows
/-- t[lo:hi], whatever it is -/
noncomputable def rSlA (K : PySem.W.Frag) : V → Option Int → Option Int → Hp → VK → Prop := fun x lo hi H Q => ∃ a xs, x = .ref a ∧ SqT K H a xs ∧ AnyT K H (cutV xs lo hi) Q
theorem sl_tupA {X : Cx} : SlR X (rSlA X.K) := by
  intro pins s σ H x v vl vu lo hi sl Q I rx hs pl pu h
  obtain ⟨a, xs, rfl, hx, q⟩ := h
  by_cases hw : HT.sIx xs.length 0 lo = 0 ∧ HT.sIx xs.length xs.length hi = xs.length
  · cases rx
    obtain ⟨its, r, ht, hz⟩ := I.tuple hx
    have hlen : its.toArray.size = xs.length := by rw [List.size_toArray]; exact r.length.symm
    refine ⟨"tuple", _, PyProof.Rows.slot_tuple_getitem.lookup, ht.typeIs, ?_⟩
    refine HT.getItem_tuple_whole ht hs pl pu (by rw [hlen]; exact hw.1) (by rw [hlen]; exact hw.2) ?_
    refine ⟨.ref a, H, I, rfl, q.old ?_⟩
    unfold cutV
    rw [hw.1, hw.2, List.drop_zero, Nat.sub_zero, List.take_length]
    exact hx
  · exact sl_tup pins s σ H _ v vl vu lo hi sl Q I rx hs pl pu ⟨a, xs, rfl, hx, hw, fun p hp => q.new hp⟩
theorem slA {X : Cx} (K : PySem.W.Frag) (hK : X.K = K) : SlR X (rSlA K) := hK ▸ sl_tupA
end L2
namespace L2
open PySem PySem.Spec PyProof.Rows
set_option maxRecDepth 100000
/-! ### any(a tuple of whole numbers) -/
section
variable {X : Cx}
theorem call_anyT (hc : X.calm = true) : CallR X (.builtin "any") (fun xs H Q => ∃ p ns, xs = [.ref p] ∧ SqT X.K H p (List.map V.int ns) ∧ Q (.bl (ns.any fun n => n != 0)) H) := by
  intro pins s σ H vs us Q I r h
  obtain ⟨p, ns, rfl, hq, q⟩ := h
  obtain ⟨u, rfl, ru⟩ := vals1 r
  cases ru
  obtain ⟨its, rv, ht, hz⟩ := I.tuple hq
  have hlt : p < s.heap.objs.size := ht.lt
  have hlen : its.length = ns.length := by have := rv.length; rw [List.length_map] at this; exact this.symm
  apply call_any_walk
  apply wpAny_pyIter_tuple ht
  refine ⟨s.heap.objs.size, [s.heap.objs.size, p], [s.heap.objs.size], its.toArray.size, _, _, fun i => ((ns.map fun n => n != 0)[i]?).getD false, rfl, Walks.tuple (A := X.A.in1) (I.ok.hd hc) _ p (Nat.ne_of_lt hlt) its.toArray,
    ⟨⟨_, Heap.get?_push_size _ rfl, rfl, rfl⟩, ht.push _⟩, fun i v s1 Q1 E1 hP hQ => ?_, fun h1 tk1 hk => ?_⟩
  · have hP : its[i]? = some v := by simpa using hP
    have hi : i < ns.length := by rw [← hlen]; exact (List.getElem?_eq_some_iff.mp hP).1
    have hx : (ns.map V.int)[i]? = some (.int ns[i]) := by simp [hi]
    obtain ⟨u, hu, ru⟩ := rv.get hx
    rw [hP] at hu
    cases hu
    obtain ⟨t, rfl⟩ := ru
    dsimp only at hQ
    rw [show (ns.map fun n => n != 0)[i]? = some (ns[i] != 0) by simp [hi], Option.getD_some] at hQ
    exact truthy_int hQ
  · have e : ((List.range its.toArray.size).any fun i => ((ns.map fun n => n != 0)[i]?).getD false) = ns.any fun n => n != 0 := by
      have e2 := rng_any (ns.map fun n => n != 0)
      rw [List.length_map] at e2
      rw [List.size_toArray, hlen, e2, List.any_map]; rfl
    rw [e]
    refine ⟨.bl _, H, I.kept (fun b x e => hk b x (fun hm => by rw [List.mem_singleton.mp hm] at e; exact Nat.lt_irrefl _ (Heap.lt_size e)) (Heap.get?_push_of_some _ e)), rfl, q⟩
theorem cAnyT (K : PySem.W.Frag) (hK : X.K = K) (hc : X.calm = true) : CallR X (.builtin "any") (fun xs H Q => ∃ p ns, xs = [.ref p] ∧ SqT K H p (List.map V.int ns) ∧ Q (.bl (ns.any fun n => n != 0)) H) := hK ▸ call_anyT hc
end
section
variable {K : PySem.W.Frag} {H1 : Hp} {cp : St} {tt : TT} {te : TE} {Q : VK} {xs ys : List V} {l1 l2 : Addr} {b1 b2 : Bool}
end
end L2
namespace L2
open PySem PySem.Spec PyProof.Rows
set_option maxRecDepth 100000
set_option maxHeartbeats 3900000
/-! ### lambdas that a def makes: its code's table, what is made, calls of it -/
section
variable {X : Cx}
end
/-! ### defs whose promise hangs on the state at their entry -/
section
variable {P : Program} {w : World} {K : PySem.W.Frag} {mg : Str → Option Value} {base : Heap}
end
section
variable {X : Cx} {k : Nat} {f : Addr} {fd : FuncData} {ps : List Str} {x : Str} {p pos : Pos} {e : Expr} {es : List Expr} {t : TA} {te : TE}
end
/-! ### the lambda's own run -/
section
variable {P : Program} {w : World} {K : PySem.W.Frag} {mg : Str → Option Value} {base : Heap}
end
end L2
namespace L2
open PySem PySem.Spec PyProof.Rows
set_option maxRecDepth 100000
set_option maxHeartbeats 3900000
/-! ### a def whose code is known; the law's call where defs make lambdas -/
section
variable {P : Program} {w : World} {K : PySem.W.Frag} {mg : Str → Option Value} {base : Heap}
end
end L2
/-! a dict that stands at the top of a module, its keys texts: d[x], x in d, d.get(x, y) -/
namespace L2
open PySem PySem.Spec PyProof.Rows
set_option maxRecDepth 100000
section
variable {prog : Program} {w : World} {A : Around} {E : Value → Shared → Prop} {s : Shared} {a : Addr} {D : List (Str × V)} {x : Str} {tk : Tok}
end
section
variable {X : Cx} {o i e f : Expr} {pos apos cpos : Pos} {td ty tx : TE} {a : Addr} {D : List (Str × V)}
end
end L2
/-! range(i, -1, -1); a comprehension over a range whose element changes the heap -/
namespace L2
open PySem PySem.Spec PyProof.Rows
set_option maxRecDepth 100000
section
variable {X : Cx} {tg : Expr}
end
end L2
/-! what stays where lists and dicts change; a function handed in, of any arguments -/
namespace L2
open PySem PySem.Spec PyProof.Rows
set_option maxRecDepth 100000
noncomputable def Tup (H H' : Hp) : Prop := ∀ b o, H b = some o → ((∃ xs, o = .tup xs) ∨ ∃ ob u, o = .frz ob u) → H' b = some o
theorem Tup.upd {H : Hp} {a : Addr} {o : HO} (h : ∀ u, H a = some u → (∃ xs, u = .lst xs) ∨ ∃ kvs, u = .dK kvs) : Tup H (upd H a o) := fun b u e k => by
  have ne : b ≠ a := fun z => by
    subst z
    rcases h u e with ⟨xs, rfl⟩ | ⟨kvs, rfl⟩ <;> rcases k with ⟨_, z⟩ | ⟨_, _, z⟩ <;> cases z
  rw [upd_ne ne]
  exact e
theorem Tup.dct {H : Hp} {a : Addr} {kvs : List (Key × V)} {o : HO} (h : H a = some (.dK kvs)) : Tup H (L2.upd H a o) := Tup.upd fun u e => .inr ⟨kvs, by rw [h] at e; exact (Option.some.inj e).symm⟩
theorem Tup.seqT {K : PySem.W.Frag} {H H' : Hp} {a : Addr} {xs : List V} (e : Tup H H') (h : SqT K H a xs) : SqT K H' a xs := by
  rcases h with h | h
  · refine .inl ?_
    rcases h with h | ⟨o, h⟩
    · exact .inl (e _ _ h (.inl ⟨xs, rfl⟩))
    · exact .inr ⟨o, e _ _ h (.inr ⟨o, _, rfl⟩)⟩
  · exact .inr h
/-- a thing made later is written -/
theorem Same.put {H H' : Hp} {a : Addr} {o : HO} (s : Same H H') (h : H a = none) : Same H (L2.upd H' a o) := fun b u e => by
  rw [upd_ne (ne_of_none e h)]
  exact s b u e
section
variable {X : Cx} {k : Nat} {f : Addr} {x : Str} {p pos : Pos} {e : Expr} {es : List Expr} {t : TA} {R : List V → Hp → VK → Prop}
end
/-- o.pop(), within a comprehension too -/
theorem pe_pop {X : Cx} (K : PySem.W.Frag) (hK : X.K = K) {o : Expr} {to : TE} {apos cpos : Pos} (ho : PE X o to) (hbase : attributeBase o "pop" X.env (eval o X.env) = eval o X.env := by rfl) (hline : (apos.endLine == cpos.line) = true := by rfl) :
    PE X (.Call (.Attribute o "pop" apos) [] [] cpos) (tBM0 K "list" rPop to) := hK ▸ pe_bm0 PySem.F.plainAttrs_list PySem.F.slot_list_pop PySem.F.type_list_pop mt_pop ho hbase hline
end L2
/-! what is barred by what is barred; one row more -/
namespace Bw
theorem dvd_sub_of {p a b : Int} (h : p ∣ a) (k : p ∣ a - b) : p ∣ b := by
  have := Int.dvd_sub h k
  rwa [show a - (a - b) = b by omega] at this
end Bw
/-! deeds that keep the span -/
namespace Bw
structure SpE (p : Int) (L L' : List (List Int)) : Prop where
  to : ∀ r ∈ L, Sp p (RS L') (fn r)
  fro : ∀ r ∈ L', Sp p (RS L) (fn r)
section
variable {p : Int} {n : Nat} {L L' L'' : List (List Int)}
theorem sp_all (h : ∀ r ∈ L, Sp p (RS L') (fn r)) {v : Fn} (hv : Sp p (RS L) v) : Sp p (RS L') v := hv.trans fun f hf => by
  obtain ⟨r, hr, rfl⟩ := hf
  exact h r hr
theorem sp_in {r : List Int} (h : r ∈ L) : Sp p (RS L) (fn r) := .mem ⟨r, h, rfl⟩
theorem SpE.red (hp : p ∈ primesL) (hL : Rws p n L) (hL' : Rws p n L') (h : SpE p L L') : redM p L = redM p L' := redM_one hp hL hL' h.to h.fro
end
end Bw
namespace S21
open PySem L2 Bw
set_option maxHeartbeats 3900000
noncomputable def top (i : Nat) : Stmt := PySem.Challenge.pw_bentwires_k42_drawn.main.body.getD i (.Pass ⟨0, 0, 0, 0⟩)
noncomputable abbrev sCols : Stmt := top 1
noncomputable abbrev s_drawn : Stmt := top 3
noncomputable abbrev s_summing : Stmt := top 4
noncomputable abbrev s_single : Stmt := top 5
noncomputable abbrev s_seam_of : Stmt := top 6
noncomputable abbrev s_is_seam : Stmt := top 7
noncomputable abbrev s_copying : Stmt := top 8
noncomputable abbrev s_adding : Stmt := top 9
noncomputable abbrev s_crossing : Stmt := top 10
noncomputable abbrev s_inside : Stmt := top 11
noncomputable abbrev s_straight : Stmt := top 12
noncomputable abbrev sPrime : Stmt := top 15
noncomputable abbrev s_law_cleared : Stmt := top 16
noncomputable abbrev sLess : Stmt := top 17
noncomputable abbrev sRedW : Stmt := top 18
noncomputable abbrev s_law_box : Stmt := top 19
noncomputable abbrev s_law_then : Stmt := top 20
noncomputable abbrev s_law_beside : Stmt := top 21
noncomputable abbrev s_law_meaning : Stmt := top 22
noncomputable abbrev s_law_list : Stmt := top 23
noncomputable abbrev s_law_sides : Stmt := top 24
noncomputable abbrev s_law_joint : Stmt := top 25
noncomputable abbrev s_law : Stmt := top 26

/-- what the module's names are -/
structure Txt (mg : Str → Option Value) : Prop where
  range : mg "range" = none
  zip : mg "zip" = none
  tuple : mg "tuple" = none
  list : mg "list" = none
  int : mg "int" = none
  bool : mg "bool" = none
  isinstance : mg "isinstance" = none
  len : mg "len" = none
  sum : mg "sum" = none
  max : mg "max" = none
  min : mg "min" = none
  enumerate : mg "enumerate" = none
  any : mg "any" = none
  all : mg "all" = none
  reversed : mg "reversed" = none
theorem bt_max : bootBuiltins "max" = some (.builtin "max") := by decide +kernel
theorem getD_of {r : List Int} {j : Nat} (h : j < r.length) : r[j]? = some (r.getD j 0) := by
  rw [List.getElem?_eq_getElem h, List.getD_eq_getElem?_getD, List.getElem?_eq_getElem h]; rfl
theorem atRow {r : List Int} {j : Nat} (h : j < r.length) : (r.map V.int)[j]? = some (.int (r.getD j 0)) := by
  rw [List.getElem?_map, getD_of h]; rfl
theorem iteNe {c A B : Prop} [Decidable c] (h1 : ¬ c → A) (h2 : c → B) : if (!decide c) = true then A else B := by
  by_cases h : c
  · exact iteNS h (h2 h)
  · rw [decide_eq_false h]; exact iteT (h1 h)

section
variable {K : PySem.W.Frag}
theorem rowAt {H : Hp} {RS : List V} {rs : List (List Int)} {i : Nat} {x : V} (hA : HasA K H RS (rs.map intsT)) (hx : RS[i]? = some x) : ∃ r a, rs[i]? = some r ∧ x = .ref a ∧ SqT K H a (r.map V.int) := by
  obtain ⟨d, hd, hx'⟩ := hA.get hx
  rw [List.getElem?_map] at hd
  cases e : rs[i]? with
  | none => rw [e] at hd; cases hd
  | some r =>
    rw [e] at hd
    cases hd
    obtain ⟨a, rfl, ha⟩ := hasT hx'
    exact ⟨r, a, rfl, rfl, ha⟩
theorem lenA {H : Hp} {RS : List V} {rs : List (List Int)} (hA : HasA K H RS (rs.map intsT)) : RS.length = rs.length := by rw [hA.length, List.length_map]
end

/-! ### an item of a list of bounded ints -/
theorem Rws.snoc {p : Int} {n : Nat} {L : List (List Int)} {r : List Int} (h : Rws p n L) (hr : Rw p n r) : Rws p n (L ++ [r]) := fun x hx => by
  refine (List.mem_append.mp hx).elim (h x) fun z => ?_
  rw [List.mem_singleton.mp z]; exact hr

open Classical in
theorem iteNeD' {d e : PySem.W.Dat} {A B : Prop} (h : d ≠ e) (b : A) : if (if true = true then !decide (d = e) else decide (d = e)) = true then A else B := by
  simp only [if_true, decide_eq_false h, Bool.not_false]
  exact b

/-- a statement, then the others: what holds between them -/
theorem seq_by {s1 s2 : TS} {D : Ends} {σ : St} {H : Hp} (J : St → Hp → Prop) (h : ∀ N : St → Hp → Prop, (∀ σ H, J σ H → N σ H) → s1 { D with nx := N } σ H) (hr : ∀ σ H, J σ H → s2 D σ H) : tSeq s1 s2 D σ H := h _ hr
theorem Rw.snoc {p : Int} {n : Nat} {r : List Int} {z : Int} (h : Rw p n r) (h0 : 0 ≤ z) (h1 : z < p) : Rw p (n + 1) (r ++ [z]) := by
  refine ⟨by rw [List.length_append, h.1]; rfl, fun x hx => ?_⟩
  refine (List.mem_append.mp hx).elim (h.2 x) fun hx => ?_
  rw [List.mem_singleton.mp hx]; exact ⟨h0, h1⟩

theorem none_of {H H' : Hp} {l : Addr} (e : Same H H') (h : H' l = none) : H l = none := by
  cases q : H l with
  | none => rfl
  | some o => rw [e _ _ q] at h; cases h

theorem kqd_L (rs : List (List Int)) : PySem.W.kqdOk 8 (.list (rs.map intsT)) = true := by
  show (rs.map intsT).all (PySem.W.kqdOk 7) = true
  exact kqd_rows 6 rs
theorem kqd_T (rs : List (List Int)) : PySem.W.kqdOk 8 (.tuple (rs.map intsT)) = true := by
  show (rs.map intsT).all (PySem.W.kqdOk 7) = true
  exact kqd_rows 6 rs

theorem HasA.drop {K : PySem.W.Frag} {H : Hp} : ∀ {vs : List V} {ds : List PySem.W.Dat} (k : Nat), HasA K H vs ds → HasA K H (vs.drop k) (ds.drop k)
  | _, _, 0, h => h
  | _, _, _ + 1, .nil => .nil
  | _, _, k + 1, .cons _ r => HasA.drop k r
theorem HasA.take {K : PySem.W.Frag} {H : Hp} : ∀ {vs : List V} {ds : List PySem.W.Dat} (k : Nat), HasA K H vs ds → HasA K H (vs.take k) (ds.take k)
  | _, _, 0, _ => .nil
  | _, _, _ + 1, .nil => .nil
  | _, _, k + 1, .cons h r => .cons h (HasA.take k r)
theorem HasA.at {K : PySem.W.Frag} {H : Hp} {XS : List V} {rs : List (List Int)} {i : Nat} (hA : HasA K H XS (rs.map intsT)) (h : i < rs.length) : ∃ ra, XS[i]? = some (.ref ra) ∧ SqT K H ra ((rs[i]).map V.int) := by
  have hl : i < XS.length := by rw [lenA hA]; exact h
  obtain ⟨r, ra, h1, h2, h3⟩ := rowAt hA (List.getElem?_eq_getElem hl)
  rw [List.getElem?_eq_getElem h] at h1
  cases h1
  exact ⟨ra, by rw [List.getElem?_eq_getElem hl, h2], h3⟩

theorem cutL_hi {XS : List V} {k : Nat} (h : k ≤ XS.length) : cutV XS none (some (k : Int)) = XS.take k := by
  unfold cutV
  rw [HT.sIx_nat, HT.sIx_none, List.drop_zero, Nat.sub_zero, Nat.min_eq_left h]
theorem cutL_lo {XS : List V} {k : Nat} (h : k ≤ XS.length) : cutV XS (some (k : Int)) none = XS.drop k := by
  unfold cutV
  rw [HT.sIx_nat, HT.sIx_none, Nat.min_eq_left h, List.take_of_length_le (by simp)]

end S21
/-! the law's own reduced list -/
namespace Bw
noncomputable def lessM (p : Int) (k : Nat) (h row : List Int) : List Int := addM p row (-(row.getD k 0)) h
theorem less_clear {p : Int} {n k : Nat} {h row : List Int} (p0 : 0 < p) (hh : Rw p n h) (hr : Rw p n row) : lessM p k h row = clearM p h k row := by
  unfold lessM clearM
  split
  · rfl
  · rename_i h0
    have h0 : row.getD k 0 = 0 := by simpa using h0
    refine (addM_Rw _ p0 hr.1 hh.1).ext p0 hr fun j => ?_
    rw [addM_at _ hr.1 hh.1, h0]
    split
    · have := dvd_mod p (row.getD j 0 + -0 * h.getD j 0)
      rwa [show row.getD j 0 + -0 * h.getD j 0 = row.getD j 0 by simp] at this ⊢
    · rw [hr.out (by omega)]; exact ⟨0, by simp⟩
theorem inv_unique {p a b x : Int} (p0 : 0 < p) (ha : a * x % p = 1) (hb : b * x % p = 1) (a0 : 0 ≤ a) (a1 : a < p) (b0 : 0 ≤ b) (b1 : b < p) : a = b := by
  refine small_eq ?_ a0 a1 b0 b1
  obtain ⟨u, hu⟩ := dvd_mod p (a * x)
  obtain ⟨v, hv⟩ := dvd_mod p (b * x)
  rw [ha] at hu
  rw [hb] at hv
  exact ⟨a * v - b * u, by grind⟩
theorem head_lead {p c : Int} {n k : Nat} {h : List Int} (hp : p ∈ primesL) (hh : Rw p n h) (h0 : h.getD k 0 ≠ 0) (c0 : 1 ≤ c) (c1 : c < p) (hc : c * h.getD k 0 % p = 1) : (h.map fun x => x * c % p) = leadM p n h k := by
  have p0 : 0 < p := by have := prime_pos p hp; omega
  have b := hh.at p0 k
  obtain ⟨t1, t2, t3⟩ := turn_ok hp (show 1 ≤ h.getD k 0 by omega) b.2
  have e := inv_unique p0 hc t3 (by omega) c1 (by omega) t2
  have r1 : Rw p n (h.map fun x => x * c % p) := ⟨by simp [hh.1], fun x hx => by
    obtain ⟨y, _, rfl⟩ := List.mem_map.mp hx
    exact ⟨Int.emod_nonneg _ (by omega), Int.emod_lt_of_pos _ p0⟩⟩
  refine r1.ext p0 (leadM_Rw p0 hh) fun j => ?_
  rw [leadM_at hh, ← e]
  by_cases hj : j < n
  · rw [if_pos hj, map_at hh.1 hj]; exact ⟨0, by omega⟩
  · rw [if_neg hj, r1.out (by omega)]; exact ⟨0, by simp⟩
theorem drop_zero {p : Int} {n k : Nat} {L D A B : List (List Int)} {z : List Int} (I : RedOk p n L k (D, A ++ z :: B)) (hz : ∀ j, z.getD j 0 = 0) : RedOk p n L k (D, A ++ B) := by
  have sub : ∀ r, r ∈ A ++ B → r ∈ A ++ z :: B := fun r hr => by
    rcases List.mem_append.mp hr with h | h <;> simp [h]
  refine ⟨I.d, fun r hr => I.r r (sub r hr), fun r hr => I.z r (sub r hr), I.ech, fun r hr => I.sub r ?_, fun r hr => (I.sup r hr).trans fun f hf => ?_⟩
  · rcases (List.mem_append.mp hr) with (h | h)
    · exact List.mem_append_left _ h
    · exact List.mem_append_right _ (sub r h)
  · obtain ⟨q, hq, rfl⟩ := hf
    rcases (List.mem_append.mp hq) with (h | h)
    · exact .mem ⟨q, List.mem_append_left _ h, rfl⟩
    · rcases (List.mem_append.mp h) with (h | h)
      · exact .mem ⟨q, List.mem_append_right _ (List.mem_append_left _ h), rfl⟩
      · rcases (List.mem_cons.mp h) with (rfl | h)
        · exact Sp.zero.of_eq fun j => (hz j).symm
        · exact .mem ⟨q, List.mem_append_right _ (List.mem_append_right _ h), rfl⟩
theorem RedOk.skip {p : Int} {n k : Nat} {L D T : List (List Int)} (I : RedOk p n L k (D, T)) (h : ∀ r ∈ T, r.getD k 0 = 0) : RedOk p n L (k + 1) (D, T) := by
  obtain ⟨ls, E⟩ := I.ech
  exact ⟨I.d, I.r, fun r hr j hj => by
    by_cases e : j = k
    · subst e; exact h r hr
    · exact I.z r hr j (by omega), ⟨ls, E.len, E.up, fun l hl => Nat.lt_succ_of_lt (E.lt l hl), E.one, E.alone⟩, I.sub, I.sup⟩
theorem RedOk.head {p : Int} {n k i : Nat} {L D T : List (List Int)} {h : List Int} (hp : p ∈ primesL) (hk : k < n) (I : RedOk p n L k (D, T)) (hi : T[i]? = some h) (h0 : h.getD k 0 ≠ 0) (hf : ∀ j q, j < i → T[j]? = some q → q.getD k 0 = 0) :
    RedOk p n L (k + 1) (D.map (clearM p (leadM p n h k) k) ++ [leadM p n h k], (T.eraseIdx i).map (clearM p (leadM p n h k) k)) := by
  have p0 : 0 < p := by have := prime_pos p hp; omega
  have il := (List.getElem?_eq_some_iff.mp hi).1
  have hT : T = T.take i ++ h :: T.drop (i + 1) := by
    have hd : T.drop i = h :: T.drop (i + 1) := by rw [List.drop_eq_getElem_cons il, (List.getElem?_eq_some_iff.mp hi).2]
    rw [← hd, List.take_append_drop]
  have hhR : Rw p n h := I.r h (List.mem_of_getElem? hi)
  have hfl : T.filter (fun r => r.getD k 0 ≠ 0) = h :: (T.drop (i + 1)).filter fun r => r.getD k 0 ≠ 0 := by
    rw (occs := .pos [1]) [hT]
    rw [List.filter_append, List.filter_cons_of_pos (by simpa using h0), List.filter_eq_nil_iff.mpr]
    · rfl
    · intro q hq
      obtain ⟨j, hj, rfl⟩ := List.mem_iff_getElem.mp hq
      have hj' : j < i := by rw [List.length_take] at hj; omega
      have := hf j _ hj' (by rw [List.getElem?_eq_getElem (by omega)])
      rw [List.getElem_take]
      simpa using this
  have S := step_ok hp (show k + 1 ≤ n by omega) I
  unfold stepM at S
  dsimp only at S
  rw [hfl] at S
  dsimp only at S
  have hlR := leadM_Rw (place := k) p0 hhR
  have b := hhR.at p0 k
  obtain ⟨t1, t2, t3⟩ := turn_ok hp (show 1 ≤ h.getD k 0 by omega) b.2
  have zc : ∀ j, (clearM p (leadM p n h k) k h).getD j 0 = 0 := fun j => by
    unfold clearM
    rw [if_pos h0, addM_at _ hhR.1 hlR.1]
    split
    · rename_i hj
      apply Int.emod_eq_zero_of_dvd
      rw [leadM_at hhR, if_pos hj]
      obtain ⟨u, hu⟩ := dvd_mod p (h.getD j 0 * turnM p (h.getD k 0))
      obtain ⟨v, hv⟩ := dvd_mod p (turnM p (h.getD k 0) * h.getD k 0)
      rw [t3] at hv
      exact ⟨h.getD j 0 * v - h.getD k 0 * u, by grind⟩
    · rfl
  have e1 : (T.eraseIdx i).map (clearM p (leadM p n h k) k) = (T.take i).map (clearM p (leadM p n h k) k) ++ (T.drop (i + 1)).map (clearM p (leadM p n h k) k) := by
    rw [List.eraseIdx_eq_take_drop_succ, List.map_append]
  have e2 : T.map (clearM p (leadM p n h k) k) = (T.take i).map (clearM p (leadM p n h k) k) ++ clearM p (leadM p n h k) k h :: (T.drop (i + 1)).map (clearM p (leadM p n h k) k) := by
    rw (occs := .pos [1]) [hT]
    rw [List.map_append, List.map_cons]
  rw [e2] at S
  rw [e1]
  exact drop_zero S zc
theorem RedOk.start {p : Int} {n : Nat} {L : List (List Int)} (hL : Rws p n L) : RedOk p n L 0 ([], L) :=
  ⟨fun r hr => (nomatch hr), hL, fun r _ j hj => absurd hj (by omega), ⟨[], rfl, .nil, by simp, by simp, by simp⟩, fun r hr => .mem ⟨r, hr, rfl⟩, fun r hr => .mem ⟨r, hr, rfl⟩⟩
theorem RedOk.done {p : Int} {n : Nat} {L D T : List (List Int)} (hp : p ∈ primesL) (hL : Rws p n L) (I : RedOk p n L n (D, T)) : D = redM p L := by
  have sup : ∀ r ∈ L, Sp p (RS D) (fn r) := fun r hr => (I.sup r hr).trans fun f hf => by
    obtain ⟨r0, h0, rfl⟩ := hf
    rcases (List.mem_append.mp h0) with (h0 | h0)
    · exact .mem ⟨r0, h0, rfl⟩
    · exact (Sp.zero).of_eq fun j => (fn_zero (I.r r0 h0) (I.z r0 h0) j).symm
  have R := redM_ok hp hL
  obtain ⟨ls, E⟩ := I.ech
  obtain ⟨ms, EM⟩ := R.ech
  exact E.unique hp EM I.d R.rws (fun r hr => sp_all R.sup (I.sub r (List.mem_append_left _ hr))) (fun r hr => sp_all sup (R.sub r hr))
theorem RedOk.len {p : Int} {n k : Nat} {L D T : List (List Int)} (I : RedOk p n L k (D, T)) (hk : k ≤ n) : D.length ≤ k := by
  obtain ⟨ls, E⟩ := I.ech
  have := free_len (n := k) E.up E.lt
  have e : ls.length = D.length := E.len
  omega
end Bw
/-! rows in steps: what is left of a row by them; the greedy walk through lists that grow -/
namespace Bw
section
variable {p : Int} {n : Nat}
end
end Bw
namespace D1
open Bw
/-! ### drawings as trees, and what they let by: left numbers x, right numbers y -/
inductive Dr where
  | id | swap | copy | fin | add | none | cup | empty
  | times (n : Int)
  | back (d : Dr)
  | beside (a b : Dr)
  | thn (a b : Dr)
namespace Dr
noncomputable def sides : Dr → Nat × Nat
  | id => (1, 1) | swap => (2, 2) | copy => (1, 2) | fin => (1, 0) | add => (2, 1) | none => (0, 1) | cup => (0, 2) | empty => (0, 0)
  | times _ => (1, 1)
  | back d => (d.sides.2, d.sides.1)
  | beside a b => (a.sides.1 + b.sides.1, a.sides.2 + b.sides.2)
  | thn a b => (a.sides.1, b.sides.2)
noncomputable abbrev l (d : Dr) : Nat := d.sides.1
noncomputable abbrev r (d : Dr) : Nat := d.sides.2
noncomputable def wf (p : Int) : Dr → Prop
  | times n => 0 ≤ n ∧ n < p
  | back d => d.wf p
  | beside a b => a.wf p ∧ b.wf p
  | thn a b => a.wf p ∧ b.wf p ∧ a.r = b.l
  | _ => True
end Dr
noncomputable def sh (k : Nat) (f : Fn) : Fn := fun j => f (k + j)
noncomputable def eq (p a b : Int) : Prop := p ∣ a - b
theorem eq.refl (p a : Int) : eq p a a := ⟨0, by omega⟩
theorem eq.symm {p a b : Int} (h : eq p a b) : eq p b a := by
  have := Int.dvd_neg.mpr h
  show p ∣ b - a
  rwa [show -(a - b) = b - a by omega] at this
theorem eq.trans {p a b c : Int} (h : eq p a b) (k : eq p b c) : eq p a c := by
  have := Int.dvd_add h k
  show p ∣ a - c
  rwa [show a - b + (b - c) = a - c by omega] at this
theorem eq.add {p a b c d : Int} (h : eq p a b) (k : eq p c d) : eq p (a + c) (b + d) := by
  have := Int.dvd_add h k
  show p ∣ _
  rwa [show a - b + (c - d) = a + c - (b + d) by omega] at this
noncomputable def LetN (p : Int) : Dr → Fn → Fn → Prop
  | .id, x, y => eq p (y 0) (x 0)
  | .swap, x, y => eq p (y 0) (x 1) ∧ eq p (y 1) (x 0)
  | .copy, x, y => eq p (y 0) (x 0) ∧ eq p (y 1) (x 0)
  | .fin, _, _ => True
  | .add, x, y => eq p (y 0) (x 0 + x 1)
  | .none, _, y => eq p (y 0) 0
  | .cup, _, y => eq p (y 1) (y 0)
  | .empty, _, _ => True
  | .times n, x, y => eq p (y 0) (n * x 0)
  | .back d, x, y => LetN p d y x
  | .beside a b, x, y => LetN p a x y ∧ LetN p b (sh a.l x) (sh a.r y)
  | .thn a b, x, y => ∃ z, LetN p a x z ∧ LetN p b z y
/-! ### straight wires -/
noncomputable def straightD : Nat → Dr
  | 0 => .empty
  | 1 => .id
  | n + 2 => .beside (straightD (n + 1)) .id
theorem straight_sides : ∀ n, (straightD n).sides = (n, n)
  | 0 => rfl
  | 1 => rfl
  | n + 2 => by
    show ((straightD (n + 1)).sides.1 + 1, (straightD (n + 1)).sides.2 + 1) = _
    rw [straight_sides (n + 1)]
theorem straight_let {p : Int} : ∀ (n : Nat) (x y : Fn), LetN p (straightD n) x y ↔ ∀ j, j < n → eq p (y j) (x j)
  | 0, x, y => ⟨fun _ j hj => absurd hj (by omega), fun _ => True.intro⟩
  | 1, x, y => ⟨fun h j hj => by have : j = 0 := by omega
                                 subst this; exact h, fun h => h 0 (by omega)⟩
  | n + 2, x, y => by
    have ih := straight_let (p := p) (n + 1) x y
    show LetN p (straightD (n + 1)) x y ∧ eq p (sh (straightD (n + 1)).sides.2 y 0) (sh (straightD (n + 1)).sides.1 x 0) ↔ _
    rw [ih, straight_sides]
    constructor
    · rintro ⟨h1, h2⟩ j hj
      by_cases e : j < n + 1
      · exact h1 j e
      · have : j = n + 1 := by omega
        subst this
        exact h2
    · intro h
      exact ⟨fun j hj => h j (by omega), h (n + 1) (by omega)⟩
/-! ### crossings -/
noncomputable def crossD (a b : Nat) : Dr :=
  if a < b then .back (crossD b a)
  else if a ≤ 1 then .swap
  else .thn (.beside (straightD (a / 2)) (crossD (a - a / 2) b)) (.beside (crossD (a / 2) b) (straightD (a - a / 2)))
termination_by (a + b) * 2 + if a < b then 1 else 0
decreasing_by
  · rename_i h
    rw [if_pos h]
    split <;> omega
  · split <;> omega
  · split <;> omega
theorem cross_sides (a b : Nat) (ha : 1 ≤ a) (hb : 1 ≤ b) : (crossD a b).sides = (a + b, b + a) := by
  induction a, b using crossD.induct with
  | case1 a b h ih =>
    unfold crossD
    rw [if_pos h]
    show ((crossD b a).sides.2, (crossD b a).sides.1) = _
    rw [ih hb ha]
  | case2 a b h h1 =>
    unfold crossD
    rw [if_neg h, if_pos h1]
    have : a = 1 := by omega
    have : b = 1 := by omega
    subst a b
    rfl
  | case3 a b h h1 ih1 ih2 =>
    unfold crossD
    rw [if_neg h, if_neg h1]
    show ((straightD (a / 2)).sides.1 + (crossD (a - a / 2) b).sides.1, (crossD (a / 2) b).sides.2 + (straightD (a - a / 2)).sides.2) = _
    rw [straight_sides, straight_sides, ih1 (by omega) hb, ih2 (by omega) hb]
    show (a / 2 + (a - a / 2 + b), b + a / 2 + (a - a / 2)) = _
    congr 1 <;> omega
theorem cross_let {p : Int} (a b : Nat) (ha : 1 ≤ a) (hb : 1 ≤ b) : ∀ x y : Fn, LetN p (crossD a b) x y ↔ (∀ j, j < b → eq p (y j) (x (a + j))) ∧ ∀ j, j < a → eq p (y (b + j)) (x j) := by
  induction a, b using crossD.induct with
  | case1 a b h ih =>
    intro x y
    unfold crossD
    rw [if_pos h]
    show LetN p (crossD b a) y x ↔ _
    rw [ih hb ha]
    exact ⟨fun ⟨h1, h2⟩ => ⟨fun j hj => (h2 j hj).symm, fun j hj => (h1 j hj).symm⟩, fun ⟨h1, h2⟩ => ⟨fun j hj => (h2 j hj).symm, fun j hj => (h1 j hj).symm⟩⟩
  | case2 a b h h1 =>
    intro x y
    unfold crossD
    rw [if_neg h, if_pos h1]
    have : a = 1 := by omega
    have : b = 1 := by omega
    subst a b
    show eq p (y 0) (x 1) ∧ eq p (y 1) (x 0) ↔ _
    constructor
    · rintro ⟨h1, h2⟩
      refine ⟨fun j hj => ?_, fun j hj => ?_⟩ <;> (have : j = 0 := by omega) <;> subst this
      · exact h1
      · exact h2
    · rintro ⟨h1, h2⟩
      exact ⟨h1 0 (by omega), h2 0 (by omega)⟩
  | case3 a b h h1 ih1 ih2 =>
    intro x y
    have e1 := cross_sides (a / 2) b (by omega) hb
    have e2 := cross_sides (a - a / 2) b (by omega) hb
    unfold crossD
    rw [if_neg h, if_neg h1]
    show (∃ z, (LetN p (straightD (a / 2)) x z ∧ LetN p (crossD (a - a / 2) b) (sh (straightD (a / 2)).sides.1 x) (sh (straightD (a / 2)).sides.2 z)) ∧ (LetN p (crossD (a / 2) b) z y ∧ LetN p (straightD (a - a / 2)) (sh (crossD (a / 2) b).sides.1 z) (sh (crossD (a / 2) b).sides.2 y))) ↔ _
    simp only [straight_let, straight_sides, ih1 (by omega) hb, ih2 (by omega) hb, e1, sh]
    constructor
    · rintro ⟨z, ⟨s1, c1, c2⟩, ⟨c3, c4⟩, s2⟩
      refine ⟨fun j hj => ?_, fun j hj => ?_⟩
      · have h2 := c3 j hj
        have h3 := c1 j hj
        rw [show a / 2 + (a - a / 2 + j) = a + j by omega] at h3
        exact h2.trans h3
      · by_cases e : j < a / 2
        · exact (c4 j e).trans (s1 j e)
        · have h2 := s2 (j - a / 2) (by omega)
          have h3 := c2 (j - a / 2) (by omega)
          rw [show b + a / 2 + (j - a / 2) = b + j by omega, show a / 2 + b + (j - a / 2) = a / 2 + (b + (j - a / 2)) by omega] at h2
          rw [show a / 2 + (j - a / 2) = j by omega] at h3
          exact h2.trans h3
    · rintro ⟨h1, h2⟩
      refine ⟨fun j => if j < a / 2 then x j else if j < a / 2 + b then x (a + (j - a / 2)) else x (j - b), ⟨fun j hj => ?_, fun j hj => ?_, fun j hj => ?_⟩, ⟨fun j hj => ?_, fun j hj => ?_⟩, fun j hj => ?_⟩
      · dsimp only
        rw [if_pos hj]; exact .refl _ _
      · dsimp only
        rw [if_neg (by omega), if_pos (by omega), show a + (a / 2 + j - a / 2) = a / 2 + (a - a / 2 + j) by omega]; exact .refl _ _
      · dsimp only
        rw [if_neg (by omega), if_neg (by omega), show a / 2 + (b + j) - b = a / 2 + j by omega]; exact .refl _ _
      · dsimp only
        rw [if_neg (by omega), if_pos (by omega), show a + (a / 2 + j - a / 2) = a + j by omega]; exact h1 j hj
      · dsimp only
        rw [if_pos hj]; exact h2 j (by omega)
      · dsimp only
        rw [if_neg (by omega), if_neg (by omega)]
        have := h2 (a / 2 + j) (by omega)
        rwa [show b + a / 2 + j = b + (a / 2 + j) by omega, show a / 2 + b + j - b = a / 2 + j by omega]
end D1
namespace D1
open Bw
/-! ### copying, adding -/
noncomputable def insideD (a : Nat) (d : Dr) (b : Nat) : Dr := .beside (straightD a) (.beside d (straightD b))
noncomputable def copyD (n : Nat) : Dr := if n ≤ 1 then .copy else .thn (.beside (copyD (n / 2)) (copyD (n - n / 2))) (insideD (n / 2) (crossD (n / 2) (n - n / 2)) (n - n / 2))
termination_by n
noncomputable def addD (n : Nat) : Dr := if n ≤ 1 then .add else .thn (insideD (n / 2) (crossD (n - n / 2) (n / 2)) (n - n / 2)) (.beside (addD (n / 2)) (addD (n - n / 2)))
termination_by n
theorem copy_sides (n : Nat) (hn : 1 ≤ n) : (copyD n).sides = (n, n + n) := by
  induction n using copyD.induct with
  | case1 n h =>
    unfold copyD
    rw [if_pos h]
    have : n = 1 := by omega
    subst this
    rfl
  | case2 n h ih1 ih2 =>
    unfold copyD
    rw [if_neg h]
    show ((copyD (n / 2)).sides.1 + (copyD (n - n / 2)).sides.1, (straightD (n / 2)).sides.2 + ((crossD (n / 2) (n - n / 2)).sides.2 + (straightD (n - n / 2)).sides.2)) = _
    rw [ih1 (by omega), ih2 (by omega), straight_sides, straight_sides, cross_sides _ _ (by omega) (by omega)]
    show (n / 2 + (n - n / 2), n / 2 + (n - n / 2 + n / 2 + (n - n / 2))) = _
    congr 1 <;> omega
theorem add_sides (n : Nat) (hn : 1 ≤ n) : (addD n).sides = (n + n, n) := by
  induction n using addD.induct with
  | case1 n h =>
    unfold addD
    rw [if_pos h]
    have : n = 1 := by omega
    subst this
    rfl
  | case2 n h ih1 ih2 =>
    unfold addD
    rw [if_neg h]
    show ((straightD (n / 2)).sides.1 + ((crossD (n - n / 2) (n / 2)).sides.1 + (straightD (n - n / 2)).sides.1), (addD (n / 2)).sides.2 + (addD (n - n / 2)).sides.2) = _
    rw [ih1 (by omega), ih2 (by omega), straight_sides, straight_sides, cross_sides _ _ (by omega) (by omega)]
    show (n / 2 + (n - n / 2 + n / 2 + (n - n / 2)), n / 2 + (n - n / 2)) = _
    congr 1 <;> omega
theorem inside_let {p : Int} {c b : Nat} (hc : 1 ≤ c) (hb : 1 ≤ b) (a0 b0 : Nat) (x y : Fn) : LetN p (insideD a0 (crossD c b) b0) x y ↔
    (∀ j, j < a0 → eq p (y j) (x j)) ∧ ((∀ j, j < b → eq p (y (a0 + j)) (x (a0 + (c + j)))) ∧ ∀ j, j < c → eq p (y (a0 + (b + j))) (x (a0 + j))) ∧ ∀ j, j < b0 → eq p (y (a0 + (b + c + j))) (x (a0 + (c + b + j))) := by
  have e := cross_sides c b hc hb
  show LetN p (straightD a0) x y ∧ (LetN p (crossD c b) (sh (straightD a0).sides.1 x) (sh (straightD a0).sides.2 y) ∧ LetN p (straightD b0) (sh (crossD c b).sides.1 (sh (straightD a0).sides.1 x)) (sh (crossD c b).sides.2 (sh (straightD a0).sides.2 y))) ↔ _
  simp only [straight_let, straight_sides, cross_let c b hc hb, e, sh]
theorem copy_let {p : Int} (n : Nat) (hn : 1 ≤ n) : ∀ x y : Fn, LetN p (copyD n) x y ↔ ∀ j, j < n → eq p (y j) (x j) ∧ eq p (y (n + j)) (x j) := by
  induction n using copyD.induct with
  | case1 n h =>
    intro x y
    unfold copyD
    rw [if_pos h]
    have : n = 1 := by omega
    subst this
    show eq p (y 0) (x 0) ∧ eq p (y 1) (x 0) ↔ _
    constructor
    · intro h j hj
      have : j = 0 := by omega
      subst this
      exact h
    · intro h
      exact h 0 (by omega)
  | case2 n h ih1 ih2 =>
    intro x y
    have e1 := copy_sides (n / 2) (by omega)
    have e2 := copy_sides (n - n / 2) (by omega)
    unfold copyD
    rw [if_neg h]
    show (∃ z, (LetN p (copyD (n / 2)) x z ∧ LetN p (copyD (n - n / 2)) (sh (copyD (n / 2)).sides.1 x) (sh (copyD (n / 2)).sides.2 z)) ∧ LetN p (insideD (n / 2) (crossD (n / 2) (n - n / 2)) (n - n / 2)) z y) ↔ _
    simp only [ih1 (by omega), ih2 (by omega), e1, sh, inside_let (show 1 ≤ n / 2 by omega) (show 1 ≤ n - n / 2 by omega)]
    generalize hh : n / 2 = m at *
    obtain ⟨q, hq⟩ : ∃ q, n = m + q := ⟨n - m, by omega⟩
    have hq' : n - m = q := by omega
    simp only [hq'] at *
    constructor
    · rintro ⟨z, ⟨c1, c2⟩, s1, ⟨k1, k2⟩, s2⟩ j hj
      by_cases e : j < m
      · refine ⟨(s1 j e).trans (c1 j e).1, ?_⟩
        have h2 := k2 j e
        rw [show m + (q + j) = n + j by omega] at h2
        exact h2.trans (c1 j e).2
      · obtain ⟨i, hi⟩ : ∃ i, j = m + i := ⟨j - m, by omega⟩
        subst hi
        have h1 := k1 i (by omega)
        have h2 := c2 i (by omega)
        have h3 := s2 i (by omega)
        rw [show m + (m + i) = m + m + i by omega] at h1
        rw [show m + (q + m + i) = n + (m + i) by omega, show m + (m + q + i) = m + m + (q + i) by omega] at h3
        exact ⟨h1.trans h2.1, h3.trans h2.2⟩
    · intro hy
      refine ⟨fun j => if j < m then x j else if j < m + m then x (j - m) else if j < m + m + q then x (j - m) else x (j - m - q), ⟨fun j hj => ⟨?_, ?_⟩, fun j hj => ⟨?_, ?_⟩⟩, fun j hj => ?_, ⟨fun j hj => ?_, fun j hj => ?_⟩, fun j hj => ?_⟩
      · dsimp only; rw [if_pos hj]; exact .refl _ _
      · dsimp only; rw [if_neg (by omega), if_pos (by omega), show m + j - m = j by omega]; exact .refl _ _
      · dsimp only; rw [if_neg (by omega), if_neg (by omega), if_pos (by omega), show m + m + j - m = m + j by omega]; exact .refl _ _
      · dsimp only; rw [if_neg (by omega), if_neg (by omega), if_neg (by omega), show m + m + (q + j) - m - q = m + j by omega]; exact .refl _ _
      · dsimp only; rw [if_pos hj]; exact (hy j (by omega)).1
      · dsimp only; rw [if_neg (by omega), if_neg (by omega), if_pos (by omega), show m + (m + j) - m = m + j by omega]; exact (hy (m + j) (by omega)).1
      · dsimp only; rw [if_neg (by omega), if_pos (by omega), show m + j - m = j by omega, show m + (q + j) = n + j by omega]; exact (hy j (by omega)).2
      · dsimp only; rw [if_neg (by omega), if_neg (by omega), if_neg (by omega), show m + (m + q + j) - m - q = m + j by omega, show m + (q + m + j) = n + (m + j) by omega]; exact (hy (m + j) (by omega)).2
end D1
namespace D1
open Bw
theorem add_let {p : Int} (n : Nat) (hn : 1 ≤ n) : ∀ x y : Fn, LetN p (addD n) x y ↔ ∀ j, j < n → eq p (y j) (x j + x (n + j)) := by
  induction n using addD.induct with
  | case1 n h =>
    intro x y
    unfold addD
    rw [if_pos h]
    have : n = 1 := by omega
    subst this
    show eq p (y 0) (x 0 + x 1) ↔ _
    constructor
    · intro h j hj
      have : j = 0 := by omega
      subst this
      exact h
    · intro h
      exact h 0 (by omega)
  | case2 n h ih1 ih2 =>
    intro x y
    have e1 := add_sides (n / 2) (by omega)
    unfold addD
    rw [if_neg h]
    show (∃ z, LetN p (insideD (n / 2) (crossD (n - n / 2) (n / 2)) (n - n / 2)) x z ∧ LetN p (addD (n / 2)) z y ∧ LetN p (addD (n - n / 2)) (sh (addD (n / 2)).sides.1 z) (sh (addD (n / 2)).sides.2 y)) ↔ _
    simp only [ih1 (by omega), ih2 (by omega), e1, sh, inside_let (show 1 ≤ n - n / 2 by omega) (show 1 ≤ n / 2 by omega)]
    generalize hh : n / 2 = m at *
    obtain ⟨q, hq⟩ : ∃ q, n = m + q := ⟨n - m, by omega⟩
    have hq' : n - m = q := by omega
    simp only [hq'] at *
    constructor
    · rintro ⟨z, ⟨s1, ⟨k1, k2⟩, s2⟩, a1, a2⟩ j hj
      by_cases e : j < m
      · have h2 := k1 j e
        rw [show m + (q + j) = n + j by omega] at h2
        exact (a1 j e).trans ((s1 j e).add h2)
      · obtain ⟨i, hi⟩ : ∃ i, j = m + i := ⟨j - m, by omega⟩
        subst hi
        have h1 := a2 i (by omega)
        have h2 := k2 i (by omega)
        have h3 := s2 i (by omega)
        rw [show m + (m + i) = m + m + i by omega] at h2
        rw [show m + (m + q + i) = m + m + (q + i) by omega, show m + (q + m + i) = n + (m + i) by omega] at h3
        exact h1.trans (h2.add h3)
    · intro hy
      refine ⟨fun j => if j < m then x j else if j < m + m then x (q + j) else if j < m + m + q then x (j - m) else x j, ⟨fun j hj => ?_, ⟨fun j hj => ?_, fun j hj => ?_⟩, fun j hj => ?_⟩, fun j hj => ?_, fun j hj => ?_⟩
      · dsimp only; rw [if_pos hj]; exact .refl _ _
      · dsimp only; rw [if_neg (by omega), if_pos (by omega), show q + (m + j) = m + (q + j) by omega]; exact .refl _ _
      · dsimp only; rw [if_neg (by omega), if_neg (by omega), if_pos (by omega), show m + (m + j) - m = m + j by omega]; exact .refl _ _
      · dsimp only; rw [if_neg (by omega), if_neg (by omega), if_neg (by omega), show m + (m + q + j) = m + (q + m + j) by omega]; exact .refl _ _
      · dsimp only; rw [if_pos hj, if_neg (by omega), if_pos (by omega), show q + (m + j) = n + j by omega]; exact hy j (by omega)
      · dsimp only
        rw [if_neg (by omega), if_neg (by omega), if_pos (by omega), if_neg (by omega), if_neg (by omega), if_neg (by omega), show m + m + j - m = m + j by omega, show m + m + (q + j) = n + (m + j) by omega]
        exact hy (m + j) (by omega)
/-! ### sums of left numbers -/
noncomputable def rsum : List Int → Fn → Int
  | [], _ => 0
  | a :: r, x => a * x 0 + rsum r (sh 1 x)
theorem rsum_app : ∀ (r s : List Int) (x : Fn), rsum (r ++ s) x = rsum r x + rsum s (sh r.length x)
  | [], s, x => by
    show rsum s x = 0 + rsum s (sh 0 x)
    rw [Int.zero_add, show sh 0 x = x from funext fun j => by unfold sh; rw [Nat.zero_add]]
  | a :: r, s, x => by
    show a * x 0 + rsum (r ++ s) (sh 1 x) = a * x 0 + rsum r (sh 1 x) + rsum s (sh (r.length + 1) x)
    rw [rsum_app r s, show sh r.length (sh 1 x) = sh (r.length + 1) x from funext fun j => by unfold sh; rw [show 1 + (r.length + j) = r.length + 1 + j by omega]]
    omega
theorem rsum_eq {p : Int} : ∀ (r : List Int) (x y : Fn), (∀ j, j < r.length → eq p (x j) (y j)) → eq p (rsum r x) (rsum r y)
  | [], x, y, _ => .refl _ _
  | a :: r, x, y, h => by
    have h0 : eq p (a * x 0) (a * y 0) := by
      have : p ∣ a * (x 0 - y 0) := Int.dvd_mul_of_dvd_right (h 0 (by simp))
      show p ∣ _
      rwa [Int.mul_sub] at this
    exact h0.add (rsum_eq r (sh 1 x) (sh 1 y) fun j hj => h (1 + j) (by simp; omega))
theorem rsum_zero : ∀ (r : List Int) (x : Fn), (∀ a ∈ r, a = 0) → rsum r x = 0
  | [], _, _ => rfl
  | a :: r, x, h => by
    show a * x 0 + rsum r (sh 1 x) = 0
    rw [h a List.mem_cons_self, rsum_zero r _ fun b hb => h b (List.mem_cons_of_mem _ hb)]
    simp
/-- d lets by the left numbers and these sums of them -/
noncomputable def SumN (p : Int) (d : Dr) (sums : List (List Int)) (count : Nat) : Prop := d.sides = (count, sums.length) ∧ ∀ x y : Fn, LetN p d x y ↔ ∀ j r, sums[j]? = some r → eq p (y j) (rsum r x)
/-- many wires copied, the sums shared out -/
theorem sum_copy {p : Int} {d e : Dr} {s t : List (List Int)} {count : Nat} (hc : 1 ≤ count) (h1 : SumN p d s count) (h2 : SumN p e t count) (hs : ∀ r ∈ s ++ t, r.length = count) : SumN p (.thn (copyD count) (.beside d e)) (s ++ t) count := by
  refine ⟨?_, fun x y => ?_⟩
  · show ((copyD count).sides.1, d.sides.2 + e.sides.2) = _
    rw [copy_sides count hc, h1.1, h2.1, List.length_append]
  · show (∃ z, LetN p (copyD count) x z ∧ LetN p d z y ∧ LetN p e (sh d.sides.1 z) (sh d.sides.2 y)) ↔ _
    simp only [copy_let count hc, h1.1, h1.2, h2.2, sh]
    constructor
    · rintro ⟨z, hz, g1, g2⟩ j r hr
      have hl := hs r (List.mem_of_getElem? hr)
      by_cases hj : j < s.length
      · rw [List.getElem?_append_left hj] at hr
        exact (g1 j r hr).trans (rsum_eq r z x fun i hi => (hz i (by omega)).1)
      · rw [List.getElem?_append_right (by omega)] at hr
        have := g2 (j - s.length) r hr
        rw [show s.length + (j - s.length) = j by omega] at this
        exact this.trans (rsum_eq r _ x fun i hi => (hz i (by omega)).2)
    · intro hy
      refine ⟨fun i => if i < count then x i else x (i - count), fun j hj => ⟨?_, ?_⟩, fun j r hr => ?_, fun j r hr => ?_⟩
      · dsimp only; rw [if_pos hj]; exact .refl _ _
      · dsimp only; rw [if_neg (by omega), show count + j - count = j by omega]; exact .refl _ _
      · have hl := hs r (List.mem_append_left _ (List.mem_of_getElem? hr))
        have hj := (List.getElem?_eq_some_iff.mp hr).1
        refine (hy j r (by rw [List.getElem?_append_left hj]; exact hr)).trans (rsum_eq r _ _ fun i hi => ?_)
        rw [if_pos (by omega)]; exact .refl _ _
      · have hl := hs r (List.mem_append_right _ (List.mem_of_getElem? hr))
        refine (hy (s.length + j) r (by rw [List.getElem?_append_right (by omega), show s.length + j - s.length = j by omega]; exact hr)).trans (rsum_eq r _ _ fun i hi => ?_)
        unfold sh
        dsimp only
        rw [if_neg (by omega), show count + i - count = i by omega]; exact .refl _ _
/-- sums of the first wires and of the others, added -/
theorem sum_add {p : Int} {d e : Dr} {s t : List (List Int)} {m n : Nat} (hs : 1 ≤ s.length) (hst : s.length = t.length) (h1 : SumN p d s m) (h2 : SumN p e t n) (hm : ∀ r ∈ s, r.length = m) : SumN p (.thn (.beside d e) (addD s.length)) (List.zipWith (· ++ ·) s t) (m + n) := by
  refine ⟨?_, fun x y => ?_⟩
  · show (d.sides.1 + e.sides.1, (addD s.length).sides.2) = _
    rw [add_sides _ hs, h1.1, h2.1, List.length_zipWith, ← hst, Nat.min_self]
  · show (∃ z, (LetN p d x z ∧ LetN p e (sh d.sides.1 x) (sh d.sides.2 z)) ∧ LetN p (addD s.length) z y) ↔ _
    simp only [add_let _ hs, h1.1, h1.2, h2.2, sh]
    have at_ : ∀ j, j < s.length → ∃ a b, s[j]? = some a ∧ t[j]? = some b ∧ (List.zipWith (· ++ ·) s t)[j]? = some (a ++ b) ∧ a.length = m := fun j hj => by
      refine ⟨s[j], t[j]'(by omega), List.getElem?_eq_getElem hj, List.getElem?_eq_getElem (by omega), ?_, hm _ (List.getElem_mem hj)⟩
      rw [List.getElem?_zipWith, List.getElem?_eq_getElem hj, List.getElem?_eq_getElem (by omega)]
    constructor
    · rintro ⟨z, ⟨g1, g2⟩, ha⟩ j r hr
      have hj : j < s.length := by
        have := (List.getElem?_eq_some_iff.mp hr).1
        rw [List.length_zipWith] at this
        omega
      obtain ⟨a, b, ea, eb, er, la⟩ := at_ j hj
      rw [er] at hr
      cases hr
      rw [rsum_app, la]
      exact (ha j hj).trans ((g1 j a ea).add (g2 j b eb))
    · intro hy
      refine ⟨fun j => if j < s.length then rsum (s.getD j []) x else rsum (t.getD (j - s.length) []) (sh m x), ⟨fun j r hr => ?_, fun j r hr => ?_⟩, fun j hj => ?_⟩
      · have hj := (List.getElem?_eq_some_iff.mp hr).1
        dsimp only
        rw [if_pos hj, List.getD_eq_getElem?_getD, hr]
        exact .refl _ _
      · dsimp only
        rw [if_neg (by omega), show s.length + j - s.length = j by omega, List.getD_eq_getElem?_getD, hr]
        exact .refl _ _
      · obtain ⟨a, b, ea, eb, er, la⟩ := at_ j hj
        have := hy j _ er
        rw [rsum_app, la] at this
        dsimp only
        rw [if_pos hj, if_neg (by omega), show s.length + j - s.length = j by omega, List.getD_eq_getElem?_getD, ea, List.getD_eq_getElem?_getD, eb]
        exact this
/-- sums of the first wires beside sums of the others -/
theorem sum_seam {p : Int} {d e : Dr} {s t : List (List Int)} {m n : Nat} (h1 : SumN p d s m) (h2 : SumN p e t n) : SumN p (.beside d e) (s.map (· ++ List.replicate n 0) ++ t.map (List.replicate m 0 ++ ·)) (m + n) := by
  · refine ⟨?_, fun x y => ?_⟩
    · show (d.sides.1 + e.sides.1, d.sides.2 + e.sides.2) = _
      rw [h1.1, h2.1, List.length_append, List.length_map, List.length_map]
    · show LetN p d x y ∧ LetN p e (sh d.sides.1 x) (sh d.sides.2 y) ↔ _
      simp only [h1.1, h1.2, h2.2]
      have z1 : ∀ r : List Int, rsum (r ++ List.replicate n 0) x = rsum r x := fun r => by
        rw [rsum_app, rsum_zero (List.replicate n 0) _ fun a ha => (List.mem_replicate.mp ha).2, Int.add_zero]
      have z2 : ∀ r : List Int, rsum (List.replicate m 0 ++ r) x = rsum r (sh m x) := fun r => by
        rw [rsum_app, rsum_zero (List.replicate m 0) _ fun a ha => (List.mem_replicate.mp ha).2, Int.zero_add, List.length_replicate]
      constructor
      · rintro ⟨g1, g2⟩ j r hr
        by_cases hj : j < s.length
        · rw [List.getElem?_append_left (by rw [List.length_map]; exact hj), List.getElem?_map] at hr
          cases e : s[j]? with
          | none => rw [e] at hr; cases hr
          | some q =>
            rw [e] at hr
            cases hr
            rw [z1]
            exact g1 j q e
        · rw [List.getElem?_append_right (by rw [List.length_map]; omega), List.length_map, List.getElem?_map] at hr
          cases e : t[j - s.length]? with
          | none => rw [e] at hr; cases hr
          | some q =>
            rw [e] at hr
            cases hr
            rw [z2]
            have := g2 (j - s.length) q e
            unfold sh at this
            rw [show s.length + (j - s.length) = j by omega] at this
            exact this
      · intro hy
        refine ⟨fun j r hr => ?_, fun j r hr => ?_⟩
        · have hj := (List.getElem?_eq_some_iff.mp hr).1
          have := hy j (r ++ List.replicate n 0) (by rw [List.getElem?_append_left (by rw [List.length_map]; exact hj), List.getElem?_map, hr]; rfl)
          rwa [z1] at this
        · have := hy (s.length + j) (List.replicate m 0 ++ r) (by rw [List.getElem?_append_right (by rw [List.length_map]; omega), List.length_map, show s.length + j - s.length = j by omega, List.getElem?_map, hr]; rfl)
          rwa [z2] at this
end D1
namespace D1
open Bw
/-! ### single boxes as sums -/
theorem one_at {α : Type} {a r : α} {j : Nat} (h : [a][j]? = some r) : j = 0 ∧ r = a := by
  cases j with
  | zero => cases h; exact ⟨rfl, rfl⟩
  | succ j => simp at h
theorem sum_id {p : Int} : SumN p .id [[1]] 1 := ⟨rfl, fun x y => by
  show eq p (y 0) (x 0) ↔ _
  constructor
  · intro h j r hr
    obtain ⟨rfl, rfl⟩ := one_at hr
    show eq p (y 0) (1 * x 0 + 0)
    simpa using h
  · intro h
    have : eq p (y 0) (1 * x 0 + 0) := h 0 [1] rfl
    simpa using this⟩
theorem sum_times {p n : Int} : SumN p (.times n) [[n]] 1 := ⟨rfl, fun x y => by
  show eq p (y 0) (n * x 0) ↔ _
  constructor
  · intro h j r hr
    obtain ⟨rfl, rfl⟩ := one_at hr
    show eq p (y 0) (n * x 0 + 0)
    simpa using h
  · intro h
    have : eq p (y 0) (n * x 0 + 0) := h 0 [n] rfl
    simpa using this⟩
theorem sum_end {p : Int} : SumN p .fin [] 1 := ⟨rfl, fun x y => ⟨fun _ j r hr => by simp at hr, fun _ => True.intro⟩⟩
theorem sum_empty {p : Int} : SumN p .empty [] 0 := ⟨rfl, fun x y => ⟨fun _ j r hr => by simp at hr, fun _ => True.intro⟩⟩
theorem sum_none {p : Int} : SumN p .none [[]] 0 := ⟨rfl, fun x y => by
  show eq p (y 0) 0 ↔ _
  constructor
  · intro h j r hr
    obtain ⟨rfl, rfl⟩ := one_at hr
    exact h
  · intro h
    exact h 0 [] rfl⟩
/-! ### the drawing of a list of rows: what it spans -/
theorem drawn_let {p : Int} {a b : Dr} {s t : List (List Int)} {count : Nat} (h1 : SumN p a s count) (h2 : SumN p b t count) (x y : Fn) :
    LetN p (.thn (.back a) b) x y ↔ ∃ z : Fn, (∀ j r, s[j]? = some r → eq p (x j) (rsum r z)) ∧ ∀ j r, t[j]? = some r → eq p (y j) (rsum r z) := by
  show (∃ z, LetN p a z x ∧ LetN p b z y) ↔ _
  simp only [h1.2, h2.2]
/-- a sum of rows, place by place: the numbers at a place of all rows -/
theorem span_cols {p : Int} {rows : List (List Int)} {f : Fn} : Sp p (RS rows) f ↔ ∃ z : Fn, ∀ j, eq p (f j) (rsum (rows.map fun r => r.getD j 0) z) := by
  constructor
  · intro h
    induction h with
    | zero => exact ⟨fun _ => 0, fun j => by
        have : ∀ (l : List Int), rsum l (fun _ => 0) = 0 := fun l => by
          induction l with
          | nil => rfl
          | cons a l ih => show a * 0 + rsum l (sh 1 fun _ => 0) = 0; rw [show sh 1 (fun _ => (0 : Int)) = fun _ => 0 from rfl, ih]; simp
        rw [this]; exact .refl _ _⟩
    | @add v r c _ hr ih =>
      obtain ⟨z, hz⟩ := ih
      obtain ⟨q, hq, rfl⟩ := hr
      obtain ⟨i, hi, rfl⟩ := List.mem_iff_getElem.mp hq
      refine ⟨fun k => z k + if k = i then c else 0, fun j => ?_⟩
      have add1 : ∀ (l : List Int) (i : Nat) (hi : i < l.length) (z : Fn), rsum l (fun k => z k + if k = i then c else 0) = rsum l z + c * l[i] := fun l => by
        induction l with
        | nil => intro i hi; exact absurd hi (by simp)
        | cons a l ih =>
          intro i hi z
          cases i with
          | zero =>
            show a * (z 0 + if 0 = 0 then c else 0) + rsum l (sh 1 fun k => z k + if k = 0 then c else 0) = a * z 0 + rsum l (sh 1 z) + c * a
            rw [show (sh 1 fun k => z k + if k = 0 then c else 0) = sh 1 z from funext fun k => by unfold sh; dsimp only; rw [if_neg (by omega)]; simp]
            simp only [if_true, Int.mul_add]
            rw [Int.mul_comm a c]
            omega
          | succ i =>
            have hi' : i < l.length := by simpa using hi
            show a * (z 0 + if 0 = i + 1 then c else 0) + rsum l (sh 1 fun k => z k + if k = i + 1 then c else 0) = a * z 0 + rsum l (sh 1 z) + c * l[i]
            rw [show (sh 1 fun k => z k + if k = i + 1 then c else 0) = fun k => sh 1 z k + if k = i then c else 0 from funext fun k => by
              unfold sh
              dsimp only
              by_cases e : k = i
              · rw [if_pos e, if_pos (by omega)]
              · rw [if_neg e, if_neg (by omega)], ih i hi']
            simp
            omega
      rw [add1 _ i (by rw [List.length_map]; exact hi), List.getElem_map]
      show eq p (v j + c * (rows[i]).getD j 0) _
      exact (hz j).add (.refl _ _)
    | cong _ e ih =>
      obtain ⟨z, hz⟩ := ih
      exact ⟨z, fun j => eq.trans (eq.symm (e j)) (hz j)⟩
  · rintro ⟨z, hz⟩
    have key : ∀ (L : List (List Int)) (z : Fn), (∀ r ∈ L, r ∈ rows) → Sp p (RS rows) (fun j => rsum (L.map fun r => r.getD j 0) z) := fun L => by
      induction L with
      | nil => intro z _; exact .zero
      | cons r L ih =>
        intro z hL
        have h1 := ih (sh 1 z) fun q hq => hL q (List.mem_cons_of_mem _ hq)
        refine (h1.add (z 0) ⟨r, hL r List.mem_cons_self, rfl⟩).of_eq fun j => ?_
        show rsum (L.map fun r => r.getD j 0) (sh 1 z) + z 0 * r.getD j 0 = r.getD j 0 * z 0 + rsum (L.map fun r => r.getD j 0) (sh 1 z)
        rw [Int.mul_comm, Int.add_comm]
    refine .cong (key rows z fun _ h => h) fun j => ?_
    exact (hz j).symm
end D1
namespace D1
open Bw
/-! ### the drawings that the program makes of rows: their words, and that they are well made -/
inductive Wd where
  | w (x : String)
  | n (i : Int)
  deriving DecidableEq
namespace Dr
noncomputable def words : Dr → List Wd
  | id => [.w "id"] | swap => [.w "swap"] | copy => [.w "copy"] | fin => [.w "end"] | add => [.w "add"] | none => [.w "none"] | cup => [.w "cup"] | empty => [.w "empty"]
  | times n => [.w "times", .n n]
  | back d => .w "back" :: d.words
  | beside a b => .w "beside" :: (a.words ++ b.words)
  | thn a b => .w "then" :: (a.words ++ b.words)
end Dr
theorem straight_words : ∀ n, (straightD (n + 1)).words = List.replicate n (.w "beside") ++ List.replicate (n + 1) (.w "id")
  | 0 => rfl
  | n + 1 => by
    show Wd.w "beside" :: ((straightD (n + 1)).words ++ [.w "id"]) = _
    rw [straight_words n, List.append_assoc, ← List.replicate_succ' (n := n + 1)]
    rfl
theorem straight_wf {p : Int} : ∀ n, (straightD n).wf p
  | 0 => True.intro
  | 1 => True.intro
  | n + 2 => ⟨straight_wf (n + 1), True.intro⟩
theorem cross_wf {p : Int} (a b : Nat) (ha : 1 ≤ a) (hb : 1 ≤ b) : (crossD a b).wf p := by
  induction a, b using crossD.induct with
  | case1 a b h ih => unfold crossD; rw [if_pos h]; exact ih hb ha
  | case2 a b h h1 => unfold crossD; rw [if_neg h, if_pos h1]; exact True.intro
  | case3 a b h h1 ih1 ih2 =>
    unfold crossD
    rw [if_neg h, if_neg h1]
    refine ⟨⟨straight_wf _, ih1 (by omega) hb⟩, ⟨ih2 (by omega) hb, straight_wf _⟩, ?_⟩
    show (straightD (a / 2)).sides.2 + (crossD (a - a / 2) b).sides.2 = (crossD (a / 2) b).sides.1 + (straightD (a - a / 2)).sides.1
    rw [straight_sides, straight_sides, cross_sides _ _ (by omega) hb, cross_sides _ _ (by omega) hb]
    show a / 2 + (b + (a - a / 2)) = a / 2 + b + (a - a / 2)
    omega
theorem inside_wf {p : Int} {d : Dr} (a b : Nat) (h : d.wf p) : (insideD a d b).wf p := ⟨straight_wf _, h, straight_wf _⟩
theorem copy_wf {p : Int} (n : Nat) (hn : 1 ≤ n) : (copyD n).wf p := by
  induction n using copyD.induct with
  | case1 n h => unfold copyD; rw [if_pos h]; exact True.intro
  | case2 n h ih1 ih2 =>
    unfold copyD
    rw [if_neg h]
    refine ⟨⟨ih1 (by omega), ih2 (by omega)⟩, inside_wf _ _ (cross_wf _ _ (by omega) (by omega)), ?_⟩
    show (copyD (n / 2)).sides.2 + (copyD (n - n / 2)).sides.2 = (straightD (n / 2)).sides.1 + ((crossD (n / 2) (n - n / 2)).sides.1 + (straightD (n - n / 2)).sides.1)
    rw [copy_sides _ (by omega), copy_sides _ (by omega), straight_sides, straight_sides, cross_sides _ _ (by omega) (by omega)]
    show n / 2 + n / 2 + (n - n / 2 + (n - n / 2)) = n / 2 + (n / 2 + (n - n / 2) + (n - n / 2))
    omega
theorem add_wf {p : Int} (n : Nat) (hn : 1 ≤ n) : (addD n).wf p := by
  induction n using addD.induct with
  | case1 n h => unfold addD; rw [if_pos h]; exact True.intro
  | case2 n h ih1 ih2 =>
    unfold addD
    rw [if_neg h]
    refine ⟨inside_wf _ _ (cross_wf _ _ (by omega) (by omega)), ⟨ih1 (by omega), ih2 (by omega)⟩, ?_⟩
    show (straightD (n / 2)).sides.2 + ((crossD (n - n / 2) (n / 2)).sides.2 + (straightD (n - n / 2)).sides.2) = (addD (n / 2)).sides.1 + (addD (n - n / 2)).sides.1
    rw [add_sides _ (by omega), add_sides _ (by omega), straight_sides, straight_sides, cross_sides _ _ (by omega) (by omega)]
    show n / 2 + (n / 2 + (n - n / 2) + (n - n / 2)) = n / 2 + n / 2 + (n - n / 2 + (n - n / 2))
    omega
/-! ### the drawing of sums -/
noncomputable def nil0 (r : List Int) : Bool := r.all (· == 0)
noncomputable def isSeam (sums : List (List Int)) (k t : Nat) : Bool := (sums.take t).all (fun r => nil0 (r.drop k)) && (sums.drop t).all (fun r => nil0 (r.take k))
noncomputable def isCut (sums : List (List Int)) (count k t : Nat) : Bool := decide (0 < k + t) && decide (k + t < count + sums.length) && isSeam sums k t
noncomputable def seamOf (sums : List (List Int)) (count : Nat) : Option (Nat × Nat) :=
  ((List.range (count + 1)).flatMap fun k => (List.range (sums.length + 1)).map fun t => (k, t)).find? fun kt => isCut sums count kt.1 kt.2
noncomputable def singleD (sums : List (List Int)) (count : Nat) : Dr :=
  match sums with
  | [] => if count = 1 then .fin else .empty
  | r :: _ => if count = 0 then .none else if r.getD 0 0 = 1 then .id else .times (r.getD 0 0)
noncomputable def isOne (sums : List (List Int)) (count : Nat) : Prop := count + sums.length < 2 ∨ (count = 1 ∧ sums.length = 1 ∧ (sums.getD 0 []).getD 0 0 ≠ 0)
instance (sums : List (List Int)) (count : Nat) : Decidable (isOne sums count) := by unfold isOne; infer_instance
noncomputable def sumF : Nat → List (List Int) → Nat → Dr
  | 0, sums, count => singleD sums count
  | n + 1, sums, count =>
    if isOne sums count then singleD sums count else
    match seamOf sums count with
    | some (k, t) => .beside (sumF n ((sums.take t).map (·.take k)) k) (sumF n ((sums.drop t).map (·.drop k)) (count - k))
    | none =>
      if count ≤ sums.length then .thn (copyD count) (.beside (sumF n (sums.take (sums.length / 2)) count) (sumF n (sums.drop (sums.length / 2)) count))
      else .thn (.beside (sumF n (sums.map (·.take (count / 2))) (count / 2)) (sumF n (sums.map (·.drop (count / 2))) (count - count / 2))) (addD sums.length)
theorem nil0_iff {r : List Int} : nil0 r = true ↔ ∀ a ∈ r, a = 0 := by unfold nil0; simp
theorem nil0_rep {r : List Int} (h : nil0 r = true) : r = List.replicate r.length 0 := List.eq_replicate_of_mem (nil0_iff.mp h)
theorem seam_some {sums : List (List Int)} {count k t : Nat} (h : seamOf sums count = some (k, t)) : k ≤ count ∧ t ≤ sums.length ∧ isCut sums count k t = true := by
  unfold seamOf at h
  have h1 := List.find?_some h
  have h2 := List.mem_of_find?_eq_some h
  simp at h2
  exact ⟨by omega, by omega, h1⟩
theorem seam_none {sums : List (List Int)} {count : Nat} (h : seamOf sums count = none) : ∀ k t, k ≤ count → t ≤ sums.length → isCut sums count k t = false := by
  intro k t hk ht
  unfold seamOf at h
  rw [List.find?_eq_none] at h
  have := h (k, t) (by simp; omega)
  simpa using this
/-- rows of numbers below p, each as long as count -/
noncomputable def Rws (p : Int) (sums : List (List Int)) (count : Nat) : Prop := ∀ r ∈ sums, r.length = count ∧ ∀ a ∈ r, 0 ≤ a ∧ a < p
noncomputable def Good (p : Int) (d : Dr) (sums : List (List Int)) (count : Nat) : Prop := SumN p d sums count ∧ d.wf p
theorem single_ok {p : Int} {sums : List (List Int)} {count : Nat} (h1 : isOne sums count) (h : Rws p sums count) : Good p (singleD sums count) sums count := by
  match sums, h1, h with
  | [], h1, _ =>
    have hc : count = 0 ∨ count = 1 := by
      rcases h1 with h1 | h1
      · simp at h1; omega
      · omega
    rcases hc with rfl | rfl
    · exact ⟨sum_empty, True.intro⟩
    · exact ⟨sum_end, True.intro⟩
  | r :: rest, h1, h =>
    have hl : rest = [] := by
      rcases h1 with h1 | h1
      · simp at h1; exact List.eq_nil_of_length_eq_zero (by omega)
      · have := h1.2.1; simp at this; exact this
    subst hl
    obtain ⟨hr, hb⟩ := h r (by simp)
    by_cases hc : count = 0
    · subst hc
      have : r = [] := List.eq_nil_of_length_eq_zero hr
      subst this
      exact ⟨sum_none, True.intro⟩
    · have hc1 : count = 1 := by
        rcases h1 with h1 | h1
        · simp at h1; omega
        · exact h1.1
      subst hc1
      obtain ⟨a, rfl⟩ := List.length_eq_one_iff.mp hr
      have ha := hb a (by simp)
      unfold singleD
      by_cases h1 : a = 1
      · subst h1
        exact ⟨by simpa using sum_id, True.intro⟩
      · have e : (if (1 : Nat) = 0 then Dr.none else if ([a] : List Int).getD 0 0 = 1 then Dr.id else .times (([a] : List Int).getD 0 0)) = .times a := by simp [h1]
        show Good p (if (1 : Nat) = 0 then Dr.none else if ([a] : List Int).getD 0 0 = 1 then Dr.id else .times (([a] : List Int).getD 0 0)) _ _
        rw [e]
        exact ⟨sum_times, ha⟩
theorem seam_rows {p : Int} {sums : List (List Int)} {count k t : Nat} (hk : k ≤ count) (h : Rws p sums count) (hs : isSeam sums k t = true) :
    ((sums.take t).map (·.take k)).map (· ++ List.replicate (count - k) 0) ++ ((sums.drop t).map (·.drop k)).map (List.replicate k 0 ++ ·) = sums := by
  unfold isSeam at hs
  rw [Bool.and_eq_true, List.all_eq_true, List.all_eq_true] at hs
  obtain ⟨h1, h2⟩ := hs
  have e1 : ((sums.take t).map (·.take k)).map (· ++ List.replicate (count - k) (0 : Int)) = sums.take t := by
    rw [List.map_map]
    conv => rhs; rw [← List.map_id (sums.take t)]
    refine List.map_congr_left fun r hr => ?_
    show r.take k ++ List.replicate (count - k) 0 = r
    have := nil0_rep (h1 r hr)
    rw [List.length_drop, (h r (List.mem_of_mem_take hr)).1] at this
    rw [← this, List.take_append_drop]
  have e2 : ((sums.drop t).map (·.drop k)).map (List.replicate k (0 : Int) ++ ·) = sums.drop t := by
    rw [List.map_map]
    conv => rhs; rw [← List.map_id (sums.drop t)]
    refine List.map_congr_left fun r hr => ?_
    show List.replicate k 0 ++ r.drop k = r
    have := nil0_rep (h2 r hr)
    rw [List.length_take, (h r (List.mem_of_mem_drop hr)).1, Nat.min_eq_left hk] at this
    rw [← this, List.take_append_drop]
  rw [e1, e2, List.take_append_drop]
theorem zip_cut (k : Nat) : ∀ sums : List (List Int), List.zipWith (· ++ ·) (sums.map (·.take k)) (sums.map (·.drop k)) = sums
  | [] => rfl
  | r :: rest => by simp [zip_cut k rest]
theorem Rws.sub {p : Int} {s t : List (List Int)} {count : Nat} (h : Rws p t count) (hs : ∀ r ∈ s, r ∈ t) : Rws p s count := fun r hr => h r (hs r hr)
theorem Rws.take {p : Int} {s : List (List Int)} {count k : Nat} (hk : k ≤ count) (h : Rws p s count) : Rws p (s.map (·.take k)) k := by
  intro r hr
  obtain ⟨q, hq, rfl⟩ := List.mem_map.mp hr
  exact ⟨by rw [List.length_take, (h q hq).1]; omega, fun a ha => (h q hq).2 a (List.mem_of_mem_take ha)⟩
theorem Rws.drop {p : Int} {s : List (List Int)} {count k : Nat} (h : Rws p s count) : Rws p (s.map (·.drop k)) (count - k) := by
  intro r hr
  obtain ⟨q, hq, rfl⟩ := List.mem_map.mp hr
  exact ⟨by rw [List.length_drop, (h q hq).1], fun a ha => (h q hq).2 a (List.mem_of_mem_drop ha)⟩
/-- where rows are not of one box and have no seam, there are wires enough on both sides -/
theorem no_seam {p : Int} {sums : List (List Int)} {count : Nat} (h : Rws p sums count) (h1 : ¬ isOne sums count) (hn : seamOf sums count = none) : 1 ≤ count ∧ 1 ≤ sums.length ∧ 3 ≤ count + sums.length := by
  have hs := seam_none hn
  unfold isOne at h1
  have hc : 1 ≤ count := by
    by_cases hc : count = 0
    · subst hc
      have := hs 0 1 (by omega) (by omega)
      exfalso
      have h2 : isCut sums 0 0 1 = true := by
        unfold isCut isSeam
        simp
        refine ⟨by omega, fun r hr => ?_, fun r hr => rfl⟩
        have := List.eq_nil_of_length_eq_zero (h r (List.mem_of_mem_take hr)).1
        rw [this]; rfl
      rw [h2] at this; cases this
    · omega
  have hl : 1 ≤ sums.length := by
    by_cases hl : sums.length = 0
    · have e := List.eq_nil_of_length_eq_zero hl
      subst e
      have := hs 1 0 (by omega) (by omega)
      exfalso
      have h2 : isCut [] count 1 0 = true := by
        unfold isCut isSeam
        simp at h1 ⊢
        omega
      rw [h2] at this; cases this
    · omega
  refine ⟨hc, hl, ?_⟩
  by_cases h3 : count + sums.length < 3
  · exfalso
    have e1 : count = 1 := by omega
    have e2 : sums.length = 1 := by omega
    subst e1
    obtain ⟨r, rfl⟩ := List.length_eq_one_iff.mp e2
    obtain ⟨a, rfl⟩ := List.length_eq_one_iff.mp (h r (by simp)).1
    have ha : a = 0 := by
      by_cases ha : a = 0
      · exact ha
      · exact absurd (Or.inr ⟨rfl, rfl, by simpa using ha⟩) h1
    subst ha
    have := hs 0 1 (by omega) (by simp)
    have h2 : isCut [[0]] 1 0 1 = true := by decide
    rw [h2] at this; cases this
  · omega
theorem sumF_ok {p : Int} : ∀ (n : Nat) (sums : List (List Int)) (count : Nat), count + sums.length ≤ n → Rws p sums count → Good p (sumF n sums count) sums count
  | 0, sums, count, hn, h => single_ok (Or.inl (by omega)) h
  | n + 1, sums, count, hn, h => by
    unfold sumF
    by_cases h1 : isOne sums count
    · rw [if_pos h1]; exact single_ok h1 h
    rw [if_neg h1]
    have h2 : 2 ≤ count + sums.length := by unfold isOne at h1; omega
    match hs : seamOf sums count with
    | some (k, t) =>
      obtain ⟨hk, ht, hc⟩ := seam_some hs
      unfold isCut at hc
      rw [Bool.and_eq_true, Bool.and_eq_true, decide_eq_true_iff, decide_eq_true_iff] at hc
      obtain ⟨⟨hc1, hc2⟩, hc3⟩ := hc
      have i1 := sumF_ok n ((sums.take t).map (·.take k)) k (by simp; omega) ((h.sub fun r hr => List.mem_of_mem_take hr).take hk)
      have i2 := sumF_ok n ((sums.drop t).map (·.drop k)) (count - k) (by simp; omega) (Rws.drop (h.sub fun r hr => List.mem_of_mem_drop hr))
      have := sum_seam i1.1 i2.1
      rw [seam_rows hk h hc3, show k + (count - k) = count by omega] at this
      exact ⟨this, i1.2, i2.2⟩
    | none =>
      obtain ⟨c1, c2, c3⟩ := no_seam h h1 hs
      by_cases hl : count ≤ sums.length
      · show Good p (if _ then _ else _) _ _
        rw [if_pos hl]
        have i1 := sumF_ok n (sums.take (sums.length / 2)) count (by simp; omega) (h.sub fun r hr => List.mem_of_mem_take hr)
        have i2 := sumF_ok n (sums.drop (sums.length / 2)) count (by simp; omega) (h.sub fun r hr => List.mem_of_mem_drop hr)
        have := sum_copy c1 i1.1 i2.1 (by rw [List.take_append_drop]; exact fun r hr => (h r hr).1)
        rw [List.take_append_drop] at this
        refine ⟨this, copy_wf _ c1, ⟨i1.2, i2.2⟩, ?_⟩
        show (copyD count).sides.2 = (sumF n _ _).sides.1 + (sumF n _ _).sides.1
        rw [copy_sides _ c1, i1.1.1, i2.1.1]
      · show Good p (if _ then _ else _) _ _
        rw [if_neg hl]
        have i1 := sumF_ok n (sums.map (·.take (count / 2))) (count / 2) (by simp; omega) (h.take (by omega))
        have i2 := sumF_ok n (sums.map (·.drop (count / 2))) (count - count / 2) (by simp; omega) h.drop
        have := sum_add (by simpa using c2) (by simp) i1.1 i2.1 (fun r hr => (h.take (by omega : count / 2 ≤ count) r hr).1)
        rw [zip_cut, show count / 2 + (count - count / 2) = count by omega, List.length_map] at this
        refine ⟨this, ⟨i1.2, i2.2⟩, add_wf _ c2, ?_⟩
        show (sumF n _ _).sides.2 + (sumF n _ _).sides.2 = (addD sums.length).sides.1
        rw [add_sides _ c2, i1.1.1, i2.1.1]
        simp
end D1
namespace D1
open Bw
/-! ### how many words the drawings have -/
theorem straight_wl (n : Nat) (hn : 1 ≤ n) : (straightD n).words.length + 1 = 2 * n := by
  obtain ⟨m, rfl⟩ : ∃ m, n = m + 1 := ⟨n - 1, by omega⟩
  rw [straight_words]; simp; omega
theorem cross_wl (a b : Nat) (ha : 1 ≤ a) (hb : 1 ≤ b) (ha8 : a ≤ 8) (hb8 : b ≤ 8) : (crossD a b).words.length + 18 ≤ 19 * (a * b) ∧ (b < a → (crossD a b).words.length + 19 ≤ 19 * (a * b)) := by
  induction a, b using crossD.induct with
  | case1 a b h ih =>
    have := (ih hb ha hb8 ha8).2 h
    unfold crossD
    rw [if_pos h]
    refine ⟨?_, fun k => absurd k (by omega)⟩
    show (crossD b a).words.length + 1 + 18 ≤ _
    rw [Nat.mul_comm a b]
    omega
  | case2 a b h h1 =>
    unfold crossD
    rw [if_neg h, if_pos h1]
    have : a = 1 := by omega
    have : b = 1 := by omega
    subst a b
    exact ⟨by decide, fun k => absurd k (by decide)⟩
  | case3 a b h h1 ih1 ih2 =>
    have i1 := (ih1 (by omega) hb (by omega) hb8).1
    have i2 := (ih2 (by omega) hb (by omega) hb8).1
    have s1 := straight_wl (a / 2) (by omega)
    have s2 := straight_wl (a - a / 2) (by omega)
    have e : a * b = (a - a / 2) * b + a / 2 * b := by rw [← Nat.add_mul]; congr 1; omega
    have hl : (crossD a b).words.length + 19 ≤ 19 * (a * b) := by
      unfold crossD
      rw [if_neg h, if_neg h1]
      simp only [Dr.words, List.length_append, List.length_cons]
      rw [e]
      generalize (a - a / 2) * b = u at *
      generalize a / 2 * b = v at *
      omega
    exact ⟨by omega, fun _ => hl⟩
theorem cross_wl2 (a b : Nat) (ha : 1 ≤ a) (hb : 1 ≤ b) (ha8 : a ≤ 8) (hb8 : b ≤ 8) : (crossD a b).words.length ≤ 1216 := by
  have := (cross_wl a b ha hb ha8 hb8).1
  have : a * b ≤ 8 * 8 := Nat.mul_le_mul ha8 hb8
  omega
theorem inside_wl (a b : Nat) (d : Dr) (ha : 1 ≤ a) (hb : 1 ≤ b) : (insideD a d b).words.length = d.words.length + 2 * (a + b) := by
  have s1 := straight_wl a ha
  have s2 := straight_wl b hb
  unfold insideD
  simp only [Dr.words, List.length_append, List.length_cons]
  omega
theorem copy_wl (n : Nat) (hn : 1 ≤ n) (h8 : n ≤ 8) : (copyD n).words.length + 1300 ≤ 1301 * n := by
  induction n using copyD.induct with
  | case1 n h =>
    unfold copyD
    rw [if_pos h]
    show 1 + 1300 ≤ _
    omega
  | case2 n h ih1 ih2 =>
    have i1 := ih1 (by omega) (by omega)
    have i2 := ih2 (by omega) (by omega)
    have c := cross_wl2 (n / 2) (n - n / 2) (by omega) (by omega) (by omega) (by omega)
    have s := inside_wl (n / 2) (n - n / 2) (crossD (n / 2) (n - n / 2)) (by omega) (by omega)
    unfold copyD
    rw [if_neg h]
    simp only [Dr.words, List.length_append, List.length_cons]
    omega
theorem add_wl (n : Nat) (hn : 1 ≤ n) (h8 : n ≤ 8) : (addD n).words.length + 1300 ≤ 1301 * n := by
  induction n using addD.induct with
  | case1 n h =>
    unfold addD
    rw [if_pos h]
    show 1 + 1300 ≤ _
    omega
  | case2 n h ih1 ih2 =>
    have i1 := ih1 (by omega) (by omega)
    have i2 := ih2 (by omega) (by omega)
    have c := cross_wl2 (n - n / 2) (n / 2) (by omega) (by omega) (by omega) (by omega)
    have s := inside_wl (n / 2) (n - n / 2) (crossD (n - n / 2) (n / 2)) (by omega) (by omega)
    unfold addD
    rw [if_neg h]
    simp only [Dr.words, List.length_append, List.length_cons]
    omega
theorem single_wl (sums : List (List Int)) (count : Nat) : 1 ≤ (singleD sums count).words.length ∧ (singleD sums count).words.length ≤ 2 := by
  unfold singleD
  split
  · split <;> simp [Dr.words]
  · split
    · simp [Dr.words]
    · split <;> simp [Dr.words]
noncomputable def parts (c l : Nat) : Nat := if c = 0 then l else if l = 0 then c else 2 * (c * l)
theorem parts_all : ((List.range 9).all fun c => (List.range 9).all fun l => (List.range 9).all fun k => (List.range 9).all fun t => decide (k ≤ c ∧ t ≤ l ∧ 0 < k + t ∧ k + t < c + l → parts k t + parts (c - k) (l - t) ≤ parts c l)) = true := by decide +kernel
theorem parts_cut (c : Nat) (hc : c < 9) (l : Nat) (hl : l < 9) (k : Nat) (hk : k < 9) (t : Nat) (ht : t < 9) (h : k ≤ c ∧ t ≤ l ∧ 0 < k + t ∧ k + t < c + l) : parts k t + parts (c - k) (l - t) ≤ parts c l := by
  have := parts_all
  simp only [List.all_eq_true, List.mem_range, decide_eq_true_eq] at this
  exact this c hc l hl k hk t ht h
theorem parts_copy : ∀ c, c < 9 → ∀ l, l < 9 → 1 ≤ c → 2 ≤ l → parts c (l / 2) + parts c (l - l / 2) ≤ parts c l := by decide +kernel
theorem parts_add : ∀ c, c < 9 → ∀ l, l < 9 → 2 ≤ c → 1 ≤ l → parts (c / 2) l + parts (c - c / 2) l ≤ parts c l := by decide +kernel
theorem parts_pos : ∀ c, c < 9 → ∀ l, l < 9 → 1 ≤ c + l → 1 ≤ parts c l ∧ parts c l ≤ 128 := by decide +kernel
theorem sumF_wl1 {p : Int} : ∀ (n : Nat) (sums : List (List Int)) (count : Nat), count + sums.length ≤ n → count < 9 → sums.length < 9 → 1 ≤ count + sums.length → Rws p sums count → (sumF n sums count).words.length + 10000 ≤ 10002 * parts count sums.length
  | 0, sums, count, hn, _, _, h1, _ => absurd h1 (by omega)
  | n + 1, sums, count, hn, hc, hl, h1, h => by
    have sg : (singleD sums count).words.length + 10000 ≤ 10002 * parts count sums.length := by
      have := (single_wl sums count).2
      have := (parts_pos count hc sums.length hl h1).1
      omega
    unfold sumF
    by_cases ho : isOne sums count
    · rw [if_pos ho]; exact sg
    rw [if_neg ho]
    have h2 : 2 ≤ count + sums.length := by unfold isOne at ho; omega
    match hs : seamOf sums count with
    | some (k, t) =>
      obtain ⟨hk, ht, hcut⟩ := seam_some hs
      unfold isCut at hcut
      rw [Bool.and_eq_true, Bool.and_eq_true, decide_eq_true_iff, decide_eq_true_iff] at hcut
      obtain ⟨⟨c1, c2⟩, c3⟩ := hcut
      have e1 : ((sums.take t).map (·.take k)).length = t := by simp; omega
      have e2 : ((sums.drop t).map (·.drop k)).length = sums.length - t := by simp
      have i1 := sumF_wl1 n ((sums.take t).map (·.take k)) k (by omega) (by omega) (by omega) (by omega) ((h.sub fun r hr => List.mem_of_mem_take hr).take hk)
      have i2 := sumF_wl1 n ((sums.drop t).map (·.drop k)) (count - k) (by omega) (by omega) (by omega) (by omega) (Rws.drop (h.sub fun r hr => List.mem_of_mem_drop hr))
      have pc := parts_cut count hc sums.length hl k (by omega) t (by omega) ⟨hk, ht, c1, c2⟩
      rw [e1] at i1
      rw [e2] at i2
      show (Dr.beside _ _).words.length + 10000 ≤ _
      simp only [Dr.words, List.length_append, List.length_cons]
      omega
    | none =>
      obtain ⟨c1, c2, c3⟩ := no_seam h ho hs
      by_cases hle : count ≤ sums.length
      · show (if _ then _ else _ : Dr).words.length + 10000 ≤ _
        rw [if_pos hle]
        have e1 : (sums.take (sums.length / 2)).length = sums.length / 2 := by simp; omega
        have e2 : (sums.drop (sums.length / 2)).length = sums.length - sums.length / 2 := by simp
        have i1 := sumF_wl1 n (sums.take (sums.length / 2)) count (by omega) hc (by omega) (by omega) (h.sub fun r hr => List.mem_of_mem_take hr)
        have i2 := sumF_wl1 n (sums.drop (sums.length / 2)) count (by omega) hc (by omega) (by omega) (h.sub fun r hr => List.mem_of_mem_drop hr)
        have pc := parts_copy count hc sums.length hl c1 (by omega)
        have cw := copy_wl count c1 (by omega)
        rw [e1] at i1
        rw [e2] at i2
        simp only [Dr.words, List.length_append, List.length_cons]
        omega
      · show (if _ then _ else _ : Dr).words.length + 10000 ≤ _
        rw [if_neg hle]
        have e1 : (sums.map (·.take (count / 2))).length = sums.length := by simp
        have e2 : (sums.map (·.drop (count / 2))).length = sums.length := by simp
        have i1 := sumF_wl1 n (sums.map (·.take (count / 2))) (count / 2) (by omega) (by omega) (by omega) (by omega) (h.take (by omega))
        have i2 := sumF_wl1 n (sums.map (·.drop (count / 2))) (count - count / 2) (by omega) (by omega) (by omega) (by omega) h.drop
        have pc := parts_add count hc sums.length hl (by omega) c2
        have cw := add_wl sums.length c2 (by omega)
        rw [e1] at i1
        rw [e2] at i2
        simp only [Dr.words, List.length_append, List.length_cons]
        omega
theorem sumF_wl {p : Int} {n : Nat} {sums : List (List Int)} {count : Nat} (hn : count + sums.length ≤ n) (hc : count < 9) (hl : sums.length < 9) (h : Rws p sums count) : (sumF n sums count).words.length ≤ 1300000 := by
  by_cases h1 : 1 ≤ count + sums.length
  · have := sumF_wl1 n sums count hn hc hl h1 h
    have := (parts_pos count hc sums.length hl h1).2
    omega
  · have ho : isOne sums count := Or.inl (by omega)
    have := (single_wl sums count).2
    match n with
    | 0 => show (singleD sums count).words.length ≤ _; omega
    | n + 1 => unfold sumF; rw [if_pos ho]; omega
end D1
namespace S21
open PySem L2 Bw
set_option maxHeartbeats 3900000
/-! ### words of drawings, and readings that give them whatever comes behind -/
noncomputable def wdV : D1.Wd → V
  | .w x => .str x
  | .n i => .int i
noncomputable def IE (te : TE) (σ : St) (H : Hp) (k : Int) : Prop := ∀ H', Same H H' → ∀ R : VK, R (.int k) H' → te σ H' R
noncomputable def WdE (K : PySem.W.Frag) (te : TE) (σ : St) (H : Hp) (ws : List D1.Wd) : Prop := ∀ H', Same H H' → ∀ R : VK, (∀ v H'', Same H' H'' → SqT K H'' v (ws.map wdV) → R (.ref v) H'') → te σ H' R
/-- what a call that tells words is asked for -/
noncomputable def TellW (K : PySem.W.Frag) (H : Hp) (ws : List D1.Wd) (Q : VK) : Prop := ∀ v H', Same H H' → SqT K H' v (ws.map wdV) → Q (.ref v) H'
section
variable {K : PySem.W.Frag} {σ : St} {H : Hp}
theorem ie_c {k : Int} : IE (tC (.int k)) σ H k := fun _ _ _ q => q
theorem ie_v {i : Nat} {k : Int} (h : σ[i]? = some (some (.int k))) : IE (tVar i) σ H k := fun _ _ _ q => ⟨_, h, q⟩
theorem ie_sub {ta tb : TE} {i j : Int} (h1 : IE ta σ H i) (h2 : IE tb σ H j) : IE (tOp (rI0 fun i j => .int (i - j)) ta tb) σ H (i - j) := fun H' s _ q => h1 H' s _ (h2 H' s _ ⟨i, j, rfl, rfl, q⟩)
theorem wdE_v {i : Nat} {a : Addr} {ws : List D1.Wd} (h : σ[i]? = some (some (.ref a))) (ha : SqT K H a (ws.map wdV)) : WdE K (tVar i) σ H ws := fun _ s _ q => ⟨_, h, q a _ (.refl _) (s.seqT ha)⟩
theorem wdE_1 {x : String} : WdE K (tTup (tCons (tC (.str x)) tNil)) σ H [.w x] := fun H' _ R q => ⟨by show 1 ≤ sizeLine; decide, fun a ha => q a _ (Same.upd ha) (.of upd_same)⟩
theorem wdE_2 {x y : String} : WdE K (tTup (tCons (tC (.str x)) (tCons (tC (.str y)) tNil))) σ H [.w x, .w y] := fun H' _ R q => ⟨by show 2 ≤ sizeLine; decide, fun a ha => q a _ (Same.upd ha) (.of upd_same)⟩
theorem wdE_cat {ta tb : TE} {ns ms : List D1.Wd} (h1 : WdE K ta σ H ns) (h2 : WdE K tb σ H ms) (hl : ns.length + ms.length ≤ 10000000) : WdE K (tOp (rCatA K) ta tb) σ H (ns ++ ms) := fun H' s R q => by
  have z : (10000000 : Nat) ≤ sizeLine := by decide
  refine h1 H' s _ fun a H1 s1 ha => h2 H1 (s.trans s1) _ fun b H2 s2 hb => ?_
  refine ⟨a, b, _, _, rfl, rfl, s2.seqT ha, hb, by simp only [List.length_map]; omega, fun c H3 s3 hc => q c H3 (s1.trans (s2.trans s3)) ?_⟩
  rw [List.map_append]
  exact hc
theorem flat_one {α : Type} (v : α) : ∀ n : Nat, (List.replicate n [v]).flatten = List.replicate n v
  | 0 => rfl
  | n + 1 => by rw [List.replicate_succ, List.flatten_cons, flat_one v n]; rfl
theorem wdE_rep {tk : TE} {k : Nat} {x : String} (h : IE tk σ H (k : Int)) (hk : k ≤ 10000) : WdE K (tOp (rRepT K) (tTup (tCons (tC (.str x)) tNil)) tk) σ H (List.replicate k (.w x)) := fun H' s R q => by
  have z : (10000 : Nat) ≤ sizeLine := by decide
  refine ⟨by show 1 ≤ sizeLine; decide, fun a ha => ?_⟩
  have sa := Same.upd (o := .tup [.str x]) ha
  refine h _ (s.trans sa) _ ⟨a, (k : Int), [.str x], rfl, rfl, .of upd_same, by simp, by omega, by omega, by show 1 * (k : Int).toNat ≤ sizeLine; omega, fun c H3 s3 hc => q c H3 (sa.trans s3) ?_⟩
  rw [show (k : Int).toNat = k by omega, flat_one] at hc
  rw [List.map_replicate]
  exact hc
theorem WdE.tell {te : TE} {ws : List D1.Wd} {Q : VK} (h : WdE K te σ H ws) (q : TellW K H ws Q) : te σ H Q := h H (.refl _) Q fun v H' s hv => q v H' s hv
theorem TellW.mono {ws : List D1.Wd} {Q : VK} {H1 : Hp} (q : TellW K H ws Q) (s : Same H H1) : TellW K H1 ws Q := fun v H' s' => q v H' (s.trans s')
end
section
variable {P : Program} {w : World} {K : PySem.W.Frag} {mg : Str → Option Value} {base : Heap}
/-! ### straight -/
noncomputable def spStr (K : PySem.W.Frag) : Sp := fun vs H Q _ => ∃ n : Nat, vs = [.int ((n + 1 : Nat) : Int)] ∧ n ≤ 100 ∧ TellW K H (D1.straightD (n + 1)).words Q
theorem scStr : FnScope ["count"] ["count"] (defScope s_straight) := ⟨rfl, rfl, rfl, by decide +kernel, rfl, by decide +kernel, by decide +kernel⟩
theorem ok_straight {f : Addr} {fd : FuncData} (F : Fun K "straight" "straight" s_straight f fd) : FnOk P w K mg base CX0 1 f fd ["count"] (spStr K) := by
  refine F.ok scStr (fun vs H Q E h => ?_) (fun cdv A outer s H vs Q E hr h => ?_)
  · obtain ⟨n, rfl, _⟩ := h
    rfl
  · obtain ⟨n, rfl, hn, q⟩ := h
    refine ⟨_, pss_one (ps_ret (pe_op (opCatA K rfl) (pe_op (opRepT K rfl) (pe_tup (pa_cons pe_str pa_nil)) (pe_op op_sub (pv 0) pe_int)) (pe_op (opRepT K rfl) (pe_tup (pa_cons pe_str pa_nil)) (pv 0)))), ?_⟩
    rw [D1.straight_words] at q
    refine (wdE_cat (wdE_rep (k := n) ?_ (by omega)) (wdE_rep (k := n + 1) (ie_v rfl) (by omega)) (by simp only [List.length_replicate]; omega)).tell q
    have := ie_sub (σ := [some (V.int ((n + 1 : Nat) : Int))]) (H := H) (ie_v (i := 0) rfl) (ie_c (k := 1))
    rwa [show ((n + 1 : Nat) : Int) - 1 = (n : Int) by omega] at this
/-! ### inside -/
theorem straight_len (n : Nat) : (D1.straightD (n + 1)).words.length = 2 * n + 1 := by rw [D1.straight_words]; simp; omega
theorem wdE_str {te : TE} {σ : St} {H : Hp} {E : XK} {n : Nat} (h : IE te σ H ((n + 1 : Nat) : Int)) (hn : n ≤ 100) : WdE K (tCall (spStr K) [] E (tCons te tNil)) σ H (D1.straightD (n + 1)).words := fun H' s _ q => h H' s _ ⟨n, rfl, hn, q⟩
noncomputable def spIns (K : PySem.W.Frag) : Sp := fun vs H Q _ => ∃ (m n : Nat) (a : Addr) (d : D1.Dr), vs = [.int ((m + 1 : Nat) : Int), .ref a, .int ((n + 1 : Nat) : Int)] ∧ m ≤ 100 ∧ n ≤ 100 ∧ d.words.length ≤ 100000 ∧ SqT K H a (d.words.map wdV) ∧ TellW K H (D1.insideD (m + 1) d (n + 1)).words Q
theorem scIns : FnScope ["above", "words", "below"] ["above", "words", "below"] (defScope s_inside) := ⟨rfl, rfl, rfl, by decide +kernel, rfl, by decide +kernel, by decide +kernel⟩
theorem ok_inside {f fS : Addr} {fd fdS : FuncData} (F : Fun K "inside" "inside" s_inside f fd)
    (GS : FnOk P w K mg base CX0 1 fS fdS ["count"] (spStr K)) (kS : PySem.W.keepIn K (.ref fS) = true) (bS : Binds K fdS ["count"] []) (mS : mg "straight" = some (.ref fS)) :
    FnOk P w K mg base CX0 2 f fd ["above", "words", "below"] (spIns K) := by
  refine F.ok scIns (fun vs H Q E h => ?_) (fun cdv A outer s H vs Q E hr h => ?_)
  · obtain ⟨m, n, a, d, rfl, _⟩ := h
    rfl
  · obtain ⟨m, n, a, d, rfl, hm, hn, hd, ha, q⟩ := h
    have hr0 : Room 1 _ := hr.mono (by decide)
    refine ⟨_, pss_one (ps_ret (pe_op (opCatA K rfl) (pe_op (opCatA K rfl) (pe_op (opCatA K rfl) (pe_op (opCatA K rfl) (pe_tup (pa_cons pe_str pa_nil)) (pe_call GS hr0 rfl mS kS bS .nil pass0 (pa_cons (pv 0) pa_nil))) (pe_tup (pa_cons pe_str pa_nil))) (pv 1)) (pe_call GS hr0 rfl mS kS bS .nil pass0 (pa_cons (pv 2) pa_nil)))), ?_⟩
    have e : (D1.insideD (m + 1) d (n + 1)).words = [.w "beside"] ++ (D1.straightD (m + 1)).words ++ [.w "beside"] ++ d.words ++ (D1.straightD (n + 1)).words := by
      show D1.Wd.w "beside" :: ((D1.straightD (m + 1)).words ++ (D1.Wd.w "beside" :: (d.words ++ (D1.straightD (n + 1)).words))) = _
      simp
    rw [e] at q
    have l1 := straight_len m
    have l2 := straight_len n
    refine (wdE_cat (wdE_cat (wdE_cat (wdE_cat wdE_1 (wdE_str (ie_v rfl) hm) ?_) wdE_1 ?_) (wdE_v rfl ha) ?_) (wdE_str (ie_v rfl) hn) ?_).tell q
    all_goals simp only [List.length_append, List.length_singleton, l1, l2]; omega
end
end S21
namespace S21
open PySem L2 Bw
set_option maxHeartbeats 3900000
section
variable {P : Program} {w : World} {K : PySem.W.Frag} {mg : Str → Option Value} {base : Heap}
/-! ### crossing: it calls itself, upon fewer wires -/
noncomputable def crM (a b : Nat) : Nat := (a + b) * 2 + (if a < b then 1 else 0)
theorem crM_le (a b : Nat) : crM a b ≤ (a + b) * 2 + 1 := by unfold crM; split <;> omega
theorem crM_ge (a b : Nat) : (a + b) * 2 ≤ crM a b := by unfold crM; omega
noncomputable def spCross (K : PySem.W.Frag) (n : Nat) : Sp := fun vs H Q _ => ∃ a b : Nat, vs = [.int (a : Int), .int (b : Int)] ∧ 1 ≤ a ∧ 1 ≤ b ∧ a ≤ 8 ∧ b ≤ 8 ∧ crM a b ≤ n ∧ TellW K H (D1.crossD a b).words Q
theorem wdE_cross {n : Nat} {ta tb : TE} {σ : St} {H : Hp} {E : XK} {a b : Nat} (h1 : IE ta σ H (a : Int)) (h2 : IE tb σ H (b : Int)) (ha : 1 ≤ a) (hb : 1 ≤ b) (ha8 : a ≤ 8) (hb8 : b ≤ 8) (hn : crM a b ≤ n) :
    WdE K (tCall (spCross K n) [] E (tCons ta (tCons tb tNil))) σ H (D1.crossD a b).words := fun H' s _ q => h1 H' s _ (h2 H' s _ ⟨a, b, rfl, ha, hb, ha8, hb8, hn, q⟩)
theorem wdE_strD {te : TE} {σ : St} {H : Hp} {E : XK} {n : Nat} (h : IE te σ H (n : Int)) (h1 : 1 ≤ n) (hn : n ≤ 100) : WdE K (tCall (spStr K) [] E (tCons te tNil)) σ H (D1.straightD n).words := by
  obtain ⟨m, rfl⟩ : ∃ m, n = m + 1 := ⟨n - 1, by omega⟩
  exact wdE_str h (by omega)
theorem ie_e {i : Nat} {j k : Int} {σ : St} {H : Hp} (h : σ[i]? = some (some (.int j))) (e : j = k) : IE (tVar i) σ H k := e ▸ ie_v h
theorem seq_w {te : TE} {i : Nat} {s2 : TS} {D : Ends} {σ : St} {H : Hp} (ws : List D1.Wd) (h : WdE K te σ H ws) (k : ∀ v H1, Same H H1 → SqT K H1 v (ws.map wdV) → s2 D (σ.set i (some (.ref v))) H1) : tSeq (tAsg te (gName i)) s2 D σ H := h.tell k
theorem scCr : FnScope ["above", "below", "half", "rest", "lower"] ["above", "below"] (defScope s_crossing) := ⟨rfl, rfl, rfl, by decide +kernel, rfl, by decide +kernel, by decide +kernel⟩
theorem ok_crossing {f fS : Addr} {fd fdS : FuncData} (F : Fun K "crossing" "crossing" s_crossing f fd) (b : Binds K fd ["above", "below"] []) (m : mg "crossing" = some (.ref f))
    (GS : FnOk P w K mg base CX0 1 fS fdS ["count"] (spStr K)) (kS : PySem.W.keepIn K (.ref fS) = true) (bS : Binds K fdS ["count"] []) (mS : mg "straight" = some (.ref fS)) :
    ∀ n : Nat, FnOk P w K mg base CX0 (n + 2) f fd ["above", "below"] (spCross K n)
  | 0 => by
    refine F.ok scCr (fun vs H Q E h => ?_) (fun cdv A outer s H vs Q E hr h => ?_)
    · obtain ⟨a, b, rfl, _⟩ := h
      rfl
    · obtain ⟨a, b, rfl, ha, hb, _, _, hn, _⟩ := h
      have := crM_ge a b
      exact absurd hn (by omega)
  | n + 1 => by
    have G := ok_crossing F b m GS kS bS mS n
    refine F.ok scCr (fun vs H Q E h => ?_) (fun cdv A outer s H vs Q E hr h => ?_)
    · obtain ⟨a, b, rfl, _⟩ := h
      rfl
    · obtain ⟨a, c, rfl, ha, hc, ha8, hc8, hn, q⟩ := h
      have hr1 : Room 1 _ := hr.mono (by omega)
      refine ⟨_, pss_cons (ps_if (pt_cmpR op_lt (pv 0) (pv 1) (nomark _)) (pss_one (ps_ret (pe_op (opCatA K rfl) (pe_tup (pa_cons pe_str pa_nil)) (pe_call G hr rfl m F.kp b .nil pass0 (pa_cons (pv 1) (pa_cons (pv 0) pa_nil)))))) pss_nil)
        (pss_cons (ps_if (pt_cmpR op_eq (pv 0) pe_int (nomark _)) (pss_one (ps_ret (pe_tup (pa_cons pe_str pa_nil)))) pss_nil)
        (pss_cons (ps_set (i := 2) scCr.nd rfl (Or.inl rfl) (pe_op op_fdiv (pv 0) pe_int))
        (pss_cons (ps_set (i := 3) scCr.nd rfl (Or.inl rfl) (pe_op op_sub (pv 0) (pv 2)))
        (pss_cons (ps_set (i := 4) scCr.nd rfl (Or.inl rfl) (pe_op (opCatA K rfl) (pe_op (opCatA K rfl) (pe_tup (pa_cons pe_str pa_nil)) (pe_call GS hr1 rfl mS kS bS .nil pass0 (pa_cons (pv 2) pa_nil))) (pe_call G hr rfl m F.kp b .nil pass0 (pa_cons (pv 3) (pa_cons (pv 1) pa_nil)))))
        (pss_one (ps_ret (pe_op (opCatA K rfl) (pe_op (opCatA K rfl) (pe_op (opCatA K rfl) (pe_op (opCatA K rfl) (pe_tup (pa_cons pe_str pa_nil)) (pv 4)) (pe_tup (pa_cons pe_str pa_nil))) (pe_call G hr rfl m F.kp b .nil pass0 (pa_cons (pv 2) (pa_cons (pv 1) pa_nil)))) (pe_call GS hr1 rfl mS kS bS .nil pass0 (pa_cons (pv 3) pa_nil))))))))), ?_⟩
      unfold D1.crossD at q
      refine ⟨_, rfl, _, rfl, _, _, rfl, rfl, _, rfl, ?_⟩
      by_cases h1 : a < c
      · rw [if_pos h1] at q
        rw [decide_eq_true (show (a : Int) < (c : Int) by omega)]
        have hm : crM c a ≤ n := by unfold crM at *; rw [if_pos h1] at hn; rw [if_neg (by omega)]; omega
        have wl := D1.cross_wl2 c a hc ha hc8 ha8
        exact iteT ((wdE_cat (ns := [.w "back"]) wdE_1 (wdE_cross (ie_v rfl) (ie_v rfl) hc ha hc8 ha8 hm) (by simp only [List.length_singleton]; omega)).tell q)
      · rw [if_neg h1] at q
        rw [decide_eq_false (show ¬ (a : Int) < (c : Int) by omega)]
        refine iteF ?_
        refine ⟨_, rfl, rfl, _, rfl, ?_⟩
        by_cases h2 : a ≤ 1
        · rw [if_pos h2] at q
          rw [decide_eq_true (show V.int (a : Int) = V.int 1 from congrArg V.int (by omega))]
          exact iteT ((wdE_1 (x := "swap")).tell q)
        · rw [if_neg h2] at q
          rw [decide_eq_false (show ¬ V.int (a : Int) = V.int 1 from fun e => by injection e with e; omega)]
          refine iteF ⟨_, rfl, _, _, rfl, rfl, ⟨by decide, by decide⟩, ?_⟩
          refine ⟨_, rfl, _, rfl, _, _, rfl, rfl, ?_⟩
          have e1 : (a : Int) / 2 = ((a / 2 : Nat) : Int) := by omega
          have e2 : (a : Int) - (a : Int) / 2 = ((a - a / 2 : Nat) : Int) := by omega
          have m1 : crM (a - a / 2) c ≤ n := by have := crM_le (a - a / 2) c; have := crM_ge a c; omega
          have m2 : crM (a / 2) c ≤ n := by have := crM_le (a / 2) c; have := crM_ge a c; omega
          have l1 := D1.straight_wl (a / 2) (by omega)
          have l2 := D1.straight_wl (a - a / 2) (by omega)
          have l3 := D1.cross_wl2 (a - a / 2) c (by omega) hc (by omega) hc8
          have l4 := D1.cross_wl2 (a / 2) c (by omega) hc (by omega) hc8
          dsimp only [gName]
          show tSeq (tAsg _ (gName 4)) _ _ [some (.int (a : Int)), some (.int (c : Int)), some (.int ((a : Int) / 2)), some (.int ((a : Int) - (a : Int) / 2)), none] H
          refine seq_w ([.w "beside"] ++ (D1.straightD (a / 2)).words ++ (D1.crossD (a - a / 2) c).words) (wdE_cat ?_ ?_ ?_) fun v H1 s1 hv => ?_
          · exact wdE_cat wdE_1 (wdE_strD (ie_e rfl e1) (by omega) (by omega)) (by simp only [List.length_singleton]; omega)
          · exact wdE_cross (ie_e rfl e2) (ie_v rfl) (by omega) hc (by omega) hc8 m1
          · simp only [List.length_append, List.length_singleton]; omega
          have e : ([.w "then"] ++ ([.w "beside"] ++ (D1.straightD (a / 2)).words ++ (D1.crossD (a - a / 2) c).words) ++ [.w "beside"] ++ (D1.crossD (a / 2) c).words ++ (D1.straightD (a - a / 2)).words : List D1.Wd) = (D1.Dr.thn (.beside (D1.straightD (a / 2)) (D1.crossD (a - a / 2) c)) (.beside (D1.crossD (a / 2) c) (D1.straightD (a - a / 2)))).words := by
            simp [D1.Dr.words]
          rw [← e] at q
          refine WdE.tell (wdE_cat (wdE_cat (wdE_cat (wdE_cat wdE_1 (wdE_v rfl hv) ?_) wdE_1 ?_) ?_ ?_) ?_ ?_) (q.mono s1)
          case refine_3 => exact wdE_cross (ie_e rfl e1) (ie_v rfl) (by omega) hc (by omega) hc8 m2
          case refine_5 => exact wdE_strD (ie_e rfl e2) (by omega) (by omega)
          all_goals simp only [List.length_append, List.length_singleton]; omega
end
end S21
namespace S21
open PySem L2 Bw
set_option maxHeartbeats 3900000
section
variable {P : Program} {w : World} {K : PySem.W.Frag} {mg : Str → Option Value} {base : Heap}
/-! ### copying, adding: they call themselves, upon fewer wires -/
theorem wdE_ins {ta tw tb : TE} {σ : St} {H : Hp} {E : XK} {a b : Nat} {d : D1.Dr} (h1 : IE ta σ H (a : Int)) (h2 : WdE K tw σ H d.words) (h3 : IE tb σ H (b : Int)) (ha : 1 ≤ a) (hb : 1 ≤ b) (ha8 : a ≤ 8) (hb8 : b ≤ 8) (hd : d.words.length ≤ 100000) :
    WdE K (tCall (spIns K) [] E (tCons ta (tCons tw (tCons tb tNil)))) σ H (D1.insideD a d b).words := fun H' s _ q => by
  obtain ⟨m, rfl⟩ : ∃ m, a = m + 1 := ⟨a - 1, by omega⟩
  obtain ⟨n, rfl⟩ : ∃ n, b = n + 1 := ⟨b - 1, by omega⟩
  exact h1 H' s _ (h2 H' s _ fun v H1 s1 hv => h3 H1 (s.trans s1) _ ⟨m, n, v, d, rfl, by omega, by omega, hd, hv, fun u H2 s2 hu => q u H2 (s1.trans s2) hu⟩)
noncomputable def spCopy (K : PySem.W.Frag) (n : Nat) : Sp := fun vs H Q _ => ∃ a : Nat, vs = [.int (a : Int)] ∧ 1 ≤ a ∧ a ≤ 8 ∧ a ≤ n ∧ TellW K H (D1.copyD a).words Q
noncomputable def spAdd (K : PySem.W.Frag) (n : Nat) : Sp := fun vs H Q _ => ∃ a : Nat, vs = [.int (a : Int)] ∧ 1 ≤ a ∧ a ≤ 8 ∧ a ≤ n ∧ TellW K H (D1.addD a).words Q
theorem wdE_copy {n : Nat} {ta : TE} {σ : St} {H : Hp} {E : XK} {a : Nat} (h1 : IE ta σ H (a : Int)) (ha : 1 ≤ a) (ha8 : a ≤ 8) (hn : a ≤ n) :
    WdE K (tCall (spCopy K n) [] E (tCons ta tNil)) σ H (D1.copyD a).words := fun H' s _ q => h1 H' s _ ⟨a, rfl, ha, ha8, hn, q⟩
theorem wdE_add {n : Nat} {ta : TE} {σ : St} {H : Hp} {E : XK} {a : Nat} (h1 : IE ta σ H (a : Int)) (ha : 1 ≤ a) (ha8 : a ≤ 8) (hn : a ≤ n) :
    WdE K (tCall (spAdd K n) [] E (tCons ta tNil)) σ H (D1.addD a).words := fun H' s _ q => h1 H' s _ ⟨a, rfl, ha, ha8, hn, q⟩
theorem scCo : FnScope ["count", "half", "rest"] ["count"] (defScope s_copying) := ⟨rfl, rfl, rfl, by decide +kernel, rfl, by decide +kernel, by decide +kernel⟩
theorem scAd : FnScope ["count", "half", "rest"] ["count"] (defScope s_adding) := ⟨rfl, rfl, rfl, by decide +kernel, rfl, by decide +kernel, by decide +kernel⟩
theorem ok_copying {f fI fC : Addr} {fd fdI fdC : FuncData} (F : Fun K "copying" "copying" s_copying f fd) (b : Binds K fd ["count"] []) (m : mg "copying" = some (.ref f))
    (GI : FnOk P w K mg base CX0 2 fI fdI ["above", "words", "below"] (spIns K)) (kI : PySem.W.keepIn K (.ref fI) = true) (bI : Binds K fdI ["above", "words", "below"] []) (mI : mg "inside" = some (.ref fI))
    (GC : FnOk P w K mg base CX0 35 fC fdC ["above", "below"] (spCross K 33)) (kC : PySem.W.keepIn K (.ref fC) = true) (bC : Binds K fdC ["above", "below"] []) (mC : mg "crossing" = some (.ref fC)) :
    ∀ n : Nat, FnOk P w K mg base CX0 (n + 36) f fd ["count"] (spCopy K n)
  | 0 => by
    refine F.ok scCo (fun vs H Q E h => ?_) (fun cdv A outer s H vs Q E hr h => ?_)
    · obtain ⟨a, rfl, _⟩ := h
      rfl
    · obtain ⟨a, rfl, ha, _, hn, _⟩ := h
      exact absurd hn (by omega)
  | n + 1 => by
    have G := ok_copying F b m GI kI bI mI GC kC bC mC n
    refine F.ok scCo (fun vs H Q E h => ?_) (fun cdv A outer s H vs Q E hr h => ?_)
    · obtain ⟨a, rfl, _⟩ := h
      rfl
    · obtain ⟨a, rfl, ha, ha8, hn, q⟩ := h
      have hr2 : Room 2 _ := hr.mono (by omega)
      have hr35 : Room 35 _ := hr.mono (by omega)
      refine ⟨_, pss_cons (ps_if (pt_cmpR op_eq (pv 0) pe_int (nomark _)) (pss_one (ps_ret (pe_tup (pa_cons pe_str pa_nil)))) pss_nil)
        (pss_cons (ps_set (i := 1) scCo.nd rfl (Or.inl rfl) (pe_op op_fdiv (pv 0) pe_int))
        (pss_cons (ps_set (i := 2) scCo.nd rfl (Or.inl rfl) (pe_op op_sub (pv 0) (pv 1)))
        (pss_one (ps_ret (pe_op (opCatA K rfl) (pe_op (opCatA K rfl) (pe_op (opCatA K rfl) (pe_tup (pa_cons pe_str (pa_cons pe_str pa_nil))) (pe_call G hr rfl m F.kp b .nil pass0 (pa_cons (pv 1) pa_nil))) (pe_call G hr rfl m F.kp b .nil pass0 (pa_cons (pv 2) pa_nil)))
          (pe_call GI hr2 rfl mI kI bI .nil pass0 (pa_cons (pv 1) (pa_cons (pe_call GC hr35 rfl mC kC bC .nil pass0 (pa_cons (pv 1) (pa_cons (pv 2) pa_nil))) (pa_cons (pv 2) pa_nil))))))))), ?_⟩
      unfold D1.copyD at q
      refine ⟨_, rfl, rfl, _, rfl, ?_⟩
      by_cases h2 : a ≤ 1
      · rw [if_pos h2] at q
        rw [decide_eq_true (show V.int (a : Int) = V.int 1 from congrArg V.int (by omega))]
        exact iteT ((wdE_1 (x := "copy")).tell q)
      · rw [if_neg h2] at q
        rw [decide_eq_false (show ¬ V.int (a : Int) = V.int 1 from fun e => by injection e with e; omega)]
        refine iteF ⟨_, rfl, _, _, rfl, rfl, ⟨by decide, by decide⟩, ?_⟩
        refine ⟨_, rfl, _, rfl, _, _, rfl, rfl, ?_⟩
        have e1 : (a : Int) / 2 = ((a / 2 : Nat) : Int) := by omega
        have e2 : (a : Int) - (a : Int) / 2 = ((a - a / 2 : Nat) : Int) := by omega
        dsimp only [gName]
        have m1 : crM (a / 2) (a - a / 2) ≤ 33 := by have := crM_le (a / 2) (a - a / 2); omega
        have l1 := D1.copy_wl (a / 2) (by omega) (by omega)
        have l2 := D1.copy_wl (a - a / 2) (by omega) (by omega)
        have l3 := D1.cross_wl2 (a / 2) (a - a / 2) (by omega) (by omega) (by omega) (by omega)
        have l4 := D1.inside_wl (a / 2) (a - a / 2) (D1.crossD (a / 2) (a - a / 2)) (by omega) (by omega)
        have e : ([.w "then", .w "beside"] ++ (D1.copyD (a / 2)).words ++ (D1.copyD (a - a / 2)).words ++ (D1.insideD (a / 2) (D1.crossD (a / 2) (a - a / 2)) (a - a / 2)).words : List D1.Wd) = (D1.Dr.thn (.beside (D1.copyD (a / 2)) (D1.copyD (a - a / 2))) (D1.insideD (a / 2) (D1.crossD (a / 2) (a - a / 2)) (a - a / 2))).words := by
          simp [D1.Dr.words]
        rw [← e] at q
        refine WdE.tell (wdE_cat (wdE_cat (wdE_cat wdE_2 ?_ ?_) ?_ ?_) ?_ ?_) q
        case refine_1 => exact wdE_copy (ie_e rfl e1) (by omega) (by omega) (by omega)
        case refine_3 => exact wdE_copy (ie_e rfl e2) (by omega) (by omega) (by omega)
        case refine_5 => exact wdE_ins (ie_e rfl e1) (wdE_cross (ie_e rfl e1) (ie_e rfl e2) (by omega) (by omega) (by omega) (by omega) m1) (ie_e rfl e2) (by omega) (by omega) (by omega) (by omega) (by omega)
        all_goals simp only [List.length_append, List.length_cons, List.length_nil]; omega
theorem ok_adding {f fI fC : Addr} {fd fdI fdC : FuncData} (F : Fun K "adding" "adding" s_adding f fd) (b : Binds K fd ["count"] []) (m : mg "adding" = some (.ref f))
    (GI : FnOk P w K mg base CX0 2 fI fdI ["above", "words", "below"] (spIns K)) (kI : PySem.W.keepIn K (.ref fI) = true) (bI : Binds K fdI ["above", "words", "below"] []) (mI : mg "inside" = some (.ref fI))
    (GC : FnOk P w K mg base CX0 35 fC fdC ["above", "below"] (spCross K 33)) (kC : PySem.W.keepIn K (.ref fC) = true) (bC : Binds K fdC ["above", "below"] []) (mC : mg "crossing" = some (.ref fC)) :
    ∀ n : Nat, FnOk P w K mg base CX0 (n + 36) f fd ["count"] (spAdd K n)
  | 0 => by
    refine F.ok scAd (fun vs H Q E h => ?_) (fun cdv A outer s H vs Q E hr h => ?_)
    · obtain ⟨a, rfl, _⟩ := h
      rfl
    · obtain ⟨a, rfl, ha, _, hn, _⟩ := h
      exact absurd hn (by omega)
  | n + 1 => by
    have G := ok_adding F b m GI kI bI mI GC kC bC mC n
    refine F.ok scAd (fun vs H Q E h => ?_) (fun cdv A outer s H vs Q E hr h => ?_)
    · obtain ⟨a, rfl, _⟩ := h
      rfl
    · obtain ⟨a, rfl, ha, ha8, hn, q⟩ := h
      have hr2 : Room 2 _ := hr.mono (by omega)
      have hr35 : Room 35 _ := hr.mono (by omega)
      refine ⟨_, pss_cons (ps_if (pt_cmpR op_eq (pv 0) pe_int (nomark _)) (pss_one (ps_ret (pe_tup (pa_cons pe_str pa_nil)))) pss_nil)
        (pss_cons (ps_set (i := 1) scAd.nd rfl (Or.inl rfl) (pe_op op_fdiv (pv 0) pe_int))
        (pss_cons (ps_set (i := 2) scAd.nd rfl (Or.inl rfl) (pe_op op_sub (pv 0) (pv 1)))
        (pss_one (ps_ret (pe_op (opCatA K rfl) (pe_op (opCatA K rfl) (pe_op (opCatA K rfl) (pe_op (opCatA K rfl) (pe_tup (pa_cons pe_str pa_nil))
          (pe_call GI hr2 rfl mI kI bI .nil pass0 (pa_cons (pv 1) (pa_cons (pe_call GC hr35 rfl mC kC bC .nil pass0 (pa_cons (pv 2) (pa_cons (pv 1) pa_nil))) (pa_cons (pv 2) pa_nil)))))
          (pe_tup (pa_cons pe_str pa_nil))) (pe_call G hr rfl m F.kp b .nil pass0 (pa_cons (pv 1) pa_nil))) (pe_call G hr rfl m F.kp b .nil pass0 (pa_cons (pv 2) pa_nil))))))), ?_⟩
      unfold D1.addD at q
      refine ⟨_, rfl, rfl, _, rfl, ?_⟩
      by_cases h2 : a ≤ 1
      · rw [if_pos h2] at q
        rw [decide_eq_true (show V.int (a : Int) = V.int 1 from congrArg V.int (by omega))]
        exact iteT ((wdE_1 (x := "add")).tell q)
      · rw [if_neg h2] at q
        rw [decide_eq_false (show ¬ V.int (a : Int) = V.int 1 from fun e => by injection e with e; omega)]
        refine iteF ⟨_, rfl, _, _, rfl, rfl, ⟨by decide, by decide⟩, ?_⟩
        refine ⟨_, rfl, _, rfl, _, _, rfl, rfl, ?_⟩
        have e1 : (a : Int) / 2 = ((a / 2 : Nat) : Int) := by omega
        have e2 : (a : Int) - (a : Int) / 2 = ((a - a / 2 : Nat) : Int) := by omega
        dsimp only [gName]
        have m1 : crM (a - a / 2) (a / 2) ≤ 33 := by have := crM_le (a - a / 2) (a / 2); omega
        have l1 := D1.add_wl (a / 2) (by omega) (by omega)
        have l2 := D1.add_wl (a - a / 2) (by omega) (by omega)
        have l3 := D1.cross_wl2 (a - a / 2) (a / 2) (by omega) (by omega) (by omega) (by omega)
        have l4 := D1.inside_wl (a / 2) (a - a / 2) (D1.crossD (a - a / 2) (a / 2)) (by omega) (by omega)
        have e : ([.w "then"] ++ (D1.insideD (a / 2) (D1.crossD (a - a / 2) (a / 2)) (a - a / 2)).words ++ [.w "beside"] ++ (D1.addD (a / 2)).words ++ (D1.addD (a - a / 2)).words : List D1.Wd) = (D1.Dr.thn (D1.insideD (a / 2) (D1.crossD (a - a / 2) (a / 2)) (a - a / 2)) (.beside (D1.addD (a / 2)) (D1.addD (a - a / 2)))).words := by
          simp [D1.Dr.words]
        rw [← e] at q
        refine WdE.tell (wdE_cat (wdE_cat (wdE_cat (wdE_cat wdE_1 ?_ ?_) wdE_1 ?_) ?_ ?_) ?_ ?_) q
        case refine_1 => exact wdE_ins (ie_e rfl e1) (wdE_cross (ie_e rfl e2) (ie_e rfl e1) (by omega) (by omega) (by omega) (by omega) m1) (ie_e rfl e2) (by omega) (by omega) (by omega) (by omega) (by omega)
        case refine_4 => exact wdE_add (ie_e rfl e1) (by omega) (by omega) (by omega)
        case refine_6 => exact wdE_add (ie_e rfl e2) (by omega) (by omega) (by omega)
        all_goals simp only [List.length_append, List.length_cons, List.length_nil]; omega
end
end S21
namespace L2
open PySem PySem.Spec PyProof.Rows
/-! ### over a list or a tuple, told by a bool -/
noncomputable def Itq (b : Bool) (K : PySem.W.Frag) (a : Addr) : It := match b with
  | true => Itl K a
  | false => Itt K a
noncomputable def iSq (b : Bool) (K : PySem.W.Frag) (tl : TE) : TI := fun σ H R => tl σ H fun x H1 => ∃ a, x = .ref a ∧ (∃ xs, Sq b K H1 a xs) ∧ R (Itq b K a) H1
theorem piSq {X : Cx} (K : PySem.W.Frag) (hK : X.K = K) (b : Bool) {tg l : Expr} {tl : TE} (hl : PE X l tl) : PI X tg l (iSq b K tl) := by
  cases b with
  | true => exact piList K hK hl
  | false => exact piTup K hK hl
theorem comp_sq {b : Bool} {K : PySem.W.Frag} {H1 : Hp} {a : Addr} {xs : List V} {tt : TT} {te : TE} {Q : VK} {cp : St} (Pv : Nat → Hp → List V → Prop) (hq : Sq b K H1 a xs) (hz : xs.length ≤ sizeLine) (h0 : Pv 0 H1 []) (hlen : ∀ i H zs, Pv i H zs → zs.length ≤ i)
    (step : ∀ i x H zs, xs[i]? = some x → Same H1 H → Pv i H zs → tt (some x :: cp) H fun c H4 => if c = true then te (some x :: cp) H4 fun v H5 => CpN 1 cp H1 (Pv (i + 1)) (some x :: cp) H5 (zs ++ [v]) else CpN 1 cp H1 (Pv (i + 1)) (some x :: cp) H4 zs)
    (done : ∀ H zs, Same H1 H → Pv xs.length H zs → ∀ p, H p = none → Q (.ref p) (upd H p (.lst zs))) :
    ∃ W : Nat → Nat → St → Hp → List V → Prop, (∃ m, W 0 m (List.replicate 1 none ++ cp) H1 []) ∧ CompW (Itq b K a) (gName 0) tt te Q W := by
  cases b with
  | true => exact comp_list Pv hq hz h0 hlen step done
  | false => exact comp_tup Pv hq hz h0 hlen step done
end L2
namespace S21
open PySem L2 Bw
set_option maxHeartbeats 3900000
/-! ### lists or tuples of rows: items, slices, truth -/
noncomputable def rIxq (b : Bool) (K : PySem.W.Frag) : R2 := fun x y H Q => ∃ p xs i v, x = .ref p ∧ y = .int i ∧ Sq b K H p xs ∧ atI xs i = some v ∧ Q v H
theorem ixq {X : Cx} (K : PySem.W.Frag) (hK : X.K = K) (b : Bool) : IxR X (rIxq b K) := by
  cases b with
  | true => exact ixL K hK
  | false => exact ixT K hK
noncomputable def rSlq (b : Bool) (K : PySem.W.Frag) : V → Option Int → Option Int → Hp → VK → Prop := fun x lo hi H Q => ∃ a xs, x = .ref a ∧ Sq b K H a xs ∧ ∀ p H', Same H H' → Sq b K H' p (cutV xs lo hi) → Q (.ref p) H'
theorem slq {X : Cx} (K : PySem.W.Frag) (hK : X.K = K) (b : Bool) : SlR X (rSlq b K) := by
  cases b with
  | true =>
    intro pins s σ H x v vl vu lo hi sl Q I rx hs pl pu h
    obtain ⟨a, xs, rfl, hx, q⟩ := h
    exact slL K hK pins s σ H _ v vl vu lo hi sl Q I rx hs pl pu ⟨a, xs, rfl, hx, fun p hp => q p _ (Same.upd hp) (.of upd_same)⟩
  | false =>
    intro pins s σ H x v vl vu lo hi sl Q I rx hs pl pu h
    obtain ⟨a, xs, rfl, hx, q⟩ := h
    exact slA K hK pins s σ H _ v vl vu lo hi sl Q I rx hs pl pu ⟨a, xs, rfl, hx, fun p H' s' hp => q p H' s' hp⟩
theorem tru_sq {b : Bool} {K : PySem.W.Frag} {H : Hp} {a : Addr} {xs : List V} (h : Sq b K H a xs) : TruV K (.ref a) H (!xs.isEmpty) := by
  cases b with
  | true => exact .inl ⟨xs, h, rfl⟩
  | false => exact .inr (.inl ⟨xs, h, rfl⟩)
section
variable {P : Program} {w : World} {K : PySem.W.Frag} {mg : Str → Option Value} {base : Heap}
/-! ### single -/
noncomputable def spSg (K : PySem.W.Frag) : Sp := fun vs H Q _ => ∃ (b : Bool) (a : Addr) (RS : List V) (sums : List (List Int)) (count : Nat), vs = [.ref a, .int (count : Int)] ∧ Sq b K H a RS ∧ HasA K H RS (sums.map intsT) ∧ (∀ r ∈ sums, r.length = count) ∧ TellW K H (D1.singleD sums count).words Q
theorem scSg : FnScope ["sums", "count"] ["sums", "count"] (defScope s_single) := ⟨rfl, rfl, rfl, by decide +kernel, rfl, by decide +kernel, by decide +kernel⟩
theorem ok_single {f : Addr} {fd : FuncData} (F : Fun K "single" "single" s_single f fd) : FnOk P w K mg base CX0 1 f fd ["sums", "count"] (spSg K) := by
  refine F.ok scSg (fun vs H Q E h => ?_) (fun cdv A outer s H vs Q E hr h => ?_)
  · obtain ⟨b, a, RS, sums, count, rfl, _⟩ := h
    rfl
  · obtain ⟨b, a, RS, sums, count, rfl, hq, hA, hl, q⟩ := h
    refine ⟨_, pss_cons (ps_if (pt_not (pt_truth (pv 0) (fun _ => rfl))) (pss_one (ps_ret (pe_ifExp (pt_cmpR op_eq (pv 1) pe_int (nomark _)) (pe_tup (pa_cons pe_str pa_nil)) (pe_tup (pa_cons pe_str pa_nil))))) pss_nil)
      (pss_cons (ps_if (pt_cmpR op_eq (pv 1) pe_int (nomark _)) (pss_one (ps_ret (pe_tup (pa_cons pe_str pa_nil)))) pss_nil)
      (pss_one (ps_ret (pe_ifExp (pt_cmpR op_eq (pe_ix (ixT K rfl) (pe_ix (ixq K rfl b) (pv 0) pe_int (fun _ _ => rfl)) pe_int (fun _ _ => rfl)) pe_int (nomark _)) (pe_tup (pa_cons pe_str pa_nil))
        (pe_tup (pa_cons pe_str (pa_cons (pe_ix (ixT K rfl) (pe_ix (ixq K rfl b) (pv 0) pe_int (fun _ _ => rfl)) pe_int (fun _ _ => rfl)) pa_nil))))))), ?_⟩
    refine ⟨_, rfl, _, tru_sq hq, ?_⟩
    have eL : RS.length = sums.length := by rw [hA.length, List.length_map]
    match sums, hl, q, hA, eL with
    | [], hl, q, hA, eL =>
      have : RS = [] := List.eq_nil_of_length_eq_zero eL
      subst this
      refine iteT ⟨_, rfl, rfl, _, rfl, ?_⟩
      unfold D1.singleD at q
      by_cases hc : count = 1
      · rw [decide_eq_true (show V.int (count : Int) = V.int 1 from congrArg V.int (by omega))]
        simp only [hc, if_true] at q
        exact iteT ((wdE_1 (x := "end")).tell q)
      · rw [decide_eq_false (show ¬ V.int (count : Int) = V.int 1 from fun e => by injection e with e; omega)]
        simp only [hc, if_false] at q
        exact iteF ((wdE_1 (x := "empty")).tell q)
    | r :: rest, hl, q, hA, eL =>
      match RS, eL, hA, hq with
      | x :: RS', eL, hA, hq =>
        obtain ⟨r0, ra, hr0, rfl, hra⟩ := rowAt (i := 0) hA rfl
        have e0 : r = r0 := Option.some.inj hr0
        subst e0
        refine iteF ⟨_, rfl, rfl, _, rfl, ?_⟩
        unfold D1.singleD at q
        by_cases hc : count = 0
        · rw [decide_eq_true (show V.int (count : Int) = V.int 0 from congrArg V.int (by omega))]
          simp only [hc, if_true] at q
          exact iteT ((wdE_1 (x := "none")).tell q)
        · rw [decide_eq_false (show ¬ V.int (count : Int) = V.int 0 from fun e => by injection e with e; omega)]
          simp only [hc, if_false] at q
          have hlr := hl r (by simp)
          match r, hlr, hra, q with
          | [], hlr, _, _ => exact absurd hlr.symm hc
          | u :: us, hlr, hra, q =>
            refine iteF ⟨_, rfl, a, _, 0, .ref ra, rfl, rfl, hq, atI_nat (j := 0) rfl, ra, _, 0, .int u, rfl, rfl, hra, atI_nat (j := 0) rfl, rfl, _, rfl, ?_⟩
            by_cases hu : u = 1
            · subst hu
              exact iteT ((wdE_1 (x := "id")).tell q)
            · rw [decide_eq_false (show ¬ V.int u = V.int 1 from fun e => by injection e with e; exact hu e)]
              have hu' : ¬ ((u :: us).getD 0 0 = 1) := hu
              rw [if_neg hu'] at q
              exact iteF ⟨_, rfl, a, _, 0, .ref ra, rfl, rfl, hq, atI_nat (j := 0) rfl, ra, _, 0, .int u, rfl, rfl, hra, atI_nat (j := 0) rfl, (by show 2 ≤ sizeLine; decide), fun p hp => q p _ (Same.upd hp) (.of upd_same)⟩
end
end S21
namespace S21
open PySem L2 Bw
set_option maxHeartbeats 3900000
theorem comp_bls {b : Bool} {K : PySem.W.Frag} {H1 : Hp} {t : Addr} {RS : List V} {rows : List (List Int)} {g : List Int → Bool} {cp : St} {te : TE} {Q : VK} (h2 : Sq b K H1 t RS) (h3 : HasA K H1 RS (rows.map intsT)) (hz : rows.length ≤ 1000)
    (step : ∀ row ra H, row ∈ rows → Same H1 H → SqT K H ra (row.map V.int) → ∀ R : VK, (∀ H', Same H H' → R (.bl (g row)) H') → te (some (.ref ra) :: cp) H R)
    (done : ∀ H, Same H1 H → ∀ p, H p = none → Q (.ref p) (upd H p (.lst ((rows.map g).map V.bl)))) :
    ∃ W : Nat → Nat → St → Hp → List V → Prop, (∃ m, W 0 m (List.replicate 1 none ++ cp) H1 []) ∧ CompW (Itq b K t) (gName 0) tTrue te Q W := by
  have z1000 : (1000 : Nat) ≤ sizeLine := by decide
  have eRS : RS.length = rows.length := by rw [h3.length, List.length_map]
  refine comp_sq (b := b) (xs := RS) (cp := cp) (fun i H' zs => zs = ((rows.map g).take i).map V.bl) h2 (by omega) rfl (fun i H' zs h => by rw [h, List.length_map, List.length_take]; exact Nat.min_le_left _ _) ?_ ?_
  · rintro i v H2 zs hv sm rfl
    obtain ⟨row, ra, hri, rfl, hra⟩ := rowAt h3 hv
    refine tgo (step row ra H2 (List.mem_of_getElem? hri) sm (sm.seqT hra) _ fun H3 s3 => ⟨⟨[_], rfl, rfl⟩, sm.trans s3, ?_⟩)
    have e : (rows.map g)[i]? = some (g row) := by rw [List.getElem?_map, hri]; rfl
    rw [List.take_add_one, e]
    show _ = ((rows.map g).take i ++ [_]).map V.bl
    rw [List.map_append]
    rfl
  · rintro H2 zs sm rfl p hp
    rw [List.take_of_length_le (by rw [List.length_map]; omega)]
    exact done H2 sm p hp
theorem HasA.takeR {K : PySem.W.Frag} {H : Hp} {RS : List V} {rows : List (List Int)} (h : HasA K H RS (rows.map intsT)) (k : Nat) : HasA K H (RS.take k) ((rows.take k).map intsT) := by
  rw [List.map_take]
  exact HasA.take k h
theorem HasA.dropR {K : PySem.W.Frag} {H : Hp} {RS : List V} {rows : List (List Int)} (h : HasA K H RS (rows.map intsT)) (k : Nat) : HasA K H (RS.drop k) ((rows.drop k).map intsT) := by
  rw [List.map_drop]
  exact HasA.drop k h
theorem cutR_hi {r : List Int} {k : Nat} (h : k ≤ r.length) : cutV (r.map V.int) none (some (k : Int)) = (r.take k).map V.int := by
  rw [cutL_hi (by rw [List.length_map]; exact h), List.map_take]
theorem cutR_lo {r : List Int} {k : Nat} (h : k ≤ r.length) : cutV (r.map V.int) (some (k : Int)) none = (r.drop k).map V.int := by
  rw [cutL_lo (by rw [List.length_map]; exact h), List.map_drop]
theorem any_nil0 (r : List Int) : (r.any fun n => n != 0) = !D1.nil0 r := by
  unfold D1.nil0
  induction r with
  | nil => rfl
  | cons a r ih =>
    simp only [List.any_cons, List.all_cons, ih, Bool.not_and]
    rfl
section
variable {P : Program} {w : World} {K : PySem.W.Frag} {mg : Str → Option Value} {base : Heap}
/-! ### is_seam -/
noncomputable def spIsS (K : PySem.W.Frag) : Sp := fun vs H Q _ => ∃ (b : Bool) (a : Addr) (RS : List V) (sums : List (List Int)) (count k t : Nat), vs = [.ref a, .int (k : Int), .int (t : Int)] ∧ Sq b K H a RS ∧ HasA K H RS (sums.map intsT) ∧ (∀ r ∈ sums, r.length = count) ∧ k ≤ count ∧ t ≤ sums.length ∧ sums.length ≤ 100 ∧
  ∀ H', Same H H' → Q (.bl (D1.isSeam sums k t)) H'
noncomputable abbrev nIS : List Str := ["sums", "wires", "taken"]
theorem ns1 : (["row", "wires"] : List Str).Nodup := by decide +kernel
theorem scIS : FnScope ["sums", "wires", "taken"] ["sums", "wires", "taken"] (defScope s_is_seam) := ⟨rfl, rfl, rfl, by decide +kernel, rfl, by decide +kernel, by decide +kernel⟩
theorem ok_isSeam {f : Addr} {fd : FuncData} (F : Fun K "is_seam" "is_seam" s_is_seam f fd) (T : Txt mg) : FnOk P w K mg base CX0 1 f fd ["sums", "wires", "taken"] (spIsS K) := by
  refine F.ok scIS (fun vs H Q E h => ?_) (fun cdv A outer s H vs Q E hr h => ?_)
  · obtain ⟨b, a, RS, sums, count, k, t, rfl, _⟩ := h
    rfl
  · obtain ⟨b, a, RS, sums, count, k, t, rfl, hq, hA, hl, hk, ht, hz, q⟩ := h
    refine ⟨_, pss_one (ps_ret (pe_not (pe_callB (cAny K rfl rfl) rfl T.any bt_any (pa_cons (pe_op op_cat
      (pe_comp (N := ["row", "wires"]) (own := 1) (caps := [1]) rfl (piSq K rfl b (pe_slice (slq K rfl b) (pv 0) po_none (po_some (pv 2)))) (show BlkScope nIS (defScope s_is_seam) ["row", "wires"] 1 [1] _ from .mk' (by decide +kernel))
        (fun _ _ _ _ _ => pg_name (i := 0) ns1 rfl (Or.inl rfl)) (fun _ _ _ _ _ => pts_nil) (fun _ _ _ _ _ => pe_callB (cAnyT K rfl rfl) rfl T.any bt_any (pa_cons (pe_slice (slA K rfl) (pv 0) (po_some (pv 1)) po_none) pa_nil)))
      (pe_comp (N := ["row", "wires"]) (own := 1) (caps := [1]) rfl (piSq K rfl b (pe_slice (slq K rfl b) (pv 0) (po_some (pv 2)) po_none)) (show BlkScope nIS (defScope s_is_seam) ["row", "wires"] 1 [1] _ from .mk' (by decide +kernel))
        (fun _ _ _ _ _ => pg_name (i := 0) ns1 rfl (Or.inl rfl)) (fun _ _ _ _ _ => pts_nil) (fun _ _ _ _ _ => pe_callB (cAnyT K rfl rfl) rfl T.any bt_any (pa_cons (pe_slice (slA K rfl) (pv 0) po_none (po_some (pv 1))) pa_nil)))) pa_nil)))), ?_⟩
    have z1000 : (1000 : Nat) ≤ sizeLine := by decide
    have eRS : RS.length = sums.length := by rw [hA.length, List.length_map]
    refine ⟨_, rfl, _, rfl, _, rfl, a, _, rfl, hq, fun c1 H1 s1 hc1 => ⟨c1, rfl, ⟨_, hc1⟩, ?_⟩⟩
    rw [cutL_hi (by omega)] at hc1
    refine comp_bls (b := b) (rows := sums.take t) (g := fun r => !D1.nil0 (r.drop k)) (cp := [some (.int (k : Int))]) hc1 ((HasA.takeR hA t).mono s1) (by rw [List.length_take]; omega) ?_ ?_
    · intro row ra H2 hrow sm hra R r
      have hrl := hl row (List.mem_of_mem_take hrow)
      refine ⟨_, rfl, _, rfl, _, rfl, ra, _, rfl, hra, fun c H3 s3 hc => ?_⟩
      rw [cutR_lo (by omega)] at hc
      refine ⟨c, _, rfl, hc, ?_⟩
      rw [any_nil0]
      exact r H3 s3
    intro H2 s2 p2 hp2
    have sA : Same H (upd H2 p2 (.lst (((sums.take t).map fun r => !D1.nil0 (r.drop k)).map V.bl))) := s1.trans (s2.trans (.upd hp2))
    refine ⟨_, rfl, _, rfl, _, rfl, a, _, rfl, sA.sq (b := b) hq, fun c3 H3 s3 hc3 => ⟨c3, rfl, ⟨_, hc3⟩, ?_⟩⟩
    rw [cutL_lo (by omega)] at hc3
    refine comp_bls (b := b) (rows := sums.drop t) (g := fun r => !D1.nil0 (r.take k)) (cp := [some (.int (k : Int))]) hc3 ((HasA.dropR hA t).mono (sA.trans s3)) (by rw [List.length_drop]; omega) ?_ ?_
    · intro row ra H4 hrow sm hra R r
      have hrl := hl row (List.mem_of_mem_drop hrow)
      refine ⟨_, rfl, _, rfl, _, rfl, ra, _, rfl, hra, fun c H5 s5 hc => ?_⟩
      rw [cutR_hi (by omega)] at hc
      refine ⟨c, _, rfl, hc, ?_⟩
      rw [any_nil0]
      exact r H5 s5
    intro H4 s4 p4 hp4
    have sB : Same (upd H2 p2 (.lst (((sums.take t).map fun r => !D1.nil0 (r.drop k)).map V.bl))) (upd H4 p4 (.lst (((sums.drop t).map fun r => !D1.nil0 (r.take k)).map V.bl))) := s3.trans (s4.trans (.upd hp4))
    refine ⟨p2, p4, _, _, rfl, rfl, sB _ _ upd_same, upd_same, by simp only [List.length_map, List.length_take, List.length_drop]; omega, fun p5 hp5 => ?_⟩
    refine ⟨p5, (sums.take t).map (fun r => !D1.nil0 (r.drop k)) ++ (sums.drop t).map (fun r => !D1.nil0 (r.take k)), rfl, by rw [List.map_append]; exact .of upd_same, _, rfl, ?_⟩
    have e : (!(((sums.take t).map (fun r => !D1.nil0 (r.drop k)) ++ (sums.drop t).map (fun r => !D1.nil0 (r.take k))).any id)) = D1.isSeam sums k t := by
      unfold D1.isSeam
      rw [List.any_append, Bool.not_or, List.any_map, List.any_map, List.not_any_eq_all_not, List.not_any_eq_all_not]
      congr 1
      · congr 1; funext r; simp
      · congr 1; funext r; simp
    rw [e]
    exact q _ (sA.trans (sB.trans (.upd hp5)))
end
end S21
namespace D1
open Bw
theorem rng_cut {n k : Nat} (h : k ≤ n) : List.range (n + 1) = List.range k ++ k :: (List.range (n - k)).map fun i => k + (i + 1) := by
  rw [show n + 1 = k + (n - k + 1) by omega, List.range_add, List.range_succ_eq_map]
  simp
/-- the first seam, rows of wires first -/
theorem seam_is {sums : List (List Int)} {count k t : Nat} (hk : k ≤ count) (ht : t ≤ sums.length) (h : isCut sums count k t = true) (h1 : ∀ i, i < k → ∀ j, j ≤ sums.length → isCut sums count i j = false) (h2 : ∀ j, j < t → isCut sums count k j = false) :
    seamOf sums count = some (k, t) := by
  unfold seamOf
  rw [List.find?_eq_some_iff_append]
  refine ⟨h, (List.range k).flatMap (fun k => (List.range (sums.length + 1)).map fun t => (k, t)) ++ (List.range t).map (fun t => (k, t)), ?_⟩
  rw [rng_cut hk, List.flatMap_append, List.flatMap_cons]
  conv => enter [1, bs, 1, 1, 2, 1]; rw [rng_cut ht]
  refine ⟨_, by rw [List.map_append, List.map_cons, List.append_assoc, List.append_assoc, List.cons_append], ?_⟩
  intro x hx
  rw [List.mem_append, List.mem_flatMap, List.mem_map] at hx
  rcases hx with ⟨i, hi, hx⟩ | ⟨j, hj, rfl⟩
  · obtain ⟨j, hj, rfl⟩ := List.mem_map.mp hx
    rw [List.mem_range] at hi hj
    simp [h1 i hi j (by omega)]
  · rw [List.mem_range] at hj
    simp [h2 j hj]
theorem seam_no {sums : List (List Int)} {count : Nat} (h : ∀ i, i ≤ count → ∀ j, j ≤ sums.length → isCut sums count i j = false) : seamOf sums count = none := by
  unfold seamOf
  rw [List.find?_eq_none]
  intro x hx
  rw [List.mem_flatMap] at hx
  obtain ⟨i, hi, hx⟩ := hx
  obtain ⟨j, hj, rfl⟩ := List.mem_map.mp hx
  rw [List.mem_range] at hi hj
  simp [h i (by omega) j (by omega)]
end D1
namespace S21
open PySem L2 Bw
set_option maxHeartbeats 3900000
theorem Sq.or {b : Bool} {K : PySem.W.Frag} {H : Hp} {a : Addr} {xs : List V} (h : Sq b K H a xs) : SqL K H a xs ∨ SqT K H a xs := by
  cases b with
  | true => exact .inl h
  | false => exact .inr h
section
variable {P : Program} {w : World} {K : PySem.W.Frag} {mg : Str → Option Value} {base : Heap}
/-! ### seam_of -/
noncomputable def spSeam (K : PySem.W.Frag) : Sp := fun vs H Q _ => ∃ (b : Bool) (a : Addr) (RS : List V) (sums : List (List Int)) (count : Nat), vs = [.ref a, .int (count : Int)] ∧ Sq b K H a RS ∧ HasA K H RS (sums.map intsT) ∧ (∀ r ∈ sums, r.length = count) ∧ count ≤ 100 ∧ sums.length ≤ 100 ∧
  (D1.seamOf sums count = none → ∀ H', Same H H' → Q .non H') ∧ ∀ k t, D1.seamOf sums count = some (k, t) → ∀ v H', Same H H' → SqT K H' v [.int (k : Int), .int (t : Int)] → Q (.ref v) H'
theorem scSO : FnScope ["sums", "count", "wires", "taken"] ["sums", "count"] (defScope s_seam_of) := ⟨rfl, rfl, rfl, by decide +kernel, rfl, by decide +kernel, by decide +kernel⟩
theorem ok_seamOf {f fS : Addr} {fd fdS : FuncData} (F : Fun K "seam_of" "seam_of" s_seam_of f fd) (T : Txt mg)
    (GS : FnOk P w K mg base CX0 1 fS fdS ["sums", "wires", "taken"] (spIsS K)) (kS : PySem.W.keepIn K (.ref fS) = true) (bS : Binds K fdS ["sums", "wires", "taken"] []) (mS : mg "is_seam" = some (.ref fS)) :
    FnOk P w K mg base CX0 2 f fd ["sums", "count"] (spSeam K) := by
  refine F.ok scSO (fun vs H Q E h => ?_) (fun cdv A outer s H vs Q E hr h => ?_)
  · obtain ⟨b, a, RS, sums, count, rfl, _⟩ := h
    rfl
  · obtain ⟨b, a, RS, sums, count, rfl, hq, hA, hl, hc, hz, q0, q1⟩ := h
    have hr1 : Room 1 _ := hr.mono (by decide)
    have eRS : RS.length = sums.length := by rw [hA.length, List.length_map]
    refine ⟨_, pss_cons (ps_for PassesOwn.never rfl (pi_range1 rfl T.range (pa_cons (pe_op op_add (pv 1) pe_int) pa_nil)) (pg_name (i := 2) scSO.nd rfl (Or.inl rfl))
        (pss_one (ps_for PassesOwn.never rfl (pi_range1 rfl T.range (pa_cons (pe_op op_add (pe_callB (cLen K rfl) rfl T.len bt_len (pa_cons (pv 0) pa_nil)) pe_int) pa_nil)) (pg_name (i := 3) scSO.nd rfl (Or.inl rfl))
          (pss_one (ps_if (PW.pt (pw_and (pt_chain op_lt op_lt pe_int (pe_op op_add (pv 2) (pv 3)) (pe_op op_add (pv 1) (pe_callB (cLen K rfl) rfl T.len bt_len (pa_cons (pv 0) pa_nil))))
            (pw_and1 (pt_val (pe_call GS hr1 rfl mS kS bS .nil pass0 (pa_cons (pv 0) (pa_cons (pv 2) (pa_cons (pv 3) pa_nil)))))))) (pss_one (ps_ret (pe_tup (pa_cons (pv 2) (pa_cons (pv 3) pa_nil))))) pss_nil)))))
      (pss_one (ps_ret pe_non)), ?_⟩
    refine ⟨_, rfl, _, _, rfl, rfl, _, rfl, by omega, by omega, ?_⟩
    have eN : ((count : Int) + 1).toNat = count + 1 := by omega
    refine for_range (lo := 0) (fun i σ H' => Same H H' ∧ (∃ s2 s3, σ = [some (.ref a), some (.int (count : Int)), s2, s3]) ∧ ∀ i', i' < i → ∀ j, j ≤ sums.length → D1.isCut sums count i' j = false) ⟨.refl _, ⟨none, none, rfl⟩, fun i' h => absurd h (by omega)⟩ ?_ ?_
    · rintro i σ H1 hi ⟨sm, ⟨s2, s3, rfl⟩, hb⟩
      have hi' : i ≤ count := by omega
      refine ⟨_, rfl, a, RS, rfl, Sq.or (sm.sq (b := b) hq), _, _, rfl, rfl, _, rfl, by omega, by omega, ?_⟩
      have eM : ((RS.length : Int) + 1).toNat = sums.length + 1 := by omega
      refine for_range (lo := 0) (fun j σ H' => Same H H' ∧ (∃ s3, σ = [some (.ref a), some (.int (count : Int)), some (.int (i : Int)), s3]) ∧ ∀ j', j' < j → D1.isCut sums count i j' = false) ⟨sm, ⟨s3, by show [_, _, some (V.int (0 + (i : Int))), _] = _; rw [Int.zero_add]⟩, fun j' h => absurd h (by omega)⟩ ?_ ?_
      · rintro j σ H2 hj ⟨sm2, ⟨s3, rfl⟩, hb2⟩
        have hj' : j ≤ sums.length := by omega
        rw [Int.zero_add]
        have eC : D1.isCut sums count i j = (decide (0 < i + j) && decide (i + j < count + sums.length) && D1.isSeam sums i j) := rfl
        have no : ∀ H3, Same H2 H3 → D1.isCut sums count i j = false → Same H H3 ∧ (∃ s3, [some (V.ref a), some (V.int (count : Int)), some (V.int (i : Int)), some (V.int (j : Int))] = [some (.ref a), some (.int (count : Int)), some (.int (i : Int)), s3]) ∧ ∀ j', j' < j + 1 → D1.isCut sums count i j' = false := fun H3 s3 e => ⟨sm2.trans s3, ⟨_, rfl⟩, fun j' hj2 => by
          by_cases e' : j' = j
          · subst e'; exact e
          · exact hb2 j' (by omega)⟩
        refine ⟨_, rfl, _, rfl, _, _, rfl, rfl, _, _, rfl, rfl, _, rfl, ?_⟩
        by_cases h0 : 0 < i + j
        · rw [decide_eq_true (show (0 : Int) < (i : Int) + (j : Int) by omega)]
          refine iteT ⟨_, rfl, _, rfl, a, RS, rfl, Sq.or (sm2.sq (b := b) hq), _, _, rfl, rfl, _, _, rfl, rfl, _, rfl, ?_⟩
          by_cases h1 : i + j < count + sums.length
          · rw [decide_eq_true (show (i : Int) + (j : Int) < (count : Int) + (RS.length : Int) by omega)]
            refine iteT ⟨_, rfl, _, rfl, _, rfl, b, a, RS, sums, count, i, j, rfl, sm2.sq (b := b) hq, hA.mono sm2, hl, hi', hj', hz, fun H3 s3 => ⟨_, rfl, ?_⟩⟩
            by_cases h2 : D1.isSeam sums i j = true
            · rw [h2]
              have cut : D1.isCut sums count i j = true := by rw [eC, decide_eq_true h0, decide_eq_true h1, h2]; rfl
              exact iteT ⟨_, rfl, _, rfl, by show 2 ≤ sizeLine; decide, fun p hp => q1 i j (D1.seam_is hi' hj' cut hb hb2) p _ ((sm2.trans s3).trans (.upd hp)) (.of upd_same)⟩
            · rw [Bool.not_eq_true] at h2
              rw [h2]
              exact iteF (no H3 s3 (by rw [eC, h2, Bool.and_false]))
          · rw [decide_eq_false (show ¬ (i : Int) + (j : Int) < (count : Int) + (RS.length : Int) by omega)]
            exact iteF (iteF (no H2 (.refl _) (by rw [eC, decide_eq_false h1, Bool.and_false, Bool.false_and])))
        · rw [decide_eq_false (show ¬ (0 : Int) < (i : Int) + (j : Int) by omega)]
          exact iteF ⟨_, rfl, iteF (iteF (no H2 (.refl _) (by rw [eC, decide_eq_false h0, Bool.false_and, Bool.false_and])))⟩
      · rintro σ H2 ⟨sm2, ⟨s3, rfl⟩, hb2⟩
        refine ⟨sm2, ⟨_, _, rfl⟩, fun i' hi2 j hj => ?_⟩
        by_cases e : i' = i
        · subst e; exact hb2 j (by omega)
        · exact hb i' (by omega) j hj
    · rintro σ H1 ⟨sm, ⟨s2, s3, rfl⟩, hb⟩
      exact q0 (D1.seam_no fun i hi j hj => hb i (by omega) j hj) H1 sm
end
end S21
namespace S21
open PySem L2 Bw
set_option maxHeartbeats 3900000
/-- readings that give a list (or a tuple) of rows, whatever comes behind -/
noncomputable def RowsE (b : Bool) (K : PySem.W.Frag) (te : TE) (σ : St) (H : Hp) (rows : List (List Int)) : Prop := ∀ H', Same H H' → ∀ R : VK, (∀ v H'' RS, Same H' H'' → Sq b K H'' v RS → HasA K H'' RS (rows.map intsT) → R (.ref v) H'') → te σ H' R
theorem comp_rowq {b : Bool} {K : PySem.W.Frag} {H1 : Hp} {t : Addr} {RS : List V} {rows : List (List Int)} {g : List Int → List Int} {cp : St} {te : TE} {Q : VK} (h2 : Sq b K H1 t RS) (h3 : HasA K H1 RS (rows.map intsT)) (hz : rows.length ≤ 1000)
    (step : ∀ row ra H, row ∈ rows → Same H1 H → SqT K H ra (row.map V.int) → ∀ R : VK, (∀ v H', Same H H' → SqT K H' v ((g row).map V.int) → R (.ref v) H') → te (some (.ref ra) :: cp) H R)
    (done : ∀ v H ZS, Same H1 H → SqL K H v ZS → HasA K H ZS ((rows.map g).map intsT) → Q (.ref v) H) :
    ∃ W : Nat → Nat → St → Hp → List V → Prop, (∃ m, W 0 m (List.replicate 1 none ++ cp) H1 []) ∧ CompW (Itq b K t) (gName 0) tTrue te Q W := by
  have z1000 : (1000 : Nat) ≤ sizeLine := by decide
  have eRS : RS.length = rows.length := by rw [h3.length, List.length_map]
  refine comp_sq (b := b) (xs := RS) (cp := cp) (fun i H' zs => HasA K H' zs (((rows.map g).take i).map intsT)) h2 (by omega) .nil (fun i H' zs h => by rw [h.length, List.length_map, List.length_take]; exact Nat.min_le_left _ _) ?_ ?_
  · rintro i v H2 zs hv sm h
    obtain ⟨row, ra, hri, rfl, hra⟩ := rowAt h3 hv
    refine tgo (step row ra H2 (List.mem_of_getElem? hri) sm (sm.seqT hra) _ fun u H3 s3 hu => ⟨⟨[_], rfl, rfl⟩, sm.trans s3, ?_⟩)
    have e : (rows.map g)[i]? = some (g row) := by rw [List.getElem?_map, hri]; rfl
    rw [List.take_add_one, e]
    show HasA K H3 _ (((rows.map g).take i ++ [_]).map intsT)
    rw [List.map_append]
    exact (h.mono s3).append (.cons (hasT_of hu) .nil)
  · rintro H2 ZS sm h p hp
    rw [List.take_of_length_le (by rw [List.length_map]; omega)] at h
    exact done p _ ZS (sm.trans (.upd hp)) (.of upd_same) (h.mono (.upd hp))
theorem seq_ifB {c : TT} {t u : TS} {D : Ends} {σ : St} {H : Hp} (d : Bool) (h : ∀ R : Bool → Hp → Prop, R d H → c σ H R) (ht : d = true → t { D with nx := u D } σ H) (hf : d = false → u D σ H) : tSeq (tIfS c t tNext) u D σ H := by
  refine h _ ?_
  cases d with
  | true => exact iteT (ht rfl)
  | false => exact iteF (hf rfl)
section
variable {P : Program} {w : World} {K : PySem.W.Frag} {mg : Str → Option Value} {base : Heap}
/-! ### summing -/
noncomputable def spSum (K : PySem.W.Frag) (n : Nat) : Sp := fun vs H Q _ => ∃ (p : Int) (b : Bool) (a : Addr) (RS : List V) (sums : List (List Int)) (count : Nat), vs = [.ref a, .int (count : Int)] ∧ Sq b K H a RS ∧ HasA K H RS (sums.map intsT) ∧ D1.Rws p sums count ∧ count < 9 ∧ sums.length < 9 ∧ count + sums.length < n ∧
  TellW K H (D1.sumF n sums count).words Q
theorem wdE_sum {n : Nat} {p : Int} {b : Bool} {tl tk : TE} {σ : St} {H : Hp} {E : XK} {sums : List (List Int)} {count : Nat} (h1 : RowsE b K tl σ H sums) (h2 : IE tk σ H (count : Int)) (hR : D1.Rws p sums count) (hc : count < 9) (hl : sums.length < 9) (hn : count + sums.length < n) :
    WdE K (tCall (spSum K n) [] E (tCons tl (tCons tk tNil))) σ H (D1.sumF n sums count).words := fun H' s _ q =>
  h1 H' s _ fun v H1 RS s1 hv hA => h2 H1 (s.trans s1) _ ⟨p, b, v, RS, sums, count, rfl, hv, hA, hR, hc, hl, hn, fun u H2 s2 hu => q u H2 (s1.trans s2) hu⟩
noncomputable abbrev nSu : List Str := ["sums", "count", "seam", "above", "half"]
theorem nu1 : (["row", "seam"] : List Str).Nodup := by decide +kernel
theorem nu2 : (["row", "half"] : List Str).Nodup := by decide +kernel
theorem scSu : FnScope ["sums", "count", "seam", "above", "half"] ["sums", "count"] (defScope s_summing) := ⟨rfl, rfl, rfl, by decide +kernel, rfl, by decide +kernel, by decide +kernel⟩
end
end S21
namespace S21
open PySem L2 Bw
set_option maxHeartbeats 3900000
section
variable {P : Program} {w : World} {K : PySem.W.Frag} {mg : Str → Option Value} {base : Heap}
theorem rowsE_hi {b : Bool} {i k : Nat} {tk : TE} {σ : St} {H : Hp} {a : Addr} {RS : List V} {rows : List (List Int)} (h : σ[i]? = some (some (.ref a))) (hq : Sq b K H a RS) (hA : HasA K H RS (rows.map intsT)) (ik : IE tk σ H (k : Int)) (hk : k ≤ rows.length) :
    RowsE b K (tSl (rSlq b K) (tVar i) tNoPart (tPart tk)) σ H (rows.take k) := fun H' s R r => ⟨_, h, ik H' s _ ⟨_, rfl, a, RS, rfl, s.sq (b := b) hq, fun p H1 s1 hp => r p H1 (RS.take k) s1 (by rwa [cutL_hi (by rw [hA.length, List.length_map]; exact hk)] at hp) (HasA.takeR (hA.mono (s.trans s1)) k)⟩⟩
theorem rowsE_lo {b : Bool} {i k : Nat} {tk : TE} {σ : St} {H : Hp} {a : Addr} {RS : List V} {rows : List (List Int)} (h : σ[i]? = some (some (.ref a))) (hq : Sq b K H a RS) (hA : HasA K H RS (rows.map intsT)) (ik : IE tk σ H (k : Int)) (hk : k ≤ rows.length) :
    RowsE b K (tSl (rSlq b K) (tVar i) (tPart tk) tNoPart) σ H (rows.drop k) := fun H' s R r => ⟨_, h, ik H' s _ ⟨_, rfl, a, RS, rfl, s.sq (b := b) hq, fun p H1 s1 hp => r p H1 (RS.drop k) s1 (by rwa [cutL_lo (by rw [hA.length, List.length_map]; exact hk)] at hp) (HasA.dropR (hA.mono (s.trans s1)) k)⟩⟩
theorem ok_summing {f fO fS fC fA : Addr} {fd fdO fdS fdC fdA : FuncData} (F : Fun K "summing" "summing" s_summing f fd) (T : Txt mg) (bF : Binds K fd ["sums", "count"] []) (m : mg "summing" = some (.ref f))
    (GO : FnOk P w K mg base CX0 1 fO fdO ["sums", "count"] (spSg K)) (kO : PySem.W.keepIn K (.ref fO) = true) (bO : Binds K fdO ["sums", "count"] []) (mO : mg "single" = some (.ref fO))
    (GS : FnOk P w K mg base CX0 2 fS fdS ["sums", "count"] (spSeam K)) (kS : PySem.W.keepIn K (.ref fS) = true) (bS : Binds K fdS ["sums", "count"] []) (mS : mg "seam_of" = some (.ref fS))
    (GC : FnOk P w K mg base CX0 44 fC fdC ["count"] (spCopy K 8)) (kC : PySem.W.keepIn K (.ref fC) = true) (bC : Binds K fdC ["count"] []) (mC : mg "copying" = some (.ref fC))
    (GA : FnOk P w K mg base CX0 44 fA fdA ["count"] (spAdd K 8)) (kA : PySem.W.keepIn K (.ref fA) = true) (bA : Binds K fdA ["count"] []) (mA : mg "adding" = some (.ref fA)) :
    ∀ n : Nat, FnOk P w K mg base CX0 (n + 45) f fd ["sums", "count"] (spSum K n)
  | 0 => by
    refine F.ok scSu (fun vs H Q E h => ?_) (fun cdv A outer s H vs Q E hr h => ?_)
    · obtain ⟨p, b, a, RS, sums, count, rfl, _⟩ := h
      rfl
    · obtain ⟨p, b, a, RS, sums, count, rfl, _, _, _, _, _, hn, _⟩ := h
      exact absurd hn (by omega)
  | n + 1 => by
    have G := ok_summing F T bF m GO kO bO mO GS kS bS mS GC kC bC mC GA kA bA mA n
    refine F.ok scSu (fun vs H Q E h => ?_) (fun cdv A outer s H vs Q E hr h => ?_)
    · obtain ⟨p, b, a, RS, sums, count, rfl, _⟩ := h
      rfl
    · obtain ⟨p, b, a, RS, sums, count, rfl, hq, hA, hR, hc, hl, hn, q⟩ := h
      have hr1 : Room 1 _ := hr.mono (by omega)
      have hr2 : Room 2 _ := hr.mono (by omega)
      have hr44 : Room 44 _ := hr.mono (by omega)
      have eRS : RS.length = sums.length := by rw [hA.length, List.length_map]
      refine ⟨_, pss_cons (ps_if (PW.pt (pw_or (pt_cmpR op_lt (pe_op op_add (pv 1) (pe_callB (cLen K rfl) rfl T.len bt_len (pa_cons (pv 0) pa_nil))) pe_int (nomark _))
          (pw_or1 (PW.pt (pw_and (pt_cmpR op_eq (pv 1) pe_int (nomark _)) (pw_and (pt_cmpR op_eq (pe_callB (cLen K rfl) rfl T.len bt_len (pa_cons (pv 0) pa_nil)) pe_int (nomark _))
            (pw_and1 (pt_cmpR op_ne (pe_ix (ixT K rfl) (pe_ix (ixq K rfl b) (pv 0) pe_int (fun _ _ => rfl)) pe_int (fun _ _ => rfl)) pe_int (nomark _))))))))) (pss_one (ps_ret (pe_call GO hr1 rfl mO kO bO .nil pass0 (pa_cons (pv 0) (pa_cons (pv 1) pa_nil))))) pss_nil)
        (pss_cons (ps_set (i := 2) scSu.nd rfl (by first | exact Or.inl rfl | exact Or.inr rfl) (pe_call GS hr2 rfl mS kS bS .nil pass0 (pa_cons (pv 0) (pa_cons (pv 1) pa_nil))))
        (pss_cons (ps_if (pt_cmp (pc_notN (pv 2)) rfl)
          (pss_cons (ps_set (i := 3) scSu.nd rfl (by first | exact Or.inl rfl | exact Or.inr rfl) (pe_call G hr rfl m F.kp bF .nil pass0 (pa_cons
            (pe_comp (N := ["row", "seam"]) (own := 1) (caps := [2]) rfl (piSq K rfl b (pe_slice (slq K rfl b) (pv 0) po_none (po_some (pe_ix (ixT K rfl) (pv 2) pe_int (fun _ _ => rfl))))) (show BlkScope nSu (defScope s_summing) ["row", "seam"] 1 [2] _ from .mk' (by decide +kernel))
              (fun _ _ _ _ _ => pg_name (i := 0) nu1 rfl (Or.inl rfl)) (fun _ _ _ _ _ => pts_nil) (fun _ _ _ _ _ => pe_slice (slA K rfl) (pv 0) po_none (po_some (pe_ix (ixT K rfl) (pv 1) pe_int (fun _ _ => rfl)))))
            (pa_cons (pe_ix (ixT K rfl) (pv 2) pe_int (fun _ _ => rfl)) pa_nil))))
          (pss_one (ps_ret (pe_op (opCatA K rfl) (pe_op (opCatA K rfl) (pe_tup (pa_cons pe_str pa_nil)) (pv 3)) (pe_call G hr rfl m F.kp bF .nil pass0 (pa_cons
            (pe_comp (N := ["row", "seam"]) (own := 1) (caps := [2]) rfl (piSq K rfl b (pe_slice (slq K rfl b) (pv 0) (po_some (pe_ix (ixT K rfl) (pv 2) pe_int (fun _ _ => rfl))) po_none)) (show BlkScope nSu (defScope s_summing) ["row", "seam"] 1 [2] _ from .mk' (by decide +kernel))
              (fun _ _ _ _ _ => pg_name (i := 0) nu1 rfl (Or.inl rfl)) (fun _ _ _ _ _ => pts_nil) (fun _ _ _ _ _ => pe_slice (slA K rfl) (pv 0) (po_some (pe_ix (ixT K rfl) (pv 1) pe_int (fun _ _ => rfl))) po_none))
            (pa_cons (pe_op op_sub (pv 1) (pe_ix (ixT K rfl) (pv 2) pe_int (fun _ _ => rfl))) pa_nil))))))) pss_nil)
        (pss_cons (ps_if (pt_cmpR op_ge (pe_callB (cLen K rfl) rfl T.len bt_len (pa_cons (pv 0) pa_nil)) (pv 1) (nomark _))
          (pss_cons (ps_set (i := 4) scSu.nd rfl (by first | exact Or.inl rfl | exact Or.inr rfl) (pe_op op_fdiv (pe_callB (cLen K rfl) rfl T.len bt_len (pa_cons (pv 0) pa_nil)) pe_int))
          (pss_one (ps_ret (pe_op (opCatA K rfl) (pe_op (opCatA K rfl) (pe_op (opCatA K rfl) (pe_op (opCatA K rfl) (pe_tup (pa_cons pe_str pa_nil)) (pe_call GC hr44 rfl mC kC bC .nil pass0 (pa_cons (pv 1) pa_nil))) (pe_tup (pa_cons pe_str pa_nil)))
            (pe_call G hr rfl m F.kp bF .nil pass0 (pa_cons (pe_slice (slq K rfl b) (pv 0) po_none (po_some (pv 4))) (pa_cons (pv 1) pa_nil))))
            (pe_call G hr rfl m F.kp bF .nil pass0 (pa_cons (pe_slice (slq K rfl b) (pv 0) (po_some (pv 4)) po_none) (pa_cons (pv 1) pa_nil))))))) pss_nil)
        (pss_cons (ps_set (i := 4) scSu.nd rfl (by first | exact Or.inl rfl | exact Or.inr rfl) (pe_op op_fdiv (pv 1) pe_int))
        (pss_cons (ps_set (i := 3) scSu.nd rfl (by first | exact Or.inl rfl | exact Or.inr rfl) (pe_call G hr rfl m F.kp bF .nil pass0 (pa_cons
            (pe_comp (N := ["row", "half"]) (own := 1) (caps := [4]) rfl (piSq K rfl b (pv 0)) (show BlkScope nSu (defScope s_summing) ["row", "half"] 1 [4] _ from .mk' (by decide +kernel))
              (fun _ _ _ _ _ => pg_name (i := 0) nu2 rfl (Or.inl rfl)) (fun _ _ _ _ _ => pts_nil) (fun _ _ _ _ _ => pe_slice (slA K rfl) (pv 0) po_none (po_some (pv 1))))
            (pa_cons (pv 4) pa_nil))))
        (pss_one (ps_ret (pe_op (opCatA K rfl) (pe_op (opCatA K rfl) (pe_op (opCatA K rfl) (pe_tup (pa_cons pe_str (pa_cons pe_str pa_nil))) (pv 3)) (pe_call G hr rfl m F.kp bF .nil pass0 (pa_cons
            (pe_comp (N := ["row", "half"]) (own := 1) (caps := [4]) rfl (piSq K rfl b (pv 0)) (show BlkScope nSu (defScope s_summing) ["row", "half"] 1 [4] _ from .mk' (by decide +kernel))
              (fun _ _ _ _ _ => pg_name (i := 0) nu2 rfl (Or.inl rfl)) (fun _ _ _ _ _ => pts_nil) (fun _ _ _ _ _ => pe_slice (slA K rfl) (pv 0) (po_some (pv 1)) po_none))
            (pa_cons (pe_op op_sub (pv 1) (pv 4)) pa_nil)))) (pe_call GA hr44 rfl mA kA bA .nil pass0 (pa_cons (pe_callB (cLen K rfl) rfl T.len bt_len (pa_cons (pv 0) pa_nil)) pa_nil)))))))))), ?_⟩
      have hrow : ∀ r ∈ sums, r.length = count := fun r hr => (hR r hr).1
      refine seq_ifB (decide (D1.isOne sums count)) (fun R r => ?_) (fun e => ?_) (fun e => ?_)
      · refine ⟨_, rfl, _, rfl, a, RS, rfl, Sq.or hq, _, _, rfl, rfl, _, _, rfl, rfl, _, rfl, ?_⟩
        by_cases h0 : count + sums.length < 2
        · rw [decide_eq_true (show (count : Int) + (RS.length : Int) < 2 by omega)]
          rw [decide_eq_true (show D1.isOne sums count from Or.inl h0)] at r
          exact iteT r
        · rw [decide_eq_false (show ¬ (count : Int) + (RS.length : Int) < 2 by omega)]
          refine iteF ⟨_, rfl, rfl, _, rfl, ?_⟩
          by_cases h1 : count = 1
          · rw [decide_eq_true (show V.int (count : Int) = V.int 1 from congrArg V.int (by omega))]
            refine iteT ⟨_, rfl, a, RS, rfl, Sq.or hq, rfl, _, rfl, ?_⟩
            by_cases h2 : sums.length = 1
            · rw [decide_eq_true (show V.int (RS.length : Int) = V.int 1 from congrArg V.int (by omega))]
              obtain ⟨ra, hx, hra⟩ := HasA.at (i := 0) hA (by omega)
              have hl0 := hrow _ (List.getElem_mem (l := sums) (n := 0) (by omega))
              have eg : sums.getD 0 [] = sums[0] := by rw [List.getD_eq_getElem?_getD, List.getElem?_eq_getElem (by omega)]; rfl
              generalize sums[0] = r0 at *
              match r0, hl0, hra, eg with
              | [], hl0, _, _ => exact absurd hl0 (by rw [h1]; decide)
              | u :: us, hl0, hra, eg =>
                refine iteT ⟨_, rfl, a, RS, 0, .ref ra, rfl, rfl, hq, atI_nat (j := 0) hx, ra, _, 0, .int u, rfl, rfl, hra, atI_nat (j := 0) rfl, rfl, _, rfl, ?_⟩
                have hi : D1.isOne sums count ↔ u ≠ 0 := by
                  unfold D1.isOne
                  rw [eg]
                  show _ ∨ (_ ∧ _ ∧ u ≠ 0) ↔ _
                  exact ⟨fun h => h.elim (fun h => absurd h h0) fun h => h.2.2, fun h => .inr ⟨h1, h2, h⟩⟩
                have : decide (D1.isOne sums count) = !decide (V.int u = V.int 0) := by
                  by_cases hu : u = 0
                  · subst hu
                    rw [decide_eq_false (show ¬ D1.isOne sums count from fun h => hi.mp h rfl)]; rfl
                  · rw [decide_eq_true (hi.mpr hu), decide_eq_false (show ¬ V.int u = V.int 0 from fun e => by injection e with e; exact hu e)]; rfl
                rw [this] at r
                exact r
            · rw [decide_eq_false (show ¬ V.int (RS.length : Int) = V.int 1 from fun e => by injection e with e; omega)]
              rw [decide_eq_false (show ¬ D1.isOne sums count from fun e => by unfold D1.isOne at e; omega)] at r
              exact iteF r
          · rw [decide_eq_false (show ¬ V.int (count : Int) = V.int 1 from fun e => by injection e with e; omega)]
            rw [decide_eq_false (show ¬ D1.isOne sums count from fun e => by unfold D1.isOne at e; omega)] at r
            exact iteF r
      · rw [decide_eq_true_eq] at e
        unfold D1.sumF at q
        rw [if_pos e] at q
        exact ⟨_, rfl, _, rfl, b, a, RS, sums, count, rfl, hq, hA, hrow, q⟩
      · rw [decide_eq_false_iff_not] at e
        have q' := q
        unfold D1.sumF at q'
        rw [if_neg e] at q'
        refine ⟨_, rfl, _, rfl, b, a, RS, sums, count, rfl, hq, hA, hrow, by omega, by omega, fun hs H1 s1 => ?_, fun k t hs v H1 s1 hv => ?_⟩
        · have hq1 := s1.sq (b := b) hq
          have hA1 := hA.mono s1
          obtain ⟨c1, c2, c3⟩ := D1.no_seam hR e hs
          rw [hs] at q'
          dsimp only [gName]
          show tSeq _ _ _ [some (.ref a), some (.int (count : Int)), some .non, none, none] H1
          refine seq_ifB false (fun R r => ⟨_, rfl, _, rfl, r⟩) (fun e => by cases e) (fun _ => ?_)
          refine seq_ifB (decide (count ≤ sums.length)) (fun R r => ?_) (fun e => ?_) (fun e => ?_)
          · refine ⟨_, rfl, a, RS, rfl, Sq.or hq1, _, rfl, _, _, rfl, rfl, _, rfl, ?_⟩
            rw [show decide ((RS.length : Int) ≥ (count : Int)) = decide (count ≤ sums.length) from decide_eq_decide.mpr (by omega)]
            exact r
          · rw [decide_eq_true_eq] at e
            dsimp only at q'
            rw [if_pos e] at q'
            refine ⟨_, rfl, a, RS, rfl, Sq.or hq1, _, _, rfl, rfl, ⟨by decide, by decide⟩, ?_⟩
            dsimp only [gName]
            have e1 : (RS.length : Int) / 2 = ((sums.length / 2 : Nat) : Int) := by omega
            have R1 := hR.sub (s := sums.take (sums.length / 2)) fun r hr => List.mem_of_mem_take hr
            have R2 := hR.sub (s := sums.drop (sums.length / 2)) fun r hr => List.mem_of_mem_drop hr
            have n1 : (sums.take (sums.length / 2)).length = sums.length / 2 := by rw [List.length_take]; omega
            have n2 : (sums.drop (sums.length / 2)).length = sums.length - sums.length / 2 := List.length_drop
            have l1 := D1.sumF_wl (n := n) (by omega) hc (by omega) R1
            have l2 := D1.sumF_wl (n := n) (by omega) hc (by omega) R2
            have l3 := D1.copy_wl count c1 (by omega)
            have ew : ([.w "then"] ++ (D1.copyD count).words ++ [.w "beside"] ++ (D1.sumF n (sums.take (sums.length / 2)) count).words ++ (D1.sumF n (sums.drop (sums.length / 2)) count).words : List D1.Wd) = (D1.Dr.thn (D1.copyD count) (.beside (D1.sumF n (sums.take (sums.length / 2)) count) (D1.sumF n (sums.drop (sums.length / 2)) count))).words := by
              simp [D1.Dr.words]
            rw [← ew] at q'
            refine WdE.tell (wdE_cat (wdE_cat (wdE_cat (wdE_cat wdE_1 ?_ ?_) wdE_1 ?_) ?_ ?_) ?_ ?_) (q'.mono s1)
            case refine_1 => exact wdE_copy (ie_v rfl) c1 (by omega) (by omega)
            case refine_4 => exact wdE_sum (b := b) (rowsE_hi rfl hq1 hA1 (ie_e rfl e1) (by omega)) (ie_v rfl) R1 hc (by omega) (by omega)
            case refine_6 => exact wdE_sum (b := b) (rowsE_lo rfl hq1 hA1 (ie_e rfl e1) (by omega)) (ie_v rfl) R2 hc (by omega) (by omega)
            all_goals simp only [List.length_append, List.length_cons, List.length_nil]; omega
          · rw [decide_eq_false_iff_not] at e
            dsimp only at q'
            rw [if_neg e] at q'
            refine ⟨_, rfl, _, _, rfl, rfl, ⟨by decide, by decide⟩, ?_⟩
            dsimp only [gName]
            have e1 : (count : Int) / 2 = ((count / 2 : Nat) : Int) := by omega
            have e2 : (count : Int) - (count : Int) / 2 = ((count - count / 2 : Nat) : Int) := by omega
            have R1 := hR.take (k := count / 2) (by omega)
            have R2 := D1.Rws.drop (k := count / 2) hR
            have n1 : (sums.map (·.take (count / 2))).length = sums.length := List.length_map _
            have n2 : (sums.map (·.drop (count / 2))).length = sums.length := List.length_map _
            have l1 := D1.sumF_wl (n := n) (by omega) (by omega) (by omega) R1
            have l2 := D1.sumF_wl (n := n) (by omega) (by omega) (by omega) R2
            have l3 := D1.add_wl sums.length c2 (by omega)
            have ew : ([.w "then", .w "beside"] ++ (D1.sumF n (sums.map (·.take (count / 2))) (count / 2)).words ++ (D1.sumF n (sums.map (·.drop (count / 2))) (count - count / 2)).words ++ (D1.addD sums.length).words : List D1.Wd) = (D1.Dr.thn (.beside (D1.sumF n (sums.map (·.take (count / 2))) (count / 2)) (D1.sumF n (sums.map (·.drop (count / 2))) (count - count / 2))) (D1.addD sums.length)).words := by
              simp [D1.Dr.words]
            rw [← ew] at q'
            show tSeq (tAsg _ (gName 3)) _ _ [some (.ref a), some (.int (count : Int)), some .non, none, some (.int ((count : Int) / 2))] H1
            refine seq_w (K := K) (D1.sumF n (sums.map (·.take (count / 2))) (count / 2)).words ?_ fun v H2 s2 hv => ?_
            · refine wdE_sum (b := true) (fun H' s R r => ⟨_, rfl, a, rfl, ⟨_, s.sq (b := b) hq1⟩, comp_rowq (b := b) (rows := sums) (g := (·.take (count / 2))) (cp := [some (.int ((count : Int) / 2))]) (s.sq (b := b) hq1) (hA1.mono s) (by omega) ?_ (fun v H ZS sm hv hZ => r v H ZS sm hv hZ)⟩) (ie_e rfl e1) R1 (by omega) (by omega) (by omega)
              intro row ra H2 hrw sm hra R r
              have hrl := hrow row hrw
              refine ⟨_, rfl, _, rfl, _, rfl, ra, _, rfl, hra, fun c H3 s3 hc => ?_⟩
              rw [e1, cutR_hi (by omega)] at hc
              exact r c H3 s3 hc
            have hq2 := s2.sq (b := b) hq1
            have hA2 := hA1.mono s2
            refine WdE.tell (wdE_cat (wdE_cat (wdE_cat wdE_2 (wdE_v rfl hv) ?_) ?_ ?_) ?_ ?_) (q'.mono (s1.trans s2))
            case refine_2 =>
              refine wdE_sum (b := true) (fun H' s R r => ⟨_, rfl, a, rfl, ⟨_, s.sq (b := b) hq2⟩, comp_rowq (b := b) (rows := sums) (g := (·.drop (count / 2))) (cp := [some (.int ((count : Int) / 2))]) (s.sq (b := b) hq2) (hA2.mono s) (by omega) ?_ (fun v H ZS sm hv hZ => r v H ZS sm hv hZ)⟩) (fun H' s R r => ⟨_, rfl, _, rfl, _, _, rfl, rfl, ?_⟩) R2 (by omega) (by omega) (by omega)
              · intro row ra H2 hrw sm hra R r
                have hrl := hrow row hrw
                refine ⟨_, rfl, _, rfl, _, rfl, ra, _, rfl, hra, fun c H3 s3 hc => ?_⟩
                rw [e1, cutR_lo (by omega)] at hc
                exact r c H3 s3 hc
              · rw [← e2] at r
                exact r
            case refine_4 =>
              refine wdE_add (fun H' s R r => ⟨_, rfl, a, RS, rfl, Sq.or (s.sq (b := b) hq2), ?_⟩) c2 (by omega) (by omega)
              rw [eRS]
              exact r
            all_goals simp only [List.length_append, List.length_cons, List.length_nil]; omega
        · have hq1 := s1.sq (b := b) hq
          have hA1 := hA.mono s1
          obtain ⟨hk, ht, hcut⟩ := D1.seam_some hs
          unfold D1.isCut at hcut
          rw [Bool.and_eq_true, Bool.and_eq_true, decide_eq_true_iff, decide_eq_true_iff] at hcut
          obtain ⟨⟨c1, c2⟩, c3⟩ := hcut
          rw [hs] at q'
          dsimp only at q'
          have R1 := (hR.sub (s := sums.take t) fun r hr => List.mem_of_mem_take hr).take (k := k) hk
          have R2 := D1.Rws.drop (k := k) (hR.sub (s := sums.drop t) fun r hr => List.mem_of_mem_drop hr)
          have n1 : ((sums.take t).map (·.take k)).length = t := by rw [List.length_map, List.length_take]; omega
          have n2 : ((sums.drop t).map (·.drop k)).length = sums.length - t := by rw [List.length_map, List.length_drop]
          have l1 := D1.sumF_wl (n := n) (by omega) (by omega) (by omega) R1
          have l2 := D1.sumF_wl (n := n) (by omega) (by omega) (by omega) R2
          have ew : ([.w "beside"] ++ (D1.sumF n ((sums.take t).map (·.take k)) k).words ++ (D1.sumF n ((sums.drop t).map (·.drop k)) (count - k)).words : List D1.Wd) = (D1.Dr.beside (D1.sumF n ((sums.take t).map (·.take k)) k) (D1.sumF n ((sums.drop t).map (·.drop k)) (count - k))).words := by
            simp [D1.Dr.words]
          rw [← ew] at q'
          dsimp only [gName]
          show tSeq _ _ _ [some (.ref a), some (.int (count : Int)), some (.ref v), none, none] H1
          refine seq_ifB true (fun R r => ⟨_, rfl, _, rfl, r⟩) (fun _ => ?_) (fun e => by cases e)
          show tSeq (tAsg _ (gName 3)) _ _ [some (.ref a), some (.int (count : Int)), some (.ref v), none, none] H1
          refine seq_w (K := K) (D1.sumF n ((sums.take t).map (·.take k)) k).words ?_ fun u H2 s2 hu => ?_
          · refine wdE_sum (n := n) (E := E0) (p := p) (b := true) (K := K) (σ := [some (.ref a), some (.int (count : Int)), some (.ref v), none, none]) (H := H1) (sums := (sums.take t).map (·.take k)) (count := k) (tl := tComp (iSq b K (tSl (rSlq b K) (tVar 0) tNoPart (tPart (tOp (rIxT K) (tVar 2) (tC (.int 1)))))) 1 [2] (gName 0) tTrue (tSl (rSlA K) (tVar 0) tNoPart (tPart (tOp (rIxT K) (tVar 1) (tC (.int 0)))))) (tk := tOp (rIxT K) (tVar 2) (tC (.int 0))) (fun H' s R r => ⟨_, rfl, _, rfl, v, _, 1, .int (t : Int), rfl, rfl, s.seqT hv, atI_nat (j := 1) rfl, _, rfl, a, RS, rfl, s.sq (b := b) hq1, fun c Hc sc hc => ⟨c, rfl, ⟨_, hc⟩, ?_⟩⟩) (fun H' s R r => ⟨_, rfl, v, _, 0, .int (k : Int), rfl, rfl, s.seqT hv, atI_nat (j := 0) rfl, r⟩) R1 (by omega) (by omega) (by omega)
            rw [cutL_hi (by omega)] at hc
            refine comp_rowq (b := b) (rows := sums.take t) (g := (·.take k)) (cp := [some (.ref v)]) hc (HasA.takeR (hA1.mono (s.trans sc)) t) (by rw [List.length_take]; omega) ?_ (fun v H ZS sm hv hZ => r v H ZS (sc.trans sm) hv hZ)
            intro row ra H2 hrw sm hra R r
            have hrl := hrow row (List.mem_of_mem_take hrw)
            refine ⟨_, rfl, _, rfl, v, _, 0, .int (k : Int), rfl, rfl, ((s.trans sc).trans sm).seqT hv, atI_nat (j := 0) rfl, _, rfl, ra, _, rfl, hra, fun c H3 s3 hc => ?_⟩
            rw [cutR_hi (by omega)] at hc
            exact r c H3 s3 hc
          have hq2 := s2.sq (b := b) hq1
          have hA2 := hA1.mono s2
          have hv2 := s2.seqT hv
          refine WdE.tell (wdE_cat (wdE_cat wdE_1 (wdE_v rfl hu) ?_) ?_ ?_) (q'.mono (s1.trans s2))
          case refine_2 =>
            refine wdE_sum (b := true) (sums := (sums.drop t).map (·.drop k)) (count := count - k) (fun H' s R r => ⟨_, rfl, _, rfl, v, _, 1, .int (t : Int), rfl, rfl, s.seqT hv2, atI_nat (j := 1) rfl, _, rfl, a, RS, rfl, s.sq (b := b) hq2, fun c Hc sc hc => ⟨c, rfl, ⟨_, hc⟩, ?_⟩⟩) (fun H' s R r => ⟨_, rfl, _, rfl, v, _, 0, .int (k : Int), rfl, rfl, s.seqT hv2, atI_nat (j := 0) rfl, _, _, rfl, rfl, ?_⟩) R2 (by omega) (by omega) (by omega)
            · rw [cutL_lo (by omega)] at hc
              refine comp_rowq (b := b) (rows := sums.drop t) (g := (·.drop k)) (cp := [some (.ref v)]) hc (HasA.dropR (hA2.mono (s.trans sc)) t) (by rw [List.length_drop]; omega) ?_ (fun v H ZS sm hv hZ => r v H ZS (sc.trans sm) hv hZ)
              intro row ra H2 hrw sm hra R r
              have hrl := hrow row (List.mem_of_mem_drop hrw)
              refine ⟨_, rfl, _, rfl, v, _, 0, .int (k : Int), rfl, rfl, ((s.trans sc).trans sm).seqT hv2, atI_nat (j := 0) rfl, _, rfl, ra, _, rfl, hra, fun c H3 s3 hc => ?_⟩
              rw [cutR_lo (by omega)] at hc
              exact r c H3 s3 hc
            · rw [show ((count - k : Nat) : Int) = (count : Int) - (k : Int) by omega] at r
              exact r
          all_goals simp only [List.length_append, List.length_cons, List.length_nil]; omega
end
end S21
namespace S21
open PySem L2 Bw
set_option maxHeartbeats 3900000
theorem nco0 : (["place", "rows"] : List Str).Nodup := by decide +kernel
theorem nco1 : (["row", "place"] : List Str).Nodup := by decide +kernel
theorem atCol {r : List Int} {j : Nat} (h : j < r.length) : (r.map V.int)[j]? = some (.int (r.getD j 0)) := by
  rw [List.getElem?_map, List.getD_eq_getElem?_getD, List.getElem?_eq_getElem h]; rfl
section
variable {P : Program} {w : World} {K : PySem.W.Frag} {mg : Str → Option Value} {base : Heap}
/-! ### columns -/
noncomputable def spCols (K : PySem.W.Frag) : Sp := fun vs H Q _ => ∃ (b : Bool) (a : Addr) (RS : List V) (rs : List (List Int)) (h : Nat) (i : Int), vs = [.ref a, .int i] ∧ i = h ∧ Sq b K H a RS ∧ HasA K H RS (rs.map intsT) ∧ rs.length ≤ 1000 ∧ h ≤ 1000 ∧ (∀ r ∈ rs, r.length = h) ∧
  ∀ t H' DS, Same H H' → SqT K H' t DS → HasA K H' DS (((List.range h).map fun i => rs.map fun r => r.getD i 0).map intsT) → Q (.ref t) H'
theorem scCol : FnScope ["rows", "length"] ["rows", "length"] (defScope sCols) := ⟨rfl, rfl, rfl, by decide +kernel, rfl, by decide +kernel, by decide +kernel⟩
theorem ok_cols {f : Addr} {fd : FuncData} (F : Fun K "columns" "columns" sCols f fd) (T : Txt mg) : FnOk P w K mg base CX0 1 f fd ["rows", "length"] (spCols K) := by
  refine F.ok scCol (fun vs H Q E h => ?_) (fun cdv A outer s H vs Q E hr h => ?_)
  · obtain ⟨b, a, RS, rs, h, i, rfl, _⟩ := h
    rfl
  · obtain ⟨b, a, RS, rs, hh, i, rfl, rfl, hq, hA, hz, hn, hl, k⟩ := h
    have z1000 : (1000 : Nat) ≤ sizeLine := by decide
    have eR : RS.length = rs.length := by rw [hA.length, List.length_map]
    refine ⟨_, pss_one (ps_ret (pe_callTy (cTuple K rfl) rfl T.tuple bt_tuple (pa_cons (pe_comp (N := ["place", "rows"]) (own := 1) (caps := [0]) rfl (pi_range1 rfl T.range (pa_cons (pv 1) pa_nil)) (show BlkScope ["rows", "length"] (defScope sCols) ["place", "rows"] 1 [0] _ from .mk' (by decide +kernel))
      (fun _ _ _ _ _ => pg_name (i := 0) nco0 rfl (Or.inr rfl)) (fun _ _ _ _ _ => pts_nil)
      (fun _ _ _ _ _ => pe_callTy (cTuple K rfl) rfl T.tuple bt_tuple (pa_cons (pe_comp (N := ["row", "place"]) (own := 1) (caps := [0]) rfl (piSq K rfl b (pv 1)) (show BlkScope ["place", "rows"] _ ["row", "place"] 1 [0] _ from .mk' (by kernel_rfl))
        (fun _ _ _ _ _ => pg_name (i := 0) nco1 rfl (Or.inl rfl)) (fun _ _ _ _ _ => pts_nil) (fun _ _ _ _ _ => pe_ix (ixT K rfl) (pv 0) (pv 1) (fun _ _ => rfl))) pa_nil))) pa_nil))), ?_⟩
    refine ⟨_, rfl, (hh : Int), rfl, by omega, by omega, comp_rng (n := hh) (lo := 0) (cp := [some (.ref a)]) (fun i H' zs => HasA K H' zs (((List.range i).map fun i => rs.map fun r => r.getD i 0).map intsT)) (by omega) .nil (fun i H' zs h => by rw [h.length, List.length_map, List.length_map, List.length_range]; exact Nat.le_refl _) ?_ ?_⟩
    · rintro i H1 zs hi sm h
      rw [Int.zero_add]
      refine tgo ⟨_, rfl, a, rfl, ⟨_, sm.sq (b := b) hq⟩, comp_sq (b := b) (xs := RS) (cp := [some (.int (i : Int))]) (fun k H' zs => zs = ((rs.map fun r => r.getD i 0).take k).map V.int) (sm.sq (b := b) hq) (by omega) rfl (fun k H' zs e => by rw [e, List.length_map]; exact List.length_take_le _ _) ?_ ?_⟩
      · rintro k' v H2 zs2 hv sm2 rfl
        obtain ⟨r, ra, hri, rfl, hra⟩ := rowAt hA hv
        have hrl := hl r (List.mem_of_getElem? hri)
        refine tgo ⟨_, rfl, _, rfl, ra, _, (i : Int), _, rfl, rfl, (sm.trans sm2).seqT hra, atI_nat (atCol (by rw [hrl]; exact hi)), ⟨[_], rfl, rfl⟩, sm2, ?_⟩
        rw [List.take_add_one, List.getElem?_map, hri, List.map_append]
        rfl
      · rintro H2 zs2 sm2 rfl lq hlq
        rw [List.take_of_length_le (by rw [List.length_map, eR]; exact Nat.le_refl _)]
        refine ⟨lq, _, rfl, .inl ⟨.of upd_same, fun t ht => ?_⟩⟩
        have smm := sm2.trans ((Same.upd hlq (o := .lst ((rs.map fun r => r.getD i 0).map V.int))).trans (Same.upd ht (o := .tup ((rs.map fun r => r.getD i 0).map V.int))))
        refine ⟨⟨[_], rfl, rfl⟩, sm.trans smm, ?_⟩
        rw [List.range_succ, List.map_append, List.map_append]
        exact (h.mono smm).append (.cons (hasT_of (.of upd_same)) .nil)
    · rintro H1 zs sm h lq hlq
      exact ⟨lq, _, rfl, .inl ⟨.of upd_same, fun t ht => k t _ zs ((sm.trans (.upd hlq)).trans (.upd ht)) (.of upd_same) (h.mono ((Same.upd hlq).trans (.upd ht)))⟩⟩
end
end S21
namespace S21
open PySem L2 Bw
set_option maxHeartbeats 3900000
/-- the columns of rows -/
noncomputable def colsR (rs : List (List Int)) (n : Nat) : List (List Int) := (List.range n).map fun i => rs.map fun r => r.getD i 0
theorem colsR_len (rs : List (List Int)) (n : Nat) : (colsR rs n).length = n := by unfold colsR; rw [List.length_map, List.length_range]
theorem colsR_ok {p : Int} {rs : List (List Int)} {n : Nat} (h : D1.Rws p rs n) : D1.Rws p (colsR rs n) rs.length := by
  intro c hc
  unfold colsR at hc
  obtain ⟨i, hi, rfl⟩ := List.mem_map.mp hc
  rw [List.mem_range] at hi
  refine ⟨List.length_map _, fun a ha => ?_⟩
  obtain ⟨r, hr, rfl⟩ := List.mem_map.mp ha
  obtain ⟨hl, hb⟩ := h r hr
  have e : r.getD i 0 = r[i]'(by omega) := by rw [List.getD_eq_getElem?_getD, List.getElem?_eq_getElem (by omega)]; rfl
  rw [e]
  exact hb _ (List.getElem_mem _)
/-- the drawing that is drawn of rows -/
noncomputable def drawnD (rs : List (List Int)) (l r : Nat) : D1.Dr := .thn (.back (D1.sumF 17 ((colsR rs (l + r)).take l) rs.length)) (D1.sumF 17 ((colsR rs (l + r)).drop l) rs.length)
section
variable {P : Program} {w : World} {K : PySem.W.Frag} {mg : Str → Option Value} {base : Heap}
/-! ### drawn -/
noncomputable def spDrawn (K : PySem.W.Frag) : Sp := fun vs H Q _ => ∃ (p : Int) (b : Bool) (a : Addr) (RS : List V) (rs : List (List Int)) (l r : Nat), vs = [.int p, .ref a, .int (l : Int), .int (r : Int)] ∧ Sq b K H a RS ∧ HasA K H RS (rs.map intsT) ∧ D1.Rws p rs (l + r) ∧ rs.length < 9 ∧ l < 9 ∧ r < 9 ∧
  TellW K H (drawnD rs l r).words Q
theorem scDr : FnScope ["p", "rows", "left", "right", "count", "sums"] ["p", "rows", "left", "right"] (defScope s_drawn) := ⟨rfl, rfl, rfl, by decide +kernel, rfl, by decide +kernel, by decide +kernel⟩
theorem ok_drawn {f fC fS : Addr} {fd fdC fdS : FuncData} (F : Fun K "drawn" "drawn" s_drawn f fd) (T : Txt mg)
    (GC : FnOk P w K mg base CX0 1 fC fdC ["rows", "length"] (spCols K)) (kC : PySem.W.keepIn K (.ref fC) = true) (bC : Binds K fdC ["rows", "length"] []) (mC : mg "columns" = some (.ref fC))
    (GS : FnOk P w K mg base CX0 62 fS fdS ["sums", "count"] (spSum K 17)) (kS : PySem.W.keepIn K (.ref fS) = true) (bS : Binds K fdS ["sums", "count"] []) (mS : mg "summing" = some (.ref fS)) :
    FnOk P w K mg base CX0 63 f fd ["p", "rows", "left", "right"] (spDrawn K) := by
  refine F.ok scDr (fun vs H Q E h => ?_) (fun cdv A outer s H vs Q E hr h => ?_)
  · obtain ⟨p, b, a, RS, rs, l, r, rfl, _⟩ := h
    rfl
  · obtain ⟨p, b, a, RS, rs, l, r, rfl, hq, hA, hR, hn, hl, hr9, q⟩ := h
    have hr1 : Room 1 _ := hr.mono (by omega)
    have eRS : RS.length = rs.length := by rw [hA.length, List.length_map]
    refine ⟨_, pss_cons (ps_set (i := 4) scDr.nd rfl (Or.inl rfl) (pe_callB (cLen K rfl) rfl T.len bt_len (pa_cons (pv 1) pa_nil)))
      (pss_cons (ps_set (i := 5) scDr.nd rfl (Or.inl rfl) (pe_call GC hr1 rfl mC kC bC .nil pass0 (pa_cons (pv 1) (pa_cons (pe_op op_add (pv 2) (pv 3)) pa_nil))))
      (pss_one (ps_ret (pe_op (opCatA K rfl) (pe_op (opCatA K rfl) (pe_tup (pa_cons pe_str (pa_cons pe_str pa_nil))) (pe_call GS hr rfl mS kS bS .nil pass0 (pa_cons (pe_slice (slq K rfl false) (pv 5) po_none (po_some (pv 2))) (pa_cons (pv 4) pa_nil))))
        (pe_call GS hr rfl mS kS bS .nil pass0 (pa_cons (pe_slice (slq K rfl false) (pv 5) (po_some (pv 2)) po_none) (pa_cons (pv 4) pa_nil))))))), ?_⟩
    refine ⟨_, rfl, a, RS, rfl, Sq.or hq, ?_⟩
    dsimp only [gName]
    refine ⟨_, rfl, _, rfl, _, rfl, _, _, rfl, rfl, b, a, RS, rs, l + r, _, rfl, by omega, hq, hA, by omega, by omega, fun r hr => (hR r hr).1, fun t H1 DS s1 ht hD => ?_⟩
    dsimp only [gName]
    have hC := colsR_ok hR
    have nC := colsR_len rs (l + r)
    have R1 := hC.sub (s := (colsR rs (l + r)).take l) fun r hr => List.mem_of_mem_take hr
    have R2 := hC.sub (s := (colsR rs (l + r)).drop l) fun r hr => List.mem_of_mem_drop hr
    have n1 : ((colsR rs (l + r)).take l).length = l := by rw [List.length_take]; omega
    have n2 : ((colsR rs (l + r)).drop l).length = r := by rw [List.length_drop]; omega
    have l1 := D1.sumF_wl (n := 17) (by omega) hn (by omega) R1
    have l2 := D1.sumF_wl (n := 17) (by omega) hn (by omega) R2
    have ew : ([.w "then", .w "back"] ++ (D1.sumF 17 ((colsR rs (l + r)).take l) rs.length).words ++ (D1.sumF 17 ((colsR rs (l + r)).drop l) rs.length).words : List D1.Wd) = (drawnD rs l r).words := by
      simp [drawnD, D1.Dr.words]
    rw [← ew] at q
    have e4 : (RS.length : Int) = (rs.length : Int) := by omega
    refine WdE.tell (wdE_cat (wdE_cat wdE_2 ?_ ?_) ?_ ?_) (q.mono s1)
    case refine_1 => exact wdE_sum (b := false) (rowsE_hi (b := false) rfl ht hD (ie_v rfl) (by show l ≤ (colsR rs (l + r)).length; omega)) (ie_e rfl e4) R1 hn (by omega) (by omega)
    case refine_3 => exact wdE_sum (b := false) (rowsE_lo (b := false) rfl ht hD (ie_v rfl) (by show l ≤ (colsR rs (l + r)).length; omega)) (ie_e rfl e4) R2 hn (by omega) (by omega)
    all_goals simp only [List.length_append, List.length_cons, List.length_nil]; omega
end
end S21
namespace S21
open PySem L2 Bw
set_option maxHeartbeats 3900000
/-! ### what is drawn lets by just what the rows span -/
/-- left numbers, then right numbers, as one row -/
noncomputable def joinN (l r : Nat) (x y : Fn) : Fn := fun j => if j < l then x j else if j < l + r then y (j - l) else 0
theorem colsR_at {rs : List (List Int)} {n j : Nat} (h : j < n) : (colsR rs n)[j]? = some (rs.map fun r => r.getD j 0) := by
  unfold colsR
  rw [List.getElem?_map, List.getElem?_range h]
  rfl
theorem drawn_ok {p : Int} {rs : List (List Int)} {l r : Nat} (hR : D1.Rws p rs (l + r)) (hn : rs.length < 9) (hl : l < 9) (hr : r < 9) :
    (drawnD rs l r).wf p ∧ (drawnD rs l r).sides = (l, r) ∧ ∀ x y : Fn, D1.LetN p (drawnD rs l r) x y ↔ Bw.Sp p (RS rs) (joinN l r x y) := by
  have hC := colsR_ok hR
  have nC := colsR_len rs (l + r)
  have n1 : ((colsR rs (l + r)).take l).length = l := by rw [List.length_take]; omega
  have n2 : ((colsR rs (l + r)).drop l).length = r := by rw [List.length_drop]; omega
  obtain ⟨g1, w1⟩ := D1.sumF_ok (p := p) 17 ((colsR rs (l + r)).take l) rs.length (by omega) (hC.sub fun r hr => List.mem_of_mem_take hr)
  obtain ⟨g2, w2⟩ := D1.sumF_ok (p := p) 17 ((colsR rs (l + r)).drop l) rs.length (by omega) (hC.sub fun r hr => List.mem_of_mem_drop hr)
  have d1 := g1.1
  have d2 := g2.1
  rw [n1] at d1
  rw [n2] at d2
  refine ⟨⟨w1, w2, ?_⟩, ?_, fun x y => ?_⟩
  · show (D1.sumF 17 ((colsR rs (l + r)).take l) rs.length).sides.1 = (D1.sumF 17 ((colsR rs (l + r)).drop l) rs.length).sides.1
    rw [d1, d2]
  · show ((D1.sumF 17 ((colsR rs (l + r)).take l) rs.length).sides.2, (D1.sumF 17 ((colsR rs (l + r)).drop l) rs.length).sides.2) = _
    rw [d1, d2]
  · rw [D1.span_cols]
    refine (D1.drawn_let g1 g2 x y).trans ⟨?_, ?_⟩
    · rintro ⟨z, h1, h2⟩
      refine ⟨z, fun j => ?_⟩
      unfold joinN
      by_cases hj : j < l
      · rw [if_pos hj]
        exact h1 j _ (by rw [List.getElem?_take, if_pos hj, colsR_at (by omega)])
      · rw [if_neg hj]
        by_cases hj2 : j < l + r
        · rw [if_pos hj2]
          have := h2 (j - l) (rs.map fun r => r.getD j 0) (by rw [List.getElem?_drop, show l + (j - l) = j by omega, colsR_at hj2])
          exact this
        · rw [if_neg hj2, D1.rsum_zero _ _ fun a ha => ?_]
          · exact .refl _ _
          · obtain ⟨q, hq, rfl⟩ := List.mem_map.mp ha
            have := (hR q hq).1
            rw [List.getD_eq_getElem?_getD, List.getElem?_eq_none (by omega)]
            rfl
    · rintro ⟨z, hz⟩
      refine ⟨z, fun j c hc => ?_, fun j c hc => ?_⟩
      · have hj : j < l := by have := (List.getElem?_eq_some_iff.mp hc).1; omega
        have e := hz j
        unfold joinN at e
        rw [if_pos hj] at e
        rw [List.getElem?_take, if_pos hj, colsR_at (by omega)] at hc
        rw [← Option.some.inj hc]
        exact e
      · have hj : j < r := by have := (List.getElem?_eq_some_iff.mp hc).1; omega
        have e := hz (l + j)
        unfold joinN at e
        rw [if_neg (by omega), if_pos (by omega), show l + j - l = j by omega] at e
        rw [List.getElem?_drop, colsR_at (by omega)] at hc
        rw [← Option.some.inj hc]
        exact e
end S21
namespace S21
open PySem L2 Bw
set_option maxHeartbeats 3900000
theorem nl1 : (["k", "head", "p", "place", "row"] : List Str).Nodup := by decide +kernel
section
variable {P : Program} {w : World} {K : PySem.W.Frag} {mg : Str → Option Value} {base : Heap}
/-! ### _law_less -/
noncomputable def spLess (_K : PySem.W.Frag) : Sp := fun vs H Q _ => ∃ (p : Int) (a b : Addr) (x h : List Int) (n j : Nat) (i : Int), vs = [.int p, .ref a, .ref b, .int i] ∧ i = j ∧ 2 ≤ p ∧ p ≤ 97 ∧ n ≤ 900 ∧ j < n ∧ H a = some (.lst (x.map V.int)) ∧ H b = some (.lst (h.map V.int)) ∧ x.length = n ∧ h.length = n ∧ -100000 ≤ x.getD j 0 ∧ x.getD j 0 ≤ 100000 ∧
  ∀ l H', Same H H' → H l = none → H' l = some (.lst ((lessM p j h x).map V.int)) → Q (.ref l) H'
theorem scLe : FnScope ["p", "row", "head", "place"] ["p", "row", "head", "place"] (defScope sLess) := ⟨rfl, rfl, rfl, by decide +kernel, rfl, by decide +kernel, by decide +kernel⟩
theorem ok_less {f : Addr} {fd : FuncData} (F : Fun K "_law_less" "_law_less" sLess f fd) (T : Txt mg) : FnOk P w K mg base CX0 1 f fd ["p", "row", "head", "place"] (spLess K) := by
  refine F.ok scLe (fun vs H Q E h => ?_) (fun cdv A outer s H vs Q E hr h => ?_)
  · obtain ⟨p, a, b, x, h, n, j, i, rfl, _⟩ := h
    rfl
  · obtain ⟨p, a, b, x, h, n, j, i, rfl, rfl, p2, p97, hn, hj, ga, gb, hx, hh, hxj1, hxj2, k⟩ := h
    have z1000 : (1000 : Nat) ≤ sizeLine := by decide
    refine ⟨_, pss_one (ps_ret (pe_comp (N := ["k", "head", "p", "place", "row"]) (own := 1) (caps := [2, 0, 3, 1]) rfl (pi_range1 rfl T.range (pa_cons (pe_callB (cLen K rfl) rfl T.len bt_len (pa_cons (pv 1) pa_nil)) pa_nil))
      (show BlkScope ["p", "row", "head", "place"] (defScope sLess) ["k", "head", "p", "place", "row"] 1 [2, 0, 3, 1] _ from .mk' (by decide +kernel)) (fun _ _ _ _ _ => pg_name (i := 0) nl1 rfl (Or.inl rfl)) (fun _ _ _ _ _ => pts_nil)
      (fun _ _ _ _ _ => pe_op op_mod (pe_op op_sub (pe_ix (ixL K rfl) (pv 4) (pv 0) (fun _ _ => rfl)) (pe_op op_mul (pe_ix (ixL K rfl) (pv 4) (pv 3) (fun _ _ => rfl)) (pe_ix (ixL K rfl) (pv 1) (pv 0) (fun _ _ => rfl)))) (pv 2)))), ?_⟩
    have ex : (x.map V.int).length = n := by rw [List.length_map, hx]
    refine ⟨_, rfl, a, _, rfl, .inl (.of ga), (((x.map V.int).length : Nat) : Int), rfl, by omega, by rw [ex]; omega, comp_rng (n := (x.map V.int).length) (lo := 0) (cp := [some (.ref b), some (.int p), some (.int (j : Int)), some (.ref a)]) (fun i H' zs => zs = ((lessM p j h x).take i).map V.int) (by rw [ex]; omega) rfl (fun i H' zs e => by rw [e, List.length_map]; exact List.length_take_le _ _) ?_ ?_⟩
    · rintro i H1 zs hi sm rfl
      rw [ex] at hi
      rw [Int.zero_add]
      have hix : i < x.length := by rw [hx]; exact hi
      have hih : i < h.length := by rw [hh]; exact hi
      refine tgo ⟨_, rfl, _, rfl, a, _, (i : Int), _, rfl, rfl, .of (sm _ _ ga), atI_nat (atRow hix), _, rfl, _, rfl, a, _, (j : Int), _, rfl, rfl, .of (sm _ _ ga), atI_nat (atRow (by rw [hx]; exact hj)), _, rfl, _, rfl, b, _, (i : Int), _, rfl, rfl, .of (sm _ _ gb), atI_nat (atRow hih), _, _, rfl, rfl, .inl ⟨by omega, by omega⟩, _, _, rfl, rfl, _, rfl, _, _, rfl, rfl, (by show (0 : Int) < p; omega), ⟨[_], rfl, rfl⟩, sm, ?_⟩
      have e3 : (lessM p j h x)[i]? = some ((x.getD i 0 - x.getD j 0 * h.getD i 0) % p) := by
        unfold lessM addM
        rw [List.getElem?_zipWith, getD_of hix, getD_of hih]
        show some ((x.getD i 0 + -(x.getD j 0) * h.getD i 0) % p) = _
        rw [Int.neg_mul, ← Int.sub_eq_add_neg]
      rw [List.take_add_one, e3]
      simp
    · rintro H1 zs sm rfl lq hlq
      rw [ex, List.take_of_length_le (by unfold lessM addM; rw [List.length_zipWith, hx, hh]; omega)]
      exact k lq _ (sm.trans (.upd hlq)) (none_of sm hlq) upd_same
end
end S21
namespace S21
open PySem L2 Bw
set_option maxHeartbeats 3900000
theorem prm_at (d : Int) (h0 : 0 ≤ d) (h1 : d < 25) : ∃ q, q ∈ primesL ∧ atI (primesL.map V.int) d = some (.int q) := by
  obtain ⟨q, hq⟩ : ∃ q, primesL[d.toNat]? = some q := ⟨_, List.getElem?_eq_getElem (show d.toNat < 25 by omega)⟩
  refine ⟨q, List.mem_of_getElem? hq, ?_⟩
  rw [show d = ((d.toNat : Nat) : Int) by omega]
  exact atI_nat (by rw [List.getElem?_map, hq]; rfl)
section
variable {P : Program} {w : World} {K : PySem.W.Frag} {mg : Str → Option Value} {base : Heap}
/-! ### _law_prime -/
noncomputable def spPrm : Sp := fun vs H Q _ => ∃ c : Int, vs = [.int c] ∧ ∀ p H', p ∈ primesL → Same H H' → Q (.int p) H'
theorem scPm : FnScope ["cell", "primes"] ["cell"] (defScope sPrime) := ⟨rfl, rfl, rfl, by decide +kernel, rfl, by decide +kernel, by decide +kernel⟩
theorem ok_prm {f : Addr} {fd : FuncData} (F : Fun K "_law_prime" "_law_prime" sPrime f fd) : FnOk P w K mg base CX0 1 f fd ["cell"] spPrm := by
  refine F.ok scPm (fun vs H Q E h => ?_) (fun cdv A outer s H vs Q E hr h => ?_)
  · obtain ⟨c, rfl, _⟩ := h
    rfl
  · obtain ⟨c, rfl, q⟩ := h
    refine ⟨tSeq (tAsg (tInts primesL) (gName 1)) (tRet (tOp (rIxL K) (tLst (tCons (tOp (rIxL K) (tVar 1) (tOp (rI (fun _ j => 0 < j) fun i j => .int (i % j)) (tOp (rI CDiv fun i j => .int (i / j)) (tVar 0) (tC (.int 2))) (tC (.int 4)))) (tCons (tOp (rIxL K) (tVar 1) (tOp (rI (fun _ j => 0 < j) fun i j => .int (i % j)) (tOp (rI CDiv fun i j => .int (i / j)) (tVar 0) (tC (.int 2))) (tC (.int 25)))) tNil))) (tOp (rI (fun _ j => 0 < j) fun i j => .int (i % j)) (tVar 0) (tC (.int 2))))), pss_cons ?_ ?_, ?_⟩
    · refine ps_set ?_ ?_ ?_ ?_ ?_ ?_
      · exact scPm.nd
      · rfl
      · exact Or.inl rfl
      · refine pe_ints ?_
        exact pai (by kernel_rfl)
      · rfl
      · exact .inl rfl
    · refine pss_one ?_
      refine ps_ret ?_
      refine pe_ix ?_ ?_ ?_ ?_
      · exact ixL K rfl
      · refine pe_lst ?_
        refine pa_cons ?_ ?_
        · exact pe_ix (ixL K rfl) (pv 1) (pe_op op_mod (pe_op op_fdiv (pv 0) pe_int) pe_int) (fun _ _ => rfl)
        · refine pa_cons ?_ pa_nil
          exact pe_ix (ixL K rfl) (pv 1) (pe_op op_mod (pe_op op_fdiv (pv 0) pe_int) pe_int) (fun _ _ => rfl)
      · exact pe_op op_mod (pv 0) pe_int
      · exact fun _ _ => rfl
    obtain ⟨q1, m1, e1⟩ := prm_at (c / 2 % 4) (by omega) (by omega)
    obtain ⟨q2, m2, e2⟩ := prm_at (c / 2 % 25) (by omega) (by omega)
    refine ⟨(by show 25 ≤ sizeLine; decide), fun l hl => ?_⟩
    dsimp only [gName]
    refine ⟨_, rfl, _, rfl, _, _, rfl, rfl, ⟨by decide, by decide⟩, _, _, rfl, rfl, (show (0 : Int) < 4 by decide), l, _, _, _, rfl, rfl, .of upd_same, e1, ?_⟩
    refine ⟨_, rfl, _, rfl, _, _, rfl, rfl, ⟨by decide, by decide⟩, _, _, rfl, rfl, (show (0 : Int) < 25 by decide), l, _, _, _, rfl, rfl, .of upd_same, e2, ?_⟩
    refine ⟨(by show 2 ≤ sizeLine; decide), fun l2 hl2 => ⟨_, rfl, _, _, rfl, rfl, (show (0 : Int) < 2 by decide), ?_⟩⟩
    have hc : c % 2 = 0 ∨ c % 2 = 1 := by omega
    rcases hc with hc | hc
    · exact ⟨l2, _, _, .int q1, rfl, rfl, .of upd_same, by rw [hc]; exact atI_nat (j := 0) rfl, q q1 _ m1 ((Same.upd hl).trans (.upd hl2))⟩
    · exact ⟨l2, _, _, .int q2, rfl, rfl, .of upd_same, by rw [hc]; exact atI_nat (j := 1) rfl, q q2 _ m2 ((Same.upd hl).trans (.upd hl2))⟩
end
end S21
namespace PySem.SeqAt
open MeetsSeq AutoSeq1 SeqRoads2
/-! ### list.remove where it is known at this state which items are equal -/
/-- the list at l, with these items -/
noncomputable def LiAt (s : Shared) (l : Addr) (its : Array Value) (n : Nat) : Prop := s.heap.get? l = some { cls := .type "list", data := .seq its n }
noncomputable def RmSpec (l : Addr) (its : Array Value) (n : Nat) (x : Value) (e : Value → Bool) (j : Nat) : Spec := fun A R s =>
  LiAt s l its n ∧ (∀ m (hm : m < its.size), m ≤ j → EqAt A.in1 s its[m] x (e its[m])) ∧ R (.ok (.ret .none)) { s with heap := s.heap.update l (Obj.mapSeq fun xs => xs.eraseIdxIfInBounds j) }
theorem rm_loop {l : Addr} {its : Array Value} {n : Nat} {x : Value} {e : Value → Bool} {j : Nat} (hj : j < its.size) (hit : e its[j] = true) (hs : its.size ≤ sizeLine) :
    ∀ k i : Nat, i + k = j → (∀ m (hm : m < its.size), i ≤ m → m < j → e its[m] = false) → Meets (Builtin.«list.remove.loop» ⟨[.ref l, x, rawInt i], []⟩) (RmSpec l its n x e j)
  | 0, i, hk, _ => fun prog w A R s z => by
    obtain ⟨h, gs, dn, tk, st⟩ := s
    obtain ⟨at_, eq, fin⟩ := z
    obtain rfl : i = j := by omega
    have at_ : Heap.get? h l = some { cls := .type "list", data := .seq its n } := at_
    (wp_walk using wpAny_loadPart' at_)
    rw [show its[((i : Nat) : Int).toNat]? = some its[i] by simp [hj]]
    refine wpAny_bind (eq i hj (Nat.le_refl _) prog w _ _ ?_)
    have small : (its.eraseIdxIfInBounds i).size ≤ sizeLine + 1 := Nat.le_trans (size_erased its _) (Nat.le_succ_of_le hs)
    rw [hit]
    wp_walk using (wpAny_updateSeq at_ rfl (hz := hs) (_hz' := small)), wpAny_loadPart' at_
    simpa using fin
  | k + 1, i, hk, hno => fun prog w A R s z => by
    obtain ⟨h, gs, dn, tk, st⟩ := s
    obtain ⟨at_, eq, fin⟩ := z
    have hm : i < its.size := by omega
    have at' : Heap.get? h l = some { cls := .type "list", data := .seq its n } := at_
    (wp_walk using wpAny_loadPart' at')
    rw [show its[((i : Nat) : Int).toNat]? = some its[i] by simp [hm]]
    refine wpAny_bind (eq i hm (by omega) prog w _ _ ?_)
    rw [hno i hm (Nat.le_refl _) (by omega)]
    wp_walk
    rw [show ((i : Int) + 1) = ((i + 1 : Nat) : Int) by push_cast; rfl]
    have rest := rm_loop (l := l) (n := n) (x := x) hj hit hs k (i + 1) (by omega) (fun m hm a b => hno m hm (by omega) b) prog w A R _ ⟨at_, eq, fin⟩
    refine ⟨plainId_quiet plain_remove_loop _, codeAny_builtin entry_remove_loop ?_⟩
    rw [Around.under_plainId plain_remove_loop _]; exact rest
theorem rm_list (l : Addr) (its : Array Value) (n : Nat) (x : Value) (e : Value → Bool) {j : Nat} (hj : j < its.size) (hit : e its[j] = true) (hno : ∀ m (hm : m < its.size), m < j → e its[m] = false) (hs1 : its.size ≤ sizeLine) : Meets (Builtin.«list.remove» ⟨[.ref l, x], []⟩) (RmSpec l its n x e j) := fun prog w A R s z => by
  obtain ⟨h, gs, dn, tk, st⟩ := s
  obtain ⟨at_, eq, fin⟩ := z
  have at' : Heap.get? h l = some { cls := .type "list", data := .seq its n } := at_
  have whole := rm_loop (l := l) (n := n) (x := x) hj hit hs1 j 0 (Nat.zero_add _) (fun m hm _ b => hno m hm b) prog w A R _ ⟨at_, eq, fin⟩
  (wp_walk using wpAny_loadPart' at')
  refine ⟨plainId_quiet plain_remove_loop _, codeAny_builtin entry_remove_loop ?_⟩
  rw [Around.under_plainId plain_remove_loop _]; exact whole
end PySem.SeqAt
namespace L2
open PySem PySem.Spec PyProof.Rows Bw PySem.SeqAt
theorem ints_ne {A : Around} {s : Shared} {a b : Addr} {xs ys : List Value} {r h : List Int} (hu : A.units < cLine) (ha : s.heap.IsList a xs.toArray) (hb : s.heap.IsList b ys.toArray) (ra : Vals (r.map V.int) xs) (rb : Vals (h.map V.int) ys) (hl : r.length = h.length) (hne : r ≠ h) :
    EqAt A s (.ref a) (.ref b) false := by
  have l1 := ra.length
  have l2 := rb.length
  rw [List.length_map] at l1 l2
  have nab : a ≠ b := fun z => by
    subst z
    have e : xs = ys := by
      obtain ⟨o, g, _, n, d⟩ := ha
      obtain ⟨o', g', _, n', d'⟩ := hb
      rw [g] at g'
      cases g'
      rw [d] at d'
      injection d' with d1
      simpa using d1
    subst e
    refine hne (List.ext_getElem? fun i => ?_)
    by_cases hi : i < r.length
    · obtain ⟨u, hu1, hu2⟩ := ra.get (show (r.map V.int)[i]? = some (.int r[i]) by rw [List.getElem?_map, List.getElem?_eq_getElem hi]; rfl)
      obtain ⟨v, hv1, hv2⟩ := rb.get (show (h.map V.int)[i]? = some (.int (h[i]'(hl ▸ hi))) by rw [List.getElem?_map, List.getElem?_eq_getElem (hl ▸ hi)]; rfl)
      rw [hu1] at hv1
      cases hv1
      obtain ⟨t, rfl⟩ := hu2
      obtain ⟨t', e⟩ := hv2
      rw [List.getElem?_eq_getElem hi, List.getElem?_eq_getElem (hl ▸ hi)]
      injection e with e1
      exact congrArg some e1
    · rw [List.getElem?_eq_none (by omega), List.getElem?_eq_none (by omega)]
  have key := RcAt.lists (A := A) (s := s) (e := fun j => decide (r.getD j 0 = h.getD j 0)) ha hb (by simp only [List.size_toArray]; omega) hu (fun j h1 h2 => by
    simp only [List.size_toArray] at h1 h2
    obtain ⟨u, hu1, hu2⟩ := ra.get (show (r.map V.int)[j]? = some (.int (r.getD j 0)) by rw [List.getElem?_map, List.getD_eq_getElem?_getD, List.getElem?_eq_getElem (show j < r.length by omega)]; rfl)
    obtain ⟨v, hv1, hv2⟩ := rb.get (show (h.map V.int)[j]? = some (.int (h.getD j 0)) by rw [List.getElem?_map, List.getD_eq_getElem?_getD, List.getElem?_eq_getElem (show j < h.length by omega)]; rfl)
    obtain ⟨t, rfl⟩ := hu2
    obtain ⟨t', rfl⟩ := hv2
    have e1 : xs.toArray[j] = .int (r.getD j 0) t := by
      have := (List.getElem?_eq_some_iff.mp hu1).2
      simpa using this
    have e2 : ys.toArray[j] = .int (h.getD j 0) t' := by
      have := (List.getElem?_eq_some_iff.mp hv1).2
      simpa using this
    rw [e1, e2]
    exact (MeetsSeq.EqGives.int _ _ _ _).at _ _)
  have z : ((List.range xs.toArray.size).all fun j => decide (r.getD j 0 = h.getD j 0)) = false := by
    cases hq : (List.range xs.toArray.size).all fun j => decide (r.getD j 0 = h.getD j 0) with
    | false => rfl
    | true =>
      refine absurd (List.ext_getElem? fun i => ?_) hne
      rw [List.all_eq_true] at hq
      by_cases hi : i < r.length
      · have := of_decide_eq_true (hq i (List.mem_range.mpr (by simp only [List.size_toArray]; omega)))
        rw [List.getD_eq_getElem?_getD, List.getD_eq_getElem?_getD, List.getElem?_eq_getElem hi, List.getElem?_eq_getElem (hl ▸ hi)] at this
        rw [List.getElem?_eq_getElem hi, List.getElem?_eq_getElem (hl ▸ hi)]
        exact congrArg some this
      · rw [List.getElem?_eq_none (by omega), List.getElem?_eq_none (by omega)]
  rw [z] at key
  exact .of_refs nab key
/-- remove from a list of rows the row at the place j, where none ahead of it is equal -/
noncomputable def rRemove : V → List V → Hp → VK → Prop := fun x vs H Q => ∃ l xs L j a h, x = .ref l ∧ vs = [.ref a] ∧ H l = some (.lst xs) ∧ LR (fun _ => True) H xs L ∧ xs[j]? = some (.ref a) ∧ H a = some (.lst (h.map V.int)) ∧
  (∀ i r, i < j → L[i]? = some r → r.length = h.length ∧ r ≠ h) ∧ Q .non (upd H l (.lst (xs.eraseIdx j)))
open Classical in
theorem mt_remove {X : Cx} (hu : X.A.units + 2 < cLine) : MtM X "list.remove" rRemove := by
  intro pins s σ H x vs v us Q I rx rv h
  obtain ⟨l, xs, L, j, a, hd, rfl, rfl, hH, hL, hj, ga, hne, q⟩ := h
  cases rx
  obtain ⟨u, rfl, ru⟩ := rv.one
  cases ru
  obtain ⟨z, its, n, r, hl, e⟩ := I.lstM hH
  obtain ⟨u', hu1, hu2⟩ := r.get hj
  cases hu2
  have hjl := (List.getElem?_eq_some_iff.mp hu1).1
  obtain ⟨ys, rb, pb, _⟩ := I.list (.of ga)
  have at_ : ∀ {m : Nat} (hm : m < its.toArray.size), its.toArray[m] = its[m]'(by simpa using hm) := fun hm => by simp
  refine call_meets F.slot_list_remove ⟨_, e, rfl⟩ F.entry_list_remove (F.args_list_remove_2 _ _)
    (rm_list l its.toArray n (.ref a) (fun w => decide (w = .ref a)) (j := j) (by simpa using hjl) ?_ ?_ (by rw [List.size_toArray]; omega)) ⟨e, ?_, ?_⟩
  · refine decide_eq_true ?_
    rw [at_]
    exact (List.getElem?_eq_some_iff.mp hu1).2
  · intro m hm hmj
    have hm' : m < its.length := by simpa using hm
    have hmx : m < xs.length := by omega
    obtain ⟨r', hr'⟩ : ∃ r', L[m]? = some r' := ⟨_, List.getElem?_eq_getElem (by rw [← hL.1]; exact hmx)⟩
    obtain ⟨b, eb, _, gb⟩ := hL.2 m _ r' (List.getElem?_eq_getElem hmx) hr'
    obtain ⟨w', hw1, hw2⟩ := r.get ((List.getElem?_eq_getElem hmx).trans (congrArg some eb))
    cases hw2
    refine decide_eq_false ?_
    rw [at_ hm, (List.getElem?_eq_some_iff.mp hw1).2]
    intro z
    injection z with z
    subst z
    rw [ga] at gb
    have := (hne m r' hmj hr').2
    injection gb with gb
    injection gb with gb
    exact this ((List.map_inj_right fun x y e => V.int.inj e).mp gb).symm
  · intro m hm hmj
    have hm' : m < its.length := by simpa using hm
    have hmx : m < xs.length := by omega
    obtain ⟨r', hr'⟩ : ∃ r', L[m]? = some r' := ⟨_, List.getElem?_eq_getElem (by rw [← hL.1]; exact hmx)⟩
    obtain ⟨b, eb, _, gb⟩ := hL.2 m _ r' (List.getElem?_eq_getElem hmx) hr'
    obtain ⟨w', hw1, hw2⟩ := r.get ((List.getElem?_eq_getElem hmx).trans (congrArg some eb))
    cases hw2
    rw [at_ hm, (List.getElem?_eq_some_iff.mp hw1).2]
    by_cases hba : b = a
    · subst hba
      dsimp only
      rw [decide_eq_true rfl]
      exact EqAt.same _
    · dsimp only
      rw [decide_eq_false fun z => hba (by injection z)]
      have hmj' : m < j := by
        rcases Nat.lt_or_eq_of_le hmj with h | rfl
        · exact h
        · rw [List.getElem?_eq_getElem hmx, eb] at hj
          injection hj with hj
          injection hj with hj
          exact absurd hj hba
      obtain ⟨zs, rz, pz, _⟩ := I.list (.of gb)
      obtain ⟨l1, l2⟩ := hne m r' hmj' hr'
      exact ints_ne (by show X.A.units + 1 < cLine; omega) pz.isList pb.isList rz rb l1 l2
  · refine ⟨.non, _, I.lset (its' := its.eraseIdx j) hH e ?_ (r.eraseIdx j) ?_, rfl, q⟩
    · show its.toArray.eraseIdxIfInBounds j = (its.eraseIdx j).toArray
      rw [List.eraseIdxIfInBounds_toArray]
    · have := len_erase xs j
      omega
end L2
namespace D1
open Bw
/-! ### the law's clearing of places, as it goes on -/
noncomputable def sclM (p : Int) (k : Nat) (h : List Int) : List Int := h.map fun x => x * turnM p (h.getD k 0 % p) % p
noncomputable def clS (p : Int) (k : Nat) (s : List (List Int) × List (List Int)) : List (List Int) × List (List Int) :=
  match s.2.findIdx? (fun r => r.getD k 0 % p != 0) with
  | none => s
  | some i => (s.1.map (lessM p k (sclM p k (s.2.getD i []))) ++ [sclM p k (s.2.getD i [])], (s.2.eraseIdx i).map (lessM p k (sclM p k (s.2.getD i []))))
noncomputable def clM (p : Int) (lo : Nat) (L : List (List Int)) : Nat → List (List Int) × List (List Int)
  | 0 => ([], L)
  | c + 1 => clS p (lo + c) (clM p lo L c)
section
variable {p : Int} {n k : Nat} {h : List Int} {L T D : List (List Int)}
theorem scl_len : (sclM p k h).length = h.length := by simp [sclM]
theorem scl_Rw (p0 : 0 < p) (hl : h.length = n) : Rw p n (sclM p k h) := ⟨by rw [scl_len, hl], fun x hx => by
  obtain ⟨y, _, rfl⟩ := List.mem_map.mp hx
  exact ⟨Int.emod_nonneg _ (by omega), Int.emod_lt_of_pos _ p0⟩⟩
theorem scl_turn (hp : p ∈ primesL) {x : Int} (h0 : x % p ≠ 0) : 1 ≤ turnM p (x % p) ∧ turnM p (x % p) < p ∧ turnM p (x % p) * x % p = 1 := by
  have p0 : 0 < p := by have := prime_pos p hp; omega
  have a := Int.emod_nonneg x (show p ≠ 0 by omega)
  have b := Int.emod_lt_of_pos x p0
  obtain ⟨t1, t2, t3⟩ := turn_ok hp (n := x % p) (by omega) b
  refine ⟨t1, t2, ?_⟩
  rw [← t3, Int.mul_emod, Int.mul_emod (turnM p (x % p)) (x % p), Int.emod_emod]
theorem scl_at (hl : h.length = n) (j : Nat) : p ∣ (sclM p k h).getD j 0 - h.getD j 0 * turnM p (h.getD k 0 % p) := by
  by_cases hj : j < n
  · rw [show sclM p k h = h.map fun x => x * turnM p (h.getD k 0 % p) % p from rfl, map_at hl hj]
    exact dvd_mod _ _
  · rw [List.getD_eq_getElem?_getD, List.getElem?_eq_none (by rw [scl_len]; omega), List.getD_eq_getElem?_getD, List.getElem?_eq_none (by omega)]
    exact ⟨0, by simp⟩
theorem scl_lead (hp : p ∈ primesL) (hh : Rw p n h) (h0 : h.getD k 0 ≠ 0) : sclM p k h = leadM p n h k := by
  have p0 : 0 < p := by have := prime_pos p hp; omega
  have b := hh.at p0 k
  have e : h.getD k 0 % p = h.getD k 0 := Int.emod_eq_of_lt b.1 b.2
  have t := scl_turn hp (x := h.getD k 0) (by rw [e]; exact h0)
  exact head_lead hp hh h0 t.1 t.2.1 t.2.2
theorem find_some {α : Type} {f : α → Bool} : ∀ {T : List α} {i : Nat}, T.findIdx? f = some i → ∃ h, T[i]? = some h ∧ f h = true ∧ ∀ j q, j < i → T[j]? = some q → f q = false := by
  intro T i e
  rw [List.findIdx?_eq_some_iff_getElem] at e
  obtain ⟨hi, h1, h2⟩ := e
  refine ⟨T[i], List.getElem?_eq_getElem hi, h1, fun j q hj hq => ?_⟩
  obtain ⟨hl, rfl⟩ := List.getElem?_eq_some_iff.mp hq
  have := h2 j hj
  simpa using this
theorem getD_of_some' {α : Type} {T : List α} {i : Nat} {h d : α} (e : T[i]? = some h) : T.getD i d = h := by rw [List.getD_eq_getElem?_getD, e]; rfl
/-- over all places from nought on: the reduced list -/
theorem cl_red (hp : p ∈ primesL) (hL : Bw.Rws p n L) : ∀ c, c ≤ n → RedOk p n L c (clM p 0 L c)
  | 0, _ => .start hL
  | c + 1, hc => by
    have p0 : 0 < p := by have := prime_pos p hp; omega
    have I := cl_red hp hL c (by omega)
    show RedOk p n L (c + 1) (clS p (0 + c) (clM p 0 L c))
    rw [Nat.zero_add]
    generalize clM p 0 L c = s at I
    obtain ⟨D, T⟩ := s
    have modz : ∀ r ∈ T, r.getD c 0 % p = r.getD c 0 := fun r hr => Int.emod_eq_of_lt ((I.r r hr).at p0 c).1 ((I.r r hr).at p0 c).2
    unfold clS
    split
    · rename_i e
      refine I.skip fun r hr => ?_
      rw [List.findIdx?_eq_none_iff] at e
      have := e r hr
      rw [modz r hr] at this
      simpa using this
    · rename_i i e
      obtain ⟨h, hi, h1, h2⟩ := find_some e
      have hm := (List.mem_of_getElem? hi)
      have h1' : h.getD c 0 ≠ 0 := by
        rw [modz h hm] at h1
        simpa using h1
      have S := I.head hp (by omega) hi h1' (fun j q hj hq => by
        have := h2 j q hj hq
        rw [modz q (List.mem_of_getElem? hq)] at this
        simpa using this)
      dsimp only at hi
      dsimp only
      rw [getD_of_some' hi, scl_lead hp (I.r h hm) h1']
      have hlR := leadM_Rw (place := c) p0 (I.r h hm)
      have lcE : ∀ {M : List (List Int)}, Bw.Rws p n M → M.map (clearM p (leadM p n h c) c) = M.map (lessM p c (leadM p n h c)) := fun hM => List.map_congr_left fun r hr => (less_clear p0 hlR (hM r hr)).symm
      rw [lcE I.d, lcE (fun r hr => I.r r (List.mem_of_mem_eraseIdx hr))] at S
      exact S
theorem cl_redM (hp : p ∈ primesL) (hL : Bw.Rws p n L) : (clM p 0 L n).1 = redM p L := by
  have := cl_red hp hL n (Nat.le_refl _)
  generalize clM p 0 L n = s at this
  obtain ⟨D, T⟩ := s
  exact this.done hp hL
theorem sp_dvd {j : Nat} {f : Fn} (hL : ∀ r ∈ L, p ∣ r.getD j 0) (h : Sp p (RS L) f) : p ∣ f j := by
  induction h with
  | zero => exact ⟨0, by simp⟩
  | @add v r c _ hr ih =>
    obtain ⟨q, hq, rfl⟩ := hr
    exact Int.dvd_add ih (Int.dvd_trans (hL q hq) ⟨c, by show c * q.getD j 0 = _; rw [Int.mul_comm]⟩)
  | @cong u v _ e ih => exact dvd_sub_of ih (e j)
/-- what is left over of the rows when the places lo .. lo + c are cleared: what they span with noughts there -/
structure Spr (p : Int) (n lo hi c : Nat) (L : List (List Int)) (T : List (List Int)) : Prop where
  len : ∀ r ∈ T, r.length = n
  near : ∀ r ∈ T, ∀ x ∈ r, -p < x ∧ x < p
  pos : ∀ r ∈ T, ∀ j, (j < lo ∨ hi ≤ j) → 0 ≤ r.getD j 0
  sp : ∀ f : Fn, Sp p (RS T) f ↔ Sp p (RS L) f ∧ ∀ j, lo ≤ j → j < lo + c → p ∣ f j
theorem Spr.start {lo hi : Nat} (h1 : ∀ r ∈ L, r.length = n) (h2 : ∀ r ∈ L, ∀ x ∈ r, -p < x ∧ x < p) (h3 : ∀ r ∈ L, ∀ j, (j < lo ∨ hi ≤ j) → 0 ≤ r.getD j 0) : Spr p n lo hi 0 L L :=
  ⟨h1, h2, h3, fun f => ⟨fun h => ⟨h, fun j a b => absurd b (by omega)⟩, fun h => h.1⟩⟩
theorem less_fn (k : Nat) {r h : List Int} (hr : r.length = n) (hh : h.length = n) : eqm p (fun j => fn r j + -(r.getD k 0) * fn h j) (fn (lessM p k h r)) := addM_eqm _ hr hh
theorem Spr.step (hp : p ∈ primesL) {lo hi c : Nat} (I : Spr p n lo hi c L T) {i : Nat} {h : List Int} (hi' : T[i]? = some h) (h0 : h.getD (lo + c) 0 % p ≠ 0) :
    Spr p n lo hi (c + 1) L ((T.eraseIdx i).map (lessM p (lo + c) (sclM p (lo + c) h))) := by
  have p0 : 0 < p := by have := prime_pos p hp; omega
  have hm := List.mem_of_getElem? hi'
  have hl := I.len h hm
  have t := scl_turn hp h0
  have ea := fun j => scl_at (p := p) (k := lo + c) hl j
  have sl : (sclM p (lo + c) h).length = n := by rw [scl_len, hl]
  generalize hk : lo + c = k at h0 t ea sl ⊢
  generalize turnM p (h.getD k 0 % p) = u at t ea
  have one : p ∣ (sclM p k h).getD k 0 - 1 := by
    obtain ⟨a, ha⟩ := ea k
    obtain ⟨b, hb⟩ := dvd_mod p (u * h.getD k 0)
    rw [t.2.2] at hb
    exact ⟨a - b, by grind⟩
  generalize sclM p k h = hd at ea sl one
  have rw1 : ∀ r ∈ T.eraseIdx i, Rw p n (lessM p k hd r) := fun r hr => addM_Rw _ p0 (I.len r (List.mem_of_mem_eraseIdx hr)) sl
  refine ⟨fun r hr => ?_, fun r hr x hx => ?_, fun r hr j _ => ?_, fun f => ?_⟩
  · obtain ⟨q, hq, rfl⟩ := List.mem_map.mp hr
    exact (rw1 q hq).1
  · obtain ⟨q, hq, rfl⟩ := List.mem_map.mp hr
    have := (rw1 q hq).2 x hx
    omega
  · obtain ⟨q, hq, rfl⟩ := List.mem_map.mp hr
    exact ((rw1 q hq).at p0 j).1
  · have hdT : Sp p (RS T) (fn hd) := .cong (Sp.add u .zero ⟨h, hm, rfl⟩) fun j => by
      obtain ⟨a, ha⟩ := ea j
      refine ⟨-a, ?_⟩
      show 0 + u * h.getD j 0 - hd.getD j 0 = _
      grind
    constructor
    · intro hf
      have hT : Sp p (RS T) f := hf.trans fun g hg => by
        obtain ⟨q, hq, rfl⟩ := hg
        obtain ⟨r, hr, rfl⟩ := List.mem_map.mp hq
        have hrT := List.mem_of_mem_eraseIdx hr
        exact .cong (Sp.plus _ (.mem ⟨r, hrT, rfl⟩) hdT) (less_fn k (I.len r hrT) sl)
      obtain ⟨z1, z2⟩ := (I.sp f).mp hT
      refine ⟨z1, fun j h1 h2 => ?_⟩
      by_cases hj : j < lo + c
      · exact z2 j h1 hj
      · have : j = k := by omega
        subst this
        refine sp_dvd (fun q hq => ?_) hf
        obtain ⟨r, hr, rfl⟩ := List.mem_map.mp hq
        have hrT := List.mem_of_mem_eraseIdx hr
        obtain ⟨a, ha⟩ := less_fn (p := p) j (I.len r hrT) sl j
        obtain ⟨b, hb⟩ := one
        have ha' : r.getD j 0 + -(r.getD j 0) * hd.getD j 0 - (lessM p j hd r).getD j 0 = p * a := ha
        exact ⟨-a - b * r.getD j 0, by grind⟩
    · rintro ⟨z1, z2⟩
      have hT := (I.sp f).mpr ⟨z1, fun j h1 h2 => z2 j h1 (by omega)⟩
      have fk : p ∣ f k := z2 k (by omega) (by omega)
      have key : ∀ {g : Fn}, Sp p (RS T) g → ∃ (c : Int) (t : Fn), Sp p (RS ((T.eraseIdx i).map (lessM p k hd))) t ∧ eqm p (fun j => t j + c * hd.getD j 0) g := by
        intro g hg
        induction hg with
        | zero => exact ⟨0, _, .zero, fun j => ⟨0, by simp⟩⟩
        | @add v q c0 _ hq ih =>
          obtain ⟨c1, t1, ht, e1⟩ := ih
          obtain ⟨r, hr, rfl⟩ := hq
          by_cases hrh : r = h
          · subst hrh
            refine ⟨c1 + c0 * r.getD k 0, t1, ht, fun j => ?_⟩
            obtain ⟨a, ha⟩ := e1 j
            obtain ⟨b, hb⟩ := ea j
            obtain ⟨d, hd'⟩ := dvd_mod p (u * r.getD k 0)
            rw [t.2.2] at hd'
            refine ⟨a + c0 * r.getD k 0 * b - c0 * r.getD j 0 * d, ?_⟩
            show t1 j + (c1 + c0 * r.getD k 0) * hd.getD j 0 - (v j + c0 * r.getD j 0) = _
            have ha' : t1 j + c1 * hd.getD j 0 - v j = p * a := ha
            grind
          · have hre : r ∈ T.eraseIdx i := by
              obtain ⟨m, hm'⟩ := List.getElem?_of_mem hr
              refine List.mem_eraseIdx_iff_getElem?.mpr ⟨m, ?_, hm'⟩
              rintro rfl
              rw [hi'] at hm'
              exact hrh (Option.some.inj hm').symm
            refine ⟨c1 + c0 * r.getD k 0, fun j => t1 j + c0 * (lessM p k hd r).getD j 0, Sp.add c0 ht ⟨_, List.mem_map.mpr ⟨r, hre, rfl⟩, rfl⟩, fun j => ?_⟩
            obtain ⟨a, ha⟩ := e1 j
            obtain ⟨b, hb⟩ := less_fn (p := p) k (I.len r hr) sl j
            have ha' : t1 j + c1 * hd.getD j 0 - v j = p * a := ha
            have hb' : r.getD j 0 + -(r.getD k 0) * hd.getD j 0 - (lessM p k hd r).getD j 0 = p * b := hb
            refine ⟨a - c0 * b, ?_⟩
            show t1 j + c0 * (lessM p k hd r).getD j 0 + (c1 + c0 * r.getD k 0) * hd.getD j 0 - (v j + c0 * r.getD j 0) = _
            grind
        | @cong u' v' _ e ih =>
          obtain ⟨c1, t1, ht, e1⟩ := ih
          exact ⟨c1, t1, ht, e1.trans e⟩
      obtain ⟨c1, t1, ht, e1⟩ := key hT
      have tk : p ∣ t1 k := sp_dvd (fun q hq => by
        obtain ⟨r, hr, rfl⟩ := List.mem_map.mp hq
        have hrT := List.mem_of_mem_eraseIdx hr
        obtain ⟨a, ha⟩ := less_fn (p := p) k (I.len r hrT) sl k
        obtain ⟨b, hb⟩ := one
        have ha' : r.getD k 0 + -(r.getD k 0) * hd.getD k 0 - (lessM p k hd r).getD k 0 = p * a := ha
        exact ⟨-a - b * r.getD k 0, by grind⟩) ht
      have c1z : p ∣ c1 := by
        obtain ⟨a, ha⟩ := e1 k
        obtain ⟨b, hb⟩ := tk
        obtain ⟨d, hd'⟩ := one
        obtain ⟨e, he⟩ := fk
        have ha' : t1 k + c1 * hd.getD k 0 - f k = p * a := ha
        exact ⟨a + e - b - c1 * d, by grind⟩
      refine .cong ht fun j => ?_
      obtain ⟨a, ha⟩ := e1 j
      obtain ⟨b, hb⟩ := c1z
      have ha' : t1 j + c1 * hd.getD j 0 - f j = p * a := ha
      exact ⟨a - b * hd.getD j 0, by grind⟩
theorem Spr.skip {lo hi c : Nat} (I : Spr p n lo hi c L T) (h0 : ∀ r ∈ T, r.getD (lo + c) 0 % p = 0) : Spr p n lo hi (c + 1) L T :=
  ⟨I.len, I.near, I.pos, fun f => ⟨fun hf => by
    obtain ⟨z1, z2⟩ := (I.sp f).mp hf
    refine ⟨z1, fun j h1 h2 => ?_⟩
    by_cases hj : j < lo + c
    · exact z2 j h1 hj
    · obtain rfl : j = lo + c := by omega
      exact sp_dvd (fun r hr => Int.dvd_of_emod_eq_zero (h0 r hr)) hf, fun h => (I.sp f).mpr ⟨h.1, fun j a b => h.2 j a (by omega)⟩⟩⟩
theorem cl_spr (hp : p ∈ primesL) {lo hi : Nat} (h : Spr p n lo hi 0 L L) : ∀ c, Spr p n lo hi c L (clM p lo L c).2
  | 0 => h
  | c + 1 => by
    have I := cl_spr hp h c
    show Spr p n lo hi (c + 1) L (clS p (lo + c) (clM p lo L c)).2
    generalize clM p lo L c = s at I
    obtain ⟨D, T⟩ := s
    unfold clS
    split
    · rename_i e
      refine I.skip fun r hr => ?_
      rw [List.findIdx?_eq_none_iff] at e
      have := e r hr
      simpa using this
    · rename_i i e
      obtain ⟨h, hi, h1, h2⟩ := find_some e
      dsimp only at hi
      dsimp only
      rw [getD_of_some' hi]
      exact I.step hp hi (by simpa using h1)
end
end D1
namespace S21
open PySem L2 Bw
set_option maxHeartbeats 3900000
theorem nv0 : (["row"] : List Str).Nodup := by decide +kernel
theorem nv1 : (["row", "p", "place"] : List Str).Nodup := by decide +kernel
theorem nv2 : (["number", "by", "p"] : List Str).Nodup := by decide +kernel
theorem nv3 : (["row", "head", "p", "place"] : List Str).Nodup := by decide +kernel
/-- a row of numbers near nought -/
noncomputable def Rn (p : Int) (n : Nat) (r : List Int) : Prop := r.length = n ∧ ∀ x ∈ r, -p < x ∧ x < p
theorem Rn.at {p : Int} {n : Nat} {r : List Int} (p0 : 0 < p) (h : Rn p n r) (j : Nat) : -p < r.getD j 0 ∧ r.getD j 0 < p := by
  rw [(List.getD_eq_getElem?_getD)]
  cases e : r[j]? with
  | none => exact ⟨by show -p < 0; omega, by show 0 < p; omega⟩
  | some x => exact h.2 x (List.mem_of_getElem? e)
theorem Rn.of {p : Int} {n : Nat} {r : List Int} (h : Rw p n r) : Rn p n r := ⟨h.1, fun x hx => by have := h.2 x hx; omega⟩
theorem _root_.L2.LR.weak {N N' : Addr → Prop} {H : Hp} {LS : List V} {L : List (List Int)} (h : LR N H LS L) (k : ∀ a, N a → N' a) : LR N' H LS L := ⟨h.1, fun i v r e1 e2 => by
  obtain ⟨a, e, n, g⟩ := h.2 i v r e1 e2
  exact ⟨a, e, k a n, g⟩⟩
theorem _root_.L2.LR.get' {N : Addr → Prop} {H : Hp} {LS : List V} {L : List (List Int)} {i : Nat} {v : V} (h : LR N H LS L) (e : LS[i]? = some v) : ∃ a r, v = .ref a ∧ L[i]? = some r ∧ N a ∧ H a = some (.lst (r.map V.int)) := by
  have hi : i < L.length := by rw [← h.1]; exact (List.getElem?_eq_some_iff.mp e).1
  obtain ⟨a, e2, n, g⟩ := h.2 i v _ e (List.getElem?_eq_getElem hi)
  exact ⟨a, _, e2, List.getElem?_eq_getElem hi, n, g⟩
theorem _root_.L2.LR.del {N : Addr → Prop} {H : Hp} {LS : List V} {L : List (List Int)} (h : LR N H LS L) (i : Nat) : LR N H (LS.eraseIdx i) (L.eraseIdx i) := ⟨by rw [List.length_eraseIdx, List.length_eraseIdx, h.1], fun j v r e1 e2 => by
  rw [List.getElem?_eraseIdx] at e1 e2
  split at e1
  · rename_i hj
    rw [if_pos hj] at e2
    exact h.2 j v r e1 e2
  · rename_i hj
    rw [if_neg hj] at e2
    exact h.2 (j + 1) v r e1 e2⟩
section
variable {P : Program} {w : World} {K : PySem.W.Frag} {mg : Str → Option Value} {base : Heap}
/-- [_law_less(p, row, head, place) for row in ..], its turns -/
theorem comp_lessN {H : Hp} {la lh : Addr} {LS : List V} {L : List (List Int)} {p : Int} {n k : Nat} {h : List Int} {N : Addr → Prop} {Q : VK} {te : TE} (p2 : 2 ≤ p) (p97 : p ≤ 97) (hn : n ≤ 900) (hk : k < n) (g : H la = some (.lst LS)) (hL : LR N H LS L) (hR : ∀ r ∈ L, Rn p n r) (gh : H lh = some (.lst (h.map V.int))) (hh : h.length = n) (hz : LS.length ≤ 1000)
    (te_of : ∀ (x : Addr) (H1 : Hp) (R : VK), spLess K [.int p, .ref x, .ref lh, .int (k : Int)] H1 R (fun _ _ _ => False) → te [some (.ref x), some (.ref lh), some (.int p), some (.int (k : Int))] H1 R)
    (done : ∀ H' MS, Same H H' → LR (fun a => H a = none) H' MS (L.map (lessM p k h)) → ∀ l, H' l = none → Q (.ref l) (upd H' l (.lst MS))) :
    ∃ W : Nat → Nat → St → Hp → List V → Prop, (∃ m, W 0 m (List.replicate 1 none ++ [some (.ref lh), some (.int p), some (.int (k : Int))]) H []) ∧ CompW (Itl K la) (gName 0) tTrue te Q W := by
  have z1000 : (1000 : Nat) ≤ sizeLine := by decide
  refine comp_list (xs := LS) (cp := [some (.ref lh), some (.int p), some (.int (k : Int))]) (fun i H' zs => LR (fun a => H a = none) H' zs ((L.take i).map (lessM p k h))) (.of g) (by omega) LR.nil
    (fun i H' zs h => by rw [h.1, List.length_map]; exact List.length_take_le _ _) ?_ ?_
  · rintro i x H' zs hx' sm h'
    obtain ⟨a, r, rfl, hr, _, ga⟩ := hL.get' hx'
    have hRr := hR r (List.mem_of_getElem? hr)
    have hb := hRr.at (show 0 < p by omega) k
    refine tgo (te_of a H' _ ⟨p, a, lh, r, h, n, k, (k : Int), rfl, rfl, p2, p97, hn, hk, sm _ _ ga, sm _ _ gh, hRr.1, hh, by omega, by omega, fun l H2 s2 hnl gl => ?_⟩)
    refine ⟨⟨[_], rfl, rfl⟩, sm.trans s2, ?_⟩
    rw [List.take_add_one, hr]
    show LR _ H2 _ ((L.take i ++ [r]).map (lessM p k h))
    rw [List.map_append]
    exact (h'.mono s2).snoc (none_of sm hnl) gl
  · rintro H' zs sm h' l hl
    rw [hL.1, List.take_length] at h'
    exact done H' zs sm h' l hl
theorem pl_at {lo c k : Nat} {x : V} (h : ((List.range c).map fun (i : Nat) => V.int ((lo + i : Nat) : Int))[k]? = some x) : k < c ∧ x = V.int ((lo + k : Nat) : Int) := by
  rw [List.getElem?_map] at h
  by_cases hk : k < c
  · rw [List.getElem?_range hk] at h
    exact ⟨hk, (Option.some.inj h).symm⟩
  · rw [List.getElem?_eq_none (by rw [List.length_range]; omega)] at h
    cases h
/-! ### _law_cleared -/
noncomputable def spClr (_K : PySem.W.Frag) : Sp := fun vs H Q _ => ∃ (p : Int) (a b : Addr) (XS : List V) (rs : List (List Int)) (n lo c : Nat), vs = [.int p, .ref a, .ref b] ∧ p ∈ primesL ∧ H a = some (.lst XS) ∧ LR (fun _ => True) H XS rs ∧ rs.length ≤ 900 ∧ n ≤ 900 ∧ (∀ r ∈ rs, Rn p n r) ∧ lo + c ≤ n ∧ H b = some (.lst ((List.range c).map fun (i : Nat) => V.int ((lo + i : Nat) : Int))) ∧
  ∀ l f g FS GS H', Same H H' → H l = none → H' l = some (.lst [.ref f, .ref g]) → H f = none → H' f = some (.lst FS) → LR (fun a => H a = none) H' FS (D1.clM p lo rs c).1 → H g = none → H' g = some (.lst GS) → LR (fun a => H a = none) H' GS (D1.clM p lo rs c).2 → Q (.ref l) H'
noncomputable abbrev nCl : List Str := ["p", "rows", "places", "left", "found", "place", "some", "head", "by"]
theorem scCl : FnScope ["p", "rows", "places", "left", "found", "place", "some", "head", "by"] ["p", "rows", "places"] (defScope s_law_cleared) := ⟨rfl, rfl, rfl, by decide +kernel, rfl, by decide +kernel, by decide +kernel⟩
/-- all rows of both lists stay near -/
theorem cl_near {p : Int} (pp : p ∈ primesL) {n lo : Nat} {rs : List (List Int)} (h : ∀ r ∈ rs, Rn p n r) : ∀ c, (∀ r ∈ (D1.clM p lo rs c).1, Rn p n r) ∧ (∀ r ∈ (D1.clM p lo rs c).2, Rn p n r) ∧ (D1.clM p lo rs c).1.length ≤ c ∧ (D1.clM p lo rs c).2.length ≤ rs.length
  | 0 => ⟨fun r hr => (nomatch hr), h, Nat.le_refl _, Nat.le_refl _⟩
  | c + 1 => by
    have p0 : 0 < p := by have := prime_pos p pp; omega
    obtain ⟨i1, i2, i3, i4⟩ := cl_near pp (lo := lo) h c
    show (∀ r ∈ (D1.clS p (lo + c) (D1.clM p lo rs c)).1, _) ∧ (∀ r ∈ (D1.clS p (lo + c) (D1.clM p lo rs c)).2, _) ∧ (D1.clS p (lo + c) (D1.clM p lo rs c)).1.length ≤ _ ∧ (D1.clS p (lo + c) (D1.clM p lo rs c)).2.length ≤ _
    generalize D1.clM p lo rs c = s at i1 i2 i3 i4
    obtain ⟨D, T⟩ := s
    unfold D1.clS
    split
    · exact ⟨i1, i2, by omega, i4⟩
    · rename_i i e
      obtain ⟨hd, hi, h1, h2⟩ := D1.find_some e
      dsimp only at hi i1 i2 i3 i4
      dsimp only
      rw [D1.getD_of_some' hi]
      have sl : (D1.sclM p (lo + c) hd).length = n := by rw [D1.scl_len]; exact (i2 hd (List.mem_of_getElem? hi)).1
      refine ⟨fun r hr => ?_, fun r hr => ?_, by simp; omega, ?_⟩
      · rcases (List.mem_append.mp hr) with (hr | hr)
        · obtain ⟨q, hq, rfl⟩ := List.mem_map.mp hr
          exact .of (addM_Rw _ p0 (i1 q hq).1 sl)
        · rw [List.mem_singleton.mp hr]
          exact .of (D1.scl_Rw p0 ((D1.scl_len (p := p) (k := lo + c)).symm.trans sl))
      · obtain ⟨q, hq, rfl⟩ := List.mem_map.mp hr
        exact .of (addM_Rw _ p0 (i2 q (List.mem_of_mem_eraseIdx hq)).1 sl)
      · have := D1.scl_len (p := p) (k := 0) (h := [])
        rw [List.length_map, List.length_eraseIdx]
        split <;> omega
theorem ok_clr {f fL : Addr} {fd fdL : FuncData} (F : Fun K "_law_cleared" "_law_cleared" s_law_cleared f fd) (T : Txt mg)
    (GL : FnOk P w K mg base CX0 1 fL fdL ["p", "row", "head", "place"] (spLess K)) (kL : PySem.W.keepIn K (.ref fL) = true) (bL : Binds K fdL ["p", "row", "head", "place"] []) (mL : mg "_law_less" = some (.ref fL)) :
    FnOk P w K mg base CX0 2 f fd ["p", "rows", "places"] (spClr K) := by
  refine F.ok scCl (fun vs H Q E h => ?_) (fun cdv A outer s H vs Q E hr h => ?_)
  · obtain ⟨p, a, b, XS, rs, n, lo, c, rfl, _⟩ := h
    rfl
  · obtain ⟨p, a, b, XS, rs, n, lo, c, rfl, pp, ga, hX, hz, hn, hR, hlc, gb, q⟩ := h
    obtain ⟨p2, p97⟩ := prime_pos p pp
    have p0 : 0 < p := by omega
    have z1000 : (1000 : Nat) ≤ sizeLine := by decide
    have hu := hr.units
    have hu2 := Nat.lt_of_le_of_lt (Nat.add_le_add_left (show 2 ≤ 64 by decide) _) hu
    have hXl := hX.1
    refine ⟨_, pss_cons (ps_setComp (i := 3) (N := ["row"]) (own := 1) (caps := []) rfl scCl.nd rfl rfl (piList K rfl (pv 1))
        (show BlkScope nCl (defScope s_law_cleared) ["row"] 1 [] _ from .mk' (by decide +kernel)) (fun _ _ _ _ _ => pg_name (i := 0) nv0 rfl (Or.inl rfl)) (fun _ _ _ _ _ => pts_nil)
        (fun _ _ _ _ _ => pe_callTy (cList K rfl) rfl T.list bt_list (pa_cons (pv 0) pa_nil)))
      (pss_cons (ps_set (i := 4) scCl.nd rfl (Or.inl rfl) (pe_lst pa_nil))
      (pss_cons (ps_for PassesOwn.never rfl (piList K rfl (pv 2)) (pg_name (i := 5) scCl.nd rfl (Or.inr rfl))
        (pss_cons (ps_setComp (i := 6) (N := ["row", "p", "place"]) (own := 1) (caps := [0, 5]) rfl scCl.nd rfl rfl (piList K rfl (pv 3))
          (show BlkScope nCl (defScope s_law_cleared) ["row", "p", "place"] 1 [0, 5] _ from .mk' (by decide +kernel)) (fun _ _ _ _ _ => pg_name (i := 0) nv1 rfl (Or.inl rfl))
          (fun _ _ _ _ _ => pts_one (pt_cmpR op_ne (pe_op op_mod (pe_ix (ixL K rfl) (pv 0) (pv 2) (fun _ _ => rfl)) (pv 1)) pe_int (nomark _))) (fun _ _ _ _ _ => pv 0))
        (pss_one (ps_if (pt_cmpR (opNeD K rfl hu) (pv 6) (pe_lst pa_nil) (nomark _))
          (pss_cons (ps_set (i := 7) scCl.nd rfl (Or.inr rfl) (pe_ix (ixL K rfl) (pv 6) pe_int (fun _ _ => rfl)))
          (pss_cons (ps_expr (pe_bm PySem.F.plainAttrs_list PySem.F.slot_list_remove PySem.F.type_list_remove (mt_remove hu2) (pv 3) (pa_cons (pv 7) pa_nil)))
          (pss_cons (ps_set (i := 8) scCl.nd rfl (Or.inr rfl) pe_int)
          (pss_cons (ps_while PassesOwn.never (pt_cmpR op_ne (pe_op op_mod (pe_op op_mul (pv 8) (pe_ix (ixL K rfl) (pv 7) (pv 5) (fun _ _ => rfl))) (pv 0)) pe_int (nomark _))
            (pss_one (ps_set (i := 8) scCl.nd rfl (Or.inr rfl) (pe_op op_add (pv 8) pe_int))))
          (pss_cons (ps_set (i := 7) scCl.nd rfl (Or.inr rfl) (pe_comp (N := ["number", "by", "p"]) (own := 1) (caps := [8, 0]) rfl (piList K rfl (pv 7))
            (show BlkScope nCl (defScope s_law_cleared) ["number", "by", "p"] 1 [8, 0] _ from .mk' (by decide +kernel)) (fun _ _ _ _ _ => pg_name (i := 0) nv2 rfl (Or.inl rfl)) (fun _ _ _ _ _ => pts_nil)
            (fun _ _ _ _ _ => pe_op op_mod (pe_op op_mul (pv 0) (pv 1)) (pv 2))))
          (pss_cons (ps_setComp (i := 3) (N := ["row", "head", "p", "place"]) (own := 1) (caps := [7, 0, 5]) rfl scCl.nd rfl rfl (piList K rfl (pv 3))
            (show BlkScope nCl (defScope s_law_cleared) ["row", "head", "p", "place"] 1 [7, 0, 5] _ from .mk' (by decide +kernel)) (fun _ _ _ _ _ => pg_name (i := 0) nv3 rfl (Or.inl rfl)) (fun _ _ _ _ _ => pts_nil)
            (fun _ _ _ _ _ => pe_call GL hr rfl mL kL bL .nil pass0 (pa_cons (pv 2) (pa_cons (pv 0) (pa_cons (pv 1) (pa_cons (pv 3) pa_nil))))))
          (pss_one (ps_set (i := 4) scCl.nd rfl (Or.inl rfl) (pe_op op_cat (pe_comp (N := ["row", "head", "p", "place"]) (own := 1) (caps := [7, 0, 5]) rfl (piList K rfl (pv 4))
            (show BlkScope nCl (defScope s_law_cleared) ["row", "head", "p", "place"] 1 [7, 0, 5] _ from .mk' (by decide +kernel)) (fun _ _ _ _ _ => pg_name (i := 0) nv3 rfl (Or.inl rfl)) (fun _ _ _ _ _ => pts_nil)
            (fun _ _ _ _ _ => pe_call GL hr rfl mL kL bL .nil pass0 (pa_cons (pv 2) (pa_cons (pv 0) (pa_cons (pv 1) (pa_cons (pv 3) pa_nil)))))) (pe_lst (pa_cons (pv 7) pa_nil)))))))))))
          pss_nil))))
      (pss_one (ps_ret (pe_lst (pa_cons (pv 4) (pa_cons (pv 3) pa_nil))))))), ?_⟩
    refine ⟨_, rfl, a, rfl, ⟨_, .of ga⟩, comp_list (cp := []) (fun i H' zs => LR (fun a => H a = none) H' zs (rs.take i)) (.of ga) (by omega) LR.nil (fun i H' zs h => by rw [h.1]; exact List.length_take_le _ _) ?_ ?_⟩
    · rintro i x H1 zs hx sm h1
      obtain ⟨ra, r, rfl, hri, _, gr⟩ := hX.get' hx
      refine tgo ⟨_, rfl, ra, _, rfl, .inl (.of (sm _ _ gr)), fun l hl => ⟨⟨[_], rfl, rfl⟩, sm.trans (.upd hl), ?_⟩⟩
      rw [List.take_add_one, hri]
      exact (h1.mono (.upd hl)).snoc (none_of sm hl) upd_same
    rintro H1 LS sm1 hL1 ll hll
    rw [hXl, List.take_length] at hL1
    refine ⟨by decide, fun ld hld => ?_⟩
    have neLD : ld ≠ ll := fun z => by rw [z, upd_same] at hld; cases hld
    have sm2 : Same H (upd (upd H1 ll (.lst LS)) ld (.lst [])) := (sm1.trans (.upd hll)).trans (.upd hld)
    have hldH : H ld = none := none_of (sm1.trans (.upd hll)) hld
    refine ⟨_, rfl, b, rfl, ⟨_, .of (sm2 _ _ gb)⟩, for_list (xs := (List.range c).map fun (i : Nat) => V.int ((lo + i : Nat) : Int)) (fun k σ H' => Same H H' ∧ ∃ (ll ld : Addr) (LS DS : List V) (s5 s6 s7 s8 : Option V), σ = [some (.int p), some (.ref a), some (.ref b), some (.ref ll), some (.ref ld), s5, s6, s7, s8] ∧ H ll = none ∧ H ld = none ∧ ld ≠ ll ∧ H' ll = some (.lst LS) ∧ LR (fun a => a ≠ ll ∧ H a = none) H' LS (D1.clM p lo rs k).2 ∧ H' ld = some (.lst DS) ∧ LR (fun a => a ≠ ll ∧ H a = none) H' DS (D1.clM p lo rs k).1)
      ⟨sm2, ll, ld, LS, [], _, _, _, _, rfl, none_of sm1 hll, hldH, neLD, Same.upd hld _ _ upd_same, ?_, upd_same, LR.nil⟩ (fun i σ H' _ ⟨sm, _⟩ => .of (sm _ _ gb)) ?_ ?_⟩
    · refine ((?_ : LR (fun a => a ≠ ll ∧ H a = none) H1 LS rs).mono (.upd hll)).mono (.upd hld)
      exact ⟨hL1.1, fun i v r e1 e2 => by
        obtain ⟨x, e, hx, gx⟩ := hL1.2 i v r e1 e2
        exact ⟨x, e, ⟨fun z => (by rw [z, hll] at gx; cases gx), hx⟩, gx⟩⟩
    · rintro k x σ H2 hx ⟨sm, ll, ld, LS, DS, s5, s6, s7, s8, rfl, hllH, hldH, neLD, gL, hL, gD, hD⟩
      obtain ⟨hk, rfl⟩ := pl_at hx
      obtain ⟨n1, n2, n3, n4⟩ := cl_near pp (lo := lo) hR k
      have ecl : D1.clM p lo rs (k + 1) = D1.clS p (lo + k) (D1.clM p lo rs k) := rfl
      rw [ecl]
      generalize D1.clM p lo rs k = st at hL hD n1 n2 n3 n4
      obtain ⟨D, L⟩ := st
      dsimp only at hL hD n1 n2 n3 n4
      have hLS := hL.1
      have hDS := hD.1
      have hkn : lo + k < n := by omega
      generalize hkk : lo + k = kk at hkn ⊢
      -- some
      refine ⟨_, rfl, ll, rfl, ⟨_, .of gL⟩, comp_list (cp := [some (.int p), some (.int (kk : Int))]) (fun j H' zs => zs.length ≤ j ∧ ((zs = [] ∧ ∀ m q, m < j → L[m]? = some q → (q.getD kk 0 % p != 0) = false) ∨ ∃ i h v t M, i < j ∧ L[i]? = some h ∧ (h.getD kk 0 % p != 0) = true ∧ (∀ m q, m < i → L[m]? = some q → (q.getD kk 0 % p != 0) = false) ∧ LS[i]? = some v ∧ zs = v :: t ∧ LR (fun _ => True) H' zs M)) (.of gL) (by omega)
        ⟨Nat.le_refl _, .inl ⟨rfl, fun m q hm => absurd hm (by omega)⟩⟩ (fun j H' zs h => h.1) ?_ ?_⟩
      · rintro j x H' zs hx sm' ⟨hzl, hP⟩
        obtain ⟨ra, r, rfl, hr', _, gr⟩ := hL.get' hx
        have hkr : kk < r.length := by rw [(n2 r (List.mem_of_getElem? hr')).1]; exact hkn
        refine ⟨_, rfl, _, rfl, ra, _, (kk : Int), _, rfl, rfl, .of (sm' _ _ gr), atI_nat (atRow hkr), _, rfl, _, _, rfl, rfl, p0, rfl, _, rfl, iteNe (fun hne => ?_) (fun heq => ?_)⟩
        · have hf : (r.getD kk 0 % p != 0) = true := by
            have : ¬ r.getD kk 0 % p = 0 := fun z => hne (congrArg V.int z)
            simpa using this
          refine ⟨_, rfl, ⟨[_], rfl, rfl⟩, sm', by rw [List.length_append]; show zs.length + 1 ≤ _; omega, .inr ?_⟩
          rcases hP with ⟨rfl, h0⟩ | ⟨i, h, v, t, M, hi, e1, e2, e3, e4, rfl, e6⟩
          · exact ⟨j, r, .ref ra, [], [r], by omega, hr', hf, h0, hx, rfl, LR.nil.snoc trivial (sm' _ _ gr)⟩
          · exact ⟨i, h, v, t ++ [.ref ra], M ++ [r], by omega, e1, e2, e3, e4, rfl, e6.snoc trivial (sm' _ _ gr)⟩
        · have hf : (r.getD kk 0 % p != 0) = false := by
            have : r.getD kk 0 % p = 0 := V.int.inj heq
            simpa using this
          refine ⟨⟨[_], rfl, rfl⟩, sm', by omega, ?_⟩
          rcases hP with ⟨rfl, h0⟩ | ⟨i, h, v, t, M, hi, e1, e2, e3, e4, rfl, e6⟩
          · refine .inl ⟨rfl, fun m q hm hq => ?_⟩
            by_cases e : m = j
            · subst e
              rw [hr'] at hq
              cases hq
              exact hf
            · exact h0 m q (by omega) hq
          · exact .inr ⟨i, h, v, t, M, by omega, e1, e2, e3, e4, rfl, e6⟩
      rintro H3 zs sm3 ⟨_, hP⟩ ls hls
      have sm4 : Same H2 (upd H3 ls (.lst zs)) := sm3.trans (.upd hls)
      have g4 : (upd H3 ls (.lst zs)) ls = some (.lst zs) := upd_same
      have hls2 : H2 ls = none := none_of sm3 hls
      have nels : ls ≠ ll := fun z => by rw [z, gL] at hls2; cases hls2
      rcases hP with ⟨rfl, h0⟩ | ⟨i, h, v, t, M, hi, e1, e2, e3, e4, rfl, e6⟩
      · -- none
        generalize upd H3 ls (.lst []) = H4 at sm4 g4 ⊢
        have ef : L.findIdx? (fun r => r.getD kk 0 % p != 0) = none := by
          rw [List.findIdx?_eq_none_iff]
          intro r hr
          obtain ⟨m, hm⟩ := List.getElem?_of_mem hr
          exact h0 m r (by rw [hLS]; exact (List.getElem?_eq_some_iff.mp hm).1) hm
        have ecs : D1.clS p kk (D, L) = (D, L) := by
          unfold D1.clS
          dsimp only
          rw [ef]
        rw [ecs]
        refine ⟨_, rfl, by decide, fun le hle => ⟨.list [], .list [], .list (.of (Same.upd hle _ _ g4)) .nil, .list (.of upd_same) .nil, rfl, rfl, _, rfl, iteNeD rfl ?_⟩⟩
        have sm5 := sm4.trans (Same.upd hle (o := .lst []))
        exact ⟨sm.trans sm5, ll, ld, LS, DS, _, _, _, _, rfl, hllH, hldH, neLD, sm5 _ _ gL, hL.mono sm5, sm5 _ _ gD, hD.mono sm5⟩
      · -- some head
        have e6' : LR (fun _ => True) (upd H3 ls (.lst (v :: t))) (v :: t) M := e6.mono (.upd hls)
        generalize upd H3 ls (.lst (v :: t)) = H4 at sm4 g4 e6' ⊢
        have ef : L.findIdx? (fun r => r.getD kk 0 % p != 0) = some i := by
          rw [List.findIdx?_eq_some_iff_getElem]
          obtain ⟨hiL, rfl⟩ := List.getElem?_eq_some_iff.mp e1
          exact ⟨hiL, e2, fun j hj => by rw [e3 j _ hj (List.getElem?_eq_getElem (by omega))]; decide⟩
        have ecs : D1.clS p kk (D, L) = (D.map (lessM p kk (D1.sclM p kk h)) ++ [D1.sclM p kk h], (L.eraseIdx i).map (lessM p kk (D1.sclM p kk h))) := by
          unfold D1.clS
          dsimp only
          rw [ef]
          dsimp only
          rw [D1.getD_of_some' e1]
        rw [ecs]
        refine ⟨_, rfl, by decide, fun le hle => ⟨.list (M.map intsL), .list [], .list (.of (Same.upd hle _ _ g4)) (e6'.mono (.upd hle)).has, .list (.of upd_same) .nil, kqd_LL M, rfl, _, rfl, iteNeD' ?_ ?_⟩⟩
        · intro z
          injection z with z
          have := e6.1
          rw [List.length_eq_zero_iff.mpr (List.map_eq_nil_iff.mp z)] at this
          cases this
        have sm5 := sm4.trans (Same.upd hle (o := .lst []))
        have g5 := Same.upd hle (o := .lst []) _ _ g4
        generalize upd H4 le (.lst []) = H5 at sm5 g5 ⊢
        obtain ⟨ha, h', rfl, hh', ⟨nha, nhH⟩, gha⟩ := hL.get' e4
        rw [e1] at hh'
        cases hh'
        have hRh := n2 h (List.mem_of_getElem? e1)
        have hkh : kk < h.length := by rw [hRh.1]; exact hkn
        refine ⟨_, rfl, ls, _, 0, .ref ha, rfl, rfl, .of g5, atI_nat (j := 0) rfl, ?_⟩
        refine ⟨_, rfl, .inl ⟨rfl, _, SqL.of (sm5 _ _ gL)⟩, _, rfl, ll, LS, L, i, ha, h, rfl, rfl, sm5 _ _ gL, (hL.mono sm5).weak fun _ _ => trivial, e4, sm5 _ _ gha, fun m r hm hr' => ⟨?_, ?_⟩, ?_⟩
        · rw [hRh.1, (n2 r (List.mem_of_getElem? hr')).1]
        · rintro rfl
          have := e3 m _ hm hr'
          rw [e2] at this
          cases this
        have smA : Same H (upd H5 ll (.lst (LS.eraseIdx i))) := (sm.trans sm5).write hllH
        have gA : (upd H5 ll (.lst (LS.eraseIdx i))) ll = some (.lst (LS.eraseIdx i)) := upd_same
        have ghA : (upd H5 ll (.lst (LS.eraseIdx i))) ha = some (.lst (h.map V.int)) := by rw [upd_ne nha]; exact sm5 _ _ gha
        have hLA : LR (fun a => a ≠ ll ∧ H a = none) (upd H5 ll (.lst (LS.eraseIdx i))) (LS.eraseIdx i) (L.eraseIdx i) := ⟨(hL.del i).1, fun j v r z1 z2 => by
          obtain ⟨x, e, nx, gx⟩ := (hL.del i).2 j v r z1 z2
          exact ⟨x, e, nx, by rw [upd_ne nx.1]; exact sm5 _ _ gx⟩⟩
        have hDA : LR (fun a => a ≠ ll ∧ H a = none) (upd H5 ll (.lst (LS.eraseIdx i))) DS D := ⟨hDS, fun j v r z1 z2 => by
          obtain ⟨x, e, nx, gx⟩ := hD.2 j v r z1 z2
          exact ⟨x, e, nx, by rw [upd_ne nx.1]; exact sm5 _ _ gx⟩⟩
        have gDA : (upd H5 ll (.lst (LS.eraseIdx i))) ld = some (.lst DS) := by rw [upd_ne neLD]; exact sm5 _ _ gD
        generalize upd H5 ll (.lst (LS.eraseIdx i)) = H6 at smA gA ghA hLA hDA gDA ⊢
        have h0 : h.getD kk 0 % p ≠ 0 := by simpa using e2
        have htk := D1.scl_turn pp h0
        have escl : D1.sclM p kk h = h.map fun x => x * turnM p (h.getD kk 0 % p) % p := rfl
        have hbx := hRh.at p0 kk
        have hslen : (D1.sclM p kk h).length = n := by rw [D1.scl_len]; exact hRh.1
        generalize turnM p (h.getD kk 0 % p) = u at htk escl
        -- while
        refine ⟨fun m σ H' => ∃ bb : Int, H' = H6 ∧ σ = [some (.int p), some (.ref a), some (.ref b), some (.ref ll), some (.ref ld), some (.int (kk : Int)), some (.ref ls), some (.ref ha), some (.int bb)] ∧ 1 ≤ bb ∧ bb ≤ u ∧ m = (u - bb).toNat, ⟨_, 1, rfl, rfl, by omega, by omega, rfl⟩, ?_⟩
        rintro m σ H' ⟨bb, rfl, rfl, b1, b2, rfl⟩
        refine ⟨_, rfl, _, rfl, _, rfl, ha, _, (kk : Int), _, rfl, rfl, .of ghA, atI_nat (atRow hkh), _, _, rfl, rfl, .inl ⟨by omega, by omega⟩, _, rfl, _, _, rfl, rfl, p0, rfl, _, rfl, iteNe (fun hne => ?_) (fun heq => ?_)⟩
        · have hbu : bb ≠ u := fun z => hne (congrArg V.int (by rw [z]; exact htk.2.2))
          refine ⟨fun σ' H'' => H'' = H' ∧ σ' = [some (.int p), some (.ref a), some (.ref b), some (.ref ll), some (.ref ld), some (.int (kk : Int)), some (.ref ls), some (.ref ha), some (.int (bb + 1))], ?_, ?_⟩
          · rintro σ' H'' ⟨rfl, rfl⟩
            exact ⟨(u - (bb + 1)).toNat, by omega, bb + 1, rfl, rfl, by omega, by omega, rfl⟩
          · exact ⟨_, rfl, _, _, rfl, rfl, rfl, rfl⟩
        obtain rfl : bb = u := inv_unique p0 (V.int.inj heq) htk.2.2 (by omega) (by omega) (by omega) htk.2.1
        -- the head
        refine ⟨_, rfl, ha, rfl, ⟨_, .of ghA⟩, comp_list (cp := [some (.int bb), some (.int p)]) (fun j H' zs => zs = ((h.take j).map fun y => y * bb % p).map V.int) (.of ghA) (by rw [List.length_map, hRh.1]; omega) rfl
          (fun j H' zs e => by rw [e, List.length_map, List.length_map]; exact List.length_take_le _ _) ?_ ?_⟩
        · rintro j y H'' zs hy sm' rfl
          rw [List.getElem?_map] at hy
          cases f1 : h[j]? with
          | none => rw [f1] at hy; cases hy
          | some y' =>
            rw [f1] at hy
            cases hy
            refine tgo ⟨_, rfl, _, rfl, _, _, rfl, rfl, .inr ⟨by omega, by omega⟩, _, rfl, _, _, rfl, rfl, p0, ⟨[_], rfl, rfl⟩, sm', ?_⟩
            rw [List.take_add_one, f1]
            simp
        rintro HA zs smB rfl lh hlh
        rw [List.length_map, List.take_length, ← escl]
        generalize D1.sclM p kk h = hd at hslen ⊢
        have smC : Same H' (upd HA lh (.lst (hd.map V.int))) := smB.trans (.upd hlh)
        have gC : (upd HA lh (.lst (hd.map V.int))) lh = some (.lst (hd.map V.int)) := upd_same
        have lhH : H lh = none := none_of (smA.trans smB) hlh
        generalize upd HA lh (.lst (hd.map V.int)) = HC at smC gC ⊢
        have hRE : ∀ r ∈ L.eraseIdx i, Rn p n r := fun r hr => n2 r (List.mem_of_mem_eraseIdx hr)
        -- left
        refine ⟨_, rfl, ll, rfl, ⟨_, .of (smC _ _ gA)⟩, comp_lessN p2 p97 hn hkn (smC _ _ gA) (hLA.mono smC) hRE gC hslen (by rw [List.length_eraseIdx]; split <;> omega) (fun x H1 R z => ⟨_, rfl, _, rfl, _, rfl, _, rfl, z⟩) ?_⟩
        rintro HD MS smD hM lm hlm
        have smE : Same H' (upd HD lm (.lst MS)) := (smC.trans smD).trans (.upd hlm)
        have gE : (upd HD lm (.lst MS)) lm = some (.lst MS) := upd_same
        have gdE : (upd HD lm (.lst MS)) lh = some (.lst (hd.map V.int)) := Same.upd hlm _ _ (smD _ _ gC)
        have hME : LR (fun a => a ≠ lm ∧ H a = none) (upd HD lm (.lst MS)) MS ((L.eraseIdx i).map (lessM p kk hd)) := ⟨hM.1, fun j v r z1 z2 => by
          obtain ⟨x, e, nx, gx⟩ := hM.2 j v r z1 z2
          have : x ≠ lm := fun z => by rw [z, hlm] at gx; cases gx
          exact ⟨x, e, ⟨this, none_of (smA.trans smC) nx⟩, by rw [upd_ne this]; exact gx⟩⟩
        have lmH : H lm = none := none_of ((smA.trans smC).trans smD) hlm
        have nelh : lh ≠ lm := fun z => by
          have := smD _ _ gC
          rw [z, hlm] at this; cases this
        generalize upd HD lm (.lst MS) = HE at smE gE gdE hME ⊢
        -- found
        refine ⟨_, rfl, ld, rfl, ⟨_, .of (smE _ _ gDA)⟩, comp_lessN p2 p97 hn hkn (smE _ _ gDA) (hDA.mono smE) n1 gdE hslen (by omega) (fun x H1 R z => ⟨_, rfl, _, rfl, _, rfl, _, rfl, z⟩) ?_⟩
        rintro HF NS smF hN l1 h1
        have hNl := hN.1
        rw [List.length_map] at hNl
        refine ⟨_, rfl, (by show 1 ≤ sizeLine; omega), fun l2 h2 => ⟨l1, l2, NS, [.ref lh], rfl, rfl, Same.upd h2 _ _ upd_same, upd_same, by show NS.length + 1 ≤ sizeLine; omega, fun l3 h3 => ?_⟩⟩
        have smG : Same HE (upd (upd (upd HF l1 (.lst NS)) l2 (.lst [.ref lh])) l3 (.lst (NS ++ [.ref lh]))) := (smF.trans (.upd h1)).trans ((Same.upd h2).trans (.upd h3))
        have smH := smE.trans smG
        have h3E : HE l3 = none := none_of (smF.trans ((Same.upd h1).trans (Same.upd h2))) h3
        have ne3 : l3 ≠ lm := fun z => by rw [z, gE] at h3E; cases h3E
        have hN2 : LR (fun a => a ≠ lm ∧ H a = none) HF NS (D.map (lessM p kk hd)) := ⟨hN.1, fun i v r e1 e2 => by
          obtain ⟨x, e, hx, gx⟩ := hN.2 i v r e1 e2
          have nx : x ≠ lm := fun z => by rw [z, gE] at hx; cases hx
          exact ⟨x, e, ⟨nx, none_of (smA.trans smE) hx⟩, gx⟩⟩
        refine ⟨smA.trans smH, lm, l3, MS, NS ++ [.ref lh], _, _, _, _, rfl, lmH, none_of (smA.trans smE) h3E, ne3, smG _ _ gE, hME.mono smG, upd_same, ?_⟩
        exact (hN2.mono ((Same.upd h1).trans ((Same.upd h2).trans (.upd h3)))).snoc ⟨nelh, lhH⟩ (smG _ _ gdE)
    · rintro σ H2 ⟨sm, ll, ld, LS, DS, s5, s6, s7, s8, rfl, hllH, hldH, neLD, gL, hL, gD, hD⟩
      rw [List.length_map, List.length_range] at hL hD
      refine ⟨_, rfl, _, rfl, by show 2 ≤ sizeLine; decide, fun l hl => ?_⟩
      exact q l ld ll DS LS _ (sm.trans (.upd hl)) (none_of sm hl) upd_same hldH (Same.upd hl _ _ gD) ((hD.mono (.upd hl)).weak fun _ z => z.2) hllH (Same.upd hl _ _ gL) ((hL.mono (.upd hl)).weak fun _ z => z.2)
end
end S21
namespace D1
open Bw

/-! ### what the law works out of a drawing: rows that span what it lets by -/
noncomputable def cs (A : List (List Int)) (j : Nat) (z : Fn) : Int := rsum (A.map fun r => r.getD j 0) z
noncomputable def SpLR (p : Int) (A : List (List Int)) (l r : Nat) (x y : Fn) : Prop := ∃ z : Fn, (∀ j, j < l → eq p (x j) (cs A j z)) ∧ ∀ j, j < r → eq p (y j) (cs A (l + j) z)
/-- left numbers, then right numbers, as one row -/
noncomputable def join3 (l r : Nat) (x y : Fn) : Fn := fun j => if j < l then x j else if j < l + r then y (j - l) else 0
theorem cs_out {A : List (List Int)} {j n : Nat} (h : ∀ r ∈ A, r.length = n) (hj : n ≤ j) (z : Fn) : cs A j z = 0 := rsum_zero _ _ fun a ha => by
  obtain ⟨r, hr, rfl⟩ := List.mem_map.mp ha
  rw [List.getD_eq_getElem?_getD, List.getElem?_eq_none (by rw [h r hr]; exact hj)]
  rfl
theorem cs_map {A : List (List Int)} {g : List Int → List Int} {j j' : Nat} (h : ∀ r ∈ A, (g r).getD j 0 = r.getD j' 0) (z : Fn) : cs (A.map g) j z = cs A j' z := by
  unfold cs
  rw [List.map_map]
  exact congrArg (fun l => rsum l z) (List.map_congr_left h)
theorem cs_map0 {A : List (List Int)} {g : List Int → List Int} {j : Nat} (h : ∀ r ∈ A, (g r).getD j 0 = 0) (z : Fn) : cs (A.map g) j z = 0 := rsum_zero _ _ fun a ha => by
  obtain ⟨q, hq, rfl⟩ := List.mem_map.mp ha
  obtain ⟨r, hr, rfl⟩ := List.mem_map.mp hq
  exact h r hr
theorem rsum_neg : ∀ (l : List Int) (z : Fn), rsum (l.map fun a => -a) z = -rsum l z
  | [], _ => rfl
  | a :: l, z => by
    show -a * z 0 + rsum (l.map fun a => -a) (sh 1 z) = -(a * z 0 + rsum l (sh 1 z))
    rw [rsum_neg l, Int.neg_mul]
    omega
theorem cs_mapN {A : List (List Int)} {g : List Int → List Int} {j j' : Nat} (h : ∀ r ∈ A, (g r).getD j 0 = -(r.getD j' 0)) (z : Fn) : cs (A.map g) j z = -cs A j' z := by
  unfold cs
  rw [← rsum_neg, List.map_map, List.map_map]
  exact congrArg (fun l => rsum l z) (List.map_congr_left h)
theorem cs_app (A B : List (List Int)) (j : Nat) (z : Fn) : cs (A ++ B) j z = cs A j z + cs B j (sh A.length z) := by
  unfold cs
  rw [List.map_append, rsum_app, List.length_map]
theorem cs_dvd {p : Int} {A : List (List Int)} {j : Nat} (h : ∀ r ∈ A, p ∣ r.getD j 0) (z : Fn) : p ∣ cs A j z := by
  have key : ∀ (l : List Int) (z : Fn), (∀ a ∈ l, p ∣ a) → p ∣ rsum l z := fun l => by
    induction l with
    | nil => intro z _; exact ⟨0, by show (0 : Int) = _; simp⟩
    | cons a l ih => intro z hl; exact Int.dvd_add (Int.dvd_trans (hl a List.mem_cons_self) ⟨z 0, rfl⟩) (ih _ fun b hb => hl b (List.mem_cons_of_mem _ hb))
  exact key _ z fun a ha => by
    obtain ⟨r, hr, rfl⟩ := List.mem_map.mp ha
    exact h r hr
/-- two columns of factors, one behind the other -/
noncomputable def cat2 (n : Nat) (u v : Fn) : Fn := fun k => if k < n then u k else v (k - n)
theorem cs_cat1 {A : List (List Int)} {j : Nat} (u v : Fn) : cs A j (cat2 A.length u v) = cs A j u := by
  have key : ∀ (l : List Int) (z z' : Fn), (∀ k, k < l.length → z k = z' k) → rsum l z = rsum l z' := fun l => by
    induction l with
    | nil => intros; rfl
    | cons a l ih =>
      intro z z' h
      show a * z 0 + rsum l (sh 1 z) = a * z' 0 + rsum l (sh 1 z')
      rw [h 0 (by simp), ih (sh 1 z) (sh 1 z') fun k hk => h (1 + k) (by simp; omega)]
  exact key _ _ _ fun k hk => by
    rw [List.length_map] at hk
    unfold cat2
    rw [if_pos hk]
theorem sh_cat2 (n : Nat) (u v : Fn) : sh n (cat2 n u v) = v := funext fun k => by
  unfold sh cat2
  rw [if_neg (by omega), show n + k - n = k by omega]
theorem sp_lr {p : Int} {A : List (List Int)} {l r : Nat} (h : ∀ q ∈ A, q.length = l + r) (x y : Fn) : Sp p (RS A) (join3 l r x y) ↔ SpLR p A l r x y := by
  rw [span_cols]
  constructor
  · rintro ⟨z, hz⟩
    refine ⟨z, fun j hj => ?_, fun j hj => ?_⟩
    · have := hz j
      unfold join3 at this
      rwa [if_pos hj] at this
    · have := hz (l + j)
      unfold join3 at this
      rwa [if_neg (by omega), if_pos (by omega), show l + j - l = j by omega] at this
  · rintro ⟨z, h1, h2⟩
    refine ⟨z, fun j => ?_⟩
    unfold join3
    by_cases hj : j < l
    · rw [if_pos hj]; exact h1 j hj
    · rw [if_neg hj]
      by_cases hj2 : j < l + r
      · rw [if_pos hj2]
        have := h2 (j - l) (by omega)
        rwa [show l + (j - l) = j by omega] at this
      · rw [if_neg hj2]
        have := cs_out h (show l + r ≤ j by omega) z
        unfold cs at this
        rw [this]
        exact .refl _ _
noncomputable def backR (l : Nat) (q : List Int) : List Int := q.drop l ++ q.take l
noncomputable def aboR (l l' r' : Nat) (q : List Int) : List Int := q.take l ++ List.replicate l' 0 ++ q.drop l ++ List.replicate r' 0
noncomputable def belR (l r l' : Nat) (q : List Int) : List Int := List.replicate l 0 ++ q.take l' ++ List.replicate r 0 ++ q.drop l'
noncomputable def aheR (r : Nat) (q : List Int) : List Int := q ++ List.replicate r 0
noncomputable def folR (l m : Nat) (q : List Int) : List Int := List.replicate l 0 ++ (q.take m).map (fun x => 0 - x) ++ q.drop m
noncomputable def cutR (l m : Nat) (q : List Int) : List Int := q.take l ++ q.drop (l + m)
noncomputable def someR (l m r : Nat) (A B : List (List Int)) : List (List Int) := A.map (aheR r) ++ B.map (folR l m)
noncomputable def thinR (p : Int) (l m r : Nat) (A B : List (List Int)) : List (List Int) := (clM p l (someR l m r A B) m).2.map (cutR l m)
noncomputable def thenR (p : Int) (l m r : Nat) (A B : List (List Int)) : List (List Int) := (clM p 0 (thinR p l m r A B) (l + r)).1
namespace Dr
noncomputable def rows (p : Int) : Dr → List (List Int)
  | id => [[1, 1]] | swap => [[1, 0, 0, 1], [0, 1, 1, 0]] | copy => [[1, 1, 1]] | fin => [[1]] | add => [[1, 0, 1], [0, 1, 1]] | none => [] | cup => [[1, 1]] | empty => []
  | times n => [[1, n]]
  | back d => (d.rows p).map (backR d.l)
  | beside a b => (a.rows p).map (aboR a.l b.l b.r) ++ (b.rows p).map (belR a.l a.r b.l)
  | thn a b => thenR p a.l a.r b.r (a.rows p) (b.rows p)
end Dr
section
variable {p : Int}
theorem gd_app {a b : List Int} {j : Nat} : (a ++ b).getD j 0 = if j < a.length then a.getD j 0 else b.getD (j - a.length) 0 := by
  rw [List.getD_eq_getElem?_getD, List.getElem?_append]
  split <;> rw [List.getD_eq_getElem?_getD]
theorem gd_take {a : List Int} {k j : Nat} : (a.take k).getD j 0 = if j < k then a.getD j 0 else 0 := by
  rw [List.getD_eq_getElem?_getD, List.getElem?_take]
  split
  · rw [List.getD_eq_getElem?_getD]
  · rfl
theorem gd_drop {a : List Int} {k j : Nat} : (a.drop k).getD j 0 = a.getD (k + j) 0 := by
  rw [List.getD_eq_getElem?_getD, List.getElem?_drop, List.getD_eq_getElem?_getD]
theorem gd_rep {k j : Nat} : (List.replicate k (0 : Int)).getD j 0 = 0 := by
  rw [List.getD_eq_getElem?_getD, List.getElem?_replicate]
  split <;> rfl
theorem lr_back {A : List (List Int)} {l r : Nat} (h : ∀ q ∈ A, q.length = l + r) (x y : Fn) : SpLR p (A.map (backR l)) r l x y ↔ SpLR p A l r y x := by
  have c1 : ∀ j, j < r → ∀ z, cs (A.map (backR l)) j z = cs A (l + j) z := fun j hj z => cs_map (fun q hq => by
    unfold backR
    rw [gd_app, if_pos (by rw [List.length_drop, h q hq]; omega), gd_drop]) z
  have c2 : ∀ j, j < l → ∀ z, cs (A.map (backR l)) (r + j) z = cs A j z := fun j hj z => cs_map (fun q hq => by
    unfold backR
    rw [gd_app, if_neg (by rw [List.length_drop, h q hq]; omega), gd_take, List.length_drop, h q hq, show r + j - (l + r - l) = j by omega, if_pos hj]) z
  constructor
  · rintro ⟨z, h1, h2⟩
    exact ⟨z, fun j hj => c2 j hj z ▸ h2 j hj, fun j hj => c1 j hj z ▸ h1 j hj⟩
  · rintro ⟨z, h1, h2⟩
    exact ⟨z, fun j hj => (c1 j hj z).symm ▸ h2 j hj, fun j hj => (c2 j hj z).symm ▸ h1 j hj⟩
theorem lr_beside {A B : List (List Int)} {l r l' r' : Nat} (h : ∀ q ∈ A, q.length = l + r) (h' : ∀ q ∈ B, q.length = l' + r') (x y : Fn) :
    SpLR p (A.map (aboR l l' r') ++ B.map (belR l r l')) (l + l') (r + r') x y ↔ SpLR p A l r x y ∧ SpLR p B l' r' (sh l x) (sh r y) := by
  have a1 : ∀ j, j < l → ∀ z, cs (A.map (aboR l l' r')) j z = cs A j z := fun j hj z => cs_map (fun q hq => by
    have := h q hq
    unfold aboR
    simp only [gd_app, gd_take, List.length_append, List.length_take, List.length_replicate, List.length_drop]
    rw [if_pos (by omega), if_pos (by omega), if_pos (by omega), if_pos hj]) z
  have a2 : ∀ j, j < l' → ∀ z, cs (A.map (aboR l l' r')) (l + j) z = 0 := fun j hj z => cs_map0 (fun q hq => by
    have := h q hq
    unfold aboR
    simp only [gd_app, gd_rep, List.length_append, List.length_take, List.length_replicate, List.length_drop]
    rw [if_pos (by omega), if_pos (by omega), if_neg (by omega)]) z
  have a3 : ∀ j, j < r → ∀ z, cs (A.map (aboR l l' r')) (l + l' + j) z = cs A (l + j) z := fun j hj z => cs_map (fun q hq => by
    have := h q hq
    unfold aboR
    simp only [gd_app, gd_rep, gd_drop, List.length_append, List.length_take, List.length_replicate, List.length_drop]
    rw [if_pos (by omega), if_neg (by omega)]
    congr 1
    omega) z
  have a4 : ∀ j, j < r' → ∀ z, cs (A.map (aboR l l' r')) (l + l' + (r + j)) z = 0 := fun j hj z => cs_map0 (fun q hq => by
    have := h q hq
    unfold aboR
    simp only [gd_app, gd_rep, gd_drop, List.length_append, List.length_take, List.length_replicate, List.length_drop]
    rw [if_neg (by omega)]) z
  have b1 : ∀ j, j < l → ∀ z, cs (B.map (belR l r l')) j z = 0 := fun j hj z => cs_map0 (fun q hq => by
    have := h' q hq
    unfold belR
    simp only [gd_app, gd_rep, List.length_append, List.length_take, List.length_replicate, List.length_drop]
    rw [if_pos (by omega), if_pos (by omega), if_pos (by omega)]) z
  have b2 : ∀ j, j < l' → ∀ z, cs (B.map (belR l r l')) (l + j) z = cs B j z := fun j hj z => cs_map (fun q hq => by
    have := h' q hq
    unfold belR
    simp only [gd_app, gd_rep, gd_take, List.length_append, List.length_take, List.length_replicate, List.length_drop]
    rw [if_pos (by omega), if_pos (by omega), if_neg (by omega), show l + j - l = j by omega, if_pos hj]) z
  have b3 : ∀ j, j < r → ∀ z, cs (B.map (belR l r l')) (l + l' + j) z = 0 := fun j hj z => cs_map0 (fun q hq => by
    have := h' q hq
    unfold belR
    simp only [gd_app, gd_rep, gd_take, List.length_append, List.length_take, List.length_replicate, List.length_drop]
    rw [if_pos (by omega), if_neg (by omega)]) z
  have b4 : ∀ j, j < r' → ∀ z, cs (B.map (belR l r l')) (l + l' + (r + j)) z = cs B (l' + j) z := fun j hj z => cs_map (fun q hq => by
    have := h' q hq
    unfold belR
    simp only [gd_app, gd_rep, gd_drop, List.length_append, List.length_take, List.length_replicate, List.length_drop]
    rw [if_neg (by omega)]
    congr 1
    omega) z
  constructor
  · rintro ⟨z, h1, h2⟩
    refine ⟨⟨z, fun j hj => ?_, fun j hj => ?_⟩, ⟨sh A.length z, fun j hj => ?_, fun j hj => ?_⟩⟩
    · have := h1 j (by omega)
      rwa [cs_app, a1 j hj, b1 j hj, Int.add_zero] at this
    · have := h2 j (by omega)
      rwa [cs_app, a3 j hj, b3 j hj, Int.add_zero] at this
    · have := h1 (l + j) (by omega)
      rwa [cs_app, a2 j hj, b2 j hj, Int.zero_add, List.length_map] at this
    · have := h2 (r + j) (by omega)
      rwa [cs_app, a4 j hj, b4 j hj, Int.zero_add, List.length_map] at this
  · rintro ⟨⟨z, h1, h2⟩, ⟨z', h3, h4⟩⟩
    refine ⟨cat2 A.length z z', fun j hj => ?_, fun j hj => ?_⟩
    · by_cases hj1 : j < l
      · rw [cs_app, a1 j hj1, b1 j hj1, Int.add_zero, cs_cat1]
        exact h1 j hj1
      · have := h3 (j - l) (by omega)
        rw [show j = l + (j - l) by omega, cs_app, a2 _ (by omega), b2 _ (by omega), Int.zero_add, List.length_map, sh_cat2]
        exact this
    · by_cases hj1 : j < r
      · rw [cs_app, a3 j hj1, b3 j hj1, Int.add_zero, cs_cat1]
        exact h2 j hj1
      · have := h4 (j - r) (by omega)
        rw [show j = r + (j - r) by omega, cs_app, a4 _ (by omega), b4 _ (by omega), Int.zero_add, List.length_map, sh_cat2]
        exact this
theorem some_spr {A B : List (List Int)} {l m r : Nat} (p0 : 0 < p) (h : Bw.Rws p (l + m) A) (h' : Bw.Rws p (m + r) B) : Spr p (l + m + r) l (l + m) 0 (someR l m r A B) (someR l m r A B) := by
  refine .start (fun q hq => ?_) (fun q hq x hx => ?_) (fun q hq j hj => ?_)
  all_goals rcases (List.mem_append.mp hq) with (hq0 | hq0)
  all_goals clear hq
  all_goals obtain ⟨q, hq, rfl⟩ := List.mem_map.mp hq0
  all_goals clear hq0
  · have := (h q hq).1
    simp only [aheR, List.length_append, List.length_replicate]
    omega
  · have := (h' q hq).1
    simp only [folR, List.length_append, List.length_replicate, List.length_map, List.length_take, List.length_drop]
    omega
  · unfold aheR at hx
    rcases (List.mem_append.mp hx) with (hx | hx)
    · have := (h q hq).2 x hx
      omega
    · have := (List.mem_replicate.mp hx).2
      omega
  · unfold folR at hx
    rcases (List.mem_append.mp hx) with (hx | hx)
    · rcases (List.mem_append.mp hx) with (hx | hx)
      · have := (List.mem_replicate.mp hx).2
        omega
      · obtain ⟨u, hu, rfl⟩ := List.mem_map.mp hx
        have := (h' q hq).2 u (List.mem_of_mem_take hu)
        omega
    · have := (h' q hq).2 x (List.mem_of_mem_drop hx)
      omega
  · unfold aheR
    rw [gd_app, gd_rep]
    split
    · exact ((h q hq).at p0 j).1
    · omega
  · have hl := (h' q hq).1
    unfold folR
    simp only [gd_app, gd_rep, gd_drop, List.length_append, List.length_map, List.length_take, List.length_replicate]
    rcases hj with hj | hj
    · rw [if_pos (by omega), if_pos (by omega)]
      omega
    · rw [if_neg (by omega)]
      exact ((h' q hq).at p0 _).1
theorem thin_rws {A B : List (List Int)} {l m r : Nat} (pp : p ∈ primesL) (h : Bw.Rws p (l + m) A) (h' : Bw.Rws p (m + r) B) : Bw.Rws p (l + r) (thinR p l m r A B) := by
  have p0 : 0 < p := by have := prime_pos p pp; omega
  have S := cl_spr pp (some_spr p0 h h') m
  intro q0 hq0
  obtain ⟨q, hq, rfl⟩ := List.mem_map.mp hq0
  clear hq0
  have hl := S.len q hq
  refine ⟨by simp only [cutR, List.length_append, List.length_take, List.length_drop]; omega, fun x hx => ?_⟩
  unfold cutR at hx
  rcases (List.mem_append.mp hx) with (hx | hx)
  · obtain ⟨i, hi, rfl⟩ := List.mem_iff_getElem.mp hx
    rw [List.length_take] at hi
    rw [List.getElem_take]
    have h1 := S.near q hq _ (List.getElem_mem (show i < q.length by omega))
    have h2 := S.pos q hq i (.inl (by omega))
    rw [List.getD_eq_getElem?_getD, List.getElem?_eq_getElem (show i < q.length by omega)] at h2
    exact ⟨h2, h1.2⟩
  · obtain ⟨i, hi, rfl⟩ := List.mem_iff_getElem.mp hx
    rw [List.length_drop] at hi
    rw [List.getElem_drop]
    have h1 := S.near q hq _ (List.getElem_mem (show l + m + i < q.length by omega))
    have h2 := S.pos q hq (l + m + i) (.inr (by omega))
    rw [List.getD_eq_getElem?_getD, List.getElem?_eq_getElem (show l + m + i < q.length by omega)] at h2
    exact ⟨h2, h1.2⟩
theorem then_red {A B : List (List Int)} {l m r : Nat} (pp : p ∈ primesL) (h : Bw.Rws p (l + m) A) (h' : Bw.Rws p (m + r) B) : thenR p l m r A B = redM p (thinR p l m r A B) := cl_redM pp (thin_rws pp h h')
theorem lr_then {A B : List (List Int)} {l m r : Nat} (pp : p ∈ primesL) (h : Bw.Rws p (l + m) A) (h' : Bw.Rws p (m + r) B) (x y : Fn) :
    SpLR p (thenR p l m r A B) l r x y ↔ ∃ z, SpLR p A l m x z ∧ SpLR p B m r z y := by
  have p0 : 0 < p := by have := prime_pos p pp; omega
  have hT := thin_rws pp h h'
  have R := redM_ok pp hT
  have S := cl_spr pp (some_spr p0 h h') m
  rw [then_red pp h h', ← sp_lr (fun q hq => (R.rws q hq).1), (⟨sp_all R.sub, sp_all R.sup⟩ : Sp p (RS (redM p (thinR p l m r A B))) (join3 l r x y) ↔ Sp p (RS (thinR p l m r A B)) (join3 l r x y)), sp_lr (fun q hq => (hT q hq).1)]
  -- the rows that are left over
  have t1 : ∀ j, j < l → ∀ z, cs (thinR p l m r A B) j z = cs (clM p l (someR l m r A B) m).2 j z := fun j hj z => cs_map (fun q hq => by
    have := S.len q hq
    unfold cutR
    rw [gd_app, gd_take, if_pos (by rw [List.length_take]; omega), if_pos hj]) z
  have t2 : ∀ j, j < r → ∀ z, cs (thinR p l m r A B) (l + j) z = cs (clM p l (someR l m r A B) m).2 (l + m + j) z := fun j hj z => cs_map (fun q hq => by
    have := S.len q hq
    unfold cutR
    rw [gd_app, gd_drop, if_neg (by rw [List.length_take]; omega), List.length_take]
    congr 1
    omega) z
  have t3 : ∀ j, j < m → ∀ z, p ∣ cs (clM p l (someR l m r A B) m).2 (l + j) z := fun j hj z => cs_dvd (fun q hq => ((S.sp (fn q)).mp (.mem ⟨q, hq, rfl⟩)).2 (l + j) (by omega) (by omega)) z
  -- all rows
  have a1 : ∀ j, j < l → ∀ z, cs (A.map (aheR r)) j z = cs A j z := fun j hj z => cs_map (fun q hq => by
    have := (h q hq).1
    unfold aheR
    rw [gd_app, if_pos (by omega)]) z
  have a2 : ∀ j, j < m → ∀ z, cs (A.map (aheR r)) (l + j) z = cs A (l + j) z := fun j hj z => cs_map (fun q hq => by
    have := (h q hq).1
    unfold aheR
    rw [gd_app, if_pos (by omega)]) z
  have a3 : ∀ j, j < r → ∀ z, cs (A.map (aheR r)) (l + m + j) z = 0 := fun j hj z => cs_map0 (fun q hq => by
    have := (h q hq).1
    unfold aheR
    rw [gd_app, if_neg (by omega), gd_rep]) z
  have b1 : ∀ j, j < l → ∀ z, cs (B.map (folR l m)) j z = 0 := fun j hj z => cs_map0 (fun q hq => by
    unfold folR
    simp only [gd_app, gd_rep, List.length_append, List.length_map, List.length_take, List.length_replicate]
    rw [if_pos (by omega), if_pos (by omega)]) z
  have b2 : ∀ j, j < m → ∀ z, cs (B.map (folR l m)) (l + j) z = -cs B j z := fun j hj z => cs_mapN (fun q hq => by
    have hl := (h' q hq).1
    unfold folR
    simp only [gd_app, gd_rep, List.length_append, List.length_map, List.length_take, List.length_replicate]
    rw [if_pos (by omega), if_neg (by omega), show l + j - l = j by omega, List.getD_eq_getElem?_getD, List.getElem?_map, List.getElem?_take, if_pos hj, List.getElem?_eq_getElem (by omega), List.getD_eq_getElem?_getD, List.getElem?_eq_getElem (by omega)]
    exact Int.zero_sub _) z
  have b3 : ∀ j, j < r → ∀ z, cs (B.map (folR l m)) (l + m + j) z = cs B (m + j) z := fun j hj z => cs_map (fun q hq => by
    have hl := (h' q hq).1
    unfold folR
    simp only [gd_app, gd_drop, List.length_append, List.length_map, List.length_take, List.length_replicate]
    rw [if_neg (by omega)]
    congr 1
    omega) z
  have hsl : ∀ q ∈ someR l m r A B, q.length = l + m + r := (some_spr p0 h h').len
  -- left numbers, noughts, right numbers
  let f : Fn := join3 l (m + r) x (cat2 m (fun _ => 0) y)
  have fz : ∀ j, l ≤ j → j < l + m → p ∣ f j := fun j h1 h2 => ⟨0, by
    show join3 l (m + r) x (cat2 m (fun _ => 0) y) j = _
    unfold join3 cat2
    rw [if_neg (by omega), if_pos (by omega), if_pos (by omega)]
    simp⟩
  have e1 : SpLR p (thinR p l m r A B) l r x y ↔ Sp p (RS (clM p l (someR l m r A B) m).2) f := by
    rw [sp_lr (fun q hq => by rw [S.len q hq]; omega)]
    constructor
    · rintro ⟨z, h1, h2⟩
      refine ⟨z, fun j hj => t1 j hj z ▸ h1 j hj, fun j hj => ?_⟩
      unfold cat2
      by_cases hm : j < m
      · rw [if_pos hm]
        exact eq.symm (show p ∣ _ - 0 by rw [Int.sub_zero]; exact t3 j hm z)
      · rw [if_neg hm]
        have := h2 (j - m) (by omega)
        rwa [t2 _ (by omega), show l + m + (j - m) = l + j by omega] at this
    · rintro ⟨z, h1, h2⟩
      refine ⟨z, fun j hj => (t1 j hj z).symm ▸ h1 j hj, fun j hj => ?_⟩
      have := h2 (m + j) (by omega)
      unfold cat2 at this
      rw [if_neg (by omega), show m + j - m = j by omega, show l + (m + j) = l + m + j by omega] at this
      rw [t2 j hj]
      exact this
  rw [e1, S.sp f, sp_lr (fun q hq => by rw [hsl q hq]; omega)]
  constructor
  · rintro ⟨⟨z, h1, h2⟩, _⟩
    have two : ∀ j, j < m → eq p (cs A (l + j) z) (cs B j (sh A.length z)) := fun j hj => by
      have := h2 j (by omega)
      unfold cat2 at this
      rw [if_pos hj, show cs (someR l m r A B) (l + j) z = _ from cs_app _ _ _ _, a2 j hj, b2 j hj, List.length_map] at this
      obtain ⟨c, hc⟩ := this
      have hc' : (0 : Int) - (cs A (l + j) z + -cs B j (sh A.length z)) = p * c := hc
      exact ⟨-c, by rw [Int.mul_neg, ← hc']; omega⟩
    refine ⟨fun j => cs A (l + j) z, ⟨z, fun j hj => ?_, fun j hj => .refl _ _⟩, ⟨sh A.length z, fun j hj => two j hj, fun j hj => ?_⟩⟩
    · have := h1 j hj
      rwa [show cs (someR l m r A B) j z = _ from cs_app _ _ _ _, a1 j hj, b1 j hj, Int.add_zero] at this
    · have := h2 (m + j) (by omega)
      unfold cat2 at this
      rwa [if_neg (by omega), show m + j - m = j by omega, show l + (m + j) = l + m + j by omega, show cs (someR l m r A B) (l + m + j) z = _ from cs_app _ _ _ _, a3 j hj, b3 j hj, Int.zero_add, List.length_map] at this
  · rintro ⟨w, ⟨z, h1, h2⟩, ⟨z', h3, h4⟩⟩
    refine ⟨⟨cat2 A.length z z', fun j hj => ?_, fun j hj => ?_⟩, fz⟩
    · rw [show cs (someR l m r A B) j (cat2 A.length z z') = _ from cs_app _ _ _ _, a1 j hj, b1 j hj, Int.add_zero, cs_cat1]
      exact h1 j hj
    · by_cases hm : j < m
      · rw [show cs (someR l m r A B) (l + j) (cat2 A.length z z') = _ from cs_app _ _ _ _, a2 j hm, b2 j hm, cs_cat1, List.length_map, sh_cat2]
        unfold cat2
        rw [if_pos hm]
        obtain ⟨c, hc⟩ := (h2 j hm).symm.trans (h3 j hm)
        refine ⟨-c, ?_⟩
        show (0 : Int) - (cs A (l + j) z + -cs B j z') = _
        rw [Int.mul_neg, ← hc]
        omega
      · have := h4 (j - m) (by omega)
        rw [show l + j = l + m + (j - m) by omega, show cs (someR l m r A B) (l + m + (j - m)) (cat2 A.length z z') = _ from cs_app _ _ _ _, a3 _ (by omega), b3 _ (by omega), Int.zero_add, List.length_map, sh_cat2]
        unfold cat2
        rw [if_neg hm]
        exact this
theorem lr_box2 {n : Int} {x y : Fn} : SpLR p [[1, n]] 1 1 x y ↔ eq p (y 0) (n * x 0) := by
  constructor
  · rintro ⟨z, h1, h2⟩
    obtain ⟨a, ha⟩ := h1 0 (by omega)
    obtain ⟨b, hb⟩ := h2 0 (by omega)
    have ha' : x 0 - (1 * z 0 + 0) = p * a := ha
    have hb' : y 0 - (n * z 0 + 0) = p * b := hb
    exact ⟨b - n * a, by grind⟩
  · rintro ⟨a, ha⟩
    refine ⟨x, fun j hj => ?_, fun j hj => ?_⟩
    · obtain rfl : j = 0 := by omega
      exact ⟨0, by show x 0 - (1 * x 0 + 0) = _; omega⟩
    · obtain rfl : j = 0 := by omega
      exact ⟨a, by show y 0 - (n * x 0 + 0) = _; omega⟩
theorem lt2 {j : Nat} (h : j < 2) : j = 0 ∨ j = 1 := by omega
/-- the rows that the law works out span just what the drawing lets by -/
theorem rows_ok (pp : p ∈ primesL) : ∀ {d : Dr}, d.wf p → Bw.Rws p (d.l + d.r) (d.rows p) ∧ (d.rows p).length ≤ d.l + d.r ∧ ∀ x y : Fn, LetN p d x y ↔ SpLR p (d.rows p) d.l d.r x y := by
  have p2 : 2 ≤ p := (prime_pos p pp).1
  have box : ∀ {q : List Int}, (∀ x ∈ q, x = 0 ∨ x = 1) → ∀ x ∈ q, 0 ≤ x ∧ x < p := fun h x hx => by rcases h x hx with h | h <;> omega
  intro d
  induction d with
  | id =>
    intro _
    refine ⟨fun q hq => ?_, (by show 1 ≤ 2; decide), fun x y => (Iff.trans ?_ lr_box2.symm)⟩
    · obtain rfl := (List.mem_singleton.mp hq)
      exact ⟨rfl, box (by simp)⟩
    · show eq p (y 0) (x 0) ↔ _
      rw [Int.one_mul]
  | times n =>
    intro h
    refine ⟨fun q hq => ?_, (by show 1 ≤ 2; decide), fun x y => lr_box2.symm⟩
    obtain rfl := List.mem_singleton.mp hq
    refine ⟨rfl, fun x hx => ?_⟩
    have h0 : 0 ≤ n ∧ n < p := h
    rcases (List.mem_cons.mp hx) with (rfl | hx)
    · omega
    · obtain rfl := List.mem_singleton.mp hx
      exact h0
  | swap =>
    intro _
    refine ⟨fun q hq => ?_, by show 2 ≤ 4; decide, fun x y => ⟨?_, ?_⟩⟩
    · rcases (List.mem_cons.mp hq) with (rfl | hq)
      · exact ⟨rfl, box (by simp)⟩
      · obtain rfl := (List.mem_singleton.mp hq)
        exact ⟨rfl, box (by simp)⟩
    · rintro ⟨⟨a, ha⟩, ⟨b, hb⟩⟩
      refine ⟨x, fun j hj => ?_, fun j hj => ?_⟩
      · rcases lt2 hj with rfl | rfl
        · exact ⟨0, by show x 0 - (1 * x 0 + (0 * x (1 + 0) + 0)) = _; simp⟩
        · exact ⟨0, by show x 1 - (0 * x 0 + (1 * x (1 + 0) + 0)) = _; simp⟩
      · rcases lt2 hj with rfl | rfl
        · exact ⟨a, by show y 0 - (0 * x 0 + (1 * x (1 + 0) + 0)) = _; rw [show (1 + 0) = 1 from rfl]; omega⟩
        · exact ⟨b, by show y 1 - (1 * x 0 + (0 * x (1 + 0) + 0)) = _; omega⟩
    · rintro ⟨z, h1, h2⟩
      obtain ⟨a, ha⟩ := h1 0 (by decide)
      obtain ⟨b, hb⟩ := h1 1 (by decide)
      obtain ⟨c, hc⟩ := h2 0 (by decide)
      obtain ⟨e, he⟩ := h2 1 (by decide)
      have ha' : x 0 - (1 * z 0 + (0 * z (1 + 0) + 0)) = p * a := ha
      have hb' : x 1 - (0 * z 0 + (1 * z (1 + 0) + 0)) = p * b := hb
      have hc' : y 0 - (0 * z 0 + (1 * z (1 + 0) + 0)) = p * c := hc
      have he' : y 1 - (1 * z 0 + (0 * z (1 + 0) + 0)) = p * e := he
      exact ⟨⟨c - b, by rw [Int.mul_sub]; omega⟩, ⟨e - a, by rw [Int.mul_sub]; omega⟩⟩
  | copy =>
    intro _
    refine ⟨fun q hq => ?_, by show 1 ≤ 3; decide, fun x y => ⟨?_, ?_⟩⟩
    · obtain rfl := (List.mem_singleton.mp hq)
      exact ⟨rfl, box (by simp)⟩
    · rintro ⟨⟨a, ha⟩, ⟨b, hb⟩⟩
      refine ⟨x, fun j hj => ?_, fun j hj => ?_⟩
      · obtain rfl : j = 0 := by have : j < 1 := hj; omega
        exact ⟨0, by show x 0 - (1 * x 0 + 0) = _; omega⟩
      · rcases lt2 hj with rfl | rfl
        · exact ⟨a, by show y 0 - (1 * x 0 + 0) = _; omega⟩
        · exact ⟨b, by show y 1 - (1 * x 0 + 0) = _; omega⟩
    · rintro ⟨z, h1, h2⟩
      obtain ⟨a, ha⟩ := h1 0 (by decide)
      obtain ⟨c, hc⟩ := h2 0 (by decide)
      obtain ⟨e, he⟩ := h2 1 (by decide)
      have ha' : x 0 - (1 * z 0 + 0) = p * a := ha
      have hc' : y 0 - (1 * z 0 + 0) = p * c := hc
      have he' : y 1 - (1 * z 0 + 0) = p * e := he
      exact ⟨⟨c - a, by rw [Int.mul_sub]; omega⟩, ⟨e - a, by rw [Int.mul_sub]; omega⟩⟩
  | fin =>
    intro _
    refine ⟨fun q hq => ?_, by show 1 ≤ 1; decide, fun x y => ⟨fun _ => ⟨x, fun j hj => ?_, fun j hj => absurd hj (by show ¬ j < 0; omega)⟩, fun _ => trivial⟩⟩
    · obtain rfl := (List.mem_singleton.mp hq)
      exact ⟨rfl, box (by simp)⟩
    · obtain rfl : j = 0 := by have : j < 1 := hj; omega
      exact ⟨0, by show x 0 - (1 * x 0 + 0) = _; omega⟩
  | add =>
    intro _
    refine ⟨fun q hq => ?_, by show 2 ≤ 3; decide, fun x y => ⟨?_, ?_⟩⟩
    · rcases (List.mem_cons.mp hq) with (rfl | hq)
      · exact ⟨rfl, box (by simp)⟩
      · obtain rfl := (List.mem_singleton.mp hq)
        exact ⟨rfl, box (by simp)⟩
    · rintro ⟨a, ha⟩
      refine ⟨x, fun j hj => ?_, fun j hj => ?_⟩
      · rcases lt2 hj with rfl | rfl
        · exact ⟨0, by show x 0 - (1 * x 0 + (0 * x (1 + 0) + 0)) = _; simp⟩
        · exact ⟨0, by show x 1 - (0 * x 0 + (1 * x (1 + 0) + 0)) = _; simp⟩
      · obtain rfl : j = 0 := by have : j < 1 := hj; omega
        exact ⟨a, by show y 0 - (1 * x 0 + (1 * x (1 + 0) + 0)) = _; rw [show (1 + 0) = 1 from rfl]; omega⟩
    · rintro ⟨z, h1, h2⟩
      obtain ⟨a, ha⟩ := h1 0 (by decide)
      obtain ⟨b, hb⟩ := h1 1 (by decide)
      obtain ⟨c, hc⟩ := h2 0 (by decide)
      have ha' : x 0 - (1 * z 0 + (0 * z (1 + 0) + 0)) = p * a := ha
      have hb' : x 1 - (0 * z 0 + (1 * z (1 + 0) + 0)) = p * b := hb
      have hc' : y 0 - (1 * z 0 + (1 * z (1 + 0) + 0)) = p * c := hc
      exact ⟨c - a - b, by rw [Int.mul_sub, Int.mul_sub]; omega⟩
  | none =>
    intro _
    refine ⟨fun q hq => (nomatch hq), by show 0 ≤ 1; decide, fun x y => ⟨fun h => ⟨x, fun j hj => absurd hj (by show ¬ j < 0; omega), fun j hj => ?_⟩, fun ⟨z, _, h2⟩ => h2 0 (by decide)⟩⟩
    obtain rfl : j = 0 := by have : j < 1 := hj; omega
    exact h
  | cup =>
    intro _
    refine ⟨fun q hq => ?_, by show 1 ≤ 2; decide, fun x y => ⟨?_, ?_⟩⟩
    · obtain rfl := (List.mem_singleton.mp hq)
      exact ⟨rfl, box (by simp)⟩
    · rintro ⟨a, ha⟩
      refine ⟨y, fun j hj => absurd hj (by show ¬ j < 0; omega), fun j hj => ?_⟩
      rcases lt2 hj with rfl | rfl
      · exact ⟨0, by show y 0 - (1 * y 0 + 0) = _; omega⟩
      · exact ⟨a, by show y 1 - (1 * y 0 + 0) = _; omega⟩
    · rintro ⟨z, _, h2⟩
      obtain ⟨c, hc⟩ := h2 0 (by decide)
      obtain ⟨e, he⟩ := h2 1 (by decide)
      have hc' : y 0 - (1 * z 0 + 0) = p * c := hc
      have he' : y 1 - (1 * z 0 + 0) = p * e := he
      exact ⟨e - c, by rw [Int.mul_sub]; omega⟩
  | empty =>
    intro _
    exact ⟨fun q hq => (nomatch hq), by show 0 ≤ 0; decide, fun x y => ⟨fun h => ⟨x, fun j hj => absurd hj (by show ¬ j < 0; omega), fun j hj => absurd hj (by show ¬ j < 0; omega)⟩, fun _ => trivial⟩⟩
  | back d ih =>
    intro h
    obtain ⟨i1, i2, i3⟩ := ih h
    refine ⟨fun q0 hq0 => ?_, ?_, fun x y => ?_⟩
    · obtain ⟨q, hq, rfl⟩ := List.mem_map.mp hq0
      obtain ⟨j1, j2⟩ := i1 q hq
      refine ⟨?_, fun x hx => ?_⟩
      · show (backR d.l q).length = d.r + d.l
        simp only [backR, List.length_append, List.length_drop, List.length_take]
        omega
      · rcases (List.mem_append.mp hx) with (hx | hx)
        · exact j2 x (List.mem_of_mem_drop hx)
        · exact j2 x (List.mem_of_mem_take hx)
    · show ((d.rows p).map _).length ≤ d.r + d.l
      rw [List.length_map]
      omega
    · exact (i3 y x).trans (lr_back (fun q hq => (i1 q hq).1) x y).symm
  | beside a b iha ihb =>
    intro h
    obtain ⟨i1, i2, i3⟩ := iha h.1
    obtain ⟨j1, j2, j3⟩ := ihb h.2
    refine ⟨fun q0 hq0 => ?_, ?_, fun x y => ?_⟩
    · rcases (List.mem_append.mp hq0) with (hq1 | hq1)
      · obtain ⟨q, hq, rfl⟩ := List.mem_map.mp hq1
        obtain ⟨k1, k2⟩ := i1 q hq
        refine ⟨?_, fun x hx => ?_⟩
        · show (aboR a.l b.l b.r q).length = a.l + b.l + (a.r + b.r)
          simp only [aboR, List.length_append, List.length_drop, List.length_take, List.length_replicate]
          omega
        · unfold aboR at hx
          simp only [List.mem_append, List.mem_replicate] at hx
          rcases hx with ((hx | hx) | hx) | hx
          · exact k2 x (List.mem_of_mem_take hx)
          · omega
          · exact k2 x (List.mem_of_mem_drop hx)
          · omega
      · obtain ⟨q, hq, rfl⟩ := List.mem_map.mp hq1
        obtain ⟨k1, k2⟩ := j1 q hq
        refine ⟨?_, fun x hx => ?_⟩
        · show (belR a.l a.r b.l q).length = a.l + b.l + (a.r + b.r)
          simp only [belR, List.length_append, List.length_drop, List.length_take, List.length_replicate]
          omega
        · unfold belR at hx
          simp only [List.mem_append, List.mem_replicate] at hx
          rcases hx with ((hx | hx) | hx) | hx
          · omega
          · exact k2 x (List.mem_of_mem_take hx)
          · omega
          · exact k2 x (List.mem_of_mem_drop hx)
    · show (((a.rows p).map _) ++ ((b.rows p).map _)).length ≤ a.l + b.l + (a.r + b.r)
      rw [List.length_append, List.length_map, List.length_map]
      omega
    · show LetN p a x y ∧ LetN p b (sh a.l x) (sh a.r y) ↔ _
      rw [i3, j3]
      exact (lr_beside (fun q hq => (i1 q hq).1) (fun q hq => (j1 q hq).1) x y).symm
  | thn a b iha ihb =>
    intro h
    obtain ⟨i1, i2, i3⟩ := iha h.1
    obtain ⟨j1, j2, j3⟩ := ihb h.2.1
    have e : b.l = a.r := h.2.2.symm
    rw [e] at j1 j3
    have R := redM_ok pp (thin_rws pp i1 j1)
    have er : Dr.rows p (.thn a b) = redM p (thinR p a.l a.r b.r (a.rows p) (b.rows p)) := then_red pp i1 j1
    refine ⟨?_, ?_, fun x y => ?_⟩
    · rw [er]
      exact R.rws
    · rw [er, ← cl_redM pp (thin_rws pp i1 j1)]
      exact (cl_red pp (thin_rws pp i1 j1) (a.l + b.r) (Nat.le_refl _)).len (Nat.le_refl _)
    · show (∃ z, LetN p a x z ∧ LetN p b z y) ↔ _
      simp only [i3, j3]
      exact (lr_then pp i1 j1 x y).symm
end
end D1
namespace D1
open Bw
/-! ### no part of what is drawn has many wires -/
namespace Dr
noncomputable def nar (B : Nat) : Dr → Prop
  | back d => d.nar B
  | beside a b => a.nar B ∧ b.nar B ∧ a.l + b.l + (a.r + b.r) ≤ B
  | thn a b => a.nar B ∧ b.nar B ∧ a.l + b.r ≤ B
  | _ => True
end Dr
theorem nar_le {B : Nat} (h4 : 4 ≤ B) : ∀ {d : Dr}, d.nar B → d.l + d.r ≤ B
  | .id, _ => by show 1 + 1 ≤ B; omega
  | .swap, _ => by show 2 + 2 ≤ B; omega
  | .copy, _ => by show 1 + 2 ≤ B; omega
  | .fin, _ => by show 1 + 0 ≤ B; omega
  | .add, _ => by show 2 + 1 ≤ B; omega
  | .none, _ => by show 0 + 1 ≤ B; omega
  | .cup, _ => by show 0 + 2 ≤ B; omega
  | .empty, _ => by show 0 + 0 ≤ B; omega
  | .times _, _ => by show 1 + 1 ≤ B; omega
  | .back d, h => by have : d.l + d.r ≤ B := nar_le h4 (d := d) h; show d.r + d.l ≤ B; omega
  | .beside _ _, h => h.2.2
  | .thn _ _, h => h.2.2
section
variable {B : Nat}
theorem straight_nar : ∀ n, 2 * n ≤ B → (straightD n).nar B
  | 0, _ => trivial
  | 1, _ => trivial
  | n + 2, h => by
    refine ⟨straight_nar (n + 1) (by omega), trivial, ?_⟩
    show (straightD (n + 1)).sides.1 + 1 + ((straightD (n + 1)).sides.2 + 1) ≤ B
    rw [straight_sides]
    show n + 1 + 1 + (n + 1 + 1) ≤ B
    omega
theorem cross_nar (a b : Nat) (ha : 1 ≤ a) (hb : 1 ≤ b) (h : 2 * (a + b) ≤ B) : (crossD a b).nar B := by
  induction a, b using crossD.induct with
  | case1 a b h1 ih =>
    unfold crossD
    rw [if_pos h1]
    exact ih hb ha (by omega)
  | case2 a b h1 h2 =>
    unfold crossD
    rw [if_neg h1, if_pos h2]
    trivial
  | case3 a b h1 h2 ih1 ih2 =>
    unfold crossD
    rw [if_neg h1, if_neg h2]
    have c1 := cross_sides (a - a / 2) b (by omega) hb
    have c2 := cross_sides (a / 2) b (by omega) hb
    refine ⟨⟨straight_nar _ (by omega), ih1 (by omega) hb (by omega), ?_⟩, ⟨ih2 (by omega) hb (by omega), straight_nar _ (by omega), ?_⟩, ?_⟩
    · show (straightD (a / 2)).sides.1 + (crossD (a - a / 2) b).sides.1 + ((straightD (a / 2)).sides.2 + (crossD (a - a / 2) b).sides.2) ≤ B
      rw [straight_sides, c1]
      show a / 2 + (a - a / 2 + b) + (a / 2 + (b + (a - a / 2))) ≤ B
      omega
    · show (crossD (a / 2) b).sides.1 + (straightD (a - a / 2)).sides.1 + ((crossD (a / 2) b).sides.2 + (straightD (a - a / 2)).sides.2) ≤ B
      rw [straight_sides, c2]
      show a / 2 + b + (a - a / 2) + (b + a / 2 + (a - a / 2)) ≤ B
      omega
    · show (straightD (a / 2)).sides.1 + (crossD (a - a / 2) b).sides.1 + ((crossD (a / 2) b).sides.2 + (straightD (a - a / 2)).sides.2) ≤ B
      rw [straight_sides, straight_sides, c1, c2]
      show a / 2 + (a - a / 2 + b) + (b + a / 2 + (a - a / 2)) ≤ B
      omega
theorem inside_nar (a c e b : Nat) (hc : 1 ≤ c) (he : 1 ≤ e) (h : 2 * (a + c + e + b) ≤ B) : (insideD a (crossD c e) b).nar B ∧ (insideD a (crossD c e) b).sides = (a + (c + e + b), a + (e + c + b)) := by
  have c1 := cross_sides c e hc he
  have s : (insideD a (crossD c e) b).sides = (a + (c + e + b), a + (e + c + b)) := by
    show ((straightD a).sides.1 + ((crossD c e).sides.1 + (straightD b).sides.1), (straightD a).sides.2 + ((crossD c e).sides.2 + (straightD b).sides.2)) = _
    rw [straight_sides, straight_sides, c1]
  refine ⟨⟨straight_nar _ (by omega), ⟨cross_nar _ _ hc he (by omega), straight_nar _ (by omega), ?_⟩, ?_⟩, s⟩
  · show (crossD c e).sides.1 + (straightD b).sides.1 + ((crossD c e).sides.2 + (straightD b).sides.2) ≤ B
    rw [straight_sides, c1]
    show c + e + b + (e + c + b) ≤ B
    omega
  · show (insideD a (crossD c e) b).sides.1 + (insideD a (crossD c e) b).sides.2 ≤ B
    rw [s]
    show a + (c + e + b) + (a + (e + c + b)) ≤ B
    omega
theorem copy_nar (n : Nat) (hn : 1 ≤ n) (h : 4 * n ≤ B) : (copyD n).nar B := by
  induction n using copyD.induct with
  | case1 n h1 =>
    unfold copyD
    rw [if_pos h1]
    trivial
  | case2 n h1 ih1 ih2 =>
    unfold copyD
    rw [if_neg h1]
    have s1 := copy_sides (n / 2) (by omega)
    have s2 := copy_sides (n - n / 2) (by omega)
    have i := inside_nar (B := B) (n / 2) (n / 2) (n - n / 2) (n - n / 2) (by omega) (by omega) (by omega)
    refine ⟨⟨ih1 (by omega) (by omega), ih2 (by omega) (by omega), ?_⟩, i.1, ?_⟩
    · show (copyD (n / 2)).sides.1 + (copyD (n - n / 2)).sides.1 + ((copyD (n / 2)).sides.2 + (copyD (n - n / 2)).sides.2) ≤ B
      rw [s1, s2]
      show n / 2 + (n - n / 2) + (n / 2 + n / 2 + (n - n / 2 + (n - n / 2))) ≤ B
      omega
    · show (copyD (n / 2)).sides.1 + (copyD (n - n / 2)).sides.1 + (insideD (n / 2) (crossD (n / 2) (n - n / 2)) (n - n / 2)).sides.2 ≤ B
      rw [s1, s2, i.2]
      show n / 2 + (n - n / 2) + (n / 2 + (n - n / 2 + n / 2 + (n - n / 2))) ≤ B
      omega
theorem add_nar (n : Nat) (hn : 1 ≤ n) (h : 4 * n ≤ B) : (addD n).nar B := by
  induction n using addD.induct with
  | case1 n h1 =>
    unfold addD
    rw [if_pos h1]
    trivial
  | case2 n h1 ih1 ih2 =>
    unfold addD
    rw [if_neg h1]
    have s1 := add_sides (n / 2) (by omega)
    have s2 := add_sides (n - n / 2) (by omega)
    have i := inside_nar (B := B) (n / 2) (n - n / 2) (n / 2) (n - n / 2) (by omega) (by omega) (by omega)
    refine ⟨i.1, ⟨ih1 (by omega) (by omega), ih2 (by omega) (by omega), ?_⟩, ?_⟩
    · show (addD (n / 2)).sides.1 + (addD (n - n / 2)).sides.1 + ((addD (n / 2)).sides.2 + (addD (n - n / 2)).sides.2) ≤ B
      rw [s1, s2]
      show n / 2 + n / 2 + (n - n / 2 + (n - n / 2)) + (n / 2 + (n - n / 2)) ≤ B
      omega
    · show (insideD (n / 2) (crossD (n - n / 2) (n / 2)) (n - n / 2)).sides.1 + ((addD (n / 2)).sides.2 + (addD (n - n / 2)).sides.2) ≤ B
      rw [s1, s2, i.2]
      show n / 2 + (n - n / 2 + n / 2 + (n - n / 2)) + (n / 2 + (n - n / 2)) ≤ B
      omega
theorem single_nar (sums : List (List Int)) (count : Nat) : (singleD sums count).nar B := by
  unfold singleD
  split
  · split <;> trivial
  · split
    · trivial
    · split <;> trivial
theorem sumF_nar {p : Int} : ∀ (n : Nat) (sums : List (List Int)) (count : Nat), count + sums.length ≤ n → count < 9 → sums.length < 9 → Rws p sums count → (sumF n sums count).nar 64
  | 0, sums, count, hn, _, _, _ => by
    unfold sumF
    exact single_nar _ _
  | n + 1, sums, count, hn, hc, hl, h => by
    unfold sumF
    by_cases ho : isOne sums count
    · rw [if_pos ho]; exact single_nar _ _
    rw [if_neg ho]
    have h2 : 2 ≤ count + sums.length := by unfold isOne at ho; omega
    match hs : seamOf sums count with
    | some (k, t) =>
      obtain ⟨hk, ht, hcut⟩ := seam_some hs
      unfold isCut at hcut
      rw [Bool.and_eq_true, Bool.and_eq_true, decide_eq_true_iff, decide_eq_true_iff] at hcut
      obtain ⟨⟨c1, c2⟩, c3⟩ := hcut
      have e1 : ((sums.take t).map (·.take k)).length = t := by simp; omega
      have e2 : ((sums.drop t).map (·.drop k)).length = sums.length - t := by simp
      have r1 := (h.sub fun r hr => List.mem_of_mem_take (i := t) hr).take hk
      have r2 : Rws p ((sums.drop t).map (·.drop k)) (count - k) := Rws.drop (h.sub fun r hr => List.mem_of_mem_drop hr)
      have i1 := sumF_nar n ((sums.take t).map (·.take k)) k (by omega) (by omega) (by omega) r1
      have i2 := sumF_nar n ((sums.drop t).map (·.drop k)) (count - k) (by omega) (by omega) (by omega) r2
      have s1 := (sumF_ok n _ k (by omega) r1).1.1
      have s2 := (sumF_ok n _ (count - k) (by omega) r2).1.1
      rw [e1] at s1
      rw [e2] at s2
      refine ⟨i1, i2, ?_⟩
      show (sumF n ((sums.take t).map (·.take k)) k).sides.1 + (sumF n ((sums.drop t).map (·.drop k)) (count - k)).sides.1 + ((sumF n ((sums.take t).map (·.take k)) k).sides.2 + (sumF n ((sums.drop t).map (·.drop k)) (count - k)).sides.2) ≤ 64
      rw [s1, s2]
      show k + (count - k) + (t + (sums.length - t)) ≤ 64
      omega
    | none =>
      obtain ⟨c1, c2, c3⟩ := no_seam h ho hs
      by_cases hle : count ≤ sums.length
      · show (if _ then _ else _ : Dr).nar 64
        rw [if_pos hle]
        have e1 : (sums.take (sums.length / 2)).length = sums.length / 2 := by simp; omega
        have e2 : (sums.drop (sums.length / 2)).length = sums.length - sums.length / 2 := by simp
        have r1 : Rws p (sums.take (sums.length / 2)) count := h.sub fun r hr => List.mem_of_mem_take hr
        have r2 : Rws p (sums.drop (sums.length / 2)) count := h.sub fun r hr => List.mem_of_mem_drop hr
        have i1 := sumF_nar n (sums.take (sums.length / 2)) count (by omega) hc (by omega) r1
        have i2 := sumF_nar n (sums.drop (sums.length / 2)) count (by omega) hc (by omega) r2
        have s1 := (sumF_ok n _ count (by omega) r1).1.1
        have s2 := (sumF_ok n _ count (by omega) r2).1.1
        have cs := copy_sides count c1
        rw [e1] at s1
        rw [e2] at s2
        refine ⟨copy_nar count c1 (by omega), ⟨i1, i2, ?_⟩, ?_⟩
        · show (sumF n (sums.take (sums.length / 2)) count).sides.1 + (sumF n (sums.drop (sums.length / 2)) count).sides.1 + ((sumF n (sums.take (sums.length / 2)) count).sides.2 + (sumF n (sums.drop (sums.length / 2)) count).sides.2) ≤ 64
          rw [s1, s2]
          show count + count + (sums.length / 2 + (sums.length - sums.length / 2)) ≤ 64
          omega
        · show (copyD count).sides.1 + ((sumF n (sums.take (sums.length / 2)) count).sides.2 + (sumF n (sums.drop (sums.length / 2)) count).sides.2) ≤ 64
          rw [s1, s2, cs]
          show count + (sums.length / 2 + (sums.length - sums.length / 2)) ≤ 64
          omega
      · show (if _ then _ else _ : Dr).nar 64
        rw [if_neg hle]
        have e1 : (sums.map (·.take (count / 2))).length = sums.length := by simp
        have e2 : (sums.map (·.drop (count / 2))).length = sums.length := by simp
        have r1 : Rws p (sums.map (·.take (count / 2))) (count / 2) := h.take (by omega)
        have r2 : Rws p (sums.map (·.drop (count / 2))) (count - count / 2) := h.drop
        have i1 := sumF_nar n (sums.map (·.take (count / 2))) (count / 2) (by omega) (by omega) (by omega) r1
        have i2 := sumF_nar n (sums.map (·.drop (count / 2))) (count - count / 2) (by omega) (by omega) (by omega) r2
        have s1 := (sumF_ok n _ (count / 2) (by omega) r1).1.1
        have s2 := (sumF_ok n _ (count - count / 2) (by omega) r2).1.1
        have as := add_sides sums.length c2
        rw [e1] at s1
        rw [e2] at s2
        refine ⟨⟨i1, i2, ?_⟩, add_nar sums.length c2 (by omega), ?_⟩
        · show (sumF n (sums.map (·.take (count / 2))) (count / 2)).sides.1 + (sumF n (sums.map (·.drop (count / 2))) (count - count / 2)).sides.1 + ((sumF n (sums.map (·.take (count / 2))) (count / 2)).sides.2 + (sumF n (sums.map (·.drop (count / 2))) (count - count / 2)).sides.2) ≤ 64
          rw [s1, s2]
          show count / 2 + (count - count / 2) + (sums.length + sums.length) ≤ 64
          omega
        · show (sumF n (sums.map (·.take (count / 2))) (count / 2)).sides.1 + (sumF n (sums.map (·.drop (count / 2))) (count - count / 2)).sides.1 + (addD sums.length).sides.2 ≤ 64
          rw [s1, s2, as]
          show count / 2 + (count - count / 2) + sums.length ≤ 64
          omega
end
/-! ### reading words from the right: what stands behind the first i words -/
noncomputable abbrev Sta := Option Int × List Dr
noncomputable def numW : Option Int → List Wd
  | some m => [.n m]
  | none => []
noncomputable def wordsS (s : Sta) : List Wd := numW s.1 ++ s.2.flatMap Dr.words
noncomputable def nxt : Sta → Sta
  | (some _, ds) => (none, ds)
  | (none, []) => (none, [])
  | (none, .times n :: ds) => (some n, ds)
  | (none, .back d :: ds) => (none, d :: ds)
  | (none, .beside a b :: ds) => (none, a :: b :: ds)
  | (none, .thn a b :: ds) => (none, a :: b :: ds)
  | (none, _ :: ds) => (none, ds)
noncomputable def stS (s : Sta) : Nat → Sta
  | 0 => s
  | i + 1 => nxt (stS s i)
theorem nxt_words : ∀ s : Sta, wordsS (nxt s) = (wordsS s).drop 1
  | (some m, ds) => rfl
  | (none, []) => rfl
  | (none, .times n :: ds) => rfl
  | (none, .back d :: ds) => rfl
  | (none, .beside a b :: ds) => by simp [nxt, wordsS, numW, Dr.words]
  | (none, .thn a b :: ds) => by simp [nxt, wordsS, numW, Dr.words]
  | (none, .id :: ds) => rfl
  | (none, .swap :: ds) => rfl
  | (none, .copy :: ds) => rfl
  | (none, .fin :: ds) => rfl
  | (none, .add :: ds) => rfl
  | (none, .none :: ds) => rfl
  | (none, .cup :: ds) => rfl
  | (none, .empty :: ds) => rfl
theorem stS_words (s : Sta) : ∀ i, wordsS (stS s i) = (wordsS s).drop i
  | 0 => by rw [List.drop_zero]; rfl
  | i + 1 => by
    show wordsS (nxt (stS s i)) = _
    rw [nxt_words, stS_words s i, List.drop_drop]
theorem words_pos : ∀ d : Dr, 1 ≤ d.words.length := fun d => by cases d <;> simp [Dr.words]
theorem flat_pos : ∀ ds : List Dr, ds.length ≤ (ds.flatMap Dr.words).length
  | [] => Nat.le_refl 0
  | d :: ds => by
    have := flat_pos ds
    have := words_pos d
    rw [List.flatMap_cons, List.length_append, List.length_cons]
    omega
theorem wordsS_nil {s : Sta} (h : wordsS s = []) : s = (none, []) := by
  obtain ⟨m, ds⟩ := s
  unfold wordsS at h
  obtain ⟨h1, h2⟩ := List.append_eq_nil_iff.mp h
  cases m with
  | some m => cases h1
  | none =>
    have := flat_pos ds
    dsimp only at h2
    rw [h2] at this
    rw [List.length_eq_zero_iff.mp (Nat.le_zero.mp this)]
noncomputable def okS (p : Int) (B : Nat) (s : Sta) : Prop := (∀ m, s.1 = some m → 0 ≤ m ∧ m < p) ∧ ∀ d ∈ s.2, d.wf p ∧ d.nar B
theorem nxt_ok {p : Int} {B : Nat} : ∀ s : Sta, okS p B s → okS p B (nxt s) := by
  intro s h
  obtain ⟨m, ds⟩ := s
  have tl : ∀ {d : Dr} {ds : List Dr}, okS p B (none, d :: ds) → okS p B (none, ds) := fun h => ⟨fun m e => (nomatch e), fun d hd => h.2 d (List.mem_cons_of_mem _ hd)⟩
  have hd : ∀ {d : Dr} {ds : List Dr}, okS p B (none, d :: ds) → d.wf p ∧ d.nar B := fun h => h.2 _ List.mem_cons_self
  have cn : ∀ {d : Dr} {ds : List Dr}, d.wf p ∧ d.nar B → okS p B (none, ds) → okS p B (none, d :: ds) := fun a h => ⟨fun m e => (nomatch e), fun d hd => by
    rcases (List.mem_cons.mp hd) with (rfl | hd)
    · exact a
    · exact h.2 d hd⟩
  cases m with
  | some m => exact ⟨fun m e => (nomatch e), h.2⟩
  | none =>
    cases ds with
    | nil => exact h
    | cons d ds =>
      cases d with
      | times n => exact ⟨fun m e => by cases e; exact (hd h).1, (tl h).2⟩
      | back d => exact cn (d := d) ⟨(hd h).1, (hd h).2⟩ (tl h)
      | beside a b => exact cn ⟨(hd h).1.1, (hd h).2.1⟩ (cn ⟨(hd h).1.2, (hd h).2.2.1⟩ (tl h))
      | thn a b => exact cn ⟨(hd h).1.1, (hd h).2.1⟩ (cn ⟨(hd h).1.2.1, (hd h).2.2.1⟩ (tl h))
      | _ => exact tl h
theorem stS_ok {p : Int} {B : Nat} {s : Sta} (h : okS p B s) : ∀ i, okS p B (stS s i)
  | 0 => h
  | i + 1 => nxt_ok _ (stS_ok h i)
theorem wordsS_one (d : Dr) : wordsS (none, [d]) = d.words := by simp [wordsS, numW]
/-- the word at i, and that the states have few drawings -/
theorem stS_at {d : Dr} {i : Nat} : d.words[i]? = (wordsS (stS (none, [d]) i))[0]? := by
  rw [stS_words, wordsS_one, List.getElem?_drop, Nat.add_zero]
theorem stS_end (d : Dr) : stS (none, [d]) d.words.length = (none, []) := wordsS_nil (by rw [stS_words, wordsS_one, List.drop_length])
theorem stS_few (d : Dr) (i : Nat) : (stS (none, [d]) i).2.length ≤ d.words.length := by
  have h := stS_words (none, [d]) i
  rw [wordsS_one] at h
  have e := (congrArg List.length h)
  have f := flat_pos (stS (none, [d]) i).2
  unfold wordsS at e
  rw [List.length_append, List.length_drop] at e
  omega
end D1
namespace L2
open PySem PySem.Spec PyProof.Rows
set_option maxRecDepth 100000
/-! ### list(reversed(a tuple)) -/
namespace Rv
theorem owner : Manifest.owners.lookup (String.ofList ['d', 'e', 's', 'r', 'e', 'v', 'e', 'r'].reverse) = some Manifest.sig_reversed := by kernel_rfl
theorem slInit : Slot "reversed" "__init__" "object.__init__" :=
  .of (owner := "object") (n := "__init__") (by rw [typeLookup_type, builtinLookup_eq_fast]; kernel_rfl) (by decide +kernel) (by decide +kernel) (by decide +kernel) (by first | exact .inl (by decide +kernel) | exact .inr (by decide +kernel)) (by rw [isSubtype_type]; kernel_rfl)
theorem slNext : Slot "reversed" "__next__" "reversed.__next__" :=
  .of (owner := "reversed") (n := "__next__") (by rw [typeLookup_type, builtinLookup_eq_fast]; kernel_rfl) (by decide +kernel) (by decide +kernel) (by decide +kernel) (by first | exact .inl (by decide +kernel) | exact .inr (by decide +kernel)) (by rw [isSubtype_type]; kernel_rfl)
theorem slIter : Slot "reversed" "__iter__" "reversed.__iter__" :=
  .of (owner := "reversed") (n := "__iter__") (by rw [typeLookup_type, builtinLookup_eq_fast]; kernel_rfl) (by decide +kernel) (by decide +kernel) (by decide +kernel) (by first | exact .inl (by decide +kernel) | exact .inr (by decide +kernel)) (by rw [isSubtype_type]; kernel_rfl)
theorem slHint : Slot "reversed" "__length_hint__" "reversed.__length_hint__" :=
  .of (owner := "reversed") (n := "__length_hint__") (by rw [typeLookup_type, builtinLookup_eq_fast]; kernel_rfl) (by decide +kernel) (by decide +kernel) (by decide +kernel) (by first | exact .inl (by decide +kernel) | exact .inr (by decide +kernel)) (by rw [isSubtype_type]; kernel_rfl)
theorem noLen : typeLookup (.type "reversed") "__len__" = pure none := by rw [typeLookup_type, builtinLookup_eq_fast]; kernel_rfl
theorem tupNoRev : typeLookup (.type "tuple") "__reversed__" = pure none := by rw [typeLookup_type, builtinLookup_eq_fast]; kernel_rfl
theorem tupItem : typeLookup (.type "tuple") "__getitem__" = pure (some (.builtin "tuple.__getitem__")) := by rw [typeLookup_type, builtinLookup_eq_fast]; kernel_rfl
theorem enNext : entryFor table "reversed.__next__" = some Builtin.«reversed.__next__» := entryFor_of_tree (by kernel_rfl)
theorem enHint : entryFor table "reversed.__length_hint__" = some Builtin.«reversed.__length_hint__» := entryFor_of_tree (by kernel_rfl)
theorem enIter : entryFor table "reversed.__iter__" = some Builtin.«dict_keyiterator.__iter__» :=
  entryFor_alias (id' := "dict_keyiterator.__iter__") (by kernel_rfl) (by first | decide +kernel | rfl | (unfold String.splitOn; simp +decide [String.splitOnAux])) (by decide +kernel) (by kernel_rfl)
theorem arNext (a : Value) : argsOk "reversed.__next__" ⟨[a], []⟩ := by
  unfold argsOk; rw [signature?_of (id := "reversed.__next__") (n := ['_', '_', 't', 'x', 'e', 'n', '_', '_']) (o := ['d', 'e', 's', 'r', 'e', 'v', 'e', 'r']) (by kernel_rfl) owner]; kernel_rfl
theorem arIter (a : Value) : argsOk "reversed.__iter__" ⟨[a], []⟩ := by
  unfold argsOk; rw [signature?_of (id := "reversed.__iter__") (n := ['_', '_', 'r', 'e', 't', 'i', '_', '_']) (o := ['d', 'e', 's', 'r', 'e', 'v', 'e', 'r']) (by kernel_rfl) owner]; kernel_rfl
theorem arHint (a : Value) : argsOk "reversed.__length_hint__" ⟨[a], []⟩ := by
  unfold argsOk; rw [signature?_of (id := "reversed.__length_hint__") (n := ['_', '_', 't', 'n', 'i', 'h', '_', 'h', 't', 'g', 'n', 'e', 'l', '_', '_']) (o := ['d', 'e', 's', 'r', 'e', 'v', 'e', 'r']) (by kernel_rfl) owner]; kernel_rfl
theorem called : TypeCalled "reversed" "reversed.__new__" "object.__init__" :=
  ⟨by decide +kernel, by decide +kernel, ⟨_, _, F.mro_reversed⟩, F.made_reversed, by decide +kernel, by rw [isSubtype_type]; kernel_rfl, slInit⟩
end Rv
theorem Rv.subTD : isSubtype (.type "tuple") (.type "dict") = pure false := by rw [isSubtype_type]; kernel_rfl
noncomputable def rvRec (t : Addr) (i : Int) : Obj := { cls := .type "reversed", data := .fields #[.ref t, rawInt i] }
theorem mk_rev (t : Addr) (xs : Array Value) (hz : (xs.size : Int) < 2 ^ 63) :
    Meets (Builtin.«reversed.__new__» ⟨[.type "reversed", .ref t], []⟩) (fun _ R s => IsTup s.heap t xs ∧ ∀ tk, R (.ok (.ret (.ref s.heap.objs.size))) { s with heap := s.heap.push (rvRec t ((xs.size : Int) - 1)), toks := tk }) :=
  .of_wp fun prog w A R s hyp => by
    obtain ⟨h, g, dr, tk, os⟩ := s
    obtain ⟨ht, fin⟩ := hyp
    have ty : Shared.TypeIs ⟨h, g, dr, tk, os⟩ (.ref t) "tuple" := by
      obtain ⟨o, ho, hc, _⟩ := ht
      exact ⟨o, ho, hc⟩
    have hsub := F.sub_reversed_self
    have n0 := Rv.subTD
    have n1 := Rv.tupNoRev
    have n2 := Rv.tupItem
    wp_walk using len_tuple ht hz
    exact ⟨_, rfl, fin _⟩
section
variable {prog : Program} {w : World} {A : Around} {E : Value → Shared → Prop} {s : Shared}
theorem call_reversedT {t : Addr} {xs : Array Value} {Q : Value → Shared → Prop} (ht : IsTup s.heap t xs) (hz : (xs.size : Int) < 2 ^ 63)
    (q : ∀ tk, Q (.ref s.heap.objs.size) { s with heap := s.heap.push (rvRec t ((xs.size : Int) - 1)), toks := tk }) : wpAny (model prog w) A (call (.type "reversed") [.ref t]) Q E s :=
  callType_new Rv.called (by decide) (F.typeCall_reversed_1 _) (F.newCall_reversed_1 _) (fun v => F.args_object_init_2 v _) F.entry_reversed_new (mk_rev t xs hz) ⟨ht, fun tk => ⟨⟨_, Heap.get?_push_size _ rfl, rfl⟩, q tk⟩⟩
noncomputable def IsRv (h : Heap) (a t : Addr) (i : Int) : Prop := h.get? a = some (rvRec t i)
theorem rv_next {a t : Addr} {i : Nat} {xs : Array Value} {x : Value} {Q : Option Value → Shared → Prop} (hr : IsRv s.heap a t (i : Int)) (ht : IsTup s.heap t xs) (hx : xs[i]? = some x) (hz : (xs.size : Int) < 2 ^ 63)
    (hQ : ∀ h' tk, IsRv h' a t ((i : Int) - 1) → (∀ b o, b ≠ a → s.heap.get? b = some o → h'.get? b = some o) → Q (some x) { s with heap := h', toks := tk }) : wpAny (model prog w) A (pyNext (.ref a)) Q E s := by
  have ty : s.TypeIs (.ref a) "reversed" := ⟨_, hr, rfl⟩
  have tt : s.TypeIs (.ref t) "tuple" := by
    obtain ⟨o, ho, hc, _⟩ := ht
    exact ⟨o, ho, hc⟩
  refine pyNext_of ty Rv.slNext (wpAny_call_entry Rv.slNext ty Rv.enNext ?_ (Rv.arNext _))
  have hi : i < xs.size := (Array.getElem?_eq_some_iff.mp hx).1
  unfold Builtin.«reversed.__next__»
  refine wpAny_bind (wpAny_of_eq (a := (Value.ref a, [])) rfl ?_)
  dsimp only
  refine wpAny_bind (wpAny_field hr rfl (x := .ref t) rfl ?_)
  refine wpAny_bind (wpAny_field hr rfl (x := rawInt (i : Int)) rfl ?_)
  have pos : ¬ (i : Int) < 0 := by omega
  show wpAny _ _ (ite ((i : Int) < 0) _ _) _ _ s
  rw [if_neg pos]
  refine wpAny_bind (wpAny_specialOf tt Rv.tupItem ?_)
  show wpAny _ _ (if (false = true) then _ else _) _ _ s
  rw [if_neg (by decide)]
  refine wpAny_bind (wpAny_mkInt (wpAny_bind (wpAny_attempt (getItem_tuple (j := i) ht (by omega) (by omega) (by unfold seqIndex?; simp; omega) hx ?_))))
  refine wpAny_bind (wpAny_field hr rfl (x := rawInt (i : Int)) rfl ?_)
  show wpAny _ _ (setField (.ref a) 1 (rawInt ((i : Int) - 1)) >>= _) _ _ _
  refine wpAny_bind (wpAny_setField hr rfl (by simp) ?_)
  refine wpAny_pure ⟨x, rfl, hQ _ _ ?_ fun b o hb e => (Heap.get?_update_other _ _ (Ne.symm hb)).trans e⟩
  exact (Heap.get?_update_self _ hr rfl).trans rfl
theorem rv_end {a t : Addr} {Q : Option Value → Shared → Prop} (hh : A.handled = none) (hr : IsRv s.heap a t (-1))
    (hQ : ∀ h', (∀ b o, b ≠ a → s.heap.get? b = some o → h'.get? b = some o) → Q none { s with heap := h' }) : wpAny (model prog w) A (pyNext (.ref a)) Q E s := by
  obtain ⟨hp, g, d, tk, os⟩ := (s)
  have ty : Shared.TypeIs ⟨hp, g, d, tk, os⟩ (.ref a) "reversed" := ⟨_, hr, rfl⟩
  have hh' : A.in1.handled = none := hh
  refine pyNext_of ty Rv.slNext (wpAny_call_entry Rv.slNext ty Rv.enNext ?_ (Rv.arNext _))
  wp_walk using AutoSeq1.wpAny_loadPart' hr
  unfold raiseNew
  refine wpAny_bind (wpAny_handled (hh'.symm ▸ ?_))
  refine wpAny_bind (wpAny_pure (wpAny_throw ⟨_, _, rfl, Heap.get?_push_size _ rfl, rfl, hQ _ fun b o hb e => ?_⟩))
  exact Heap.get?_push_of_some _ (Heap.get?_push_of_some _ ((Heap.get?_update_other _ _ (Ne.symm hb)).trans ((Heap.get?_update_other _ _ (Ne.symm hb)).trans e)))
theorem rv_iter {a t : Addr} {i : Int} {Q : Value → Shared → Prop} (hr : IsRv s.heap a t i) (h : Q (.ref a) s) : wpAny (model prog w) A (pyIter (.ref a)) Q E s := by
  have ty : s.TypeIs (.ref a) "reversed" := ⟨_, hr, rfl⟩
  refine wpAny_pyIter_slot ty Rv.slIter (wpAny_call_entry Rv.slIter ty Rv.enIter ?_ (Rv.arIter _))
  show wpAny _ _ (ret (Value.ref a)) _ _ _
  exact wpAny_pure ⟨_, rfl, "reversed", _, ty, Rv.slNext.lookup, h⟩
theorem Rv.asI (n : Int) (tk : Tok) : asInt? (Value.int n tk) = pure (some n) := rfl
theorem rv_hint {a t : Addr} {xs : Array Value} {Q : Bool → Shared → Prop} (hr : IsRv s.heap a t ((xs.size : Int) - 1)) (ht : IsTup s.heap t xs) (hz : xs.size ≤ sizeLine)
    (h : ∀ tk, Q ((xs.size : Int) != 0) { s with toks := tk }) : wpAny (model prog w) A (Builtin.List.listLengthHint (.ref a)) Q E s := by
  have ty : s.TypeIs (.ref a) "reversed" := ⟨_, hr, rfl⟩
  refine wpAny_bind (wpAny_specialOf ty Rv.noLen ?_)
  show wpAny _ _ (specialOf (Value.ref a) (Str.ofString "__length_hint__") >>= _) _ _ _
  refine wpAny_bind (wpAny_specialOf ty Rv.slHint.lookup ?_)
  have hs : splitId "reversed.__length_hint__" = some ("reversed", "__length_hint__") := by kernel_rfl
  dsimp only
  rw [hs]
  refine wpAny_bind (wpAny_isInstance (T := "reversed") (b := true) ty F.sub_reversed_self ?_)
  rw [if_neg (by decide), if_neg (by decide +kernel)]
  refine wpAny_bind (wpAny_rule ?_)
  refine wpAny_bind (wpAny_of_eq (Rv.slHint.bind _) ?_)
  dsimp only
  refine wpAny_bind (wpAny_attempt (wpAny_call_entry Rv.slHint ty Rv.enHint ?_ (Rv.arHint _)))
  unfold Builtin.«reversed.__length_hint__»
  refine wpAny_bind (wpAny_of_eq (a := Value.ref a) rfl ?_)
  refine wpAny_bind (wpAny_field hr rfl (x := .ref t) rfl ?_)
  have some_ : ¬ (Value.ref t == Value.none) = true := Bool.false_ne_true
  rw [if_neg some_]
  have z63 : (sizeLine : Int) < 2 ^ 63 := by decide
  refine wpAny_bind (len_tuple ht (by omega) ?_)
  refine wpAny_bind (wpAny_of_eq (a := some (xs.size : Int)) rfl ?_)
  dsimp only
  refine wpAny_bind (wpAny_field hr rfl (x := rawInt ((xs.size : Int) - 1)) rfl ?_)
  show wpAny _ _ (if (xs.size : Int) < (xs.size : Int) - 1 + 1 then _ else _) _ _ _
  rw [if_neg (by omega)]
  refine wpAny_bind (wpAny_mkInt (?_))
  refine (wpAny_pure ⟨_, rfl, ?_⟩)
  have e1 : (xs.size : Int) - 1 + 1 = (xs.size : Int) := by omega
  rw [e1]
  show wpAny _ _ (asInt? (Value.int (xs.size : Int) _) >>= _) _ _ _
  rw [Rv.asI, pure_bind]
  dsimp only
  rw [if_neg (by
    have : Builtin.List.listFitsIndex (xs.size : Int) = true := fitsIndex_both (by omega) (by omega)
    rw [this]; decide), if_neg (by omega), if_neg (by
    rw [Int.toNat_natCast, notLongL hz]; decide)]
  exact wpAny_pure (h _)
end
theorem ne_cls {h : Heap} {a b : Addr} {o o' : Obj} (e1 : h.get? a = some o) (e2 : h.get? b = some o') (hc : o.cls ≠ o'.cls) : a ≠ b := fun e => by
  subst e
  rw [e1] at e2
  exact hc (congrArg Obj.cls (Option.some.inj e2))
theorem rv_walks {prog : Program} {w : World} {A : Around} (hh : A.handled = none) (I t : Addr) (hne : t ≠ I) (xs : Array Value) (hz : xs.size ≤ sizeLine) :
    Walks prog w A I [I, t] [I] xs.size (fun i v => xs[xs.size - 1 - i]? = some v) (fun i h => i ≤ xs.size ∧ IsRv h I t ((xs.size : Int) - 1 - (i : Int)) ∧ IsTup h t xs) where
  sub := fun b hb => List.mem_cons.mpr (.inl (List.mem_singleton.mp hb))
  frame := fun _ _ _ x hk => ⟨x.1, hk I (by simp) _ x.2.1, by
    obtain ⟨o, ho, r⟩ := x.2.2
    exact ⟨o, hk t (by simp) o ho, r⟩⟩
  item := fun i s Q E hi (x : _ ∧ _ ∧ _) hQ => by
    have z63 : (sizeLine : Int) < 2 ^ 63 := by decide
    have e : (xs.size : Int) - 1 - (i : Int) = ((xs.size - 1 - i : Nat) : Int) := by omega
    have hit := x.2.1
    rw [e] at hit
    have hx : xs[xs.size - 1 - i]? = some (xs[xs.size - 1 - i]'(by omega)) := Array.getElem?_eq_getElem (by omega)
    refine rv_next hit x.2.2 hx (by omega) fun h' tk hit' hs' => ?_
    have e2 : ((xs.size - 1 - i : Nat) : Int) - 1 = (xs.size : Int) - 1 - ((i + 1 : Nat) : Int) := by omega
    rw [e2] at hit'
    refine hQ _ h' tk hx ⟨hi, hit', ?_⟩ fun b o hb eo => hs' b o (fun h => hb (by simp [h])) eo
    obtain ⟨o, ho, r⟩ := x.2.2
    exact ⟨o, hs' t o hne ho, r⟩
  done := fun s Q E x hQ => by
    have e : (xs.size : Int) - 1 - (xs.size : Int) = -1 := by omega
    have hit := x.2.1
    rw [e] at hit
    exact rv_end hh hit fun h' he' => hQ h' s.toks fun b o hb eo => he' b o (fun h => hb (by simp [h])) eo
  self := fun _ _ _ _ x hQ => rv_iter x.2.1 hQ
section
variable {prog : Program} {w : World} {A : Around} {E : Value → Shared → Prop} {s : Shared} {R : Result → Shared → Prop}
/-- at a heap where the new list is empty, the reversed tuple is taken over -/
theorem rv_fill (hh : A.handled = none) {I t S : Addr} {xs : Array Value} (hz : xs.size ≤ sizeLine) {c tk : Nat} {h : Heap} (hr : IsRv h I t ((xs.size : Int) - 1)) (ht : IsTup h t xs) (hS : h.get? S = some { cls := .type "list", data := .seq #[] c })
    (hR : ∀ h' tk acc c', (∀ b o, b ≠ S → b ≠ I → h.get? b = some o → h'.get? b = some o) → h'.get? S = some { cls := .type "list", data := .seq acc c' } → ItemsOf (fun i v => xs[xs.size - 1 - i]? = some v) acc xs.size → R (.ok (.ret .none)) { s with heap := h', toks := tk }) :
    codeAny (model prog w) A (.builtin "list.extend.loop" ⟨[.ref S, .ref I, .none], []⟩) R { s with heap := h, toks := tk } := by
  obtain ⟨o, ho, hc, hd⟩ := id ht
  have far : S ∉ [I, t] := by
    have n1 : S ≠ I := ne_cls hS hr (show Value.type "list" ≠ Value.type "reversed" by decide)
    have n2 : S ≠ t := ne_cls hS ho (by rw [hc]; exact (show Value.type "list" ≠ Value.type "tuple" by decide))
    simp [n1, n2]
  have W := (rv_walks (prog := prog) (w := w) (A := A.in1) hh I t (ne_cls ho hr (by rw [hc]; exact (show Value.type "tuple" ≠ Value.type "reversed" by decide))) xs hz).toS
  have at0 : IsRv h I t ((xs.size : Int) - 1 - ((0 : Nat) : Int)) := by simpa using hr
  refine codeAny_extend_loopS W hz S far .none xs.size 0 _ #[] c rfl (Nat.zero_le _) ⟨Nat.zero_le _, at0, ht⟩ hS (ItemsOf.nil _) fun s' acc c' mv eS items => ?_
  rw [Moved.eq_with mv]
  refine hR s'.heap s'.toks acc c' (fun b o hb hi e => mv.heap b o (fun z => ?_) e) eS items
  simp only [List.mem_cons, List.not_mem_nil, or_false] at z
  exact z.elim hb hi
theorem rv_init (hh : A.handled = none) {I t S : Addr} {xs : Array Value} (hz : xs.size ≤ sizeLine) (hr : IsRv s.heap I t ((xs.size : Int) - 1)) (ht : IsTup s.heap t xs) (hS : s.heap.get? S = some { cls := .type "list", data := .seq #[] })
    (hR : ∀ h' tk acc c', (∀ b o, b ≠ S → b ≠ I → s.heap.get? b = some o → h'.get? b = some o) → h'.get? S = some { cls := .type "list", data := .seq acc c' } → ItemsOf (fun i v => xs[xs.size - 1 - i]? = some v) acc xs.size → R (.ok (.ret .none)) { s with heap := h', toks := tk }) :
    wpAny (model prog w) A.in1 (Builtin.«list.__init__» ⟨[Value.ref S, Value.ref I], []⟩)
      (fun e s' => match e with
        | .done v => R (.ok v) s'
        | .again c => c.quiet = true ∧ codeAny (model prog w) A c R s') (fun e s' => R (.error e) s') s := by
  obtain ⟨hp, g, d, tk, os⟩ := (s)
  obtain ⟨o, ho, hc, hd⟩ := id ht
  have n1 : S ≠ I := ne_cls hS hr (show Value.type "list" ≠ Value.type "reversed" by decide)
  have n2 : S ≠ t := ne_cls hS ho (by rw [hc]; exact (show Value.type "list" ≠ Value.type "tuple" by decide))
  have keep : ∀ {h : Heap} {f : Obj → Obj} {b : Addr} {o : Obj}, b ≠ S → h.get? b = some o → (h.update S f).get? b = some o := fun hb e => (Heap.get?_update_other _ _ (Ne.symm hb)).trans e
  wp_walk using AutoSeq1.wpAny_loadPart' hS
  have hS1 := Heap.get?_update_self (Obj.mapSeq fun _ : Array Value => (#[] : Array Value)) hS rfl
  have hr1 : IsRv (hp.update S (Obj.mapSeq fun _ => #[])) I t ((xs.size : Int) - 1) := keep (Ne.symm n1) hr
  have ht1 : IsTup (hp.update S (Obj.mapSeq fun _ => #[])) t xs := ⟨o, keep (Ne.symm n2) ho, hc, hd⟩
  have k1 : ∀ b o, b ≠ S → hp.get? b = some o → (hp.update S (Obj.mapSeq fun _ => #[])).get? b = some o := fun b o hb e => keep hb e
  generalize hp.update S (Obj.mapSeq fun _ => #[]) = h1 at hS1 hr1 ht1 k1 ⊢
  have same : Builtin.List.listSameRef (.ref S) (.ref I) = false := by simp [Builtin.List.listSameRef, n1]
  wp_walk using AutoSeq1.wpAny_loadPart' hr1
  rw [same, if_neg (by show ¬ (false || Value.type "reversed" == Value.type "list" || Value.type "reversed" == Value.type "tuple") = true; decide)]
  refine wpAny_bind (rv_iter hr1 (wpAny_bind (wpAny_holding (rv_hint hr1 ht1 hz fun tk' => wpAny_ite_split (fun _ => ?_) fun _ => ?_))))
  · wp_walk using AutoSeq1.wpAny_loadPart' hS1
    have hS2 := Heap.get?_update_self (Obj.mapSeq fun x => x.pop) (Heap.get?_update_self (Obj.mapSeq fun x => x.push Value.none) hS1 rfl) rfl
    exact ⟨plainId_quiet F.plain_extend_loop _, rv_fill hh hz (keep (Ne.symm n1) (keep (Ne.symm n1) hr1)) (let ⟨o, ho, r⟩ := ht1; ⟨o, keep (Ne.symm n2) (keep (Ne.symm n2) ho), r⟩) hS2 fun h' tk acc c' k' e' i' => hR h' tk acc c' (fun b o hb hi e => k' b o hb hi (keep hb (keep hb (k1 b o hb e)))) e' i'⟩
  · exact wpAny_pure ⟨plainId_quiet F.plain_extend_loop _, rv_fill hh hz hr1 ht1 hS1 fun h' tk acc c' k' e' i' => hR h' tk acc c' (fun b o hb hi e => k' b o hb hi (k1 b o hb e)) e' i'⟩
theorem call_list_rv (hh : A.handled = none) {Q : Value → Shared → Prop} {I t : Addr} {xs : Array Value} (hz : xs.size ≤ sizeLine) (hr : IsRv s.heap I t ((xs.size : Int) - 1)) (ht : IsTup s.heap t xs)
    (hQ : ∀ h' tk acc c', (∀ b o, b ≠ I → s.heap.get? b = some o → h'.get? b = some o) → h'.get? s.heap.objs.size = some { cls := .type "list", data := .seq acc c' } → ItemsOf (fun i v => xs[xs.size - 1 - i]? = some v) acc xs.size → Q (.ref s.heap.objs.size) { s with heap := h', toks := tk }) :
    wpAny (model prog w) A (call (.type "list") [Value.ref I]) Q E s := by
  have new : (s.heap.push { cls := .type "list", data := .seq #[] }).get? s.heap.objs.size = some { cls := .type "list", data := .seq #[] } := Heap.get?_push_size _ rfl
  have up : ∀ {b o}, s.heap.get? b = some o → (s.heap.push { cls := .type "list", data := .seq #[] }).get? b = some o := fun e => Heap.get?_push_of_some _ e
  refine callType_codes F.called_list (F.typeCall_list_1 _) F.entry_list_init (code_list_new (Q₁ := fun v s₁ => v = .ref s.heap.objs.size ∧ s₁ = { s with heap := s.heap.push { cls := .type "list", data := .seq #[] } }) _ ⟨rfl, rfl⟩) ?_
  rintro _ _ ⟨rfl, rfl⟩
  refine ⟨⟨_, new, rfl⟩, F.args_list_init_2 _ _, rv_init (A := A.in1) hh hz (up hr) (let ⟨o, ho, r⟩ := ht; ⟨o, up ho, r⟩) new fun h' tk acc c' k e i => ⟨rfl, hQ h' tk acc c' (fun b o hb e' => k b o (Nat.ne_of_lt (Heap.lt_size e')) hb (up e')) e i⟩⟩
end
/-! ### the two calls, one in the other -/
noncomputable def tLR (K : PySem.W.Frag) (ta : TE) : TE := fun σ H Q => ta σ H fun x H1 => ∃ t xs, x = .ref t ∧ SqT K H1 t xs ∧ ∀ l, H1 l = none → Q (.ref l) (upd H1 l (.lst xs.reverse))
theorem rv_vals {its : List Value} {acc : Array Value} (h : ItemsOf (fun i v => its.toArray[its.toArray.size - 1 - i]? = some v) acc its.toArray.size) : acc.toList = its.reverse := by
  have hsz : acc.size = its.length := by have := h.1; simpa using this
  refine List.ext_getElem? fun i => ?_
  by_cases hi : i < its.length
  · have e := h.2 i acc[i] (by simp [hsz, hi])
    have e2 : acc.toList[i]? = some acc[i] := by simp [hsz, hi]
    rw [e2, List.getElem?_reverse hi]
    simpa using e.symm
  · rw [List.getElem?_eq_none (by simp; omega), List.getElem?_eq_none (by simp; omega)]
theorem pe_listRev {X : Cx} (K : PySem.W.Frag) (hK : X.K = K) (hc : X.calm = true) {e : Expr} {te : TE} {p1 p2 q1 q2 : Pos} (hl : Gl X "list") (hml : X.mg "list" = none) (hr : Gl X "reversed") (hmr : X.mg "reversed" = none) (he : PE X e te)
    (hs1 : starEach [Expr.Call (.Name "reversed" p2) [e] [] q2] X.env = [(false, eval (.Call (.Name "reversed" p2) [e] [] q2) X.env)] := by rfl) (hs2 : starEach [e] X.env = [(false, eval e X.env)] := by rfl) :
    PE X (.Call (.Name "list" p1) [.Call (.Name "reversed" p2) [e] [] q2] [] q1) (tLR K te) := by
  subst hK
  intro pins s σ H Q I h
  refine wpAny_Call_Name_kw (ld_blt I hl hml bt_list ?_)
  refine PyProof.Rows.callWith_type1 ?_ (by rw [hs1]; rfl) rfl
  rw [hs1]
  show wpAny _ _ (spliced ((false, eval (.Call (.Name "reversed" p2) [e] [] q2) X.env) :: [])) _ _ s
  refine Calls.spliced_cons (wpAny_Call_Name_kw (ld_blt I hr hmr (show bootBuiltins "reversed" = some (.type "reversed") by decide +kernel) ?_))
  refine PyProof.Rows.callWith_type1 ?_ (by rw [hs2]; rfl) rfl
  rw [hs2]
  show wpAny _ _ (spliced ((false, eval e X.env) :: [])) _ _ s
  refine Calls.spliced_cons (thn (he pins s σ H _ I h) fun u s1 ⟨x, H1, I1, r1, t, xs, hx, hq, q⟩ => ?_)
  subst hx
  cases r1
  refine Calls.spliced_nil ?_
  obtain ⟨its, rv, ht, hz⟩ := I1.tuple hq
  have hlen := rv.length
  have z63 : (sizeLine : Int) < 2 ^ 63 := by decide
  refine call_reversedT ht (by simp only [List.size_toArray]; omega) fun tk => ?_
  refine Calls.spliced_nil ?_
  have up : ∀ b o, s1.heap.get? b = some o → (s1.heap.push (rvRec t ((its.toArray.size : Int) - 1))).get? b = some o := fun b o e => Heap.get?_push_of_some _ e
  have hz1 : (s1.heap.push (rvRec t ((its.toArray.size : Int) - 1))).objs.size = s1.heap.objs.size + 1 := Heap.size_push ..
  have hat : (s1.heap.push (rvRec t ((its.toArray.size : Int) - 1))).get? s1.heap.objs.size = some (rvRec t ((its.toArray.size : Int) - 1)) := Heap.get?_push_size _ rfl
  generalize s1.heap.push (rvRec t ((its.toArray.size : Int) - 1)) = hp at up hz1 hat
  refine call_list_rv (s := { s1 with heap := hp, toks := tk }) (I1.ok.hd hc) (xs := its.toArray) (by rw [List.size_toArray]; omega) hat (ht.keeps up) fun h' tk' acc c' hk hS hacc => ?_
  have k2 : ∀ b o, s1.heap.get? b = some o → h'.get? b = some o := fun b o e => hk b o (Nat.ne_of_lt (Heap.lt_size e)) (up b o e)
  have I2 : Inv X pins σ H1 { s1 with heap := h', toks := tk' } := I1.kept k2
  have fr : H1 hp.objs.size = none := I1.hok.fresh (by rw [hz1]; exact Nat.le_succ _)
  have f : FpOk X pins H1 hp.objs.size := I1.fpOk (by rw [hz1]; exact Nat.le_succ _) fr
  have I3 := I2.track (o := .lst xs.reverse) f ⟨by rw [List.length_reverse]; exact hz, acc.toList, c', by rw [rv_vals hacc]; exact rv.reverse, hS⟩
  exact ⟨.ref _, _, I3, rfl, q _ fr⟩
end L2
namespace L2
open PySem PySem.Spec PyProof.Rows
/-! ### range(0, j, 9) -/
noncomputable def iStep9 (ta : TA) : TI := fun σ H R => ta σ H fun vs H1 => ∃ j : Int, vs = [.int 0, .int j, .int 9] ∧ 0 ≤ j ∧ j < 1000000 ∧ R (Itc 9 ((j + 8) / 9).toNat) H1
theorem size9 {j : Int} (h : 0 ≤ j) : Builtin.Range.rangeSize 0 j 9 = (((j + 8) / 9).toNat : Int) := by
  unfold Builtin.Range.rangeSize; rw [if_pos (by decide)]
  split <;> omega
theorem small9 {j : Int} (h : 0 ≤ j) (h2 : j < 1000000) : Builtin.Range.small 0 j 9 = true := by
  unfold Builtin.Range.small
  rw [size9 h]
  have fl : ∀ i : Int, -1000000 ≤ i → i ≤ 1000009 → Builtin.Range.rangeFitsLong i = true := fun i a b => by
    unfold Builtin.Range.rangeFitsLong
    rw [Bool.and_eq_true, decide_eq_true_eq, decide_eq_true_eq]
    omega
  have m0 : (0 : Int) ≤ (((j + 8) / 9).toNat : Int) := Int.natCast_nonneg _
  have m1 : (((j + 8) / 9).toNat : Int) ≤ 1000001 := by omega
  generalize (((j + 8) / 9).toNat : Int) = m at m0 m1 ⊢
  have e5 : j + (9 - 1) = j + 8 := rfl
  rw [e5]
  have h5 := fl (j + 8) (by omega) (by omega)
  generalize j + 8 = j' at h5 ⊢
  rw [fl j (by omega) (by omega), fl m (by omega) (by omega), h5]
  have h0 := fl 0 (by decide) (by decide)
  have h2 := fl 9 (by decide) (by decide)
  generalize Builtin.Range.rangeFitsLong 0 = b0 at h0 ⊢
  generalize Builtin.Range.rangeFitsLong 9 = b2 at h2 ⊢
  subst h0 h2
  cases m == 0 <;> rfl
theorem pi_step9 {X : Cx} {tg : Expr} {a b c : Expr} {ta : TA} {p pos : Pos} (hg : Gl X "range") (hm : X.mg "range" = none) (ha : PA X [a, b, c] ta) (hs : starEach [a, b, c] X.env = [(false, eval a X.env), (false, eval b X.env), (false, eval c X.env)] := by rfl)
    (hs2 : starEach [b, c] X.env = [(false, eval b X.env), (false, eval c X.env)] := by rfl) : PI X tg (.Call (.Name "range" p) [a, b, c] [] pos) (iStep9 ta) := by
  intro pins s σ H R I h
  refine Call_ (ld_blt I hg hm boot_range (PyProof.Rows.callWith_type1 (thn (ha pos pins s σ H _ I h) fun us s1 ⟨vs, H1, I1, r1, q1⟩ => ?_) (by rw [hs, hs2]) (by rw [hs2]; rfl)))
  obtain ⟨j, rfl, j0, j1, q⟩ := q1
  obtain ⟨u1, us1, rfl, ⟨t, rfl⟩, r2⟩ := vals_cons r1
  obtain ⟨u2, us2, rfl, ⟨t', rfl⟩, r3⟩ := vals_cons r2
  obtain ⟨u3, us3, rfl, ⟨t2, rfl⟩, r4⟩ := vals_cons r3
  cases r4
  refine call_range_3 (by decide) ?_ (Or.inl (PyProof.noPylong_small (by omega)))
  refine wpAny_pyIter_range (IsRange.new ..) (small9 j0 j1) ?_
  have up : ∀ b o, s1.heap.get? b = some o → (s1.heap.push { cls := .type "range", data := .fields #[.int 0 t, .int j t', .int 9 t2] }).get? b = some o := fun b o e => Heap.get?_push_of_some _ e
  have I2 := I1.kept (t' := s1.toks) up
  generalize s1.heap.push { cls := .type "range", data := .fields #[.int 0 t, .int j t', .int 9 t2] } = h2 at I2 ⊢
  have I3 : Inv X pins σ H1 { s1 with heap := h2.push { cls := .type "range_iterator", data := .fields #[rawInt 0, rawInt (Builtin.Range.rangeSize 0 j 9), rawInt 9] }, toks := s1.toks } := I2.kept (t' := s1.toks) fun b o e => Heap.get?_push_of_some _ e
  refine ⟨h2.objs.size, [h2.objs.size], _, _, H1, rfl, I3, turn_step _ 9 ((j + 8) / 9).toNat, ?_, fun b hb => ?_, q⟩
  · have e2 : ((((j + 8) / 9).toNat : Nat) : Int) - ((0 : Nat) : Int) = Builtin.Range.rangeSize 0 j 9 := by rw [size9 j0]; simp
    show IsRangeIter _ _ (0 + ((0 : Nat) : Int) * 9) _ 9
    rw [e2]
    exact Heap.get?_push_size _ rfl
  · cases List.mem_singleton.mp hb
    exact I2.fpOk (Nat.le_refl _) (I2.hok.fresh (Nat.le_refl _))
end L2
namespace S21
open PySem L2 Bw
set_option maxHeartbeats 3900000
theorem call_range1 {X : Cx} : CallR X (.type "range") (fun xs H Q => ∃ j : Int, xs = [.int j] ∧ ∀ p, H p = none → Q (.ref p) (upd H p (.rng 0 j))) := by
  intro pins s σ H vs us Q I r h
  obtain ⟨j, rfl, q⟩ := h
  obtain ⟨u, rfl, ru⟩ := vals1 r
  obtain ⟨t, rfl⟩ := ru
  refine call_range_1 ?_
  exact ⟨.ref _, _, I.laid (t' := _) (o := .rng 0 j) (fun b o e => Heap.get?_push_of_some _ e) (Nat.le_refl _) ⟨_, _, _, Heap.get?_push_size _ rfl⟩, rfl, q _ I.fresh⟩
theorem rngL (lo c : Nat) : ((List.range (((lo + c : Nat) : Int) - (lo : Int)).toNat).map fun (k : Nat) => V.int ((lo : Int) + k)) = (List.range c).map fun (i : Nat) => V.int ((lo + i : Nat) : Int) := by
  rw [show (((lo + c : Nat) : Int) - (lo : Int)).toNat = c by omega]
  exact List.map_congr_left fun k _ => by rw [Int.natCast_add]
section
variable {P : Program} {w : World} {K : PySem.W.Frag} {mg : Str → Option Value} {base : Heap}
/-! ### _law_reduced -/
noncomputable def spRdN (K : PySem.W.Frag) : Sp := fun vs H Q _ => ∃ (p : Int) (a : Addr) (XS : List V) (rs : List (List Int)) (n : Nat), vs = [.int p, .ref a, .int (n : Int)] ∧ p ∈ primesL ∧ H a = some (.lst XS) ∧ LR (fun _ => True) H XS rs ∧ rs.length ≤ 900 ∧ n ≤ 900 ∧ Bw.Rws p n rs ∧
  ∀ t H' DS, Same H H' → SqT K H' t DS → HasA K H' DS ((redM p rs).map intsT) → Q (.ref t) H'
theorem scRdN : FnScope ["p", "rows", "size"] ["p", "rows", "size"] (defScope sRedW) := ⟨rfl, rfl, rfl, by decide +kernel, rfl, by decide +kernel, by decide +kernel⟩
theorem ok_rdN {f fC : Addr} {fd fdC : FuncData} (F : Fun K "_law_reduced" "_law_reduced" sRedW f fd) (T : Txt mg)
    (GC : FnOk P w K mg base CX0 2 fC fdC ["p", "rows", "places"] (spClr K)) (kC : PySem.W.keepIn K (.ref fC) = true) (bC : Binds K fdC ["p", "rows", "places"] []) (mC : mg "_law_cleared" = some (.ref fC)) :
    FnOk P w K mg base CX0 3 f fd ["p", "rows", "size"] (spRdN K) := by
  refine F.ok scRdN (fun vs H Q E h => ?_) (fun cdv A outer s H vs Q E hr h => ?_)
  · obtain ⟨p, a, XS, rs, n, rfl, _⟩ := h
    rfl
  · obtain ⟨p, a, XS, rs, n, rfl, pp, ga, hX, hz, hn, hR, q⟩ := h
    have z1000 : (1000 : Nat) ≤ sizeLine := by decide
    refine ⟨_, pss_one (ps_ret (pe_callTy (cTuple K rfl) rfl T.tuple bt_tuple (pa_cons (pe_comp (N := ["row"]) (own := 1) (caps := []) rfl (piList K rfl (pe_ix (ixL K rfl) (pe_call GC hr rfl mC kC bC .nil pass0 (pa_cons (pv 0) (pa_cons (pv 1) (pa_cons (pe_callTy (call_list_rng rfl) rfl T.list bt_list (pa_cons (pe_callTy call_range1 rfl T.range bt_range (pa_cons (pv 2) pa_nil)) pa_nil)) pa_nil)))) pe_int (fun _ _ => rfl)))
      (show BlkScope ["p", "rows", "size"] (defScope sRedW) ["row"] 1 [] _ from .mk' (by decide +kernel)) (fun _ _ _ _ _ => pg_name (i := 0) nv0 rfl (Or.inl rfl)) (fun _ _ _ _ _ => pts_nil)
      (fun _ _ _ _ _ => pe_callTy (cTuple K rfl) rfl T.tuple bt_tuple (pa_cons (pv 0) pa_nil))) pa_nil))), ?_⟩
    refine ⟨_, rfl, _, rfl, _, rfl, (n : Int), rfl, fun pr hpr => ⟨pr, 0, (n : Int), rfl, upd_same, ⟨by decide, by decide, by omega, by omega⟩, by omega, fun ll hll => ?_⟩⟩
    have sm := (Same.upd hpr (o := .rng 0 (n : Int))).trans (Same.upd hll (o := .lst ((List.range ((n : Int) - 0).toNat).map fun (k : Nat) => V.int (0 + k))))
    refine ⟨p, a, ll, XS, rs, n, 0, n, rfl, pp, sm _ _ ga, hX.mono sm, hz, hn, fun r hr => .of (hR r hr), by omega, ?_, ?_⟩
    · rw [upd_same]
      have := rngL 0 n
      rw [Nat.zero_add] at this
      exact congrArg (fun z => some (HO.lst z)) this
    intro l fa ga' FS GS H1 s1 hl gl hf gf hF _ _ _
    rw [D1.cl_redM pp hR] at hF
    have hFl := hF.1
    have hred : (redM p rs).length ≤ n := by
      rw [← D1.cl_redM pp hR]
      exact (D1.cl_red pp hR n (Nat.le_refl _)).len (Nat.le_refl _)
    refine ⟨l, _, 0, .ref fa, rfl, rfl, .of gl, atI_nat (j := 0) rfl, fa, rfl, ⟨_, .of gf⟩, comp_list (cp := []) (fun i H' zs => HasA K H' zs (((redM p rs).take i).map intsT)) (.of gf) (by omega) .nil (fun i H' zs h => by rw [lenA h]; exact List.length_take_le _ _) ?_ ?_⟩
    · rintro i x H3 zs hx sm3 h3
      obtain ⟨ra, r, rfl, hr', _, gr⟩ := hF.get' hx
      refine tgo ⟨_, rfl, ra, _, rfl, .inl ⟨.of (sm3 _ _ gr), fun t ht => ⟨⟨[_], rfl, rfl⟩, sm3.trans (.upd ht), ?_⟩⟩⟩
      rw [List.take_add_one, hr']
      show HasA K _ _ (((redM p rs).take i ++ [r]).map intsT)
      rw [List.map_append]
      exact (h3.mono (.upd ht)).append (.cons (hasT_of (.of upd_same)) .nil)
    · rintro H3 TS sm3 h3 lt hlt
      rw [hFl, List.take_length] at h3
      refine ⟨lt, _, rfl, .inl ⟨.of upd_same, fun t ht => q t _ TS (((sm.trans s1).trans sm3).trans ((Same.upd hlt).trans (.upd ht))) (.of upd_same) (h3.mono ((Same.upd hlt).trans (.upd ht)))⟩⟩
end
end S21
namespace S21
open PySem L2 Bw
set_option maxHeartbeats 3900000
/-! ### triples: wires to the left, to the right, rows -/
noncomputable def Trp (N : Addr → Prop) (H : Hp) (a : Addr) (l r : Nat) (rows : List (List Int)) : Prop := N a ∧ ∃ (b : Addr) (XS : List V), H a = some (.lst [.int (l : Int), .int (r : Int), .ref b]) ∧ N b ∧ H b = some (.lst XS) ∧ LR N H XS rows
theorem Trp.mono {N : Addr → Prop} {H H' : Hp} {a : Addr} {l r : Nat} {rows : List (List Int)} (h : Trp N H a l r rows) (e : Same H H') : Trp N H' a l r rows := by
  obtain ⟨n, b, XS, g, nb, gb, hL⟩ := h
  exact ⟨n, b, XS, e _ _ g, nb, e _ _ gb, hL.mono e⟩
theorem Trp.weak {N N' : Addr → Prop} {H : Hp} {a : Addr} {l r : Nat} {rows : List (List Int)} (h : Trp N H a l r rows) (k : ∀ x, N x → N' x) : Trp N' H a l r rows := by
  obtain ⟨n, b, XS, g, nb, gb, hL⟩ := h
  exact ⟨k _ n, b, XS, g, k _ nb, gb, hL.weak k⟩
theorem Trp.wr {H : Hp} {a x : Addr} {l r : Nat} {rows : List (List Int)} {o : HO} (h : Trp (· ≠ x) H a l r rows) : Trp (· ≠ x) (upd H x o) a l r rows := by
  obtain ⟨n, b, XS, g, nb, gb, hL⟩ := h
  exact ⟨n, b, XS, by rw [upd_ne n]; exact g, nb, by rw [upd_ne nb]; exact gb, hL.wr⟩
/-- a triple just made -/
theorem Trp.new {H H1 : Hp} {a b : Addr} {XS : List V} {l r : Nat} {rows : List (List Int)} (s : Same H H1) (hL : LR (fun x => H x = none) H1 XS rows) (hb : H1 b = none) (ha : (upd H1 b (.lst XS)) a = none) :
    Same H (upd (upd H1 b (.lst XS)) a (.lst [.int (l : Int), .int (r : Int), .ref b])) ∧ Trp (fun x => H x = none) (upd (upd H1 b (.lst XS)) a (.lst [.int (l : Int), .int (r : Int), .ref b])) a l r rows :=
  ⟨s.trans ((Same.upd hb).trans (.upd ha)), none_of (s.trans (.upd hb)) ha, b, XS, upd_same, none_of s hb, Same.upd ha _ _ upd_same, hL.mono ((Same.upd hb).trans (.upd ha))⟩
/-- what a call that tells a triple is asked for -/
noncomputable def TellT (H : Hp) (l r : Nat) (rows : List (List Int)) (Q : VK) : Prop := ∀ a H', Same H H' → Trp (fun x => H x = none) H' a l r rows → Q (.ref a) H'
/-! ### _law_box -/
noncomputable def boxT (w : Str) (n : Int) : Nat × Nat × List (List Int) :=
  if w = "id" ∨ w = "times" then (1, 1, [[1, n]]) else if w = "swap" then (2, 2, [[1, 0, 0, 1], [0, 1, 1, 0]]) else if w = "copy" then (1, 2, [[1, 1, 1]]) else if w = "end" then (1, 0, [[1]])
  else if w = "add" then (2, 1, [[1, 0, 1], [0, 1, 1]]) else if w = "none" then (0, 1, []) else if w = "cup" then (0, 2, [[1, 1]]) else (0, 0, [])
noncomputable def spBox : Sp := fun vs H Q _ => ∃ (p : Int) (w : Str) (n : Int), vs = [.int p, .str w, .int n] ∧ TellT H (boxT w n).1 (boxT w n).2.1 (boxT w n).2.2 Q
theorem scBx : FnScope ["p", "word", "number"] ["p", "word", "number"] (defScope s_law_box) := ⟨rfl, rfl, rfl, by decide +kernel, rfl, by decide +kernel, by decide +kernel⟩
section
variable {P : Program} {w : World} {K : PySem.W.Frag} {mg : Str → Option Value} {base : Heap}
theorem tell0 {H : Hp} {l r : Nat} {Q : VK} (q : TellT H l r [] Q) {b : Addr} (hb : H b = none) {a : Addr} (ha : (upd H b (.lst [])) a = none) : Q (.ref a) (upd (upd H b (.lst [])) a (.lst [.int (l : Int), .int (r : Int), .ref b])) := by
  obtain ⟨s, t⟩ := Trp.new (l := l) (r := r) (.refl H) LR.nil hb ha
  exact q a _ s t
theorem tell1 {H : Hp} {l r : Nat} {r1 : List Int} {Q : VK} (q : TellT H l r [r1] Q) {x : Addr} (hx : H x = none) {b : Addr} (hb : (upd H x (.lst (r1.map V.int))) b = none) {a : Addr} (ha : (upd (upd H x (.lst (r1.map V.int))) b (.lst [.ref x])) a = none) :
    Q (.ref a) (upd (upd (upd H x (.lst (r1.map V.int))) b (.lst [.ref x])) a (.lst [.int (l : Int), .int (r : Int), .ref b])) := by
  obtain ⟨s, t⟩ := Trp.new (l := l) (r := r) (Same.upd hx) (LR.nil.snoc (r := r1) hx upd_same) hb ha
  exact q a _ s t
theorem tell2 {H : Hp} {l r : Nat} {r1 r2 : List Int} {Q : VK} (q : TellT H l r [r1, r2] Q) {x : Addr} (hx : H x = none) {y : Addr} (hy : (upd H x (.lst (r1.map V.int))) y = none) {b : Addr} (hb : (upd (upd H x (.lst (r1.map V.int))) y (.lst (r2.map V.int))) b = none)
    {a : Addr} (ha : (upd (upd (upd H x (.lst (r1.map V.int))) y (.lst (r2.map V.int))) b (.lst [.ref x, .ref y])) a = none) :
    Q (.ref a) (upd (upd (upd (upd H x (.lst (r1.map V.int))) y (.lst (r2.map V.int))) b (.lst [.ref x, .ref y])) a (.lst [.int (l : Int), .int (r : Int), .ref b])) := by
  obtain ⟨s, t⟩ := Trp.new (l := l) (r := r) ((Same.upd hx).trans (Same.upd hy)) (((LR.nil.snoc (r := r1) hx upd_same).mono (.upd hy)).snoc (r := r2) (none_of (.upd hx) hy) upd_same) hb ha
  exact q a _ s t
/-! a triple as it is written -/
noncomputable def cRows : List Expr → Option (List (List Int))
  | [] => some []
  | .List es _ :: rest => match constInts es, cRows rest with
    | some ns, some R => some (ns :: R)
    | _, _ => none
  | _ => none
noncomputable def cTri : Expr → Option (Int × Int × List (List Int))
  | .List [.Constant (.int l) _ _, .Constant (.int r) _ _, .List rows _] _ => match cRows rows with
    | some R => some (l, r, R)
    | none => none
  | _ => none
noncomputable def tRs : List (List Int) → TA
  | [] => tNil
  | ns :: R => tCons (tInts ns) (tRs R)
noncomputable def tTri (l r : Int) (t : TE) : TE := tLst (tCons (tC (.int l)) (tCons (tC (.int r)) (tCons t tNil)))
theorem pa_cRows {X : Cx} : ∀ (es : List Expr) (R : List (List Int)), cRows es = some R → PA X es (tRs R)
  | [], R, h => by cases h; exact pa_nil
  | e :: rest, R, h => by
    unfold cRows at h
    split at h
    case h_1 => exact absurd h (by rename_i h1; cases h1)
    case h_3 => exact nomatch h
    case h_2 es pos rest' heq =>
      cases heq
      split at h
      case h_2 => exact nomatch h
      case h_1 ns R' h1 h2 =>
        cases h
        exact pa_cons (pe_ints (pai h1)) (pa_cRows rest R' h2)
theorem pe_cTri {X : Cx} {e : Expr} {l r : Int} {R : List (List Int)} (h : cTri e = some (l, r, R)) : PE X e (tTri l r (tLst (tRs R))) := by
  unfold cTri at h
  split at h
  case h_2 => exact nomatch h
  case h_1 l' i1 p1 r' i2 p2 rows p3 pos =>
    split at h
    case h_2 => exact nomatch h
    case h_1 R' h1 =>
      cases h
      exact pe_lst (pa_cons pe_int (pa_cons pe_int (pa_cons (pe_lst (pa_cRows rows _ h1)) pa_nil)))
noncomputable def tWd (x : String) : TT := tTest (tOp rEq (tVar 1) (tC (.str x)))
noncomputable def tBox7 : TS := tRet (tTri 0 0 (tLst (tRs [])))
noncomputable def tBox6 : TS := tSeq (tIfS (tWd "cup") (tRet (tTri 0 2 (tLst (tRs [[1, 1]])))) tNext) tBox7
noncomputable def tBox5 : TS := tSeq (tIfS (tWd "none") (tRet (tTri 0 1 (tLst (tRs [])))) tNext) tBox6
noncomputable def tBox4 : TS := tSeq (tIfS (tWd "add") (tRet (tTri 2 1 (tLst (tRs [[1, 0, 1], [0, 1, 1]])))) tNext) tBox5
noncomputable def tBox3 : TS := tSeq (tIfS (tWd "end") (tRet (tTri 1 0 (tLst (tRs [[1]])))) tNext) tBox4
noncomputable def tBox2 : TS := tSeq (tIfS (tWd "copy") (tRet (tTri 1 2 (tLst (tRs [[1, 1, 1]])))) tNext) tBox3
noncomputable def tBox1 : TS := tSeq (tIfS (tWd "swap") (tRet (tTri 2 2 (tLst (tRs [[1, 0, 0, 1], [0, 1, 1, 0]])))) tNext) tBox2
noncomputable def tOne : TS := tRet (tLst (tCons (tC (.int 1)) (tCons (tC (.int 1)) (tCons (tLst (tCons (tLst (tCons (tC (.int 1)) (tCons (tVar 2) tNil))) tNil)) tNil))))
noncomputable def tBox : TS := tSeq (tIfS (tOr (tWd "id") (tWd "times")) tOne tNext) tBox1
theorem ok_box {f : Addr} {fd : FuncData} (F : Fun K "_law_box" "_law_box" s_law_box f fd) : FnOk P w K mg base CX0 1 f fd ["p", "word", "number"] spBox := by
  refine F.ok scBx (fun vs H Q E h => ?_) (fun cdv A outer s H vs Q E hr h => ?_)
  · obtain ⟨p, x, n, rfl, _⟩ := h
    rfl
  · obtain ⟨p, x, n, rfl, q⟩ := h
    refine ⟨tBox, ?_, ?_⟩
    · unfold tBox
      refine pss_cons ?_ ?_
      · refine ps_if ?_ ?_ pss_nil
        · refine PW.pt (pw_or ?_ (pw_or1 ?_))
          · exact pt_cmpR op_eq (pv 1) pe_str (nomark _)
          · exact pt_cmpR op_eq (pv 1) pe_str (nomark _)
        · exact pss_one (ps_ret (pe_lst (pa_cons pe_int (pa_cons pe_int (pa_cons (pe_lst (pa_cons (pe_lst (pa_cons pe_int (pa_cons (pv 2) pa_nil))) pa_nil)) pa_nil)))))
      refine pss_cons ?_ ?_
      · refine ps_if ?_ ?_ pss_nil
        · exact pt_cmpR op_eq (pv 1) pe_str (nomark _)
        · refine pss_one ?_
          refine ps_ret ?_
          refine pe_cTri ?_
          kernel_rfl
      refine pss_cons ?_ ?_
      · refine ps_if ?_ ?_ pss_nil
        · exact pt_cmpR op_eq (pv 1) pe_str (nomark _)
        · refine pss_one ?_
          refine ps_ret ?_
          refine pe_cTri ?_
          kernel_rfl
      refine pss_cons ?_ ?_
      · refine ps_if ?_ ?_ pss_nil
        · exact pt_cmpR op_eq (pv 1) pe_str (nomark _)
        · refine pss_one ?_
          refine ps_ret ?_
          refine pe_cTri ?_
          kernel_rfl
      refine pss_cons ?_ ?_
      · refine ps_if ?_ ?_ pss_nil
        · exact pt_cmpR op_eq (pv 1) pe_str (nomark _)
        · refine pss_one ?_
          refine ps_ret ?_
          refine pe_cTri ?_
          kernel_rfl
      refine pss_cons ?_ ?_
      · refine ps_if ?_ ?_ pss_nil
        · exact pt_cmpR op_eq (pv 1) pe_str (nomark _)
        · refine pss_one ?_
          refine ps_ret ?_
          refine pe_cTri ?_
          kernel_rfl
      refine pss_cons ?_ ?_
      · refine ps_if ?_ ?_ pss_nil
        · exact pt_cmpR op_eq (pv 1) pe_str (nomark _)
        · refine pss_one ?_
          refine ps_ret ?_
          refine pe_cTri ?_
          kernel_rfl
      refine pss_one ?_
      refine ps_ret ?_
      refine pe_cTri ?_
      kernel_rfl
    have deq : ∀ {y : String}, decide (V.str x = V.str (Str.ofString y)) = decide (x = Str.ofString y) := fun {y} => by
      by_cases h : x = Str.ofString y
      · rw [decide_eq_true h, decide_eq_true (congrArg V.str h)]
      · rw [decide_eq_false h, decide_eq_false fun z => h (V.str.inj z)]
    have step : ∀ {y : String} {t u : TS} {D : Ends}, (x = Str.ofString y → t { D with nx := u D } [some (.int p), some (.str x), some (.int n)] H) → (x ≠ Str.ofString y → u D [some (.int p), some (.str x), some (.int n)] H) → tSeq (tIfS (tWd y) t tNext) u D [some (.int p), some (.str x), some (.int n)] H := fun {y t u D} h1 h2 => by
      refine ⟨_, rfl, rfl, _, rfl, ?_⟩
      rw [deq]
      exact ite2 (fun c => h1 (of_decide_eq_true c)) (fun c => h2 fun z => c (decide_eq_true z))
    have z : ∀ n : Nat, n ≤ 10 → n ≤ sizeLine := fun n h => Nat.le_trans h (by decide)
    unfold boxT at q
    refine ⟨_, rfl, rfl, _, rfl, ?_⟩
    rw [deq]
    have fst0 : x = Str.ofString "id" ∨ x = Str.ofString "times" → tOne { nx := fun _ H' => Q .non H', rt := Q } [some (.int p), some (.str x), some (.int n)] H := fun c => by
      rw [if_pos c] at q
      refine ⟨_, rfl, z _ (by simp), fun r1 h1 => ⟨z _ (by simp), fun b hb => ⟨z _ (by simp), fun a ha => ?_⟩⟩⟩
      exact tell1 (r1 := [1, n]) q h1 hb ha
    have rest : ¬ (x = Str.ofString "id" ∨ x = Str.ofString "times") → tBox1 { nx := fun _ H' => Q .non H', rt := Q } [some (.int p), some (.str x), some (.int n)] H := fun c0 => by
      rw [if_neg c0] at q
      refine step (fun c => ?_) (fun c => ?_)
      · rw [if_pos c] at q
        exact ⟨z _ (by simp), fun x hx => ⟨z _ (by simp), fun y hy => ⟨z _ (by simp), fun b hb => ⟨z _ (by simp), fun a ha => tell2 (r1 := [1, 0, 0, 1]) (r2 := [0, 1, 1, 0]) q hx hy hb ha⟩⟩⟩⟩
      rw [if_neg c] at q
      refine step (fun c => ?_) (fun c => ?_)
      · rw [if_pos c] at q
        exact ⟨z _ (by simp), fun x hx => ⟨z _ (by simp), fun b hb => ⟨z _ (by simp), fun a ha => tell1 (r1 := [1, 1, 1]) q hx hb ha⟩⟩⟩
      rw [if_neg c] at q
      refine step (fun c => ?_) (fun c => ?_)
      · rw [if_pos c] at q
        exact ⟨z _ (by simp), fun x hx => ⟨z _ (by simp), fun b hb => ⟨z _ (by simp), fun a ha => tell1 (r1 := [1]) q hx hb ha⟩⟩⟩
      rw [if_neg c] at q
      refine step (fun c => ?_) (fun c => ?_)
      · rw [if_pos c] at q
        exact ⟨z _ (by simp), fun x hx => ⟨z _ (by simp), fun y hy => ⟨z _ (by simp), fun b hb => ⟨z _ (by simp), fun a ha => tell2 (r1 := [1, 0, 1]) (r2 := [0, 1, 1]) q hx hy hb ha⟩⟩⟩⟩
      rw [if_neg c] at q
      refine step (fun c => ?_) (fun c => ?_)
      · rw [if_pos c] at q
        exact ⟨z _ (by simp), fun b hb => ⟨z _ (by simp), fun a ha => tell0 q hb ha⟩⟩
      rw [if_neg c] at q
      refine step (fun c => ?_) (fun c => ?_)
      · rw [if_pos c] at q
        exact ⟨z _ (by simp), fun x hx => ⟨z _ (by simp), fun b hb => ⟨z _ (by simp), fun a ha => tell1 (r1 := [1, 1]) q hx hb ha⟩⟩⟩
      rw [if_neg c] at q
      exact ⟨z _ (by simp), fun b hb => ⟨z _ (by simp), fun a ha => tell0 q hb ha⟩⟩
    refine ite2 (fun c => iteT (fst0 (.inl (of_decide_eq_true c)))) (fun c => ?_)
    refine ⟨_, rfl, rfl, _, rfl, ?_⟩
    rw [deq]
    exact ite2 (fun c2 => fst0 (.inr (of_decide_eq_true c2))) (fun c2 => rest fun z => z.elim (fun y => c (decide_eq_true y)) fun y => c2 (decide_eq_true y))
end
end S21
namespace S21
open PySem L2 Bw
set_option maxHeartbeats 3900000
/-! ### readings that give a new list of numbers, whatever comes behind -/
noncomputable def RwE (te : TE) (σ : St) (H : Hp) (ns : List Int) : Prop := ∀ H', Same H H' → ∀ R : VK, (∀ a H'', Same H' H'' → H' a = none → H'' a = some (.lst (ns.map V.int)) → R (.ref a) H'') → te σ H' R
theorem gLst3_of {K : PySem.W.Frag} {i j k : Nat} {v : Addr} {x y z : V} {σ : St} {H : Hp} {R : St → Hp → Prop} (h : SqL K H v [x, y, z]) (q : R (((σ.set i (some x)).set j (some y)).set k (some z)) H) : gLst K 3 (gCons (gName i) (gCons (gName j) (gCons (gName k) gNil))) (.ref v) σ H R :=
  ⟨v, _, rfl, h, rfl, _, _, rfl, _, _, rfl, _, _, rfl, rfl, q⟩
theorem cutV_hi {xs : List V} {k : Nat} (h : k ≤ xs.length) : cutV xs none (some (k : Int)) = xs.take k := by
  unfold cutV
  rw [HT.sIx_nat, HT.sIx_none, List.drop_zero, Nat.sub_zero, Nat.min_eq_left h]
theorem cutV_lo {xs : List V} {k : Nat} (h : k ≤ xs.length) : cutV xs (some (k : Int)) none = xs.drop k := by
  unfold cutV
  rw [HT.sIx_nat, HT.sIx_none, Nat.min_eq_left h, List.take_of_length_le (by simp)]
section
variable {K : PySem.W.Frag} {σ : St} {H : Hp}
theorem ie_add {ta tb : TE} {i j : Int} (h1 : IE ta σ H i) (h2 : IE tb σ H j) : IE (tOp (rI0 fun i j => .int (i + j)) ta tb) σ H (i + j) := fun H' s _ q => h1 H' s _ (h2 H' s _ ⟨i, j, rfl, rfl, q⟩)
theorem rwE_cat {ta tb : TE} {ns ms : List Int} (h1 : RwE ta σ H ns) (h2 : RwE tb σ H ms) (hl : ns.length + ms.length ≤ 10000) : RwE (tOp rCat ta tb) σ H (ns ++ ms) := fun H' s R q => by
  have z : (10000 : Nat) ≤ sizeLine := by decide
  refine h1 H' s _ fun a H1 s1 ha ga => h2 H1 (s.trans s1) _ fun b H2 s2 hb gb => ?_
  refine ⟨a, b, _, _, rfl, rfl, s2 _ _ ga, gb, by simp only [List.length_map]; omega, fun c hc => ?_⟩
  refine q c _ (s1.trans (s2.trans (.upd hc))) (none_of (s1.trans s2) hc) ?_
  rw [upd_same, List.map_append]
theorem rwE_rep {tk : TE} {k : Nat} (h : IE tk σ H (k : Int)) (hk : k ≤ 10000) : RwE (tOp rRep (tLst (tCons (tC (.int 0)) tNil)) tk) σ H (List.replicate k 0) := fun H' s R q => by
  have z : (10000 : Nat) ≤ sizeLine := by decide
  refine ⟨by show 1 ≤ sizeLine; decide, fun a ha => ?_⟩
  have sa := Same.upd (o := .lst [.int 0]) ha
  refine h _ (s.trans sa) _ ⟨a, (k : Int), [.int 0], rfl, rfl, upd_same, by omega, by omega, by show 1 * (k : Int).toNat ≤ sizeLine; omega, fun c hc => q c _ (sa.trans (.upd hc)) (none_of sa hc) ?_⟩
  rw [upd_same, show (k : Int).toNat = k by omega, flat_one, List.map_replicate]
theorem rwE_take {i : Nat} {tk : TE} {a : Addr} {ns : List Int} {k : Nat} (h : σ[i]? = some (some (.ref a))) (g : H a = some (.lst (ns.map V.int))) (hk : IE tk σ H (k : Int)) (hl : k ≤ ns.length) : RwE (tSl (rSlL K) (tVar i) tNoPart (tPart tk)) σ H (ns.take k) := fun H' s R q => by
  refine ⟨_, h, hk _ s _ ⟨(k : Int), rfl, a, _, rfl, .of (s _ _ g), fun p hp => q p _ (.upd hp) hp ?_⟩⟩
  rw [upd_same, cutV_hi (by rw [List.length_map]; exact hl), List.map_take]
theorem rwE_drop {i : Nat} {tk : TE} {a : Addr} {ns : List Int} {k : Nat} (h : σ[i]? = some (some (.ref a))) (g : H a = some (.lst (ns.map V.int))) (hk : IE tk σ H (k : Int)) (hl : k ≤ ns.length) : RwE (tSl (rSlL K) (tVar i) (tPart tk) tNoPart) σ H (ns.drop k) := fun H' s R q => by
  refine ⟨_, h, hk _ s _ ⟨(k : Int), rfl, a, _, rfl, .of (s _ _ g), fun p hp => q p _ (.upd hp) hp ?_⟩⟩
  rw [upd_same, cutV_lo (by rw [List.length_map]; exact hl), List.map_drop]
end
section
variable {P : Program} {w : World} {K : PySem.W.Frag} {mg : Str → Option Value} {base : Heap}
/-- a new row is appended to the list of rows at ll -/
theorem app_row {te : TE} {D : Ends} {σ : St} {H0 H : Hp} {i : Nat} {ll : Addr} {ZS : List V} {R : List (List Int)} {ns : List Int} (hi : σ[i]? = some (some (.ref ll))) (gl : H ll = some (.lst ZS)) (hll : H0 ll = none) (s : Same H0 H) (hR : LR (fun x => x ≠ ll ∧ H0 x = none) H ZS R) (hz : R.length ≤ 10000) (h : RwE te σ H ns)
    (k : ∀ H' ZS', Same H0 H' → H' ll = some (.lst ZS') → LR (fun x => x ≠ ll ∧ H0 x = none) H' ZS' (R ++ [ns]) → D.nx σ H') : tDrop (tBM K "list" rAppend (tVar i) (tCons te tNil)) D σ H := by
  have z : (10000 : Nat) < sizeLine := by decide
  refine ⟨_, hi, .inl ⟨rfl, _, SqL.of gl⟩, h H (.refl _) _ fun a H1 s1 ha ga => ⟨ll, ZS, .ref a, rfl, rfl, s1 _ _ gl, by rw [hR.1]; omega, ?_⟩⟩
  have ne : a ≠ ll := fun e => by rw [e, gl] at ha; cases ha
  refine k _ _ ((s.trans s1).write hll) upd_same ?_
  refine ⟨by simp [hR.1], fun j v r e1 e2 => ?_⟩
  obtain ⟨x, e, nx, gx⟩ := ((hR.mono s1).snoc (a := a) (r := ns) ⟨ne, none_of s ha⟩ ga).2 j v r e1 e2
  exact ⟨x, e, nx, by rw [upd_ne nx.1]; exact gx⟩
/-! ### _law_beside -/
noncomputable def spBes : Sp := fun vs H Q _ => ∃ (a b : Addr) (l r l' r' : Nat) (A B : List (List Int)), vs = [.ref a, .ref b] ∧ Trp (fun _ => True) H a l r A ∧ Trp (fun _ => True) H b l' r' B ∧ (∀ q ∈ A, q.length = l + r) ∧ (∀ q ∈ B, q.length = l' + r') ∧ A.length ≤ 400 ∧ B.length ≤ 400 ∧ l + r ≤ 400 ∧ l' + r' ≤ 400 ∧
  TellT H (l + l') (r + r') (A.map (D1.aboR l l' r') ++ B.map (D1.belR l r l')) Q
theorem scBs : FnScope ["one", "other", "rows", "left", "right", "some", "into", "out", "more", "row"] ["one", "other"] (defScope s_law_beside) := ⟨rfl, rfl, rfl, by decide +kernel, rfl, by decide +kernel, by decide +kernel⟩
theorem ok_bes {f : Addr} {fd : FuncData} (F : Fun K "_law_beside" "_law_beside" s_law_beside f fd) : FnOk P w K mg base CX0 1 f fd ["one", "other"] spBes := by
  refine F.ok scBs (fun vs H Q E h => ?_) (fun cdv A outer s H vs Q E hr h => ?_)
  · obtain ⟨a, b, l, r, l', r', A, B, rfl, _⟩ := h
    rfl
  · obtain ⟨a, b, l, r, l', r', RA, RB, rfl, ⟨_, a1, AS, ga, _, ga1, hA⟩, ⟨_, b1, BS, gb, _, gb1, hB⟩, lA, lB, nA, nB, wA, wB, q⟩ := h
    have z1000 : (1000 : Nat) ≤ sizeLine := by decide
    refine ⟨_, pss_cons (ps_set (i := 2) scBs.nd rfl (Or.inl rfl) (pe_lst pa_nil))
      (pss_cons (ps_asg (pv 0) (pg_lst rfl (pgs_cons (pg_name (i := 3) scBs.nd rfl (Or.inl rfl)) (pgs_cons (pg_name (i := 4) scBs.nd rfl (Or.inl rfl)) (pgs_cons (pg_name (i := 5) scBs.nd rfl (Or.inl rfl)) pgs_nil)))))
      (pss_cons (ps_asg (pv 1) (pg_lst rfl (pgs_cons (pg_name (i := 6) scBs.nd rfl (Or.inl rfl)) (pgs_cons (pg_name (i := 7) scBs.nd rfl (Or.inl rfl)) (pgs_cons (pg_name (i := 8) scBs.nd rfl (Or.inl rfl)) pgs_nil)))))
      (pss_cons (ps_for PassesOwn.never rfl (piList K rfl (pv 5)) (pg_name (i := 9) scBs.nd rfl (Or.inl rfl))
        (pss_one (ps_expr (pe_bm PySem.F.plainAttrs_list PySem.F.slot_list_append PySem.F.type_list_append mt_append (pv 2) (pa_cons
          (pe_op op_cat (pe_op op_cat (pe_op op_cat (pe_slice (slL K rfl) (pv 9) po_none (po_some (pv 3))) (pe_op op_rep (pe_lst (pa_cons pe_int pa_nil)) (pv 6))) (pe_slice (slL K rfl) (pv 9) (po_some (pv 3)) po_none)) (pe_op op_rep (pe_lst (pa_cons pe_int pa_nil)) (pv 7))) pa_nil)))))
      (pss_cons (ps_for PassesOwn.never rfl (piList K rfl (pv 8)) (pg_name (i := 9) scBs.nd rfl (Or.inl rfl))
        (pss_one (ps_expr (pe_bm PySem.F.plainAttrs_list PySem.F.slot_list_append PySem.F.type_list_append mt_append (pv 2) (pa_cons
          (pe_op op_cat (pe_op op_cat (pe_op op_cat (pe_op op_rep (pe_lst (pa_cons pe_int pa_nil)) (pv 3)) (pe_slice (slL K rfl) (pv 9) po_none (po_some (pv 6)))) (pe_op op_rep (pe_lst (pa_cons pe_int pa_nil)) (pv 4))) (pe_slice (slL K rfl) (pv 9) (po_some (pv 6)) po_none)) pa_nil)))))
      (pss_one (ps_ret (pe_lst (pa_cons (pe_op op_add (pv 3) (pv 6)) (pa_cons (pe_op op_add (pv 4) (pv 7)) (pa_cons (pv 2) pa_nil)))))))))), ?_⟩
    refine ⟨by decide, fun lr hlr => ?_⟩
    have s0 : Same H (upd H lr (.lst [])) := .upd hlr
    have g0 : (upd H lr (.lst [])) lr = some (.lst []) := upd_same
    generalize upd H lr (.lst []) = H0 at s0 g0 ⊢
    refine ⟨_, rfl, gLst3_of (.of (s0 _ _ ga)) ⟨_, rfl, gLst3_of (.of (s0 _ _ gb)) ?_⟩⟩
    refine ⟨_, rfl, a1, rfl, ⟨_, .of (s0 _ _ ga1)⟩, for_list (xs := AS) (fun i σ H' => Same H H' ∧ ∃ ZS s9, σ = [some (.ref a), some (.ref b), some (.ref lr), some (.int (l : Int)), some (.int (r : Int)), some (.ref a1), some (.int (l' : Int)), some (.int (r' : Int)), some (.ref b1), s9] ∧ H' lr = some (.lst ZS) ∧ LR (fun x => x ≠ lr ∧ H x = none) H' ZS ((RA.take i).map (D1.aboR l l' r')))
      ⟨s0, [], none, rfl, g0, LR.nil⟩ (fun i σ H' _ ⟨sm, _⟩ => .of (sm _ _ ga1)) ?_ ?_⟩
    · rintro i x σ H1 hx ⟨sm, ZS, s9, rfl, g, hZ⟩
      obtain ⟨ra, row, rfl, hri, _, gr⟩ := hA.get' hx
      have hw := lA row (List.mem_of_getElem? hri)
      have gr1 := sm _ _ gr
      dsimp only [gName]
      refine app_row (i := 2) (ns := D1.aboR l l' r' row) rfl g hlr sm hZ (by rw [List.length_map, List.length_take]; omega) ?_ ?_
      · refine rwE_cat (rwE_cat (rwE_cat (rwE_take (a := ra) (ns := row) rfl gr1 (ie_v rfl) (by omega)) (rwE_rep (ie_v rfl) (by omega)) ?_) (rwE_drop (a := ra) (ns := row) rfl gr1 (ie_v rfl) (by omega)) ?_) (rwE_rep (ie_v rfl) (by omega)) ?_
        all_goals simp only [List.length_append, List.length_take, List.length_drop, List.length_replicate]
        all_goals omega
      · intro H' ZS' sm' g' hZ'
        refine ⟨sm', ZS', _, rfl, g', ?_⟩
        rw [List.take_add_one, hri]
        show LR _ H' ZS' ((RA.take i ++ [row]).map _)
        rw [List.map_append]
        exact hZ'
    rintro σ H1 ⟨sm, ZS, s9, rfl, g, hZ⟩
    rw [hA.1, List.take_length] at hZ
    refine ⟨_, rfl, b1, rfl, ⟨_, .of (sm _ _ gb1)⟩, for_list (xs := BS) (fun i σ H' => Same H H' ∧ ∃ ZS s9, σ = [some (.ref a), some (.ref b), some (.ref lr), some (.int (l : Int)), some (.int (r : Int)), some (.ref a1), some (.int (l' : Int)), some (.int (r' : Int)), some (.ref b1), s9] ∧ H' lr = some (.lst ZS) ∧ LR (fun x => x ≠ lr ∧ H x = none) H' ZS (RA.map (D1.aboR l l' r') ++ (RB.take i).map (D1.belR l r l')))
      ⟨sm, ZS, s9, rfl, g, by rw [List.take_zero, List.map_nil, List.append_nil]; exact hZ⟩ (fun i σ H' _ ⟨sm, _⟩ => .of (sm _ _ gb1)) ?_ ?_⟩
    · clear hZ g ZS s9 sm H1
      rintro i x σ H1 hx ⟨sm, ZS, s9, rfl, g, hZ⟩
      obtain ⟨ra, row, rfl, hri, _, gr⟩ := hB.get' hx
      have hw := lB row (List.mem_of_getElem? hri)
      have gr1 := sm _ _ gr
      dsimp only [gName]
      refine app_row (i := 2) (ns := D1.belR l r l' row) rfl g hlr sm hZ (by rw [List.length_append, List.length_map, List.length_map, List.length_take]; omega) ?_ ?_
      · refine rwE_cat (rwE_cat (rwE_cat (rwE_rep (ie_v rfl) (by omega)) (rwE_take (a := ra) (ns := row) rfl gr1 (ie_v rfl) (by omega)) ?_) (rwE_rep (ie_v rfl) (by omega)) ?_) (rwE_drop (a := ra) (ns := row) rfl gr1 (ie_v rfl) (by omega)) ?_
        all_goals simp only [List.length_append, List.length_take, List.length_drop, List.length_replicate]
        all_goals omega
      · intro H' ZS' sm' g' hZ'
        refine ⟨sm', ZS', _, rfl, g', ?_⟩
        rw [List.take_add_one, hri]
        show LR _ H' ZS' (_ ++ (RB.take i ++ [row]).map _)
        rw [List.map_append, ← List.append_assoc]
        exact hZ'
    clear hZ g ZS s9 sm H1
    rintro σ H1 ⟨sm, ZS, s9, rfl, g, hZ⟩
    rw [hB.1, List.take_length] at hZ
    refine ⟨_, rfl, _, rfl, _, _, rfl, rfl, _, rfl, _, rfl, _, _, rfl, rfl, _, rfl, by show 3 ≤ sizeLine; decide, fun t ht => ?_⟩
    refine q t _ (sm.trans (.upd ht)) ⟨none_of sm ht, lr, ZS, ?_, hlr, Same.upd ht _ _ g, (hZ.mono (.upd ht)).weak fun _ z => z.2⟩
    rw [upd_same, Int.natCast_add, Int.natCast_add]
end
end S21
namespace S21
open PySem L2 Bw
set_option maxHeartbeats 3900000
theorem nw1 : (["row", "right"] : List Str).Nodup := by decide +kernel
theorem nw2 : (["number"] : List Str).Nodup := by decide +kernel
theorem nw3 : (["row", "amid", "left"] : List Str).Nodup := by decide +kernel
section
variable {K : PySem.W.Frag} {σ : St} {H : Hp}
theorem rwE_vcat {i : Nat} {tb : TE} {a : Addr} {ns ms : List Int} (h : σ[i]? = some (some (.ref a))) (g : H a = some (.lst (ns.map V.int))) (h2 : RwE tb σ H ms) (hl : ns.length + ms.length ≤ 10000) : RwE (tOp rCat (tVar i) tb) σ H (ns ++ ms) := fun H' s R q => by
  have z : (10000 : Nat) ≤ sizeLine := by decide
  refine ⟨_, h, h2 H' s _ fun b H2 s2 hb gb => ?_⟩
  refine ⟨a, b, _, _, rfl, rfl, s2 _ _ (s _ _ g), gb, by simp only [List.length_map]; omega, fun c hc => ?_⟩
  refine q c _ (s2.trans (.upd hc)) (none_of s2 hc) ?_
  rw [upd_same, List.map_append]
/-- [0 - number for number in ..] -/
theorem rwE_neg {tl : TE} {ns : List Int} (h : RwE tl σ H ns) (hl : ns.length ≤ 10000) : RwE (tComp (iList K tl) 1 [] (gName 0) tTrue (tOp (rI0 fun i j => .int (i - j)) (tC (.int 0)) (tVar 0))) σ H (ns.map fun x => 0 - x) := fun H' s R q => by
  have z : (10000 : Nat) ≤ sizeLine := by decide
  refine h H' s _ fun a H1 s1 ha ga => ⟨a, rfl, ⟨_, .of ga⟩, comp_list (cp := []) (fun j H' zs => zs = ((ns.take j).map fun x => 0 - x).map V.int) (.of ga) (by rw [List.length_map]; omega) rfl
    (fun j H' zs e => by rw [e, List.length_map, List.length_map]; exact List.length_take_le _ _) ?_ ?_⟩
  · rintro j y H'' zs hy sm' rfl
    rw [List.getElem?_map] at hy
    cases f1 : ns[j]? with
    | none => rw [f1] at hy; cases hy
    | some y' =>
      rw [f1] at hy
      cases hy
      refine tgo ⟨_, rfl, _, _, rfl, rfl, ⟨[_], rfl, rfl⟩, sm', ?_⟩
      rw [List.take_add_one, f1]
      simp
  · rintro H2 zs sm rfl lh hlh
    rw [List.length_map, List.take_length]
    exact q lh _ (s1.trans (sm.trans (.upd hlh))) (none_of (s1.trans sm) hlh) upd_same
end
section
variable {P : Program} {w : World} {K : PySem.W.Frag} {mg : Str → Option Value} {base : Heap}
/-- [f(row) for row in rows], rows a list of lists: new lists -/
theorem comp_rwE {H : Hp} {la : Addr} {LS : List V} {L : List (List Int)} {g : List Int → List Int} {N : Addr → Prop} {Q : VK} {te : TE} {cp : St} (gl : H la = some (.lst LS)) (hL : LR N H LS L) (hz : L.length ≤ 1000)
    (te_of : ∀ (x : Addr) (r : List Int) (H1 : Hp), r ∈ L → Same H H1 → H1 x = some (.lst (r.map V.int)) → RwE te (some (.ref x) :: cp) H1 (g r))
    (done : ∀ H' MS, Same H H' → LR (fun a => H a = none) H' MS (L.map g) → ∀ l, H' l = none → Q (.ref l) (upd H' l (.lst MS))) :
    ∃ W : Nat → Nat → St → Hp → List V → Prop, (∃ m, W 0 m (List.replicate 1 none ++ cp) H []) ∧ CompW (Itl K la) (gName 0) tTrue te Q W := by
  have z1000 : (1000 : Nat) ≤ sizeLine := by decide
  have eL := hL.1
  refine comp_list (xs := LS) (cp := cp) (fun i H' zs => LR (fun a => H a = none) H' zs ((L.take i).map g)) (.of gl) (by omega) LR.nil
    (fun i H' zs h => by rw [h.1, List.length_map]; exact List.length_take_le _ _) ?_ ?_
  · rintro i x H' zs hx' sm h'
    obtain ⟨a, r, rfl, hr, _, ga⟩ := hL.get' hx'
    refine tgo (te_of a r H' (List.mem_of_getElem? hr) sm (sm _ _ ga) H' (.refl _) _ fun l H2 s2 hnl gl' => ⟨⟨[_], rfl, rfl⟩, sm.trans s2, ?_⟩)
    rw [List.take_add_one, hr]
    show LR _ H2 _ ((L.take i ++ [r]).map g)
    rw [List.map_append]
    exact (h'.mono s2).snoc (none_of sm hnl) gl'
  · rintro H' zs sm h' l hl
    rw [hL.1, List.take_length] at h'
    exact done H' zs sm h' l hl
/-! ### _law_then -/
noncomputable def spThn : Sp := fun vs H Q _ => ∃ (p : Int) (a b : Addr) (l m r : Nat) (A B : List (List Int)), vs = [.int p, .ref a, .ref b] ∧ p ∈ primesL ∧ Trp (fun _ => True) H a l m A ∧ Trp (fun _ => True) H b m r B ∧ Bw.Rws p (l + m) A ∧ Bw.Rws p (m + r) B ∧ A.length ≤ 400 ∧ B.length ≤ 400 ∧ l + m ≤ 400 ∧ m + r ≤ 400 ∧
  TellT H l r (D1.thenR p l m r A B) Q
noncomputable abbrev nTh : List Str := ["p", "one", "other", "left", "amid", "rows", "right", "row", "some", "spare", "thin"]
theorem scTh : FnScope ["p", "one", "other", "left", "amid", "rows", "right", "row", "some", "spare", "thin"] ["p", "one", "other"] (defScope s_law_then) := ⟨rfl, rfl, rfl, by decide +kernel, rfl, by decide +kernel, by decide +kernel⟩
theorem ok_thn {f fC : Addr} {fd fdC : FuncData} (F : Fun K "_law_then" "_law_then" s_law_then f fd) (T : Txt mg)
    (GC : FnOk P w K mg base CX0 2 fC fdC ["p", "rows", "places"] (spClr K)) (kC : PySem.W.keepIn K (.ref fC) = true) (bC : Binds K fdC ["p", "rows", "places"] []) (mC : mg "_law_cleared" = some (.ref fC)) :
    FnOk P w K mg base CX0 3 f fd ["p", "one", "other"] spThn := by
  refine F.ok scTh (fun vs H Q E h => ?_) (fun cdv A outer s H vs Q E hr h => ?_)
  · obtain ⟨p, a, b, l, m, r, A, B, rfl, _⟩ := h
    rfl
  · obtain ⟨p, a, b, l, m, r, RA, RB, rfl, pp, ⟨_, a1, AS, ga, _, ga1, hA⟩, ⟨_, b1, BS, gb, _, gb1, hB⟩, lA, lB, nA, nB, wA, wB, q⟩ := h
    have z1000 : (1000 : Nat) ≤ sizeLine := by decide
    have p0 : 0 < p := by have := prime_pos p pp; omega
    refine ⟨_, pss_cons (ps_asg (pv 1) (pg_lst rfl (pgs_cons (pg_name (i := 3) scTh.nd rfl (Or.inr rfl)) (pgs_cons (pg_name (i := 4) scTh.nd rfl (Or.inr rfl)) (pgs_cons (pg_name (i := 5) scTh.nd rfl (Or.inl rfl)) pgs_nil)))))
      (pss_cons (ps_set (i := 6) scTh.nd rfl (Or.inr rfl) (pe_ix (ixL K rfl) (pv 2) pe_int (fun _ _ => rfl)))
      (pss_cons (ps_setComp (i := 8) (N := ["row", "right"]) (own := 1) (caps := [6]) rfl scTh.nd rfl rfl (piList K rfl (pv 5))
          (show BlkScope nTh (defScope s_law_then) ["row", "right"] 1 [6] _ from .mk' (by decide +kernel)) (fun _ _ _ _ _ => pg_name (i := 0) nw1 rfl (Or.inl rfl)) (fun _ _ _ _ _ => pts_nil)
          (fun _ _ _ _ _ => pe_op op_cat (pv 0) (pe_op op_rep (pe_lst (pa_cons pe_int pa_nil)) (pv 1))))
      (pss_cons (ps_for PassesOwn.never rfl (piList K rfl (pe_ix (ixL K rfl) (pv 2) pe_int (fun _ _ => rfl))) (pg_name (i := 7) scTh.nd rfl (Or.inl rfl))
        (pss_one (ps_expr (pe_bm PySem.F.plainAttrs_list PySem.F.slot_list_append PySem.F.type_list_append mt_append (pv 8) (pa_cons
          (pe_op op_cat (pe_op op_cat (pe_op op_rep (pe_lst (pa_cons pe_int pa_nil)) (pv 3))
            (pe_comp (N := ["number"]) (own := 1) (caps := []) rfl (piList K rfl (pe_slice (slL K rfl) (pv 7) po_none (po_some (pv 4))))
              (show BlkScope nTh (defScope s_law_then) ["number"] 1 [] _ from .mk' (by decide +kernel)) (fun _ _ _ _ _ => pg_name (i := 0) nw2 rfl (Or.inl rfl)) (fun _ _ _ _ _ => pts_nil)
              (fun _ _ _ _ _ => pe_op op_sub pe_int (pv 0)))) (pe_slice (slL K rfl) (pv 7) (po_some (pv 4)) po_none)) pa_nil)))))
      (pss_cons (ps_set (i := 9) scTh.nd rfl (Or.inl rfl) (pe_ix (ixL K rfl) (pe_call GC hr rfl mC kC bC .nil pass0 (pa_cons (pv 0) (pa_cons (pv 8) (pa_cons (pe_callTy (call_list_rng rfl) rfl T.list bt_list (pa_cons (pe_callTy call_range2 rfl T.range bt_range (pa_cons (pv 3) (pa_cons (pe_op op_add (pv 3) (pv 4)) pa_nil))) pa_nil)) pa_nil)))) pe_int (fun _ _ => rfl)))
      (pss_cons (ps_setComp (i := 10) (N := ["row", "amid", "left"]) (own := 1) (caps := [4, 3]) rfl scTh.nd rfl rfl (piList K rfl (pv 9))
          (show BlkScope nTh (defScope s_law_then) ["row", "amid", "left"] 1 [4, 3] _ from .mk' (by decide +kernel)) (fun _ _ _ _ _ => pg_name (i := 0) nw3 rfl (Or.inl rfl)) (fun _ _ _ _ _ => pts_nil)
          (fun _ _ _ _ _ => pe_op op_cat (pe_slice (slL K rfl) (pv 0) po_none (po_some (pv 2))) (pe_slice (slL K rfl) (pv 0) (po_some (pe_op op_add (pv 2) (pv 1))) po_none)))
      (pss_one (ps_ret (pe_lst (pa_cons (pv 3) (pa_cons (pv 6) (pa_cons (pe_ix (ixL K rfl) (pe_call GC hr rfl mC kC bC .nil pass0 (pa_cons (pv 0) (pa_cons (pv 10) (pa_cons (pe_callTy (call_list_rng rfl) rfl T.list bt_list (pa_cons (pe_callTy call_range1 rfl T.range bt_range (pa_cons (pe_op op_add (pv 3) (pv 6)) pa_nil)) pa_nil)) pa_nil)))) pe_int (fun _ _ => rfl)) pa_nil))))))))))), ?_⟩
    refine ⟨_, rfl, gLst3_of (.of ga) ⟨_, rfl, b, _, 1, .int (r : Int), rfl, rfl, .of gb, atI_nat (j := 1) rfl, ?_⟩⟩
    -- some
    refine ⟨_, rfl, a1, rfl, ⟨_, .of ga1⟩, comp_rwE (g := D1.aheR r) (cp := [some (.int (r : Int))]) ga1 hA (by omega) (fun x row H1 hrow s1 gx => ?_) ?_⟩
    · have := (lA row hrow).1
      refine rwE_vcat (a := x) (ns := row) (ms := List.replicate r 0) rfl gx (rwE_rep (ie_v rfl) (by omega)) ?_
      rw [List.length_replicate]
      omega
    rintro H1 MS s1 hM ls hls
    have s2 : Same H (upd H1 ls (.lst MS)) := s1.trans (.upd hls)
    have g2 : (upd H1 ls (.lst MS)) ls = some (.lst MS) := upd_same
    have lsH : H ls = none := none_of s1 hls
    have hM2 : LR (fun x => x ≠ ls ∧ H x = none) (upd H1 ls (.lst MS)) MS (RA.map (D1.aheR r)) := ⟨hM.1, fun i v q e1 e2 => by
      obtain ⟨x, e, hx, gx⟩ := hM.2 i v q e1 e2
      have ne : x ≠ ls := fun z => by rw [z, hls] at gx; cases gx
      exact ⟨x, e, ⟨ne, hx⟩, by rw [upd_ne ne]; exact gx⟩⟩
    generalize upd H1 ls (.lst MS) = H2 at s2 g2 hM2 ⊢
    -- for row in other[2]
    refine ⟨_, rfl, b, _, 2, .ref b1, rfl, rfl, .of (s2 _ _ gb), atI_nat (j := 2) rfl, b1, rfl, ⟨_, .of (s2 _ _ gb1)⟩, for_list (xs := BS) (fun i σ H' => Same H H' ∧ ∃ ZS s7, σ = [some (.int p), some (.ref a), some (.ref b), some (.int (l : Int)), some (.int (m : Int)), some (.ref a1), some (.int (r : Int)), s7, some (.ref ls), none, none] ∧ H' ls = some (.lst ZS) ∧ LR (fun x => x ≠ ls ∧ H x = none) H' ZS (RA.map (D1.aheR r) ++ (RB.take i).map (D1.folR l m)))
      ⟨s2, MS, none, rfl, g2, by rw [List.take_zero, List.map_nil, List.append_nil]; exact hM2⟩ (fun i σ H' _ ⟨sm, _⟩ => .of (sm _ _ gb1)) ?_ ?_⟩
    · clear hM hM2 g2 s2 s1 hls
      rintro i x σ H1 hx ⟨sm, ZS, s9, rfl, g, hZ⟩
      obtain ⟨ra, row, rfl, hri, _, gr⟩ := hB.get' hx
      have hw := (lB row (List.mem_of_getElem? hri)).1
      have gr1 := sm _ _ gr
      dsimp only [gName]
      refine app_row (i := 8) (ns := D1.folR l m row) rfl g lsH sm hZ (by rw [List.length_append, List.length_map, List.length_map, List.length_take]; omega) ?_ ?_
      · refine rwE_cat (rwE_cat (rwE_rep (ie_v rfl) (by omega)) (rwE_neg (rwE_take (a := ra) (ns := row) rfl gr1 (ie_v rfl) (by omega)) ?_) ?_) (rwE_drop (a := ra) (ns := row) rfl gr1 (ie_v rfl) (by omega)) ?_
        all_goals simp only [List.length_append, List.length_take, List.length_drop, List.length_replicate, List.length_map]
        all_goals omega
      · intro H' ZS' sm' g' hZ'
        refine ⟨sm', ZS', _, rfl, g', ?_⟩
        rw [List.take_add_one, hri]
        show LR _ H' ZS' (_ ++ (RB.take i ++ [row]).map _)
        rw [List.map_append, ← List.append_assoc]
        exact hZ'
    clear hM hM2 g2 s2 s1 hls
    rintro σ H3 ⟨sm, ZS, s7, rfl, g, hZ⟩
    rw [hB.1, List.take_length] at hZ
    have hZ : LR (fun x => x ≠ ls ∧ H x = none) H3 ZS (D1.someR l m r RA RB) := hZ
    have S0 := D1.some_spr p0 lA lB
    have S1 := D1.cl_spr pp S0 m
    have sl : (D1.someR l m r RA RB).length ≤ 800 := by
      unfold D1.someR
      rw [List.length_append, List.length_map, List.length_map]
      omega
    have nr := (cl_near pp (lo := l) (fun q hq => (⟨S0.len q hq, S0.near q hq⟩ : Rn p (l + m + r) q)) m).2.2.2
    have hTh := D1.thin_rws pp lA lB
    have thn_len : (D1.thenR p l m r RA RB).length ≤ l + r := (D1.cl_red pp hTh (l + r) (Nat.le_refl _)).len (Nat.le_refl _)
    -- spare
    refine ⟨_, rfl, _, rfl, _, rfl, _, rfl, _, rfl, _, _, rfl, rfl, _, _, rfl, fun pr hpr => ⟨pr, _, _, rfl, upd_same, ⟨by omega, by omega, by omega, by omega⟩, by omega, fun lp hlp => ?_⟩⟩
    have s4 := (Same.upd hpr (o := .rng (l : Int) ((l : Int) + (m : Int)))).trans (Same.upd hlp (o := .lst ((List.range ((l : Int) + (m : Int) - (l : Int)).toNat).map fun (k : Nat) => V.int ((l : Int) + k))))
    refine ⟨p, ls, lp, ZS, D1.someR l m r RA RB, l + m + r, l, m, rfl, pp, s4 _ _ g, (hZ.mono s4).weak fun _ _ => trivial, by omega, by omega, fun q hq => ⟨S0.len q hq, S0.near q hq⟩, by omega, ?_, ?_⟩
    · rw [upd_same]
      have := rngL l m
      rw [Int.natCast_add] at this
      exact congrArg (fun z => some (HO.lst z)) this
    intro t1 f1 sp FS GS H4 s5 ht1 gt1 _ _ _ hsp gsp hG
    refine ⟨t1, _, 1, .ref sp, rfl, rfl, .of gt1, atI_nat (j := 1) rfl, ?_⟩
    have s6 := (sm.trans s4).trans s5
    -- thin
    refine ⟨_, rfl, sp, rfl, ⟨_, .of gsp⟩, comp_rwE (g := D1.cutR l m) (cp := [some (.int (m : Int)), some (.int (l : Int))]) gsp hG (by omega) (fun x row H1 hrow s1 gx => ?_) ?_⟩
    · have hw := S1.len row hrow
      refine rwE_cat (rwE_take (a := x) (ns := row) rfl gx (ie_v rfl) (by omega)) (rwE_drop (a := x) (ns := row) (k := l + m) rfl gx ?_ (by omega)) ?_
      · rw [Int.natCast_add]
        exact ie_add (ie_v rfl) (ie_v rfl)
      · simp only [List.length_take, List.length_drop]
        omega
    rintro H5 TS s7 hT lt hlt
    have s8 : Same H (upd H5 lt (.lst TS)) := (s6.trans s7).trans (.upd hlt)
    have g8 : (upd H5 lt (.lst TS)) lt = some (.lst TS) := upd_same
    have hT8 := hT.mono (Same.upd hlt (o := .lst TS))
    generalize upd H5 lt (.lst TS) = H6 at s8 g8 hT8 ⊢
    have hT8 : LR (fun a => H4 a = none) H6 TS (D1.thinR p l m r RA RB) := hT8
    have thl : (D1.thinR p l m r RA RB).length ≤ 800 := by
      unfold D1.thinR
      rw [List.length_map]
      omega
    refine ⟨_, rfl, _, rfl, _, rfl, _, rfl, _, rfl, _, rfl, _, _, rfl, rfl, _, rfl, fun pr hpr => ⟨pr, _, _, rfl, upd_same, ⟨by decide, by decide, by omega, by omega⟩, by omega, fun lp hlp => ?_⟩⟩
    have s9 := (Same.upd hpr (o := .rng 0 ((l : Int) + (r : Int)))).trans (Same.upd hlp (o := .lst ((List.range ((l : Int) + (r : Int) - 0).toNat).map fun (k : Nat) => V.int (0 + k))))
    refine ⟨p, lt, lp, TS, D1.thinR p l m r RA RB, l + r, 0, l + r, rfl, pp, s9 _ _ g8, (hT8.mono s9).weak fun _ _ => trivial, by omega, by omega, fun q hq => .of (hTh q hq), by omega, ?_, ?_⟩
    · rw [upd_same]
      have := rngL 0 (l + r)
      rw [Nat.zero_add, Int.natCast_add] at this
      exact congrArg (fun z => some (HO.lst z)) this
    intro t2 f2 sp2 FS2 GS2 H7 s10 ht2 gt2 hf2 gf2 hF2 _ _ _
    have s11 := s8.trans s9
    refine ⟨t2, _, 0, .ref f2, rfl, rfl, .of gt2, atI_nat (j := 0) rfl, by show 3 ≤ sizeLine; decide, fun t ht => ?_⟩
    have s12 := s11.trans s10
    exact q t _ (s12.trans (.upd ht)) ⟨none_of s12 ht, f2, FS2, upd_same, none_of s11 hf2, Same.upd ht _ _ gf2, (hF2.mono (.upd ht)).weak fun x z => none_of s11 z⟩
end
end S21
/-! exceptions of the program's own classes: `raise C(..)`, a call that passes one on, `try: f(..)` / `except W as e: x = e`, and isinstance of what was caught -/
namespace L2
open PySem PySem.Spec PyProof.Rows
set_option maxRecDepth 100000
section
variable {P : Program} {w : World} {fs fs' : List Addr} {H H1 : Hp} {h h1 h2 B : Heap}
end
section
variable {P : Program} {w : World} {K : PySem.W.Frag} {mg : Str → Option Value} {base : Heap} {N : List Str} {qual : Str} {scope : Scope} {f C : Addr} {cd : Value} {A : Around} {outer : List Env} {s : Shared} {H : Hp} {E : XK}
end
section
variable {P : Program} {w : World} {K : PySem.W.Frag} {mg : Str → Option Value} {base : Heap}
end
/-! ### raise C(..) -/
section
variable {X : Cx} {x : Str} {np cpos pos : Pos} {C : Addr} {bmB : List Value} {B newId initId : String} {e₀ : Expr} {rest : List Expr} {t : TA} {E : XK}
end
/-! ### a name goes -/
end L2
namespace L2
open PySem PySem.Spec PyProof.Rows
open PySem.W (Looks)
open PySem.Builtin PySem.Builtin.ObjectAttr PySem.Builtin.Getset_descriptor
set_option maxRecDepth 100000
section
variable {X : Cx} {C W ea : Addr} {pins : List (Addr × Obj)} {σ : St} {H1 H' : Hp} {s1 s' : Shared} {B : Heap} {a0 : Value}
end
section
variable {X : Cx} {C W f : Addr} {k : Nat} {fd : FuncData} {ps : List Str} {sp : Sp} {x wn n y : Str} {p cp ep wp np yp ap hp pos : Pos} {e : Expr} {es : List Expr} {t : TA} {ix ie : Nat}
end
/-! ### isinstance of an exception -/
section
variable {prog : Program} {w : World} {A : Around} {E : Value → Shared → Prop} {K : PySem.W.Frag} {C a : Addr}
end
section
variable {X : Cx} (K : PySem.W.Frag) (hK : X.K = K)
include hK
theorem cIsS {T : String} : CallR X (.builtin "isinstance") (fun xs H Q => ∃ x b, xs = [.str x, .ty T] ∧ PySem.W.kitOne K (.type "str") (.type T) = some b ∧ Q (.bl b) H) := by
  subst hK
  intro pins s σ H vs us Q I r ⟨x, b, e, k, q⟩
  exact call_isinst pins s σ H vs us Q I r ⟨_, _, b, e, .str x, k, q⟩
end
end L2
namespace S21
open PySem L2 Bw
set_option maxHeartbeats 3900000
theorem cIsW {X : Cx} (K : PySem.W.Frag) (hK : X.K = K) {T : String} : CallR X (.builtin "isinstance") (fun xs H Q => ∃ (x : V) (b : Bool), xs = [x, .ty T] ∧ ((∃ i, x = .int i ∧ PySem.W.kitOne K (.type "int") (.type T) = some b) ∨ ∃ s, x = .str s ∧ PySem.W.kitOne K (.type "str") (.type T) = some b) ∧ Q (.bl b) H) := by
  rintro pins s σ H vs us Q I r ⟨x, b, e, h | h, q⟩
  · obtain ⟨i, rfl, k⟩ := h
    exact cIsI K hK pins s σ H vs us Q I r ⟨i, b, e, k, q⟩
  · obtain ⟨y, rfl, k⟩ := h
    exact cIsS K hK pins s σ H vs us Q I r ⟨y, b, e, k, q⟩
/-! ### what is held while words are read from the right -/
inductive Held (p : Int) (hl : Addr) (H : Hp) : List D1.Dr → List V → Prop where
  | nil : Held p hl H [] []
  | cons {a : Addr} {d : D1.Dr} {ds : List D1.Dr} {HS : List V} (h : Trp (· ≠ hl) H a d.l d.r (d.rows p)) (r : Held p hl H ds HS) : Held p hl H (d :: ds) (HS ++ [.ref a])
section
variable {p : Int} {hl : Addr} {H H' : Hp} {ds : List D1.Dr} {HS : List V}
theorem Held.mono (h : Held p hl H ds HS) (s : Same H H') : Held p hl H' ds HS := by
  induction h with
  | nil => exact .nil
  | cons h _ ih => exact .cons (h.mono s) ih
theorem Held.wr {o : HO} (h : Held p hl H ds HS) : Held p hl (upd H hl o) ds HS := by
  induction h with
  | nil => exact .nil
  | cons h _ ih => exact .cons h.wr ih
theorem Held.len (h : Held p hl H ds HS) : HS.length = ds.length := by
  induction h with
  | nil => rfl
  | cons _ _ ih => rw [List.length_append, ih]; rfl
theorem Held.pop {d : D1.Dr} (h : Held p hl H (d :: ds) HS) : ∃ a HS', HS = HS' ++ [.ref a] ∧ Trp (· ≠ hl) H a d.l d.r (d.rows p) ∧ Held p hl H ds HS' := by
  cases h with
  | cons h r => exact ⟨_, _, rfl, h, r⟩
theorem last_of {a : Addr} : (HS ++ [V.ref a])[(HS ++ [V.ref a]).length - 1]? = some (.ref a) := by simp
theorem drop_of {a : Addr} : (HS ++ [V.ref a]).dropLast = HS := by simp
end
section
variable {P : Program} {w : World} {K : PySem.W.Frag} {mg : Str → Option Value} {base : Heap}
/-! ### _law_meaning -/
noncomputable def spMean (K : PySem.W.Frag) : Sp := fun vs H Q _ => ∃ (p : Int) (a : Addr) (d : D1.Dr), vs = [.int p, .ref a] ∧ p ∈ primesL ∧ H a = some (.lst (d.words.map wdV)) ∧ d.wf p ∧ d.nar 64 ∧ d.words.length ≤ 9000000 ∧
  ∀ t H' b TS, Same H H' → H' t = some (.lst [.int (d.l : Int), .int (d.r : Int), .ref b]) → SqT K H' b TS → HasA K H' TS ((redM p (d.rows p)).map intsT) → Q (.ref t) H'
noncomputable abbrev nMn : List Str := ["p", "words", "held", "number", "back", "word", "left", "right", "rows", "one"]
theorem scMn : FnScope ["p", "words", "held", "number", "back", "word", "left", "right", "rows", "one"] ["p", "words"] (defScope s_law_meaning) := ⟨rfl, rfl, rfl, by decide +kernel, rfl, by decide +kernel, by decide +kernel⟩
theorem ny1 : (["row", "left"] : List Str).Nodup := by decide +kernel
noncomputable def tApp2 (K : PySem.W.Frag) (te : TE) : TS := tDrop (tBM K "list" rAppend (tVar 2) (tCons te tNil))
noncomputable def tPop2 (K : PySem.W.Frag) : TE := tBM0 K "list" rPop (tVar 2)
noncomputable def tIsW (K : PySem.W.Frag) : TT := tTest (tCB (fun xs H Q => ∃ (x : V) (b : Bool), xs = [x, .ty "int"] ∧ ((∃ i, x = .int i ∧ PySem.W.kitOne K (.type "int") (.type "int") = some b) ∨ ∃ s, x = .str s ∧ PySem.W.kitOne K (.type "str") (.type "int") = some b) ∧ Q (.bl b) H) (tCons (tVar 5) (tCons (tC (.ty "int")) tNil)))
noncomputable def tW5 (x : String) : TT := tTest (tOp rEq (tVar 5) (tC (.str x)))
noncomputable def tBackC (K : PySem.W.Frag) : TS := tSeq (tAsg (tPop2 K) (gLst K 3 (gCons (gName 6) (gCons (gName 7) (gCons (gName 8) gNil)))))
  (tApp2 K (tLst (tCons (tVar 7) (tCons (tVar 6) (tCons (tComp (iList K (tVar 8)) 1 [6] (gName 0) tTrue (tOp rCat (tSl (rSlL K) (tVar 0) (tPart (tVar 1)) tNoPart) (tSl (rSlL K) (tVar 0) tNoPart (tPart (tVar 1))))) tNil)))))
noncomputable def tThenC (K : PySem.W.Frag) : TS := tSeq (tAsg (tPop2 K) (gName 9)) (tApp2 K (tCall spThn [] E0 (tCons (tVar 0) (tCons (tVar 9) (tCons (tPop2 K) tNil)))))
noncomputable def tBesC (K : PySem.W.Frag) : TS := tSeq (tAsg (tPop2 K) (gName 9)) (tApp2 K (tCall spBes [] E0 (tCons (tVar 9) (tCons (tPop2 K) tNil))))
noncomputable def tBoxC (K : PySem.W.Frag) : TS := tApp2 K (tCall spBox [] E0 (tCons (tVar 0) (tCons (tVar 5) (tCons (tOp (rIxL K) (tLst (tCons (tC (.int 1)) (tCons (tVar 3) tNil))) (tCB (fun xs H Q => (∃ i, xs = [.int i] ∧ Q (.int i) H) ∨ ∃ k, xs = [.bl k] ∧ Q (.int (if k then 1 else 0)) H) (tCons (tOp rEq (tVar 5) (tC (.str "times"))) tNil))) tNil))))
/-- a triple is put on top of what is held -/
theorem app_held {p : Int} {te : TE} {D : Ends} {σ : St} {H0 H : Hp} {hl : Addr} {HS : List V} {ds : List D1.Dr} {d : D1.Dr} (hi : σ[2]? = some (some (.ref hl)))
    (gl : H hl = some (.lst HS))
    (h : ∀ R : VK, (∀ a H1 HS1, Same H0 H1 → H1 hl = some (.lst HS1) → HS1.length ≤ 9000000 → Held p hl H1 ds HS1 → Trp (· ≠ hl) H1 a d.l d.r (d.rows p) → R (.ref a) H1) → te σ H R) (hlH : H0 hl = none)
    (k : ∀ H' HS', Same H0 H' → H' hl = some (.lst HS') → Held p hl H' (d :: ds) HS' → D.nx σ H') : tApp2 K te D σ H := by
  have z : (9000000 : Nat) < sizeLine := by decide
  refine ⟨_, hi, .inl ⟨rfl, _, SqL.of gl⟩, h _ fun a H1 HS1 s1 g1 z1 h1 t1 => ⟨hl, HS1, .ref a, rfl, rfl, g1, by omega, ?_⟩⟩
  exact k _ _ (s1.write hlH) upd_same (.cons t1.wr h1.wr)
theorem fresh_ne {H H1 : Hp} {hl : Addr} {o : HO} {a : Addr} {l r : Nat} {rows : List (List Int)} (g : H hl = some o) (t : Trp (fun x => H x = none) H1 a l r rows) : Trp (· ≠ hl) H1 a l r rows := t.weak fun x hx e => by
  rw [e, g] at hx
  cases hx
/-- a word that is not among these names -/
noncomputable def tPickW (K : PySem.W.Frag) : TS := tIfS (tIsW K) (tAsg (tVar 5) (gName 3)) (tIfS (tW5 "back") (tBackC K) (tIfS (tW5 "then") (tThenC K) (tIfS (tW5 "beside") (tBesC K) (tBoxC K))))
theorem str_dec {x y : Str} : decide (V.str x = V.str y) = decide (x = y) := by
  by_cases h : x = y
  · rw [decide_eq_true h, decide_eq_true (congrArg V.str h)]
  · rw [decide_eq_false h, decide_eq_false fun z => h (V.str.inj z)]
theorem w5_no {x : Str} {y : String} {t u : TS} {D : Ends} {σ : St} {H : Hp} (h5 : σ[5]? = some (some (.str x))) (hne : x ≠ Str.ofString y) (h : u D σ H) : tIfS (tW5 y) t u D σ H := by
  refine ⟨_, h5, rfl, _, rfl, ?_⟩
  rw [str_dec, decide_eq_false hne]
  exact iteF h
theorem w5_yes {y : String} {t u : TS} {D : Ends} {σ : St} {H : Hp} (h5 : σ[5]? = some (some (.str (Str.ofString y)))) (h : t D σ H) : tIfS (tW5 y) t u D σ H := by
  refine ⟨_, h5, rfl, _, rfl, ?_⟩
  rw [decide_eq_true rfl]
  exact iteT h
theorem isW_no {x : Str} {t u : TS} {D : Ends} {σ : St} {H : Hp} (h5 : σ[5]? = some (some (.str x))) (h : u D σ H) : tIfS (tIsW K) t u D σ H :=
  ⟨_, h5, _, false, rfl, .inr ⟨x, rfl, kit_str_int K⟩, _, rfl, iteF h⟩
theorem isW_yes {i : Int} {t u : TS} {D : Ends} {σ : St} {H : Hp} (h5 : σ[5]? = some (some (.int i))) (h : t D σ H) : tIfS (tIsW K) t u D σ H :=
  ⟨_, h5, _, true, rfl, .inl ⟨i, rfl, kit_int_int K⟩, _, rfl, iteT h⟩
structure MnC (p : Int) (d0 : D1.Dr) (wl hl : Addr) (H0 : Hp) (D : Ends) (i : Nat) : Prop where
  hlH : H0 hl = none
  nx : ∀ num s4 s5 s6 s7 s8 s9 HS' H', Same H0 H' → H' hl = some (.lst HS') → Held p hl H' (D1.stS (none, [d0]) i).2 HS' → (∀ m, (D1.stS (none, [d0]) i).1 = some m → num = m) → D.nx [some (.int p), some (.ref wl), some (.ref hl), some (.int num), s4, s5, s6, s7, s8, s9] H'
theorem box_turn {p : Int} {d0 d : D1.Dr} {ds : List D1.Dr} {wl hl : Addr} {H0 H : Hp} {D : Ends} {i : Nat} {x : String} {num n' : Int} {s4 s6 s7 s8 s9 : Option V} {HS : List V} (C : MnC p d0 wl hl H0 D i) (e : D1.stS (none, [d0]) i = (none, d :: ds))
    (sm : Same H0 H) (g : H hl = some (.lst HS)) (hz : HS.length ≤ 9000000) (h : Held p hl H ds HS) (hn : n' = if x = "times" then num else 1) (hb : boxT (Str.ofString x) n' = (d.l, d.r, d.rows p)) (hx : decide (Str.ofString x = Str.ofString "times") = decide (x = "times"))
    (n1 : Str.ofString x ≠ Str.ofString "back") (n2 : Str.ofString x ≠ Str.ofString "then") (n3 : Str.ofString x ≠ Str.ofString "beside") :
    tPickW K D [some (.int p), some (.ref wl), some (.ref hl), some (.int num), s4, some (.str (Str.ofString x)), s6, s7, s8, s9] H := by
  refine isW_no rfl (w5_no rfl n1 (w5_no rfl n2 (w5_no rfl n3 ?_)))
  refine app_held (d := d) (ds := ds) rfl g (fun R k => ?_) C.hlH fun H' HS' s' g' h' => C.nx _ _ _ _ _ _ _ HS' H' s' g' (by rw [e]; exact h') (fun m hm => by rw [e] at hm; cases hm)
  refine ⟨_, rfl, _, rfl, _, rfl, by show 2 ≤ sizeLine; decide, fun l hl' => ⟨_, rfl, rfl, .inr ⟨_, rfl, ?_⟩⟩⟩
  have s1 : Same H (upd H l (.lst [.int 1, .int num])) := .upd hl'
  have fin : ∀ idx v, idx = (if decide (x = "times") = true then (1 : Int) else 0) → atI [V.int 1, V.int num] idx = some v → v = .int n' → (rIxL K) (.ref l) (.int idx) (upd H l (.lst [.int 1, .int num])) fun v H' => spBox [.int p, .str (Str.ofString x), v] H' R E0 := fun idx v e1 e2 e3 => by
    subst e3
    refine ⟨l, _, idx, _, rfl, rfl, .of upd_same, e2, p, Str.ofString x, n', rfl, ?_⟩
    rw [hb]
    intro a H2 s2 t2
    exact k a H2 HS ((sm.trans s1).trans s2) ((s1.trans s2) _ _ g) hz (h.mono (s1.trans s2)) (fresh_ne (s1 _ _ g) t2)
  rw [str_dec, hx]
  refine fin _ (.int n') rfl ?_ rfl
  rw [hn]
  by_cases ht : x = "times"
  · rw [if_pos ht, decide_eq_true ht, if_pos rfl]
    exact atI_nat (j := 1) rfl
  · rw [if_neg ht, decide_eq_false ht, if_neg Bool.false_ne_true]
    exact atI_nat (j := 0) rfl
/-- what is held, less its top -/
theorem pop_read {p : Int} {σ : St} {H0 H : Hp} {hl : Addr} {HS : List V} {ds : List D1.Dr} {d : D1.Dr} {Q : VK} (hi : σ[2]? = some (some (.ref hl))) (g : H hl = some (.lst HS)) (h : Held p hl H (d :: ds) HS) (hz : HS.length ≤ 9000000) (sm : Same H0 H) (hlH : H0 hl = none)
    (k : ∀ a H1 HS1, Same H0 H1 → H1 hl = some (.lst HS1) → HS1.length ≤ 9000000 → Held p hl H1 ds HS1 → (∀ {b : Addr} {l r : Nat} {rows : List (List Int)}, Trp (· ≠ hl) H b l r rows → Trp (· ≠ hl) H1 b l r rows) → Trp (· ≠ hl) H1 a d.l d.r (d.rows p) → Q (.ref a) H1) : tPop2 K σ H Q := by
  obtain ⟨a, HS', rfl, t, h'⟩ := h.pop
  refine ⟨_, hi, .inl ⟨rfl, _, SqL.of g⟩, hl, _, .ref a, rfl, rfl, g, last_of, ?_⟩
  rw [drop_of]
  rw [List.length_append] at hz
  exact k a _ HS' (sm.write hlH) upd_same (by omega) h'.wr (fun t => t.wr) t.wr
theorem back_turn {p : Int} {d0 d : D1.Dr} {ds : List D1.Dr} {wl hl : Addr} {H0 H : Hp} {D : Ends} {i : Nat} {num : Int} {s4 s6 s7 s8 s9 : Option V} {HS : List V} (C : MnC p d0 wl hl H0 D i) (e : D1.stS (none, [d0]) i = (none, .back d :: ds))
    (sm : Same H0 H) (g : H hl = some (.lst HS)) (hz : HS.length ≤ 9000000) (h : Held p hl H (d :: ds) HS) (hR : ∀ q ∈ d.rows p, q.length = d.l + d.r) (hn : (d.rows p).length ≤ 400) (hw : d.l + d.r ≤ 400) :
    tPickW K D [some (.int p), some (.ref wl), some (.ref hl), some (.int num), s4, some (.str (Str.ofString "back")), s6, s7, s8, s9] H := by
  refine isW_no rfl (w5_yes rfl ?_)
  refine pop_read (p := p) (d := d) (ds := ds) rfl g h hz sm C.hlH fun a H1 HS1 s1 g1 z1 h1 _ t1 => ?_
  obtain ⟨na, b, XS, ga, nb, gb, hL⟩ := t1
  refine gLst3_of (.of ga) ?_
  refine app_held (d := .back d) (ds := ds) rfl g1 (fun R k => ?_) C.hlH fun H' HS' s' g' h' => C.nx _ _ _ _ _ _ _ HS' H' s' g' (by rw [e]; exact h') (fun m hm => by rw [e] at hm; cases hm)
  refine ⟨_, rfl, _, rfl, _, rfl, b, rfl, ⟨_, .of gb⟩, comp_rwE (g := D1.backR d.l) (cp := [some (.int (d.l : Int))]) gb hL (by omega) (fun x row H2 hrow s2 gx => ?_) ?_⟩
  · have hw2 := hR row hrow
    refine rwE_cat (rwE_drop (a := x) (ns := row) rfl gx (ie_v rfl) (by omega)) (rwE_take (a := x) (ns := row) rfl gx (ie_v rfl) (by omega)) ?_
    simp only [List.length_take, List.length_drop]
    omega
  · rintro H2 MS s2 hM lm hlm
    refine ⟨by show 3 ≤ sizeLine; decide, fun t ht => ?_⟩
    obtain ⟨s3, t3⟩ := Trp.new (l := d.r) (r := d.l) s2 hM hlm ht
    exact k t _ HS1 (s1.trans s3) (s3 _ _ g1) z1 (h1.mono s3) (fresh_ne g1 t3)
theorem then_turn {p : Int} {d0 a b : D1.Dr} {ds : List D1.Dr} {wl hl : Addr} {H0 H : Hp} {D : Ends} {i : Nat} {num : Int} {s4 s6 s7 s8 s9 : Option V} {HS : List V} (pp : p ∈ primesL) (C : MnC p d0 wl hl H0 D i) (e : D1.stS (none, [d0]) i = (none, .thn a b :: ds))
    (sm : Same H0 H) (g : H hl = some (.lst HS)) (hz : HS.length ≤ 9000000) (h : Held p hl H (a :: b :: ds) HS) (hab : b.l = a.r) (ra : Bw.Rws p (a.l + a.r) (a.rows p)) (rb : Bw.Rws p (b.l + b.r) (b.rows p)) (na : (a.rows p).length ≤ 400) (nb : (b.rows p).length ≤ 400) (wa : a.l + a.r ≤ 400) (wb : b.l + b.r ≤ 400) :
    tPickW K D [some (.int p), some (.ref wl), some (.ref hl), some (.int num), s4, some (.str (Str.ofString "then")), s6, s7, s8, s9] H := by
  refine isW_no rfl (w5_no rfl (by decide) (w5_yes rfl ?_))
  refine pop_read (p := p) (d := a) (ds := b :: ds) rfl g h hz sm C.hlH fun aa H1 HS1 s1 g1 z1 h1 _ t1 => ?_
  refine app_held (d := .thn a b) (ds := ds) rfl g1 (fun R k => ?_) C.hlH fun H' HS' s' g' h' => C.nx _ _ _ _ _ _ _ HS' H' s' g' (by rw [e]; exact h') (fun m hm => by rw [e] at hm; cases hm)
  refine ⟨_, rfl, _, rfl, ?_⟩
  refine pop_read (p := p) (d := b) (ds := ds) rfl g1 h1 z1 s1 C.hlH fun bb H2 HS2 s2 g2 z2 h2 up t2 => ?_
  rw [hab] at t2 rb wb
  refine ⟨p, aa, bb, a.l, a.r, b.r, _, _, rfl, pp, (up t1).weak fun _ _ => trivial, t2.weak fun _ _ => trivial, ra, rb, na, nb, wa, wb, fun t H3 s3 t3 => ?_⟩
  exact k t H3 HS2 (s2.trans s3) (s3 _ _ g2) z2 (h2.mono s3) (fresh_ne g2 t3)
theorem bes_turn {p : Int} {d0 a b : D1.Dr} {ds : List D1.Dr} {wl hl : Addr} {H0 H : Hp} {D : Ends} {i : Nat} {num : Int} {s4 s6 s7 s8 s9 : Option V} {HS : List V} (C : MnC p d0 wl hl H0 D i) (e : D1.stS (none, [d0]) i = (none, .beside a b :: ds))
    (sm : Same H0 H) (g : H hl = some (.lst HS)) (hz : HS.length ≤ 9000000) (h : Held p hl H (a :: b :: ds) HS) (ra : Bw.Rws p (a.l + a.r) (a.rows p)) (rb : Bw.Rws p (b.l + b.r) (b.rows p)) (na : (a.rows p).length ≤ 400) (nb : (b.rows p).length ≤ 400) (wa : a.l + a.r ≤ 400) (wb : b.l + b.r ≤ 400) :
    tPickW K D [some (.int p), some (.ref wl), some (.ref hl), some (.int num), s4, some (.str (Str.ofString "beside")), s6, s7, s8, s9] H := by
  refine isW_no rfl (w5_no rfl (by decide) (w5_no rfl (by decide) (w5_yes rfl ?_)))
  refine pop_read (p := p) (d := a) (ds := b :: ds) rfl g h hz sm C.hlH fun aa H1 HS1 s1 g1 z1 h1 _ t1 => ?_
  refine app_held (d := .beside a b) (ds := ds) rfl g1 (fun R k => ?_) C.hlH fun H' HS' s' g' h' => C.nx _ _ _ _ _ _ _ HS' H' s' g' (by rw [e]; exact h') (fun m hm => by rw [e] at hm; cases hm)
  refine ⟨_, rfl, ?_⟩
  refine pop_read (p := p) (d := b) (ds := ds) rfl g1 h1 z1 s1 C.hlH fun bb H2 HS2 s2 g2 z2 h2 up t2 => ?_
  refine ⟨aa, bb, a.l, a.r, b.l, b.r, _, _, rfl, (up t1).weak fun _ _ => trivial, t2.weak fun _ _ => trivial, fun q hq => (ra q hq).1, fun q hq => (rb q hq).1, na, nb, wa, wb, fun t H3 s3 t3 => ?_⟩
  exact k t H3 HS2 (s2.trans s3) (s3 _ _ g2) z2 (h2.mono s3) (fresh_ne g2 t3)
end
end S21
namespace S21
open PySem L2 Bw
set_option maxHeartbeats 3900000
section
variable {P : Program} {w : World} {K : PySem.W.Frag} {mg : Str → Option Value} {base : Heap}
/-- the rows of a part of what is drawn -/
theorem part_ok {p : Int} (pp : p ∈ primesL) {d : D1.Dr} (h : d.wf p ∧ d.nar 64) : Bw.Rws p (d.l + d.r) (d.rows p) ∧ (d.rows p).length ≤ 400 ∧ d.l + d.r ≤ 400 := by
  obtain ⟨h1, h2, _⟩ := D1.rows_ok pp h.1
  have := D1.nar_le (B := 64) (by decide) h.2
  exact ⟨h1, by omega, by omega⟩
theorem pick_read {p : Int} {d0 : D1.Dr} {wl hl : Addr} {H0 H : Hp} {D : Ends} {i : Nat} {num : Int} {s4 s6 s7 s8 s9 : Option V} {HS : List V} {wd : D1.Wd} (pp : p ∈ primesL) (C : MnC p d0 wl hl H0 D i) (ok : D1.okS p 64 (D1.stS (none, [d0]) i))
    (hw : (D1.wordsS (D1.stS (none, [d0]) i))[0]? = some wd) (sm : Same H0 H) (g : H hl = some (.lst HS)) (hz : HS.length ≤ 9000000) (h : Held p hl H (D1.stS (none, [d0]) (i + 1)).2 HS) (hn : ∀ m, (D1.stS (none, [d0]) (i + 1)).1 = some m → num = m) :
    tPickW K D [some (.int p), some (.ref wl), some (.ref hl), some (.int num), s4, some (wdV wd), s6, s7, s8, s9] H := by
  have e1 : D1.stS (none, [d0]) (i + 1) = D1.nxt (D1.stS (none, [d0]) i) := rfl
  rw [e1] at h hn
  generalize hs : D1.stS (none, [d0]) i = st at h hn ok hw
  obtain ⟨ν, ds⟩ := st
  cases ν with
  | some m =>
    cases hw
    exact isW_yes rfl ⟨_, rfl, C.nx _ _ _ _ _ _ _ HS H sm g (by rw [hs]; exact h) (fun m' hm => by rw [hs] at hm; cases hm; rfl)⟩
  | none =>
    cases ds with
    | nil => cases hw
    | cons d ds =>
      have hd := ok.2 d List.mem_cons_self
      cases d with
      | times n =>
        cases hw
        have : num = n := hn n rfl
        subst this
        exact box_turn (x := "times") (n' := num) C hs sm g hz h rfl rfl (by decide) (by decide) (by decide) (by decide)
      | id => cases hw; exact box_turn (x := "id") (n' := 1) C hs sm g hz h rfl rfl (by decide) (by decide) (by decide) (by decide)
      | swap => cases hw; exact box_turn (x := "swap") (n' := 1) C hs sm g hz h rfl rfl (by decide) (by decide) (by decide) (by decide)
      | copy => cases hw; exact box_turn (x := "copy") (n' := 1) C hs sm g hz h rfl rfl (by decide) (by decide) (by decide) (by decide)
      | fin => cases hw; exact box_turn (x := "end") (n' := 1) C hs sm g hz h rfl rfl (by decide) (by decide) (by decide) (by decide)
      | add => cases hw; exact box_turn (x := "add") (n' := 1) C hs sm g hz h rfl rfl (by decide) (by decide) (by decide) (by decide)
      | none => cases hw; exact box_turn (x := "none") (n' := 1) C hs sm g hz h rfl rfl (by decide) (by decide) (by decide) (by decide)
      | cup => cases hw; exact box_turn (x := "cup") (n' := 1) C hs sm g hz h rfl rfl (by decide) (by decide) (by decide) (by decide)
      | empty => cases hw; exact box_turn (x := "empty") (n' := 1) C hs sm g hz h rfl rfl (by decide) (by decide) (by decide) (by decide)
      | back d =>
        cases hw
        obtain ⟨r1, r2, r3⟩ := part_ok pp (d := d) hd
        exact back_turn C hs sm g hz h (fun q hq => (r1 q hq).1) r2 r3
      | thn a b =>
        cases hw
        obtain ⟨a1, a2, a3⟩ := part_ok pp (d := a) ⟨hd.1.1, hd.2.1⟩
        obtain ⟨b1, b2, b3⟩ := part_ok pp (d := b) ⟨hd.1.2.1, hd.2.2.1⟩
        exact then_turn pp C hs sm g hz h hd.1.2.2.symm a1 b1 a2 b2 a3 b3
      | beside a b =>
        cases hw
        obtain ⟨a1, a2, a3⟩ := part_ok pp (d := a) ⟨hd.1.1, hd.2.1⟩
        obtain ⟨b1, b2, b3⟩ := part_ok pp (d := b) ⟨hd.1.2, hd.2.2.1⟩
        exact bes_turn C hs sm g hz h a1 b1 a2 b2 a3 b3
theorem ok_mean {f fB fT fS fR : Addr} {fd fdB fdT fdS fdR : FuncData} (F : Fun K "_law_meaning" "_law_meaning" s_law_meaning f fd) (T : Txt mg)
    (GT : FnOk P w K mg base CX0 3 fT fdT ["p", "one", "other"] spThn) (kT : PySem.W.keepIn K (.ref fT) = true) (bT : Binds K fdT ["p", "one", "other"] []) (mT : mg "_law_then" = some (.ref fT))
    (GS : FnOk P w K mg base CX0 1 fS fdS ["one", "other"] spBes) (kS : PySem.W.keepIn K (.ref fS) = true) (bS : Binds K fdS ["one", "other"] []) (mS : mg "_law_beside" = some (.ref fS))
    (GB : FnOk P w K mg base CX0 1 fB fdB ["p", "word", "number"] spBox) (kB : PySem.W.keepIn K (.ref fB) = true) (bB : Binds K fdB ["p", "word", "number"] []) (mB : mg "_law_box" = some (.ref fB))
    (GR : FnOk P w K mg base CX0 3 fR fdR ["p", "rows", "size"] (spRdN K)) (kR : PySem.W.keepIn K (.ref fR) = true) (bR : Binds K fdR ["p", "rows", "size"] []) (mR : mg "_law_reduced" = some (.ref fR)) :
    FnOk P w K mg base CX0 4 f fd ["p", "words"] (spMean K) := by
  refine F.ok scMn (fun vs H Q E h => ?_) (fun cdv A outer s H vs Q E hr h => ?_)
  · obtain ⟨p, a, d, rfl, _⟩ := h
    rfl
  · obtain ⟨p, a, d, rfl, pp, ga, wf, nr, hlen, q⟩ := h
    have hr1 : Room 1 _ := hr.mono (by omega)
    refine ⟨_, pss_cons (ps_set (i := 2) scMn.nd rfl (Or.inl rfl) (pe_lst pa_nil))
      (pss_cons (ps_set (i := 3) scMn.nd rfl (Or.inl rfl) pe_int)
      (pss_cons (ps_for PassesOwn.never rfl (pi_range1 rfl T.range (pa_cons (pe_callB (cLen K rfl) rfl T.len bt_len (pa_cons (pv 1) pa_nil)) pa_nil)) (pg_name (i := 4) scMn.nd rfl (Or.inl rfl))
        (pss_cons (ps_set (i := 5) scMn.nd rfl (Or.inl rfl) (pe_ix (ixL K rfl) (pv 1) (pe_op op_sub (pe_op op_sub (pe_callB (cLen K rfl) rfl T.len bt_len (pa_cons (pv 1) pa_nil)) pe_int) (pv 4)) (fun _ _ => rfl)))
        (pss_one (ps_if (pt_val (pe_callB (cIsW K rfl (T := "int")) rfl T.isinstance bt_isinstance (pa_cons (pv 5) (pa_cons (pe_ty rfl T.int bt_int) pa_nil)))) (pss_one (ps_set (i := 3) scMn.nd rfl (Or.inl rfl) (pv 5)))
          (pss_one (ps_if (pt_cmpR op_eq (pv 5) pe_str (nomark _))
            (pss_cons (ps_asg (pe_pop K rfl (pv 2)) (pg_lst rfl (pgs_cons (pg_name (i := 6) scMn.nd rfl (Or.inr rfl)) (pgs_cons (pg_name (i := 7) scMn.nd rfl (Or.inl rfl)) (pgs_cons (pg_name (i := 8) scMn.nd rfl (Or.inl rfl)) pgs_nil)))))
            (pss_one (ps_expr (pe_bm PySem.F.plainAttrs_list PySem.F.slot_list_append PySem.F.type_list_append mt_append (pv 2) (pa_cons (pe_lst (pa_cons (pv 7) (pa_cons (pv 6) (pa_cons
              (pe_comp (N := ["row", "left"]) (own := 1) (caps := [6]) rfl (piList K rfl (pv 8)) (show BlkScope nMn (defScope s_law_meaning) ["row", "left"] 1 [6] _ from .mk' (by decide +kernel)) (fun _ _ _ _ _ => pg_name (i := 0) ny1 rfl (Or.inl rfl)) (fun _ _ _ _ _ => pts_nil)
                (fun _ _ _ _ _ => pe_op op_cat (pe_slice (slL K rfl) (pv 0) (po_some (pv 1)) po_none) (pe_slice (slL K rfl) (pv 0) po_none (po_some (pv 1))))) pa_nil)))) pa_nil)))))
          (pss_one (ps_if (pt_cmpR op_eq (pv 5) pe_str (nomark _))
            (pss_cons (ps_set (i := 9) scMn.nd rfl (Or.inl rfl) (pe_pop K rfl (pv 2)))
            (pss_one (ps_expr (pe_bm PySem.F.plainAttrs_list PySem.F.slot_list_append PySem.F.type_list_append mt_append (pv 2) (pa_cons (pe_call GT hr rfl mT kT bT .nil pass0 (pa_cons (pv 0) (pa_cons (pv 9) (pa_cons (pe_pop K rfl (pv 2)) pa_nil)))) pa_nil)))))
          (pss_one (ps_if (pt_cmpR op_eq (pv 5) pe_str (nomark _))
            (pss_cons (ps_set (i := 9) scMn.nd rfl (Or.inl rfl) (pe_pop K rfl (pv 2)))
            (pss_one (ps_expr (pe_bm PySem.F.plainAttrs_list PySem.F.slot_list_append PySem.F.type_list_append mt_append (pv 2) (pa_cons (pe_call GS hr1 rfl mS kS bS .nil pass0 (pa_cons (pv 9) (pa_cons (pe_pop K rfl (pv 2)) pa_nil))) pa_nil)))))
            (pss_one (ps_expr (pe_bm PySem.F.plainAttrs_list PySem.F.slot_list_append PySem.F.type_list_append mt_append (pv 2) (pa_cons (pe_call GB hr1 rfl mB kB bB .nil pass0 (pa_cons (pv 0) (pa_cons (pv 5) (pa_cons
              (pe_ix (ixL K rfl) (pe_lst (pa_cons pe_int (pa_cons (pv 3) pa_nil))) (pe_callTy call_int1 rfl T.int bt_int (pa_cons (pe_cmpR op_eq (pv 5) pe_str (nomark _)) pa_nil)) (fun _ _ => rfl)) pa_nil)))) pa_nil))))))))))))))
      (pss_cons (ps_asg (pe_ix (ixL K rfl) (pv 2) pe_int (fun _ _ => rfl)) (pg_lst rfl (pgs_cons (pg_name (i := 6) scMn.nd rfl (Or.inr rfl)) (pgs_cons (pg_name (i := 7) scMn.nd rfl (Or.inl rfl)) (pgs_cons (pg_name (i := 8) scMn.nd rfl (Or.inl rfl)) pgs_nil)))))
      (pss_one (ps_ret (pe_lst (pa_cons (pv 6) (pa_cons (pv 7) (pa_cons (pe_call GR hr rfl mR kR bR .nil pass0 (pa_cons (pv 0) (pa_cons (pv 8) (pa_cons (pe_op op_add (pv 6) (pv 7)) pa_nil)))) pa_nil))))))))), ?_⟩
    have z9 : (9000000 : Nat) < sizeLine := by decide
    refine ⟨by decide, fun hl hhl => ?_⟩
    have s0 : Same H (upd H hl (.lst [])) := .upd hhl
    have g0 : (upd H hl (.lst [])) hl = some (.lst []) := upd_same
    generalize upd H hl (.lst []) = H0 at s0 g0 ⊢
    have eN : (d.words.map wdV).length = d.words.length := List.length_map _
    have okd : D1.okS p 64 (none, [d]) := ⟨fun m e => (nomatch e), fun d' h' => by rw [List.mem_singleton.mp h']; exact ⟨wf, nr⟩⟩
    refine ⟨_, rfl, a, _, rfl, .inl (.of (s0 _ _ ga)), _, rfl, by omega, by omega, for_range (n := (d.words.map wdV).length) (fun k σ H' => Same H H' ∧ ∃ num s4 s5 s6 s7 s8 s9 HS, σ = [some (.int p), some (.ref a), some (.ref hl), some (.int num), s4, s5, s6, s7, s8, s9] ∧ H' hl = some (.lst HS) ∧ Held p hl H' (D1.stS (none, [d]) (d.words.length - k)).2 HS ∧ ∀ m, (D1.stS (none, [d]) (d.words.length - k)).1 = some m → num = m)
      ⟨s0, 1, none, none, none, none, none, none, [], rfl, g0, ?_, fun m e => ?_⟩ ?_ ?_⟩
    · rw [Nat.sub_zero, D1.stS_end]
      exact .nil
    · rw [Nat.sub_zero, D1.stS_end] at e
      cases e
    · rintro k σ H1 hk ⟨sm, num, s4, s5, s6, s7, s8, s9, HS, rfl, g, hH, hn⟩
      rw [eN] at hk
      rw [Int.zero_add]
      obtain ⟨i, hi⟩ : ∃ i, d.words.length - k = i + 1 := ⟨d.words.length - k - 1, by omega⟩
      rw [hi] at hH hn
      have hi2 : d.words.length - (k + 1) = i := by omega
      have hil : i < d.words.length := by omega
      have hw := D1.stS_at (d := d) (i := i)
      rw [List.getElem?_eq_getElem hil] at hw
      have few := D1.stS_few d (i + 1)
      have hz := hH.len
      refine ⟨_, rfl, _, rfl, a, _, rfl, .inl (.of (sm _ _ ga)), _, _, rfl, rfl, _, rfl, _, _, rfl, rfl, a, _, (i : Int), wdV (d.words[i]), rfl, ?_, .of (sm _ _ ga), atI_nat (by rw [List.getElem?_map, List.getElem?_eq_getElem hil]; rfl), ?_⟩
      · refine congrArg V.int ?_
        rw [eN]
        omega
      refine pick_read pp (⟨hhl, fun num' s4' s5' s6' s7' s8' s9' HS' H' s' g' h' hn' => ?_⟩ : MnC p d a hl H _ i) (D1.stS_ok okd i) hw.symm sm g (by omega) hH hn
      refine ⟨s', num', s4', s5', s6', s7', s8', s9', HS', rfl, g', ?_, ?_⟩
      · rw [hi2]; exact h'
      · rw [hi2]; exact hn'
    · rintro σ H1 ⟨sm, num, s4, s5, s6, s7, s8, s9, HS, rfl, g, hH, hn⟩
      rw [eN, Nat.sub_self] at hH
      obtain ⟨t, HS', rfl, ⟨nt, b, XS, gt, nb, gb, hL⟩, hr'⟩ := Held.pop (d := d) (ds := []) hH
      cases hr'
      obtain ⟨r1, r2, r3⟩ := part_ok pp ⟨wf, nr⟩
      refine ⟨_, rfl, hl, _, 0, .ref t, rfl, rfl, .of g, atI_nat (j := 0) rfl, gLst3_of (.of gt) ?_⟩
      refine ⟨_, rfl, _, rfl, _, rfl, _, rfl, _, rfl, _, rfl, _, _, rfl, rfl, p, b, XS, d.rows p, d.l + d.r, ?_, pp, gb, hL.weak fun _ _ => trivial, by omega, by omega, r1, fun u H2 DS s2 h2 h3 => ⟨by show 3 ≤ sizeLine; omega, fun v hv => ?_⟩⟩
      · rw [Int.natCast_add]
        rfl
      · exact q v _ u DS ((sm.trans s2).trans (.upd hv)) upd_same ((Same.upd hv).seqT h2) (h3.mono (.upd hv))
end
end S21
namespace S21
open PySem L2 Bw
set_option maxHeartbeats 3900000
theorem pick5 {p x y : Int} (c : Int) (hp : 2 ≤ p) (hx : 0 ≤ x ∧ x < p) (hy : 0 ≤ y ∧ y < p) : ∃ z, atI [V.int 0, .int 0, .int 1, .int x, .int y] (c % 5) = some (.int z) ∧ 0 ≤ z ∧ z < p := by
  have h : c % 5 = 0 ∨ c % 5 = 1 ∨ c % 5 = 2 ∨ c % 5 = 3 ∨ c % 5 = 4 := by omega
  rcases h with h | h | h | h | h <;> rw [h]
  · exact ⟨0, atI_nat (j := 0) rfl, by omega, by omega⟩
  · exact ⟨0, atI_nat (j := 1) rfl, by omega, by omega⟩
  · exact ⟨1, atI_nat (j := 2) rfl, by omega, by omega⟩
  · exact ⟨x, atI_nat (j := 3) rfl, hx⟩
  · exact ⟨y, atI_nat (j := 4) rfl, hy⟩
theorem pickN {ns : List Int} {i : Int} (h0 : 0 ≤ i) (h1 : i < ((ns.map V.int).length : Int) + 1) : ∃ c, atI (ns.map V.int ++ [V.int 7]) i = some (.int c) := by
  obtain ⟨j, rfl⟩ : ∃ j : Nat, i = (j : Int) := ⟨i.toNat, by omega⟩
  rw [List.length_map] at h1
  have hj : j < (ns ++ [7]).length := by rw [List.length_append]; show j < ns.length + 1; omega
  refine ⟨(ns ++ [7])[j], atI_nat ?_⟩
  rw [show ns.map V.int ++ [V.int 7] = (ns ++ [7]).map V.int by rw [List.map_append]; rfl, List.getElem?_map, List.getElem?_eq_getElem hj]
  rfl
section
variable {P : Program} {w : World} {K : PySem.W.Frag} {mg : Str → Option Value} {base : Heap}
/-! ### _law_list -/
noncomputable def spLst (K : PySem.W.Frag) : Sp := fun vs H Q _ => ∃ (p : Int) (a : Addr) (ns : List Int) (n k : Nat), vs = [.int p, .ref a, .int (n : Int), .int (k : Int)] ∧ p ∈ primesL ∧ H a = some (.lst (ns.map V.int)) ∧ ns.length ≤ 100 ∧ n ≤ 100 ∧ k ≤ 100 ∧
  ∀ t H' DS R, Bw.Rws p n R → R.length = k → Same H H' → SqT K H' t DS → HasA K H' DS ((redM p R).map intsT) → Q (.ref t) H'
theorem scLi : FnScope ["p", "cells", "size", "many", "rows", "k", "row", "j", "cell"] ["p", "cells", "size", "many"] (defScope s_law_list) := ⟨rfl, rfl, rfl, by decide +kernel, rfl, by decide +kernel, by decide +kernel⟩
theorem ok_lst {f fR : Addr} {fd fdR : FuncData} (F : Fun K "_law_list" "_law_list" s_law_list f fd) (T : Txt mg)
    (GR : FnOk P w K mg base CX0 3 fR fdR ["p", "rows", "size"] (spRdN K)) (kR : PySem.W.keepIn K (.ref fR) = true) (bR : Binds K fdR ["p", "rows", "size"] []) (mR : mg "_law_reduced" = some (.ref fR)) :
    FnOk P w K mg base CX0 4 f fd ["p", "cells", "size", "many"] (spLst K) := by
  refine F.ok scLi (fun vs H Q E h => ?_) (fun cdv A outer s H vs Q E hr h => ?_)
  · obtain ⟨p, a, ns, n, k, rfl, _⟩ := h
    rfl
  · obtain ⟨p, a, ns, n, k, rfl, pp, ga, hns, hn, hk, q⟩ := h
    obtain ⟨p2, p97⟩ := prime_pos p pp
    have p0 : 0 < p := by omega
    refine ⟨_, pss_cons (ps_set (i := 4) scLi.nd rfl (Or.inl rfl) (pe_lst pa_nil))
      (pss_cons (ps_for PassesOwn.never rfl (pi_range1 rfl T.range (pa_cons (pv 3) pa_nil)) (pg_name (i := 5) scLi.nd rfl (Or.inl rfl))
        (pss_cons (ps_set (i := 6) scLi.nd rfl (Or.inl rfl) (pe_lst pa_nil))
        (pss_cons (ps_for PassesOwn.never rfl (pi_range1 rfl T.range (pa_cons (pv 2) pa_nil)) (pg_name (i := 7) scLi.nd rfl (Or.inl rfl))
          (pss_cons (ps_set (i := 8) scLi.nd rfl (Or.inl rfl) (pe_ix (ixL K rfl) (pe_op op_cat (pv 1) (pe_lst (pa_cons pe_int pa_nil))) (pe_op op_mod (pv 5) (pe_op op_add (pe_callB (cLen K rfl) rfl T.len bt_len (pa_cons (pv 1) pa_nil)) pe_int)) (fun _ _ => rfl)))
          (pss_cons (ps_set (i := 8) scLi.nd rfl (Or.inl rfl) (pe_op op_add (pe_op op_add (pe_op op_fdiv (pv 8) (pe_op op_add (pv 7) pe_int)) (pe_op op_mul pe_int (pv 7))) (pe_op op_mul (pv 5) (pv 5))))
          (pss_one (ps_expr (pe_bm PySem.F.plainAttrs_list PySem.F.slot_list_append PySem.F.type_list_append mt_append (pv 6) (pa_cons
            (pe_ix (ixL K rfl) (pe_lst (pa_cons pe_int (pa_cons pe_int (pa_cons pe_int (pa_cons (pe_op op_mod (pe_op op_fdiv (pv 8) pe_int) (pv 0)) (pa_cons (pe_op op_mod (pe_op op_fdiv (pv 8) pe_int) (pv 0)) pa_nil)))))) (pe_op op_mod (pv 8) pe_int) (fun _ _ => rfl)) pa_nil)))))))
        (pss_one (ps_expr (pe_bm PySem.F.plainAttrs_list PySem.F.slot_list_append PySem.F.type_list_append mt_append (pv 4) (pa_cons (pv 6) pa_nil)))))))
      (pss_one (ps_ret (pe_call GR hr rfl mR kR bR .nil pass0 (pa_cons (pv 0) (pa_cons (pv 4) (pa_cons (pv 2) pa_nil))))))), ?_⟩
    have z1000 : (1000 : Nat) < sizeLine := by decide
    refine ⟨by decide, fun lr hlr => ?_⟩
    have s0 : Same H (upd H lr (.lst [])) := .upd hlr
    have g0 : (upd H lr (.lst [])) lr = some (.lst []) := upd_same
    generalize upd H lr (.lst []) = H0 at s0 g0 ⊢
    refine ⟨_, rfl, (k : Int), rfl, by omega, by omega, for_range (n := k) (fun i σ H' => Same H H' ∧ ∃ ZS R s5 s6 s7 s8, σ = [some (.int p), some (.ref a), some (.int (n : Int)), some (.int (k : Int)), some (.ref lr), s5, s6, s7, s8] ∧ H' lr = some (.lst ZS) ∧ LR (fun x => x ≠ lr ∧ H x = none) H' ZS R ∧ Bw.Rws p n R ∧ R.length = i)
      ⟨s0, [], [], none, none, none, none, rfl, g0, LR.nil, fun r hr => (nomatch hr), rfl⟩ ?_ ?_⟩
    · rintro i σ H1 hi ⟨sm, ZS, R, s5, s6, s7, s8, rfl, g, hZ, hR, hl⟩
      rw [Int.zero_add]
      refine ⟨by decide, fun la hla => ?_⟩
      have nela : la ≠ lr := fun e => by rw [e, g] at hla; cases hla
      have laH : H la = none := none_of sm hla
      have sm2 : Same H (upd H1 la (.lst [])) := sm.trans (.upd hla)
      have g2 : (upd H1 la (.lst [])) lr = some (.lst ZS) := Same.upd hla _ _ g
      have ga2 : (upd H1 la (.lst [])) la = some (.lst (([] : List Int).map V.int)) := upd_same
      have hZ2 : LR (fun x => x ≠ lr ∧ x ≠ la ∧ H x = none) (upd H1 la (.lst [])) ZS R := ⟨hZ.1, fun j v q e1 e2 => by
        obtain ⟨x, e, hx, gx⟩ := hZ.2 j v q e1 e2
        have ne : x ≠ la := fun z => by rw [z, hla] at gx; cases gx
        exact ⟨x, e, ⟨hx.1, ne, hx.2⟩, by rw [upd_ne ne]; exact gx⟩⟩
      generalize upd H1 la (.lst []) = H2 at sm2 g2 ga2 hZ2 ⊢
      refine ⟨_, rfl, (n : Int), rfl, by omega, by omega, for_range (n := n) (fun j σ H' => Same H H' ∧ ∃ r s7 s8, σ = [some (.int p), some (.ref a), some (.int (n : Int)), some (.int (k : Int)), some (.ref lr), some (.int (i : Int)), some (.ref la), s7, s8] ∧ H' la = some (.lst (r.map V.int)) ∧ Rw p j r ∧ H' lr = some (.lst ZS) ∧ LR (fun x => x ≠ lr ∧ x ≠ la ∧ H x = none) H' ZS R)
        ⟨sm2, [], s7, s8, rfl, ga2, ⟨rfl, fun x hx => (nomatch hx)⟩, g2, hZ2⟩ ?_ ?_⟩
      · clear hZ2 ga2 g2 sm2 hZ g
        rintro j σ H3 hj ⟨sm3, r, s7, s8, rfl, gr, hr, gl, hZ3⟩
        rw [Int.zero_add]
        have ga3 := sm3 _ _ ga
        have enl : (ns.map V.int).length = ns.length := List.length_map _
        obtain ⟨c, hc⟩ := pickN (ns := ns) (i := (i : Int) % (((ns.map V.int).length : Int) + 1)) (Int.emod_nonneg _ (by omega)) (Int.emod_lt_of_pos _ (by omega))
        refine ⟨_, rfl, by decide, fun l7 h7 => ⟨a, l7, _, _, rfl, rfl, Same.upd h7 _ _ ga3, upd_same, by show (ns.map V.int).length + 1 ≤ sizeLine; omega, fun lc hlc => ?_⟩⟩
        refine ⟨_, rfl, _, rfl, a, _, rfl, .inl (.of (Same.upd hlc _ _ (Same.upd h7 _ _ ga3))), _, _, rfl, rfl, _, _, rfl, rfl, (by show (0 : Int) < ((ns.map V.int).length : Int) + 1; omega), lc, _, _, .int c, rfl, rfl, .of upd_same, hc, ?_⟩
        have s4 := (Same.upd h7 (o := .lst [.int 7])).trans (Same.upd hlc (o := .lst (ns.map V.int ++ [.int 7])))
        generalize upd (upd H3 l7 _) lc _ = H4 at s4 ⊢
        refine ⟨_, rfl, _, rfl, _, _, rfl, rfl, _, _, rfl, rfl, ⟨by omega, by omega⟩, _, rfl, _, _, rfl, rfl, .inl ⟨by decide, by decide⟩, _, _, rfl, rfl, _, rfl, _, rfl, _, _, rfl, rfl, .inl ⟨by omega, by omega⟩, _, _, rfl, rfl, ?_⟩
        obtain ⟨z, hz, hz0, hz1⟩ := pick5 (p := p) (x := (c / ((j : Int) + 1) + 31 * (j : Int) + (i : Int) * (i : Int)) / 8 % p) (y := (c / ((j : Int) + 1) + 31 * (j : Int) + (i : Int) * (i : Int)) / 3 % p) (c / ((j : Int) + 1) + 31 * (j : Int) + (i : Int) * (i : Int)) p2 ⟨Int.emod_nonneg _ (by omega), Int.emod_lt_of_pos _ p0⟩ ⟨Int.emod_nonneg _ (by omega), Int.emod_lt_of_pos _ p0⟩
        refine ⟨_, rfl, .inl ⟨rfl, _, SqL.of (s4 _ _ gr)⟩, _, rfl, _, _, rfl, rfl, ⟨by decide, by decide⟩, _, rfl, _, _, rfl, rfl, p0, _, rfl, _, _, rfl, rfl, ⟨by decide, by decide⟩, _, rfl, _, _, rfl, rfl, p0, by show 5 ≤ sizeLine; omega, fun l5 h5 => ⟨_, rfl, _, _, rfl, rfl, (by show (0 : Int) < 5; decide), l5, _, _, .int z, rfl, rfl, .of upd_same, hz, ?_⟩⟩
        have s5 := s4.trans (Same.upd h5 (o := .lst [V.int 0, .int 0, .int 1, .int ((c / ((j : Int) + 1) + 31 * (j : Int) + (i : Int) * (i : Int)) / 8 % p), .int ((c / ((j : Int) + 1) + 31 * (j : Int) + (i : Int) * (i : Int)) / 3 % p)]))
        refine ⟨la, r.map V.int, .int z, rfl, rfl, s5 _ _ gr, by rw [List.length_map, hr.1]; omega, ?_⟩
        refine ⟨(sm3.trans s5).write laH, r ++ [z], _, _, rfl, ?_, Rw.snoc hr hz0 hz1, ?_, ?_⟩
        · rw [upd_same, List.map_append]
          rfl
        · rw [upd_ne (Ne.symm nela)]
          exact s5 _ _ gl
        · exact ⟨hZ3.1, fun j v q e1 e2 => by
            obtain ⟨x, e, hx, gx⟩ := hZ3.2 j v q e1 e2
            exact ⟨x, e, hx, by rw [upd_ne hx.2.1]; exact s5 _ _ gx⟩⟩
      · clear hZ2 ga2 g2 sm2 hZ g
        rintro σ H3 ⟨sm3, r, s7, s8, rfl, gr, hr, gl, hZ3⟩
        have e0 := hZ3.1
        refine ⟨_, rfl, .inl ⟨rfl, _, SqL.of gl⟩, _, rfl, lr, ZS, .ref la, rfl, rfl, gl, by omega, ?_⟩
        refine ⟨sm3.write hlr, ZS ++ [.ref la], R ++ [r], _, _, _, _, rfl, upd_same, ?_, Rws.snoc hR hr, by rw [List.length_append, hl]; rfl⟩
        exact ⟨by rw [List.length_append, List.length_append, e0]; rfl, fun j v q e1 e2 => by
          obtain ⟨x, e, hx, gx⟩ := ((hZ3.weak (N' := fun x => x ≠ lr ∧ H x = none) fun x z => ⟨z.1, z.2.2⟩).snoc (a := la) (r := r) ⟨nela, laH⟩ gr).2 j v q e1 e2
          exact ⟨x, e, hx, by rw [upd_ne hx.1]; exact gx⟩⟩
    · rintro σ H1 ⟨sm, ZS, R, s5, s6, s7, s8, rfl, g, hZ, hR, hl⟩
      exact ⟨_, rfl, _, rfl, _, rfl, p, lr, ZS, R, n, rfl, pp, g, hZ.weak fun _ _ => trivial, by omega, by omega, hR, fun t H' DS s' h1 h2 => q t H' DS R hR hl (sm.trans s') h1 h2⟩
end
end S21
namespace S21
open PySem L2 Bw
set_option maxHeartbeats 3900000
/-! ### heaps that are the same but at one list -/
noncomputable def SameB (l : Addr) (H H' : Hp) : Prop := ∀ b o, b ≠ l → H b = some o → H' b = some o
theorem SameB.of {l : Addr} {H H' : Hp} (s : Same H H') : SameB l H H' := fun b o _ e => s b o e
theorem SameB.trans {l : Addr} {H H' H'' : Hp} (s : SameB l H H') (t : SameB l H' H'') : SameB l H H'' := fun b o n e => t b o n (s b o n e)
theorem SameB.wr {l : Addr} {H : Hp} {o : HO} : SameB l H (upd H l o) := fun b u n e => by rw [upd_ne n]; exact e
theorem SameB.seqT {K : PySem.W.Frag} {l a : Addr} {H H' : Hp} {xs ys : List V} (s : SameB l H H') (g : H l = some (.lst ys)) (h : SqT K H a xs) : SqT K H' a xs := by
  have ne : ∀ {u : HO}, H a = some u → (∀ zs, u ≠ .lst zs) → a ≠ l := fun e hu z => by
    rw [z, g] at e
    exact hu ys (Option.some.inj e).symm
  rcases h with (h | ⟨o', h⟩) | h
  · exact .inl (.inl (s _ _ (ne h fun _ z => nomatch z) h))
  · exact .inl (.inr ⟨o', s _ _ (ne h fun _ z => nomatch z) h⟩)
  · exact .inr h
theorem SameB.same {l : Addr} {H0 H H' : Hp} (s0 : Same H0 H) (h : H0 l = none) (s : SameB l H H') : Same H0 H' := fun b o e => s b o (fun z => by rw [z, h] at e; cases e) (s0 b o e)
/-! ### _law_joint -/
noncomputable def TellP (K : PySem.W.Frag) (hl : Addr) (H : Hp) (HS' : List V) (x y : Int) (Q : VK) : Prop := ∀ t H', SameB hl H H' → H' hl = some (.lst HS') → SqT K H' t [.int x, .int y] → Q (.ref t) H'
noncomputable def spJoint (K : PySem.W.Frag) : Sp := fun vs H Q _ => ∃ (hl : Addr) (HS HS' : List V), H hl = some (.lst HS) ∧ HS.length ≤ 9000000 ∧
  ((∃ (a : Addr) (l r : Int), vs = [.str (Str.ofString "back"), .ref hl] ∧ HS = HS' ++ [.ref a] ∧ SqT K H a [.int l, .int r] ∧ TellP K hl H HS' r l Q) ∨
   (∃ (a b : Addr) (l r l' r' : Int), vs = [.str (Str.ofString "beside"), .ref hl] ∧ HS = (HS' ++ [.ref b]) ++ [.ref a] ∧ SqT K H a [.int l, .int r] ∧ SqT K H b [.int l', .int r'] ∧ TellP K hl H HS' (l + l') (r + r') Q) ∨
   (∃ (a b : Addr) (l m r : Int), vs = [.str (Str.ofString "then"), .ref hl] ∧ HS = (HS' ++ [.ref b]) ++ [.ref a] ∧ SqT K H a [.int l, .int m] ∧ SqT K H b [.int m, .int r] ∧ TellP K hl H HS' l r Q))
theorem scJo : FnScope ["word", "held", "left", "right", "one", "other"] ["word", "held"] (defScope s_law_joint) := ⟨rfl, rfl, rfl, by decide +kernel, rfl, by decide +kernel, by decide +kernel⟩
section
variable {P : Program} {w : World} {K : PySem.W.Frag} {mg : Str → Option Value} {base : Heap}
theorem gTup2_of {i j : Nat} {v : Addr} {x y : V} {σ : St} {H : Hp} {R : St → Hp → Prop} (h : SqT K H v [x, y]) (q : R ((σ.set i (some x)).set j (some y)) H) : gTup K 2 (gCons (gName i) (gCons (gName j) gNil)) (.ref v) σ H R := ⟨v, _, rfl, h, rfl, _, _, rfl, _, _, rfl, rfl, q⟩
theorem ok_joint {f : Addr} {fd : FuncData} (F : Fun K "_law_joint" "_law_joint" s_law_joint f fd) (T : Txt mg) : FnOk P w K mg base CX0 1 f fd ["word", "held"] (spJoint K) := by
  refine F.ok scJo (fun vs H Q E h => ?_) (fun cdv A outer s H vs Q E hr h => ?_)
  · obtain ⟨hl, HS, HS', _, _, ⟨a, l, r, rfl, _⟩ | ⟨a, b, l, r, l', r', rfl, _⟩ | ⟨a, b, l, m, r, rfl, _⟩⟩ := h <;> rfl
  · obtain ⟨hl, HS, HS', g, hz, h⟩ := h
    have z9 : (9000000 : Nat) < sizeLine := by decide
    refine ⟨_, pss_cons (ps_if (PW.pt (pw_and (pt_cmpR op_eq (pv 0) pe_str (nomark _)) (pw_and1 (pt_cmpR op_gt (pe_callB (cLen K rfl) rfl T.len bt_len (pa_cons (pv 1) pa_nil)) pe_int (nomark _)))))
        (pss_cons (ps_asg (pe_pop K rfl (pv 1)) (pgTup K rfl rfl (pgs_cons (pg_name (i := 2) scJo.nd rfl (Or.inl rfl)) (pgs_cons (pg_name (i := 3) scJo.nd rfl (Or.inl rfl)) pgs_nil))))
        (pss_one (ps_ret (pe_tup (pa_cons (pv 3) (pa_cons (pv 2) pa_nil)))))) pss_nil)
      (pss_cons (ps_if (PW.pt (pw_or (pt_cmpR (opNotIn K rfl) (pv 0) (pe_lst (pa_cons pe_str (pa_cons pe_str pa_nil))) rfl) (pw_or1 (pt_cmpR op_lt (pe_callB (cLen K rfl) rfl T.len bt_len (pa_cons (pv 1) pa_nil)) pe_int (nomark _)))))
        (pss_one (ps_ret pe_non)) pss_nil)
      (pss_cons (ps_set (i := 4) scJo.nd rfl (Or.inl rfl) (pe_pop K rfl (pv 1)))
      (pss_cons (ps_set (i := 5) scJo.nd rfl (Or.inl rfl) (pe_pop K rfl (pv 1)))
      (pss_cons (ps_if (pt_cmpR op_eq (pv 0) pe_str (nomark _))
        (pss_one (ps_ret (pe_tup (pa_cons (pe_op op_add (pe_ix (ixT K rfl) (pv 4) pe_int (fun _ _ => rfl)) (pe_ix (ixT K rfl) (pv 5) pe_int (fun _ _ => rfl))) (pa_cons (pe_op op_add (pe_ix (ixT K rfl) (pv 4) pe_int (fun _ _ => rfl)) (pe_ix (ixT K rfl) (pv 5) pe_int (fun _ _ => rfl))) pa_nil))))) pss_nil)
      (pss_cons (ps_if (pt_cmpR op_ne (pe_ix (ixT K rfl) (pv 4) pe_int (fun _ _ => rfl)) (pe_ix (ixT K rfl) (pv 5) pe_int (fun _ _ => rfl)) (nomark _)) (pss_one (ps_ret pe_non)) pss_nil)
      (pss_one (ps_ret (pe_tup (pa_cons (pe_ix (ixT K rfl) (pv 4) pe_int (fun _ _ => rfl)) (pa_cons (pe_ix (ixT K rfl) (pv 5) pe_int (fun _ _ => rfl)) pa_nil)))))))))), ?_⟩
    have popB : ∀ {σ : St} {H1 : Hp} {HS1 : List V} {x : Addr} {Q1 : VK}, σ[1]? = some (some (.ref hl)) → H1 hl = some (.lst (HS1 ++ [.ref x])) → Q1 (.ref x) (upd H1 hl (.lst HS1)) → tBM0 K "list" rPop (tVar 1) σ H1 Q1 := fun {σ H1 HS1 x Q1} h1 g1 q1 => by
      refine ⟨_, h1, .inl ⟨rfl, _, SqL.of g1⟩, hl, _, .ref x, rfl, rfl, g1, last_of, ?_⟩
      rw [drop_of]
      exact q1
    have two : ∀ {H1 : Hp} {v1 v2 : Addr} {x y x' y' : Int}, SqT K H v1 [.int x, .int y] → SqT K H v2 [.int x', .int y'] → SameB hl H H1 → SqT K H1 v1 [.int x, .int y] ∧ SqT K H1 v2 [.int x', .int y'] := fun h1 h2 s => ⟨s.seqT g h1, s.seqT g h2⟩
    rcases h with ⟨a, l, r, rfl, rfl, ha, q⟩ | ⟨a, b, l, r, l', r', rfl, rfl, ha, hb, q⟩ | ⟨a, b, l, m, r, rfl, rfl, ha, hb, q⟩
    · refine ⟨_, rfl, rfl, _, rfl, ?_⟩
      rw [decide_eq_true rfl]
      refine iteT ⟨_, rfl, hl, _, rfl, .inl (.of g), _, _, rfl, rfl, _, rfl, ite2 (fun _ => ?_) (fun hc => absurd (decide_eq_true (by simp)) hc)⟩
      refine popB rfl g (gTup2_of (SameB.seqT .wr g ha) ?_)
      refine ⟨_, rfl, _, rfl, by show 2 ≤ sizeLine; decide, fun t ht => q t _ (SameB.trans .wr (.of (.upd ht))) (Same.upd ht _ _ upd_same) (.of upd_same)⟩
    · refine ⟨_, rfl, rfl, _, rfl, ?_⟩
      rw [decide_eq_false (by decide)]
      refine iteF (iteF ?_)
      refine ⟨_, rfl, by show 2 ≤ sizeLine; decide, fun lw hlw => ⟨lw, _, rfl, .inl (.of upd_same), rfl, rfl, _, rfl, ?_⟩⟩
      have sw : Same H (upd H lw (.lst [.str (Str.ofString "then"), .str (Str.ofString "beside")])) := .upd hlw
      generalize upd H lw (.lst [.str (Str.ofString "then"), .str (Str.ofString "beside")]) = H1 at sw ⊢
      refine iteF ⟨_, rfl, hl, _, rfl, .inl (.of (sw _ _ g)), _, _, rfl, rfl, _, rfl, ite2 (fun hc => absurd (of_decide_eq_true hc) (by simp; omega)) (fun _ => ?_)⟩
      refine popB rfl (sw _ _ g) (popB rfl upd_same ?_)
      have sB : SameB hl H (upd (upd H1 hl (.lst (HS' ++ [.ref b]))) hl (.lst HS')) := (SameB.of sw).trans (SameB.wr.trans .wr)
      have gB : (upd (upd H1 hl (.lst (HS' ++ [.ref b]))) hl (.lst HS')) hl = some (.lst HS') := upd_same
      generalize upd (upd H1 hl (.lst (HS' ++ [.ref b]))) hl (.lst HS') = H2 at sB gB ⊢
      obtain ⟨ha2, hb2⟩ := two ha hb sB
      refine ⟨_, rfl, rfl, _, rfl, ?_⟩
      rw [decide_eq_true rfl]
      refine iteT ⟨_, rfl, a, _, 0, .int l, rfl, rfl, ha2, atI_nat (j := 0) rfl, _, rfl, b, _, 0, .int l', rfl, rfl, hb2, atI_nat (j := 0) rfl, _, _, rfl, rfl, _, rfl, a, _, 1, .int r, rfl, rfl, ha2, atI_nat (j := 1) rfl, _, rfl, b, _, 1, .int r', rfl, rfl, hb2, atI_nat (j := 1) rfl, _, _, rfl, rfl, by show 2 ≤ sizeLine; decide, fun t ht => ?_⟩
      exact q t _ (sB.trans (.of (.upd ht))) (Same.upd ht _ _ gB) (.of upd_same)
    · refine ⟨_, rfl, rfl, _, rfl, ?_⟩
      rw [decide_eq_false (by decide)]
      refine iteF (iteF ?_)
      refine ⟨_, rfl, by show 2 ≤ sizeLine; decide, fun lw hlw => ⟨lw, _, rfl, .inl (.of upd_same), rfl, rfl, _, rfl, ?_⟩⟩
      have sw : Same H (upd H lw (.lst [.str (Str.ofString "then"), .str (Str.ofString "beside")])) := .upd hlw
      generalize upd H lw (.lst [.str (Str.ofString "then"), .str (Str.ofString "beside")]) = H1 at sw ⊢
      refine iteF ⟨_, rfl, hl, _, rfl, .inl (.of (sw _ _ g)), _, _, rfl, rfl, _, rfl, ite2 (fun hc => absurd (of_decide_eq_true hc) (by simp; omega)) (fun _ => ?_)⟩
      refine popB rfl (sw _ _ g) (popB rfl upd_same ?_)
      have sB : SameB hl H (upd (upd H1 hl (.lst (HS' ++ [.ref b]))) hl (.lst HS')) := (SameB.of sw).trans (SameB.wr.trans .wr)
      have gB : (upd (upd H1 hl (.lst (HS' ++ [.ref b]))) hl (.lst HS')) hl = some (.lst HS') := upd_same
      generalize upd (upd H1 hl (.lst (HS' ++ [.ref b]))) hl (.lst HS') = H2 at sB gB ⊢
      obtain ⟨ha2, hb2⟩ := two ha hb sB
      refine ⟨_, rfl, rfl, _, rfl, ?_⟩
      rw [decide_eq_false (by decide)]
      refine iteF ⟨_, rfl, a, _, 1, .int m, rfl, rfl, ha2, atI_nat (j := 1) rfl, _, rfl, b, _, 0, .int m, rfl, rfl, hb2, atI_nat (j := 0) rfl, rfl, _, rfl, iteNe (fun hc => absurd rfl hc) (fun _ => ?_)⟩
      refine ⟨_, rfl, a, _, 0, .int l, rfl, rfl, ha2, atI_nat (j := 0) rfl, _, rfl, b, _, 1, .int r, rfl, rfl, hb2, atI_nat (j := 1) rfl, by show 2 ≤ sizeLine; decide, fun t ht => ?_⟩
      exact q t _ (sB.trans (.of (.upd ht))) (Same.upd ht _ _ gB) (.of upd_same)
end
end S21
namespace S21
open PySem L2 Bw
set_option maxHeartbeats 3900000
/-! ### dicts of texts and rows, as they are written -/
noncomputable def cKey : Option Expr → Option Str
  | some (.Constant (.str x) _ _) => some x
  | _ => none
noncomputable def cRow : Expr → Option (List Int)
  | .Tuple es _ _ => constInts es
  | _ => none
noncomputable def cPairs : List (Option Expr) → List Expr → Option (List (Str × List Int))
  | [], [] => some []
  | k :: ks, v :: vs => match cKey k, cRow v, cPairs ks vs with
    | some x, some r, some ps => some ((x, r) :: ps)
    | _, _, _ => none
  | _, _ => none
noncomputable def cDisp : Expr → Option (List (Str × List Int))
  | .Dict ks vs _ => cPairs ks vs
  | _ => none
noncomputable def tRow (ns : List Int) : TE := tTup (fun _ H Q => Q (ns.map V.int) H)
noncomputable def tPairsR : List (Str × List Int) → List (TE × TE)
  | [] => []
  | p :: ps => (tC (.str p.1), tRow p.2) :: tPairsR ps
theorem key_c {X : Cx} {k : Option Expr} {x : Str} (h : cKey k = some x) : ∃ e, k = some e ∧ PE X e (tC (.str x)) := by
  unfold cKey at h
  split at h
  case h_2 => exact nomatch h
  case h_1 y i pos => cases h; exact ⟨_, rfl, pe_str⟩
theorem row_c {X : Cx} {v : Expr} {r : List Int} (h : cRow v = some r) : PE X v (tRow r) := by
  unfold cRow at h
  split at h
  case h_2 => exact nomatch h
  case h_1 es i pos => exact pe_tup (pa_ints es r h)
theorem pps_c {X : Cx} {pos : Pos} : ∀ (ks : List (Option Expr)) (vs : List Expr) (L : List (Str × List Int)), cPairs ks vs = some L →
    PPs X pos ks vs (tPairsR L) ∧ ks.all (·.isSome) = true ∧ ks.length = L.length ∧ vs.length = L.length
  | [], [], L, h => by cases h; exact ⟨pps_nil, rfl, rfl, rfl⟩
  | [], _ :: _, _, h => nomatch h
  | _ :: _, [], _, h => nomatch h
  | k :: ks, v :: vs, L, h => by
    unfold cPairs at h
    split at h
    case h_2 => exact nomatch h
    case h_1 x r ps h1 h2 h3 =>
      cases h
      obtain ⟨e, rfl, he⟩ := key_c (X := X) h1
      obtain ⟨g1, g2, g3, g4⟩ := pps_c (X := X) (pos := pos) ks vs ps h3
      exact ⟨pps_cons he (row_c h2) g1, by rw [List.all_cons, g2]; rfl, congrArg (· + 1) g3, congrArg (· + 1) g4⟩
theorem pe_cDisp {X : Cx} {e : Expr} {L : List (Str × List Int)} (h : cDisp e = some L) (h0 : L ≠ []) (h15 : L.length ≤ 15) : PE X e (tDisp (tPairsR L)) := by
  unfold cDisp at h
  split at h
  case h_2 => exact nomatch h
  case h_1 ks vs pos =>
    obtain ⟨g1, g2, g3, g4⟩ := pps_c (X := X) (pos := pos) ks vs L h
    exact pe_disp g1 g2 (g3.trans g4.symm) (fun z => by rw [z] at g3; exact h0 (List.eq_nil_of_length_eq_zero g3.symm)) (by rw [g3]; exact h15)
inductive DRel (K : PySem.W.Frag) (H : Hp) : List (Str × List Int) → List (Key × V) → Prop where
  | nil : DRel K H [] []
  | cons {x : Str} {r : List Int} {v : Addr} {L : List (Str × List Int)} {kvs : List (Key × V)} (h : SqT K H v (r.map V.int)) (t : DRel K H L kvs) : DRel K H ((x, r) :: L) ((.inr x, .ref v) :: kvs)
section
variable {K : PySem.W.Frag} {H H' : Hp} {L : List (Str × List Int)} {kvs : List (Key × V)}
theorem DRel.tup (h : DRel K H L kvs) (s : Tup H H') : DRel K H' L kvs := by
  induction h with
  | nil => exact .nil
  | cons h t ih => exact .cons (s.seqT h) ih
theorem DRel.keys (h : DRel K H L kvs) : kvs.map (·.1) = L.map fun p => (Sum.inr p.1 : Key) := by
  induction h with
  | nil => rfl
  | cons h t ih => rw [List.map_cons, List.map_cons, ih]
theorem DRel.get (h : DRel K H L kvs) (x : Str) : (∃ r v, L.lookup x = some r ∧ valV (κ := Key) kvs (.inr x) = some (.ref v) ∧ SqT K H v (r.map V.int)) ∨ (L.lookup x = none ∧ valV (κ := Key) kvs (.inr x) = none) := by
  induction h with
  | nil => exact .inr ⟨rfl, rfl⟩
  | @cons y r v L kvs h t ih =>
    by_cases e : y = x
    · subst e
      exact .inl ⟨r, v, by simp, valV_pos rfl, h⟩
    · have n : (x == y) = false := beq_eq_false_iff_ne.mpr fun z => e z.symm
      rw [List.lookup_cons, n, valV_neg (p := (Sum.inr y, V.ref v)) (fun z => e (Sum.inr.inj z))]
      exact ih
end
theorem mergeK_nd : ∀ (more kvs : List (Key × V)), ((kvs ++ more).map (·.1)).Nodup → mergeK kvs more = kvs ++ more
  | [], kvs, _ => by rw [List.append_nil]; rfl
  | p :: more, kvs, h => by
    have hv : valV kvs p.1 = none := by
      unfold valV
      rw [Option.map_eq_none_iff, List.find?_eq_none]
      intro q hq z
      rw [decide_eq_true_eq] at z
      rw [List.map_append, List.map_cons, List.nodup_append] at h
      exact h.2.2 q.1 (List.mem_map_of_mem hq) p.1 List.mem_cons_self z
    show mergeK (putK kvs p.1 p.2) more = _
    rw [putK_new _ hv, mergeK_nd more (kvs ++ [(p.1, p.2)]) (by rw [List.append_assoc]; exact h), List.append_assoc]
    rfl
theorem pairsR_read {K : PySem.W.Frag} {σ : St} : ∀ (L : List (Str × List Int)) {H : Hp} {Q : List (V × V) → Hp → Prop}, (∀ p ∈ L, p.2.length ≤ 1000) → (∀ kvs H', Same H H' → DRel K H' L kvs → Q (kvs.map fun kv => (kV kv.1, kv.2)) H') → tPairs (tPairsR L) σ H Q
  | [], H, Q, _, q => by
    unfold tPairsR tPairs
    exact q [] H (.refl _) .nil
  | p :: L, H, Q, hl, q => by
    have h0 := hl p List.mem_cons_self
    have h : tRow p.2 σ H (fun y H2 => tPairs (tPairsR L) σ H2 fun ps H3 => Q ((.str p.1, y) :: ps) H3) := by
      refine ⟨by rw [List.length_map]; exact Nat.le_trans h0 (by decide), fun t ht => ?_⟩
      exact pairsR_read (K := K) L (fun x hx => hl x (List.mem_cons_of_mem _ hx)) fun kvs H' s h => q ((.inr p.1, .ref t) :: kvs) H' ((Same.upd ht).trans s) (.cons (s.seqT (.of upd_same)) h)
    unfold tPairsR tPairs
    exact h
theorem dispR_read {K : PySem.W.Frag} {σ : St} {L : List (Str × List Int)} {H : Hp} {Q : VK} (nd : (L.map (·.1)).Nodup) (hL : L.length ≤ 15) (hl : ∀ p ∈ L, p.2.length ≤ 1000) (q : ∀ p kvs H', H p = none → Same H H' → H' p = some (.dK kvs) → DRel K H' L kvs → Q (.ref p) H') : tDisp (tPairsR L) σ H Q := by
  intro p hp
  have hs : Same H (upd H p (.dK [])) := .upd hp
  have hpe : (upd H p (.dK [])) p = some (.dK []) := upd_same
  generalize upd H p (.dK []) = H0 at hs hpe
  refine pairsR_read (K := K) L hl fun kvs H1 s1 r => ?_
  have hp1 := s1 _ _ hpe
  have ek := r.keys
  refine ⟨hp1, kvs, rfl, ?_, ?_⟩
  · have := congrArg List.length ek
    rw [List.length_map, List.length_map] at this
    omega
  · rw [mergeK_nd kvs [] (by
      rw [List.nil_append, ek]
      rw [show (L.map fun p => (Sum.inr p.1 : Key)) = (L.map (·.1)).map Sum.inr by rw [List.map_map]; rfl]
      exact List.Pairwise.map _ (fun a b (h : a ≠ b) (z : Sum.inr a = Sum.inr b) => h (Sum.inr.inj z)) nd), List.nil_append]
    exact q p kvs _ hp (Same.put (hs.trans s1) hp) upd_same (r.tup (Tup.dct hp1))
end S21
namespace S21
open PySem L2 Bw
set_option maxHeartbeats 3900000
/-! ### the ends of the boxes -/
noncomputable abbrev endsL : List (Str × List Int) := [("id", [1, 1]), ("swap", [2, 2]), ("copy", [1, 2]), ("end", [1, 0]), ("add", [2, 1])]
noncomputable def boxL (x : Str) : Option (List Int) := if x = "empty" then some [0, 0] else if x = "cup" then some [0, 2] else if x = "none" then some [0, 1] else endsL.lookup x
noncomputable def EndsX (K : PySem.W.Frag) (H : Hp) (ed : Addr) (f : Str → Option (List Int)) (N : Nat) : Prop := ∃ kvs, H ed = some (.dK kvs) ∧ kvs.length ≤ N ∧ ∀ x : Str, (∃ r v, f x = some r ∧ valV (κ := Key) kvs (.inr x) = some (.ref v) ∧ SqT K H v (r.map V.int)) ∨ (f x = none ∧ valV (κ := Key) kvs (.inr x) = none)
theorem EndsX.up {K : PySem.W.Frag} {H H' : Hp} {ed hl : Addr} {ys : List V} {f : Str → Option (List Int)} {N : Nat} (h : EndsX K H ed f N) (s : SameB hl H H') (g : H hl = some (.lst ys)) : EndsX K H' ed f N := by
  obtain ⟨kvs, e, hn, hx⟩ := h
  refine ⟨kvs, s _ _ (fun z => by rw [z, g] at e; cases e) e, hn, fun x => ?_⟩
  rcases hx x with ⟨r, v, h1, h2, h3⟩ | h
  · exact .inl ⟨r, v, h1, h2, s.seqT g h3⟩
  · exact .inr h
theorem EndsX.mono {K : PySem.W.Frag} {H H' : Hp} {ed : Addr} {f : Str → Option (List Int)} {N : Nat} (h : EndsX K H ed f N) (s : Same H H') : EndsX K H' ed f N := by
  obtain ⟨kvs, e, hn, hx⟩ := h
  refine ⟨kvs, s _ _ e, hn, fun x => ?_⟩
  rcases hx x with ⟨r, v, h1, h2, h3⟩ | h
  · exact .inl ⟨r, v, h1, h2, s.seqT h3⟩
  · exact .inr h
/-- d[y] = (a, b) -/
theorem put_read {K : PySem.W.Frag} {σ : St} {H0 H : Hp} {ed : Addr} {f : Str → Option (List Int)} {N : Nat} {y : Str} {a b : Int} {D : Ends} (h2 : σ[2]? = some (some (.ref ed))) (hE : EndsX K H ed f N) (hN : N ≤ 1000) (s : Same H0 H) (hed : H0 ed = none)
    (k : ∀ H', Same H0 H' → EndsX K H' ed (fun x => if x = y then some [a, b] else f x) (N + 1) → D.nx σ H') : sDPut (tVar 2) (tC (.str y)) (tTup (tCons (tC (.int a)) (tCons (tC (.int b)) tNil))) D σ H := by
  have z1000 : (1000 : Nat) < sizeLine := by decide
  obtain ⟨kvs, e, hn, hx⟩ := hE
  refine ⟨by show 2 ≤ sizeLine; decide, fun t ht => ⟨_, h2, ed, _, rfl, DPut.k (k := .inr y) (Same.upd ht _ _ e) (by omega), ?_⟩⟩
  have st := Same.upd ht (o := .tup [.int a, .int b])
  have e' := st _ _ e
  have gt : SqT K (upd H t (.tup [.int a, .int b])) t ([a, b].map V.int) := .of upd_same
  generalize upd H t (.tup [.int a, .int b]) = H1 at st e' gt ⊢
  have tp : Tup H1 (upd H1 ed (.dK (putK kvs (.inr y) (.ref t)))) := Tup.dct e'
  refine k _ ((s.trans st).write hed) ⟨_, upd_same, ?_, fun x => ?_⟩
  · have := length_mergeK [(.inr y, V.ref t)] kvs
    have e0 : mergeK kvs [(.inr y, V.ref t)] = putK kvs (.inr y) (.ref t) := rfl
    rw [e0] at this
    exact Nat.le_trans this (by simp; omega)
  · dsimp only
    rw [valV_put]
    by_cases c : x = y
    · subst c
      rw [if_pos rfl, if_pos rfl]
      exact .inl ⟨[a, b], t, rfl, rfl, tp.seqT gt⟩
    · rw [if_neg c, if_neg fun z => c (Sum.inr.inj z)]
      rcases hx x with ⟨r, v, h1, h2, h3⟩ | h
      · exact .inl ⟨r, v, h1, h2, tp.seqT (st.seqT h3)⟩
      · exact .inr h
/-! ### what is held: ends -/
inductive Held2 (K : PySem.W.Frag) (H : Hp) : List D1.Dr → List V → Prop where
  | nil : Held2 K H [] []
  | cons {a : Addr} {d : D1.Dr} {ds : List D1.Dr} {HS : List V} (h : SqT K H a [.int (d.l : Int), .int (d.r : Int)]) (r : Held2 K H ds HS) : Held2 K H (d :: ds) (HS ++ [.ref a])
section
variable {K : PySem.W.Frag} {H H' : Hp} {ds : List D1.Dr} {HS : List V}
theorem Held2.up {hl : Addr} {ys : List V} (h : Held2 K H ds HS) (s : SameB hl H H') (g : H hl = some (.lst ys)) : Held2 K H' ds HS := by
  induction h with
  | nil => exact .nil
  | cons h _ ih => exact .cons (s.seqT g h) ih
theorem Held2.len (h : Held2 K H ds HS) : HS.length = ds.length := by
  induction h with
  | nil => rfl
  | cons _ _ ih => rw [List.length_append, ih]; rfl
theorem Held2.pop {d : D1.Dr} (h : Held2 K H (d :: ds) HS) : ∃ a HS', HS = HS' ++ [.ref a] ∧ SqT K H a [.int (d.l : Int), .int (d.r : Int)] ∧ Held2 K H ds HS' := by
  cases h with
  | cons h r => exact ⟨_, _, rfl, h, r⟩
end
/-- the ways a word is read -/
inductive Cls (K : PySem.W.Frag) (p : Int) : D1.Sta → D1.Wd → Prop where
  | num (m : Int) (ds : List D1.Dr) (h : 0 ≤ m ∧ m < p) : Cls K p (some m, ds) (.n m)
  | tim (n : Int) (ds : List D1.Dr) : Cls K p (none, .times n :: ds) (.w "times")
  | box (d : D1.Dr) (ds : List D1.Dr) (x : String) (h1 : D1.nxt (none, d :: ds) = (none, ds)) (h2 : Str.ofString x ≠ Str.ofString "times") (h3 : boxL (Str.ofString x) = some [(d.l : Int), (d.r : Int)]) : Cls K p (none, d :: ds) (.w x)
  | joi (d : D1.Dr) (ds : List D1.Dr) (x : String) (h1 : (D1.nxt (none, d :: ds)).1 = none) (h2 : Str.ofString x ≠ Str.ofString "times") (h3 : boxL (Str.ofString x) = none)
      (h4 : ∀ (H : Hp) (hl : Addr) (HS : List V) (Q : VK) (E : XK), H hl = some (.lst HS) → HS.length ≤ 9000000 → Held2 K H (D1.nxt (none, d :: ds)).2 HS →
        (∀ t H' HS', SameB hl H H' → H' hl = some (.lst HS') → HS'.length ≤ HS.length → Held2 K H' ds HS' → SqT K H' t [.int (d.l : Int), .int (d.r : Int)] → Q (.ref t) H') → spJoint K [.str (Str.ofString x), .ref hl] H Q E) : Cls K p (none, d :: ds) (.w x)
theorem cls_of {K : PySem.W.Frag} {p : Int} {B : Nat} {st : D1.Sta} {wd : D1.Wd} (ok : D1.okS p B st) (hw : (D1.wordsS st)[0]? = some wd) : Cls K p st wd := by
  obtain ⟨ν, ds⟩ := st
  cases ν with
  | some m => cases hw; exact .num m ds (ok.1 m rfl)
  | none =>
    cases ds with
    | nil => cases hw
    | cons d ds =>
      have hd := ok.2 d List.mem_cons_self
      cases d with
      | times n => cases hw; exact .tim n ds
      | id => cases hw; exact .box _ ds "id" rfl (by decide) (by decide)
      | swap => cases hw; exact .box _ ds "swap" rfl (by decide) (by decide)
      | copy => cases hw; exact .box _ ds "copy" rfl (by decide) (by decide)
      | fin => cases hw; exact .box _ ds "end" rfl (by decide) (by decide)
      | add => cases hw; exact .box _ ds "add" rfl (by decide) (by decide)
      | none => cases hw; exact .box _ ds "none" rfl (by decide) (by decide)
      | cup => cases hw; exact .box _ ds "cup" rfl (by decide) (by decide)
      | empty => cases hw; exact .box _ ds "empty" rfl (by decide) (by decide)
      | back d =>
        cases hw
        refine .joi _ ds "back" rfl (by decide) (by decide) fun H hl HS Q E g hz h k => ?_
        obtain ⟨a, HS', rfl, ha, hr⟩ := Held2.pop (d := d) (ds := ds) h
        exact ⟨hl, _, HS', g, hz, .inl ⟨a, _, _, rfl, rfl, ha, fun t H' s g' ht => k t H' HS' s g' (by simp) (hr.up s g) ht⟩⟩
      | beside a b =>
        cases hw
        refine .joi _ ds "beside" rfl (by decide) (by decide) fun H hl HS Q E g hz h k => ?_
        obtain ⟨x, HS1, rfl, hx, hr1⟩ := Held2.pop (d := a) (ds := b :: ds) h
        obtain ⟨y, HS', rfl, hy, hr⟩ := hr1.pop
        refine ⟨hl, _, HS', g, hz, .inr (.inl ⟨x, y, _, _, _, _, rfl, rfl, hx, hy, fun t H' s g' ht => k t H' HS' s g' (by simp) (hr.up s g) ?_⟩)⟩
        have e1 : ((D1.Dr.beside a b).l : Int) = (a.l : Int) + (b.l : Int) := Int.natCast_add _ _
        have e2 : ((D1.Dr.beside a b).r : Int) = (a.r : Int) + (b.r : Int) := Int.natCast_add _ _
        rw [e1, e2]
        exact ht
      | thn a b =>
        cases hw
        refine .joi _ ds "then" rfl (by decide) (by decide) fun H hl HS Q E g hz h k => ?_
        obtain ⟨x, HS1, rfl, hx, hr1⟩ := Held2.pop (d := a) (ds := b :: ds) h
        obtain ⟨y, HS', rfl, hy, hr⟩ := hr1.pop
        have hab : b.l = a.r := hd.1.2.2.symm
        rw [hab] at hy
        exact ⟨hl, _, HS', g, hz, .inr (.inr ⟨x, y, _, _, _, rfl, rfl, hx, hy, fun t H' s g' ht => k t H' HS' s g' (by simp) (hr.up s g) ht⟩)⟩
end S21
namespace S21
open PySem L2 Bw
set_option maxHeartbeats 3900000
section
variable {P : Program} {w : World} {K : PySem.W.Frag} {mg : Str → Option Value} {base : Heap}
theorem seq_asgn {te : TE} {i : Nat} {u : TS} {D : Ends} {σ : St} {H : Hp} (h : te σ H fun x H1 => u D (σ.set i (some x)) H1) : tSeq (tAsg te (gName i)) u D σ H := h
theorem seq_s {t u : TS} {D : Ends} {σ : St} {H : Hp} (h : t { D with nx := u D } σ H) : tSeq t u D σ H := h
/-! ### _law_sides -/
noncomputable def numV : Option Int → V
  | some m => .int m
  | none => .non
noncomputable def spSides (K : PySem.W.Frag) : Sp := fun vs H Q _ => ∃ (p : Int) (a : Addr) (d : D1.Dr), vs = [.ref a, .int p] ∧ SqT K H a (d.words.map wdV) ∧ d.wf p ∧ d.nar 64 ∧ d.words.length ≤ 9000000 ∧
  ∀ t H', Same H H' → SqT K H' t [.int (d.l : Int), .int (d.r : Int)] → Q (.ref t) H'
theorem scSd : FnScope ["words", "p", "ends_of_box", "held", "number", "word", "found"] ["words", "p"] (defScope s_law_sides) := ⟨rfl, rfl, rfl, by decide +kernel, rfl, by decide +kernel, by decide +kernel⟩
theorem ok_sides {f fJ : Addr} {fd fdJ : FuncData} (F : Fun K "_law_sides" "_law_sides" s_law_sides f fd) (T : Txt mg)
    (GJ : FnOk P w K mg base CX0 1 fJ fdJ ["word", "held"] (spJoint K)) (kJ : PySem.W.keepIn K (.ref fJ) = true) (bJ : Binds K fdJ ["word", "held"] []) (mJ : mg "_law_joint" = some (.ref fJ)) :
    FnOk P w K mg base CX0 2 f fd ["words", "p"] (spSides K) := by
  refine F.ok scSd (fun vs H Q E h => ?_) (fun cdv A outer s H vs Q E hr h => ?_)
  · obtain ⟨p, a, d, rfl, _⟩ := h
    rfl
  · obtain ⟨p, a, d, rfl, ha, wf, nr, hlen, q⟩ := h
    have hu := hr.units
    have hu1 := Nat.lt_of_le_of_lt (Nat.add_le_add_left (show 1 ≤ 64 by decide) _) hu
    refine' ⟨tSeq (tAsg (tDisp (tPairsR endsL)) (gName 2)) _, pss_cons ?_ ?_, ?_⟩
    case refine_2.refine'_2 =>
      refine ps_set ?_ ?_ ?_ ?_ ?_ ?_
      · exact scSd.nd
      · rfl
      · exact Or.inl rfl
      · refine pe_cDisp ?_ ?_ ?_
        · kernel_rfl
        · decide
        · decide
      · rfl
      · exact .inl rfl
    case refine_2.refine'_3 =>
     exact (pss_cons (ps_dput hu1 (pv 2) pe_str (pe_tup (pa_cons pe_int (pa_cons pe_int pa_nil))) rfl)
      (pss_cons (ps_dput hu1 (pv 2) pe_str (pe_tup (pa_cons pe_int (pa_cons pe_int pa_nil))) rfl)
      (pss_cons (ps_dput hu1 (pv 2) pe_str (pe_tup (pa_cons pe_int (pa_cons pe_int pa_nil))) rfl)
      (pss_cons (ps_set (i := 3) scSd.nd rfl (Or.inl rfl) (pe_lst pa_nil))
      (pss_cons (ps_set (i := 4) scSd.nd rfl (Or.inl rfl) pe_non)
      (pss_cons (ps_for PassesOwn.never rfl (piList K rfl (pe_listRev K rfl rfl rfl T.list rfl T.reversed (pv 0))) (pg_name (i := 5) scSd.nd rfl (Or.inl rfl))
        (pss_cons (ps_if (pt_val (pe_callB (cIsW K rfl (T := "int")) rfl T.isinstance bt_isinstance (pa_cons (pv 5) (pa_cons (pe_ty rfl T.int bt_int) pa_nil))))
          (pss_cons (ps_if (PW.pt (pw_or (pt_val (pe_callB (cIsW K rfl (T := "bool")) rfl T.isinstance bt_isinstance (pa_cons (pv 5) (pa_cons (pe_ty rfl T.bool bt_bool) pa_nil)))) (pw_or (pt_not (pt_chain op_le op_lt pe_int (pv 5) (pv 1))) (pw_or1 (pt_cmpR op_notN (pv 4) pe_non (nomark _)))))) (pss_one (ps_ret pe_non)) pss_nil)
          (pss_cons (ps_set (i := 4) scSd.nd rfl (Or.inl rfl) (pv 5))
          (pss_one ps_continue))) pss_nil)
        (pss_cons (ps_if (pt_cmpR op_ne (pe_cmpR op_eq (pv 5) pe_str (nomark _)) (pe_cmpR op_notN (pv 4) pe_non (nomark _)) (nomark _)) (pss_one (ps_ret pe_non)) pss_nil)
        (pss_one (ps_if (pt_cmpR op_eq (pv 5) pe_str (nomark _))
          (pss_cons (ps_expr (pe_bm PySem.F.plainAttrs_list PySem.F.slot_list_append PySem.F.type_list_append mt_append (pv 3) (pa_cons (pe_tup (pa_cons pe_int (pa_cons pe_int pa_nil))) pa_nil)))
          (pss_one (ps_set (i := 4) scSd.nd rfl (Or.inl rfl) pe_non)))
          (pss_one (ps_if (pt_cmp (pc_din hu1 (pv 5) (pv 2)) rfl)
            (pss_one (ps_expr (pe_bm PySem.F.plainAttrs_list PySem.F.slot_list_append PySem.F.type_list_append mt_append (pv 3) (pa_cons (pe_dget hu1 (pv 2) (pv 5) (fun _ _ => rfl)) pa_nil))))
            (pss_cons (ps_set (i := 6) scSd.nd rfl (Or.inl rfl) (pe_call GJ hr rfl mJ kJ bJ .nil pass0 (pa_cons (pv 5) (pa_cons (pv 3) pa_nil))))
            (pss_cons (ps_if (pt_cmpR op_isN (pv 6) pe_non (nomark _)) (pss_one (ps_ret pe_non)) pss_nil)
            (pss_one (ps_expr (pe_bm PySem.F.plainAttrs_list PySem.F.slot_list_append PySem.F.type_list_append mt_append (pv 3) (pa_cons (pv 6) pa_nil)))))))))))))
      (pss_cons (ps_if (PW.pt (pw_or (pt_cmpR op_ne (pe_callB (cLen K rfl) rfl T.len bt_len (pa_cons (pv 3) pa_nil)) pe_int (nomark _)) (pw_or1 (pt_cmpR op_notN (pv 4) pe_non (nomark _))))) (pss_one (ps_ret pe_non)) pss_nil)
      (pss_one (ps_ret (pe_ix (ixL K rfl) (pv 3) pe_int (fun _ _ => rfl)))))))))))
    have z9 : (9000000 : Nat) < sizeLine := by decide
    have eN : (d.words.map wdV).length = d.words.length := List.length_map _
    have okd : D1.okS p 64 (none, [d]) := ⟨fun m e => (nomatch e), fun d' h' => by rw [List.mem_singleton.mp h']; exact ⟨wf, nr⟩⟩
    refine seq_asgn (dispR_read (K := K) (L := endsL) (by decide) (by decide) (by decide) fun ed kvs H1 hed s1 ge hD => ?_)
    have E1 : EndsX K H1 ed (fun x => endsL.lookup x) 5 := ⟨kvs, ge, by
      have := congrArg List.length hD.keys
      rw [List.length_map, List.length_map] at this
      rw [this]
      decide, fun x => by
      rcases hD.get x with ⟨r, v, h1, h2, h3⟩ | h
      · exact .inl ⟨r, v, h1, h2, h3⟩
      · exact .inr h⟩
    refine seq_s (put_read rfl E1 (by decide) s1 hed fun H2 s2 E2 => ?_)
    refine seq_s (put_read rfl E2 (by decide) s2 hed fun H3 s3 E3 => ?_)
    refine seq_s (put_read rfl E3 (by decide) s3 hed fun H4 s4 E4 => ?_)
    have E4 : EndsX K H4 ed boxL 8 := E4
    clear E3 E2 E1 s3 s2 s1 hD ge
    refine ⟨by decide, fun hl hhl => ?_⟩
    have s5 : Same H4 (upd H4 hl (.lst [])) := .upd hhl
    have g5 : (upd H4 hl (.lst [])) hl = some (.lst []) := upd_same
    have hlH : H hl = none := none_of s4 hhl
    generalize upd H4 hl (.lst []) = H5 at s5 g5 ⊢
    refine ⟨_, rfl, a, _, rfl, (s4.trans s5).seqT ha, fun lw hlw => ⟨lw, rfl, ⟨_, .of upd_same⟩, ?_⟩⟩
    have s6 : Same H5 (upd H5 lw (.lst (d.words.map wdV).reverse)) := .upd hlw
    have gw : (upd H5 lw (.lst (d.words.map wdV).reverse)) lw = some (.lst (d.words.map wdV).reverse) := upd_same
    have nel : lw ≠ hl := fun e => by rw [e, g5] at hlw; cases hlw
    have g6 := s6 _ _ g5
    have E6 := E4.mono (s5.trans s6)
    have sH := (s4.trans s5).trans s6
    generalize upd H5 lw (.lst (d.words.map wdV).reverse) = H6 at s6 gw g6 E6 sH ⊢
    clear s6 s5 E4 g5 hlw hhl s4
    refine for_list (xs := (d.words.map wdV).reverse) (fun k σ H' => SameB hl H6 H' ∧ ∃ HS s5 s6, σ = [some (.ref a), some (.int p), some (.ref ed), some (.ref hl), some (numV (D1.stS (none, [d]) (d.words.length - k)).1), s5, s6] ∧ H' hl = some (.lst HS) ∧ Held2 K H' (D1.stS (none, [d]) (d.words.length - k)).2 HS)
      ⟨.of (.refl _), [], none, none, ?_, g6, ?_⟩ (fun i σ H' _ ⟨sm, _⟩ => .of (sm _ _ nel gw)) ?_ ?_
    · rw [Nat.sub_zero, D1.stS_end]
      rfl
    · rw [Nat.sub_zero, D1.stS_end]
      exact .nil
    · rintro k x σ H1 hx ⟨sm, HS, s5, s6, rfl, g, hH⟩
      have hk : k < d.words.length := by
        have := (List.getElem?_eq_some_iff.mp hx).1
        rw [List.length_reverse, eN] at this
        exact this
      obtain ⟨i, hi⟩ : ∃ i, d.words.length - k = i + 1 := ⟨d.words.length - k - 1, by omega⟩
      have few := D1.stS_few d (i + 1)
      rw [hi] at hH ⊢
      have hi2 : d.words.length - (k + 1) = i := by omega
      have hil : i < d.words.length := by omega
      rw [List.getElem?_reverse (by rw [eN]; exact hk), eN, show d.words.length - 1 - k = i by omega, List.getElem?_map, List.getElem?_eq_getElem hil] at hx
      cases hx
      have hw := D1.stS_at (d := d) (i := i)
      rw [List.getElem?_eq_getElem hil] at hw
      have C := cls_of (K := K) (D1.stS_ok okd i) hw.symm
      generalize d.words[i] = wd at C
      have hz := hH.len
      have e1 : D1.stS (none, [d]) (i + 1) = D1.nxt (D1.stS (none, [d]) i) := rfl
      have fin : ∀ (HS' : List V) (s5 s6 : Option V) (H' : Hp), SameB hl H1 H' → H' hl = some (.lst HS') → Held2 K H' (D1.stS (none, [d]) i).2 HS' → SameB hl H6 H' ∧ ∃ HS s5' s6', ([some (.ref a), some (.int p), some (.ref ed), some (.ref hl), some (numV (D1.stS (none, [d]) i).1), s5, s6] : St) = [some (.ref a), some (.int p), some (.ref ed), some (.ref hl), some (numV (D1.stS (none, [d]) (d.words.length - (k + 1))).1), s5', s6'] ∧ H' hl = some (.lst HS) ∧ Held2 K H' (D1.stS (none, [d]) (d.words.length - (k + 1))).2 HS := fun HS' s5 s6 H' s' g' h' => ⟨sm.trans s', HS', s5, s6, by rw [hi2], g', by rw [hi2]; exact h'⟩
      rw [e1] at hH hz few ⊢
      have E7 := E6.up sm g6
      generalize D1.stS (none, [d]) i = st at C hH hz few fin ⊢
      have s9 : HS.length ≤ 9000000 := by omega
      cases C with
      | num m ds h =>
        refine ⟨_, rfl, _, true, rfl, .inl ⟨m, rfl, kit_int_int K⟩, _, rfl, iteT ?_⟩
        refine ⟨_, rfl, _, false, rfl, .inl ⟨m, rfl, kit_int_bool K⟩, _, rfl, iteF ?_⟩
        refine ⟨_, rfl, _, _, rfl, rfl, _, rfl, ?_⟩
        rw [decide_eq_true h.1]
        refine iteT ⟨_, rfl, _, _, rfl, rfl, _, rfl, ?_⟩
        rw [decide_eq_true h.2]
        refine iteF ⟨_, rfl, rfl, _, rfl, iteNe (fun z => absurd rfl z) (fun _ => ?_)⟩
        exact ⟨_, rfl, fin HS _ _ H1 (.of (.refl _)) g hH⟩
      | tim n ds =>
        refine ⟨_, rfl, _, false, rfl, .inr ⟨_, rfl, kit_str_int K⟩, _, rfl, iteF ?_⟩
        refine ⟨_, rfl, rfl, _, rfl, rfl, rfl, _, rfl, iteNe (fun z => absurd ?_ z) (fun _ => ?_)⟩
        · rw [decide_eq_true (show wdV (.w "times") = V.str (Str.ofString "times") from rfl), decide_eq_false (show ¬ numV (D1.nxt (none, .times n :: ds)).1 = V.non from fun z => nomatch z)]
          rfl
        refine ⟨_, rfl, rfl, _, rfl, ?_⟩
        rw [decide_eq_true (show wdV (.w "times") = V.str (Str.ofString "times") from rfl)]
        refine iteT ⟨_, rfl, .inl ⟨rfl, _, SqL.of g⟩, by show 2 ≤ sizeLine; decide, fun t ht => ⟨hl, HS, .ref t, rfl, rfl, Same.upd ht _ _ g, by omega, ?_⟩⟩
        refine fin (HS ++ [.ref t]) _ _ _ (SameB.trans (.of (.upd ht)) .wr) upd_same ?_
        exact .cons (d := .times n) (SameB.seqT .wr (Same.upd ht _ _ g) (.of upd_same)) (hH.up (SameB.trans (.of (.upd ht)) .wr) g)
      | box d' ds x h1 h2 h3 =>
        rw [h1] at hH ⊢
        refine ⟨_, rfl, _, false, rfl, .inr ⟨_, rfl, kit_str_int K⟩, _, rfl, iteF ?_⟩
        refine ⟨_, rfl, rfl, _, rfl, rfl, rfl, _, rfl, iteNe (fun z => absurd ?_ z) (fun _ => ?_)⟩
        · rw [decide_eq_false (show ¬ wdV (.w x) = V.str (Str.ofString "times") from fun z => h2 (V.str.inj z)), decide_eq_true (show numV none = V.non from rfl)]
          rfl
        refine ⟨_, rfl, rfl, _, rfl, ?_⟩
        rw [decide_eq_false (show ¬ wdV (.w x) = V.str (Str.ofString "times") from fun z => h2 (V.str.inj z))]
        obtain ⟨kvs, ge, hn, hx⟩ := E7
        rcases hx (Str.ofString x) with ⟨r, v, e1', e2', e3'⟩ | ⟨e1', _⟩
        · rw [h3] at e1'
          cases e1'
          have dg : DGet H1 ed (.str (Str.ofString x)) (some (.ref v)) := by
            rw [← e2']
            exact DGet.k (k := .inr (Str.ofString x)) ge
          refine iteF ⟨_, rfl, _, rfl, ed, _, rfl, dg, _, rfl, iteT ?_⟩
          refine ⟨_, rfl, .inl ⟨rfl, _, SqL.of g⟩, _, rfl, _, rfl, ed, _, rfl, dg, hl, HS, .ref v, rfl, rfl, g, by omega, ?_⟩
          refine fin (HS ++ [.ref v]) _ _ _ .wr upd_same ?_
          exact .cons (d := d') (SameB.seqT .wr g e3') (hH.up .wr g)
        · rw [h3] at e1'
          cases e1'
      | joi d' ds x h1 h2 h3 h4 =>
        rw [h1]
        refine ⟨_, rfl, _, false, rfl, .inr ⟨_, rfl, kit_str_int K⟩, _, rfl, iteF ?_⟩
        refine ⟨_, rfl, rfl, _, rfl, rfl, rfl, _, rfl, iteNe (fun z => absurd ?_ z) (fun _ => ?_)⟩
        · rw [decide_eq_false (show ¬ wdV (.w x) = V.str (Str.ofString "times") from fun z => h2 (V.str.inj z)), decide_eq_true (show numV none = V.non from rfl)]
          rfl
        refine ⟨_, rfl, rfl, _, rfl, ?_⟩
        rw [decide_eq_false (show ¬ wdV (.w x) = V.str (Str.ofString "times") from fun z => h2 (V.str.inj z))]
        obtain ⟨kvs, ge, hn, hx⟩ := E7
        rcases hx (Str.ofString x) with ⟨r, v, e1', e2', e3'⟩ | ⟨_, e2'⟩
        · rw [h3] at e1'
          cases e1'
        · have dg : DGet H1 ed (.str (Str.ofString x)) none := by
            rw [← e2']
            exact DGet.k (k := .inr (Str.ofString x)) ge
          refine iteF ⟨_, rfl, _, rfl, ed, _, rfl, dg, _, rfl, iteF ?_⟩
          refine ⟨_, rfl, _, rfl, h4 H1 hl HS _ E0 g s9 hH fun t H' HS' s' g' hl' hH' ht => ?_⟩
          refine ⟨_, rfl, rfl, _, rfl, ?_⟩
          rw [decide_eq_false (show ¬ V.ref t = V.non from fun z => nomatch z)]
          refine iteF ⟨_, rfl, .inl ⟨rfl, _, SqL.of g'⟩, _, rfl, hl, HS', .ref t, rfl, rfl, g', by omega, ?_⟩
          exact fin (HS' ++ [.ref t]) _ _ _ (s'.trans .wr) upd_same (.cons (d := d') (SameB.seqT .wr g' ht) (hH'.up .wr g'))
    · rintro σ H1 ⟨sm, HS, s5, s6, rfl, g, hH⟩
      rw [List.length_reverse, eN, Nat.sub_self] at hH ⊢
      obtain ⟨t, HS', rfl, ht, hr'⟩ := Held2.pop (d := d) (ds := []) hH
      cases hr'
      refine ⟨_, rfl, hl, _, rfl, .inl (.of g), rfl, _, rfl, iteNe (fun h => absurd rfl h) (fun _ => ?_)⟩
      refine ⟨_, rfl, rfl, _, rfl, iteNe (fun h => absurd rfl h) (fun _ => ?_)⟩
      exact ⟨_, rfl, hl, _, 0, .ref t, rfl, rfl, .of g, atI_nat (j := 0) rfl, q t H1 (SameB.same sH hlH sm) ht⟩
end
end S21
namespace S21
open PySem L2 Bw
set_option maxHeartbeats 3900000
/-! ### what is drawn is read as what was handed in -/
theorem fn_join {q : List Int} {l r : Nat} (h : q.length = l + r) : fn q = D1.join3 l r (fn q) (D1.sh l (fn q)) := funext fun j => by
  unfold D1.join3 D1.sh
  by_cases h1 : j < l
  · rw [if_pos h1]
  · rw [if_neg h1]
    by_cases h2 : j < l + r
    · rw [if_pos h2]
      show fn q j = fn q (l + (j - l))
      rw [show l + (j - l) = j by omega]
    · rw [if_neg h2]
      show q.getD j 0 = 0
      rw [List.getD_eq_getElem?_getD, List.getElem?_eq_none (by omega)]
      rfl
theorem drawn_rows {p : Int} {rs : List (List Int)} {l r : Nat} (pp : p ∈ primesL) (hR : Bw.Rws p (l + r) rs) (hn : rs.length < 9) (hl : l < 9) (hr : r < 9) : redM p ((drawnD rs l r).rows p) = redM p rs := by
  have hR' : D1.Rws p rs (l + r) := fun q hq => hR q hq
  obtain ⟨wf, sd, lt⟩ := drawn_ok hR' hn hl hr
  obtain ⟨r1, _, r3⟩ := D1.rows_ok pp wf
  have e1 : (drawnD rs l r).l = l := congrArg Prod.fst sd
  have e2 : (drawnD rs l r).r = r := congrArg Prod.snd sd
  rw [e1, e2] at r1 r3
  have key : ∀ {q : List Int}, q.length = l + r → (Bw.Sp p (RS ((drawnD rs l r).rows p)) (fn q) ↔ Bw.Sp p (RS rs) (fn q)) := fun {q} h => by
    rw [fn_join h, D1.sp_lr (fun q hq => (r1 q hq).1), ← r3]
    exact lt _ _
  exact SpE.red pp r1 hR ⟨fun q hq => (key (r1 q hq).1).mp (sp_in hq), fun q hq => (key (hR q hq).1).mpr (sp_in hq)⟩
theorem red_idem {p : Int} {n : Nat} {R : List (List Int)} (pp : p ∈ primesL) (hR : Bw.Rws p n R) : redM p (redM p R) = redM p R := by
  have o := redM_ok pp hR
  exact SpE.red pp o.rws hR ⟨o.sub, o.sup⟩
theorem drawn_nar {p : Int} {rs : List (List Int)} {l r : Nat} (hR : D1.Rws p rs (l + r)) (hn : rs.length < 9) (hl : l < 9) (hr : r < 9) : (drawnD rs l r).nar 64 ∧ (drawnD rs l r).words.length ≤ 9000000 := by
  have hC := colsR_ok hR
  have nC := colsR_len rs (l + r)
  have n1 : ((colsR rs (l + r)).take l).length = l := by rw [List.length_take]; omega
  have n2 : ((colsR rs (l + r)).drop l).length = r := by rw [List.length_drop]; omega
  have c1 : D1.Rws p ((colsR rs (l + r)).take l) rs.length := hC.sub fun r hr => List.mem_of_mem_take hr
  have c2 : D1.Rws p ((colsR rs (l + r)).drop l) rs.length := hC.sub fun r hr => List.mem_of_mem_drop hr
  have a1 := D1.sumF_nar (p := p) 17 _ rs.length (by omega) hn (by omega) c1
  have a2 := D1.sumF_nar (p := p) 17 _ rs.length (by omega) hn (by omega) c2
  have w1 := D1.sumF_wl (p := p) (n := 17) (by omega) hn (by omega) c1
  have w2 := D1.sumF_wl (p := p) (n := 17) (by omega) hn (by omega) c2
  have d1 := (D1.sumF_ok (p := p) 17 _ rs.length (by omega) c1).1.1
  have d2 := (D1.sumF_ok (p := p) 17 _ rs.length (by omega) c2).1.1
  rw [n1] at d1
  rw [n2] at d2
  refine ⟨⟨a1, a2, ?_⟩, ?_⟩
  · show (D1.sumF 17 ((colsR rs (l + r)).take l) rs.length).sides.2 + (D1.sumF 17 ((colsR rs (l + r)).drop l) rs.length).sides.2 ≤ 64
    rw [d1, d2]
    show l + r ≤ 64
    omega
  · unfold drawnD
    simp only [D1.Dr.words, List.length_append, List.length_cons]
    omega
/-! ### words as data -/
noncomputable def wdD : D1.Wd → PySem.W.Dat
  | .w x => .str x
  | .n i => .int i
theorem has_words {K : PySem.W.Frag} {H : Hp} : ∀ ws : List D1.Wd, HasA K H (ws.map wdV) (ws.map wdD)
  | [] => .nil
  | .w _ :: ws => .cons (.str _) (has_words ws)
  | .n i :: ws => .cons (.int i) (has_words ws)
theorem kqd_wd : ["id", "swap", "copy", "end", "add", "none", "cup", "empty", "times", "back", "beside", "then"].all (fun x => PySem.W.kqdOk 7 (.str (Str.ofString x))) = true := by decide +kernel
theorem kqd_all : ∀ d : D1.Dr, (d.words.map wdD).all (PySem.W.kqdOk 7) = true := by
  have one : ∀ {x : String}, x ∈ ["id", "swap", "copy", "end", "add", "none", "cup", "empty", "times", "back", "beside", "then"] → PySem.W.kqdOk 7 (wdD (.w x)) = true := fun h => List.all_eq_true.mp kqd_wd _ h
  have b1 : ∀ {x : String}, x ∈ ["id", "swap", "copy", "end", "add", "none", "cup", "empty", "times", "back", "beside", "then"] → ([D1.Wd.w x].map wdD).all (PySem.W.kqdOk 7) = true := fun h => by
    rw [List.map_cons, List.all_cons, one h]
    rfl
  intro d
  induction d with
  | times n =>
    show (PySem.W.kqdOk 7 (wdD (.w "times")) && (PySem.W.kqdOk 7 (wdD (.n n)) && true)) = true
    rw [one (by decide)]
    rfl
  | back d ih =>
    show (PySem.W.kqdOk 7 (wdD (.w "back")) && (d.words.map wdD).all (PySem.W.kqdOk 7)) = true
    rw [one (by decide), ih]
    rfl
  | beside a b iha ihb =>
    show (PySem.W.kqdOk 7 (wdD (.w "beside")) && ((a.words ++ b.words).map wdD).all (PySem.W.kqdOk 7)) = true
    rw [one (by decide), List.map_append, List.all_append, iha, ihb]
    rfl
  | thn a b iha ihb =>
    show (PySem.W.kqdOk 7 (wdD (.w "then")) && ((a.words ++ b.words).map wdD).all (PySem.W.kqdOk 7)) = true
    rw [one (by decide), List.map_append, List.all_append, iha, ihb]
    rfl
  | _ => exact b1 (by decide)
theorem kqd_words (d : D1.Dr) : PySem.W.kqdOk 8 (.tuple (d.words.map wdD)) = true := kqd_all d
theorem kqd_tri (l r : Int) (rs : List (List Int)) : PySem.W.kqdOk 8 (.list [.int l, .int r, .tuple (rs.map intsT)]) = true := by
  show ([PySem.W.Dat.int l, .int r, .tuple (rs.map intsT)]).all (PySem.W.kqdOk 7) = true
  have h := kqd_rows 5 rs
  simp only [List.all_cons, List.all_nil, Bool.and_true]
  have h2 : PySem.W.kqdOk 7 (.tuple (rs.map intsT)) = true := h
  rw [h2]
  rfl
theorem cutV_ints (ns : List Int) (lo hi : Option Int) : ∃ ms : List Int, cutV (ns.map V.int) lo hi = ms.map V.int ∧ ms.length ≤ ns.length := by
  refine ⟨(ns.drop (HT.sIx ns.length 0 lo)).take (HT.sIx ns.length ns.length hi - HT.sIx ns.length 0 lo), ?_, ?_⟩
  · unfold cutV
    rw [List.length_map, List.map_take, List.map_drop]
  · rw [List.length_take, List.length_drop]
    omega
end S21
namespace S21
open PySem L2 Bw
set_option maxHeartbeats 3900000
section
variable {P : Program} {w : World} {K : PySem.W.Frag} {mg : Str → Option Value} {base : Heap}
/-! ### law -/
noncomputable def spLaw42 (K : PySem.W.Frag) : Sp := fun vs H Q _ => ∃ (a : Addr) (ns : List Int), vs = [.ref a] ∧ SqL K H a (ns.map V.int) ∧ ns.length ≤ 63 ∧ ∀ H', Q (.bl true) H'
theorem scL42 : FnScope ["script", "cells", "k", "some", "head", "p", "size", "many", "rows", "left", "handed", "found"] ["script"] (defScope s_law) := ⟨rfl, rfl, rfl, by decide +kernel, rfl, by decide +kernel, by decide +kernel⟩
theorem ok_law42 {f fP fL fD fS fM : Addr} {fd fdP fdL fdD fdS fdM : FuncData} (F : Fun K "law" "law" s_law f fd) (T : Txt mg)
    (GP : FnOk P w K mg base CX0 1 fP fdP ["cell"] spPrm) (kP : PySem.W.keepIn K (.ref fP) = true) (bP : Binds K fdP ["cell"] []) (mP : mg "_law_prime" = some (.ref fP))
    (GL : FnOk P w K mg base CX0 4 fL fdL ["p", "cells", "size", "many"] (spLst K)) (kL : PySem.W.keepIn K (.ref fL) = true) (bL : Binds K fdL ["p", "cells", "size", "many"] []) (mL : mg "_law_list" = some (.ref fL))
    (GD : FnOk P w K mg base CX0 63 fD fdD ["p", "rows", "left", "right"] (spDrawn K)) (kD : PySem.W.keepIn K (.ref fD) = true) (bD : Binds K fdD ["p", "rows", "left", "right"] []) (mD : mg "drawn" = some (.ref fD))
    (GS : FnOk P w K mg base CX0 2 fS fdS ["words", "p"] (spSides K)) (kS : PySem.W.keepIn K (.ref fS) = true) (bS : Binds K fdS ["words", "p"] []) (mS : mg "_law_sides" = some (.ref fS))
    (GM : FnOk P w K mg base CX0 4 fM fdM ["p", "words"] (spMean K)) (kM : PySem.W.keepIn K (.ref fM) = true) (bM : Binds K fdM ["p", "words"] []) (mM : mg "_law_meaning" = some (.ref fM)) :
    FnOk P w K mg base CX0 64 f fd ["script"] (spLaw42 K) := by
  refine F.ok scL42 (fun vs H Q E h => ?_) (fun cdv A outer s H vs Q E hr h => ?_)
  · obtain ⟨a, ns, rfl, _⟩ := h
    rfl
  · obtain ⟨a, ns, rfl, ha, hns, q⟩ := h
    have hu := hr.units
    have r1 : Room 1 _ := hr.mono (by omega)
    have r2 : Room 2 _ := hr.mono (by omega)
    have r4 : Room 4 _ := hr.mono (by omega)
    refine ⟨_, pss_cons (ps_set (i := 1) scL42.nd rfl (Or.inl rfl) (pe_slice (slL K rfl) (pv 0) po_none (po_some pe_int)))
      (pss_cons (ps_for PassesOwn.never rfl (pi_step9 rfl T.range (pa_cons pe_int (pa_cons (pe_callB (call_max2 rfl) rfl T.max bt_max (pa_cons pe_int (pa_cons (pe_callB (cLen K rfl) rfl T.len bt_len (pa_cons (pv 1) pa_nil)) pa_nil))) (pa_cons pe_int pa_nil)))) (pg_name (i := 2) scL42.nd rfl (Or.inl rfl))
        (pss_cons (ps_set (i := 3) scL42.nd rfl (Or.inl rfl) (pe_slice (slL K rfl) (pv 1) (po_some (pv 2)) (po_some (pe_op op_add (pv 2) pe_int))))
        (pss_cons (ps_set (i := 4) scL42.nd rfl (Or.inl rfl) (pe_callB (cSum K rfl rfl) rfl T.sum bt_sum (pa_cons (pv 3) pa_nil)))
        (pss_cons (ps_set (i := 5) scL42.nd rfl (Or.inl rfl) (pe_call GP r1 rfl mP kP bP .nil pass0 (pa_cons (pv 4) pa_nil)))
        (pss_cons (ps_set (i := 6) scL42.nd rfl (Or.inl rfl) (pe_op op_mod (pe_op op_fdiv (pv 4) pe_int) pe_int))
        (pss_cons (ps_set (i := 7) scL42.nd rfl (Or.inl rfl) (pe_op op_mod (pe_op op_fdiv (pv 4) pe_int) pe_int))
        (pss_cons (ps_if (PW.pt (pw_or (pt_cmpR op_eq (pv 2) pe_int (nomark _)) (pw_or1 (pt_cmpR op_eq (pe_op op_mod (pe_op op_fdiv (pv 4) pe_int) pe_int) pe_int (nomark _)))))
          (pss_cons (ps_set (i := 6) scL42.nd rfl (Or.inl rfl) (pe_op op_add pe_int (pe_op op_mod (pe_op op_fdiv (pv 4) pe_int) pe_int)))
          (pss_one (ps_set (i := 7) scL42.nd rfl (Or.inl rfl) (pe_op op_add pe_int (pe_op op_mod (pe_op op_fdiv (pv 4) pe_int) pe_int))))) pss_nil)
        (pss_cons (ps_set (i := 8) scL42.nd rfl (Or.inl rfl) (pe_call GL r4 rfl mL kL bL .nil pass0 (pa_cons (pv 5) (pa_cons (pv 3) (pa_cons (pv 6) (pa_cons (pv 7) pa_nil))))))
        (pss_cons (ps_set (i := 9) scL42.nd rfl (Or.inl rfl) (pe_op op_mod (pe_op op_fdiv (pv 4) pe_int) (pe_op op_add (pv 6) pe_int)))
        (pss_cons (ps_set (i := 10) scL42.nd rfl (Or.inl rfl) (pe_ix (ixL K rfl) (pe_lst (pa_cons (pv 8) (pa_cons (pe_callTy (cList K rfl) rfl T.list bt_list (pa_cons (pv 8) pa_nil)) pa_nil))) (pe_op op_mod (pe_op op_fdiv (pv 2) pe_int) pe_int) (fun _ _ => rfl)))
        (pss_cons (ps_set (i := 11) scL42.nd rfl (Or.inl rfl) (pe_call GD hr rfl mD kD bD .nil pass0 (pa_cons (pv 5) (pa_cons (pv 10) (pa_cons (pv 9) (pa_cons (pe_op op_sub (pv 6) (pv 9)) pa_nil))))))
        (pss_cons (ps_if (pt_cmpR (opNeD K rfl hu) (pv 10) (pe_ix (ixL K rfl) (pe_lst (pa_cons (pv 8) (pa_cons (pe_callTy (cList K rfl) rfl T.list bt_list (pa_cons (pv 8) pa_nil)) pa_nil))) (pe_op op_mod (pe_op op_fdiv (pv 2) pe_int) pe_int) (fun _ _ => rfl)) (nomark _)) (pss_one (ps_ret pe_bl)) pss_nil)
        (pss_cons (ps_if (PW.pt (pw_or (pt_not (pt_val (pe_callB (cIsT K rfl (T := "tuple")) rfl T.isinstance bt_isinstance (pa_cons (pv 11) (pa_cons (pe_ty rfl T.tuple bt_tuple) pa_nil)))))
          (pw_or1 (pt_cmpR (opNeD K rfl hu) (pe_call GS r2 rfl mS kS bS .nil pass0 (pa_cons (pv 11) (pa_cons (pv 5) pa_nil))) (pe_tup (pa_cons (pv 9) (pa_cons (pe_op op_sub (pv 6) (pv 9)) pa_nil))) (nomark _))))) (pss_one (ps_ret pe_bl)) pss_nil)
        (pss_one (ps_if (PW.pt (pw_or (pt_cmpR (opNeD K rfl hu) (pe_call GM r4 rfl mM kM bM .nil pass0 (pa_cons (pv 5) (pa_cons (pe_callTy (cList K rfl) rfl T.list bt_list (pa_cons (pv 11) pa_nil)) pa_nil))) (pe_lst (pa_cons (pv 9) (pa_cons (pe_op op_sub (pv 6) (pv 9)) (pa_cons (pv 8) pa_nil)))) (nomark _))
          (pw_or1 (pt_cmpR (opNeD K rfl hu) (pe_call GD hr rfl mD kD bD .nil pass0 (pa_cons (pv 5) (pa_cons (pv 8) (pa_cons (pv 9) (pa_cons (pe_op op_sub (pv 6) (pv 9)) pa_nil))))) (pv 11) (nomark _))))) (pss_one (ps_ret pe_bl)) pss_nil)))))))))))))))
      (pss_one (ps_ret pe_bl))), ?_⟩
    have z1000 : (1000 : Nat) ≤ sizeLine := by decide
    obtain ⟨cs, ecs, lcs⟩ := cutV_ints ns none (some 63)
    refine ⟨_, rfl, 63, rfl, a, _, rfl, ha, fun lc hlc => ?_⟩
    rw [ecs]
    have s0 : Same H (upd H lc (.lst (cs.map V.int))) := .upd hlc
    have g0 : (upd H lc (.lst (cs.map V.int))) lc = some (.lst (cs.map V.int)) := upd_same
    generalize upd H lc (.lst (cs.map V.int)) = H0 at s0 g0 ⊢
    have ecl : (cs.map V.int).length = cs.length := List.length_map _
    refine ⟨_, rfl, lc, _, rfl, .inl (.of g0), _, _, rfl, _, rfl, by split <;> omega, by split <;> omega, for_step (fun i σ H' => Same H0 H' ∧ ∃ s2 s3 s4 s5 s6 s7 s8 s9 s10 s11, σ = [some (.ref a), some (.ref lc), s2, s3, s4, s5, s6, s7, s8, s9, s10, s11])
      ⟨.refl _, none, none, none, none, none, none, none, none, none, none, rfl⟩ ?_ ?_⟩
    · rintro i σ H1 hi ⟨sm, s2, s3, s4, s5, s6, s7, s8, s9, s10, s11, rfl⟩
      clear hi
      obtain ⟨ms, ems, lms⟩ := cutV_ints cs (some ((i : Int) * 9)) (some ((i : Int) * 9 + 9))
      refine ⟨_, rfl, _, rfl, _, rfl, _, rfl, _, _, rfl, rfl, _, rfl, lc, _, rfl, .of (sm _ _ g0), fun l3 h3 => ?_⟩
      rw [ems]
      have sm3 := sm.trans (Same.upd h3 (o := .lst (ms.map V.int)))
      have g3 : (upd H1 l3 (.lst (ms.map V.int))) l3 = some (.lst (ms.map V.int)) := upd_same
      generalize upd H1 l3 (.lst (ms.map V.int)) = H3 at sm3 g3 ⊢
      clear sm ems
      refine ⟨_, rfl, l3, ms, rfl, .of g3, ?_⟩
      generalize ms.sum = hd
      refine ⟨_, rfl, hd, rfl, fun p H4 pp s4' => ?_⟩
      obtain ⟨p2, p97⟩ := prime_pos p pp
      refine ⟨_, rfl, _, _, rfl, rfl, ⟨by decide, by decide⟩, _, _, rfl, rfl, (by show (0 : Int) < 7; decide), ?_⟩
      refine ⟨_, rfl, _, _, rfl, rfl, ⟨by decide, by decide⟩, _, _, rfl, rfl, (by show (0 : Int) < 5; decide), ?_⟩
      have g4 := s4' _ _ g3
      have sm4 := sm3.trans s4'
      clear g3 sm3 s4'
      dsimp only [gName]
      refine seq_by (fun σ H' => H' = H4 ∧ ∃ n m : Nat, σ = [some (.ref a), some (.ref lc), some (.int ((i : Int) * 9)), some (.ref l3), some (.int hd), some (.int p), some (.int (n : Int)), some (.int (m : Int)), s8, s9, s10, s11] ∧ n ≤ 8 ∧ m ≤ 4) ?_ ?_
      · intro N hN
        have small : N [some (.ref a), some (.ref lc), some (.int ((i : Int) * 9)), some (.ref l3), some (.int hd), some (.int p), some (.int (hd / 10 % 7)), some (.int (hd / 70 % 5)), s8, s9, s10, s11] H4 := by
          obtain ⟨n, hn⟩ : ∃ n : Nat, hd / 10 % 7 = (n : Int) := ⟨(hd / 10 % 7).toNat, by omega⟩
          obtain ⟨m, hm⟩ : ∃ m : Nat, hd / 70 % 5 = (m : Int) := ⟨(hd / 70 % 5).toNat, by omega⟩
          rw [hn, hm]
          exact hN _ _ ⟨rfl, n, m, rfl, by omega, by omega⟩
        have large : N [some (.ref a), some (.ref lc), some (.int ((i : Int) * 9)), some (.ref l3), some (.int hd), some (.int p), some (.int (7 + hd / 10 % 2)), some (.int (1 + hd / 70 % 3)), s8, s9, s10, s11] H4 := by
          obtain ⟨n, hn⟩ : ∃ n : Nat, 7 + hd / 10 % 2 = (n : Int) := ⟨(7 + hd / 10 % 2).toNat, by omega⟩
          obtain ⟨m, hm⟩ : ∃ m : Nat, 1 + hd / 70 % 3 = (m : Int) := ⟨(1 + hd / 70 % 3).toNat, by omega⟩
          rw [hn, hm]
          exact hN _ _ ⟨rfl, n, m, rfl, by omega, by omega⟩
        have big : ∀ {D : Ends}, D.nx = N → tSeq (tAsg (tOp (rI0 fun i j => .int (i + j)) (tC (.int 7)) (tOp (rI (fun _ j => 0 < j) fun i j => .int (i % j)) (tOp (rI CDiv fun i j => .int (i / j)) (tVar 4) (tC (.int 10))) (tC (.int 2)))) (gName 6)) (tAsg (tOp (rI0 fun i j => .int (i + j)) (tC (.int 1)) (tOp (rI (fun _ j => 0 < j) fun i j => .int (i % j)) (tOp (rI CDiv fun i j => .int (i / j)) (tVar 4) (tC (.int 70))) (tC (.int 3)))) (gName 7)) D
            [some (.ref a), some (.ref lc), some (.int ((i : Int) * 9)), some (.ref l3), some (.int hd), some (.int p), some (.int (hd / 10 % 7)), some (.int (hd / 70 % 5)), s8, s9, s10, s11] H4 := fun {D} hD => by
          refine ⟨_, rfl, _, _, rfl, rfl, ⟨by decide, by decide⟩, _, _, rfl, rfl, (by show (0 : Int) < 2; decide), _, _, rfl, rfl, ?_⟩
          refine ⟨_, rfl, _, _, rfl, rfl, ⟨by decide, by decide⟩, _, _, rfl, rfl, (by show (0 : Int) < 3; decide), _, _, rfl, rfl, ?_⟩
          rw [hD]
          exact large
        refine ⟨_, rfl, rfl, _, rfl, ite2 (fun _ => iteT (big rfl)) (fun _ => ?_)⟩
        exact ⟨_, rfl, _, _, rfl, rfl, ⟨by decide, by decide⟩, _, _, rfl, rfl, (by show (0 : Int) < 16; decide), rfl, _, rfl, ite2 (fun _ => big rfl) (fun _ => small)⟩
      rintro σ H' ⟨eH, n, m, rfl, hn, hm⟩
      rw [eH]
      clear eH H'
      -- rows
      refine ⟨_, rfl, _, rfl, _, rfl, _, rfl, p, l3, ms, n, m, rfl, pp, g4, by omega, by omega, by omega, fun t H5 DS R hR hlR s5' ht hA => ?_⟩
      have oR := redM_ok pp hR
      have lenR : (redM p R).length ≤ 8 := by
        have : (redM p R).length ≤ n := by
          rw [← D1.cl_redM pp hR]
          exact (D1.cl_red pp hR n (Nat.le_refl _)).len (Nat.le_refl _)
        omega
      have idem := red_idem pp hR
      have hRR : Bw.Rws p n (redM p R) := oR.rws
      generalize redM p R = rs at hA lenR idem hRR
      clear oR hlR hR
      have sm5 := sm4.trans s5'
      -- left
      refine ⟨_, rfl, _, _, rfl, rfl, ⟨by decide, by decide⟩, _, rfl, _, _, rfl, rfl, _, _, rfl, rfl, (by show (0 : Int) < (n : Int) + 1; omega), ?_⟩
      have hl0 := Int.emod_nonneg (hd / 350) (show (n : Int) + 1 ≠ 0 by omega)
      have hl1 := Int.emod_lt_of_pos (hd / 350) (show (0 : Int) < (n : Int) + 1 by omega)
      obtain ⟨l, hl⟩ : ∃ l : Nat, hd / 350 % ((n : Int) + 1) = (l : Int) := ⟨(hd / 350 % ((n : Int) + 1)).toNat, by omega⟩
      dsimp only [gName]
      rw [hl] at hl0 hl1 ⊢
      obtain ⟨r, hr'⟩ : ∃ r : Nat, n = l + r := ⟨n - l, by omega⟩
      have er : (n : Int) - (l : Int) = (r : Int) := by omega
      rw [hr'] at hRR
      have hRD : D1.Rws p rs (l + r) := fun q hq => hRR q hq
      obtain ⟨wf, sd, _⟩ := drawn_ok hRD (by omega) (by omega) (by omega)
      obtain ⟨nar, wl⟩ := drawn_nar hRD (by omega) (by omega) (by omega)
      have dr := drawn_rows pp hRR (by omega) (by omega) (by omega)
      rw [idem] at dr
      have el : (drawnD rs l r).l = l := congrArg Prod.fst sd
      have err : (drawnD rs l r).r = r := congrArg Prod.snd sd
      -- handed
      have pick : ∀ {H : Hp} {lr : Addr}, SqT K H t DS → H lr = some (.lst DS) → ∃ (b : Bool) (hv : Addr), atI [V.ref t, .ref lr] ((i : Int) * 9 / 9 % 2) = some (.ref hv) ∧ Sq b K H hv DS ∧ ((i : Int) * 9 / 9 % 2 = if b = true then 1 else 0) := fun {H lr} h1 h2 => by
        have h01 : (i : Int) * 9 / 9 % 2 = 0 ∨ (i : Int) * 9 / 9 % 2 = 1 := by omega
        rcases h01 with h | h <;> rw [h]
        · exact ⟨false, t, atI_nat (j := 0) rfl, h1, rfl⟩
        · exact ⟨true, lr, atI_nat (j := 1) rfl, .of h2, rfl⟩
      refine ⟨_, rfl, _, rfl, t, _, rfl, .inr ht, fun lr hlr => ⟨by show 2 ≤ sizeLine; decide, fun l2 hl2 => ⟨_, rfl, _, _, rfl, rfl, ⟨by decide, by decide⟩, _, _, rfl, rfl, (by show (0 : Int) < 2; decide), ?_⟩⟩⟩
      have s6 := (Same.upd hlr (o := .lst DS)).trans (Same.upd hl2 (o := .lst [.ref t, .ref lr]))
      have g6 : (upd (upd H5 lr (.lst DS)) l2 (.lst [.ref t, .ref lr])) l2 = some (.lst [.ref t, .ref lr]) := upd_same
      have gl6 : (upd (upd H5 lr (.lst DS)) l2 (.lst [.ref t, .ref lr])) lr = some (.lst DS) := Same.upd hl2 _ _ upd_same
      generalize upd (upd H5 lr (.lst DS)) l2 (.lst [.ref t, .ref lr]) = H6 at s6 g6 gl6 ⊢
      have ht6 := s6.seqT ht
      have hA6 := hA.mono s6
      have sm6 := sm5.trans s6
      obtain ⟨b, hv, e1, e2, e3⟩ := pick ht6 gl6
      refine ⟨l2, _, _, .ref hv, rfl, rfl, .of g6, e1, ?_⟩
      clear hA ht s6 g6 gl6 hl2 hlr
      -- found
      refine ⟨_, rfl, _, rfl, _, rfl, _, rfl, _, rfl, _, _, rfl, rfl, p, b, hv, DS, rs, l, r, ?_, e2, hA6, hRD, by omega, by omega, by omega, fun u H7 s7' hu7 => ?_⟩
      · rw [← er]
        rfl
      have ht7 := s7'.seqT ht6
      have hA7 := hA6.mono s7'
      have e27 : Sq b K H7 hv DS := Same.sq s7' e2
      have sm7 := sm6.trans s7'
      have dat : ∀ {H : Hp} {x : Addr}, Sq b K H x DS → HasA K H DS (rs.map intsT) → HasD K H (.ref x) (if b = true then .list (rs.map intsT) else .tuple (rs.map intsT)) := fun {H x} h1 h2 => by
        cases b with
        | true => exact .list h1 h2
        | false => exact .tuple h1 h2
      have kq : PySem.W.kqdOk 8 (if b = true then .list (rs.map intsT) else .tuple (rs.map intsT)) = true := by
        cases b with
        | true => exact kqd_L rs
        | false => exact kqd_T rs
      -- handed stays
      refine ⟨_, rfl, _, rfl, _, rfl, t, _, rfl, .inr ht7, fun lr hlr => ⟨by show 2 ≤ sizeLine; decide, fun l2 hl2 => ⟨_, rfl, _, _, rfl, rfl, ⟨by decide, by decide⟩, _, _, rfl, rfl, (by show (0 : Int) < 2; decide), ?_⟩⟩⟩
      have s8' := (Same.upd hlr (o := .lst DS)).trans (Same.upd hl2 (o := .lst [.ref t, .ref lr]))
      have g8 : (upd (upd H7 lr (.lst DS)) l2 (.lst [.ref t, .ref lr])) l2 = some (.lst [.ref t, .ref lr]) := upd_same
      have gl8 : (upd (upd H7 lr (.lst DS)) l2 (.lst [.ref t, .ref lr])) lr = some (.lst DS) := Same.upd hl2 _ _ upd_same
      generalize upd (upd H7 lr (.lst DS)) l2 (.lst [.ref t, .ref lr]) = H8 at s8' g8 gl8 ⊢
      have ht8 := s8'.seqT ht7
      have hA8 := hA7.mono s8'
      have hu8 := s8'.seqT hu7
      have sm8 := sm7.trans s8'
      obtain ⟨b', hv', f1, f2, f3⟩ := pick ht8 gl8
      have eb : b' = b := by
        rw [e3] at f3
        cases b <;> cases b' <;> first | rfl | (simp at f3)
      subst eb
      refine ⟨l2, _, _, .ref hv', rfl, rfl, .of g8, f1, _, _, dat (Same.sq s8' e27) hA8, dat f2 hA8, kq, kq, _, rfl, iteNeD rfl ?_⟩
      clear g8 gl8 hl2 hlr hA7 ht7 s8' e27 f1 f2 f3 e1 e2 e3
      -- sides
      refine ⟨_, rfl, u, _, true, rfl, hu8, kit_tuple_tuple K, _, rfl, iteF ?_⟩
      refine ⟨_, rfl, _, rfl, p, u, drawnD rs l r, rfl, hu8, wf, nar, wl, fun t2 H9 s9' ht2 => ?_⟩
      rw [el, err] at ht2
      refine ⟨_, rfl, _, rfl, _, rfl, _, _, rfl, rfl, by show 2 ≤ sizeLine; decide, fun t3 ht3 => ?_⟩
      refine ⟨.tuple [.int (l : Int), .int (r : Int)], .tuple [.int (l : Int), .int ((n : Int) - (l : Int))], .tuple ((Same.upd ht3).seqT ht2) (.cons (.int _) (.cons (.int _) .nil)), .tuple (.of upd_same) (.cons (.int _) (.cons (.int _) .nil)), rfl, rfl, _, rfl, iteNeD (by rw [er]) ?_⟩
      have s10' := s9'.trans (Same.upd ht3 (o := .tup [.int (l : Int), .int ((n : Int) - (l : Int))]))
      generalize upd H9 t3 (.tup [.int (l : Int), .int ((n : Int) - (l : Int))]) = H10 at s10' ⊢
      have ht10 := s10'.seqT ht8
      have hA10 := hA8.mono s10'
      have hu10 := s10'.seqT hu8
      have sm10 := sm8.trans s10'
      clear ht2 ht3 s9' s10'
      -- meaning
      refine ⟨_, rfl, _, rfl, u, _, rfl, .inr hu10, fun lf hlf => ⟨p, lf, drawnD rs l r, rfl, pp, upd_same, wf, nar, wl, fun t4 H11 b4 TS s11' gt4 hb4 hT4 => ?_⟩⟩
      rw [dr] at hT4
      rw [el, err] at gt4
      have s12' := (Same.upd hlf (o := .lst ((drawnD rs l r).words.map wdV))).trans s11'
      have ht11 := s12'.seqT ht10
      have hA11 := hA10.mono s12'
      have hu11 := s12'.seqT hu10
      have sm11 := sm10.trans s12'
      refine ⟨_, rfl, _, rfl, _, rfl, _, _, rfl, rfl, _, rfl, by show 3 ≤ sizeLine; decide, fun l5 h5 => ?_⟩
      refine ⟨.list [.int (l : Int), .int (r : Int), .tuple (rs.map intsT)], .list [.int (l : Int), .int ((n : Int) - (l : Int)), .tuple (rs.map intsT)], .list (.of (Same.upd h5 _ _ gt4)) (.cons (.int _) (.cons (.int _) (.cons (.tuple ((Same.upd h5).seqT hb4) (hT4.mono (.upd h5))) .nil))), .list (.of upd_same) (.cons (.int _) (.cons (.int _) (.cons (.tuple ((Same.upd h5).seqT ht11) (hA11.mono (.upd h5))) .nil))), kqd_tri _ _ _, kqd_tri _ _ _, _, rfl, iteNeD (by rw [er]) ?_⟩
      have s13' := Same.upd h5 (o := .lst [.int (l : Int), .int ((n : Int) - (l : Int)), .ref t])
      generalize upd H11 l5 (.lst [.int (l : Int), .int ((n : Int) - (l : Int)), .ref t]) = H12 at s13' ⊢
      -- drawn again
      refine ⟨_, rfl, _, rfl, _, rfl, _, rfl, _, rfl, _, _, rfl, rfl, p, false, t, DS, rs, l, r, ?_, s13'.seqT ht11, hA11.mono s13', hRD, by omega, by omega, by omega, fun u2 H13 s14' hu13 => ?_⟩
      · rw [← er]
        rfl
      refine ⟨_, rfl, .tuple ((drawnD rs l r).words.map wdD), .tuple ((drawnD rs l r).words.map wdD), .tuple hu13 (has_words _), .tuple ((s13'.trans s14').seqT hu11) (has_words _), kqd_words _, kqd_words _, _, rfl, iteNeD rfl ?_⟩
      exact ⟨sm11.trans (s13'.trans s14'), _, _, _, _, _, _, _, _, _, _, rfl⟩
    · rintro σ H1 ⟨sm, s2, s3, s4, s5, s6, s7, s8, s9, s10, s11, rfl⟩
      exact q H1
end
end S21
namespace S21
open PySem L2 Bw
set_option maxHeartbeats 3900000
theorem us1 {fd : FuncData} {ps : List Str} : ∀ (us : List Value), us.length = 1 → (∀ a0, bindArgs fd ⟨[a0], []⟩ = pure (ps.zip [a0])) → bindArgs fd ⟨us, []⟩ = pure (ps.zip us)
  | [a0], _, h => h a0
theorem us2 {fd : FuncData} {ps : List Str} : ∀ (us : List Value), us.length = 2 → (∀ a0 a1, bindArgs fd ⟨[a0, a1], []⟩ = pure (ps.zip [a0, a1])) → bindArgs fd ⟨us, []⟩ = pure (ps.zip us)
  | [a0, a1], _, h => h a0 a1
theorem us3 {fd : FuncData} {ps : List Str} : ∀ (us : List Value), us.length = 3 → (∀ a0 a1 a2, bindArgs fd ⟨[a0, a1, a2], []⟩ = pure (ps.zip [a0, a1, a2])) → bindArgs fd ⟨us, []⟩ = pure (ps.zip us)
  | [a0, a1, a2], _, h => h a0 a1 a2
theorem us4 {fd : FuncData} {ps : List Str} : ∀ (us : List Value), us.length = 4 → (∀ a0 a1 a2 a3, bindArgs fd ⟨[a0, a1, a2, a3], []⟩ = pure (ps.zip [a0, a1, a2, a3])) → bindArgs fd ⟨us, []⟩ = pure (ps.zip us)
  | [a0, a1, a2, a3], _, h => h a0 a1 a2 a3
theorem all_mk {l : PySem.W.OpenLaw} {w : World} {K : PySem.W.Frag} {h : Heap} {mg : Str → Option Value} {fa f1 f2 f3 f4 f5 f6 f7 f8 f9 f10 f11 f12 f13 f14 f15 f16 f17 f18 f19 f20 f21 f22 f23 : Addr} (X : K.In h) (G : h.Ns mainGlobals mg) (hfa : mg "law" = some (.ref fa))
    {od1 an1 od2 an2 od3 an3 od4 an4 od5 an5 od6 an6 od7 an7 od8 an8 od9 an9 od10 an10 od11 an11 od12 an12 od13 an13 od14 an14 od15 an15 od16 an16 od17 an17 od18 an18 od19 an19 od20 an20 od21 an21 od22 an22 od23 an23 : Option Addr} {sl1 sl2 sl3 sl4 sl5 sl6 sl7 sl8 sl9 sl10 sl11 sl12 sl13 sl14 sl15 sl16 sl17 sl18 sl19 sl20 sl21 sl22 sl23 : Array (Option Value)} {oc1 kV1 dc1 pm1 cd1 ct1 oc2 kV2 dc2 pm2 cd2 ct2 oc3 kV3 dc3 pm3 cd3 ct3 oc4 kV4 dc4 pm4 cd4 ct4 oc5 kV5 dc5 pm5 cd5 ct5 oc6 kV6 dc6 pm6 cd6 ct6 oc7 kV7 dc7 pm7 cd7 ct7 oc8 kV8 dc8 pm8 cd8 ct8 oc9 kV9 dc9 pm9 cd9 ct9 oc10 kV10 dc10 pm10 cd10 ct10 oc11 kV11 dc11 pm11 cd11 ct11 oc12 kV12 dc12 pm12 cd12 ct12 oc13 kV13 dc13 pm13 cd13 ct13 oc14 kV14 dc14 pm14 cd14 ct14 oc15 kV15 dc15 pm15 cd15 ct15 oc16 kV16 dc16 pm16 cd16 ct16 oc17 kV17 dc17 pm17 cd17 ct17 oc18 kV18 dc18 pm18 cd18 ct18 oc19 kV19 dc19 pm19 cd19 ct19 oc20 kV20 dc20 pm20 cd20 ct20 oc21 kV21 dc21 pm21 cd21 ct21 oc22 kV22 dc22 pm22 cd22 ct22 oc23 kV23 dc23 pm23 cd23 ct23 : Value}
    (a1 : PySem.W.nsIn K mainGlobals "columns" = some (some (.ref f1))) (l1 : K.lookup f1 = some ⟨oc1, od1, .func (PySem.W.fnOf "columns" "columns" (defArgs sCols) (defBody sCols) (defScope sCols) .none kV1 dc1 pm1 an1 cd1 ct1), sl1⟩) (c1 : PySem.W.codeIn K cd1 "columns" = true) (k1 : PySem.W.keepIn K (.ref f1) = true)
    (a2 : PySem.W.nsIn K mainGlobals "drawn" = some (some (.ref f2))) (l2 : K.lookup f2 = some ⟨oc2, od2, .func (PySem.W.fnOf "drawn" "drawn" (defArgs s_drawn) (defBody s_drawn) (defScope s_drawn) .none kV2 dc2 pm2 an2 cd2 ct2), sl2⟩) (c2 : PySem.W.codeIn K cd2 "drawn" = true) (k2 : PySem.W.keepIn K (.ref f2) = true)
    (a3 : PySem.W.nsIn K mainGlobals "summing" = some (some (.ref f3))) (l3 : K.lookup f3 = some ⟨oc3, od3, .func (PySem.W.fnOf "summing" "summing" (defArgs s_summing) (defBody s_summing) (defScope s_summing) .none kV3 dc3 pm3 an3 cd3 ct3), sl3⟩) (c3 : PySem.W.codeIn K cd3 "summing" = true) (k3 : PySem.W.keepIn K (.ref f3) = true)
    (a4 : PySem.W.nsIn K mainGlobals "single" = some (some (.ref f4))) (l4 : K.lookup f4 = some ⟨oc4, od4, .func (PySem.W.fnOf "single" "single" (defArgs s_single) (defBody s_single) (defScope s_single) .none kV4 dc4 pm4 an4 cd4 ct4), sl4⟩) (c4 : PySem.W.codeIn K cd4 "single" = true) (k4 : PySem.W.keepIn K (.ref f4) = true)
    (a5 : PySem.W.nsIn K mainGlobals "seam_of" = some (some (.ref f5))) (l5 : K.lookup f5 = some ⟨oc5, od5, .func (PySem.W.fnOf "seam_of" "seam_of" (defArgs s_seam_of) (defBody s_seam_of) (defScope s_seam_of) .none kV5 dc5 pm5 an5 cd5 ct5), sl5⟩) (c5 : PySem.W.codeIn K cd5 "seam_of" = true) (k5 : PySem.W.keepIn K (.ref f5) = true)
    (a6 : PySem.W.nsIn K mainGlobals "is_seam" = some (some (.ref f6))) (l6 : K.lookup f6 = some ⟨oc6, od6, .func (PySem.W.fnOf "is_seam" "is_seam" (defArgs s_is_seam) (defBody s_is_seam) (defScope s_is_seam) .none kV6 dc6 pm6 an6 cd6 ct6), sl6⟩) (c6 : PySem.W.codeIn K cd6 "is_seam" = true) (k6 : PySem.W.keepIn K (.ref f6) = true)
    (a7 : PySem.W.nsIn K mainGlobals "copying" = some (some (.ref f7))) (l7 : K.lookup f7 = some ⟨oc7, od7, .func (PySem.W.fnOf "copying" "copying" (defArgs s_copying) (defBody s_copying) (defScope s_copying) .none kV7 dc7 pm7 an7 cd7 ct7), sl7⟩) (c7 : PySem.W.codeIn K cd7 "copying" = true) (k7 : PySem.W.keepIn K (.ref f7) = true)
    (a8 : PySem.W.nsIn K mainGlobals "adding" = some (some (.ref f8))) (l8 : K.lookup f8 = some ⟨oc8, od8, .func (PySem.W.fnOf "adding" "adding" (defArgs s_adding) (defBody s_adding) (defScope s_adding) .none kV8 dc8 pm8 an8 cd8 ct8), sl8⟩) (c8 : PySem.W.codeIn K cd8 "adding" = true) (k8 : PySem.W.keepIn K (.ref f8) = true)
    (a9 : PySem.W.nsIn K mainGlobals "crossing" = some (some (.ref f9))) (l9 : K.lookup f9 = some ⟨oc9, od9, .func (PySem.W.fnOf "crossing" "crossing" (defArgs s_crossing) (defBody s_crossing) (defScope s_crossing) .none kV9 dc9 pm9 an9 cd9 ct9), sl9⟩) (c9 : PySem.W.codeIn K cd9 "crossing" = true) (k9 : PySem.W.keepIn K (.ref f9) = true)
    (a10 : PySem.W.nsIn K mainGlobals "inside" = some (some (.ref f10))) (l10 : K.lookup f10 = some ⟨oc10, od10, .func (PySem.W.fnOf "inside" "inside" (defArgs s_inside) (defBody s_inside) (defScope s_inside) .none kV10 dc10 pm10 an10 cd10 ct10), sl10⟩) (c10 : PySem.W.codeIn K cd10 "inside" = true) (k10 : PySem.W.keepIn K (.ref f10) = true)
    (a11 : PySem.W.nsIn K mainGlobals "straight" = some (some (.ref f11))) (l11 : K.lookup f11 = some ⟨oc11, od11, .func (PySem.W.fnOf "straight" "straight" (defArgs s_straight) (defBody s_straight) (defScope s_straight) .none kV11 dc11 pm11 an11 cd11 ct11), sl11⟩) (c11 : PySem.W.codeIn K cd11 "straight" = true) (k11 : PySem.W.keepIn K (.ref f11) = true)
    (a12 : PySem.W.nsIn K mainGlobals "_law_prime" = some (some (.ref f12))) (l12 : K.lookup f12 = some ⟨oc12, od12, .func (PySem.W.fnOf "_law_prime" "_law_prime" (defArgs sPrime) (defBody sPrime) (defScope sPrime) .none kV12 dc12 pm12 an12 cd12 ct12), sl12⟩) (c12 : PySem.W.codeIn K cd12 "_law_prime" = true) (k12 : PySem.W.keepIn K (.ref f12) = true)
    (a13 : PySem.W.nsIn K mainGlobals "_law_cleared" = some (some (.ref f13))) (l13 : K.lookup f13 = some ⟨oc13, od13, .func (PySem.W.fnOf "_law_cleared" "_law_cleared" (defArgs s_law_cleared) (defBody s_law_cleared) (defScope s_law_cleared) .none kV13 dc13 pm13 an13 cd13 ct13), sl13⟩) (c13 : PySem.W.codeIn K cd13 "_law_cleared" = true) (k13 : PySem.W.keepIn K (.ref f13) = true)
    (a14 : PySem.W.nsIn K mainGlobals "_law_less" = some (some (.ref f14))) (l14 : K.lookup f14 = some ⟨oc14, od14, .func (PySem.W.fnOf "_law_less" "_law_less" (defArgs sLess) (defBody sLess) (defScope sLess) .none kV14 dc14 pm14 an14 cd14 ct14), sl14⟩) (c14 : PySem.W.codeIn K cd14 "_law_less" = true) (k14 : PySem.W.keepIn K (.ref f14) = true)
    (a15 : PySem.W.nsIn K mainGlobals "_law_reduced" = some (some (.ref f15))) (l15 : K.lookup f15 = some ⟨oc15, od15, .func (PySem.W.fnOf "_law_reduced" "_law_reduced" (defArgs sRedW) (defBody sRedW) (defScope sRedW) .none kV15 dc15 pm15 an15 cd15 ct15), sl15⟩) (c15 : PySem.W.codeIn K cd15 "_law_reduced" = true) (k15 : PySem.W.keepIn K (.ref f15) = true)
    (a16 : PySem.W.nsIn K mainGlobals "_law_box" = some (some (.ref f16))) (l16 : K.lookup f16 = some ⟨oc16, od16, .func (PySem.W.fnOf "_law_box" "_law_box" (defArgs s_law_box) (defBody s_law_box) (defScope s_law_box) .none kV16 dc16 pm16 an16 cd16 ct16), sl16⟩) (c16 : PySem.W.codeIn K cd16 "_law_box" = true) (k16 : PySem.W.keepIn K (.ref f16) = true)
    (a17 : PySem.W.nsIn K mainGlobals "_law_then" = some (some (.ref f17))) (l17 : K.lookup f17 = some ⟨oc17, od17, .func (PySem.W.fnOf "_law_then" "_law_then" (defArgs s_law_then) (defBody s_law_then) (defScope s_law_then) .none kV17 dc17 pm17 an17 cd17 ct17), sl17⟩) (c17 : PySem.W.codeIn K cd17 "_law_then" = true) (k17 : PySem.W.keepIn K (.ref f17) = true)
    (a18 : PySem.W.nsIn K mainGlobals "_law_beside" = some (some (.ref f18))) (l18 : K.lookup f18 = some ⟨oc18, od18, .func (PySem.W.fnOf "_law_beside" "_law_beside" (defArgs s_law_beside) (defBody s_law_beside) (defScope s_law_beside) .none kV18 dc18 pm18 an18 cd18 ct18), sl18⟩) (c18 : PySem.W.codeIn K cd18 "_law_beside" = true) (k18 : PySem.W.keepIn K (.ref f18) = true)
    (a19 : PySem.W.nsIn K mainGlobals "_law_meaning" = some (some (.ref f19))) (l19 : K.lookup f19 = some ⟨oc19, od19, .func (PySem.W.fnOf "_law_meaning" "_law_meaning" (defArgs s_law_meaning) (defBody s_law_meaning) (defScope s_law_meaning) .none kV19 dc19 pm19 an19 cd19 ct19), sl19⟩) (c19 : PySem.W.codeIn K cd19 "_law_meaning" = true) (k19 : PySem.W.keepIn K (.ref f19) = true)
    (a20 : PySem.W.nsIn K mainGlobals "_law_list" = some (some (.ref f20))) (l20 : K.lookup f20 = some ⟨oc20, od20, .func (PySem.W.fnOf "_law_list" "_law_list" (defArgs s_law_list) (defBody s_law_list) (defScope s_law_list) .none kV20 dc20 pm20 an20 cd20 ct20), sl20⟩) (c20 : PySem.W.codeIn K cd20 "_law_list" = true) (k20 : PySem.W.keepIn K (.ref f20) = true)
    (a21 : PySem.W.nsIn K mainGlobals "_law_sides" = some (some (.ref f21))) (l21 : K.lookup f21 = some ⟨oc21, od21, .func (PySem.W.fnOf "_law_sides" "_law_sides" (defArgs s_law_sides) (defBody s_law_sides) (defScope s_law_sides) .none kV21 dc21 pm21 an21 cd21 ct21), sl21⟩) (c21 : PySem.W.codeIn K cd21 "_law_sides" = true) (k21 : PySem.W.keepIn K (.ref f21) = true)
    (a22 : PySem.W.nsIn K mainGlobals "_law_joint" = some (some (.ref f22))) (l22 : K.lookup f22 = some ⟨oc22, od22, .func (PySem.W.fnOf "_law_joint" "_law_joint" (defArgs s_law_joint) (defBody s_law_joint) (defScope s_law_joint) .none kV22 dc22 pm22 an22 cd22 ct22), sl22⟩) (c22 : PySem.W.codeIn K cd22 "_law_joint" = true) (k22 : PySem.W.keepIn K (.ref f22) = true)
    (a23 : PySem.W.nsIn K mainGlobals "law" = some (some (.ref f23))) (l23 : K.lookup f23 = some ⟨oc23, od23, .func (PySem.W.fnOf "law" "law" (defArgs s_law) (defBody s_law) (defScope s_law) .none kV23 dc23 pm23 an23 cd23 ct23), sl23⟩) (c23 : PySem.W.codeIn K cd23 "law" = true) (k23 : PySem.W.keepIn K (.ref f23) = true)
    (z1 : PySem.W.nsIn K mainGlobals "range" = some none) (z2 : PySem.W.nsIn K mainGlobals "zip" = some none) (z3 : PySem.W.nsIn K mainGlobals "tuple" = some none) (z4 : PySem.W.nsIn K mainGlobals "list" = some none) (z5 : PySem.W.nsIn K mainGlobals "int" = some none) (z6 : PySem.W.nsIn K mainGlobals "bool" = some none) (z7 : PySem.W.nsIn K mainGlobals "isinstance" = some none) (z8 : PySem.W.nsIn K mainGlobals "len" = some none) (z9 : PySem.W.nsIn K mainGlobals "sum" = some none) (z10 : PySem.W.nsIn K mainGlobals "max" = some none) (z11 : PySem.W.nsIn K mainGlobals "min" = some none) (z12 : PySem.W.nsIn K mainGlobals "enumerate" = some none) (z13 : PySem.W.nsIn K mainGlobals "any" = some none) (z14 : PySem.W.nsIn K mainGlobals "all" = some none) (z15 : PySem.W.nsIn K mainGlobals "reversed" = some none) :
    ∃ fd : FuncData, (∀ (s : Shared) (v : Value), BindsTo s fd ⟨[v], []⟩ [("script", v)]) ∧ ∀ base : Heap, K.In base → base.Ns mainGlobals mg → FnOk l.prog w K mg base CX0 64 fa fd ["script"] (spLaw42 K) := by
  have e := hfa.symm.trans (PySem.W.mg_of X G a23)
  cases e
  have T : Txt mg := ⟨PySem.W.mg_none_of X G z1, PySem.W.mg_none_of X G z2, PySem.W.mg_none_of X G z3, PySem.W.mg_none_of X G z4, PySem.W.mg_none_of X G z5, PySem.W.mg_none_of X G z6, PySem.W.mg_none_of X G z7, PySem.W.mg_none_of X G z8, PySem.W.mg_none_of X G z9, PySem.W.mg_none_of X G z10, PySem.W.mg_none_of X G z11, PySem.W.mg_none_of X G z12, PySem.W.mg_none_of X G z13, PySem.W.mg_none_of X G z14, PySem.W.mg_none_of X G z15⟩
  have F1 := fun_mk (st := sCols) l1 c1 k1
  have F2 := fun_mk (st := s_drawn) l2 c2 k2
  have F3 := fun_mk (st := s_summing) l3 c3 k3
  have F4 := fun_mk (st := s_single) l4 c4 k4
  have F5 := fun_mk (st := s_seam_of) l5 c5 k5
  have F6 := fun_mk (st := s_is_seam) l6 c6 k6
  have F7 := fun_mk (st := s_copying) l7 c7 k7
  have F8 := fun_mk (st := s_adding) l8 c8 k8
  have F9 := fun_mk (st := s_crossing) l9 c9 k9
  have F10 := fun_mk (st := s_inside) l10 c10 k10
  have F11 := fun_mk (st := s_straight) l11 c11 k11
  have F12 := fun_mk (st := sPrime) l12 c12 k12
  have F13 := fun_mk (st := s_law_cleared) l13 c13 k13
  have F14 := fun_mk (st := sLess) l14 c14 k14
  have F15 := fun_mk (st := sRedW) l15 c15 k15
  have F16 := fun_mk (st := s_law_box) l16 c16 k16
  have F17 := fun_mk (st := s_law_then) l17 c17 k17
  have F18 := fun_mk (st := s_law_beside) l18 c18 k18
  have F19 := fun_mk (st := s_law_meaning) l19 c19 k19
  have F20 := fun_mk (st := s_law_list) l20 c20 k20
  have F21 := fun_mk (st := s_law_sides) l21 c21 k21
  have F22 := fun_mk (st := s_law_joint) l22 c22 k22
  have F23 := fun_mk (st := s_law) l23 c23 k23
  have b1 := F1.binds (ps := ["rows", "length"]) fun _ _ _ _ _ _ us hl => us2 us hl fun _ _ => rfl
  have m1 := PySem.W.mg_of X G a1
  have b2 := F2.binds (ps := ["p", "rows", "left", "right"]) fun _ _ _ _ _ _ us hl => us4 us hl fun _ _ _ _ => rfl
  have m2 := PySem.W.mg_of X G a2
  have b3 := F3.binds (ps := ["sums", "count"]) fun _ _ _ _ _ _ us hl => us2 us hl fun _ _ => rfl
  have m3 := PySem.W.mg_of X G a3
  have b4 := F4.binds (ps := ["sums", "count"]) fun _ _ _ _ _ _ us hl => us2 us hl fun _ _ => rfl
  have m4 := PySem.W.mg_of X G a4
  have b5 := F5.binds (ps := ["sums", "count"]) fun _ _ _ _ _ _ us hl => us2 us hl fun _ _ => rfl
  have m5 := PySem.W.mg_of X G a5
  have b6 := F6.binds (ps := ["sums", "wires", "taken"]) fun _ _ _ _ _ _ us hl => us3 us hl fun _ _ _ => rfl
  have m6 := PySem.W.mg_of X G a6
  have b7 := F7.binds (ps := ["count"]) fun _ _ _ _ _ _ us hl => us1 us hl fun _ => rfl
  have m7 := PySem.W.mg_of X G a7
  have b8 := F8.binds (ps := ["count"]) fun _ _ _ _ _ _ us hl => us1 us hl fun _ => rfl
  have m8 := PySem.W.mg_of X G a8
  have b9 := F9.binds (ps := ["above", "below"]) fun _ _ _ _ _ _ us hl => us2 us hl fun _ _ => rfl
  have m9 := PySem.W.mg_of X G a9
  have b10 := F10.binds (ps := ["above", "words", "below"]) fun _ _ _ _ _ _ us hl => us3 us hl fun _ _ _ => rfl
  have m10 := PySem.W.mg_of X G a10
  have b11 := F11.binds (ps := ["count"]) fun _ _ _ _ _ _ us hl => us1 us hl fun _ => rfl
  have m11 := PySem.W.mg_of X G a11
  have b12 := F12.binds (ps := ["cell"]) fun _ _ _ _ _ _ us hl => us1 us hl fun _ => rfl
  have m12 := PySem.W.mg_of X G a12
  have b13 := F13.binds (ps := ["p", "rows", "places"]) fun _ _ _ _ _ _ us hl => us3 us hl fun _ _ _ => rfl
  have m13 := PySem.W.mg_of X G a13
  have b14 := F14.binds (ps := ["p", "row", "head", "place"]) fun _ _ _ _ _ _ us hl => us4 us hl fun _ _ _ _ => rfl
  have m14 := PySem.W.mg_of X G a14
  have b15 := F15.binds (ps := ["p", "rows", "size"]) fun _ _ _ _ _ _ us hl => us3 us hl fun _ _ _ => rfl
  have m15 := PySem.W.mg_of X G a15
  have b16 := F16.binds (ps := ["p", "word", "number"]) fun _ _ _ _ _ _ us hl => us3 us hl fun _ _ _ => rfl
  have m16 := PySem.W.mg_of X G a16
  have b17 := F17.binds (ps := ["p", "one", "other"]) fun _ _ _ _ _ _ us hl => us3 us hl fun _ _ _ => rfl
  have m17 := PySem.W.mg_of X G a17
  have b18 := F18.binds (ps := ["one", "other"]) fun _ _ _ _ _ _ us hl => us2 us hl fun _ _ => rfl
  have m18 := PySem.W.mg_of X G a18
  have b19 := F19.binds (ps := ["p", "words"]) fun _ _ _ _ _ _ us hl => us2 us hl fun _ _ => rfl
  have m19 := PySem.W.mg_of X G a19
  have b20 := F20.binds (ps := ["p", "cells", "size", "many"]) fun _ _ _ _ _ _ us hl => us4 us hl fun _ _ _ _ => rfl
  have m20 := PySem.W.mg_of X G a20
  have b21 := F21.binds (ps := ["words", "p"]) fun _ _ _ _ _ _ us hl => us2 us hl fun _ _ => rfl
  have m21 := PySem.W.mg_of X G a21
  have b22 := F22.binds (ps := ["word", "held"]) fun _ _ _ _ _ _ us hl => us2 us hl fun _ _ => rfl
  have m22 := PySem.W.mg_of X G a22
  exact ⟨PySem.W.fnOf "law" "law" (defArgs s_law) (defBody s_law) (defScope s_law) .none kV23 dc23 pm23 an23 cd23 ct23, fun s v => .of_eq rfl, fun base _ _ => ok_law42 F23 T (ok_prm F12) k12 b12 m12 (ok_lst F20 T (ok_rdN F15 T (ok_clr F13 T (ok_less F14 T) k14 b14 m14) k13 b13 m13) k15 b15 m15) k20 b20 m20 (ok_drawn F2 T (ok_cols F1 T) k1 b1 m1 (ok_summing F3 T b3 m3 (ok_single F4) k4 b4 m4 (ok_seamOf F5 T (ok_isSeam F6 T) k6 b6 m6) k5 b5 m5 (ok_copying F7 b7 m7 (ok_inside F10 (ok_straight F11) k11 b11 m11) k10 b10 m10 (ok_crossing F9 b9 m9 (ok_straight F11) k11 b11 m11 33) k9 b9 m9 8) k7 b7 m7 (ok_adding F8 b8 m8 (ok_inside F10 (ok_straight F11) k11 b11 m11) k10 b10 m10 (ok_crossing F9 b9 m9 (ok_straight F11) k11 b11 m11 33) k9 b9 m9 8) k8 b8 m8 17) k3 b3 m3) k2 b2 m2 (ok_sides F21 T (ok_joint F22 T) k22 b22 m22) k21 b21 m21 (ok_mean F19 T (ok_thn F17 T (ok_clr F13 T (ok_less F14 T) k14 b14 m14) k13 b13 m13) k17 b17 m17 (ok_bes F18) k18 b18 m18 (ok_box F16) k16 b16 m16 (ok_rdN F15 T (ok_clr F13 T (ok_less F14 T) k14 b14 m14) k13 b13 m13) k15 b15 m15) k19 b19 m19⟩
theorem walk {l : PySem.W.OpenLaw} {q : Program} {loose : List Str} {XP : (Str → Option Value) → Heap → Prop} {YP : World → Heap → Prop} {d : DefRec} {K : Params → PySem.W.Frag} (hn : l.most = some 63) (hdf : d.params.defaults = [])
    (hY : ∀ (w : World) (h : Heap), YP w h → (K w.params).In h)
    (F : ∀ (w : World) (mg : Str → Option Value) (fa : Addr) (h : Heap), (K w.params).In h → h.Ns mainGlobals mg → mg d.name = some (.ref fa) →
      ∃ fd : FuncData, (∀ (s : Shared) (u : Value), BindsTo s fd ⟨[u], []⟩ [("script", u)]) ∧ ∀ base : Heap, (K w.params).In base → base.Ns mainGlobals mg → FnOk l.prog w (K w.params) mg base CX0 64 fa fd ["script"] (spLaw42 (K w.params))) :
    PySem.W.WalkO q loose XP YP l.row.toRowW d [] (fun f vs => PySem.call f vs) :=
  L2.walk_of (n := 63) (k := 64) (x := "script") (CX := fun _ => CX0) (sp := fun w => spLaw42 (K w.params)) hn (by decide) hdf ⟨rfl, by decide, by decide⟩ hY F (fun _ _ a ns hl _ hS => ⟨a, ns, rfl, hS, hl, fun _ => rfl⟩) fun _ _ _ _ _ z => z
end S21
open PySem PySem.W PyProof.Rows
set_option maxRecDepth 100000 in
set_option maxHeartbeats 0 in
theorem PySem.Challenge.cw_bentwires_k42_drawn_holds : PySem.Challenge.rw_bentwires_k42_drawn.Holds := by
  w_on; o_law; k_head; (case hw => w_witness2)
  k_fill
  refine S21.walk (l := PySem.Challenge.rw_bentwires_k42_drawn) rfl rfl (fun w h Y => PySem.W.kIn_of Y) ?F
  case F =>
    intro w mg fa h KX G hmg
    refine' S21.all_mk KX G hmg ?a1 ?l1 ?c1 ?k1 ?a2 ?l2 ?c2 ?k2 ?a3 ?l3 ?c3 ?k3 ?a4 ?l4 ?c4 ?k4 ?a5 ?l5 ?c5 ?k5 ?a6 ?l6 ?c6 ?k6 ?a7 ?l7 ?c7 ?k7 ?a8 ?l8 ?c8 ?k8 ?a9 ?l9 ?c9 ?k9 ?a10 ?l10 ?c10 ?k10 ?a11 ?l11 ?c11 ?k11 ?a12 ?l12 ?c12 ?k12 ?a13 ?l13 ?c13 ?k13 ?a14 ?l14 ?c14 ?k14 ?a15 ?l15 ?c15 ?k15 ?a16 ?l16 ?c16 ?k16 ?a17 ?l17 ?c17 ?k17 ?a18 ?l18 ?c18 ?k18 ?a19 ?l19 ?c19 ?k19 ?a20 ?l20 ?c20 ?k20 ?a21 ?l21 ?c21 ?k21 ?a22 ?l22 ?c22 ?k22 ?a23 ?l23 ?c23 ?k23 ?z1 ?z2 ?z3 ?z4 ?z5 ?z6 ?z7 ?z8 ?z9 ?z10 ?z11 ?z12 ?z13 ?z14 ?z15
    (case a1 => k_is)
    (case l1 => k_is)
    (case c1 => k_is)
    (case k1 => k_is)
    (case a2 => k_is)
    (case l2 => k_is)
    (case c2 => k_is)
    (case k2 => k_is)
    (case a3 => k_is)
    (case l3 => k_is)
    (case c3 => k_is)
    (case k3 => k_is)
    (case a4 => k_is)
    (case l4 => k_is)
    (case c4 => k_is)
    (case k4 => k_is)
    (case a5 => k_is)
    (case l5 => k_is)
    (case c5 => k_is)
    (case k5 => k_is)
    (case a6 => k_is)
    (case l6 => k_is)
    (case c6 => k_is)
    (case k6 => k_is)
    (case a7 => k_is)
    (case l7 => k_is)
    (case c7 => k_is)
    (case k7 => k_is)
    (case a8 => k_is)
    (case l8 => k_is)
    (case c8 => k_is)
    (case k8 => k_is)
    (case a9 => k_is)
    (case l9 => k_is)
    (case c9 => k_is)
    (case k9 => k_is)
    (case a10 => k_is)
    (case l10 => k_is)
    (case c10 => k_is)
    (case k10 => k_is)
    (case a11 => k_is)
    (case l11 => k_is)
    (case c11 => k_is)
    (case k11 => k_is)
    (case a12 => k_is)
    (case l12 => k_is)
    (case c12 => k_is)
    (case k12 => k_is)
    (case a13 => k_is)
    (case l13 => k_is)
    (case c13 => k_is)
    (case k13 => k_is)
    (case a14 => k_is)
    (case l14 => k_is)
    (case c14 => k_is)
    (case k14 => k_is)
    (case a15 => k_is)
    (case l15 => k_is)
    (case c15 => k_is)
    (case k15 => k_is)
    (case a16 => k_is)
    (case l16 => k_is)
    (case c16 => k_is)
    (case k16 => k_is)
    (case a17 => k_is)
    (case l17 => k_is)
    (case c17 => k_is)
    (case k17 => k_is)
    (case a18 => k_is)
    (case l18 => k_is)
    (case c18 => k_is)
    (case k18 => k_is)
    (case a19 => k_is)
    (case l19 => k_is)
    (case c19 => k_is)
    (case k19 => k_is)
    (case a20 => k_is)
    (case l20 => k_is)
    (case c20 => k_is)
    (case k20 => k_is)
    (case a21 => k_is)
    (case l21 => k_is)
    (case c21 => k_is)
    (case k21 => k_is)
    (case a22 => k_is)
    (case l22 => k_is)
    (case c22 => k_is)
    (case k22 => k_is)
    (case a23 => k_is)
    (case l23 => k_is)
    (case c23 => k_is)
    (case k23 => k_is)
    (case z1 => k_is)
    (case z2 => k_is)
    (case z3 => k_is)
    (case z4 => k_is)
    (case z5 => k_is)
    (case z6 => k_is)
    (case z7 => k_is)
    (case z8 => k_is)
    (case z9 => k_is)
    (case z10 => k_is)
    (case z11 => k_is)
    (case z12 => k_is)
    (case z13 => k_is)
    (case z14 => k_is)
    (case z15 => k_is)
#print axioms PySem.Challenge.cw_bentwires_k42_drawn_holds
