import PyProof.Rows.All
import KE.KTabLook
import KE.KLam
import Wide.All
import OpenK.AllK
import Wide.FinOn
import Lean
import PyProof.EqAt
import PyProof.EqKinds
import PyProof.TupleCall
import PySem.Challenge.RW_bentwires_k23_late
set_option Elab.async false
-- CHANGE: your row's module here, as the last of these rows
set_option Elab.async false
set_option linter.all false
set_option maxRecDepth 100000
/-! THE HAND LAYER, for ints, bools, texts, own classes, LISTS and tuples (index, slices, in, append, pop ..), calls, loops. Paste it whole ahead of your own text; what your proof does not reach may be deleted. -/
namespace L2
open PySem PySem.Spec PyProof.Rows

/-- a key: an int or a str -/
noncomputable abbrev Key := Sum Int Str
noncomputable def keyIs : Key → Value → Bool
  | .inl k, v => Value.isInt k v
  | .inr x, v => Value.isStrOf x v
noncomputable def keyH (w : World) : Key → Int
  | .inl k => hashInt k
  | .inr x => hashStr w x
theorem keyIs_shape : ∀ {k : Key} {v : Value}, keyIs k v = true → (∃ i t, k = Sum.inl i ∧ v = Value.int i t) ∨ (∃ x t, k = Sum.inr x ∧ v = Value.str x t)
  | .inl i, v, h => by
    obtain ⟨t, e⟩ := Value.isInt_shape (k := i) (v := v) h
    exact .inl ⟨i, t, rfl, e⟩
  | .inr x, v, h => by
    obtain ⟨t, e⟩ := Value.isStrOf_shape (x := x) (v := v) h
    exact .inr ⟨x, t, rfl, e⟩
theorem keyIs_int (i : Int) (t : Tok) : keyIs (.inl i) (.int i t) = true := by simp [keyIs, Value.isInt]
theorem keyIs_str (x : Str) (t : Tok) : keyIs (.inr x) (.str x t) = true := by simp [keyIs, Value.isStrOf]
theorem key_ll (a b : Int) : decide ((Sum.inl a : Key) = Sum.inl b) = (a == b) := by
  by_cases e : a = b
  · subst e; simp
  · have h : ¬ (Sum.inl a : Key) = Sum.inl b := fun q => e (Sum.inl.inj q)
    rw [decide_eq_false h]
    exact (beq_eq_false_iff_ne.mpr e).symm
theorem key_rr (a b : Str) : decide ((Sum.inr a : Key) = Sum.inr b) = decide (a = b) := by
  by_cases e : a = b
  · subst e; simp
  · have h : ¬ (Sum.inr a : Key) = Sum.inr b := fun q => e (Sum.inr.inj q)
    rw [decide_eq_false h, decide_eq_false e]
theorem key_lr (a : Int) (b : Str) : decide ((Sum.inl a : Key) = Sum.inr b) = false := decide_eq_false (fun q => nomatch q)
theorem key_rl (a : Str) (b : Int) : decide ((Sum.inr a : Key) = Sum.inl b) = false := decide_eq_false (fun q => nomatch q)

noncomputable def mixKind (prog : Program) (w : World) : PySem.KeyKind prog w Key where
  is := keyIs
  hash := keyH w
  inj := fun v a b ha hb => by
    rcases keyIs_shape ha with ⟨i, t, rfl, rfl⟩ | ⟨x, t, rfl, rfl⟩
    · rcases keyIs_shape hb with ⟨j, u, rfl, e⟩ | ⟨y, u, rfl, e⟩
      · injection e with e1 _; rw [e1]
      · exact nomatch e
    · rcases keyIs_shape hb with ⟨j, u, rfl, e⟩ | ⟨y, u, rfl, e⟩
      · exact nomatch e
      · injection e with e1 _; rw [e1]
  byValue := fun k v h => by
    rcases keyIs_shape h with ⟨i, t, rfl, rfl⟩ | ⟨x, t, rfl, rfl⟩ <;> rfl
  pyHash := fun hv h => by
    rcases keyIs_shape hv with ⟨i, t, rfl, rfl⟩ | ⟨x, t, rfl, rfl⟩
    · exact wpAny_pyHash_int h
    · exact wpAny_pyHash_str h
  eqBool := fun hu hv h => by
    rcases keyIs_shape hu with ⟨i, t, rfl, rfl⟩ | ⟨x, t, rfl, rfl⟩
    · rcases keyIs_shape hv with ⟨j, u, rfl, rfl⟩ | ⟨y, u, rfl, rfl⟩
      · rw [key_ll] at h; exact wpAny_eqBool_int h
      · rw [key_lr] at h; exact SeqAt.EqAt.int_str i t y u _ _ _ _ h
    · rcases keyIs_shape hv with ⟨j, u, rfl, rfl⟩ | ⟨y, u, rfl, rfl⟩
      · rw [key_rl] at h; exact SeqAt.EqAt.str_int x t j u _ _ _ _ h
      · rw [key_rr] at h; exact wpAny_eqBool_str h
  «strs» := fun k x t v h => by
    rcases keyIs_shape h with ⟨i, u, rfl, e⟩ | ⟨y, u, rfl, e⟩
    · exact nomatch e
    · injection e with e1 _
      subst e1
      cases v <;> rfl

theorem mixKind_int (prog : Program) (w : World) (i : Int) (t : Tok) : (mixKind prog w).is (.inl i) (.int i t) = true := keyIs_int i t
theorem mixKind_str (prog : Program) (w : World) (x : Str) (t : Tok) : (mixKind prog w).is (.inr x) (.str x t) = true := keyIs_str x t
end L2

namespace L2
open PySem PySem.Spec PyProof.Rows

/-- a value, without the heap -/
inductive V where
  | non | bl (b : Bool) | int (i : Int) | str (x : Str) | byt (b : Array UInt8) | flt (b : UInt64) | ref (a : Addr) | ty (n : String)
  deriving DecidableEq

noncomputable def RelV : V → Value → Prop
  | .non, u => u = Value.none
  | .bl b, u => u = Value.bool b
  | .int i, u => ∃ t, u = Value.int i t
  | .str x, u => ∃ t, u = Value.str x t
  | .byt b, u => ∃ t, u = Value.bytes b t
  | .flt b, u => ∃ t, u = Value.float b t
  | .ref a, u => u = Value.ref a
  | .ty n, u => u = Value.type n

noncomputable abbrev Vals : List V → List Value → Prop := Paired RelV
theorem Vals.length {xs : List V} {us : List Value} (r : Vals xs us) : xs.length = us.length := Paired.length r
theorem Vals.get : ∀ {xs : List V} {us : List Value} {i : Nat} {x : V}, Vals xs us → xs[i]? = some x → ∃ u, us[i]? = some u ∧ RelV x u
  | _, _, _, _, .nil, e => by simp at e
  | _, _, 0, _, .cons r _, e => by simp at e; subst e; exact ⟨_, rfl, r⟩
  | _, _, i + 1, x, .cons _ t, e => by
    obtain ⟨u, h1, h2⟩ := Vals.get (i := i) (x := x) t (by simpa using e)
    exact ⟨u, by simpa using h1, h2⟩
theorem Vals.set {x : V} {u : Value} (r : RelV x u) : ∀ {xs : List V} {us : List Value} (i : Nat), Vals xs us → Vals (xs.set i x) (us.set i u)
  | _, _, _, .nil => .nil
  | _, _, 0, .cons _ t => .cons r t
  | _, _, i + 1, .cons q t => .cons q (Vals.set r i t)
theorem Vals.append : ∀ {xs ys : List V} {us ws : List Value}, Vals xs us → Vals ys ws → Vals (xs ++ ys) (us ++ ws)
  | _, _, _, _, .nil, s => s
  | _, _, _, _, .cons r t, s => .cons r (Vals.append t s)
theorem Vals.take : ∀ {xs : List V} {us : List Value} (n : Nat), Vals xs us → Vals (xs.take n) (us.take n)
  | _, _, 0, _ => .nil
  | _, _, _ + 1, .nil => .nil
  | _, _, n + 1, .cons r t => .cons r (Vals.take n t)
theorem Vals.drop : ∀ {xs : List V} {us : List Value} (n : Nat), Vals xs us → Vals (xs.drop n) (us.drop n)
  | _, _, 0, r => r
  | _, _, _ + 1, .nil => .nil
  | _, _, n + 1, .cons _ t => Vals.drop n t
noncomputable def RelO : Option V → Option Value → Prop
  | some v, some u => RelV v u
  | none, none => True
  | _, _ => False
noncomputable def KV {κ : Type} : List (κ × V) → List (κ × Value) → Prop := Paired fun (p : κ × V) (q : κ × Value) => p.1 = q.1 ∧ RelV p.2 q.2

/-- a key of a dict (00_mix): an int or a text -/
noncomputable def kV : Key → V
  | .inl i => .int i
  | .inr x => .str x

/-- what stands at a tracked address -/
inductive HO where
  /-- a list -/
  | lst (xs : List V)
  /-- a tuple (never changes) -/
  | tup (xs : List V)
  /-- a dict whose keys are ints and texts; one whose keys are tuples of ints and texts (the empty one is both) -/
  | dK (kvs : List (Key × V)) | dT (kvs : List (List Key × V))
  /-- a set of ints: its members, its size -/
  | set (S : Int → Bool) (n : Nat)
  /-- an instance of the class at C, its dict at dx, its attributes -/
  | ins (C dx : Addr) (fs : List (Str × V))
  /-- the dict of the instance at x -/
  | own (x : Addr)
  /-- the dict of an exception -/
  | xd (fs : List (Str × V))
  /-- a bound method, f of x -/
  | met (f x : Addr)
  /-- a range object lo, lo + 1, .. below hi -/
  | rng (lo hi : Int)
  /-- a thing that is known to the object (the script; a dict while a loop walks it): read, never written while it is so -/
  | frz (o : Obj) (u : HO)
  /-- a code object's table -/
  | tbl (ps : Array Value)
  /-- any other thing, by what is true of its one object (a def of one's own: SetO a S n := HO.ext fun h => ..) -/
  | ext (φ : Heap → Prop)

noncomputable abbrev Hp := Addr → Option HO
noncomputable def upd (H : Hp) (a : Addr) (o : HO) : Hp := fun b => if b = a then some o else H b
theorem upd_same {H : Hp} {a : Addr} {o : HO} : upd H a o a = some o := by unfold upd; rw [if_pos rfl]
theorem upd_ne {H : Hp} {a b : Addr} {o : HO} (h : b ≠ a) : upd H a o b = H b := by unfold upd; rw [if_neg h]
theorem upd_upd {H : Hp} {a : Addr} {o u : HO} : upd (upd H a o) a u = upd H a u := by
  funext b; unfold upd; split <;> rfl
/-- two objects of different content stand apart -/
theorem ne_of {H : Hp} {a b : Addr} {o u : HO} (h : H a = some o) (h' : H b = some u) (d : o ≠ u) : a ≠ b := by
  intro e; subst e; rw [h] at h'; exact d (Option.some.inj h')
theorem ne_of_none {H : Hp} {a b : Addr} {o : HO} (h : H a = some o) (h' : H b = none) : a ≠ b := by
  intro e; subst e; rw [h] at h'; cases h'

section
variable (P : Program) (w : World)
noncomputable def ObjOk (H : Hp) (h : Heap) (a : Addr) : HO → Prop
  | .lst xs => xs.length ≤ sizeLine ∧ ∃ (its : List Value) (n : Nat), Vals xs its ∧ h.get? a = some { cls := .type "list", data := .seq its.toArray n }
  | .tup xs => xs.length ≤ sizeLine ∧ ∃ its : List Value, Vals xs its ∧ IsTup h a its.toArray
  | .dK kvs => kvs.length ≤ sizeLine ∧ (a == sysModules) = false ∧ ∃ vs, KV kvs vs ∧ h.DictOf (mixKind P w) a vs
  | .dT kvs => kvs.length ≤ sizeLine ∧ (a == sysModules) = false ∧ ∃ xs : List (List Key × Addr × Value),
      Paired (fun (p : List Key × V) (q : List Key × Addr × Value) => p.1 = q.1 ∧ H q.2.1 = some (.tup (p.1.map kV)) ∧ RelV p.2 q.2.2) kvs xs ∧
      ∃ o es ep, h.get? a = some o ∧ o.ExactDict ∧ o.data = .dict es ep ∧ es.toList = xs.map (entryOfKey (tupleKind (mixKind P w))) ∧ (xs.map (·.1)).Nodup
  | .set S n => h.SetOf (intKind P w) a S n
  | .ins C dx fs => H dx = some (.own a) ∧ fs.length ≤ 1000 ∧ dx ≠ a ∧ h.get? a = some (PySem.W.instObj C dx) ∧
      ∃ mA, h.Ns1 dx mA ∧ (∀ f, RelO (fs.lookup f) (mA f)) ∧ PySem.Within mA (fs.map (·.1))
  | .own _ => ∃ o, h.get? a = some o
  | .xd fs => ∃ mA, h.Ns1 a mA ∧ ∀ f, RelO (fs.lookup f) (mA f)
  | .rng lo hi => ∃ t u v, h.get? a = some { cls := .type "range", data := .fields #[.int lo t, .int hi u, .int 1 v] }
  | .frz o u => h.get? a = some o ∧ ObjOk H h a u
  | .tbl ps => h.get? a = some { cls := .none, data := .fields ps }
  | .met f x => h.get? a = some (PySem.W.methodObj (.ref f) (.ref x))
  | .ext φ => φ h ∧ (∃ o, h.get? a = some o) ∧ ∀ h1 h2 : Heap, φ h1 → (∀ o, h1.get? a = some o → h2.get? a = some o) → φ h2
/-- the abstract heap is held -/
noncomputable def HOk (H : Hp) (h : Heap) : Prop := ∀ a o, H a = some o → ObjOk P w H h a o
end

section
variable {P : Program} {w : World} {H H' : Hp} {h h' : Heap} {a : Addr} {o : HO}
theorem ObjOk.lt (x : ObjOk P w H h a o) : a < h.objs.size := by
  cases o with
  | lst xs => obtain ⟨_, _, _, _, e⟩ := x; exact Heap.lt_size e
  | tup xs => obtain ⟨_, _, _, p⟩ := x; exact p.lt
  | dK kvs => obtain ⟨_, _, _, _, o, _, _, e, _⟩ := x; exact Heap.lt_size e
  | dT kvs => obtain ⟨_, _, _, _, o, _, _, e, _⟩ := x; exact Heap.lt_size e
  | set S n => obtain ⟨o, _, _, _, e, _⟩ := x; exact Heap.lt_size e
  | ins C dx fs => obtain ⟨_, _, _, e, _⟩ := x; exact Heap.lt_size e
  | own y => obtain ⟨_, e⟩ := x; exact Heap.lt_size e
  | xd fs => obtain ⟨_, ⟨_, _, _, e, _⟩, _⟩ := x; exact Heap.lt_size e
  | rng lo hi => obtain ⟨_, _, _, e⟩ := x; exact Heap.lt_size e
  | frz ob u => obtain ⟨e, _⟩ := x; exact Heap.lt_size e
  | tbl ps => exact Heap.lt_size (show h.get? a = some _ from x)
  | met f y => exact Heap.lt_size (show h.get? a = some _ from x)
  | ext φ => obtain ⟨_, ⟨_, e⟩, _⟩ := x; exact Heap.lt_size e
theorem Paired.mapP {α β : Type} {F G : α → β → Prop} : ∀ {l₁ : List α} {l₂ : List β}, Paired F l₁ l₂ → (∀ a b, F a b → G a b) → Paired G l₁ l₂
  | _, _, .nil, _ => .nil
  | _, _, .cons r t, f => .cons (f _ _ r) (Paired.mapP t f)
/-- what an object's description leans on: its own object, its own dict, the tuples -/
theorem ObjOk.stay (x : ObjOk P w H h a o) (k : ∀ b u, (b = a ∨ H b = some (.own a)) → h.get? b = some u → h'.get? b = some u)
    (ho : ∀ b, H b = some (.own a) → H' b = some (.own a)) (ht : ∀ b xs, H b = some (.tup xs) → H' b = some (.tup xs)) : ObjOk P w H' h' a o := by
  induction o with
  | lst xs => obtain ⟨z, its, n, r, e⟩ := x; exact ⟨z, its, n, r, k _ _ (.inl rfl) e⟩
  | tup xs => obtain ⟨z, its, r, ob, e, c⟩ := x; exact ⟨z, its, r, ob, k _ _ (.inl rfl) e, c⟩
  | dK kvs => obtain ⟨z, y, vs, r, ob, es, ep, e, c⟩ := x; exact ⟨z, y, vs, r, ob, es, ep, k _ _ (.inl rfl) e, c⟩
  | dT kvs =>
    obtain ⟨z, y, xs, r, ob, es, ep, e, c⟩ := x
    exact ⟨z, y, xs, Paired.mapP r fun p q z => ⟨z.1, ht _ _ z.2.1, z.2.2⟩, ob, es, ep, k _ _ (.inl rfl) e, c⟩
  | set S n => obtain ⟨ob, es, ep, t, e, c⟩ := x; exact ⟨ob, es, ep, t, k _ _ (.inl rfl) e, c⟩
  | ins C dx fs =>
    obtain ⟨d, z, ne, e, mA, ⟨od, es, ep, e2, c⟩, r⟩ := x
    exact ⟨ho _ d, z, ne, k _ _ (.inl rfl) e, mA, ⟨od, es, ep, k _ _ (.inr d) e2, c⟩, r⟩
  | own y => obtain ⟨ob, e⟩ := x; exact ⟨ob, k _ _ (.inl rfl) e⟩
  | xd fs => obtain ⟨mA, ⟨od, es, ep, e, c⟩, r⟩ := x; exact ⟨mA, ⟨od, es, ep, k _ _ (.inl rfl) e, c⟩, r⟩
  | rng lo hi => obtain ⟨t, u, v, e⟩ := x; exact ⟨t, u, v, k _ _ (.inl rfl) e⟩
  | frz ob u ih => obtain ⟨e, q⟩ := x; exact ⟨k _ _ (.inl rfl) e, ih q⟩
  | tbl ps =>
    have e : h.get? a = some { cls := .none, data := .fields ps } := x
    show h'.get? a = some { cls := .none, data := .fields ps }
    exact k a _ (.inl rfl) e
  | met f y =>
    have e : h.get? a = some (PySem.W.methodObj (.ref f) (.ref y)) := x
    show h'.get? a = some (PySem.W.methodObj (.ref f) (.ref y))
    exact k a _ (.inl rfl) e
  | ext φ => obtain ⟨p, ⟨o, e⟩, st⟩ := x; exact ⟨st _ _ p fun o q => k _ _ (.inl rfl) q, ⟨o, k _ _ (.inl rfl) e⟩, st⟩
theorem HOk.lt (x : HOk P w H h) (e : H a = some o) : a < h.objs.size := (x a o e).lt
theorem HOk.fresh (x : HOk P w H h) (e : h.objs.size ≤ a) : H a = none := by
  cases q : H a with
  | none => rfl
  | some u => exact absurd (Nat.lt_of_lt_of_le (x.lt q) e) (Nat.lt_irrefl _)
/-- every object of the heap is kept -/
theorem HOk.kept (x : HOk P w H h) (k : ∀ b u, h.get? b = some u → h'.get? b = some u) : HOk P w H h' := fun a o e =>
  (x a o e).stay (fun b u _ q => k b u q) (fun _ q => q) fun _ _ q => q
/-- a new object is laid and tracked -/
theorem HOk.laid (x : HOk P w H h) (k : ∀ b u, h.get? b = some u → h'.get? b = some u) (hp : h.objs.size ≤ a) (new : ObjOk P w (upd H a o) h' a o) : HOk P w (upd H a o) h' := fun b u e => by
  have hn := x.fresh hp
  by_cases hb : b = a
  · subst hb; rw [upd_same] at e; cases e; exact new
  · rw [upd_ne hb] at e
    exact (x b u e).stay (fun c v _ q => k c v q) (fun c q => by rw [upd_ne (ne_of_none q hn)]; exact q) fun c xs q => by rw [upd_ne (ne_of_none q hn)]; exact q
end

/-- what may be read as u: it is u, or a known u -/
noncomputable def Rd (H : Hp) (a : Addr) (u : HO) : Prop := H a = some u ∨ ∃ o, H a = some (.frz o u)
theorem Rd.of {H : Hp} {a : Addr} {u : HO} (h : H a = some u) : Rd H a u := .inl h
theorem Rd.ok {P : Program} {w : World} {H : Hp} {h : Heap} {a : Addr} {u : HO} (r : Rd H a u) (x : HOk P w H h) : ObjOk P w H h a u := by
  rcases r with r | ⟨o, r⟩
  · exact x a u r
  · obtain ⟨_, q⟩ := x a _ r
    exact q
/-- what may be written -/
noncomputable def Mut : Option HO → Prop
  | some (.lst _) => True
  | some (.dK _) => True
  | some (.dT _) => True
  | some (.set _ _) => True
  | some (.ins _ _ _) => True
  | some (.ext _) => True
  | _ => False
section
variable {P : Program} {w : World} {H : Hp} {h h' : Heap} {x e : Addr} {o' : HO}
/-- the object at e is changed: x itself, or the dict of the instance x -/
theorem HOk.write (ok : HOk P w H h) (mu : Mut (H x)) (he : e = x ∨ H e = some (.own x)) (k : ∀ b u, b ≠ e → h.get? b = some u → h'.get? b = some u) (heo : ∃ u, h'.get? e = some u)
    (new : ObjOk P w (upd H x o') h' x o') : HOk P w (upd H x o') h' := fun b u q => by
  have nown : ∀ c y, H c = some (.own y) → c ≠ x := fun c y r z => by subst z; rw [r] at mu; exact mu
  have ntup : ∀ c xs, H c = some (.tup xs) → c ≠ x := fun c xs r z => by subst z; rw [r] at mu; exact mu
  by_cases hb : b = x
  · subst hb; rw [upd_same] at q; cases q; exact new
  · rw [upd_ne hb] at q
    by_cases hbe : b = e
    · have q' : H b = some (.own x) := by
        rcases he with z | z
        · exact absurd (hbe.trans z) hb
        · rw [hbe]; exact z
      rw [q] at q'; cases q'
      obtain ⟨v, hv⟩ := heo
      exact ⟨v, by rw [hbe]; exact hv⟩
    · refine (ok b u q).stay (fun c v hc r => k c v ?_ r) (fun c r => by rw [upd_ne (nown c b r)]; exact r) fun c xs r => by rw [upd_ne (ntup c xs r)]; exact r
      rcases hc with rfl | hc
      · exact hbe
      · rintro rfl
        rcases he with z | z
        · exact nown c b hc z
        · rw [hc] at z; cases z; exact hb rfl
end

/-! ### kept unless tracked; of the frames at fs (the callers') the slots may change (an exception that passes writes there); of the records at ex (iterators) nothing is said -/
structure Un (fs ex : List Addr) (H H' : Hp) (h h' : Heap) : Prop where
  keep : ∀ b o, h.get? b = some o → H b = none → b ∉ fs → b ∉ ex → h'.get? b = some o
  slot : ∀ b o, h.get? b = some o → H b = none → b ∈ fs → b ∉ ex → ∃ sl, h'.get? b = some { o with slots := sl }
  free : ∀ b o, h.get? b = some o → H b = none → b ∉ ex → H' b = none
  there : ∀ b o, h.get? b = some o → b ∉ ex → ∃ o', h'.get? b = some o'
  tups : ∀ b xs, H b = some (.tup xs) → H' b = some (.tup xs)
  frzs : ∀ b o u, H b = some (.frz o u) → H' b = some (.frz o u)
  tbls : ∀ b ps, H b = some (.tbl ps) → ∃ more, H' b = some (.tbl (ps ++ more))
section
variable {fs fs' ex ex' : List Addr} {H H1 H2 : Hp} {h h1 h2 h' : Heap} {a x e : Addr} {o : HO}
theorem Un.any (u : Un fs ex H H1 h h1) {b : Addr} {ob : Obj} (q : h.get? b = some ob) (n : H b = none) (hx : b ∉ ex) : ∃ sl, h1.get? b = some { ob with slots := sl } := by
  by_cases hb : b ∈ fs
  · exact u.slot b ob q n hb hx
  · exact ⟨ob.slots, u.keep b ob q n hb hx⟩
theorem Un.trans (a : Un fs ex H H1 h h1) (b : Un fs ex H1 H2 h1 h2) : Un fs ex H H2 h h2 where
  keep := fun c ob q n hc hx => b.keep c ob (a.keep c ob q n hc hx) (a.free c ob q n hx) hc hx
  slot := fun c ob q n hc hx => by
    obtain ⟨sl, e1⟩ := a.slot c ob q n hc hx
    obtain ⟨sl', e2⟩ := b.slot c _ e1 (a.free c ob q n hx) hc hx
    exact ⟨sl', e2⟩
  free := fun c ob q n hx => by
    obtain ⟨o', e1⟩ := a.there c ob q hx
    exact b.free c o' e1 (a.free c ob q n hx) hx
  there := fun c ob q hx => by
    obtain ⟨o', e1⟩ := a.there c ob q hx
    exact b.there c o' e1 hx
  tups := fun c xs q => b.tups c xs (a.tups c xs q)
  frzs := fun c ob xs q => b.frzs c ob xs (a.frzs c ob xs q)
  tbls := fun c ps q => by
    obtain ⟨m1, e1⟩ := a.tbls c ps q
    obtain ⟨m2, e2⟩ := b.tbls c _ e1
    exact ⟨m1 ++ m2, by rw [e2, Array.append_assoc]⟩
theorem Un.kept (k : ∀ b u, h.get? b = some u → h'.get? b = some u) : Un fs ex H H h h' :=
  ⟨fun b ob q _ _ _ => k b ob q, fun b ob q _ _ _ => ⟨ob.slots, k b ob q⟩, fun _ _ _ n _ => n, fun b ob q _ => ⟨ob, k b ob q⟩, fun _ _ q => q, fun _ _ _ q => q, fun _ ps q => ⟨#[], by rw [q]; simp⟩⟩
theorem Un.refl : Un fs ex H H h h := Un.kept fun _ _ q => q
theorem Un.laid (k : ∀ b u, h.get? b = some u → h'.get? b = some u) (hp : h.objs.size ≤ a) (hn : H a = none) : Un fs ex H (upd H a o) h h' where
  keep := fun b u q _ _ _ => k b u q
  slot := fun b u q _ _ _ => ⟨u.slots, k b u q⟩
  free := fun b u q n _ => by rw [upd_ne (Nat.ne_of_lt (Nat.lt_of_lt_of_le (Heap.lt_size q) hp))]; exact n
  there := fun b u q _ => ⟨u, k b u q⟩
  tups := fun b xs q => by rw [upd_ne (ne_of_none q hn)]; exact q
  frzs := fun b u xs q => by rw [upd_ne (ne_of_none q hn)]; exact q
  tbls := fun b ps q => ⟨#[], by rw [upd_ne (ne_of_none q hn), q]; simp⟩
theorem Un.write (mu : Mut (H x)) (he : e = x ∨ H e = some (.own x)) (k : ∀ b u, b ≠ e → h.get? b = some u → h'.get? b = some u) (heo : ∃ u, h'.get? e = some u) : Un fs ex H (upd H x o) h h' := by
  have hx : ∀ b, H b = none → b ≠ x := fun b n z => by subst z; rw [n] at mu; exact mu
  have hb : ∀ b, H b = none → b ≠ e := fun b n z => by
    subst z
    rcases he with r | r
    · exact hx b n r
    · rw [n] at r; cases r
  have hm : ∀ b u, H b = some u → ¬ Mut (some u) → b ≠ x := fun b u q nm z => by subst z; rw [q] at mu; exact nm mu
  refine ⟨fun b u q n _ _ => k b u (hb b n) q, fun b u q n _ _ => ⟨u.slots, k b u (hb b n) q⟩, fun b u q n _ => by rw [upd_ne (hx b n)]; exact n, fun b u q _ => ?_,
    fun b xs q => by rw [upd_ne (hm b _ q fun z => z)]; exact q, fun b u xs q => by rw [upd_ne (hm b _ q fun z => z)]; exact q, fun b ps q => ⟨#[], by rw [upd_ne (hm b _ q fun z => z), q]; simp⟩⟩
  by_cases hbe : b = e
  · subst hbe; exact heo
  · exact ⟨u, k b u hbe q⟩
theorem Un.mono (u : Un fs ex H H1 h h1) (hs : ∀ b ∈ fs, b ∈ fs') (hx : ∀ b ∈ ex, b ∈ ex') : Un fs' ex' H H1 h h1 :=
  ⟨fun b ob q n hb he => u.keep b ob q n (fun z => hb (hs b z)) fun z => he (hx b z), fun _ _ q n _ he => u.any q n fun z => he (hx _ z), fun b ob q n he => u.free b ob q n fun z => he (hx b z), fun b ob q he => u.there b ob q fun z => he (hx b z), u.tups, u.frzs, u.tbls⟩
end

/-! ### the heap without what is tracked -/
noncomputable def trk (h : Heap) (H : Hp) : List Addr := (List.range h.objs.size).filter fun a => (H a).isSome
noncomputable def hidT (h : Heap) (H : Hp) : Heap := PySem.W.hideAll h (trk h H)
theorem hidT_size (h : Heap) (H : Hp) : (hidT h H).objs.size = h.objs.size := PySem.W.hideAll_size _ _
theorem hidT_get {h : Heap} {H : Hp} {b : Addr} {o : Obj} (e : h.get? b = some o) (n : H b = none) : (hidT h H).get? b = some o :=
  PySem.W.hideAll_get _ e fun hm => by
    have q : (H b).isSome = true := (List.mem_filter.mp hm).2
    rw [n] at q; simp at q
theorem of_hidT {h : Heap} {H : Hp} {b : Addr} {o : Obj} (e : (hidT h H).get? b = some o) : h.get? b = some o ∧ H b = none := by
  have e' : h.get? b = some o := PySem.W.of_hideAll (trk h H) e
  refine ⟨e', ?_⟩
  cases q : H b with
  | none => rfl
  | some x =>
    have hm : b ∈ trk h H := List.mem_filter.mpr ⟨List.mem_range.mpr (Heap.lt_size e'), by simp [q]⟩
    have z : (hidT h H).get? b = none := PySem.W.hideAll_none (trk h H) hm
    rw [z] at e; cases e

/-! ### OpenK's ledger, filled with every new object but one -/
noncomputable def allNews (g h : Heap) (L : Addr) : List (Addr × Obj) := (List.range h.objs.size).filterMap fun a => if a = L ∨ (g.get? a).isSome = true then none else (h.get? a).map fun o => (a, o)
noncomputable def rest (g h : Heap) (L d : Addr) : List (Addr × Obj) := (allNews g h L).filter fun p => decide (p.1 ≠ d)
end L2

namespace L2
open PySem PySem.Spec PyProof.Rows

/-- the module's facts, over the base: the heap at the law's entry without what is tracked there -/
structure Mod (K : PySem.W.Frag) (mg : Str → Option Value) (base : Heap) : Prop where
  kin : K.In base
  glob : base.Ns mainGlobals mg
  blt : ∃ mb, base.Ns builtinsNs mb ∧ ∀ x : Str, x ≠ "__name__" → mb x = bootBuiltins x
  nolimit : base.NoLimit

/-- the context: a def's body (or a comprehension's block) running. base: fixed through the whole law; s₀, H₀: the entry; outer: the frames whose slots others may change (a def's callers); stack: all frames that run;
   ex: iterators that were made ahead of the entry and are walked here (a comprehension's); fn: the names whose cells were made at the entry (a def: all; a comprehension's block: its own); calm: not within an except suite; pn: pins that every state bears; xe: what is wanted of an exception that leaves the code -/
structure Cx where
  prog : Program
  w : World
  K : PySem.W.Frag
  mg : Str → Option Value
  base : Heap
  A : Around
  N : List Str
  s₀ : Shared
  H₀ : Hp
  env : Env
  outer : List Env
  stack : List Env
  ex : List Addr
  fn : Str → Bool
  calm : Bool
  pn : List (Addr × Obj)
  xe : Value → Shared → Prop
/-- the callers' frames -/
noncomputable def frs (l : List Env) : List Addr := l.filterMap (·.frame)
noncomputable abbrev Cx.fs (X : Cx) : List Addr := frs X.outer

noncomputable def Vis (sc : Scope) (x : Str) : Prop := sc.names.lookup x = some .local ∨ sc.names.lookup x = some .cell ∨ sc.names.lookup x = some .free
noncomputable def Loc (sc : Scope) (x : Str) : Prop := sc.names.lookup x = some .local ∨ sc.names.lookup x = some .cell
noncomputable def Look (env : Env) (h : Heap) (m : Str → Option Value) (x : Str) (u : Value) : Prop :=
  (env.kindOf x = some .local ∧ m x = some u) ∨ ((env.kindOf x = some .cell ∨ env.kindOf x = some .free) ∧ ∃ c, env.cells.lookup x = some c ∧ h.IsCell c (some u))

structure Cx.Ok (X : Cx) : Prop where
  mod : Mod X.K X.mg X.base
  kind : X.env.scope.kind = .function
  glob : X.env.globals = mainGlobals
  blt : X.env.builtins = builtinsNs
  above : X.s₀.heap.objs.size ≤ X.env.locals
  inj : ∀ x y c, X.env.cells.lookup x = some c → X.env.cells.lookup y = some c → x = y
  has : ∀ x, (X.env.kindOf x = some .cell ∨ X.env.kindOf x = some .free) → ∃ c, X.env.cells.lookup x = some c
  cab : ∀ x c, X.fn x = true → X.env.cells.lookup x = some c → X.s₀.heap.objs.size ≤ c
  hd : X.calm = true → X.A.handled = none
  frames : X.A.frames = some X.stack
  stk : X.stack = X.outer ∨ (X.stack = X.env :: X.outer ∧ X.env.frame = some X.env.locals)
  exf : ∀ b ∈ X.ex, b ≠ X.env.locals ∧ ∀ x c, X.env.cells.lookup x = some c → c ≠ b
  bs : ∀ b o, X.base.get? b = some o → X.s₀.heap.get? b = some o ∧ X.H₀ b = none
  bsz : X.base.objs.size ≤ X.s₀.heap.objs.size
  noex : ∀ b o, X.base.get? b = some o → b ∉ X.ex
  exfs : ∀ b ∈ X.ex, b ∉ X.fs
  funs : X.s₀.heap.FunFrames X.base X.outer
  frf : ∀ b ∈ X.fs, X.H₀ b = none

structure Inv (X : Cx) (pins : List (Addr × Obj)) (σ : List (Option V)) (H : Hp) (s : Shared) : Prop where
  ok : X.Ok
  os : s.os = X.s₀.os
  bare : AllBare s.gens
  base : Un X.fs X.ex X.H₀ H X.s₀.heap s.heap
  loc : ∃ m, s.heap.Ns X.env.locals m ∧ ∀ (i : Nat) (x : Str) (v : V), X.N[i]? = some x → σ[i]? = some (some v) → Vis X.env.scope x → ∃ u, RelV v u ∧ Look X.env s.heap m x u
  cell : ∀ x c, X.env.cells.lookup x = some c → ∃ v, s.heap.IsCell c v
  free : H X.env.locals = none
  freeC : ∀ x c, X.env.cells.lookup x = some c → H c = none
  pin : ∀ p ∈ X.pn ++ pins, s.heap.get? p.1 = some p.2 ∧ H p.1 = none ∧ p.1 ≠ X.env.locals ∧ p.1 ∉ X.fs ∧ ∀ v, p.2.data ≠ .cell v
  hok : HOk X.prog X.w H s.heap
  len : σ.length = X.N.length

section
variable {X : Cx} {pins : List (Addr × Obj)} {σ : List (Option V)} {H H' : Hp} {s : Shared} {h' : Heap}

theorem Cx.Ok.nofr (ok : X.Ok) {b : Addr} {o : Obj} (e : X.base.get? b = some o) : b ∉ X.fs := fun hb => by
  have := (ok.funs.mem hb).1
  rw [e] at this; cases this
theorem Inv.bs (I : Inv X pins σ H s) : ∀ b o, X.base.get? b = some o → s.heap.get? b = some o ∧ H b = none := fun b o e =>
  ⟨I.base.keep b o (I.ok.bs b o e).1 (I.ok.bs b o e).2 (I.ok.nofr e) (I.ok.noex b o e), I.base.free b o (I.ok.bs b o e).1 (I.ok.bs b o e).2 (I.ok.noex b o e)⟩
theorem Inv.bk (I : Inv X pins σ H s) : ∀ b o, X.base.get? b = some o → s.heap.get? b = some o := fun b o e => (I.bs b o e).1
theorem Inv.mod (I : Inv X pins σ H s) : Mod X.K X.mg X.base := I.ok.mod
theorem Inv.kIn (I : Inv X pins σ H s) : X.K.In s.heap := I.ok.mod.kin.keeps I.bk
theorem Inv.lt (I : Inv X pins σ H s) : X.env.locals < s.heap.objs.size := let ⟨_, hn, _⟩ := I.loc; hn.lt
theorem Inv.sz (I : Inv X pins σ H s) : X.s₀.heap.objs.size ≤ s.heap.objs.size := Nat.le_trans I.ok.above (Nat.le_of_lt I.lt)
theorem Inv.nofs (I : Inv X pins σ H s) {a : Addr} (h : s.heap.objs.size ≤ a) : a ∉ X.fs := fun hb => by
  obtain ⟨_, o, ho, _⟩ := I.ok.funs.mem hb
  exact absurd (Nat.lt_of_lt_of_le (Heap.lt_size ho) (Nat.le_trans I.sz h)) (Nat.lt_irrefl _)
theorem Inv.cne (I : Inv X pins σ H s) : ∀ x c, X.env.cells.lookup x = some c → c ≠ X.env.locals := fun x c e z => by
  obtain ⟨v, o, ho, hd⟩ := I.cell x c e
  obtain ⟨m, ⟨o', es, ep, ho', hd', _⟩, _⟩ := I.loc
  rw [z, ho'] at ho; cases ho; rw [hd'] at hd; cases hd
theorem Inv.funs (I : Inv X pins σ H s) : s.heap.FunFrames X.base X.outer := by
  have all : ∀ (l : List Env), (∀ b ∈ frs l, b ∈ X.fs) → X.s₀.heap.FunFrames X.base l → s.heap.FunFrames X.base l := by
    intro l
    induction l with
    | nil => intro _ _; trivial
    | cons env r ih =>
      intro hs hl
      obtain ⟨hk, ⟨L, o, hf, hn, ho, hd⟩, hr⟩ := hl
      have hL : L ∈ X.fs := hs L (by unfold frs; rw [List.filterMap_cons, hf]; exact List.mem_cons_self)
      obtain ⟨sl, e⟩ := I.base.slot L o ho (I.ok.frf L hL) hL fun z => I.ok.exfs L z hL
      exact ⟨hk, ⟨L, _, hf, hn, e, hd⟩, ih (fun b hb => hs b (by unfold frs; rw [List.filterMap_cons, hf]; exact List.mem_cons_of_mem _ hb)) hr⟩
  exact all X.outer (fun _ hb => hb) I.ok.funs

/-- the frames that run, for a call -/
theorem Inv.stack (I : Inv X pins σ H s) : s.heap.FunFrames X.base X.stack := by
  rcases I.ok.stk with e | ⟨e, hf⟩
  · rw [e]; exact I.funs
  · rw [e]
    obtain ⟨m, hn, _⟩ := I.loc
    refine .cons (by rw [I.ok.kind]; decide) hf hn ?_ I.funs
    exact Heap.get?_none_of_le (Nat.le_trans I.ok.bsz I.ok.above)
theorem Inv.stkSub (I : Inv X pins σ H s) : ∀ b ∈ frs X.stack, b ∈ X.env.locals :: X.fs := fun b hb => by
  rcases I.ok.stk with e | ⟨e, hf⟩
  · rw [e] at hb; exact List.mem_cons_of_mem _ hb
  · rw [e] at hb
    unfold frs at hb
    rw [List.filterMap_cons, hf] at hb
    exact hb
theorem Inv.stkFree (I : Inv X pins σ H s) : ∀ b ∈ frs X.stack, H b = none := fun b hb => by
  rcases List.mem_cons.mp (I.stkSub b hb) with e | hb
  · rw [e]; exact I.free
  · obtain ⟨_, o, ho, _⟩ := I.ok.funs.mem hb
    exact I.base.free b o ho (I.ok.frf b hb) fun z => I.ok.exfs b z hb

/-- THE STEP: the untracked objects but the frame and the records at ch are kept (the callers' frames up to slots), the frame's map is kept, the new abstract heap is held -/
theorem Inv.step {g' : Array GenState} {t' : Nat} {d' : Drawn} {ch : List Addr} (I : Inv X pins σ H s)
    (hch : ∀ b ∈ ch, (b ∈ X.ex ∨ X.s₀.heap.objs.size ≤ b) ∧ b ≠ X.env.locals ∧ (∀ x c, X.env.cells.lookup x = some c → c ≠ b) ∧ ∀ p ∈ X.pn ++ pins, p.1 ≠ b)
    (keep : ∀ b o, b ≠ X.env.locals → b ∉ X.fs → b ∉ ch → s.heap.get? b = some o → H b = none → h'.get? b = some o)
    (slot : ∀ b o, b ≠ X.env.locals → b ∈ X.fs → b ∉ ch → s.heap.get? b = some o → H b = none → ∃ sl, h'.get? b = some { o with slots := sl }) (free : ∀ b o, b ∉ ch → s.heap.get? b = some o → H b = none → H' b = none)
    (there : ∀ b o, b ∉ ch → s.heap.get? b = some o → ∃ o', h'.get? b = some o')
    (tups : ∀ b xs, H b = some (.tup xs) → H' b = some (.tup xs)) (frzs : ∀ b o u, H b = some (.frz o u) → H' b = some (.frz o u)) (tbls : ∀ b ps, H b = some (.tbl ps) → ∃ more, H' b = some (.tbl (ps ++ more)))
    (ns : ∀ m, s.heap.Ns X.env.locals m → h'.Ns X.env.locals m) (hok : HOk X.prog X.w H' h') (hg : AllBare g') :
    Inv X pins σ H' { s with heap := h', gens := g', drawn := d', toks := t' } := by
  have neL : ∀ b o, X.s₀.heap.get? b = some o → b ≠ X.env.locals := fun b o e => Nat.ne_of_lt (Nat.lt_of_lt_of_le (Heap.lt_size e) I.ok.above)
  have neC : ∀ b o, X.s₀.heap.get? b = some o → b ∉ X.ex → b ∉ ch := fun b o e hx hb => by
    rcases (hch b hb).1 with z | z
    · exact hx z
    · exact absurd (Nat.lt_of_lt_of_le (Heap.lt_size e) z) (Nat.lt_irrefl _)
  have cellK : ∀ x c, X.env.cells.lookup x = some c → ∀ v, s.heap.IsCell c v → h'.IsCell c v := fun x c e v ⟨o, ho, hd⟩ => by
    have nch : c ∉ ch := fun z => (hch c z).2.2.1 x c e rfl
    by_cases hc : c ∈ X.fs
    · obtain ⟨sl, q⟩ := slot c o (I.cne x c e) hc nch ho (I.freeC x c e)
      exact ⟨_, q, hd⟩
    · exact ⟨o, keep c o (I.cne x c e) hc nch ho (I.freeC x c e), hd⟩
  refine ⟨I.ok, I.os, hg, ⟨fun b o e n hb hx => ?_, fun b o e n hb hx => ?_, fun b o e n hx => ?_, fun b o e hx => ?_, fun b xs e => tups b xs (I.base.tups b xs e), fun b o xs e => frzs b o xs (I.base.frzs b o xs e), fun b ps e => ?_⟩, ?_, fun x c e => ?_, ?_, fun x c e => ?_, fun p hp => ?_, hok, I.len⟩
  · exact keep b o (neL b o e) hb (neC b o e hx) (I.base.keep b o e n hb hx) (I.base.free b o e n hx)
  · obtain ⟨sl, e1⟩ := I.base.slot b o e n hb hx
    obtain ⟨sl', e2⟩ := slot b _ (neL b o e) hb (neC b o e hx) e1 (I.base.free b o e n hx)
    exact ⟨sl', e2⟩
  · obtain ⟨o', e1⟩ := I.base.there b o e hx
    exact free b o' (neC b o e hx) e1 (I.base.free b o e n hx)
  · obtain ⟨o', e1⟩ := I.base.there b o e hx
    exact there b o' (neC b o e hx) e1
  · obtain ⟨m1, e1⟩ := I.base.tbls b ps e
    obtain ⟨m2, e2⟩ := tbls b _ e1
    exact ⟨m1 ++ m2, by rw [e2, Array.append_assoc]⟩
  · obtain ⟨m, hn, hl⟩ := I.loc
    refine ⟨m, ns m hn, fun i x v e1 e2 e3 => ?_⟩
    obtain ⟨u, r, l⟩ := hl i x v e1 e2 e3
    refine ⟨u, r, ?_⟩
    rcases l with l | ⟨k, c, e, z⟩
    · exact .inl l
    · exact .inr ⟨k, c, e, cellK x c e _ z⟩
  · obtain ⟨v, z⟩ := I.cell x c e
    exact ⟨v, cellK x c e v z⟩
  · obtain ⟨m, ⟨o, _, _, ho, _⟩, _⟩ := I.loc
    exact free _ o (fun z => (hch _ z).2.1 rfl) ho I.free
  · obtain ⟨v, o, ho, hd⟩ := I.cell x c e
    exact free c o (fun z => (hch c z).2.2.1 x c e rfl) ho (I.freeC x c e)
  · obtain ⟨e, n, ne, nf, d⟩ := I.pin p hp
    have nch : p.1 ∉ ch := fun z => (hch p.1 z).2.2.2 p hp rfl
    exact ⟨keep p.1 p.2 ne nf nch e n, free p.1 p.2 nch e n, ne, nf, d⟩
/-- .. where the frame's own object is kept too -/
theorem Inv.un {t' : Nat} (I : Inv X pins σ H s) (u : Un X.fs [] H H' s.heap h') (hok : HOk X.prog X.w H' h') : Inv X pins σ H' { s with heap := h', toks := t' } := by
  obtain ⟨m, ⟨o, es, ep, ho, r⟩, _⟩ := id I.loc
  obtain ⟨sl, hL⟩ := u.any ho I.free (by simp)
  exact I.step (g' := s.gens) (d' := s.drawn) (ch := []) (fun _ z => nomatch z) (fun b o _ hb _ e n => u.keep b o e n hb (by simp)) (fun b o _ hb _ e n => u.slot b o e n hb (by simp)) (fun b o _ e n => u.free b o e n (by simp)) (fun b o _ e => u.there b o e (by simp)) u.tups u.frzs u.tbls (fun m' hm => by
    obtain ⟨o', es', ep', ho', r'⟩ := hm
    rw [ho] at ho'; cases ho'
    exact ⟨_, es', ep', hL, r'⟩) hok I.bare
/-- behind a call (or a comprehension's block): the slots of this frame may have changed too, the records at ch may have turned -/
theorem Inv.call {g' : Array GenState} {t' : Nat} {d' : Drawn} {ch : List Addr} (I : Inv X pins σ H s) (u : Un (frs X.stack) ch H H' s.heap h') (hok : HOk X.prog X.w H' h') (hg : AllBare g')
    (hch : ∀ b ∈ ch, (b ∈ X.ex ∨ X.s₀.heap.objs.size ≤ b) ∧ b ≠ X.env.locals ∧ (∀ x c, X.env.cells.lookup x = some c → c ≠ b) ∧ ∀ p ∈ X.pn ++ pins, p.1 ≠ b) :
    Inv X pins σ H' { s with heap := h', gens := g', drawn := d', toks := t' } := by
  obtain ⟨m, ⟨o, es, ep, ho, r⟩, _⟩ := id I.loc
  obtain ⟨sl, hL⟩ := u.any ho I.free fun z => (hch _ z).2.1 rfl
  exact I.step (ch := ch) hch (fun b o hL hb hc e n => u.keep b o e n (fun z => (List.mem_cons.mp (I.stkSub b z)).elim hL hb) hc) (fun b o _ _ hc e n => u.any e n hc) (fun b o hc e n => u.free b o e n hc) (fun b o hc e => u.there b o e hc) u.tups u.frzs u.tbls (fun m' hm => by
    obtain ⟨o', es', ep', ho', r'⟩ := hm
    rw [ho] at ho'; cases ho'
    exact ⟨_, es', ep', hL, r'⟩) hok hg
/-- an untracked record of ours (an iterator) has turned -/
theorem Inv.turned {t' : Nat} {it : Addr} (I : Inv X pins σ H s) (k : ∀ b o, b ≠ it → s.heap.get? b = some o → h'.get? b = some o) (hn : H it = none) (hL : it ≠ X.env.locals)
    (h1 : it ∈ X.ex ∨ X.s₀.heap.objs.size ≤ it) (h2 : ∀ x c, X.env.cells.lookup x = some c → c ≠ it) (h3 : ∀ p ∈ X.pn ++ pins, p.1 ≠ it) : Inv X pins σ H { s with heap := h', toks := t' } := by
  have nit : ∀ b u, H b = some u → b ≠ it := fun b u e z => by rw [z, hn] at e; cases e
  refine I.step (g' := s.gens) (d' := s.drawn) (ch := [it]) (fun b hb => ?_) (fun b o _ _ hc e _ => k b o (fun z => hc (by simp [z])) e) (fun b o _ _ hc e _ => ⟨o.slots, k b o (fun z => hc (by simp [z])) e⟩) (fun _ _ _ _ n => n)
    (fun b o hc e => ⟨o, k b o (fun z => hc (by simp [z])) e⟩) (fun _ _ e => e) (fun _ _ _ e => e) (fun b ps e => ⟨#[], by rw [e]; simp⟩) (fun m hm => ?_) (fun b u e => ?_) I.bare
  · have e : b = it := by simpa using hb
    subst e
    exact ⟨h1, hL, h2, h3⟩
  · obtain ⟨o, es, ep, ho, r⟩ := hm
    exact ⟨o, es, ep, k _ o (Ne.symm hL) ho, r⟩
  · refine (I.hok b u e).stay (fun c v hc q => k c v ?_ q) (fun _ q => q) fun _ _ q => q
    rcases hc with z | z
    · rw [z]; exact nit b u e
    · exact nit c _ z
theorem Inv.tok (I : Inv X pins σ H s) (t : Nat) : Inv X pins σ H { s with toks := t } := I.un (h' := s.heap) (t' := t) Un.refl I.hok
/-- all objects kept -/
theorem Inv.kept {t' : Nat} (I : Inv X pins σ H s) (k : ∀ b u, s.heap.get? b = some u → h'.get? b = some u) : Inv X pins σ H { s with heap := h', toks := t' } := I.un (Un.kept k) (I.hok.kept k)
/-- a new object laid and tracked -/
theorem Inv.laid {a : Addr} {o : HO} {t' : Nat} (I : Inv X pins σ H s) (k : ∀ b u, s.heap.get? b = some u → h'.get? b = some u) (hp : s.heap.objs.size ≤ a) (new : ObjOk X.prog X.w (upd H a o) h' a o) :
    Inv X pins σ (upd H a o) { s with heap := h', toks := t' } := I.un (Un.laid k hp (I.hok.fresh hp)) (I.hok.laid k hp new)
/-- an object written -/
theorem Inv.write {x e : Addr} {o : HO} {t' : Nat} (I : Inv X pins σ H s) (mu : Mut (H x)) (he : e = x ∨ H e = some (.own x)) (k : ∀ b u, b ≠ e → s.heap.get? b = some u → h'.get? b = some u) (heo : ∃ u, h'.get? e = some u)
    (new : ObjOk X.prog X.w (upd H x o) h' x o) : Inv X pins σ (upd H x o) { s with heap := h', toks := t' } := I.un (Un.write mu he k heo) (I.hok.write mu he k heo new)
theorem Inv.pins_of {pins' : List (Addr × Obj)} (I : Inv X pins σ H s) (h : ∀ p ∈ pins', s.heap.get? p.1 = some p.2 ∧ H p.1 = none ∧ p.1 ≠ X.env.locals ∧ p.1 ∉ X.fs ∧ ∀ v, p.2.data ≠ .cell v) : Inv X pins' σ H s :=
  ⟨I.ok, I.os, I.bare, I.base, I.loc, I.cell, I.free, I.freeC, fun p hp => (List.mem_append.mp hp).elim (fun z => I.pin p (List.mem_append_left _ z)) (h p), I.hok, I.len⟩

theorem nodup_ix {N : List Str} (hN : N.Nodup) {i j : Nat} {x : Str} (a : N[i]? = some x) (b : N[j]? = some x) : i = j := by
  obtain ⟨h1, e1⟩ := List.getElem?_eq_some_iff.mp a
  obtain ⟨h2, e2⟩ := List.getElem?_eq_some_iff.mp b
  exact (List.getElem_inj hN).mp (e1.trans e2.symm)

/-- a name is stored; what changed -/
theorem store_ok2 {M : Model} {A : Around} {E : Value → Shared → Prop} {i : Nat} {x : Str} {v : V} {u : Value} {Q : Unit → Shared → Prop} (I : Inv X pins σ H s) (hN : X.N.Nodup) (hi : X.N[i]? = some x) (hx : Loc X.env.scope x) (r : RelV v u)
    (h : ∀ s', Inv X pins (σ.set i (some v)) H s' → (∃ a, Heap.SameBut a s.heap s'.heap ∧ (a = X.env.locals ∨ X.env.cells.lookup x = some a)) → Q () s') (hf : X.fn x = true ∨ X.env.scope.names.lookup x = some .local := by first | exact .inl rfl | exact .inr rfl | assumption) : wpAny M A (storeName X.env x u) Q E s := by
  obtain ⟨m, hn, hl⟩ := id I.loc
  have hcls : (X.env.scope.kind == .class || (X.env.scope.kind == .module && X.env.locals != X.env.globals)) = false := by rw [I.ok.kind]; rfl
  have hiσ : i < σ.length := by rw [I.len]; exact (List.getElem?_eq_some_iff.mp hi).1
  have cne := I.cne
  have tracked : ∀ {a : Addr} {h' : Heap}, (∃ o, s.heap.get? a = some o ∧ H a = none) → Heap.SameBut a s.heap h' → HOk X.prog X.w H h' := fun {a h'} ha hs b ob e => by
    obtain ⟨_, _, hfree⟩ := ha
    refine (I.hok b ob e).stay (fun c w' hc q => (hs.2 c ?_).trans q) (fun _ q => q) fun _ _ q => q
    rintro rfl
    rcases hc with rfl | hc
    · rw [hfree] at e; cases e
    · rw [hfree] at hc; cases hc
  rcases hx with hk | hk
  · refine wpAny_storeName_local hk hn (fun h' hn' hs => ?_) hcls
    obtain ⟨oL, _, _, hoL, _⟩ := id hn
    refine h _ ⟨I.ok, I.os, I.bare, ⟨fun b o e n hb hx => ?_, fun b o e n hb hx => ?_, I.base.free, fun b o e hx => ?_, I.base.tups, I.base.frzs, I.base.tbls⟩, ⟨_, hn', fun j y v' e1 e2 e3 => ?_⟩, fun y c e => ?_, I.free, I.freeC, fun p hp => ?_, tracked ⟨oL, hoL, I.free⟩ hs, by simpa using I.len⟩ ⟨_, hs, .inl rfl⟩
    · exact (hs.2 b (Nat.ne_of_lt (Nat.lt_of_lt_of_le (Heap.lt_size e) I.ok.above))).trans (I.base.keep b o e n hb hx)
    · obtain ⟨sl, e1⟩ := I.base.slot b o e n hb hx
      exact ⟨sl, (hs.2 b (Nat.ne_of_lt (Nat.lt_of_lt_of_le (Heap.lt_size e) I.ok.above))).trans e1⟩
    · obtain ⟨o', e1⟩ := I.base.there b o e hx
      exact ⟨o', (hs.2 b (Nat.ne_of_lt (Nat.lt_of_lt_of_le (Heap.lt_size e) I.ok.above))).trans e1⟩
    · by_cases hj : j = i
      · subst hj
        rw [hi] at e1; cases e1
        rw [List.getElem?_set_self hiσ] at e2
        cases e2
        exact ⟨u, r, .inl ⟨hk, by simp⟩⟩
      · rw [List.getElem?_set_ne (Ne.symm hj)] at e2
        obtain ⟨u', r', q⟩ := hl j y v' e1 e2 e3
        refine ⟨u', r', ?_⟩
        rcases q with ⟨k, e⟩ | ⟨k, c, e, z⟩
        · refine .inl ⟨k, ?_⟩
          have : y ≠ x := fun e => hj (nodup_ix hN e1 (e ▸ hi))
          simp [this, e]
        · exact .inr ⟨k, c, e, z.sameBut hs (cne y c e)⟩
    · obtain ⟨w', z⟩ := I.cell y c e
      exact ⟨w', z.sameBut hs (cne y c e)⟩
    · obtain ⟨e, n, ne, nf, d⟩ := I.pin p hp
      exact ⟨(hs.2 p.1 ne).trans e, n, ne, nf, d⟩
  · have hfn : X.fn x = true := by
      rcases hf with z | z
      · exact z
      · rw [z] at hk; cases hk
    obtain ⟨c, hc⟩ := I.ok.has x (.inl hk)
    obtain ⟨w', z⟩ := I.cell x c hc
    refine wpAny_storeName_cell I.ok.kind hk hc z (fun h' hc' hs => ?_)
    obtain ⟨oc, hoc, hocd⟩ := id z
    refine h { s with heap := h' } ⟨I.ok, I.os, I.bare, ⟨fun b o e n hb hx => ?_, fun b o e n hb hx => ?_, I.base.free, fun b o e hx => ?_, I.base.tups, I.base.frzs, I.base.tbls⟩, ⟨m, hn.sameBut hs (Ne.symm (cne x c hc)), fun j y v' e1 e2 e3 => ?_⟩, fun y c' e => ?_, I.free, I.freeC, fun p hp => ?_, tracked ⟨oc, hoc, I.freeC x c hc⟩ hs, by simpa using I.len⟩ ⟨c, hs, .inr hc⟩
    · exact (hs.2 b (Nat.ne_of_lt (Nat.lt_of_lt_of_le (Heap.lt_size e) (I.ok.cab x c hfn hc)))).trans (I.base.keep b o e n hb hx)
    · obtain ⟨sl, e1⟩ := I.base.slot b o e n hb hx
      exact ⟨sl, (hs.2 b (Nat.ne_of_lt (Nat.lt_of_lt_of_le (Heap.lt_size e) (I.ok.cab x c hfn hc)))).trans e1⟩
    · obtain ⟨o', e1⟩ := I.base.there b o e hx
      exact ⟨o', (hs.2 b (Nat.ne_of_lt (Nat.lt_of_lt_of_le (Heap.lt_size e) (I.ok.cab x c hfn hc)))).trans e1⟩
    · by_cases hj : j = i
      · subst hj
        rw [hi] at e1; cases e1
        rw [List.getElem?_set_self hiσ] at e2
        cases e2
        exact ⟨u, r, .inr ⟨.inl hk, c, hc, hc'⟩⟩
      · rw [List.getElem?_set_ne (Ne.symm hj)] at e2
        obtain ⟨u', r', q⟩ := hl j y v' e1 e2 e3
        refine ⟨u', r', ?_⟩
        rcases q with q | ⟨k, c', e, z'⟩
        · exact .inl q
        · refine .inr ⟨k, c', e, z'.sameBut hs ?_⟩
          rintro rfl
          exact hj (nodup_ix hN e1 (I.ok.inj _ _ _ e hc ▸ hi))
    · by_cases hcc : c' = c
      · subst hcc; exact ⟨_, hc'⟩
      · obtain ⟨w2, z2⟩ := I.cell y c' e
        exact ⟨w2, z2.sameBut hs hcc⟩
    · obtain ⟨e, n, ne, nf, d⟩ := I.pin p hp
      refine ⟨(hs.2 p.1 ?_).trans e, n, ne, nf, d⟩
      intro q
      rw [q, hoc] at e
      have q' : oc = p.2 := Option.some.inj e
      exact d w' (by rw [← q']; exact hocd)
theorem store_ok {M : Model} {A : Around} {E : Value → Shared → Prop} {i : Nat} {x : Str} {v : V} {u : Value} {Q : Unit → Shared → Prop} (I : Inv X pins σ H s) (hN : X.N.Nodup) (hi : X.N[i]? = some x) (hx : Loc X.env.scope x) (r : RelV v u)
    (h : ∀ s', Inv X pins (σ.set i (some v)) H s' → Q () s') (hf : X.fn x = true ∨ X.env.scope.names.lookup x = some .local := by first | exact .inl rfl | exact .inr rfl | assumption) : wpAny M A (storeName X.env x u) Q E s :=
  store_ok2 I hN hi hx r (fun s' I' _ => h s' I') hf
/-- behind a call or a block, the state as it is -/
theorem Inv.call' {s' : Shared} {ch : List Addr} (I : Inv X pins σ H s) (ho : s'.os = s.os) (u : Un (frs X.stack) ch H H' s.heap s'.heap) (hok : HOk X.prog X.w H' s'.heap) (hg : AllBare s'.gens)
    (hch : ∀ b ∈ ch, (b ∈ X.ex ∨ X.s₀.heap.objs.size ≤ b) ∧ b ≠ X.env.locals ∧ (∀ x c, X.env.cells.lookup x = some c → c ≠ b) ∧ ∀ p ∈ X.pn ++ pins, p.1 ≠ b) : Inv X pins σ H' s' := by
  obtain ⟨h', g', d', t', o'⟩ := s'
  have e : o' = s.os := ho
  subst e
  exact I.call (g' := g') (t' := t') (d' := d') u hok hg hch
end

/-! ### the judgements -/
/-- an exception: its class, its own dict's address (where it has one), the abstract heap behind it -/
noncomputable abbrev XK := Value → Option Addr → Hp → Prop
noncomputable abbrev St := List (Option V)
noncomputable abbrev VK := V → Hp → Prop
/-- an expression's reading; a test's; an argument list's -/
noncomputable abbrev TE := St → Hp → VK → Prop
noncomputable abbrev TT := St → Hp → (Bool → Hp → Prop) → Prop
noncomputable abbrev TA := St → Hp → (List V → Hp → Prop) → Prop
/-- what is wanted behind a statement -/
structure Ends where
  nx : St → Hp → Prop
  rt : VK
  bk : St → Hp → Prop := fun _ _ => False
  ct : St → Hp → Prop := fun _ _ => False
noncomputable abbrev TS := Ends → St → Hp → Prop

noncomputable def EP (X : Cx) (pins : List (Addr × Obj)) (σ : St) (Q : VK) (u : Value) (s' : Shared) : Prop := ∃ v H', Inv X pins σ H' s' ∧ RelV v u ∧ Q v H'
noncomputable def TP (X : Cx) (pins : List (Addr × Obj)) (σ : St) (Q : Bool → Hp → Prop) (b : Bool) (s' : Shared) : Prop := ∃ H', Inv X pins σ H' s' ∧ Q b H'
noncomputable def AP (X : Cx) (pins : List (Addr × Obj)) (σ : St) (Q : List V → Hp → Prop) (us : List Value) (s' : Shared) : Prop := ∃ vs H', Inv X pins σ H' s' ∧ Vals vs us ∧ Q vs H'
noncomputable def SP (X : Cx) (pins : List (Addr × Obj)) (D : Ends) (f : Flow) (s' : Shared) : Prop :=
  match f with
  | .next => ∃ σ' H', Inv X pins σ' H' s' ∧ D.nx σ' H'
  | .brk => ∃ σ' H', Inv X pins σ' H' s' ∧ D.bk σ' H'
  | .cont => ∃ σ' H', Inv X pins σ' H' s' ∧ D.ct σ' H'
  | .ret u => ∃ v σ' H', Inv X pins σ' H' s' ∧ RelV v u ∧ D.rt v H'

noncomputable def PE (X : Cx) (e : Expr) (t : TE) : Prop :=
  ∀ (pins : List (Addr × Obj)) (s : Shared) (σ : St) (H : Hp) (Q : VK), Inv X pins σ H s → t σ H Q → wpAny (model X.prog X.w) X.A (eval e X.env) (EP X pins σ Q) X.xe s
noncomputable def PT (X : Cx) (e : Expr) (t : TT) : Prop :=
  ∀ (pins : List (Addr × Obj)) (s : Shared) (σ : St) (H : Hp) (Q : Bool → Hp → Prop), Inv X pins σ H s → t σ H Q → wpAny (model X.prog X.w) X.A (isTrue e X.env (eval e X.env)) (TP X pins σ Q) X.xe s
/-- a test whatever its 'whole' is (and, or) -/
noncomputable def PW (X : Cx) (e : Expr) (t : TT) : Prop :=
  ∀ (whole : Sem Value) (pins : List (Addr × Obj)) (s : Shared) (σ : St) (H : Hp) (Q : Bool → Hp → Prop), Inv X pins σ H s → t σ H Q → wpAny (model X.prog X.w) X.A (isTrue e X.env whole) (TP X pins σ Q) X.xe s
theorem PW.pt {X : Cx} {e : Expr} {t : TT} (h : PW X e t) : PT X e t := h _
/-- an argument list (no star), from the left -/
noncomputable def PA (X : Cx) (es : List Expr) (t : TA) : Prop :=
  ∀ (pos : Pos) (pins : List (Addr × Obj)) (s : Shared) (σ : St) (H : Hp) (Q : List V → Hp → Prop), Inv X pins σ H s → t σ H Q → wpAny (model X.prog X.w) X.A (spliced (backTo pos (starEach es X.env))) (AP X pins σ Q) X.xe s
noncomputable def PS (X : Cx) (st : Stmt) (t : TS) : Prop :=
  ∀ (pins : List (Addr × Obj)) (s : Shared) (σ : St) (H : Hp) (D : Ends), Inv X pins σ H s → t D σ H → wpAny (model X.prog X.w) X.A (exec st X.env) (SP X pins D) X.xe s
noncomputable def PSs (X : Cx) (st : List Stmt) (t : TS) : Prop :=
  ∀ (pins : List (Addr × Obj)) (s : Shared) (σ : St) (H : Hp) (D : Ends), Inv X pins σ H s → t D σ H → wpAny (model X.prog X.w) X.A (execs st X.env) (SP X pins D) X.xe s
/-- weaken the end -/
theorem thn {α : Type} {t : Sem α} {Q Q' : α → Shared → Prop} {M : Model} {A : Around} {E : Value → Shared → Prop} {s : Shared} (h : wpAny M A t Q E s) (hQ : ∀ a s, Q a s → Q' a s) : wpAny M A t Q' E s := wpAny_mono h hQ fun _ _ x => x
end L2

namespace L2
open PySem PySem.Spec PyProof.Rows
section
variable {X : Cx}

/-- two expressions in a row -/
theorem bin {a b : Expr} {ta tb : TE} (ha : PE X a ta) (hb : PE X b tb) {pins : List (Addr × Obj)} {s : Shared} {σ : St} {H : Hp} {R : V → V → Hp → Prop} (I : Inv X pins σ H s) (h : ta σ H fun x H1 => tb σ H1 fun y H2 => R x y H2)
    {α : Type} {Q : α → Shared → Prop} {f : Value → Value → Sem α}
    (hf : ∀ v u s2 x y H2, Inv X pins σ H2 s2 → RelV x v → RelV y u → R x y H2 → wpAny (model X.prog X.w) X.A (f v u) Q X.xe s2) :
    wpAny (model X.prog X.w) X.A (eval a X.env) (fun v s₁ => wpAny (model X.prog X.w) X.A (eval b X.env) (fun u s₂ => wpAny (model X.prog X.w) X.A (f v u) Q X.xe s₂) X.xe s₁) X.xe s := by
  refine thn (ha pins s σ H _ I h) fun v s1 ⟨x, H1, I1, r1, q1⟩ => ?_
  refine thn (hb pins s1 σ H1 _ I1 q1) fun u s2 ⟨y, H2, I2, r2, q2⟩ => ?_
  exact hf v u s2 x y H2 I2 r1 r2 q2

/-! ### names and constants -/
noncomputable def tVar (i : Nat) : TE := fun σ H Q => ∃ v, σ[i]? = some (some v) ∧ Q v H
noncomputable def tC (v : V) : TE := fun _ H Q => Q v H
theorem pe_var {i : Nat} {x : Str} {pos : Pos} (hN : X.N[i]? = some x) (hv : Vis X.env.scope x) (hd : (x == ("__debug__" : Str)) = false := by decide) (hcd : (x == ("__classdict__" : Str)) = false := by decide) : PE X (.Name x pos) (tVar i) := by
  intro pins s σ H Q I h
  obtain ⟨v, e, h⟩ := h
  obtain ⟨m, hn, hl⟩ := I.loc
  obtain ⟨u, r, l⟩ := hl i x v hN e hv
  have fin : EP X pins σ Q u s := ⟨v, H, I, r, h⟩
  rcases l with ⟨hk, hm⟩ | ⟨hk, c, hc, hcell⟩
  · exact wpAny_Name (wpAny_loadName_local I.ok.kind hk hn hm fin) hd
  · rcases hk with hk | hk
    · exact wpAny_Name (wpAny_loadName_cell I.ok.kind hk hc hcell fin) hd
    · exact wpAny_Name (wpAny_loadName_free I.ok.kind hk hc hcell fin hcd) hd
theorem pe_int {i j pos} : PE X (.Constant (.int i) j pos) (tC (.int i)) := fun _ _ _ H _ I h => wpAny_Constant_int ⟨.int i, H, I.tok _, ⟨_, rfl⟩, h⟩
theorem pe_bl {b j pos} : PE X (.Constant (.bool b) j pos) (tC (.bl b)) := fun _ _ _ H _ I h => Constant_bool ⟨.bl b, H, I, rfl, h⟩
theorem pe_non {j pos} : PE X (.Constant .none j pos) (tC .non) := fun _ _ _ H _ I h => Constant_none ⟨.non, H, I, rfl, h⟩
theorem pe_str {x j pos} : PE X (.Constant (.str x) j pos) (tC (.str x)) := fun _ _ _ H _ I h => Calls.Constant_str ⟨.str x, H, I.tok _, ⟨_, rfl⟩, h⟩

/-- a global name of the def -/
noncomputable def Gl (X : Cx) (x : Str) : Prop := X.env.kindOf x = some .globalImplicit
theorem ld_glob {E : Value → Shared → Prop} {pins : List (Addr × Obj)} {s : Shared} {σ : St} {H : Hp} {x : Str} {u : Value} {pos : Pos} {Q : Value → Shared → Prop} (I : Inv X pins σ H s) (hg : Gl X x) (hm : X.mg x = some u) (h : Q u s)
    (hd : (x == ("__debug__" : Str)) = false := by decide) : wpAny (model X.prog X.w) X.A (eval (.Name x pos) X.env) Q E s :=
  Calls.Name_function_global I.ok.kind hg (Calls.loadGlobal_global (by rw [I.ok.glob]; exact I.mod.glob.keeps I.bk) hm h) hd
theorem ld_blt {E : Value → Shared → Prop} {pins : List (Addr × Obj)} {s : Shared} {σ : St} {H : Hp} {x : Str} {u : Value} {pos : Pos} {Q : Value → Shared → Prop} (I : Inv X pins σ H s) (hg : Gl X x) (hm : X.mg x = none) (hv : bootBuiltins x = some u) (h : Q u s)
    (hn : x ≠ "__name__" := by decide) (hd : (x == ("__debug__" : Str)) = false := by decide) : wpAny (model X.prog X.w) X.A (eval (.Name x pos) X.env) Q E s := by
  obtain ⟨mb, h1, h2⟩ := I.mod.blt
  exact Calls.Name_function_global I.ok.kind hg (Calls.loadGlobal_builtin (by rw [I.ok.glob]; exact I.mod.glob.keeps I.bk) hm (by rw [I.ok.blt]; exact h1.keeps I.bk) ((h2 x hn).trans hv) h) hd
/-- a module's constant, a class, a function, as a value -/
theorem pe_glob {x : Str} {v : V} {u : Value} {pos : Pos} (hg : Gl X x) (hm : X.mg x = some u) (r : RelV v u) (hd : (x == ("__debug__" : Str)) = false := by decide) : PE X (.Name x pos) (tC v) :=
  fun _ _ _ H _ I h => ld_glob I hg hm ⟨v, H, I, r, h⟩ hd
theorem pe_bltn {x : Str} {v : V} {u : Value} {pos : Pos} (hg : Gl X x) (hm : X.mg x = none) (hv : bootBuiltins x = some u) (r : RelV v u) (hn : x ≠ "__name__" := by decide) (hd : (x == ("__debug__" : Str)) = false := by decide) : PE X (.Name x pos) (tC v) :=
  fun _ _ _ H _ I h => ld_blt I hg hm hv ⟨v, H, I, r, h⟩ hn hd

/-! ### arithmetic -/
/-- two ints -/
noncomputable def t2I (ta tb : TE) (k : Int → Int → Hp → Prop) : St → Hp → Prop := fun σ H => ta σ H fun x H1 => tb σ H1 fun y H2 => ∃ i j, x = .int i ∧ y = .int j ∧ k i j H2
variable {a b : Expr} {ta tb : TE} {pos : Pos}
/-! ### comparisons -/
noncomputable def PC (X : Cx) (op : CmpOp) (a b : Expr) (t : TE) : Prop :=
  ∀ (pins : List (Addr × Obj)) (s : Shared) (σ : St) (H : Hp) (Q : VK), Inv X pins σ H s → t σ H Q →
    wpAny (model X.prog X.w) X.A (eval a X.env) (fun v s₁ => wpAny (model X.prog X.w) X.A (eval b X.env) (fun u s₂ => wpAny (model X.prog X.w) X.A (compareOp op v u) (EP X pins σ Q) X.xe s₂) X.xe s₁) X.xe s
theorem nobehind (b : Expr) {op : CmpOp} (h : op ≠ .In) (h2 : op ≠ .NotIn) : behindInMarks op b = false := by
  have e1 : (op == CmpOp.In) = false := by cases op <;> first | rfl | exact absurd rfl h
  have e2 : (op == CmpOp.NotIn) = false := by cases op <;> first | rfl | exact absurd rfl h2
  cases b <;> simp [behindInMarks, e1, e2]
noncomputable def tCmp (p : Int → Int → Bool) (ta tb : TE) : TE := fun σ H Q => t2I ta tb (fun i j H2 => Q (.bl (p i j)) H2) σ H
noncomputable abbrev tLe : TE → TE → TE := tCmp fun i j => decide (i ≤ j)
/-- a comparison of two ints, by its rule -/
theorem pc_int {op : CmpOp} {p : Int → Int → Bool} (ha : PE X a ta) (hb : PE X b tb)
    (rule : ∀ (i j : Int) (t u : Tok) (Q : Value → Shared → Prop) (s : Shared), Q (.bool (p i j)) s → wpAny (model X.prog X.w) X.A (compareOp op (.int i t) (.int j u)) Q X.xe s) : PC X op a b (tCmp p ta tb) := by
  intro pins s σ H Q I h
  refine bin ha hb I h fun v u s2 x y H2 I2 rx ry q => ?_
  obtain ⟨i, j, rfl, rfl, q⟩ := q
  obtain ⟨t, rfl⟩ := rx
  obtain ⟨t', rfl⟩ := ry
  exact rule i j t t' _ s2 ⟨.bl _, H2, I2, rfl, q⟩
theorem pc_le (ha : PE X a ta) (hb : PE X b tb) : PC X .LtE a b (tLe ta tb) := pc_int ha hb fun _ _ _ _ _ _ h => le_int h
/-- a comparison as a value, as a test -/
noncomputable def tB (t : TE) : TT := fun σ H Q => t σ H fun x H1 => ∃ c, x = .bl c ∧ Q c H1
theorem pt_cmp {op : CmpOp} {t : TE} (h : PC X op a b t) (h1 : behindInMarks op b = false := by first | exact nobehind _ (by decide) (by decide) | rfl) : PT X (.Compare a [op] [b] pos) (tB t) := by
  intro pins s σ H Q I hw
  refine wpAny_isTrue_Compare1 (thn (h pins s σ H _ I hw) fun v s1 h1 => thn h1 fun u s2 h2 => thn h2 fun c s3 ⟨x, H1, I1, r1, q1⟩ => ?_) h1
  obtain ⟨d, rfl, q⟩ := q1
  cases r1
  exact wpAny_truthy_bool ⟨H1, I1, q⟩
/-- an expression whose value is a bool, as a test -/
theorem pt_val {e : Expr} {t : TE} (h : PE X e t) (he : ∀ whole, isTrue e X.env whole = (do let v ← whole; standAt e.pos; holding [v] (truthy v)) := by intro _; rfl) : PT X e (tB t) := by
  intro pins s σ H Q I hw
  refine isTrue_plain (thn (h pins s σ H _ I hw) fun v s1 ⟨x, H1, I1, r1, q1⟩ => ?_) (he _)
  obtain ⟨d, rfl, q⟩ := q1
  cases r1
  exact wpAny_truthy_bool ⟨H1, I1, q⟩

/-! ### and, or, not -/
variable {tA tB' : TT} {rest : List Expr}
noncomputable def tAnd (t u : TT) : TT := fun σ H Q => t σ H fun c H1 => if c = true then u σ H1 Q else Q false H1
noncomputable def tOr (t u : TT) : TT := fun σ H Q => t σ H fun c H1 => if c = true then Q true H1 else u σ H1 Q
noncomputable def tNot (t : TT) : TT := fun σ H Q => t σ H fun c H1 => Q (!c) H1
theorem pw_and1 (ha : PT X a tA) : PW X (.BoolOp .And [a] pos) tA := by
  intro wh pins s σ H Q I h
  refine isTrue_and (thn (ha pins s σ H Q I h) fun c s1 e => ?_)
  cases c with
  | true => exact isTrue_and_nil e
  | false => exact e
theorem pw_or1 (ha : PT X a tA) : PW X (.BoolOp .Or [a] pos) tA := by
  intro wh pins s σ H Q I h
  refine isTrue_or (thn (ha pins s σ H Q I h) fun c s1 e => ?_)
  cases c with
  | false => exact isTrue_or_nil e
  | true => exact e
theorem pw_and (ha : PT X a tA) (hb : PW X (.BoolOp .And (b :: rest) pos) tB') : PW X (.BoolOp .And (a :: b :: rest) pos) (tAnd tA tB') := by
  intro wh pins s σ H Q I h
  refine isTrue_and (thn (ha pins s σ H _ I h) fun c s1 ⟨H1, I1, q1⟩ => ?_)
  cases c with
  | true => exact hb wh pins s1 σ H1 Q I1 q1
  | false => exact ⟨H1, I1, q1⟩
theorem pw_or (ha : PT X a tA) (hb : PW X (.BoolOp .Or (b :: rest) pos) tB') : PW X (.BoolOp .Or (a :: b :: rest) pos) (tOr tA tB') := by
  intro wh pins s σ H Q I h
  refine isTrue_or (thn (ha pins s σ H _ I h) fun c s1 ⟨H1, I1, q1⟩ => ?_)
  cases c with
  | true => exact ⟨H1, I1, q1⟩
  | false => exact hb wh pins s1 σ H1 Q I1 q1
theorem pt_not (ha : PT X a tA) : PT X (.UnaryOp .Not a pos) (tNot tA) := by
  intro pins s σ H Q I h
  exact isTrue_not (ha pins s σ H (fun c H1 => Q (!c) H1) I h)
/-- .. as values (bools) -/
noncomputable def tAndV (ta tb : TE) : TE := fun σ H Q => ta σ H fun x H1 => ∃ c, x = .bl c ∧ if c = true then tb σ H1 Q else Q (.bl false) H1
theorem pe_one {op} {t : TE} (h : PE X a t) : PE X (.BoolOp op [a] pos) t := fun pins s σ H Q I hw => BoolOp_one (h pins s σ H Q I hw)
theorem pe_and (ha : PE X a ta) (hb : PE X (.BoolOp .And (b :: rest) pos) tb) : PE X (.BoolOp .And (a :: b :: rest) pos) (tAndV ta tb) := by
  intro pins s σ H Q I h
  refine BoolOp_and (thn (ha pins s σ H _ I h) fun v s1 ⟨x, H1, I1, r1, q1⟩ => ?_)
  obtain ⟨c, rfl, q1⟩ := q1
  cases r1
  refine wpAny_truthy_bool ?_
  cases c with
  | true => exact hb pins s1 σ H1 Q I1 q1
  | false => exact ⟨.bl false, H1, I1, rfl, q1⟩
/-- a if t else b -/
noncomputable def tIf (t : TT) (ta tb : TE) : TE := fun σ H Q => t σ H fun c H1 => if c = true then ta σ H1 Q else tb σ H1 Q
theorem pe_ifExp {c : Expr} (hc : PT X c tA) (ha : PE X a ta) (hb : PE X b tb) : PE X (.IfExp c a b pos) (tIf tA ta tb) := by
  intro pins s σ H Q I h
  refine wpAny_IfExp (thn (hc pins s σ H _ I h) fun d s1 ⟨H1, I1, q1⟩ => ?_)
  cases d with
  | true => exact ha pins s1 σ H1 Q I1 q1
  | false => exact hb pins s1 σ H1 Q I1 q1
end
end L2

namespace L2
open PySem PySem.Spec PyProof.Rows

/-! ### a list, a tuple that is read: tracked, frozen, or an object of the module -/
noncomputable def SqL (K : PySem.W.Frag) (H : Hp) (a : Addr) (xs : List V) : Prop :=
  Rd H a (.lst xs) ∨
    ∃ (o : Obj) (its : Array Value) (n : Nat), K.lookup a = some o ∧ o.cls = .type "list" ∧ o.dict = none ∧ o.data = .seq its n ∧ its.size ≤ sizeLine ∧ Vals xs its.toList
noncomputable def SqT (K : PySem.W.Frag) (H : Hp) (a : Addr) (xs : List V) : Prop :=
  Rd H a (.tup xs) ∨
    ∃ (o : Obj) (its : Array Value) (n : Nat), K.lookup a = some o ∧ o.cls = .type "tuple" ∧ o.data = .seq its n ∧ its.size ≤ sizeLine ∧ Vals xs its.toList
noncomputable def absV : Value → Option V
  | .none => some .non
  | .bool b => some (.bl b)
  | .int i _ => some (.int i)
  | .str x _ => some (.str x)
  | .bytes b _ => some (.byt b)
  | .float b _ => some (.flt b)
  | .ref a => some (.ref a)
  | .type n => some (.ty n)
  | _ => none
theorem RelV.abs {x : V} {u : Value} (r : RelV x u) : absV u = some x := by
  cases x with
  | non => cases r; rfl
  | bl _ => cases r; rfl
  | int _ => obtain ⟨t, rfl⟩ := r; rfl
  | str _ => obtain ⟨t, rfl⟩ := r; rfl
  | byt _ => obtain ⟨t, rfl⟩ := r; rfl
  | flt _ => obtain ⟨t, rfl⟩ := r; rfl
  | ref _ => cases r; rfl
  | ty _ => cases r; rfl
theorem RelV.inj {x y : V} {u : Value} (r : RelV x u) (q : RelV y u) : x = y := Option.some.inj (r.abs.symm.trans q.abs)
theorem Vals.inj : ∀ {xs ys : List V} {us : List Value}, Vals xs us → Vals ys us → xs = ys
  | _, _, _, .nil, .nil => rfl
  | _, _, _, .cons r t, .cons r' t' => by rw [r.inj r', Vals.inj t t']
section
variable {X : Cx} {pins : List (Addr × Obj)} {σ : St} {H : Hp} {s : Shared} {a : Addr} {xs ys : List V}
theorem SqL.of {K : PySem.W.Frag} (h : H a = some (.lst xs)) : SqL K H a xs := .inl (.inl h)
theorem SqT.of {K : PySem.W.Frag} (h : H a = some (.tup xs)) : SqT K H a xs := .inl (.inl h)
theorem Inv.list (I : Inv X pins σ H s) (h : SqL X.K H a xs) : ∃ its : List Value, Vals xs its ∧ PlainL s.heap a its.toArray ∧ xs.length ≤ sizeLine := by
  rcases h with h | ⟨o, its, n, hk, hc, hd, hs, hz, r⟩
  · obtain ⟨z, its, n, r, e⟩ := h.ok I.hok
    exact ⟨its, r, ⟨_, n, e, rfl, rfl, rfl⟩, z⟩
  · refine ⟨its.toList, r, ⟨o, n, I.kIn a o hk, hc, hd, by simpa using hs⟩, ?_⟩
    have e := r.length
    simp only [Array.length_toList] at e
    omega
theorem Inv.tuple (I : Inv X pins σ H s) (h : SqT X.K H a xs) : ∃ its : List Value, Vals xs its ∧ IsTup s.heap a its.toArray ∧ xs.length ≤ sizeLine := by
  rcases h with h | ⟨o, its, n, hk, hc, hs, hz, r⟩
  · obtain ⟨z, its, r, p⟩ := h.ok I.hok
    exact ⟨its, r, p, z⟩
  · refine ⟨its.toList, r, ⟨o, I.kIn a o hk, hc, n, by simpa using hs⟩, ?_⟩
    have e := r.length
    simp only [Array.length_toList] at e
    omega
theorem Inv.list_inj (I : Inv X pins σ H s) (h : SqL X.K H a xs) (h' : SqL X.K H a ys) : xs = ys := by
  obtain ⟨its, r, ⟨o, n, e, _, _, d⟩, _⟩ := I.list h
  obtain ⟨its', r', ⟨o', n', e', _, _, d'⟩, _⟩ := I.list h'
  rw [e] at e'; cases e'
  rw [d] at d'
  injection d' with d1 _
  have : its = its' := by simpa using congrArg Array.toList d1
  subst this
  exact r.inj r'
theorem Inv.tuple_inj (I : Inv X pins σ H s) (h : SqT X.K H a xs) (h' : SqT X.K H a ys) : xs = ys := by
  obtain ⟨its, r, ⟨o, e, _, n, d⟩, _⟩ := I.tuple h
  obtain ⟨its', r', ⟨o', e', _, n', d'⟩, _⟩ := I.tuple h'
  rw [e] at e'; cases e'
  rw [d] at d'
  injection d' with d1 _
  have : its = its' := by simpa using congrArg Array.toList d1
  subst this
  exact r.inj r'
end

/-! ### another wish about exceptions -/
noncomputable abbrev Cx.wish (X : Cx) (E : Value → Shared → Prop) : Cx := { X with xe := E }
/-- no exception leaves -/
noncomputable abbrev Cx.nox (X : Cx) : Cx := X.wish fun _ _ => False
theorem Cx.Ok.wish {X : Cx} (ok : X.Ok) (E : Value → Shared → Prop) : (X.wish E).Ok :=
  ⟨ok.mod, ok.kind, ok.glob, ok.blt, ok.above, ok.inj, ok.has, ok.cab, ok.hd, ok.frames, ok.stk, ok.exf, ok.bs, ok.bsz, ok.noex, ok.exfs, ok.funs, ok.frf⟩
theorem Cx.Ok.unwish {X : Cx} {E : Value → Shared → Prop} (ok : (X.wish E).Ok) : X.Ok :=
  ⟨ok.mod, ok.kind, ok.glob, ok.blt, ok.above, ok.inj, ok.has, ok.cab, ok.hd, ok.frames, ok.stk, ok.exf, ok.bs, ok.bsz, ok.noex, ok.exfs, ok.funs, ok.frf⟩
section
variable {X : Cx} {pins : List (Addr × Obj)} {σ : St} {H : Hp} {s : Shared} {E : Value → Shared → Prop}
theorem Inv.wish (I : Inv X pins σ H s) (E : Value → Shared → Prop) : Inv (X.wish E) pins σ H s := ⟨I.ok.wish E, I.os, I.bare, I.base, I.loc, I.cell, I.free, I.freeC, I.pin, I.hok, I.len⟩
theorem Inv.unwish (I : Inv (X.wish E) pins σ H s) : Inv X pins σ H s := ⟨I.ok.unwish, I.os, I.bare, I.base, I.loc, I.cell, I.free, I.freeC, I.pin, I.hok, I.len⟩
theorem SP.unwish {D : Ends} {f : Flow} {s' : Shared} (h : SP (X.wish E) pins D f s') : SP X pins D f s' := by
  cases f with
  | next => obtain ⟨σ', H', I, q⟩ := h; exact ⟨σ', H', I.unwish, q⟩
  | brk => obtain ⟨σ', H', I, q⟩ := h; exact ⟨σ', H', I.unwish, q⟩
  | cont => obtain ⟨σ', H', I, q⟩ := h; exact ⟨σ', H', I.unwish, q⟩
  | ret u => obtain ⟨v, σ', H', I, r, q⟩ := h; exact ⟨v, σ', H', I.unwish, r, q⟩
theorem PE.nox {e : Expr} {t : TE} (h : PE X.nox e t) : PE X e t := fun pins s σ H Q I hw =>
  wpAny_mono (h pins s σ H Q (I.wish _) hw) (fun _ _ ⟨v, H', I', r, q⟩ => ⟨v, H', I'.unwish, r, q⟩) fun _ _ z => False.elim z
theorem PSs.nox {st : List Stmt} {t : TS} (h : PSs X.nox st t) : PSs X st t := fun pins s σ H D I hw =>
  wpAny_mono (h pins s σ H D (I.wish _) hw) (fun _ _ q => q.unwish) fun _ _ z => False.elim z
end

/-! ### blocks and small statements -/
section
variable {X : Cx} {st : Stmt} {rest : List Stmt} {t u : TS} {e : Expr} {te : TE} {pos : Pos}
noncomputable def tNext : TS := fun D σ H => D.nx σ H
noncomputable def tSeq (t u : TS) : TS := fun D σ H => t { D with nx := u D } σ H
theorem pss_nil : PSs X [] tNext := fun _ _ σ H _ I h => wpAny_execs_nil ⟨σ, H, I, h⟩
theorem pss_cons (h1 : PS X st t) (h2 : PSs X rest u) : PSs X (st :: rest) (tSeq t u) := by
  intro pins s σ H D I h
  refine wpAny_execs_cons (thn (h1 pins s σ H { D with nx := u D } I h) fun f s1 q => ?_)
  cases f with
  | next =>
    obtain ⟨σ', H', I', q⟩ := q
    exact h2 pins s1 σ' H' D I' q
  | ret v => exact q
  | brk => exact q
  | cont => exact q
theorem pss_one (h1 : PS X st t) : PSs X [st] t := by
  intro pins s σ H D I h
  refine wpAny_execs_cons (thn (h1 pins s σ H D I h) fun f s1 q => ?_)
  cases f with
  | next => exact wpAny_execs_nil q
  | ret v => exact q
  | brk => exact q
  | cont => exact q
noncomputable def tCont : TS := fun D σ H => D.ct σ H
theorem ps_continue : PS X (.Continue pos) tCont := fun _ _ σ H _ I h => wpAny_Continue ⟨σ, H, I, h⟩
/-- in a def's body nothing is shown -/
theorem Inv.quiet {pins : List (Addr × Obj)} {σ : St} {H : Hp} {s : Shared} (I : Inv X pins σ H s) : interactive X.env = false := by simp [interactive, I.ok.kind]
/-- an expression whose value is dropped -/
noncomputable def tDrop (te : TE) : TS := fun D σ H => te σ H fun _ H1 => D.nx σ H1
theorem ps_expr (he : PE X e te) (hs : swapsWith e none pos.line X.env = pure false := by rfl) : PS X (.Expr e pos) (tDrop te) := by
  intro pins s σ H D I h
  exact wpAny_Expr_any (thn (he pins s σ H _ I h) fun v s1 ⟨x, H1, I1, r1, q1⟩ => ⟨σ, H1, I1, q1⟩) I.quiet hs
noncomputable def tRet (te : TE) : TS := fun D σ H => te σ H D.rt
theorem ps_ret (he : PE X e te) : PS X (.Return (some e) pos) (tRet te) := by
  intro pins s σ H D I h
  exact wpAny_Return_some (thn (he pins s σ H _ I h) fun v s1 ⟨x, H1, I1, r1, q1⟩ => ⟨x, σ, H1, I1, r1, q1⟩)
noncomputable def tIfS (c : TT) (t u : TS) : TS := fun D σ H => c σ H fun b H1 => if b = true then t D σ H1 else u D σ H1
theorem ps_if {c : Expr} {a b : List Stmt} {tc : TT} (hc : PT X c tc) (ha : PSs X a t) (hb : PSs X b u) : PS X (.If c a b pos) (tIfS tc t u) := by
  intro pins s σ H D I h
  refine wpAny_If (thn (hc pins s σ H _ I h) fun d s1 ⟨H1, I1, q1⟩ => ?_)
  cases d with
  | true => exact ha pins s1 σ H1 D I1 q1
  | false => exact hb pins s1 σ H1 D I1 q1
/-- code that the proof never comes to -/
noncomputable def tNever : TS := fun _ _ _ => False
theorem ps_never : PS X st tNever := fun _ _ _ _ _ _ h => h.elim
theorem pss_never {sts : List Stmt} : PSs X sts tNever := fun _ _ _ _ _ _ h => h.elim
end

/-! ### targets -/
noncomputable abbrev TG := V → St → Hp → (St → Hp → Prop) → Prop
noncomputable abbrev TGs := List V → St → Hp → (St → Hp → Prop) → Prop
noncomputable def PG (X : Cx) (target : Expr) (t : TG) : Prop :=
  ∀ (pins : List (Addr × Obj)) (s : Shared) (σ : St) (H : Hp) (v : V) (u : Value) (Q : St → Hp → Prop), Inv X pins σ H s → RelV v u → t v σ H Q →
    wpAny (model X.prog X.w) X.A (assign target X.env u) (fun _ s' => ∃ σ' H', Inv X pins σ' H' s' ∧ Q σ' H') X.xe s
/-- several targets, one after another -/
noncomputable def PGs (X : Cx) (ts : List Expr) (t : TGs) : Prop :=
  ∀ (pins : List (Addr × Obj)) (s : Shared) (σ : St) (H : Hp) (vs : List V) (us : List Value) (Q : St → Hp → Prop), Inv X pins σ H s → Vals vs us → t vs σ H Q →
    wpAny (model X.prog X.w) X.A (assignInOrder ((assignEach ts X.env).map (·.2)) us) (fun _ s' => ∃ σ' H', Inv X pins σ' H' s' ∧ Q σ' H') X.xe s
/-- o[i] = v, by values -/
noncomputable abbrev TSet := V → V → V → Hp → (Hp → Prop) → Prop
noncomputable def PSet (X : Cx) (t : TSet) : Prop :=
  ∀ (pins : List (Addr × Obj)) (s : Shared) (σ : St) (H : Hp) (o i v : V) (ov iv u : Value) (Q : Hp → Prop), Inv X pins σ H s → RelV o ov → RelV i iv → RelV v u → t o i v H Q →
    wpAny (model X.prog X.w) X.A (setItem ov iv u) (fun _ s' => ∃ H', Inv X pins σ H' s' ∧ Q H') X.xe s
section
variable {X : Cx} {pos : Pos}
noncomputable def gName (i : Nat) : TG := fun v σ H Q => Q (σ.set i (some v)) H
theorem pg_name {i : Nat} {x : Str} (hN : X.N.Nodup) (hi : X.N[i]? = some x) (hx : Loc X.env.scope x) (hf : X.fn x = true ∨ X.env.scope.names.lookup x = some .local := by first | exact .inl rfl | exact .inr rfl | assumption) : PG X (.Name x pos) (gName i) := by
  intro pins s σ H v u Q I r h
  exact wpAny_assign_Name (store_ok I hN hi hx r (fun s' I' => ⟨_, H, I', h⟩) hf)
noncomputable def gNil : TGs := fun vs σ H Q => vs = [] ∧ Q σ H
noncomputable def gCons (t : TG) (u : TGs) : TGs := fun vs σ H Q => ∃ v r, vs = v :: r ∧ t v σ H fun σ' H' => u r σ' H' Q
theorem pgs_nil : PGs X [] gNil := by
  intro pins s σ H vs us Q I r h
  obtain ⟨e, h⟩ := h
  subst e
  cases r
  exact assignInOrder_nil ⟨σ, H, I, h⟩
theorem pgs_cons {e : Expr} {es : List Expr} {t : TG} {u : TGs} (h1 : PG X e t) (h2 : PGs X es u)
    (hs : (assignEach (e :: es) X.env).map (·.2) = assign e X.env :: (assignEach es X.env).map (·.2) := by rfl) : PGs X (e :: es) (gCons t u) := by
  intro pins s σ H vs us Q I r h
  obtain ⟨v, vr, e1, h⟩ := h
  subst e1
  cases r with
  | cons r rr =>
    rw [hs]
    refine assignInOrder_cons (thn (h1 pins s σ H _ _ _ I r h) fun _ s1 ⟨σ1, H1, I1, q1⟩ => ?_)
    exact h2 pins s1 σ1 H1 _ _ Q I1 rr q1
/-- (a, b, ..) = a tuple of that length -/
noncomputable def gTup (K : PySem.W.Frag) (n : Nat) (t : TGs) : TG := fun v σ H Q => ∃ a xs, v = .ref a ∧ SqT K H a xs ∧ xs.length = n ∧ t xs σ H Q
theorem pg_tup {es : List Expr} {k : Nat} {t : TGs} {n : Nat} (hc : X.calm = true) (h : PGs X es t)
    (hn : (assignEach es X.env).length = n := by rfl) (hst : (assignEach es X.env).findIdx? (·.1) = none := by rfl) : PG X (.Tuple es k pos) (gTup X.K n t) := by
  intro pins s σ H v u Q I r hw
  obtain ⟨a, xs, e1, hq, hl, hw⟩ := hw
  subst e1
  cases r
  obtain ⟨its, rv, ht, hz⟩ := I.tuple hq
  refine assign_Tuple_tuple (I.ok.hd hc) ht (by simp [hn, ← hl, rv.length]) hst fun h' hx => ?_
  have I1 : Inv X pins σ H { s with heap := h' } := I.kept (t' := s.toks) fun b o e => hx b o (Nat.ne_of_lt (Heap.lt_size e)) e
  exact h pins _ σ H xs _ Q I1 (by simpa using rv) hw
/-- o[i] = .. -/
noncomputable def gSub (to ti : TE) (t : TSet) : TG := fun v σ H Q => to σ H fun o H1 => ti σ H1 fun i H2 => t o i v H2 fun H3 => Q σ H3
theorem pg_sub {o i : Expr} {to ti : TE} {t : TSet} (ho : PE X o to) (hi : PE X i ti) (hs : PSet X t)
    (ha : ∀ v, assign (.Subscript o i pos) X.env v = (do
      let ov ← holding [v] (eval o X.env)
      let iv ← holding [v, ov] (eval i X.env)
      standAt pos
      holding [v, ov, iv] (setItem ov iv v)
      release [v, ov, iv] []) := by intro _; rfl) : PG X (.Subscript o i pos) (gSub to ti t) := by
  intro pins s σ H v u Q I r h
  rw [ha]
  refine wpAny_bind (wpAny_holding (thn (ho pins s σ H _ I h) fun ov s1 ⟨x, H1, I1, r1, q1⟩ => ?_))
  refine wpAny_bind (wpAny_holding (thn (hi pins s1 σ H1 _ I1 q1) fun iv s2 ⟨y, H2, I2, r2, q2⟩ => ?_))
  refine wpAny_bind (wpAny_standAt (wpAny_bind (wpAny_holding (thn (hs pins s2 σ H2 x y v ov iv u _ I2 r1 r2 r q2) fun _ s3 ⟨H3, I3, q3⟩ => ?_))))
  exact wpAny_release ⟨σ, H3, I3, q3⟩
/-- target = value -/
noncomputable def tAsg (te : TE) (g : TG) : TS := fun D σ H => te σ H fun x H1 => g x σ H1 D.nx
theorem ps_asg {tg e : Expr} {te : TE} {g : TG} (he : PE X e te) (hg : PG X tg g) (hs : swapsWithSole [tg] e pos.line X.env = pure false := by rfl) (hw : swappedStores [tg] e X.env = pure none := by rfl)
    (h1 : (assignEach [tg] X.env).map (·.2) = [assign tg X.env] := by rfl) : PS X (.Assign [tg] e pos) (tAsg te g) := by
  intro pins s σ H D I h
  refine wpAny_Assign_stores (thn (he pins s σ H _ I h) fun v s1 ⟨x, H1, I1, r1, q1⟩ => ?_) hs hw
  rw [h1]
  exact thn (hg pins s1 σ H1 x v _ I1 r1 q1) fun _ s2 q => q
/-- name = value -/
theorem ps_set {i : Nat} {x : Str} {e : Expr} {te : TE} {pos' : Pos} (hN : X.N.Nodup) (hi : X.N[i]? = some x) (hx : Loc X.env.scope x) (he : PE X e te) (hs : swapsWith e (some (.Name x pos')) pos.line X.env = pure false := by rfl) (hf : X.fn x = true ∨ X.env.scope.names.lookup x = some .local := by first | exact .inl rfl | exact .inr rfl | assumption) :
    PS X (.Assign [.Name x pos'] e pos) (tAsg te (gName i)) := by
  intro pins s σ H D I h
  refine wpAny_Assign_Name (thn (he pins s σ H _ I h) fun v s1 ⟨y, H1, I1, r1, q1⟩ => ?_) hs
  exact store_ok I1 hN hi hx r1 (fun s2 I2 => ⟨_, H1, I2, q1⟩) hf
end

/-! ### while -/
section
variable {X : Cx} {pos : Pos}
end

/-! ### what a loop or a comprehension walks -/
/-- at turn i: it yields x (the heap may grow), or it stops -/
structure It where
  go : Nat → Hp → Prop
  yld : Nat → Hp → V → Hp → Prop
  stop : Nat → Hp → Prop
/-- the iterator's own objects may turn: they are not the frame's, not pinned, younger than the entry (or a comprehension's own) -/
noncomputable def FpOk (X : Cx) (pins : List (Addr × Obj)) (H : Hp) (b : Addr) : Prop :=
  H b = none ∧ b ≠ X.env.locals ∧ b ∉ X.fs ∧ (b ∈ X.ex ∨ X.s₀.heap.objs.size ≤ b) ∧ (∀ x c, X.env.cells.lookup x = some c → c ≠ b) ∧ ∀ p ∈ X.pn ++ pins, p.1 ≠ b
theorem Inv.fpOk {X : Cx} {pins : List (Addr × Obj)} {σ : St} {H H' : Hp} {s : Shared} {b : Addr} (I : Inv X pins σ H s) (hb : s.heap.objs.size ≤ b) (hn : H' b = none) : FpOk X pins H' b := by
  refine ⟨hn, Nat.ne_of_gt (Nat.lt_of_lt_of_le I.lt hb), I.nofs hb, .inr (Nat.le_trans I.sz hb), fun x c e z => ?_, fun p hp z => ?_⟩
  · obtain ⟨v, q⟩ := I.cell x c e
    exact absurd (Nat.lt_of_lt_of_le q.lt (by rw [z]; exact hb)) (Nat.lt_irrefl _)
  · exact absurd (Nat.lt_of_lt_of_le (Heap.lt_size (I.pin p hp).1) (by rw [z]; exact hb)) (Nat.lt_irrefl _)
structure Turn (P : Program) (w : World) (K : PySem.W.Frag) (tg : Expr) (J : It) (fp : List Addr) (it : Addr) (tn : Nat → Heap → Prop) : Prop where
  mem : it ∈ fp
  obj : ∀ i h, tn i h → ∀ b ∈ fp, ∃ o, h.get? b = some o ∧ ∀ v, o.data ≠ .cell v
  keep : ∀ i h h', tn i h → (∀ b ∈ fp, ∀ o, h.get? b = some o → h'.get? b = some o) → tn i h'
  item : ∀ (X : Cx), X.prog = P → X.w = w → X.K = K → X.calm = true → ∀ (i : Nat) (pins : List (Addr × Obj)) (s : Shared) (σ : St) (H : Hp) (E : Value → Shared → Prop), Inv X pins σ H s → (∀ b ∈ fp, FpOk X pins H b) → tn i s.heap → J.go i H →
    wpAny (model P w) X.A (pyNext (.ref it)) (fun r s1 => ∃ u, r = some u ∧
      wpAny (model P w) X.A (letOwnedTupleGo tg (.ref it) u) (fun _ s2 => ∃ x H', Inv X pins σ H' s2 ∧ RelV x u ∧ J.yld i H x H' ∧ tn (i + 1) s2.heap ∧ ∀ b ∈ fp, H' b = none) E s1) E s
  done : ∀ (X : Cx), X.prog = P → X.w = w → X.K = K → X.calm = true → ∀ (i : Nat) (pins : List (Addr × Obj)) (s : Shared) (σ : St) (H : Hp) (E : Value → Shared → Prop), Inv X pins σ H s → (∀ b ∈ fp, FpOk X pins H b) → tn i s.heap → J.stop i H →
    wpAny (model P w) X.A (pyNext (.ref it)) (fun r s1 => r = none ∧ Inv X pins σ H s1) E s
  self : ∀ (A : Around) (i : Nat) (s : Shared) (Q : Value → Shared → Prop) (E : Value → Shared → Prop), tn i s.heap → Q (.ref it) s → wpAny (model P w) A (pyIter (.ref it)) Q E s
noncomputable abbrev TI := St → Hp → (It → Hp → Prop) → Prop
/-- an iterator has come -/
noncomputable def PIE (X : Cx) (pins : List (Addr × Obj)) (σ : St) (tg : Expr) (R : It → Hp → Prop) (itv : Value) (s2 : Shared) : Prop :=
  ∃ (it : Addr) (fp : List Addr) (tn : Nat → Heap → Prop) (J : It) (H' : Hp), itv = .ref it ∧ Inv X pins σ H' s2 ∧ Turn X.prog X.w X.K tg J fp it tn ∧ tn 0 s2.heap ∧ (∀ b ∈ fp, FpOk X pins H' b) ∧ R J H'
noncomputable def PI (X : Cx) (tg iter : Expr) (wi : TI) : Prop :=
  ∀ (pins : List (Addr × Obj)) (s : Shared) (σ : St) (H : Hp) (R : It → Hp → Prop), Inv X pins σ H s → wi σ H R →
    wpAny (model X.prog X.w) X.A (eval iter X.env) (fun v s1 => wpAny (model X.prog X.w) X.A (pyIter v) (PIE X pins σ tg R) X.xe s1) X.xe s

/-- the step ahead of the store is nothing for an iterator that keeps no tuple -/
theorem go_of {M : Model} {A : Around} {E : Value → Shared → Prop} {s : Shared} {tg : Expr} {it : Addr} {u : Value} {o : Obj} {n : String} {vs : Array Value} {Q : Unit → Shared → Prop} (ho : s.heap.get? it = some o) (hc : o.cls = .type n) (hd : o.data = .fields vs)
    (hn : ["enumerate", "zip", "dict_itemiterator", "dict_reverseitemiterator", "odict_iterator", "itertools.zip_longest", "itertools.pairwise"].contains n = false) (hQ : Q () s) : wpAny M A (letOwnedTupleGo tg (.ref it) u) Q E s := by
  unfold letOwnedTupleGo
  cases tg <;> first
    | exact wpAny_pure hQ
    | (cases u <;> first
        | exact wpAny_pure hQ
        | (refine wpAny_bind (wpAny_load ho ?_)
           rw [hc, hd]
           show wpAny M A (if (["enumerate", "zip", "dict_itemiterator", "dict_reverseitemiterator", "odict_iterator", "itertools.zip_longest", "itertools.pairwise"].contains n && vs[0]? == some (rawInt _)) = true then _ else _) Q E s
           rw [if_neg (by intro h; rw [hn, Bool.false_and] at h; cases h)]
           exact wpAny_pure hQ))

/-- the list at a, as it stands at each turn (a loop may append to it) -/
noncomputable def Itl (K : PySem.W.Frag) (a : Addr) : It :=
  ⟨fun i H => ∃ xs x, SqL K H a xs ∧ xs[i]? = some x, fun i H x H' => H' = H ∧ ∀ xs, SqL K H a xs → xs[i]? = some x, fun i H => ∃ xs, SqL K H a xs ∧ xs.length ≤ i⟩
noncomputable def Itt (K : PySem.W.Frag) (a : Addr) : It :=
  ⟨fun i H => ∃ xs x, SqT K H a xs ∧ xs[i]? = some x, fun i H x H' => H' = H ∧ ∀ xs, SqT K H a xs → xs[i]? = some x, fun i H => ∃ xs, SqT K H a xs ∧ xs.length ≤ i⟩
/-- lo, lo + 1, .. (n of them) -/
noncomputable def Itr (lo : Int) (n : Nat) : It := ⟨fun i _ => i < n, fun i H x H' => H' = H ∧ x = .int (lo + i), fun i _ => n ≤ i⟩
theorem turn_list {P : Program} {w : World} {K : PySem.W.Frag} {tg : Expr} (a it : Addr) : Turn P w K tg (Itl K a) [it] it (fun i h => h.IsListIter it a i) where
  mem := by simp
  obj := fun i h st b hb => by
    have e : b = it := by simpa using hb
    subst e
    obtain ⟨o, e, c, d⟩ := st
    exact ⟨o, e, fun v z => by rw [d] at z; cases z⟩
  keep := fun i h h' st k => st.at fun o e => k it (by simp) o e
  item := by
    intro X hP hw hK hc i pins s σ H E I hf st hg
    subst hP hw hK
    obtain ⟨xs, x, hq, hx⟩ := hg
    obtain ⟨its, rv, p, hz⟩ := I.list hq
    obtain ⟨u, hu, ru⟩ := rv.get hx
    obtain ⟨f0, f1, f2, f3, f4, f5⟩ := hf it (by simp)
    refine wpAny_pyNext_list_item st p.isList (x := u) (by simpa using hu) fun h' st' sb => ?_
    have I1 : Inv X pins σ H { s with heap := h' } := I.turned (t' := s.toks) (fun b o hb e => (sb.2 b hb).trans e) f0 f1 f3 f4 f5
    obtain ⟨o, e, c, d⟩ := id st'
    exact ⟨u, rfl, go_of (s := { s with heap := h' }) e c d (by decide) ⟨x, H, I1, ru, ⟨rfl, fun ys hy => by rw [I.list_inj hy hq]; exact hx⟩, st', fun b hb => (hf b hb).1⟩⟩
  done := by
    intro X hP hw hK hc i pins s σ H E I hf st hg
    subst hP hw hK
    obtain ⟨xs, hq, hx⟩ := hg
    obtain ⟨its, rv, p, hz⟩ := I.list hq
    obtain ⟨f0, f1, f2, f3, f4, f5⟩ := hf it (by simp)
    have hl := rv.length
    exact wpAny_pyNext_list_end (I.ok.hd hc) st p.isList (by simp; omega) fun h' eb => ⟨rfl, I.turned (t' := s.toks) (fun b o hb e => eb b o hb e) f0 f1 f3 f4 f5⟩
  self := fun _ _ _ _ _ st h => wpAny_pyIter_listiter st h
theorem turn_tuple {P : Program} {w : World} {K : PySem.W.Frag} {tg : Expr} (a it : Addr) : Turn P w K tg (Itt K a) [it] it (fun i h => h.IsTupleIter it a i) where
  mem := by simp
  obj := fun i h st b hb => by
    have e : b = it := by simpa using hb
    subst e
    obtain ⟨o, e, c, d⟩ := st
    exact ⟨o, e, fun v z => by rw [d] at z; cases z⟩
  keep := fun i h h' st k => st.at fun o e => k it (by simp) o e
  item := by
    intro X hP hw hK hc i pins s σ H E I hf st hg
    subst hP hw hK
    obtain ⟨xs, x, hq, hx⟩ := hg
    obtain ⟨its, rv, p, hz⟩ := I.tuple hq
    obtain ⟨u, hu, ru⟩ := rv.get hx
    obtain ⟨f0, f1, f2, f3, f4, f5⟩ := hf it (by simp)
    refine wpAny_pyNext_tuple_item st (show s.heap.IsTuple a its.toArray from p) (x := u) (by simpa using hu) fun h' st' sb => ?_
    have I1 : Inv X pins σ H { s with heap := h' } := I.turned (t' := s.toks) (fun b o hb e => (sb.2 b hb).trans e) f0 f1 f3 f4 f5
    obtain ⟨o, e, c, d⟩ := id st'
    exact ⟨u, rfl, go_of (s := { s with heap := h' }) e c d (by decide) ⟨x, H, I1, ru, ⟨rfl, fun ys hy => by rw [I.tuple_inj hy hq]; exact hx⟩, st', fun b hb => (hf b hb).1⟩⟩
  done := by
    intro X hP hw hK hc i pins s σ H E I hf st hg
    subst hP hw hK
    obtain ⟨xs, hq, hx⟩ := hg
    obtain ⟨its, rv, p, hz⟩ := I.tuple hq
    obtain ⟨f0, f1, f2, f3, f4, f5⟩ := hf it (by simp)
    have hl := rv.length
    exact wpAny_pyNext_tuple_end (I.ok.hd hc) st (show s.heap.IsTuple a its.toArray from p) (by simp; omega) fun h' eb => ⟨rfl, I.turned (t' := s.toks) (fun b o hb e => eb b o hb e) f0 f1 f3 f4 f5⟩
  self := fun _ _ _ _ _ st h => wpAny_pyIter_tupleiter st h
theorem turn_range {P : Program} {w : World} {K : PySem.W.Frag} {tg : Expr} (it : Addr) (lo : Int) (n : Nat) : Turn P w K tg (Itr lo n) [it] it (fun i h => IsRangeIter h it (lo + (i : Nat) * 1) ((n : Int) - (i : Nat)) 1) where
  mem := by simp
  obj := fun i h st b hb => by
    have e : b = it := by simpa using hb
    subst e
    exact ⟨_, st, fun v z => by
      have z' : Data.fields _ = Data.cell v := z
      cases z'⟩
  keep := fun i h h' st k => k it (by simp) _ st
  item := by
    intro X hP hw hK hc i pins s σ H E I hf st hg
    subst hP hw hK
    obtain ⟨f0, f1, f2, f3, f4, f5⟩ := hf it (by simp)
    have W := Walks.range (prog := X.prog) (w := X.w) (I.ok.hd hc) it lo 1 n
    refine W.item i s _ _ hg st fun v h' tk hv st' kk => ?_
    obtain ⟨t, rfl⟩ := hv
    have I1 : Inv X pins σ H { s with heap := h', toks := tk } := I.turned (fun b o hb e => kk b o (by simpa using hb) e) f0 f1 f3 f4 f5
    refine ⟨_, rfl, go_of (s := { s with heap := h', toks := tk }) (n := "range_iterator") st' rfl rfl (by decide) ⟨.int (lo + i), H, I1, ⟨t, ?_⟩, ⟨rfl, rfl⟩, st', fun b hb => (hf b hb).1⟩⟩
    rw [Int.mul_one]
  done := by
    intro X hP hw hK hc i pins s σ H E I hf st hg
    subst hP hw hK
    obtain ⟨f0, f1, f2, f3, f4, f5⟩ := hf it (by simp)
    exact wpAny_pyNext_range_end (I.ok.hd hc) st (by have : n ≤ i := hg; omega) fun h' eb => ⟨rfl, I.turned (t' := s.toks) (fun b o hb e => eb b o hb e) f0 f1 f3 f4 f5⟩
  self := fun _ _ _ _ _ st h => wpAny_pyIter_rangeiter st h
end L2

namespace L2
open PySem PySem.Spec PyProof.Rows
section
variable {X : Cx} {tg : Expr}
noncomputable def iList (K : PySem.W.Frag) (tl : TE) : TI := fun σ H R => tl σ H fun x H1 => ∃ a, x = .ref a ∧ (∃ xs, SqL K H1 a xs) ∧ R (Itl K a) H1
noncomputable def iTup (K : PySem.W.Frag) (tl : TE) : TI := fun σ H R => tl σ H fun x H1 => ∃ a, x = .ref a ∧ (∃ xs, SqT K H1 a xs) ∧ R (Itt K a) H1
theorem pi_list {l : Expr} {tl : TE} (hl : PE X l tl) : PI X tg l (iList X.K tl) := by
  intro pins s σ H R I h
  refine thn (hl pins s σ H _ I h) fun v s1 ⟨x, H1, I1, r1, q1⟩ => ?_
  obtain ⟨a, e, ⟨xs, hq⟩, q⟩ := q1
  subst e
  cases r1
  obtain ⟨its, rv, p, hz⟩ := I1.list hq
  refine wpAny_pyIter_list p.isList ?_
  refine ⟨s1.heap.objs.size, [s1.heap.objs.size], _, _, H1, rfl, I1.kept (t' := s1.toks) fun b o e => Heap.get?_push_of_some _ e, turn_list a _, ⟨_, Heap.get?_push_size _ rfl, rfl, rfl⟩, fun b hb => ?_, q⟩
  have e : b = s1.heap.objs.size := by simpa using hb
  subst e
  exact I1.fpOk (Nat.le_refl _) (I1.hok.fresh (Nat.le_refl _))
theorem pi_tup {l : Expr} {tl : TE} (hl : PE X l tl) : PI X tg l (iTup X.K tl) := by
  intro pins s σ H R I h
  refine thn (hl pins s σ H _ I h) fun v s1 ⟨x, H1, I1, r1, q1⟩ => ?_
  obtain ⟨a, e, ⟨xs, hq⟩, q⟩ := q1
  subst e
  cases r1
  obtain ⟨its, rv, p, hz⟩ := I1.tuple hq
  refine wpAny_pyIter_tuple (show s1.heap.IsTuple a its.toArray from p) ?_
  refine ⟨s1.heap.objs.size, [s1.heap.objs.size], _, _, H1, rfl, I1.kept (t' := s1.toks) fun b o e => Heap.get?_push_of_some _ e, turn_tuple a _, ⟨_, Heap.get?_push_size _ rfl, rfl, rfl⟩, fun b hb => ?_, q⟩
  have e : b = s1.heap.objs.size := by simpa using hb
  subst e
  exact I1.fpOk (Nat.le_refl _) (I1.hok.fresh (Nat.le_refl _))
/-- a range object just made, walked -/
theorem range_it {pins : List (Addr × Obj)} {σ : St} {H : Hp} {s : Shared} {R : It → Hp → Prop} {E : Value → Shared → Prop} {lo hi : Int} {t u v : Tok} {tk : Nat} (I : Inv X pins σ H s) (h1 : -(2 ^ 62) ≤ lo) (h2 : lo < 2 ^ 62) (h3 : -(2 ^ 62) ≤ hi) (h4 : hi < 2 ^ 62)
    (q : R (Itr lo (hi - lo).toNat) H) : wpAny (model X.prog X.w) X.A (pyIter (.ref s.heap.objs.size)) (PIE X pins σ tg R) E { s with heap := s.heap.push { cls := .type "range", data := .fields #[.int lo t, .int hi u, .int 1 v] }, toks := tk } := by
  refine wpAny_pyIter_range (IsRange.new ..) (small_one h1 h2 h3 h4) ?_
  have I1 : Inv X pins σ H { s with heap := s.heap.push { cls := .type "range", data := .fields #[.int lo t, .int hi u, .int 1 v] }, toks := tk } := I.kept fun b o e => Heap.get?_push_of_some _ e
  refine ⟨(s.heap.push { cls := .type "range", data := .fields #[.int lo t, .int hi u, .int 1 v] }).objs.size, [(s.heap.push { cls := .type "range", data := .fields #[.int lo t, .int hi u, .int 1 v] }).objs.size], _, _, H, rfl,
    I1.kept (t' := tk) fun b o e => Heap.get?_push_of_some _ e, turn_range _ lo (hi - lo).toNat, ?_, fun b hb => ?_, q⟩
  · have e1 : lo + ((0 : Nat) : Int) * 1 = lo := by simp
    have e2 : (((hi - lo).toNat : Nat) : Int) - ((0 : Nat) : Int) = Builtin.Range.rangeSize lo hi 1 := by rw [rangeSize_one]; split <;> omega
    show IsRangeIter _ _ (lo + ((0 : Nat) : Int) * 1) ((((hi - lo).toNat : Nat) : Int) - ((0 : Nat) : Int)) 1
    rw [e1, e2]
    exact Heap.get?_push_size _ rfl
  · have e : b = (s.heap.push { cls := .type "range", data := .fields #[.int lo t, .int hi u, .int 1 v] }).objs.size := by simpa using hb
    subst e
    exact I1.fpOk (Nat.le_refl _) (I1.hok.fresh (Nat.le_refl _))
noncomputable def iRng1 (ta : TA) : TI := fun σ H R => ta σ H fun vs H1 => ∃ j : Int, vs = [.int j] ∧ -(2 ^ 62) ≤ j ∧ j < 2 ^ 62 ∧ R (Itr 0 j.toNat) H1
theorem pi_range1 {a : Expr} {ta : TA} {p pos : Pos} (hg : Gl X "range") (hm : X.mg "range" = none) (ha : PA X [a] ta) (hs : starEach [a] X.env = [(false, eval a X.env)] := by rfl) : PI X tg (.Call (.Name "range" p) [a] [] pos) (iRng1 ta) := by
  intro pins s σ H R I h
  refine Call_ (ld_blt I hg hm boot_range (PyProof.Rows.callWith_type1 (thn (ha pos pins s σ H _ I h) fun us s1 ⟨vs, H1, I1, r1, q1⟩ => ?_) hs rfl))
  obtain ⟨j, e, q1, q2, q⟩ := q1
  subst e
  cases r1 with
  | cons r rr =>
    cases rr
    obtain ⟨t, rfl⟩ := r
    exact call_range_1 (range_it I1 (by omega) (by omega) q1 q2 (by simpa using q))
/-! ### for -/
/-- W: the invariant by the turn and a measure; N: what the body is to reach -/
noncomputable def tFor (wi : TI) (g : TG) (tb : TS) : TS := fun D σ H => wi σ H fun J H1 => ∃ W : Nat → Nat → St → Hp → Prop, (∃ m, W 0 m σ H1) ∧ ∀ i m σ H, W i m σ H →
  (J.stop i H ∧ D.nx σ H) ∨ (J.go i H ∧ ∃ N : St → Hp → Prop, (∀ σ' H', N σ' H' → ∃ m', m' < m ∧ W (i + 1) m' σ' H') ∧ ∀ x H', J.yld i H x H' → g x σ H' fun σ2 H2 => tb { D with nx := N, ct := N, bk := D.nx } σ2 H2)
/-- the records at fp as they stand -/
noncomputable def pinsAt (fp : List Addr) (h : Heap) : List (Addr × Obj) := fp.filterMap fun b => (h.get? b).map fun o => (b, o)
theorem mem_pinsAt {fp : List Addr} {h : Heap} {b : Addr} {o : Obj} (hb : b ∈ fp) (e : h.get? b = some o) : (b, o) ∈ pinsAt fp h := List.mem_filterMap.mpr ⟨b, hb, by rw [e]; rfl⟩
theorem of_pinsAt {fp : List Addr} {h : Heap} {p : Addr × Obj} (hp : p ∈ pinsAt fp h) : p.1 ∈ fp ∧ h.get? p.1 = some p.2 := by
  obtain ⟨b, hb, e⟩ := List.mem_filterMap.mp hp
  cases q : h.get? b with
  | none => rw [q] at e; cases e
  | some o =>
    rw [q] at e
    have e' : (b, o) = p := Option.some.inj e
    subst e'
    exact ⟨hb, q⟩
theorem Inv.pinned {pins : List (Addr × Obj)} {σ : St} {H : Hp} {s : Shared} {fp : List Addr} (I : Inv X pins σ H s) (hf : ∀ b ∈ fp, FpOk X pins H b) (ho : ∀ b ∈ fp, ∃ o, s.heap.get? b = some o ∧ ∀ v, o.data ≠ .cell v) : Inv X (pins ++ pinsAt fp s.heap) σ H s :=
  I.pins_of fun p hp => (List.mem_append.mp hp).elim (fun z => I.pin p (List.mem_append_right _ z)) fun z => by
    obtain ⟨hb, e⟩ := of_pinsAt z
    obtain ⟨f0, f1, f2, _⟩ := hf p.1 hb
    obtain ⟨o, e', d⟩ := ho p.1 hb
    rw [e] at e'; cases e'
    exact ⟨e, f0, f1, f2, d⟩
theorem Inv.unpinned {pins pl : List (Addr × Obj)} {σ : St} {H : Hp} {s : Shared} (I : Inv X (pins ++ pl) σ H s) : Inv X pins σ H s := I.pins_of fun p hp => I.pin p (List.mem_append_right _ (List.mem_append_left _ hp))
theorem ps_for {iter : Expr} {body : List Stmt} {wi : TI} {g : TG} {tb : TS} {pos : Pos} (hp : PassesOwn (model X.prog X.w) X.A X.env X.xe) (hc : X.calm = true) (hi : PI X tg iter wi) (hg : PG X tg g) (hb : PSs X body tb)
    (hs : ∀ x, foldedSetIterable iter X.env x = pure x := by intro _; rfl) : PS X (.For tg iter body [] pos) (tFor wi g tb) := by
  intro pins s σ H D I h
  refine wpAny_For (thn (hi pins s σ H _ I h) fun v s1 h1 => thn h1 fun itv s2 h2 => ?_) hs
  obtain ⟨it, fp, tn, J, H2, e, I2, T, st2, f2, W, ⟨m0, w0⟩, turn⟩ := h2
  subst e
  -- what stays true of the iterator's objects through the loop
  have stat : ∀ {H' : Hp}, (∀ b ∈ fp, H' b = none) → ∀ b ∈ fp, FpOk X pins H' b := fun hn b hb => ⟨hn b hb, (f2 b hb).2⟩
  refine codeAny_forLoop_any (fun n s' => ∃ i σ' H', Inv X pins σ' H' s' ∧ tn i s'.heap ∧ (∀ b ∈ fp, H' b = none) ∧ W i n σ' H') ?_ m0 ⟨0, σ, H2, I2, st2, fun b hb => (f2 b hb).1, w0⟩
  rintro n s3 ⟨i, σ3, H3, I3, st3, fr3, w3⟩
  rcases turn i n σ3 H3 w3 with ⟨stop, qn⟩ | ⟨go, N, hN, step⟩
  · refine wpAny_passesOwn hp (thn (T.done X rfl rfl rfl hc i pins s3 σ3 H3 X.xe I3 (stat fr3) st3 stop) fun r s4 ⟨hr, I4⟩ => ?_)
    subst hr
    exact wpAny_execs_nil ⟨σ3, H3, I4, qn⟩
  · refine wpAny_passesOwn hp (thn (T.item X rfl rfl rfl hc i pins s3 σ3 H3 X.xe I3 (stat fr3) st3 go) fun r s4 ⟨u, hr, h4⟩ => ?_)
    subst hr
    refine wpAny_passesOwn hp (thn h4 fun _ s5 ⟨x, H5, I5, r5, y5, st5, fr5⟩ => ?_)
    have I5' := I5.pinned (stat fr5) (T.obj _ _ st5)
    refine wpAny_passesOwn hp (thn (hg _ s5 σ3 H5 x u _ I5' r5 (step x H5 y5)) fun _ s6 ⟨σ6, H6, I6, q6⟩ => ?_)
    refine wpAny_passesOwn hp (thn (hb _ s6 σ6 H6 _ I6 q6) fun f s7 q7 => ?_)
    have again : ∀ {σ7 : St} {H7 : Hp}, Inv X (pins ++ pinsAt fp s5.heap) σ7 H7 s7 → N σ7 H7 → ∃ m, m < n ∧ ∃ i σ' H', Inv X pins σ' H' s7 ∧ tn i s7.heap ∧ (∀ b ∈ fp, H' b = none) ∧ W i m σ' H' := fun {σ7 H7} I7 n7 => by
      obtain ⟨m', hm, w7⟩ := hN σ7 H7 n7
      refine ⟨m', hm, i + 1, σ7, H7, I7.unpinned, T.keep _ _ _ st5 fun b hb o e => (I7.pin (b, o) (List.mem_append_right _ (List.mem_append_right _ (mem_pinsAt hb e)))).1, fun b hb => ?_, w7⟩
      obtain ⟨o, e, d⟩ := T.obj _ _ st5 b hb
      exact (I7.pin (b, o) (List.mem_append_right _ (List.mem_append_right _ (mem_pinsAt hb e)))).2.1
    cases f with
    | next => obtain ⟨σ7, H7, I7, n7⟩ := q7; exact again I7 n7
    | cont => obtain ⟨σ7, H7, I7, n7⟩ := q7; exact again I7 n7
    | brk => obtain ⟨σ7, H7, I7, q7⟩ := q7; exact ⟨σ7, H7, I7.unpinned, q7⟩
    | ret v => obtain ⟨x7, σ7, H7, I7, r7, q7⟩ := q7; exact ⟨x7, σ7, H7, I7.unpinned, r7, q7⟩
end

/-! ### the forms one uses -/
theorem for_range {lo : Int} {n : Nat} {g : TG} {tb : TS} {D : Ends} {σ : St} {H : Hp} (Pv : Nat → St → Hp → Prop) (h0 : Pv 0 σ H)
    (hs : ∀ i σ H, i < n → Pv i σ H → g (.int (lo + i)) σ H fun σ2 H2 => tb { D with nx := Pv (i + 1), ct := Pv (i + 1), bk := D.nx } σ2 H2) (hd : ∀ σ H, Pv n σ H → D.nx σ H) :
    ∃ W : Nat → Nat → St → Hp → Prop, (∃ m, W 0 m σ H) ∧ ∀ i m σ H, W i m σ H →
      ((Itr lo n).stop i H ∧ D.nx σ H) ∨ ((Itr lo n).go i H ∧ ∃ N : St → Hp → Prop, (∀ σ' H', N σ' H' → ∃ m', m' < m ∧ W (i + 1) m' σ' H') ∧ ∀ x H', (Itr lo n).yld i H x H' → g x σ H' fun σ2 H2 => tb { D with nx := N, ct := N, bk := D.nx } σ2 H2) := by
  refine ⟨fun i m σ H => m = n - i ∧ i ≤ n ∧ Pv i σ H, ⟨n, by simp, Nat.zero_le _, h0⟩, ?_⟩
  rintro i m σ H ⟨rfl, hi, p⟩
  by_cases hlt : i < n
  · refine .inr ⟨hlt, Pv (i + 1), fun σ' H' p' => ⟨n - (i + 1), by omega, rfl, hlt, p'⟩, fun x H' y => ?_⟩
    obtain ⟨e, y⟩ := y
    subst e y
    exact hs i σ _ hlt p
  · have e : i = n := by omega
    subst e
    exact .inl ⟨Nat.le_refl _, hd σ H p⟩
end L2

namespace L2
open PySem PySem.Spec PyProof.Rows

noncomputable abbrev R2 := V → V → Hp → VK → Prop
/-- a two-place operation on values: f is binaryOp op, inplaceOp op or compareOp op -/
noncomputable def OpR (X : Cx) (f : Value → Value → Sem Value) (r : R2) : Prop :=
  ∀ (pins : List (Addr × Obj)) (s : Shared) (σ : St) (H : Hp) (x y : V) (v u : Value) (Q : VK), Inv X pins σ H s → RelV x v → RelV y u → r x y H Q →
    wpAny (model X.prog X.w) X.A (f v u) (EP X pins σ Q) X.xe s
/-- a one-place operation -/
noncomputable def UnR (X : Cx) (f : Value → Sem Value) (r : V → Hp → VK → Prop) : Prop :=
  ∀ (pins : List (Addr × Obj)) (s : Shared) (σ : St) (H : Hp) (x : V) (v : Value) (Q : VK), Inv X pins σ H s → RelV x v → r x H Q →
    wpAny (model X.prog X.w) X.A (f v) (EP X pins σ Q) X.xe s
/-- a call of a value that is known (a builtin, a type) with values -/
noncomputable def CallR (X : Cx) (f : Value) (r : List V → Hp → VK → Prop) : Prop :=
  ∀ (pins : List (Addr × Obj)) (s : Shared) (σ : St) (H : Hp) (xs : List V) (us : List Value) (Q : VK), Inv X pins σ H s → Vals xs us → r xs H Q →
    wpAny (model X.prog X.w) X.A (call f us) (EP X pins σ Q) X.xe s
/-- a value's truth -/
noncomputable def TruR (X : Cx) (r : V → Hp → (Bool → Hp → Prop) → Prop) : Prop :=
  ∀ (pins : List (Addr × Obj)) (s : Shared) (σ : St) (H : Hp) (x : V) (v : Value) (Q : Bool → Hp → Prop), Inv X pins σ H s → RelV x v → r x H Q →
    wpAny (model X.prog X.w) X.A (truthy v) (TP X pins σ Q) X.xe s

noncomputable def tOp (r : R2) (ta tb : TE) : TE := fun σ H Q => ta σ H fun x H1 => tb σ H1 fun y H2 => r x y H2 Q
noncomputable def tUn (r : V → Hp → VK → Prop) (ta : TE) : TE := fun σ H Q => ta σ H fun x H1 => r x H1 Q
/-- ints in, under C, and a value out -/
noncomputable def rI (C : Int → Int → Prop) (g : Int → Int → V) : R2 := fun x y H Q => ∃ i j, x = .int i ∧ y = .int j ∧ C i j ∧ Q (g i j) H
noncomputable def rI0 (g : Int → Int → V) : R2 := fun x y H Q => ∃ i j, x = .int i ∧ y = .int j ∧ Q (g i j) H
noncomputable def rU (g : Int → V) : V → Hp → VK → Prop := fun x H Q => ∃ i, x = .int i ∧ Q (g i) H

section
variable {X : Cx} {a b c : Expr} {ta tb tc : TE} {pos : Pos}

theorem binT (ha : PE X a ta) (hb : PE X b tb) {pins : List (Addr × Obj)} {s : Shared} {σ : St} {H : Hp} {R : V → V → Hp → Prop} (I : Inv X pins σ H s)
    (h : ta σ H fun x H1 => tb σ H1 fun y H2 => R x y H2) {Q : Value → Shared → Prop} {f : Value → Value → Sem Value}
    (hf : ∀ v u s2 x y H2, Inv X pins σ H2 s2 → RelV x v → RelV y u → R x y H2 → wpAny (model X.prog X.w) X.A (f v u) Q X.xe s2) :
    wpAny (model X.prog X.w) X.A (eval a X.env) (fun v s₁ => wpAny (model X.prog X.w) X.A (eval b X.env) (fun u s₂ => wpAny (model X.prog X.w) X.A (f v u) Q X.xe s₂) X.xe s₁) X.xe s := by
  refine thn (ha pins s σ H _ I h) fun v s1 ⟨x, H1, I1, r1, q1⟩ => ?_
  refine thn (hb pins s1 σ H1 _ I1 q1) fun u s2 ⟨y, H2, I2, r2, q2⟩ => ?_
  exact hf v u s2 x y H2 I2 r1 r2 q2

theorem pe_op {op : Operator} {r : R2} (ho : OpR X (binaryOp op) r) (ha : PE X a ta) (hb : PE X b tb) : PE X (.BinOp a op b pos) (tOp r ta tb) := by
  intro pins s σ H Q I h
  exact wpAny_BinOp (binT ha hb I h fun v u s2 x y H2 I2 rx ry q => ho pins s2 σ H2 x y v u Q I2 rx ry q)
theorem pe_un {op : UnaryOp} {r : V → Hp → VK → Prop} (ho : UnR X (unaryOp op) r) (ha : PE X a ta) : PE X (.UnaryOp op a pos) (tUn r ta) := by
  intro pins s σ H Q I h
  exact UnaryOp_ (thn (ha pins s σ H _ I h) fun v s1 ⟨x, H1, I1, r1, q1⟩ => ho pins s1 σ H1 x v Q I1 r1 q1)
/-! ### ints -/
theorem opI {f : Value → Value → Sem Value} {C : Int → Int → Prop} {g : Int → Int → Int}
    (rule : ∀ (i j : Int) (t u : Tok) (s : Shared) (Q : Value → Shared → Prop) (E : Value → Shared → Prop), C i j → Q (.int (g i j) s.toks) { s with toks := s.toks + 1 } → wpAny (model X.prog X.w) X.A (f (.int i t) (.int j u)) Q E s) :
    OpR X f (rI C fun i j => .int (g i j)) := by
  intro pins s σ H x y v u Q I rx ry h
  obtain ⟨i, j, rfl, rfl, hc, q⟩ := h
  obtain ⟨t, rfl⟩ := rx
  obtain ⟨t', rfl⟩ := ry
  exact rule i j t t' s _ _ hc ⟨.int (g i j), H, I.tok _, ⟨_, rfl⟩, q⟩
theorem opI0 {f : Value → Value → Sem Value} {g : Int → Int → Int}
    (rule : ∀ (i j : Int) (t u : Tok) (s : Shared) (Q : Value → Shared → Prop) (E : Value → Shared → Prop), Q (.int (g i j) s.toks) { s with toks := s.toks + 1 } → wpAny (model X.prog X.w) X.A (f (.int i t) (.int j u)) Q E s) :
    OpR X f (rI0 fun i j => .int (g i j)) := by
  intro pins s σ H x y v u Q I rx ry h
  obtain ⟨i, j, rfl, rfl, q⟩ := h
  obtain ⟨t, rfl⟩ := rx
  obtain ⟨t', rfl⟩ := ry
  exact rule i j t t' s _ _ ⟨.int (g i j), H, I.tok _, ⟨_, rfl⟩, q⟩
theorem opB0 {f : Value → Value → Sem Value} {g : Int → Int → Bool}
    (rule : ∀ (i j : Int) (t u : Tok) (s : Shared) (Q : Value → Shared → Prop) (E : Value → Shared → Prop), Q (.bool (g i j)) s → wpAny (model X.prog X.w) X.A (f (.int i t) (.int j u)) Q E s) :
    OpR X f (rI0 fun i j => .bl (g i j)) := by
  intro pins s σ H x y v u Q I rx ry h
  obtain ⟨i, j, rfl, rfl, q⟩ := h
  obtain ⟨t, rfl⟩ := rx
  obtain ⟨t', rfl⟩ := ry
  exact rule i j t t' s _ _ ⟨.bl (g i j), H, I, rfl, q⟩

noncomputable def CDiv (i j : Int) : Prop := 0 < j ∧ j < 1073741824
noncomputable def CMul (i j : Int) : Prop := (-(2 ^ 64) < i ∧ i < 2 ^ 64) ∨ (-(2 ^ 64) < j ∧ j < 2 ^ 64)
theorem CMul.ok {i j : Int} (h : CMul i j) : IntMulOk i j := by
  rcases h with ⟨h1, h2⟩ | ⟨h1, h2⟩
  · exact .of_left (intBits_le_64 h1 h2)
  · exact .of_right (intBits_le_64 h1 h2)
theorem op_add : OpR X (binaryOp .Add) (rI0 fun i j => .int (i + j)) := opI0 fun _ _ _ _ _ _ _ q => add_int q
theorem op_sub : OpR X (binaryOp .Sub) (rI0 fun i j => .int (i - j)) := opI0 fun _ _ _ _ _ _ _ q => sub_int q
theorem op_mul : OpR X (binaryOp .Mult) (rI CMul fun i j => .int (i * j)) := opI fun _ _ _ _ _ _ _ hc q => mul_int q hc.ok
/-- // by a positive divisor -/
theorem op_fdiv : OpR X (binaryOp .FloorDiv) (rI CDiv fun i j => .int (i / j)) := opI fun i j _ _ _ _ _ hc q => by
  have h1 : (0 : Int) < j := hc.1
  have h2 : j < 1073741824 := hc.2
  exact floordiv_int (by omega) (by rw [Int.fdiv_eq_ediv_of_nonneg i (by omega)]; exact q) (.inl (PyProof.noPylong_small (by omega)))
/-- % by a positive divisor of any size -/
theorem op_mod : OpR X (binaryOp .Mod) (rI (fun _ j => 0 < j) fun i j => .int (i % j)) := opI fun i j _ _ _ _ _ hc q => by
  have h1 : (0 : Int) < j := hc
  exact mod_int' (by omega) (by rw [Int.fmod_eq_emod_of_nonneg i (by omega)]; exact q)
theorem unI {f : Value → Sem Value} {g : Int → Int}
    (rule : ∀ (i : Int) (t : Tok) (s : Shared) (Q : Value → Shared → Prop) (E : Value → Shared → Prop), Q (.int (g i) s.toks) { s with toks := s.toks + 1 } → wpAny (model X.prog X.w) X.A (f (.int i t)) Q E s) :
    UnR X f (rU fun i => .int (g i)) := by
  intro pins s σ H x v Q I rx h
  obtain ⟨i, rfl, q⟩ := h
  obtain ⟨t, rfl⟩ := rx
  exact rule i t s _ _ ⟨.int (g i), H, I.tok _, ⟨_, rfl⟩, q⟩
theorem un_neg : UnR X (unaryOp .USub) (rU fun i => .int (-i)) := unI fun _ _ _ _ _ q => neg_int q
/-! ### bools among ints: n += (a < b) -/
end

/-! ### comparisons -/
/-- the scalars that == tells apart as data does -/
noncomputable def scal : V → V → Bool
  | .non, .non => true | .non, .int _ => true | .int _, .non => true | .non, .bl _ => true | .bl _, .non => true | .non, .str _ => true | .str _, .non => true
  | .int _, .int _ => true | .bl _, .bl _ => true | .str _, .str _ => true | .byt _, .byt _ => true
  | .int _, .str _ => true | .str _, .int _ => true | .bl _, .str _ => true | .str _, .bl _ => true
  | _, _ => false
noncomputable def rEq : R2 := fun x y H Q => scal x y = true ∧ Q (.bl (decide (x = y))) H
noncomputable def rNe : R2 := fun x y H Q => scal x y = true ∧ Q (.bl (!decide (x = y))) H

theorem dec_int {i j : Int} : decide (V.int i = V.int j) = (i == j) := by
  rw [Bool.eq_iff_iff]
  simp
theorem dec_bl {i j : Bool} : decide (V.bl i = V.bl j) = (i == j) := by
  rw [Bool.eq_iff_iff]
  simp
theorem dec_str {i j : Str} : decide (V.str i = V.str j) = (i == j) := by
  rw [Bool.eq_iff_iff]
  simp
theorem dec_byt {i j : Array UInt8} : decide (V.byt i = V.byt j) = (i.toList == j.toList) := by
  rw [Bool.eq_iff_iff]
  cases i
  cases j
  simp

section
variable {X : Cx} {a b c : Expr} {ta tb tc : TE} {pos : Pos}
theorem fin_bl {pins : List (Addr × Obj)} {σ : St} {H : Hp} {s : Shared} {Q : VK} {k k' : Bool} (I : Inv X pins σ H s) (q : Q (.bl k) H) (e : k = k') : EP X pins σ Q (.bool k') s := by
  subst e
  exact ⟨.bl k, H, I, rfl, q⟩
theorem op_eq : OpR X (compareOp .Eq) rEq := by
  intro pins s σ H x y v u Q I rx ry h
  obtain ⟨hs, q⟩ := h
  cases x with
  | non =>
    cases rx
    cases y with
    | non => cases ry; exact PySem.EqNone.eq_none_none (fin_bl I q (by simp))
    | bl j => cases ry; exact PySem.EqNone.eq_none_bool (fin_bl I q (by simp))
    | int j => obtain ⟨t', rfl⟩ := ry; exact PySem.EqNone.eq_none_int (fin_bl I q (by simp))
    | str j => obtain ⟨t', rfl⟩ := ry; exact PySem.EqNone.eq_none_str (fin_bl I q (by simp))
    | _ => exact absurd (show false = true from hs) Bool.false_ne_true
  | bl i =>
    cases rx
    cases y with
    | non => cases ry; exact PySem.EqNone.eq_bool_none (fin_bl I q (by simp))
    | bl j => cases ry; exact eq_bool (fin_bl I q dec_bl)
    | str j => obtain ⟨t', rfl⟩ := ry; exact PySem.EqMixed.eq_bool_str (fin_bl I q (by simp))
    | _ => exact absurd (show false = true from hs) Bool.false_ne_true
  | int i =>
    obtain ⟨t, rfl⟩ := rx
    cases y with
    | non => cases ry; exact PySem.EqNone.eq_int_none (fin_bl I q (by simp))
    | int j => obtain ⟨t', rfl⟩ := ry; exact eq_int (fin_bl I q dec_int)
    | str j => obtain ⟨t', rfl⟩ := ry; exact PySem.EqMixed.eq_int_str (fin_bl I q (by simp))
    | _ => exact absurd (show false = true from hs) Bool.false_ne_true
  | str i =>
    obtain ⟨t, rfl⟩ := rx
    cases y with
    | non => cases ry; exact PySem.EqNone.eq_str_none (fin_bl I q (by simp))
    | bl j => cases ry; exact PySem.EqMixed.eq_str_bool (fin_bl I q (by simp))
    | int j => obtain ⟨t', rfl⟩ := ry; exact PySem.EqMixed.eq_str_int (fin_bl I q (by simp))
    | str j => obtain ⟨t', rfl⟩ := ry; exact eq_str (fin_bl I q dec_str)
    | _ => exact absurd (show false = true from hs) Bool.false_ne_true
  | byt i =>
    obtain ⟨t, rfl⟩ := rx
    cases y with
    | byt j => obtain ⟨t', rfl⟩ := ry; exact PySem.W.eq_bytes (fin_bl I q dec_byt)
    | _ => exact absurd (show false = true from hs) Bool.false_ne_true
  | _ => cases y <;> exact absurd (show false = true from hs) Bool.false_ne_true
theorem op_ne : OpR X (compareOp .NotEq) rNe := by
  intro pins s σ H x y v u Q I rx ry h
  obtain ⟨hs, q⟩ := h
  cases x with
  | non =>
    cases rx
    cases y with
    | non => cases ry; exact PySem.EqNone.ne_none_none (fin_bl I q (by simp))
    | bl j => cases ry; exact PySem.EqNone.ne_none_bool (fin_bl I q (by simp))
    | int j => obtain ⟨t', rfl⟩ := ry; exact PySem.EqNone.ne_none_int (fin_bl I q (by simp))
    | str j => obtain ⟨t', rfl⟩ := ry; exact PySem.EqNone.ne_none_str (fin_bl I q (by simp))
    | _ => exact absurd (show false = true from hs) Bool.false_ne_true
  | bl i =>
    cases rx
    cases y with
    | non => cases ry; exact PySem.EqNone.ne_bool_none (fin_bl I q (by simp))
    | bl j => cases ry; exact ne_bool (fin_bl I q (congrArg not dec_bl))
    | str j => obtain ⟨t', rfl⟩ := ry; exact PySem.EqMixed.ne_bool_str (fin_bl I q (by simp))
    | _ => exact absurd (show false = true from hs) Bool.false_ne_true
  | int i =>
    obtain ⟨t, rfl⟩ := rx
    cases y with
    | non => cases ry; exact PySem.EqNone.ne_int_none (fin_bl I q (by simp))
    | int j => obtain ⟨t', rfl⟩ := ry; exact ne_int (fin_bl I q (congrArg not dec_int))
    | str j => obtain ⟨t', rfl⟩ := ry; exact PySem.EqMixed.ne_int_str (fin_bl I q (by simp))
    | _ => exact absurd (show false = true from hs) Bool.false_ne_true
  | str i =>
    obtain ⟨t, rfl⟩ := rx
    cases y with
    | non => cases ry; exact PySem.EqNone.ne_str_none (fin_bl I q (by simp))
    | bl j => cases ry; exact PySem.EqMixed.ne_str_bool (fin_bl I q (by simp))
    | int j => obtain ⟨t', rfl⟩ := ry; exact PySem.EqMixed.ne_str_int (fin_bl I q (by simp))
    | str j => obtain ⟨t', rfl⟩ := ry; exact ne_str (fin_bl I q (congrArg not dec_str))
    | _ => exact absurd (show false = true from hs) Bool.false_ne_true
  | byt i =>
    obtain ⟨t, rfl⟩ := rx
    cases y with
    | byt j => obtain ⟨t', rfl⟩ := ry; exact PySem.W.ne_bytes (fin_bl I q (congrArg not dec_byt))
    | _ => exact absurd (show false = true from hs) Bool.false_ne_true
  | _ => cases y <;> exact absurd (show false = true from hs) Bool.false_ne_true

theorem op_lt : OpR X (compareOp .Lt) (rI0 fun i j => .bl (decide (i < j))) := opB0 fun _ _ _ _ _ _ _ q => lt_int q
theorem op_le : OpR X (compareOp .LtE) (rI0 fun i j => .bl (decide (i ≤ j))) := opB0 fun _ _ _ _ _ _ _ q => le_int q
theorem op_gt : OpR X (compareOp .Gt) (rI0 fun i j => .bl (decide (j < i))) := opB0 fun _ _ _ _ _ _ _ q => gt_int q
theorem op_ge : OpR X (compareOp .GtE) (rI0 fun i j => .bl (decide (j ≤ i))) := opB0 fun _ _ _ _ _ _ _ q => ge_int q
theorem nomark (b : Expr) {op : CmpOp} (h : op ≠ .In := by decide) (h2 : op ≠ .NotIn := by decide) : behindInMarks op b = false := by
  have e1 : (op == CmpOp.In) = false := by cases op <;> first | rfl | exact absurd rfl h
  have e2 : (op == CmpOp.NotIn) = false := by cases op <;> first | rfl | exact absurd rfl h2
  cases b <;> simp [behindInMarks, e1, e2]
/-- a comparison as a value; hm: nomark b, or (for in, not in) by with_unfolding_all rfl -/
theorem pe_cmpR {op : CmpOp} {r : R2} (ho : OpR X (compareOp op) r) (ha : PE X a ta) (hb : PE X b tb) (hm : behindInMarks op b = false) : PE X (.Compare a [op] [b] pos) (tOp r ta tb) := by
  intro pins s σ H Q I h
  exact wpAny_Compare1 (binT ha hb I h fun v u s2 x y H2 I2 rx ry q => ho pins s2 σ H2 x y v u Q I2 rx ry q) hm
/-- a reading of a value as a test -/
noncomputable def tTest (t : TE) : TT := fun σ H Q => t σ H fun x H' => ∃ k, x = .bl k ∧ Q k H'
theorem pt_cmpR {op : CmpOp} {r : R2} (ho : OpR X (compareOp op) r) (ha : PE X a ta) (hb : PE X b tb) (hm : behindInMarks op b = false) : PT X (.Compare a [op] [b] pos) (tTest (tOp r ta tb)) := by
  intro pins s σ H Q I h
  refine wpAny_isTrue_Compare1 (thn (ha pins s σ H _ I h) fun v s1 ⟨x, H1, I1, r1, q1⟩ => thn (hb pins s1 σ H1 _ I1 q1) fun u s2 ⟨y, H2, I2, r2, q2⟩ =>
    thn (ho pins s2 σ H2 x y v u _ I2 r1 r2 q2) fun c s3 ⟨z, H3, I3, r3, k, e, q3⟩ => ?_) hm
  subst e
  cases r3
  exact wpAny_truthy_bool ⟨H3, I3, q3⟩
/-! ### truth -/
/-- a value's truth by the abstract heap -/
noncomputable def TruV (K : PySem.W.Frag) (x : V) (H : Hp) (k : Bool) : Prop :=
  match x with
  | .non => k = false
  | .bl b => k = b
  | .int i => k = (i != 0)
  | .str y => y.length ≤ sizeLine ∧ k = ((y.length : Int) != 0)
  | .byt y => y.size ≤ sizeLine ∧ k = ((y.size : Int) != 0)
  | .ref p => (∃ xs, SqL K H p xs ∧ k = !xs.isEmpty) ∨ (∃ xs, SqT K H p xs ∧ k = !xs.isEmpty) ∨ ∃ kvs, H p = some (.dK kvs) ∧ k = !kvs.isEmpty
  | _ => False
theorem isEmpty_kv {κ : Type} {kvs : List (κ × V)} {vs : List (κ × Value)} (r : KV kvs vs) : (!vs.isEmpty) = !kvs.isEmpty := by
  cases r <;> rfl
theorem isEmpty_of {xs : List V} {its : List Value} (r : Vals xs its) : (!its.toArray.isEmpty) = !xs.isEmpty := by
  cases r <;> simp
theorem line63 : (sizeLine : Nat) < 2 ^ 63 := by rw [sizeLine_eq]; decide
theorem tru_ok : TruR X (fun x H Q => ∃ k, TruV X.K x H k ∧ Q k H) := by
  intro pins s σ H x v Q I rx h
  obtain ⟨k, e, q⟩ := h
  have hl := line63
  have hs : sizeLine = 16777216 := sizeLine_eq
  cases x with
  | non =>
    cases rx
    have e' : k = false := e
    subst e'
    exact truthy_none ⟨H, I, q⟩
  | bl b =>
    cases rx
    have e' : k = b := e
    subst e'
    exact wpAny_truthy_bool ⟨H, I, q⟩
  | int i =>
    obtain ⟨t, rfl⟩ := rx
    have e' : k = (i != 0) := e
    subst e'
    exact PySem.P.truthy_int ⟨H, I, q⟩
  | str y =>
    obtain ⟨t, rfl⟩ := rx
    obtain ⟨hy, e'⟩ : y.length ≤ sizeLine ∧ k = ((y.length : Int) != 0) := e
    subst e'
    exact PySem.P.truthy_str (by omega) ⟨H, I.tok _, q⟩
  | byt y =>
    obtain ⟨t, rfl⟩ := rx
    obtain ⟨hy, e'⟩ : y.size ≤ sizeLine ∧ k = ((y.size : Int) != 0) := e
    subst e'
    exact PySem.W.truthy_bytes (by omega) ⟨H, I.tok _, q⟩
  | ref p =>
    cases rx
    have e' : (∃ xs, SqL X.K H p xs ∧ k = !xs.isEmpty) ∨ (∃ xs, SqT X.K H p xs ∧ k = !xs.isEmpty) ∨ ∃ kvs, H p = some (.dK kvs) ∧ k = !kvs.isEmpty := e
    rcases e' with ⟨xs, hx, e'⟩ | ⟨xs, hx, e'⟩ | ⟨kvs, hx, e'⟩
    · subst e'
      obtain ⟨its, r, pl, hz⟩ := I.list hx
      have hlen := r.length
      exact wpAny_truthy_list pl.isList (by simp only [List.size_toArray]; omega) ⟨H, I.tok _, by rw [isEmpty_of r]; exact q⟩
    · subst e'
      obtain ⟨its, r, pl, hz⟩ := I.tuple hx
      have hlen := r.length
      exact truthy_tuple pl (by simp only [List.size_toArray]; omega) ⟨H, I.tok _, by rw [isEmpty_of r]; exact q⟩
    · subst e'
      obtain ⟨hz, hS, vs, r, m⟩ : kvs.length ≤ sizeLine ∧ (p == sysModules) = false ∧ ∃ vs, KV kvs vs ∧ s.heap.DictOf (mixKind X.prog X.w) p vs := I.hok p _ hx
      have hlen : kvs.length = vs.length := Paired.length r
      exact wpAny_truthy_dict hS m (by omega) ⟨H, I.tok _, by rw [isEmpty_kv r]; exact q⟩
  | _ => exact (show False from e).elim
/-- any expression whose test is its value's truth (a name, a call, a subscript, a field ..: he by fun _ => rfl) -/
theorem pt_truth (ha : PE X a ta) (he : ∀ whole, isTrue a X.env whole = (do let v ← whole; standAt a.pos; holding [v] (truthy v))) :
    PT X a (fun σ H Q => ta σ H fun x H' => ∃ k, TruV X.K x H' k ∧ Q k H') := by
  intro pins s σ H Q I h
  exact isTrue_plain (thn (ha pins s σ H _ I h) fun v s1 ⟨x, H1, I1, r1, q1⟩ => tru_ok pins s1 σ H1 x v Q I1 r1 q1) (he _)

/-! ### strs and bytes -/
/-! ### scalar builtins, by CallR -/
theorem vals1 {x : V} {us : List Value} (r : Vals [x] us) : ∃ u, us = [u] ∧ RelV x u := by
  cases r with
  | cons r1 r2 => cases r2; exact ⟨_, rfl, r1⟩
theorem vals2 {x y : V} {us : List Value} (r : Vals [x, y] us) : ∃ u w', us = [u, w'] ∧ RelV x u ∧ RelV y w' := by
  cases r with
  | cons r1 r2 =>
    cases r2 with
    | cons r3 r4 => cases r4; exact ⟨_, _, rfl, r1, r3⟩
theorem call_int1 : CallR X (.type "int") (fun xs H Q => (∃ i, xs = [.int i] ∧ Q (.int i) H) ∨ ∃ k, xs = [.bl k] ∧ Q (.int (if k then 1 else 0)) H) := by
  intro pins s σ H xs us Q I r h
  rcases h with ⟨i, rfl, q⟩ | ⟨k, rfl, q⟩
  · obtain ⟨u, rfl, t, rfl⟩ := vals1 r
    exact call_int_int ⟨.int i, H, I, ⟨_, rfl⟩, q⟩
  · obtain ⟨u, rfl, r1⟩ := vals1 r
    cases r1
    exact call_int_bool ⟨.int (if k then 1 else 0), H, I.tok _, ⟨_, rfl⟩, q⟩
end
end L2

namespace L2
open PySem PySem.Spec PyProof.Rows

/-! ### an instance, its attributes a map -/
structure ObjM (h : Heap) (x dx C : Addr) (mA : Str → Option Value) : Prop where
  obj : h.get? x = some (PySem.W.instObj C dx)
  ns : h.Ns1 dx mA
  ne : dx ≠ x

theorem lookIn_ns {h : Heap} {dx : Addr} {mA : Str → Option Value} (n : h.Ns1 dx mA) : ∃ od, h.get? dx = some od ∧ ∀ name, PySem.W.lookIn name od = some (mA name) := by
  obtain ⟨o, es, ep, ho, hd, hk, _, hm⟩ := n
  refine ⟨o, ho, fun name => ?_⟩
  have e := hm name
  unfold nsFind findBy at e
  rw [← Array.find?_toList] at e
  unfold PySem.W.lookIn
  rw [hd]
  dsimp only
  split
  · rename_i y q
    rw [q] at e
    exact congrArg some e
  · rename_i q
    rw [q] at e
    have a : es.toList.any (·.refKey) = false := by
      rw [List.any_eq_false]
      intro y hy
      obtain ⟨z, t, hkey⟩ := hk y (Array.mem_toList_iff.mp hy)
      simp [DictEntry.refKey, hkey]
    have a' : ¬ es.toList.any (·.refKey) = true := by rw [a]; exact Bool.false_ne_true
    rw [if_neg a']
    exact congrArg some e

theorem ObjM.look {h : Heap} {x dx C : Addr} {mA : Str → Option Value} (I : ObjM h x dx C mA) : ∃ od, PySem.W.InstAt h x (PySem.W.instObj C dx) C (some od) ∧ ∀ name, PySem.W.lookIn name od = some (mA name) :=
  let ⟨od, ho, hl⟩ := lookIn_ns I.ns
  ⟨od, ⟨I.obj, rfl, rfl, ho⟩, hl⟩

section
variable {prog : Program} {w : World} {A : Around} {E : Value → Shared → Prop} {s : Shared} {K : PySem.W.Frag} {x dx C f : Addr} {mA : Str → Option Value} {name : Str} {v : Value}

end

/-! ### the attributes as a list of pairs -/
theorem RelO.some_of {v : V} {o : Option Value} (r : RelO (some v) o) : ∃ u, o = some u ∧ RelV v u := by
  cases o with
  | none => exact (show False from r).elim
  | some u => exact ⟨u, rfl, r⟩
section
variable {P : Program} {w : World} {H H' : Hp} {h h' : Heap} {a C dx : Addr} {fs fs' : List (Str × V)}
theorem ins_get (hok : HOk P w H h) (e : H a = some (.ins C dx fs)) : ∃ mA, ObjM h a dx C mA ∧ (∀ f, RelO (fs.lookup f) (mA f)) ∧ PySem.Within mA (fs.map (·.1)) ∧ fs.length ≤ 1000 ∧ H dx = some (.own a) := by
  obtain ⟨d, z, ne, ob, mA, n, r, q⟩ := (show ObjOk P w H h a (.ins C dx fs) from hok a _ e)
  exact ⟨mA, ⟨ob, n, ne⟩, r, q, z, d⟩
end

/-! ### what of the text a class must have -/
structure Cls (K : PySem.W.Frag) (C : Addr) : Prop where
  pg : PySem.W.plainGet K C Str.empty = true
  hd : PySem.W.hasDictIn K C = true
  po : PySem.W.plainOver K C = true
  sa : PySem.W.findIn K (.ref C) "__setattr__" = some (some (.builtin "object.__setattr__"))
theorem Cls.get {K : PySem.W.Frag} {C : Addr} (c : Cls K C) (f : Str) : PySem.W.plainGet K C f = true := c.pg
section
variable {X : Cx} {pins : List (Addr × Obj)} {σ : St} {H : Hp} {s : Shared} {a C dx : Addr} {fs : List (Str × V)} {f : Str} {v : V} {A : Around} {E : Value → Shared → Prop}

end

/-! ### readings and rules -/
section
variable {X : Cx} {o e value : Expr} {f : Str} {pos pos' tpos : Pos} {ta tv : TE}
end

/-! ### isinstance -/
section
variable {X : Cx} {pins : List (Addr × Obj)} {σ : St} {H : Hp} {s : Shared} {A : Around} {E : Value → Shared → Prop} {Q : Value → Shared → Prop} {c : Value} {b : Bool}
/-- the type of a value, as the fragment's deciders take it; for an instance its class -/
inductive TyOf (K : PySem.W.Frag) (H : Hp) : V → Value → Prop where
  | non : TyOf K H .non (.type "NoneType")
  | bl (x : Bool) : TyOf K H (.bl x) (.type "bool")
  | int (i : Int) : TyOf K H (.int i) (.type "int")
  | str (x : Str) : TyOf K H (.str x) (.type "str")
  | flt (x : UInt64) : TyOf K H (.flt x) (.type "float")
  | lst {a : Addr} {xs : List V} (e : H a = some (.lst xs)) : TyOf K H (.ref a) (.type "list")
  | frz {a : Addr} {o : Obj} {xs : List V} (e : H a = some (.frz o (.lst xs))) : TyOf K H (.ref a) (.type "list")
  | tup {a : Addr} {xs : List V} (e : H a = some (.tup xs)) : TyOf K H (.ref a) (.type "tuple")
  | dK {a : Addr} {kvs : List (Key × V)} (e : H a = some (.dK kvs)) : TyOf K H (.ref a) (.type "dict")
  | dT {a : Addr} {kvs : List (List Key × V)} (e : H a = some (.dT kvs)) : TyOf K H (.ref a) (.type "dict")
  | ins {a C dx : Addr} {fs : List (Str × V)} (e : H a = some (.ins C dx fs)) (cl : Cls K C) (ha : PySem.W.findIn K (.ref C) "__class__" = some (some (.builtin "object.__class__")))
      (hn : PySem.W.specialIn K (.builtin "object.__class__") "__get__" = some (some (.builtin "getset_descriptor.__get__"))) (htk : PySem.W.takesIn K (.builtin "object.__class__") = some true)
      (hm : PySem.W.mroIn K C (.type "object") = some true) : TyOf K H (.ref a) (.ref C)
/-- isinstance(x, c) for one class c, a built-in or an own one: kitOne's answer -/
theorem isinst_ok {x : V} {u t : Value} (I : Inv X pins σ H s) (rx : RelV x u) (ty : TyOf X.K H x t) (e : PySem.W.kitOne X.K t c = some b) (h : ∀ tk, Q (.bool b) { s with toks := tk }) :
    wpAny (model X.prog X.w) A (call (.builtin "isinstance") [u, c]) Q E s := by
  cases ty with
  | non => cases (show u = Value.none from rx); exact PySem.W.kia_one PySem.W.kitx_none I.kIn True.intro e (fun z => nomatch z) h
  | bl y => cases (show u = Value.bool y from rx); exact PySem.W.kia_one PySem.W.kitx_bool I.kIn True.intro e (fun z => nomatch z) h
  | int i => obtain ⟨t, q⟩ := (show ∃ t, u = Value.int i t from rx); cases q; exact PySem.W.kia_one PySem.W.kitx_int I.kIn True.intro e (fun z => nomatch z) h
  | str y => obtain ⟨t, q⟩ := (show ∃ t, u = Value.str y t from rx); cases q; exact PySem.W.kia_one PySem.W.kitx_str I.kIn True.intro e (fun z => nomatch z) h
  | flt y => obtain ⟨t, q⟩ := (show ∃ t, u = Value.float y t from rx); cases q; exact PySem.W.kia_one PySem.W.kitx_float I.kIn True.intro e (fun z => nomatch z) h
  | @lst a xs ea =>
    cases (show u = Value.ref a from rx)
    obtain ⟨_, _, n, _, h1⟩ := (show ObjOk X.prog X.w H s.heap a (.lst xs) from I.hok a _ ea)
    exact PySem.W.kia_one PySem.W.kitx_list I.kIn ⟨_, h1, rfl⟩ e (fun z => nomatch z) h
  | @frz a ob xs ea =>
    cases (show u = Value.ref a from rx)
    obtain ⟨_, _, _, n, _, h1⟩ := (show ObjOk X.prog X.w H s.heap a (.frz ob (.lst xs)) from I.hok a _ ea)
    exact PySem.W.kia_one PySem.W.kitx_list I.kIn ⟨_, h1, rfl⟩ e (fun z => nomatch z) h
  | @tup a xs ea =>
    cases (show u = Value.ref a from rx)
    obtain ⟨_, _, _, p⟩ := (show ObjOk X.prog X.w H s.heap a (.tup xs) from I.hok a _ ea)
    obtain ⟨o, h1, h2, _⟩ := p
    exact PySem.W.kia_one PySem.W.kitx_tuple I.kIn ⟨o, h1, h2⟩ e (fun z => nomatch z) h
  | @dK a kvs ea =>
    cases (show u = Value.ref a from rx)
    obtain ⟨_, _, vs, _, p⟩ := (show ObjOk X.prog X.w H s.heap a (.dK kvs) from I.hok a _ ea)
    obtain ⟨o, es, ep, h1, h2, _⟩ := p
    exact PySem.W.kia_one PySem.W.kitx_dict I.kIn ⟨o, h1, h2.1⟩ e (fun z => nomatch z) h
  | @dT a kvs ea =>
    cases (show u = Value.ref a from rx)
    obtain ⟨_, _, xs, _, o, es, ep, h1, h2, _⟩ := (show ObjOk X.prog X.w H s.heap a (.dT kvs) from I.hok a _ ea)
    exact PySem.W.kia_one PySem.W.kitx_dict I.kIn ⟨o, h1, h2.1⟩ e (fun z => nomatch z) h
  | @ins a C dx fs ea cl ha hn htk hm =>
    cases (show u = Value.ref a from rx)
    obtain ⟨mA, O, _⟩ := ins_get I.hok ea
    obtain ⟨od, J, _⟩ := O.look
    exact PySem.W.kia_one (PySem.W.kitx_own (cl.get _) cl.hd ha hn htk hm) I.kIn J e (fun z => nomatch z) h
end
end L2

namespace L2
open PySem PySem.Spec PyProof.Rows

/-! ### room -/
structure Room (k : Nat) (A : Around) : Prop where
  hd : A.handled = none
  dp : A.depth + 3 * k + 5 < recursionLimit
  un : A.units + 16 * k + 200 < cLine
theorem Room.mono {j k : Nat} {A : Around} (r : Room k A) (h : j ≤ k) : Room j A := ⟨r.hd, by have := r.dp; omega, by have := r.un; omega⟩
theorem Room.deeper {k : Nat} {A : Around} (r : Room (k + 1) A) (env : Env) : Room k (A.deeper env) :=
  ⟨r.hd, by have := r.dp; show A.depth + 1 + 3 * k + 5 < _; omega, by have := r.un; show A.units + 3 + 16 * k + 200 < _; omega⟩
theorem Room.depth {k : Nat} {A : Around} (r : Room k A) : A.depth < recursionLimit := by have := r.dp; omega
theorem Room.units {k : Nat} {A : Around} (r : Room k A) : A.units + 64 < cLine := by have := r.un; omega
/-! ### argument lists and displays -/
noncomputable def tNil : TA := fun _ H Q => Q [] H
noncomputable def tCons (ta : TE) (tr : TA) : TA := fun σ H Q => ta σ H fun x H1 => tr σ H1 fun xs H2 => Q (x :: xs) H2
section
variable {X : Cx} {e : Expr} {es : List Expr} {te : TE} {t : TA} {pos : Pos}
theorem pa_nil : PA X [] tNil := fun _ _ _ _ H Q I h => Calls.spliced_nil ⟨[], H, I, .nil, h⟩
theorem pa_cons (ha : PE X e te) (hr : PA X es t) (hs : starEach (e :: es) X.env = (false, eval e X.env) :: starEach es X.env := by rfl) : PA X (e :: es) (tCons te t) := by
  intro pos pins s σ H Q I h
  rw [hs]
  show wpAny _ _ (spliced ((false, eval e X.env) :: backTo pos (starEach es X.env))) _ _ s
  refine Calls.spliced_cons (thn (ha pins s σ H _ I h) fun u s1 ⟨x, H1, I1, r1, q1⟩ => ?_)
  exact thn (hr pos pins s1 σ H1 _ I1 q1) fun us s2 ⟨xs, H2, I2, r2, q2⟩ => ⟨x :: xs, H2, I2, .cons r1 r2, q2⟩

/-- a tuple, a list of written items -/
noncomputable def tTup (t : TA) : TE := fun σ H Q => t σ H fun xs H1 => xs.length ≤ sizeLine ∧ ∀ p, H1 p = none → Q (.ref p) (upd H1 p (.tup xs))
noncomputable def tLst (t : TA) : TE := fun σ H Q => t σ H fun xs H1 => xs.length ≤ sizeLine ∧ ∀ p, H1 p = none → Q (.ref p) (upd H1 p (.lst xs))
theorem pe_tup {x1} (h : PA X es t) : PE X (.Tuple es x1 pos) (tTup t) := by
  intro pins s σ H Q I hq
  refine wpAny_Tuple_spliced (thn (h pos pins s σ H _ I hq) fun us s1 ⟨xs, H1, I1, r, z, q⟩ => ⟨by rw [← r.length]; exact z, ?_⟩)
  have hf : H1 s1.heap.objs.size = none := I1.hok.fresh (Nat.le_refl _)
  refine ⟨.ref s1.heap.objs.size, upd H1 s1.heap.objs.size (.tup xs), I1.laid (t' := s1.toks) (fun b u e => Heap.get?_push_of_some _ e) (Nat.le_refl _) ?_, rfl, q _ hf⟩
  exact ⟨z, us, r, ⟨_, Heap.get?_push_size _ rfl, rfl, _, rfl⟩⟩
theorem pe_lst (h : PA X es t) : PE X (.List es pos) (tLst t) := by
  intro pins s σ H Q I hq
  refine wpAny_List_spliced (thn (h pos pins s σ H _ I hq) fun us s1 ⟨xs, H1, I1, r, z, q⟩ => ⟨by rw [← r.length]; exact z, ?_⟩)
  have hf : H1 s1.heap.objs.size = none := I1.hok.fresh (Nat.le_refl _)
  refine ⟨.ref s1.heap.objs.size, upd H1 s1.heap.objs.size (.lst xs), I1.laid (t' := s1.toks) (fun b u e => Heap.get?_push_of_some _ e) (Nat.le_refl _) ?_, rfl, q _ hf⟩
  exact ⟨z, us, 0, r, Heap.get?_push_size _ rfl⟩
end

/-! ### what a def promises -/
/-- a def's promise: the bound arguments in the parameters' order, the heap, the wanted end, the wanted exception -/
noncomputable abbrev Sp := List V → Hp → VK → XK → Prop
/-- how an exception lies behind a call (file 08 gives it): the callers' frames, abstract heap and state ahead of the call, the wish, the exception, the state -/
noncomputable abbrev CXT := List Env → Hp → Shared → XK → Value → Shared → Prop

/-- the state at a call -/
structure Env0 (P : Program) (w : World) (K : PySem.W.Frag) (mg : Str → Option Value) (base : Heap) (A : Around) (outer : List Env) (s : Shared) (H : Hp) : Prop where
  frames : A.frames = some outer
  mod : Mod K mg base
  bs : ∀ b o, base.get? b = some o → s.heap.get? b = some o ∧ H b = none
  bsz : base.objs.size ≤ s.heap.objs.size
  funs : s.heap.FunFrames base outer
  frf : ∀ b ∈ frs outer, H b = none
  hok : HOk P w H s.heap
  bare : AllBare s.gens
/-- a call's end -/
noncomputable def CE (outer : List Env) (P : Program) (w : World) (H : Hp) (s : Shared) (Q : VK) (u : Value) (s' : Shared) : Prop :=
  ∃ v H', s'.os = s.os ∧ AllBare s'.gens ∧ Un (frs outer) [] H H' s.heap s'.heap ∧ HOk P w H' s'.heap ∧ RelV v u ∧ Q v H'
noncomputable def CR (CX : CXT) (outer : List Env) (P : Program) (w : World) (H : Hp) (s : Shared) (Q : VK) (E : XK) (r : Result) (s' : Shared) : Prop :=
  match r with
  | .ok (.ret u) => CE outer P w H s Q u s'
  | .ok _ => False
  | .error e => CX outer H s E e s'
structure FnOk (P : Program) (w : World) (K : PySem.W.Frag) (mg : Str → Option Value) (base : Heap) (CX : CXT) (k : Nat) (f : Addr) (fd : FuncData) (ps : List Str) (sp : Sp) : Prop where
  len : ∀ vs H Q E, sp vs H Q E → vs.length = ps.length
  run : ∀ (A : Around) (outer : List Env) (s : Shared) (H : Hp) (args : Args) (us : List Value) (vs : List V) (Q : VK) (E : XK), Room k A → Env0 P w K mg base A outer s H → BindsTo s fd args (ps.zip us) → Vals vs us → sp vs H Q E →
    codeAny (model P w) A (.call (.ref f) args) (CR CX outer P w H s Q E) s
theorem FnOk.mono {P : Program} {w : World} {K : PySem.W.Frag} {mg : Str → Option Value} {base : Heap} {CX : CXT} {j k : Nat} {f : Addr} {fd : FuncData} {ps : List Str} {sp : Sp} (F : FnOk P w K mg base CX j f fd ps sp) (h : j ≤ k) :
    FnOk P w K mg base CX k f fd ps sp := ⟨F.len, fun A outer s H args us vs Q E hr => F.run A outer s H args us vs Q E (hr.mono h)⟩
section
variable {X : Cx} {pins : List (Addr × Obj)} {σ : St} {H : Hp} {s s' : Shared}
/-- from a body: what a callee wants -/
theorem Inv.env0 (I : Inv X pins σ H s) : Env0 X.prog X.w X.K X.mg X.base X.A X.stack s H :=
  ⟨I.ok.frames, I.ok.mod, I.bs, Nat.le_trans I.ok.bsz I.sz, I.stack, I.stkFree, I.hok, I.bare⟩
/-- behind a call -/
theorem Inv.after {Q : VK} {u : Value} (I : Inv X pins σ H s) (h : CE X.stack X.prog X.w H s Q u s') : EP X pins σ Q u s' := by
  obtain ⟨v, H', os, bare, un, hok, r, q⟩ := h
  obtain ⟨hh, g, d, t, os'⟩ := s'
  obtain rfl : os' = s.os := os
  exact ⟨v, H', I.call (h' := hh) (g' := g) (d' := d) (t' := t) (ch := []) un hok bare (fun b z => absurd z (by simp)), r, q⟩
end

/-! ### calls -/
/-- f(..): the written arguments, then the defaults dvs; E: what is wanted of an exception -/
noncomputable def tCall (sp : Sp) (dvs : List V) (E : XK) (t : TA) : TE := fun σ H Q => t σ H fun vs H1 => sp (vs ++ dvs) H1 Q E
/-- how the parameters are bound: us the positional arguments, kw the keywords' values by name, ds the defaults that fill up -/
noncomputable def Binds (K : PySem.W.Frag) (fd : FuncData) (ps : List Str) (ds : List Value) : Prop :=
  ∀ (s : Shared) (us : List Value), K.In s.heap → (us ++ ds).length = ps.length → BindsTo s fd ⟨us, []⟩ (ps.zip (us ++ ds))
/-- every parameter is given -/
theorem Binds.all {K : PySem.W.Frag} {fd : FuncData} {ps : List Str} (h : ∀ us : List Value, us.length = ps.length → bindArgs fd ⟨us, []⟩ = pure (ps.zip us)) : Binds K fd ps [] := fun s us _ hl => by
  rw [List.append_nil] at hl ⊢
  exact .of_eq (h us hl)

/-- an exception of a callee reaches what this body wants of exceptions -/
noncomputable def Passes (CX : CXT) (X : Cx) (E : XK) : Prop := ∀ (pins : List (Addr × Obj)) (σ : St) (H : Hp) (s : Shared) (e : Value) (s' : Shared), Inv X pins σ H s → CX X.stack H s E e s' → X.xe e s'

section
variable {X : Cx} {CX : CXT} {k : Nat} {f C : Addr} {fd : FuncData} {ps : List Str} {sp : Sp} {dvs : List V} {ds : List Value} {E : XK} {x m : Str} {p pos apos : Pos} {e o : Expr} {es : List Expr} {ta : TE} {t : TA}

/-- the callee runs -/
theorem run_fn {pins : List (Addr × Obj)} {σ : St} {H : Hp} {s : Shared} {Q : VK} {us : List Value} {vs : List V} (F : FnOk X.prog X.w X.K X.mg X.base CX k f fd ps sp) (hr : Room k X.A) (hb : Binds X.K fd ps ds) (hd : Vals dvs ds) (hx : Passes CX X E)
    (I : Inv X pins σ H s) (r : Vals vs us) (h : sp (vs ++ dvs) H Q E) : wpAny (model X.prog X.w) X.A (call (.ref f) us) (EP X pins σ Q) X.xe s := by
  have r2 : Vals (vs ++ dvs) (us ++ ds) := r.append hd
  have hl : (us ++ ds).length = ps.length := by rw [← r2.length]; exact F.len _ _ _ _ h
  refine wpAny_call (codeAny_mono (F.run X.A X.stack s H ⟨us, []⟩ (us ++ ds) (vs ++ dvs) Q E hr I.env0 (hb s us I.kIn hl) r2 h) fun r s' hq => ?_)
  cases r with
  | error e => exact hx pins σ H s e s' I hq
  | ok fl =>
    cases fl with
    | ret u => exact I.after hq
    | next => exact False.elim hq
    | brk => exact False.elim hq
    | cont => exact False.elim hq

theorem pe_call (F : FnOk X.prog X.w X.K X.mg X.base CX k f fd ps sp) (hr : Room k X.A) (hg : Gl X x) (hm : X.mg x = some (.ref f)) (hk : PySem.W.keepIn X.K (.ref f) = true) (hb : Binds X.K fd ps ds) (hd : Vals dvs ds) (hx : Passes CX X E)
    (ha : PA X (e :: es) t) (hdb : (x == ("__debug__" : Str)) = false := by decide) (he : starEach (e :: es) X.env = (false, eval e X.env) :: starEach es X.env := by rfl) (hpl : (backTo pos (starEach es X.env)).any (·.1) = false := by rfl) :
    PE X (.Call (.Name x p) (e :: es) [] pos) (tCall sp dvs E t) := by
  intro pins s σ H Q I h
  refine wpAny_Call_Name_kw (ld_glob I hg hm ?_ hdb)
  refine PySem.W.callWith_K (h₀ := X.base) I.ok.mod.kin hk (thn (ha pos pins s σ H _ I h) fun us s1 ⟨vs, H1, I1, r, q⟩ => ⟨I1.kIn, ?_⟩) he hpl
  exact run_fn F hr hb hd hx I1 r q
end

/-! ### keywords -/
section
variable {X : Cx} {CX : CXT} {k : Nat} {f C : Addr} {fd : FuncData} {ps ks : List Str} {sp : Sp} {E : XK} {x m : Str} {p pos apos kpos : Pos} {e o : Expr} {es : List Expr} {kws : List Keyword} {te ta : TE} {t tk : TA} {nm : Option Str}
variable {g : List Value → List Value → List Value} {gV : List V → List V → List V}
end

/-! ### a def's body keeps its promise -/
/-- names: the parameters first -/
structure FnScope (N P : List Str) (sc : Scope) : Prop where
  kind : sc.kind = .function
  co : sc.isCoroutine = false
  gen : sc.isGenerator = false
  nd : N.Nodup
  pre : N.take P.length = P
  par : ∀ x ∈ P, sc.names.lookup x = some .local ∨ sc.names.lookup x = some .cell
  nofree : ∀ y ∈ sc.names, y.2 ≠ .free

theorem bindL_out {kindOf : Str → Option NameKind} {x : Str} : ∀ {binds : List (Str × Value)} {m : Str → Option Value}, (∀ v, (x, v) ∉ binds) → bindL kindOf binds m x = m x
  | [], _, _ => rfl
  | (n, v) :: r, m, h => by
    unfold bindL
    rw [bindL_out fun w hw => h w (List.mem_cons_of_mem _ hw)]
    split
    · have : x ≠ n := by rintro rfl; exact h v List.mem_cons_self
      simp [this]
    · rfl
theorem bindC_out {kindOf : Str → Option NameKind} {x : Str} : ∀ {binds : List (Str × Value)} {m : Str → Option Value}, (∀ v, (x, v) ∉ binds) → bindC kindOf binds m x = m x
  | [], _, _ => rfl
  | (n, v) :: r, m, h => by
    unfold bindC
    rw [bindC_out fun w hw => h w (List.mem_cons_of_mem _ hw)]
    split
    · rfl
    · have : x ≠ n := by rintro rfl; exact h v List.mem_cons_self
      simp [this]
theorem bindL_get {kindOf : Str → Option NameKind} {x : Str} {v : Value} : ∀ {P : List Str} {vs : List Value} {i : Nat} {m : Str → Option Value}, P.Nodup → P[i]? = some x → vs[i]? = some v → kindOf x = some .local →
    bindL kindOf (P.zip vs) m x = some v
  | [], _, _, _, _, h, _, _ => by simp at h
  | _ :: _, [], _, _, _, _, h, _ => by simp at h
  | p :: P, w :: vs, 0, m, nd, h1, h2, hk => by
    simp at h1 h2; subst h1; subst h2
    show bindL kindOf ((p, w) :: P.zip vs) m p = _
    unfold bindL
    rw [bindL_out fun v hv => (List.nodup_cons.mp nd).1 (List.of_mem_zip hv).1, if_pos hk]
    simp
  | p :: P, w :: vs, i + 1, m, nd, h1, h2, hk => by
    show bindL kindOf ((p, w) :: P.zip vs) m x = _
    unfold bindL
    exact bindL_get (i := i) (List.nodup_cons.mp nd).2 (by simpa using h1) (by simpa using h2) hk
theorem bindC_get {kindOf : Str → Option NameKind} {x : Str} {v : Value} : ∀ {P : List Str} {vs : List Value} {i : Nat} {m : Str → Option Value}, P.Nodup → P[i]? = some x → vs[i]? = some v → kindOf x ≠ some .local →
    bindC kindOf (P.zip vs) m x = some v
  | [], _, _, _, _, h, _, _ => by simp at h
  | _ :: _, [], _, _, _, _, h, _ => by simp at h
  | p :: P, w :: vs, 0, m, nd, h1, h2, hk => by
    simp at h1 h2; subst h1; subst h2
    show bindC kindOf ((p, w) :: P.zip vs) m p = _
    unfold bindC
    rw [bindC_out fun v hv => (List.nodup_cons.mp nd).1 (List.of_mem_zip hv).1, if_neg hk]
    simp
  | p :: P, w :: vs, i + 1, m, nd, h1, h2, hk => by
    show bindC kindOf ((p, w) :: P.zip vs) m x = _
    unfold bindC
    exact bindC_get (i := i) (List.nodup_cons.mp nd).2 (by simpa using h1) (by simpa using h2) hk

/-- the names' values at the entry -/
noncomputable def start (N : List Str) (vs : List V) : St := vs.map some ++ List.replicate (N.length - vs.length) none

/-- the context of a def's body, at its entry; an exception leaves the frame, then lies as CX says -/
noncomputable def cxOf (CX : CXT) (P : Program) (w : World) (K : PySem.W.Frag) (mg : Str → Option Value) (base : Heap) (N : List Str) (qual : Str) (scope : Scope) (f : Addr) (cd : Value) (A : Around) (outer : List Env) (s : Shared) (H : Hp) (E : XK) : Cx where
  prog := P
  w := w
  K := K
  mg := mg
  base := base
  A := A.deeper (envOfC qual scope s.heap.objs.size f cd)
  N := N
  s₀ := s
  H₀ := H
  env := envOfC qual scope s.heap.objs.size f cd
  outer := outer
  stack := envOfC qual scope s.heap.objs.size f cd :: outer
  ex := []
  calm := true
  fn := fun _ => true
  pn := []
  xe := fun e s' => wpAny (model P w) (A.deeper (envOfC qual scope s.heap.objs.size f cd)) (leaving (envOfC qual scope s.heap.objs.size f cd) e) (fun _ s'' => CX outer H s E e s'') (fun e' s'' => CX outer H s E e' s'') s'

theorem cell_has {sc : Scope} {n : Nat} {x : Str} (h : sc.names.lookup x = some .cell) : ∃ c, (cellsFrom n sc.names []).lookup x = some c := by
  have q := PySem.W.cellsFrom_some sc.names n [] (.inl h)
  exact Option.isSome_iff_exists.mp q

theorem inv_start {CX : CXT} {P : Program} {w : World} {K : PySem.W.Frag} {mg : Str → Option Value} {base : Heap} {N ps : List Str} {qual : Str} {scope : Scope} {f : Addr} {cd : Value} {A : Around} {outer : List Env} {s s1 : Shared} {H : Hp} {E : XK} {us : List Value} {vs : List V}
    (S : FnScope N ps scope) (hd : A.handled = none) (e0 : Env0 P w K mg base A outer s H) (hl : vs.length = ps.length) (r : Vals vs us)
    (x : InCallC s s.heap.objs.size (bindL (envOfC qual scope s.heap.objs.size f cd).kindOf (ps.zip us) fun _ => none) (cellsFrom (s.heap.objs.size + 1) scope.names []) (bindC (envOfC qual scope s.heap.objs.size f cd).kindOf (ps.zip us) fun _ => none) s1) :
    Inv (cxOf CX P w K mg base N qual scope f cd A outer s H E) [] (start N vs) H s1 := by
  have hpl : ps.length ≤ N.length := by have := congrArg List.length S.pre; rw [List.length_take] at this; omega
  obtain ⟨h1, tk, rfl, hk⟩ := x.done
  have noA : ∀ b : Addr, b ∉ (cxOf CX P w K mg base N qual scope f cd A outer s H E).ex := fun b z => absurd (show b ∈ ([] : List Addr) from z) (by simp)
  refine ⟨⟨e0.mod, S.kind, rfl, rfl, Nat.le_refl _, fun y z c h1 h2 => ?_, fun y hy => ?_, fun y c _ h => ?_, fun _ => hd, Around.frames_deeper e0.frames, .inr ⟨rfl, rfl⟩, fun b z => absurd z (noA b), e0.bs, e0.bsz, fun b _ _ => noA b, fun b z => absurd z (noA b), e0.funs, e0.frf⟩,
    rfl, e0.bare, Un.kept hk, ⟨_, x.toInCall.ns, fun i y v h1 h2 h3 => ?_⟩, fun y c h => ⟨_, x.cell y c h⟩, e0.hok.fresh (Nat.le_refl _), fun y c h => ?_, fun p hp => absurd (show p ∈ ([] : List (Addr × Obj)) from hp) (by simp), e0.hok.kept hk, ?_⟩
  · exact name_of_addr x.apart (PySem.mem_of_lookup h1) (PySem.mem_of_lookup h2)
  · have hy : scope.names.lookup y = some .cell ∨ scope.names.lookup y = some .free := hy
    rcases hy with hy | hy
    · exact cell_has hy
    · exact absurd rfl (S.nofree _ (PySem.mem_of_lookup hy))
  · exact Nat.le_of_lt (x.above y c (PySem.mem_of_lookup h))
  · have hi : i < vs.length := by
      unfold start at h2
      by_cases hi : i < vs.length
      · exact hi
      · rw [List.getElem?_append_right (by simpa using hi)] at h2
        rw [List.getElem?_replicate] at h2
        split at h2 <;> cases h2
    have ha : vs[i]? = some v := by
      unfold start at h2
      rw [List.getElem?_append_left (by simpa using hi), List.getElem?_map] at h2
      cases e : vs[i]? with
      | none => rw [e] at h2; cases h2
      | some a => rw [e] at h2; cases h2; rfl
    obtain ⟨u, hu, rv⟩ := r.get ha
    have hp : ps[i]? = some y := by
      rw [← S.pre, List.getElem?_take_of_lt (by omega)]; exact h1
    have ndP : ps.Nodup := by rw [← S.pre]; exact S.nd.sublist (List.take_sublist _ _)
    refine ⟨u, rv, ?_⟩
    rcases S.par y (List.mem_of_getElem? hp) with k | k
    · exact .inl ⟨k, bindL_get ndP hp hu k⟩
    · obtain ⟨c, e⟩ := cell_has (n := s.heap.objs.size + 1) k
      refine .inr ⟨.inl k, c, e, ?_⟩
      have q := x.cell y c e
      rw [bindC_get ndP hp hu (by show scope.names.lookup y ≠ _; rw [k]; decide)] at q
      exact q
  · exact e0.hok.fresh (Nat.le_of_lt (x.above y c (PySem.mem_of_lookup h)))
  · unfold start
    show _ = N.length
    rw [List.length_append, List.length_map, List.length_replicate]
    omega

/-- THE RULE: a def (or a method) of the text, by its body. The body's reading t is chosen for each entry; it is run at the parameters' values -/
theorem fn_of {CX : CXT} {P : Program} {w : World} {K : PySem.W.Frag} {mg : Str → Option Value} {base : Heap} {k : Nat} {f : Addr} {name qual : Str} {params : Arguments} {body : List Stmt} {scope : Scope} {dV kV doc pm cdv ct oc : Value} {an od : Option Addr}
    {osl : Array (Option Value)} {N ps : List Str} {sp : Sp} (lk : K.lookup f = some ⟨oc, od, .func (PySem.W.fnOf name qual params body scope dV kV doc pm an cdv ct), osl⟩) (hcd : PySem.W.codeIn K cdv qual = true) (S : FnScope N ps scope)
    (len : ∀ vs H Q E, sp vs H Q E → vs.length = ps.length)
    (hbody : ∀ (A : Around) (outer : List Env) (s : Shared) (H : Hp) (vs : List V) (Q : VK) (E : XK), Room k (A.deeper (envOfC qual scope s.heap.objs.size f cdv)) → sp vs H Q E →
      ∃ t, PSs (cxOf CX P w K mg base N qual scope f cdv A outer s H E) body t ∧ t { nx := fun _ H' => Q .non H', rt := Q } (start N vs) H) :
    FnOk P w K mg base CX (k + 1) f (PySem.W.fnOf name qual params body scope dV kV doc pm an cdv ct) ps sp := by
  refine ⟨len, fun A outer s H args us vs Q E hr e0 hb r hsp => ?_⟩
  have hl := len _ _ _ _ hsp
  have KX : K.In s.heap := e0.mod.kin.keeps fun b o e => (e0.bs b o e).1
  have lim : s.heap.NoLimit := e0.mod.nolimit.keeps fun b o e => (e0.bs b o e).1
  have hkind : ∀ y ∈ ps.zip us, scope.names.lookup y.1 = some .local ∨ (scope.names.lookup y.1 = some .cell ∧ ((cellsFrom (s.heap.objs.size + 1) scope.names []).lookup y.1).isSome = true) := fun ⟨n, v⟩ hy => by
    rcases S.par n (List.of_mem_zip hy).1 with q | q
    · exact .inl q
    · exact .inr ⟨q, PySem.W.cellsFrom_some _ _ _ (.inl q)⟩
  refine codeAny_call_function hr.depth (KX _ _ lk) rfl S.co S.gen rfl (PySem.W.codeRec_of KX hcd) (hb _ _ _ _ ?_)
  refine wpAny_newFunctionEnv_cells S.kind hkind fun env he s1 x => ?_
  subst he
  refine ⟨lim.keeps x.toInCall.keep, codeAny_func ?_⟩
  obtain ⟨t, ht, hq⟩ := hbody A outer s H vs Q E (hr.deeper _) hsp
  have I : Inv (cxOf CX P w K mg base N qual scope f cdv A outer s H E) [] (start N vs) H s1 := inv_start S hr.hd e0 hl r x
  refine wpAny_mono (ht [] s1 (start N vs) H _ I hq) (fun fl s' hs => ?_) fun e s' hs => hs
  have fin : ∀ {σ' : St} {H' : Hp} {v : V} {u : Value}, Inv (cxOf CX P w K mg base N qual scope f cdv A outer s H E) [] σ' H' s' → RelV v u → Q v H' → CE outer P w H s Q u s' :=
    fun {σ' H' v u} J rv q => ⟨v, H', J.os, J.bare, J.base, J.hok, rv, q⟩
  cases fl with
  | ret u =>
    obtain ⟨v, σ', H', J, rv, q⟩ := hs
    exact fin J rv q
  | next =>
    obtain ⟨σ', H', J, q⟩ := hs
    exact fin (v := V.non) (u := Value.none) J rfl q
  | brk =>
    obtain ⟨_, _, _, q⟩ := hs
    exact False.elim q
  | cont =>
    obtain ⟨_, _, _, q⟩ := hs
    exact False.elim q
end L2

namespace L2
open PySem PySem.Spec PyProof.Rows
section
variable {X : Cx} {x : Str} {p pos : Pos} {e : Expr} {es : List Expr} {t : TA} {id T : String} {r : List V → Hp → VK → Prop}

noncomputable def tCB (r : List V → Hp → VK → Prop) (t : TA) : TE := fun σ H Q => t σ H fun vs H1 => r vs H1 Q
/-- f(e, ..), f a built-in function -/
theorem pe_callB (hc : CallR X (.builtin id) r) (hg : Gl X x) (hm : X.mg x = none) (hv : bootBuiltins x = some (.builtin id)) (ha : PA X (e :: es) t) (hn : x ≠ "__name__" := by decide) (hdb : (x == ("__debug__" : Str)) = false := by decide)
    (he : starEach (e :: es) X.env = (false, eval e X.env) :: starEach es X.env := by rfl) (hpl : (backTo pos (starEach es X.env)).any (·.1) = false := by rfl) : PE X (.Call (.Name x p) (e :: es) [] pos) (tCB r t) := by
  intro pins s σ H Q I h
  refine wpAny_Call_Name_kw (ld_blt I hg hm hv ?_ hn hdb)
  exact PyProof.Rows.callWith_builtin1 (thn (ha pos pins s σ H _ I h) fun us s1 ⟨vs, H1, I1, r1, q1⟩ => hc pins s1 σ H1 vs us Q I1 r1 q1) he hpl
/-- T(e, ..), T a built-in type -/
theorem pe_callTy (hc : CallR X (.type T) r) (hg : Gl X x) (hm : X.mg x = none) (hv : bootBuiltins x = some (.type T)) (ha : PA X (e :: es) t) (hn : x ≠ "__name__" := by decide) (hdb : (x == ("__debug__" : Str)) = false := by decide)
    (he : starEach (e :: es) X.env = (false, eval e X.env) :: starEach es X.env := by rfl) (hpl : (backTo pos (starEach es X.env)).any (·.1) = false := by rfl) : PE X (.Call (.Name x p) (e :: es) [] pos) (tCB r t) := by
  intro pins s σ H Q I h
  refine wpAny_Call_Name_kw (ld_blt I hg hm hv ?_ hn hdb)
  exact PyProof.Rows.callWith_type1 (thn (ha pos pins s σ H _ I h) fun us s1 ⟨vs, H1, I1, r1, q1⟩ => hc pins s1 σ H1 vs us Q I1 r1 q1) he hpl
end
end L2

namespace HT
open PySem PyProof.Rows

section
open PySem.SeqAt
open PySem.AutoSeq1 (wpAny_loadPart')
open PySem.MeetsSeq PySem.MeetsSeq2 PySem.MeetsSeq3

end

section
variable {prog : Program} {w : World} {A : Around} {E : Value → Shared → Prop} {s : Shared}

/-- t + u, t not empty -/
theorem cat_tup {t b : Addr} {vs ws : List Value} {Q : Value → Shared → Prop} (ht : IsTup s.heap t vs.toArray) (hb : IsTup s.heap b ws.toArray) (hv : vs ≠ [])
    (h1 : ws = [] → Q (.ref t) s) (h2 : ws ≠ [] → Q (.ref s.heap.objs.size) { s with heap := s.heap.push { cls := .type "tuple", data := .seq (vs ++ ws).toArray } })
    (hsz : vs.length + ws.length ≤ sizeLine) : wpAny (model prog w) A (binaryOp .Add (.ref t) (.ref b)) Q E s := by
  obtain ⟨⟨cls, dd, data, sl⟩, ho, hc, n, hd⟩ := id ht
  obtain ⟨⟨cls2, dd2, data2, sl2⟩, ho2, hc2, n2, hd2⟩ := id hb
  simp only at hc hd hc2 hd2
  subst hc hd hc2 hd2
  have e : vs.toArray ++ ws.toArray = (vs ++ ws).toArray := by simp
  by_cases hw : ws = []
  · exact concat_meets ⟨_, ho, rfl⟩ ⟨_, ho2, rfl⟩ noFill_tuple_add seq_tuple_add PySem.F.slot_tuple_add PySem.F.entry_tuple_add (PySem.F.args_tuple_add_2 _ _)
      (tuple_addW1 t b vs.toArray ws.toArray n n2 dd dd2 sl sl2 (by simpa using hv) (by simp [hw])) ⟨ho, ho2, h1 hw⟩
  · refine concat_meets ⟨_, ho, rfl⟩ ⟨_, ho2, rfl⟩ noFill_tuple_add seq_tuple_add PySem.F.slot_tuple_add PySem.F.entry_tuple_add (PySem.F.args_tuple_add_2 _ _)
      (tuple_addW2 t b vs.toArray ws.toArray n n2 dd dd2 sl sl2 (by simpa using hv) (by simpa using hw) (by rw [List.size_toArray, List.size_toArray]; exact hsz)) ⟨ho, ho2, ?_⟩
    rw [e]
    exact h2 hw

/-! ### t[a:b], not the whole -/
/-- a slice's bound as a place among n (d where it is left out) -/
noncomputable def sIx (n d : Nat) : Option Int → Nat
  | none => d
  | some v => if v < 0 then (v + (n : Int)).toNat else min v.toNat n
theorem sIx_none (n d : Nat) : sIx n d none = d := rfl
theorem sIx_nat (n d k : Nat) : sIx n d (some (k : Int)) = min k n := by
  show (if (k : Int) < 0 then ((k : Int) + (n : Int)).toNat else min (k : Int).toNat n) = min k n
  rw [if_neg (by omega), Int.toNat_natCast]
theorem sIx_le (n d : Nat) (hd : d ≤ n) (o : Option Int) : sIx n d o ≤ n := by
  cases o with
  | none => exact hd
  | some v =>
    show (if v < 0 then (v + (n : Int)).toNat else min v.toNat n) ≤ n
    by_cases hv : v < 0
    · rw [if_pos hv]; omega
    · rw [if_neg hv]; exact Nat.min_le_right _ _
theorem clip_eq (v : Int) (n d : Nat) : (if v < 0 then max (v + (n : Int)) 0 else min v (n : Int)) = ((sIx n d (some v) : Nat) : Int) := by
  show (if v < 0 then max (v + (n : Int)) 0 else min v (n : Int)) = (((if v < 0 then (v + (n : Int)).toNat else min v.toNat n) : Nat) : Int)
  by_cases hv : v < 0
  · simp only [if_pos hv]; omega
  · simp only [if_neg hv]; omega
theorem adjust_gen (lo hi : Option Int) (n : Nat) : Builtin.Slice.sliceAdjust lo hi 1 (n : Int) = (((sIx n 0 lo : Nat) : Int), ((sIx n n hi : Nat) : Int)) := by
  have h1 : ¬ ((1 : Int) < 0) := by omega
  unfold Builtin.Slice.sliceAdjust
  simp only [h1, if_false]
  refine Prod.ext ?_ ?_
  · cases lo with
    | none => rfl
    | some v => exact clip_eq v n 0
  · cases hi with
    | none => rfl
    | some v => exact clip_eq v n n
theorem places_gen (i j : Nat) : Builtin.Slice.slicePlaces (i : Int) (j : Int) 1 = j - i := by
  unfold Builtin.Slice.slicePlaces
  have h1 : (1 : Int) > 0 := by omega
  simp only [h1, if_true, Int.ediv_one]
  split <;> omega
theorem slicePart_ {v : Value} {o : Option Int} {Q : Option Int → Shared → Prop} (p : IsPart v o) (h : Q o s) : wpAny (model prog w) A (Builtin.Slice.slicePartIndex v) Q E s := by
  cases p with
  | none => exact slicePart_none h
  | int i t => exact slicePart_int h
theorem sliceApplied_gen {sl : Addr} {vl vu : Value} {lo hi : Option Int} {n : Nat} {Q : Int × Int × Nat → Shared → Prop} (hs : s.heap.IsSliceOf sl vl vu .none) (pl : IsPart vl lo) (pu : IsPart vu hi)
    (h : Q (((sIx n 0 lo : Nat) : Int), 1, sIx n n hi - sIx n 0 lo) s) : wpAny (model prog w) A (Builtin.Slice.sliceApplied (.ref sl) (pure (n : Int))) Q E s := by
  obtain ⟨os, hos, hcs, hds⟩ := id hs
  unfold Builtin.Slice.sliceApplied Builtin.Slice.sliceFields
  refine wpAny_bind (wpAny_bind (wpAny_field hos hds (x := vl) rfl (wpAny_bind (wpAny_field hos hds (x := vu) rfl (wpAny_bind (wpAny_field hos hds (x := .none) rfl (wpAny_pure ?_)))))))
  refine wpAny_bind (slicePart_none ?_)
  show wpAny _ _ (if ((1 : Int) == 0) = true then _ else _) _ _ s
  rw [if_neg (by decide)]
  refine wpAny_bind (slicePart_ pl (wpAny_bind (slicePart_ pu (wpAny_bind (wpAny_pure ?_)))))
  show wpAny _ _ (match Builtin.Slice.sliceAdjust lo hi 1 (n : Int) with | (lo, hi) => pure (lo, (1 : Int), Builtin.Slice.slicePlaces lo hi 1)) _ _ s
  rw [adjust_gen lo hi n]
  show wpAny _ _ (pure (((sIx n 0 lo : Nat) : Int), (1 : Int), Builtin.Slice.slicePlaces ((sIx n 0 lo : Nat) : Int) ((sIx n n hi : Nat) : Int) 1)) _ _ s
  rw [places_gen]
  exact wpAny_pure h
theorem pick_gen (xs : Array Value) (i k : Nat) : ((List.range k).filterMap fun (m : Nat) => xs[((i : Int) + (m : Int) * 1).toNat]?).toArray = ((xs.toList.drop i).take k).toArray := by
  have e : (fun (m : Nat) => xs[((i : Int) + (m : Int) * 1).toNat]?) = fun m => xs[i + m]? := by
    funext m
    have : ((i : Int) + (m : Int) * 1).toNat = i + m := by omega
    rw [this]
  rw [e]
  have := pick_run xs i k
  rw [List.filterMap_map] at this
  have e2 : ((fun x => xs[x]?) ∘ fun x => i + x) = fun m => xs[i + m]? := rfl
  rw [e2] at this
  rw [this]

theorem getItem_tuple_cut {t sl : Addr} {items : Array Value} {vl vu : Value} {lo hi : Option Int} {Q : Value → Shared → Prop} (ht : IsTup s.heap t items) (hs : s.heap.IsSliceOf sl vl vu .none) (pl : IsPart vl lo) (pu : IsPart vu hi)
    (hw : ¬ (sIx items.size 0 lo = 0 ∧ sIx items.size items.size hi = items.size))
    (h : Q (.ref s.heap.objs.size) { s with heap := s.heap.push { cls := .type "tuple", data := .seq ((items.toList.drop (sIx items.size 0 lo)).take (sIx items.size items.size hi - sIx items.size 0 lo)).toArray } })
    (hsz : items.size ≤ sizeLine) : wpAny (model prog w) A (getItem (.ref t) (.ref sl)) Q E s := by
  have htake : sizeOk (.seq ((items.toList.drop (sIx items.size 0 lo)).take (sIx items.size items.size hi - sIx items.size 0 lo)).toArray) := by
    show ((items.toList.drop (sIx items.size 0 lo)).take (sIx items.size items.size hi - sIx items.size 0 lo)).toArray.size ≤ sizeLine
    rw [List.size_toArray, List.length_take, List.length_drop, Array.length_toList]
    omega
  have hj : sIx items.size items.size hi ≤ items.size := sIx_le _ _ (Nat.le_refl _) hi
  obtain ⟨os, hos, hcs, hds⟩ := id hs
  have hTs : s.TypeIs (.ref sl) "slice" := ⟨os, hos, hcs⟩
  unfold getItem
  try with_reducible refine wpAny_holding ?_
  first | refine wpAny_bind (wpAny_pure ?_) | skip
  refine wpAny_bind (wpAny_sequenceKey ht.typeIs (by decide) ?_)
  refine wpAny_bind (wpAny_callSpecial?_slot (name := Str.ofString "__getitem__") ht.typeIs PyProof.Rows.slot_tuple_getitem
    (wpAny_call_entry PyProof.Rows.slot_tuple_getitem ht.typeIs entry_tuple_getitem ?_ (args_tuple_getitem _ _)))
  show wpAny _ _ (Builtin.Tuple.tupleItemsOf (.ref t) >>= _) _ _ s
  refine wpAny_bind (tupleItemsOf_ ht ?_)
  refine wpAny_bind (wpAny_typeOf hTs ?_)
  rw [if_pos (by decide)]
  refine wpAny_bind (sliceApplied_gen hs pl pu ?_)
  have hno : ¬ ((((sIx items.size 0 lo : Nat) : Int) == 0 && (1 : Int) == 1 && (sIx items.size items.size hi - sIx items.size 0 lo) == items.size) = true) := by
    intro q
    rw [Bool.and_eq_true, Bool.and_eq_true] at q
    have q1 : ((sIx items.size 0 lo : Nat) : Int) = 0 := eq_of_beq q.1.1
    have q2 : sIx items.size items.size hi - sIx items.size 0 lo = items.size := eq_of_beq q.2
    exact hw ⟨by omega, by omega⟩
  show wpAny _ _ (if (((sIx items.size 0 lo : Nat) : Int) == 0 && (1 : Int) == 1 && (sIx items.size items.size hi - sIx items.size 0 lo) == items.size) = true then _ else _) _ _ s
  rw [if_neg hno, pick_gen]
  first
    | exact wpAny_bind (m := Builtin.Tuple.tupleExact _) (wpAny_newObj_type (wpAny_pure ⟨_, rfl, wpAny_pure h⟩) htake)
    | exact wpAny_bind (m := Builtin.Tuple.tupleExact _) (wpAny_newObj_type (wpAny_bind (wpAny_pure (wpAny_pure ⟨_, rfl, wpAny_pure h⟩))) htake)
    | exact wpAny_bind (wpAny_bind (m := Builtin.Tuple.tupleExact _) (wpAny_newObj_type (wpAny_pure (wpAny_pure ⟨_, rfl, wpAny_pure h⟩)) htake))
    | exact wpAny_bind (wpAny_bind (m := Builtin.Tuple.tupleExact _) (wpAny_newObj_type (wpAny_pure ⟨_, rfl, wpAny_pure h⟩) htake))
end
end HT

namespace L2
open PySem PySem.Spec PyProof.Rows

/-! ### the parts of a slice -/
noncomputable abbrev TO := St → Hp → (Option Int → Hp → Prop) → Prop
/-- a slice's part (left out, or an int) -/
noncomputable def PO (X : Cx) (e : Option Expr) (t : TO) : Prop :=
  ∀ (pins : List (Addr × Obj)) (s : Shared) (σ : St) (H : Hp) (Q : Option Int → Hp → Prop), Inv X pins σ H s → t σ H Q →
    wpAny (model X.prog X.w) X.A (evalPart e X.env) (fun u s' => ∃ o H', Inv X pins σ H' s' ∧ IsPart u o ∧ Q o H') X.xe s
noncomputable def tNoPart : TO := fun _ H Q => Q none H
noncomputable def tPart (t : TE) : TO := fun σ H Q => t σ H fun x H1 => ∃ i, x = .int i ∧ Q (some i) H1

section
variable {X : Cx} {e : Expr} {te : TE} {lo hi : Option Expr} {tl th : TO} {pos p2 : Pos}

theorem po_none : PO X none tNoPart := by
  intro pins s σ H Q I h
  rw [evalPart_none]
  exact wpAny_pure ⟨none, H, I, .none, h⟩
theorem po_some (h : PE X e te) : PO X (some e) (tPart te) := by
  intro pins s σ H Q I hw
  rw [evalPart_some]
  refine thn (h pins s σ H _ I hw) fun u s1 ⟨x, H1, I1, r1, q1⟩ => ?_
  obtain ⟨i, rfl, q⟩ := q1
  obtain ⟨t, rfl⟩ := r1
  exact ⟨some i, H1, I1, .int i t, q⟩

/-- what a slice of a value is, by values: the slice object stands at sl -/
noncomputable def SlR (X : Cx) (r : V → Option Int → Option Int → Hp → VK → Prop) : Prop :=
  ∀ (pins : List (Addr × Obj)) (s : Shared) (σ : St) (H : Hp) (x : V) (v vl vu : Value) (lo hi : Option Int) (sl : Addr) (Q : VK), Inv X pins σ H s → RelV x v → s.heap.IsSliceOf sl vl vu .none → IsPart vl lo → IsPart vu hi → r x lo hi H Q →
    ∃ T id, typeLookup (.type T) "__getitem__" = pure (some (.builtin id)) ∧ s.TypeIs v T ∧ wpAny (model X.prog X.w) X.A (getItem v (.ref sl)) (EP X pins σ Q) X.xe s
noncomputable def tSl (r : V → Option Int → Option Int → Hp → VK → Prop) (te : TE) (tl th : TO) : TE := fun σ H Q => te σ H fun x H1 => tl σ H1 fun l H2 => th σ H2 fun u H3 => r x l u H3 Q
/-- a[lo:hi], any a -/
theorem pe_slice {r : V → Option Int → Option Int → Hp → VK → Prop} (hr : SlR X r) (he : PE X e te) (hl : PO X lo tl) (hu : PO X hi th) : PE X (.Subscript e (.Slice lo hi none p2) pos) (tSl r te tl th) := by
  intro pins s σ H Q I h
  refine Subscript_ (thn (he pins s σ H _ I h) fun v s1 ⟨x, H1, I1, r1, q1⟩ => ?_)
  refine wpAny_Slice (thn (hl pins s1 σ H1 _ I1 q1) fun vl s2 ⟨l, H2, I2, pl, q2⟩ => thn (hu pins s2 σ H2 _ I2 q2) fun vu s3 ⟨u, H3, I3, pu, q3⟩ => ?_)
  rw [evalPart_none]
  refine wpAny_pure ?_
  have I4 : Inv X pins σ H3 { s3 with heap := s3.heap.push { cls := .type "slice", data := .fields #[vl, vu, .none] } } := I3.kept (t' := s3.toks) fun b ob q => Heap.get?_push_of_some _ q
  obtain ⟨T, id, hT, ht, hg⟩ := hr pins { s3 with heap := s3.heap.push { cls := .type "slice", data := .fields #[vl, vu, .none] } } σ H3 x v vl vu l u s3.heap.objs.size Q I4 r1 (Heap.IsSliceOf.new ..) pl pu q3
  show wpAny (model X.prog X.w) X.A (subscriptTail e (.Slice lo hi none p2) v (.ref s3.heap.objs.size)) (EP X pins σ Q) X.xe { s3 with heap := s3.heap.push { cls := .type "slice", data := .fields #[vl, vu, .none] } }
  exact tail_any (ops := [.ref s3.heap.objs.size, v]) ht hT hg (by with_unfolding_all rfl)

/-- the items of xs[lo:hi] -/
noncomputable def cutV (xs : List V) (lo hi : Option Int) : List V := (xs.drop (HT.sIx xs.length 0 lo)).take (HT.sIx xs.length xs.length hi - HT.sIx xs.length 0 lo)
theorem cutV_length (xs : List V) (lo hi : Option Int) : (cutV xs lo hi).length ≤ xs.length := by
  unfold cutV
  rw [List.length_take, List.length_drop]
  omega
/-- t[lo:hi], not the whole of it (the whole would be t itself) -/
noncomputable def rSlT (K : PySem.W.Frag) : V → Option Int → Option Int → Hp → VK → Prop := fun x lo hi H Q => ∃ a xs, x = .ref a ∧ SqT K H a xs ∧
  ¬ (HT.sIx xs.length 0 lo = 0 ∧ HT.sIx xs.length xs.length hi = xs.length) ∧ ∀ p, H p = none → Q (.ref p) (upd H p (.tup (cutV xs lo hi)))
theorem sl_tup : SlR X (rSlT X.K) := by
  intro pins s σ H x v vl vu lo hi sl Q I rx hs pl pu h
  obtain ⟨a, xs, rfl, hx, hw, q⟩ := h
  cases rx
  obtain ⟨its, r, ht, hz⟩ := I.tuple hx
  have hlen : its.toArray.size = xs.length := by rw [List.size_toArray]; exact r.length.symm
  refine ⟨"tuple", _, PyProof.Rows.slot_tuple_getitem.lookup, ht.typeIs, ?_⟩
  refine HT.getItem_tuple_cut ht hs pl pu (by rw [hlen]; exact hw) ?_ (by rw [hlen]; exact hz)
  rw [hlen]
  refine ⟨.ref s.heap.objs.size, _, I.laid (t' := s.toks) (o := .tup (cutV xs lo hi)) (fun b ob q => Heap.get?_push_of_some _ q) (Nat.le_refl _) ?_, rfl, q _ (I.hok.fresh (Nat.le_refl _))⟩
  exact ⟨Nat.le_trans (cutV_length xs lo hi) hz, _, (r.drop (HT.sIx xs.length 0 lo)).take (HT.sIx xs.length xs.length hi - HT.sIx xs.length 0 lo), IsTup.new _ _⟩

/-! ### t < u, t + u -/
/-- t + u, t not empty: u empty gives t itself -/
noncomputable def rCatT (K : PySem.W.Frag) : R2 := fun x y H Q => ∃ a b xs ys, x = .ref a ∧ y = .ref b ∧ SqT K H a xs ∧ SqT K H b ys ∧ xs ≠ [] ∧ xs.length + ys.length ≤ sizeLine ∧
  (ys = [] → Q (.ref a) H) ∧ (ys ≠ [] → ∀ p, H p = none → Q (.ref p) (upd H p (.tup (xs ++ ys))))
theorem Vals.nil_iff {xs : List V} {us : List Value} (r : Vals xs us) : us = [] ↔ xs = [] := by
  cases r with
  | nil => simp
  | cons _ _ => simp
theorem op_catT : OpR X (binaryOp .Add) (rCatT X.K) := by
  intro pins s σ H x y v u Q I rx ry h
  obtain ⟨a, b, xs, ys, rfl, rfl, ha, hb, hx, hz, q1, q2⟩ := h
  cases rx
  cases ry
  obtain ⟨its, r1, p1, _⟩ := I.tuple ha
  obtain ⟨its2, r2, p2, _⟩ := I.tuple hb
  refine HT.cat_tup p1 p2 (fun z => hx (r1.nil_iff.mp z)) (fun z => ⟨.ref a, H, I, rfl, q1 (r2.nil_iff.mp z)⟩) (fun z => ?_) (by rw [← r1.length, ← r2.length]; exact hz)
  refine ⟨.ref s.heap.objs.size, _, I.laid (t' := s.toks) (o := .tup (xs ++ ys)) (fun b ob q => Heap.get?_push_of_some _ q) (Nat.le_refl _) ?_, rfl, q2 (fun w => z (r2.nil_iff.mpr w)) _ (I.hok.fresh (Nat.le_refl _))⟩
  exact ⟨by rw [List.length_append]; exact hz, _, r1.append r2, IsTup.new _ _⟩
end
end L2

namespace L2
open PySem PySem.Spec PyProof.Rows

/-! ### places -/
/-- the place that an index of any sign means -/
noncomputable def ixN (n : Nat) (i : Int) : Option Nat := if 0 ≤ i then (if i < n then some i.toNat else none) else if -(n : Int) ≤ i then some (i + n).toNat else none
noncomputable def atI {α : Type} (xs : List α) (i : Int) : Option α := (ixN xs.length i).bind fun j => xs[j]?
theorem ixN_seq {n : Nat} {i : Int} {j : Nat} (h : ixN n i = some j) : seqIndex? i n = some j ∧ j < n ∧ -(n : Int) ≤ i ∧ i < n := by
  unfold ixN at h
  by_cases h0 : 0 ≤ i
  · rw [if_pos h0] at h
    by_cases h1 : i < n
    · rw [if_pos h1] at h
      have e : i.toNat = j := Option.some.inj h
      exact ⟨by rw [seqIndex_of h0 h1, e], by omega, by omega, h1⟩
    · rw [if_neg h1] at h; cases h
  · rw [if_neg h0] at h
    by_cases h1 : -(n : Int) ≤ i
    · rw [if_pos h1] at h
      have e : (i + n).toNat = j := Option.some.inj h
      exact ⟨by rw [seqIndex_neg (by omega) h1, e], by omega, h1, by omega⟩
    · rw [if_neg h1] at h; cases h
theorem atI_get {α : Type} {xs : List α} {i : Int} {v : α} (h : atI xs i = some v) : ∃ j, seqIndex? i xs.length = some j ∧ xs[j]? = some v ∧ j < xs.length ∧ -(xs.length : Int) ≤ i ∧ i < xs.length := by
  unfold atI at h
  cases e : ixN xs.length i with
  | none => rw [e] at h; cases h
  | some j =>
    rw [e] at h
    obtain ⟨h1, h2, h3, h4⟩ := ixN_seq e
    exact ⟨j, h1, h, h2, h3, h4⟩
theorem atI_nat {α : Type} {xs : List α} {j : Nat} {v : α} (h : xs[j]? = some v) : atI xs (j : Int) = some v := by
  have hj : j < xs.length := (List.getElem?_eq_some_iff.mp h).1
  have e : ixN xs.length (j : Int) = some j := by
    unfold ixN
    rw [if_pos (by omega), if_pos (by omega)]; simp
  unfold atI; rw [e]; exact h
theorem atI_last {α : Type} (xs : List α) (v : α) : atI (xs ++ [v]) (-1) = some v := by
  have hl : (xs ++ [v]).length = xs.length + 1 := by simp
  have e : ixN (xs ++ [v]).length (-1) = some xs.length := by
    unfold ixN
    rw [hl, if_neg (by decide), if_pos (by omega)]
    congr 1
    omega
  unfold atI
  rw [e]
  show (xs ++ [v])[xs.length]? = some v
  simp

/-! ### what may be subscripted -/
/-- what stands as an index of a plain subscript -/
noncomputable def PlainIx (b : Expr) : Prop := ∀ o i, subscripted b false o i = operate [o, i] (getItem o i)
/-- a subscript by values -/
noncomputable def IxR (X : Cx) (r : R2) : Prop :=
  ∀ (value slice : Expr) (pins : List (Addr × Obj)) (s : Shared) (σ : St) (H : Hp) (x y : V) (v u : Value) (Q : VK), Inv X pins σ H s → RelV x v → RelV y u → r x y H Q →
    subscripted slice false v u = operate [v, u] (getItem v u) → wpAny (model X.prog X.w) X.A (subscriptTail value slice v u) (EP X pins σ Q) X.xe s
/-- a call of a builtin's method by values: the receiver, the arguments -/
noncomputable def MtR (X : Cx) (id : String) (r : V → List V → Hp → VK → Prop) : Prop :=
  ∀ (pins : List (Addr × Obj)) (s : Shared) (σ : St) (H : Hp) (x : V) (xs : List V) (v : Value) (us : List Value) (Q : VK), Inv X pins σ H s → RelV x v → Vals xs us → r x xs H Q →
    wpAny (model X.prog X.w) X.A (call (.builtin id) (v :: us)) (EP X pins σ Q) X.xe s
section
variable {X : Cx} {a b : Expr} {ta tb : TE} {pos : Pos}
/-- a[b] -/
theorem pe_ix {r : R2} (hr : IxR X r) (ha : PE X a ta) (hb : PE X b tb) (hs : PlainIx b) : PE X (.Subscript a b pos) (tOp r ta tb) := by
  intro pins s σ H Q I h
  exact Subscript_ (binT ha hb I h fun v u s2 x y H2 I2 rx ry q => hr a b pins s2 σ H2 x y v u Q I2 rx ry q (hs _ _))

noncomputable def rIxL (K : PySem.W.Frag) : R2 := fun x y H Q => ∃ p xs i v, x = .ref p ∧ y = .int i ∧ SqL K H p xs ∧ atI xs i = some v ∧ Q v H
noncomputable def rIxT (K : PySem.W.Frag) : R2 := fun x y H Q => ∃ p xs i v, x = .ref p ∧ y = .int i ∧ SqT K H p xs ∧ atI xs i = some v ∧ Q v H
theorem ix_list : IxR X (rIxL X.K) := by
  intro value slice pins s σ H x y v u Q I rx ry h hs
  obtain ⟨p, xs, i, z, rfl, rfl, hq, he, q⟩ := h
  cases rx
  obtain ⟨t, rfl⟩ := ry
  obtain ⟨its, r, pl, hz⟩ := I.list hq
  obtain ⟨j, h1, h2, h3, h4, h5⟩ := atI_get he
  obtain ⟨w, ew, rw'⟩ := r.get h2
  have hl := r.length
  have hn := line63
  have fin : EP X pins σ Q w s := ⟨z, H, I, rw', q⟩
  by_cases h0 : 0 ≤ i
  · have hj : i.toNat = j := by
      rw [seqIndex_of h0 h5] at h1
      exact Option.some.inj h1
    exact item_listR pl.isList h0 (by omega) (by rw [hj]; simpa using ew) fin hs
  · have hj : (i + (its.toArray.size : Int)).toNat = j := by
      rw [seqIndex_neg (by omega) h4] at h1
      rw [List.size_toArray, ← hl]
      exact Option.some.inj h1
    exact subscriptTail_builtinR (x := w) pl.isList.typeIs slot_list_getitem.lookup
      (wpAny_getItem_list_neg (Q := fun r s' => r = w ∧ EP X pins σ Q r s') pl.isList (by omega) (by rw [List.size_toArray] <;> omega) (by omega) (by rw [hj]; simpa using ew) ⟨rfl, fin⟩) hs
theorem ix_tup : IxR X (rIxT X.K) := by
  intro value slice pins s σ H x y v u Q I rx ry h hs
  obtain ⟨p, xs, i, z, rfl, rfl, hq, he, q⟩ := h
  cases rx
  obtain ⟨t, rfl⟩ := ry
  obtain ⟨its, r, pl, hz⟩ := I.tuple hq
  obtain ⟨j, h1, h2, h3, h4, h5⟩ := atI_get he
  obtain ⟨w, ew, rw'⟩ := r.get h2
  have hl := r.length
  have hn := line63
  have fin : EP X pins σ Q w s := ⟨z, H, I, rw', q⟩
  exact subscriptTail_builtinR (x := w) pl.typeIs slot_tuple_getitem.lookup
    (getItem_tuple (j := j) (Q := fun r s' => r = w ∧ EP X pins σ Q r s') pl (by omega) (by omega) (by rw [List.size_toArray, ← hl]; exact h1) (by simpa using ew) ⟨rfl, fin⟩) hs
/-! ### xs[i] = v, any sign -/
/-- the list's object behind a store -/
theorem mapSeq_set (its : List Value) (n j : Nat) (u : Value) : Obj.mapSeq (·.setIfInBounds j u) { cls := .type "list", data := .seq its.toArray n } = { cls := .type "list", data := .seq (its.set j u).toArray n } := by
  simp [Obj.mapSeq]
theorem Inv.lst {pins : List (Addr × Obj)} {σ : St} {H : Hp} {s : Shared} {p : Addr} {xs : List V} (I : Inv X pins σ H s) (h : H p = some (.lst xs)) :
    ∃ (its : List Value) (n : Nat), Vals xs its ∧ s.heap.get? p = some { cls := .type "list", data := .seq its.toArray n } ∧ xs.length ≤ sizeLine := by
  obtain ⟨z, its, n, r, e⟩ := I.hok p _ h
  exact ⟨its, n, r, e, z⟩
/-- the list at p is written by an update of its object -/
theorem Inv.lstUpd {pins : List (Addr × Obj)} {σ : St} {H : Hp} {s : Shared} {p : Addr} {xs ys : List V} {its its' : List Value} {n n' : Nat} {f : Obj → Obj} (I : Inv X pins σ H s) (h : H p = some (.lst xs))
    (ho : s.heap.get? p = some { cls := .type "list", data := .seq its.toArray n }) (hf : f { cls := .type "list", data := .seq its.toArray n } = { cls := .type "list", data := .seq its'.toArray n' }) (r : Vals ys its') (hz : ys.length ≤ sizeLine) (t : Nat) :
    Inv X pins σ (upd H p (.lst ys)) { s with heap := s.heap.update p f, toks := t } := by
  have e : (s.heap.update p f).get? p = some { cls := .type "list", data := .seq its'.toArray n' } := by
    rw [Heap.get?_update_self f ho (by rw [hf] <;> rfl), hf]
  refine I.write (x := p) (e := p) (by rw [h]; trivial) (.inl rfl) (fun b u hb q => (Heap.get?_update_other _ _ (Ne.symm hb)).trans q) ⟨_, e⟩ ?_
  exact ⟨hz, its', n', r, e⟩
noncomputable def rSetL : V → V → V → Hp → (Hp → Prop) → Prop := fun o i v H Q => ∃ p xs k j, o = .ref p ∧ i = .int k ∧ H p = some (.lst xs) ∧ ixN xs.length k = some j ∧ Q (upd H p (.lst (xs.set j v)))
theorem set_list : PSet X rSetL := by
  intro pins s σ H o i v ov iv u Q I ro ri rv h
  obtain ⟨p, xs, k, j, rfl, rfl, hp, hj, q⟩ := h
  cases ro
  obtain ⟨t, rfl⟩ := ri
  obtain ⟨its, n, r, ho, hz⟩ := I.lst hp
  obtain ⟨h1, h2, h3, h4⟩ := ixN_seq hj
  have hl := r.length
  have hn := line63
  have I' : Inv X pins σ (upd H p (.lst (xs.set j v))) { s with heap := s.heap.update p (Obj.mapSeq (·.setIfInBounds j u)) } :=
    I.lstUpd hp ho (mapSeq_set its n j u) (r.set rv j) (by rw [List.length_set]; exact hz) s.toks
  by_cases h0 : 0 ≤ k
  · have hk : k.toNat = j := by
      rw [seqIndex_of h0 h4] at h1
      exact Option.some.inj h1
    exact PySem.W.ki_setAt ho h0 (by omega) (by rw [List.size_toArray, ← hl]; exact h4) (by rw [hk]; exact ⟨_, I', q⟩)
  · have hk : (k + (its.toArray.size : Int)).toNat = j := by
      rw [seqIndex_neg (by omega) h3] at h1
      rw [List.size_toArray, ← hl]
      exact Option.some.inj h1
    exact PySem.W.ki_setBack ho (by omega) (by rw [List.size_toArray, ← hl]; exact h3) (by omega) (by rw [hk]; exact ⟨_, I', q⟩)

/-! ### slices -/
theorem slice_bounds (lo hi : Option Int) (n : Nat) : (sliceBounds lo hi none n).1 = ((HT.sIx n 0 lo : Nat) : Int) ∧ (sliceBounds lo hi none n).2.1 = ((HT.sIx n n hi : Nat) : Int) ∧ (sliceBounds lo hi none n).2.2 = 1 := by
  refine ⟨?_, ?_, rfl⟩
  · cases lo with
    | none => simp [sliceBounds, HT.sIx]
    | some i =>
      simp only [sliceBounds, HT.sIx, Option.getD_none, show (1 : Int) > 0 by decide, if_true]
      by_cases h : i < 0
      · simp only [h, if_true] <;> omega
      · simp only [h, if_false] <;> omega
  · cases hi with
    | none => simp [sliceBounds, HT.sIx]
    | some i =>
      simp only [sliceBounds, HT.sIx, Option.getD_none, show (1 : Int) > 0 by decide, if_true]
      by_cases h : i < 0
      · simp only [h, if_true] <;> omega
      · simp only [h, if_false] <;> omega
theorem slicePick_cut (its : List Value) (lo hi : Option Int) : slicePick its.toArray lo hi none = ((its.drop (HT.sIx its.length 0 lo)).take (HT.sIx its.length its.length hi - HT.sIx its.length 0 lo)).toArray := by
  obtain ⟨h1, h2, h3⟩ := slice_bounds lo hi its.toArray.size
  unfold slicePick
  rw [h1, h2, h3]
  simp only [sliceRange_one, pick_run, List.size_toArray] <;> rfl
/-- xs[lo:hi] of a list: a new list -/
noncomputable def rSlL (K : PySem.W.Frag) : V → Option Int → Option Int → Hp → VK → Prop := fun x lo hi H Q => ∃ a xs, x = .ref a ∧ SqL K H a xs ∧ ∀ p, H p = none → Q (.ref p) (upd H p (.lst (cutV xs lo hi)))
theorem sl_list : SlR X (rSlL X.K) := by
  intro pins s σ H x v vl vu lo hi sl Q I rx hs pl pu h
  obtain ⟨a, xs, rfl, hx, q⟩ := h
  cases rx
  obtain ⟨its, r, ht, hz⟩ := I.list hx
  have hlen := r.length
  refine ⟨"list", _, slot_list_getitem.lookup, ht.isList.typeIs, ?_⟩
  refine wpAny_getItem_list_slice ht.isList hs pl pu .none (by simp) ?_ (by rw [List.size_toArray] <;> omega)
  rw [slicePick_cut, ← hlen]
  refine ⟨.ref s.heap.objs.size, _, I.laid (t' := s.toks) (o := .lst (cutV xs lo hi)) (fun b ob q => Heap.get?_push_of_some _ q) (Nat.le_refl _) ?_, rfl, q _ (I.hok.fresh (Nat.le_refl _))⟩
  exact ⟨Nat.le_trans (cutV_length xs lo hi) hz, _, 0, (r.drop (HT.sIx xs.length 0 lo)).take (HT.sIx xs.length xs.length hi - HT.sIx xs.length 0 lo), Heap.get?_push_size _ rfl⟩

/-! ### in, not in: flat items -/
noncomputable def flatV : V → Bool
  | .non => true
  | .bl _ => true
  | .int _ => true
  | .str _ => true
  | _ => false
/-- == of flat values -/
noncomputable def eqV : V → V → Bool
  | .non, .non => true
  | .bl a, .bl b => a == b
  | .bl a, .int b => (if a then 1 else 0) == b
  | .int a, .bl b => a == (if b then 1 else 0)
  | .int a, .int b => a == b
  | .str a, .str b => a == b
  | _, _ => false
theorem eqAt_V {A : Around} {s : Shared} {y x : V} {u v : Value} (ry : RelV y u) (rx : RelV x v) (fy : flatV y = true) (fx : flatV x = true) : SeqAt.EqAt A s u v (eqV y x) := by
  cases y with
  | non =>
    cases ry
    cases x with
    | non => cases rx; exact SeqAt.EqAt.same _
    | bl b => cases rx; exact SeqAt.EqAt.none_bool b
    | int b => obtain ⟨t, rfl⟩ := rx; exact SeqAt.EqAt.none_int b t
    | str b => obtain ⟨t, rfl⟩ := rx; exact SeqAt.EqAt.none_str b t
    | _ => exact absurd (show false = true from fx) Bool.false_ne_true
  | bl a =>
    cases ry
    cases x with
    | non => cases rx; exact SeqAt.EqAt.bool_none a
    | bl b => cases rx; exact SeqAt.EqAt.bool_bool a b
    | int b => obtain ⟨t, rfl⟩ := rx; exact SeqAt.EqAt.bool_int a b t
    | str b => obtain ⟨t, rfl⟩ := rx; exact SeqAt.EqAt.bool_str a b t
    | _ => exact absurd (show false = true from fx) Bool.false_ne_true
  | int a =>
    obtain ⟨t', rfl⟩ := ry
    cases x with
    | non => cases rx; exact SeqAt.EqAt.int_none a t'
    | bl b => cases rx; exact SeqAt.EqAt.int_bool a t' b
    | int b => obtain ⟨t, rfl⟩ := rx; exact SeqAt.EqAt.int_int a t' b t
    | str b => obtain ⟨t, rfl⟩ := rx; exact SeqAt.EqAt.int_str a t' b t
    | _ => exact absurd (show false = true from fx) Bool.false_ne_true
  | str a =>
    obtain ⟨t', rfl⟩ := ry
    cases x with
    | non => cases rx; exact SeqAt.EqAt.str_none a t'
    | bl b => cases rx; exact SeqAt.EqAt.str_bool a t' b
    | int b => obtain ⟨t, rfl⟩ := rx; exact SeqAt.EqAt.str_int a t' b t
    | str b => obtain ⟨t, rfl⟩ := rx; exact SeqAt.EqAt.str_str a t' b t
    | _ => exact absurd (show false = true from fx) Bool.false_ne_true
  | _ => exact absurd (show false = true from fy) Bool.false_ne_true
/-- the items' answers, read off the values (a value's own answer does not lean on its token) -/
noncomputable def eqU (x : V) (u : Value) : Bool := match u with
  | .none => eqV .non x
  | .bool b => eqV (.bl b) x
  | .int i _ => eqV (.int i) x
  | .str z _ => eqV (.str z) x
  | _ => false
theorem eqU_of {x y : V} {u : Value} (r : RelV y u) (f : flatV y = true) : eqU x u = eqV y x := by
  cases y with
  | non => cases r; rfl
  | bl b => cases r; rfl
  | int i => obtain ⟨t, rfl⟩ := r; rfl
  | str z => obtain ⟨t, rfl⟩ := r; rfl
  | _ => exact absurd (show false = true from f) Bool.false_ne_true
theorem any_eqU {x : V} : ∀ {xs : List V} {us : List Value}, Vals xs us → xs.all flatV = true → us.any (eqU x) = xs.any fun y => eqV y x
  | _, _, .nil, _ => rfl
  | y :: xs, u :: us, .cons r t, f => by
    rw [List.all_cons, Bool.and_eq_true] at f
    rw [List.any_cons, List.any_cons, eqU_of r f.1, any_eqU t f.2]
theorem mem_eqAt {A : Around} {s : Shared} {x : V} {v : Value} (rx : RelV x v) (fx : flatV x = true) : ∀ {xs : List V} {us : List Value}, Vals xs us → xs.all flatV = true → ∀ u ∈ us, SeqAt.EqAt A s u v (eqU x u)
  | _, _, .nil, _ => fun u hu => by cases hu
  | y :: xs, u :: us, .cons r t, f => fun u' hu => by
    rw [List.all_cons, Bool.and_eq_true] at f
    rcases List.mem_cons.mp hu with rfl | hu
    · rw [eqU_of r f.1]; exact eqAt_V r rx f.1 fx
    · exact mem_eqAt rx fx t f.2 u' hu
noncomputable def inV (x : V) (xs : List V) : Bool := xs.any fun y => eqV y x
/-- x in a list or tuple of flat items -/
noncomputable def rIn (K : PySem.W.Frag) (neg : Bool) : R2 := fun x y H Q => ∃ p xs, y = .ref p ∧ (SqL K H p xs ∨ SqT K H p xs) ∧ flatV x = true ∧ xs.all flatV = true ∧ Q (.bl (if neg then !inV x xs else inV x xs)) H
theorem op_in_seq : OpR X (compareOp .In) (rIn X.K false) := by
  intro pins s σ H x y v u Q I rx ry h
  obtain ⟨p, xs, rfl, hq, fx, fs, q⟩ := h
  cases ry
  rcases hq with hq | hq
  · obtain ⟨its, r, pl, hz⟩ := I.list hq
    refine SeqAt.in_listAt (eqU x) pl.isList (fun w hw => mem_eqAt rx fx r fs w (by simpa using hw)) ⟨.bl _, H, I, rfl, ?_⟩
    rw [show its.toArray.any (eqU x) = its.any (eqU x) by simp, any_eqU r fs]
    exact q
  · obtain ⟨its, r, pl, hz⟩ := I.tuple hq
    refine SeqAt.in_tupleAt (eqU x) pl (fun w hw => mem_eqAt rx fx r fs w (by simpa using hw)) ⟨.bl _, H, I, rfl, ?_⟩
    rw [show its.toArray.any (eqU x) = its.any (eqU x) by simp, any_eqU r fs]
    exact q
/-! ### len, list(x), tuple(x) of any list or tuple that is read -/
theorem call_len_seq : CallR X (.builtin "len") (fun xs H Q => ∃ p ys, xs = [.ref p] ∧ (SqL X.K H p ys ∨ SqT X.K H p ys) ∧ Q (.int ys.length) H) := by
  intro pins s σ H xs us Q I r h
  obtain ⟨p, ys, rfl, hq, q⟩ := h
  obtain ⟨u, rfl, rx⟩ := vals1 r
  cases rx
  have hn := line63
  rcases hq with hq | hq
  · obtain ⟨its, r', pl, hz⟩ := I.list hq
    have hlen := r'.length
    exact Calls.call_len_list pl.isList (by simp only [List.size_toArray] <;> omega) ⟨.int ys.length, H, I.tok _, ⟨s.toks + 1, by rw [List.size_toArray, hlen]⟩, q⟩
  · obtain ⟨its, r', pl, hz⟩ := I.tuple hq
    have hlen := r'.length
    exact len_tuple pl (by simp only [List.size_toArray] <;> omega) ⟨.int ys.length, H, I.tok _, ⟨s.toks + 1, by rw [List.size_toArray, hlen]⟩, q⟩
theorem call_list_of : CallR X (.type "list") (fun xs H Q => ∃ p ys, xs = [.ref p] ∧ (SqL X.K H p ys ∨ SqT X.K H p ys) ∧ ∀ l, H l = none → Q (.ref l) (upd H l (.lst ys))) := by
  intro pins s σ H xs us Q I r h
  obtain ⟨p, ys, rfl, hq, q⟩ := h
  obtain ⟨u, rfl, rx⟩ := vals1 r
  cases rx
  have fin : ∀ (its : List Value), Vals ys its → ys.length ≤ sizeLine → ∀ (h' : Heap) (c' : Nat), (∀ b o', s.heap.get? b = some o' → h'.get? b = some o') →
      h'.get? s.heap.objs.size = some { cls := .type "list", dict := none, data := .seq its.toArray c', slots := #[] } → EP X pins σ Q (.ref s.heap.objs.size) { s with heap := h' } := fun its r' hz h' c' kp e =>
    ⟨.ref s.heap.objs.size, _, I.laid (t' := s.toks) kp (Nat.le_refl _) (show ObjOk X.prog X.w _ h' _ (.lst ys) from ⟨hz, its, c', r', e⟩), rfl, q _ (I.hok.fresh (Nat.le_refl _))⟩
  rcases hq with hq | hq
  · obtain ⟨its, r', pl, hz⟩ := I.list hq
    have hlen := r'.length
    obtain ⟨o, ho, hc, n, hd⟩ := pl.isList
    exact call_list_seq p (.inl rfl) ho hc hd (fun h' c' kp e => fin its r' hz h' c' kp e) (by simp only [List.size_toArray] <;> omega)
  · obtain ⟨its, r', pl, hz⟩ := I.tuple hq
    have hlen := r'.length
    obtain ⟨o, ho, hc, n, hd⟩ := pl
    exact call_list_seq p (.inr rfl) ho hc hd (fun h' c' kp e => fin its r' hz h' c' kp e) (by simp only [List.size_toArray] <;> omega)
theorem call_tuple_of : CallR X (.type "tuple") (fun xs H Q => ∃ p ys, xs = [.ref p] ∧ ((SqL X.K H p ys ∧ ∀ l, H l = none → Q (.ref l) (upd H l (.tup ys))) ∨ (SqT X.K H p ys ∧ Q (.ref p) H))) := by
  intro pins s σ H xs us Q I r h
  obtain ⟨p, ys, rfl, h⟩ := h
  obtain ⟨u, rfl, rx⟩ := vals1 r
  cases rx
  rcases h with ⟨hq, q⟩ | ⟨hq, q⟩
  · obtain ⟨its, r', pl, hz⟩ := I.list hq
    have hlen := r'.length
    refine call_tuple_list pl.isList (fun h' kp => ?_) (by simp only [List.size_toArray] <;> omega)
    have I1 : Inv X pins σ H { s with heap := h' } := I.kept (t' := s.toks) kp
    have I2 : Inv X pins σ (upd H h'.objs.size (.tup ys)) { s with heap := h'.push { cls := .type "tuple", data := .seq its.toArray } } :=
      I1.laid (t' := s.toks) (fun b o e => Heap.get?_push_of_some _ e) (Nat.le_refl _) (show ObjOk X.prog X.w _ _ _ (.tup ys) from ⟨hz, its, r', IsTup.new _ _⟩)
    exact ⟨.ref h'.objs.size, _, I2, rfl, q _ (I1.hok.fresh (Nat.le_refl _))⟩
  · obtain ⟨its, r', pl, hz⟩ := I.tuple hq
    exact call_tuple_same pl ⟨.ref p, H, I, rfl, q⟩

/-! ### the call of a builtin's method: o.m(..) -/
/-- the value is of that builtin type -/
noncomputable def tyV (K : PySem.W.Frag) (T : String) (x : V) (H : Hp) : Prop := match x with
  | .str _ => T = "str"
  | .int _ => T = "int"
  | .ref p => (T = "list" ∧ ∃ xs, SqL K H p xs) ∨ (T = "tuple" ∧ ∃ o, K.lookup p = some o ∧ o.cls = .type "tuple" ∧ o.dict = none) ∨
      (T = "dict" ∧ ((∃ kvs, H p = some (.dK kvs)) ∨ ∃ kvs, H p = some (.dT kvs))) ∨ (T = "set" ∧ ∃ S n, H p = some (.set S n))
  | _ => False
theorem tyV_is {pins : List (Addr × Obj)} {σ : St} {H : Hp} {s : Shared} {T : String} {x : V} {v : Value} (I : Inv X pins σ H s) (r : RelV x v) (ty : tyV X.K T x H) :
    s.TypeIs v T ∧ ∀ a, v = .ref a → ∃ ob, s.heap.get? a = some ob ∧ ob.dict = none := by
  cases x with
  | str z =>
    obtain ⟨t, rfl⟩ := r
    cases (show T = "str" from ty)
    exact ⟨typeIs_str s z t, fun _ e => nomatch e⟩
  | int i =>
    obtain ⟨t, rfl⟩ := r
    cases (show T = "int" from ty)
    exact ⟨typeIs_int s i t, fun _ e => nomatch e⟩
  | ref p =>
    cases r
    rcases ty with ⟨rfl, xs, hq⟩ | ⟨rfl, o, hk, hc, hd⟩ | ⟨rfl, hk⟩ | ⟨rfl, S, n, hk⟩
    · obtain ⟨its, _, pl, _⟩ := I.list hq
      refine ⟨pl.isList.typeIs, fun a e => ?_⟩
      cases e
      obtain ⟨o, n, e, c, hd, _⟩ := pl
      exact ⟨o, e, hd⟩
    · refine ⟨⟨o, I.kIn p o hk, hc⟩, fun a e => ?_⟩
      cases e
      exact ⟨o, I.kIn _ o hk, hd⟩
    · have z : ∃ o, s.heap.get? p = some o ∧ o.ExactDict := by
        rcases hk with ⟨kvs, hk⟩ | ⟨kvs, hk⟩
        · obtain ⟨_, _, _, _, o, _, _, e, ex, _⟩ := I.hok p _ hk
          exact ⟨o, e, ex⟩
        · obtain ⟨_, _, _, _, o, _, _, e, ex, _⟩ := I.hok p _ hk
          exact ⟨o, e, ex⟩
      obtain ⟨o, e, ex⟩ := z
      refine ⟨⟨o, e, ex.1⟩, fun a e2 => ?_⟩
      cases e2
      exact ⟨o, e, ex.2.1⟩
    · obtain ⟨o, _, _, _, e, ex, _⟩ := I.hok p _ hk
      refine ⟨⟨o, e, ex.1⟩, fun a e2 => ?_⟩
      cases e2
      exact ⟨o, e, ex.2.1⟩
  | _ => exact False.elim ty
noncomputable def tBM0 (K : PySem.W.Frag) (T : String) (r : V → List V → Hp → VK → Prop) (to : TE) : TE := fun σ H Q => to σ H fun x H1 => tyV K T x H1 ∧ r x [] H1 Q
noncomputable def tBM (K : PySem.W.Frag) (T : String) (r : V → List V → Hp → VK → Prop) (to : TE) (t : TA) : TE := fun σ H Q => to σ H fun x H1 => tyV K T x H1 ∧ t σ H1 fun xs H2 => r x xs H2 Q
variable {o e : Expr} {es : List Expr} {to : TE} {t : TA} {name : Str} {apos cpos : Pos} {T id : String} {r : V → List V → Hp → VK → Prop}
theorem pe_bm0 (pa : PlainAttrs T) (slot : Slot T name id) (hty : typeOf (.builtin id) = pure (.type "method_descriptor")) (hm : MtR X id r) (ho : PE X o to)
    (hbase : attributeBase o name X.env (eval o X.env) = eval o X.env := by rfl) (hline : (apos.endLine == cpos.line) = true := by rfl) : PE X (.Call (.Attribute o name apos) [] [] cpos) (tBM0 X.K T r to) := by
  intro pins s σ H Q I h
  refine wpAny_Call_method0_late hbase hline (thn (ho pins s σ H _ I h) fun v s1 ⟨x, H1, I1, r1, ty, q1⟩ => ?_)
  obtain ⟨h1, h2⟩ := tyV_is I1 r1 ty
  exact ⟨T, id, pa, slot, hty, h1, h2, Calls.callWith_builtin rfl (PySem.evalArgs_none (hm pins s1 σ H1 x [] v [] Q I1 r1 .nil q1))⟩
theorem pe_bm (pa : PlainAttrs T) (slot : Slot T name id) (hty : typeOf (.builtin id) = pure (.type "method_descriptor")) (hm : MtR X id r) (ho : PE X o to) (ha : PA X (e :: es) t)
    (hbase : attributeBase o name X.env (eval o X.env) = eval o X.env := by rfl)
    (hfew : ((backTo cpos (starEach (e :: es) X.env)).all (fun x => !x.1) && (backToKw cpos (keywordEach [] X.env)).all (fun x => x.1.isSome)
      && decide ((e :: es).length + ([] : List Keyword).length + (if ([] : List Keyword).isEmpty then 0 else 1) < 30)) = true := by rfl)
    (hline : (apos.endLine == cpos.line) = true := by rfl) (hs : starEach (e :: es) X.env = (false, eval e X.env) :: starEach es X.env := by rfl) (hplain : (backTo cpos (starEach es X.env)).any (·.1) = false := by rfl) :
    PE X (.Call (.Attribute o name apos) (e :: es) [] cpos) (tBM X.K T r to t) := by
  intro pins s σ H Q I h
  refine wpAny_Call_method_late hbase hfew hline rfl (thn (ho pins s σ H _ I h) fun v s1 ⟨x, H1, I1, r1, ty, q1⟩ => ?_)
  obtain ⟨h1, h2⟩ := tyV_is I1 r1 ty
  refine ⟨T, id, pa, slot, hty, h1, h2, ?_⟩
  have hA := ha cpos pins s1 σ H1 _ I1 q1
  rw [hs] at hA ⊢
  refine Calls.callWith_builtin (by show (false || (backTo cpos (starEach es X.env)).any (·.1)) = false; rw [hplain] <;> rfl) (Calls.evalArgs_plain ?_)
  exact thn hA fun us s2 ⟨vs, H2, I2, r2, q2⟩ => hm pins s2 σ H2 x vs v us Q I2 r1 r2 q2
/- xs.append(e), list.index on a module's tuple .. are MtR facts of 06m -/
end
end L2

namespace L2
open PySem PySem.Spec PyProof.Rows

noncomputable def MtM (X : Cx) (id : String) (r : V → List V → Hp → VK → Prop) : Prop :=
  ∀ (pins : List (Addr × Obj)) (s : Shared) (σ : St) (H : Hp) (x : V) (xs : List V) (v : Value) (us : List Value) (Q : VK), Inv X pins σ H s → RelV x v → Vals xs us → r x xs H Q →
    wpAny (model X.prog X.w) X.A (call (.builtin id) (v :: us)) (EP X pins σ Q) X.xe s

/-! ### lists of values -/
theorem Vals.one : ∀ {x : V} {us : List Value}, Vals [x] us → ∃ u, us = [u] ∧ RelV x u
  | _, _, .cons r .nil => ⟨_, rfl, r⟩
theorem Vals.zero : ∀ {us : List Value}, Vals [] us → us = []
  | _, .nil => rfl
theorem Vals.dropLast {xs : List V} {us : List Value} (h : Vals xs us) : Vals xs.dropLast us.dropLast := by
  induction h with
  | nil => exact .nil
  | cons r t ih =>
    cases t with
    | nil => exact .nil
    | cons q t' => exact .cons r ih
theorem Vals.rep {xs : List V} {us : List Value} (h : Vals xs us) : ∀ k : Nat, Vals (List.replicate k xs).flatten (List.replicate k us).flatten
  | 0 => .nil
  | k + 1 => by
    rw [List.replicate_succ, List.replicate_succ, List.flatten_cons, List.flatten_cons]
    exact Vals.append h (Vals.rep h k)
theorem erase_last {α : Type} (l : List α) : l.eraseIdx (l.length - 1) = l.dropLast := by
  induction l with
  | nil => rfl
  | cons a r ih =>
    cases r with
    | nil => rfl
    | cons b r =>
      have e : (a :: b :: r).length - 1 = ((b :: r).length - 1) + 1 := by
        have h1 : (a :: b :: r).length = r.length + 2 := rfl
        have h2 : (b :: r).length = r.length + 1 := rfl
        omega
      rw [e, List.eraseIdx_cons_succ, ih]
      all_goals rfl
theorem foldl_rep (its : List Value) : ∀ (k : Nat) (acc : List Value),
    List.foldl (fun x1 x2 => x1 ++ x2) acc.toArray (List.replicate k its.toArray) = (acc ++ (List.replicate k its).flatten).toArray
  | 0, acc => by simp
  | k + 1, acc => by
    have e : acc.toArray ++ its.toArray = (acc ++ its).toArray := by simp
    have e2 : (acc ++ its) ++ (List.replicate k its).flatten = acc ++ (List.replicate (k + 1) its).flatten := by
      rw [List.replicate_succ, List.flatten_cons, List.append_assoc]
    rw [← e2, ← foldl_rep its k (acc ++ its), ← e, List.replicate_succ, List.foldl_cons]

section
variable {X : Cx} {pins : List (Addr × Obj)} {σ : St} {H : Hp} {s : Shared} {l b : Addr} {xs ys zs : List V}

/-! ### the two steps: a tracked list is rewritten, a new list is laid -/
theorem Inv.lset {its its' : List Value} {n : Nat} {f : Array Value → Array Value} {t' : Nat} (I : Inv X pins σ H s) (hH : H l = some (.lst xs))
    (e : s.heap.get? l = some { cls := .type "list", data := .seq its.toArray n }) (hf : f its.toArray = its'.toArray) (hv : Vals ys its') (hz : ys.length ≤ sizeLine) :
    Inv X pins σ (upd H l (.lst ys)) { s with heap := s.heap.update l (Obj.mapSeq f), toks := t' } := by
  have q := PySem.IsL.update e f
  rw [hf] at q
  refine I.write (x := l) (e := l) (by rw [hH]; exact trivial) (.inl rfl) (fun b' u hb hu => (Heap.get?_update_other s.heap (Obj.mapSeq f) (Ne.symm hb)).trans hu) ⟨_, q⟩ ?_
  exact ⟨hz, its', _, hv, q⟩
theorem Inv.lnew {its : List Value} {t' : Nat} (I : Inv X pins σ H s) (hv : Vals ys its) (hz : ys.length ≤ sizeLine) :
    Inv X pins σ (upd H s.heap.objs.size (.lst ys)) { s with heap := s.heap.push { cls := .type "list", data := .seq its.toArray }, toks := t' } :=
  I.laid (fun _ _ q => Heap.get?_push_of_some _ q) (Nat.le_refl _) ⟨hz, its, 0, hv, Heap.get?_push_size _ rfl⟩
theorem Inv.fresh (I : Inv X pins σ H s) : H s.heap.objs.size = none := I.hok.fresh (Nat.le_refl _)
theorem Inv.lstM (I : Inv X pins σ H s) (hH : H l = some (.lst xs)) : xs.length ≤ sizeLine ∧ ∃ (its : List Value) (n : Nat), Vals xs its ∧ xs.length = its.length ∧ s.heap.get? l = some { cls := .type "list", data := .seq its.toArray n } := by
  obtain ⟨z, its, n, r, e⟩ := I.hok l _ hH
  exact ⟨z, its, n, r, r.length, e⟩

end

section
variable {X : Cx}

/-! ### methods -/
noncomputable def rAppend : V → List V → Hp → VK → Prop := fun x vs H Q => ∃ l xs y, x = .ref l ∧ vs = [y] ∧ H l = some (.lst xs) ∧ xs.length < sizeLine ∧ Q .non (upd H l (.lst (xs ++ [y])))
theorem mt_append : MtM X "list.append" rAppend := by
  intro pins s σ H x vs v us Q I rx rv h
  obtain ⟨l, xs, y, rfl, rfl, hH, hz, q⟩ := h
  cases rx
  obtain ⟨u, rfl, ru⟩ := rv.one
  obtain ⟨z, its, n, r, hl, e⟩ := I.lstM hH
  refine call_meets F.slot_list_append ⟨_, e, rfl⟩ F.entry_list_append (F.args_list_append_2 _ _) (PySem.list_append l its.toArray n u (by rw [List.size_toArray]; omega)) ⟨e, ?_⟩
  refine ⟨.non, _, I.lset (its' := its ++ [u]) hH e (by simp) (r.append (.cons ru .nil)) ?_, rfl, q⟩
  rw [List.length_append, List.length_singleton]
  omega

noncomputable def rPop : V → List V → Hp → VK → Prop := fun x vs H Q => ∃ l xs y, x = .ref l ∧ vs = [] ∧ H l = some (.lst xs) ∧ xs[xs.length - 1]? = some y ∧ Q y (upd H l (.lst xs.dropLast))
theorem mt_pop : MtM X "list.pop" rPop := by
  intro pins s σ H x vs v us Q I rx rv h
  obtain ⟨l, xs, y, rfl, rfl, hH, hy, q⟩ := h
  cases rx
  have hus := rv.zero
  subst hus
  obtain ⟨z, its, n, r, hl, e⟩ := I.lstM hH
  obtain ⟨u, hu, ru⟩ := r.get hy
  have hy' : its.toArray[its.toArray.size - 1]? = some u := by
    show its.toArray[its.length - 1]? = some u
    rw [← Array.getElem?_toList, ← hl]
    exact hu
  refine call_meets F.slot_list_pop ⟨_, e, rfl⟩ F.entry_list_pop (F.args_list_pop_1 _) (MeetsSeq.list_pop_last l its.toArray n u hy' (by rw [List.size_toArray]; omega)) ⟨e, ?_⟩
  refine ⟨y, _, I.lset (its' := its.dropLast) hH e ?_ r.dropLast ?_, ru, q⟩
  · show its.toArray.eraseIdxIfInBounds (its.toArray.size - 1) = its.dropLast.toArray
    rw [List.size_toArray, List.eraseIdxIfInBounds_toArray, erase_last]
  · rw [List.length_dropLast]
    omega

/-! ### list + list, list += list, list * int -/
noncomputable def rCat : R2 := fun x y H Q => ∃ l b xs zs, x = .ref l ∧ y = .ref b ∧ H l = some (.lst xs) ∧ H b = some (.lst zs) ∧ xs.length + zs.length ≤ sizeLine ∧ ∀ p, H p = none → Q (.ref p) (upd H p (.lst (xs ++ zs)))
theorem op_cat : OpR X (binaryOp .Add) rCat := by
  intro pins s σ H x y v u Q I rx ry h
  obtain ⟨l, b, xs, zs, rfl, rfl, hH, hB, hz, q⟩ := h
  cases rx
  cases ry
  obtain ⟨z, its, n, r, hl, e⟩ := I.lstM hH
  obtain ⟨z2, its2, n2, r2, hl2, e2⟩ := I.lstM hB
  refine PySem.P.add_list e e2 ?_ (by rw [List.size_toArray, List.size_toArray]; omega)
  have ea : its.toArray ++ its2.toArray = (its ++ its2).toArray := by simp
  rw [ea]
  exact ⟨.ref _, _, I.lnew (t' := s.toks) (r.append r2) (by rw [List.length_append]; omega), rfl, q _ I.fresh⟩
theorem len_rep {α : Type} (xs : List α) (k : Nat) : (List.replicate k xs).flatten.length = k * xs.length := by
  induction k with
  | zero => simp
  | succ k ih => rw [List.replicate_succ, List.flatten_cons, List.length_append, ih, Nat.succ_mul, Nat.add_comm]
/-! ### del xs[i] -/
end

/-! ### xs[a:b] = ys -/
section
variable {prog : Program} {w : World} {A : Around} {E : Value → Shared → Prop} {s : Shared}
end

section
variable {X : Cx}
end
end L2

namespace Att
open PySem PySem.W PySem.Calls PyProof.Rows

/-! ### the script -/
theorem ints_of_wellAll {P : Params} {h : Heap} : ∀ (ns : List Int) (vs : List Value), WellAll P h vs (ns.map WData.int) → IntsAre vs ns := by
  intro ns
  induction ns with
  | nil =>
    intro vs w
    rw [List.map_nil] at w
    cases w
    exact .nil
  | cons n ns ih =>
    intro vs w
    rw [List.map_cons] at w
    cases w with
    | cons a b =>
      cases a
      exact .cons _ _ (ih _ b)

theorem script_of {l : OpenLaw} {n : Nat} (hn : l.most = some n) {P : Params} {h : Heap} {args : List WData} {vals : List Value}
    (hpre : l.row.toRowW.claim.pre args = true) (hwl : WellAll P h vals args) :
    ∃ a vs ns, vals = [Value.ref a] ∧ args = [WData.list (ns.map WData.int)] ∧ h.get? a = some { cls := .type "list", data := .seq vs.toArray } ∧ IntsAre vs ns ∧ ns.length ≤ n := by
  have hsh : WShape.hasAll [] args [.list .int] = true := (pre_splitW hpre).1
  have hc : l.pre.holds [] { args := args } = true := (pre_splitW hpre).2
  obtain ⟨d, r, rfl, h1, h2⟩ := hasAllW_cons hsh
  obtain rfl := hasAllW_nil h2
  obtain ⟨xs, rfl, h3⟩ := hasW_list h1
  obtain ⟨ns, rfl⟩ := items_int h3
  have hlen : ns.length ≤ n := by
    unfold OpenLaw.pre at hc
    have h4 : (WTm.not (.lt (.lit (.int (n : Int))) (.len (.arg 0)))).holds [] { args := [.list (ns.map .int)] } = true := by
      have h4 := (holds_andW hc).1
      rw [hn] at h4
      exact h4
    have h5 := condW_of h4 (w_not (w_lt w_lit (w_len_list (w_arg rfl))))
    rw [List.length_map] at h5
    refine Nat.le_of_not_lt fun q => ?_
    have q' : (n : Int) < ((ns.length : Nat) : Int) := by omega
    first
      | (rw [decide_eq_true q'] at h5; exact absurd h5 (by decide))
      | (simp at h5; omega)
  cases hwl with
  | cons w1 w2 =>
    cases w2
    cases w1 with
    | list ho hall => exact ⟨_, _, ns, rfl, rfl, ho, ints_of_wellAll ns _ hall, hlen⟩

theorem post_true (l : OpenLaw) (args : List WData) : l.row.toRowW.claim.post args (.bool true) args = true :=
  postW_of (r := l.row.toRowW) (X := (true == true))
    (show WShape.has [] (.bool true) .bool = true by first | rfl | decide | simp [WShape.has, WShape.arms, WShape.armsAll])
    (show (WTm.eq .res (.lit (.bool true))).value [] { args := args, res := some (.bool true), after := args } = some (.bool (true == true)) from w_eq_bool (w_res rfl) w_lit) rfl

/-! ### the attachment: holds_open's last premise (the goal 'hc' behind k_head) from a wpAny of the law's body -/
/-- the same from a codeAny of the CALL (for a layer whose function contracts speak of calls) -/
theorem attach_call {l : OpenLaw} {n : Nat} {q : Program} {loose : List Str} {XP : (Str → Option Value) → Heap → Prop} {YP : World → Heap → Prop} {d : DefRec}
    (hn : l.most = some n) (hdf : d.params.defaults = [])
    (call : ∀ (w : World) (s₀ s₁ : Shared) (mg mb : Str → Option Value) (fa : Addr) (o : Obj) (pm cd doc : Value) (a : Addr) (vs : List Value) (ns : List Int),
      Ground q loose [] XP w s₀ mg mb s₁.heap → YP w s₁.heap →
      s₁.heap.get? fa = some o → o.data = .func (docDef d.name d.params d.body d.scope pm cd doc) → s₁.heap.CodeRec cd d.name → mg d.name = some (.ref fa) →
      s₁.heap.get? a = some { cls := .type "list", data := .seq vs.toArray } → IntsAre vs ns → ns.length ≤ n → s₁.gens = #[] →
      codeAny (model l.prog w) callerA (.call (.ref fa) ⟨[.ref a], []⟩) (fun r s' => r = .ok (.ret (.bool true)) ∧ OldK s₁.heap s'.heap ∧ s'.os = s₁.os ∧ AllBare s'.gens) s₁) :
    WalkO q loose XP YP l.row.toRowW d [] (fun f vs => PySem.call f vs) := by
  intro w s₀ s₁ mg mb G Y fa o pm cd doc dV kV ho hd hcd hD hmg hg args vals as hpre hlay hrd hwl hlo
  obtain rfl : dV = .none := Dflts.none hD hdf
  obtain rfl : kV = .none := Dflts.noKw hD
  obtain ⟨a, vs, ns, rfl, rfl, hobj, hints, hlen⟩ := script_of hn hpre hwl
  refine enter_call (codeAny_mono (call w s₀ s₁ mg mb fa o pm cd doc a vs ns G Y ho (fd_plain hd) hcd hmg hobj hints hlen hg) fun r s' hq => ?_)
  obtain ⟨rfl, h2, h3, h4⟩ := hq
  exact ⟨.inl ⟨.bool true, .bool true, [], rfl, fun _ => rfl, .bool true, post_true l _, fun _ => ⟨List.Pairwise.nil, fun _ hm => (nomatch hm)⟩⟩, h2, h3, h4⟩

/-! ### rules over ANY heap (no ledger) from facts about the written part K: the library's own take a ledger (News) for what they write -/
section
variable {prog : Program} {w : World} {A : Around} {E : Value → Shared → Prop} {s : Shared} {K : Frag}

/-! the whole heap as the ledger: makes every rule that writes through a ledger a rule over any heap -/
end
end Att

namespace L2
open PySem PySem.Spec PyProof.Rows

theorem vals_ints : ∀ {vs : List Value} {ns : List Int}, IntsAre vs ns → Vals (ns.map V.int) vs
  | _, _, .nil => .nil
  | _, _, .cons n t h => .cons ⟨t, rfl⟩ (vals_ints h)

end L2

namespace L2
open PySem PySem.Spec PyProof.Rows

end L2

/-! SHORT WORDS over the layer: a def of the text, its body, what a loop and a test want. -/
namespace L2
open PySem PySem.Spec PyProof.Rows

/-! ### the text by places -/
noncomputable def defArgs (s : Stmt) : Arguments := match s with
  | .FunctionDef _ a _ _ _ _ _ _ _ _ => a
  | _ => { posonlyargs := [], args := [], vararg := none, kwonlyargs := [], kw_defaults := [], kwarg := none, defaults := [] }
noncomputable def defBody (s : Stmt) : List Stmt := match s with
  | .FunctionDef _ _ b _ _ _ _ _ _ _ => b
  | _ => []
noncomputable def defScope (s : Stmt) : Scope := match s with
  | .FunctionDef _ _ _ _ _ _ sc _ _ _ => sc
  | _ => { kind := .function, names := [], isGenerator := false, isCoroutine := false }

/-! ### no exception leaves a def -/
noncomputable abbrev CX0 : CXT := fun _ _ _ _ _ _ => False
noncomputable abbrev E0 : XK := fun _ _ _ => False
theorem pass0 {X : Cx} : Passes CX0 X E0 := fun _ _ _ _ _ _ _ h => h.elim

/-! ### a def (or method) of the text as it stands behind the top -/
structure Fun (K : PySem.W.Frag) (x qual : Str) (st : Stmt) (f : Addr) (fd : FuncData) : Prop where
  ex : ∃ (oc : Value) (od : Option Addr) (kV doc pm : Value) (an : Option Addr) (cdv ct : Value) (osl : Array (Option Value)),
    fd = PySem.W.fnOf x qual (defArgs st) (defBody st) (defScope st) .none kV doc pm an cdv ct ∧ K.lookup f = some ⟨oc, od, .func fd, osl⟩ ∧ PySem.W.codeIn K cdv qual = true
  kp : PySem.W.keepIn K (.ref f) = true
section
variable {P : Program} {w : World} {K : PySem.W.Frag} {mg : Str → Option Value} {base : Heap}
/-- THE RULE for a def: its body as a term of rules, and the reading of that term -/
theorem Fun.ok {x qual : Str} {st : Stmt} {f : Addr} {fd : FuncData} {N ps : List Str} {k : Nat} {sp : Sp} (F : Fun K x qual st f fd) (S : FnScope N ps (defScope st)) (len : ∀ vs H Q E, sp vs H Q E → vs.length = ps.length)
    (hbody : ∀ (cdv : Value) (A : Around) (outer : List Env) (s : Shared) (H : Hp) (vs : List V) (Q : VK) (E : XK), Room k (A.deeper (envOfC qual (defScope st) s.heap.objs.size f cdv)) → sp vs H Q E →
      ∃ t, PSs (cxOf CX0 P w K mg base N qual (defScope st) f cdv A outer s H E).nox (defBody st) t ∧ t { nx := fun _ H' => Q .non H', rt := Q } (start N vs) H) : FnOk P w K mg base CX0 (k + 1) f fd ps sp := by
  obtain ⟨oc, od, kV, doc, pm, an, cdv, ct, osl, rfl, lk, hcd⟩ := F.ex
  refine fn_of lk hcd S len fun A outer s H vs Q E hr hsp => ?_
  obtain ⟨t, h, q⟩ := hbody cdv A outer s H vs Q E hr hsp
  exact ⟨t, h.nox, q⟩
/-- how its arguments bind (no defaults): h is «fun _ _ _ _ _ _ us hl => match us, hl with | [_, _], _ => rfl», one _ a parameter -/
theorem Fun.binds {x qual : Str} {st : Stmt} {f : Addr} {fd : FuncData} {ps : List Str} (F : Fun K x qual st f fd)
    (h : ∀ (kV doc pm : Value) (an : Option Addr) (cdv ct : Value) (us : List Value), us.length = ps.length → bindArgs (PySem.W.fnOf x qual (defArgs st) (defBody st) (defScope st) .none kV doc pm an cdv ct) ⟨us, []⟩ = pure (ps.zip us)) : Binds K fd ps [] := by
  obtain ⟨oc, od, kV, doc, pm, an, cdv, ct, osl, rfl, lk, hcd⟩ := F.ex
  exact .all (h kV doc pm an cdv ct)
theorem fun_mk {x qual : Str} {st : Stmt} {f : Addr} {oc : Value} {od an : Option Addr} {osl : Array (Option Value)} {kV doc pm cdv ct : Value} (l : K.lookup f = some ⟨oc, od, .func (PySem.W.fnOf x qual (defArgs st) (defBody st) (defScope st) .none kV doc pm an cdv ct), osl⟩)
    (c : PySem.W.codeIn K cdv qual = true) (k : PySem.W.keepIn K (.ref f) = true) : Fun K x qual st f (PySem.W.fnOf x qual (defArgs st) (defBody st) (defScope st) .none kV doc pm an cdv ct) := ⟨⟨oc, od, kV, doc, pm, an, cdv, ct, osl, rfl, l, c⟩, k⟩
end
theorem hu_of {A : Around} {k : Nat} (hr : Room k A) : A.units + 1 < cLine := Nat.lt_of_le_of_lt (Nat.add_le_add_left (by decide : 1 ≤ 64) _) hr.units
theorem small1000 {n : Nat} (h : n ≤ 1000) : n < sizeLine := Nat.lt_of_le_of_lt h (by decide)

/-! ### expressions in short: the name that stands in the i-th slot -/
section
variable {X : Cx}
theorem pv (i : Nat) {x : Str} {pos : Pos} (hN : X.N[i]? = some x := by rfl) (hv : Vis X.env.scope x := by first | exact Or.inl rfl | exact Or.inr (Or.inl rfl) | exact Or.inr (Or.inr rfl)) (hd : (x == ("__debug__" : Str)) = false := by decide)
    (hcd : (x == ("__classdict__" : Str)) = false := by decide) : PE X (.Name x pos) (tVar i) := pe_var hN hv hd hcd
end

/-! ### tests -/
theorem iteF {A B : Prop} (h : B) : if false = true then A else B := by
  rw [if_neg Bool.false_ne_true]
  exact h
theorem iteT {A B : Prop} (h : A) : if true = true then A else B := by
  rw [if_pos rfl]
  exact h
theorem ite2 {c A B : Prop} [Decidable c] (h1 : c → A) (h2 : ¬ c → B) : if c then A else B := by
  by_cases h : c
  · rw [if_pos h]
    exact h1 h
  · rw [if_neg h]
    exact h2 h
theorem iteNS {c A B : Prop} [Decidable c] (hc : c) (h : B) : if (!decide c) = true then A else B := by
  rw [decide_eq_true hc]
  exact iteF h

/-! ### heaps -/
/-- all that was tracked is as it was -/
noncomputable def Same (H H' : Hp) : Prop := ∀ b o, H b = some o → H' b = some o
theorem Same.refl (H : Hp) : Same H H := fun _ _ h => h
theorem Same.trans {H H1 H2 : Hp} (a : Same H H1) (b : Same H1 H2) : Same H H2 := fun c o h => b c o (a c o h)
theorem Same.seq {K : PySem.W.Frag} {H H' : Hp} {a : Addr} {xs : List V} (e : Same H H') (h : SqL K H a xs) : SqL K H' a xs := by
  rcases h with (h | ⟨o, h⟩) | h
  · exact .inl (.inl (e _ _ h))
  · exact .inl (.inr ⟨o, e _ _ h⟩)
  · exact .inr h

end L2
/-! A COMPREHENSION, over the hand layer: [elt for target in iter if test] -/
namespace L2
open PySem PySem.Spec PyProof.Rows

/-! ### the block's cells -/
noncomputable def clOf (cells : List (Str × Addr)) : List (Str × NameKind) → List (Str × Addr) → List (Str × Addr)
  | [], acc => acc
  | (n, k) :: r, acc => if k == .free then clOf cells r ((n, (cells.lookup n).getD 0) :: acc) else clOf cells r acc

theorem closureFor_eq {scope : Scope} {env : Env} (h : ∀ x ∈ scope.names, x.2 = .free → ∃ c, env.cells.lookup x.1 = some c) : closureFor scope env = pure (clOf env.cells scope.names []) := by
  unfold closureFor
  have key : ∀ (names : List (Str × NameKind)) (acc : List (Str × Addr)), (∀ x ∈ names, x.2 = .free → ∃ c, env.cells.lookup x.1 = some c) →
      (forIn names acc (fun (x : Str × NameKind) (r : List (Str × Addr)) => (if (x.2 == NameKind.free) = true then do let c ← cellOf env x.1; pure (ForInStep.yield ((x.1, c) :: r)) else pure (ForInStep.yield r) : Sem (ForInStep (List (Str × Addr)))))) = pure (clOf env.cells names acc) := by
    intro names
    induction names with
    | nil => intro acc _; rfl
    | cons x r ih =>
      intro acc hx
      obtain ⟨n, k⟩ := x
      rw [List.forIn_cons]
      unfold clOf
      by_cases hk : (k == NameKind.free) = true
      · have hk' : k = .free := by simpa using hk
        obtain ⟨c, hc⟩ := hx (n, k) List.mem_cons_self hk'
        have hc' : env.cells.lookup n = some c := hc
        simp only [hk, if_true]
        have e1 : cellOf env n = pure c := by unfold cellOf; rw [hc']
        rw [e1, hc']
        exact ih ((n, c) :: acc) fun y hy => hx y (List.mem_cons_of_mem _ hy)
      · simp only [hk, if_false, Bool.false_eq_true]
        exact ih acc fun y hy => hx y (List.mem_cons_of_mem _ hy)
  have e := key scope.names [] h
  first
    | exact e
    | (simp only [bind_pure]; exact e)

theorem clOf_some {cells : List (Str × Addr)} {x : Str} {c : Addr} : ∀ (names : List (Str × NameKind)) (acc : List (Str × Addr)), (clOf cells names acc).lookup x = some c → acc.lookup x = some c ∨ ((x, NameKind.free) ∈ names ∧ c = (cells.lookup x).getD 0)
  | [], _, h => .inl h
  | (n, k) :: r, acc, h => by
    unfold clOf at h
    by_cases hk : (k == NameKind.free) = true
    · have hk' : k = .free := by simpa using hk
      rw [if_pos hk] at h
      rcases clOf_some r _ h with z | ⟨z, e⟩
      · rw [List.lookup_cons] at z
        cases hb : x == n with
        | true =>
          rw [hb] at z
          have e' : x = n := by simpa using hb
          subst e'
          subst hk'
          exact .inr ⟨List.mem_cons_self, (Option.some.inj z).symm⟩
        | false => rw [hb] at z; exact .inl z
      · exact .inr ⟨List.mem_cons_of_mem _ z, e⟩
    · rw [if_neg hk] at h
      rcases clOf_some r _ h with z | ⟨z, e⟩
      · exact .inl z
      · exact .inr ⟨List.mem_cons_of_mem _ z, e⟩
theorem clOf_has {cells : List (Str × Addr)} {x : Str} : ∀ (names : List (Str × NameKind)) (acc : List (Str × Addr)), ((x, NameKind.free) ∈ names ∨ (acc.lookup x).isSome = true) → ((clOf cells names acc).lookup x).isSome = true
  | [], _, h => by
    rcases h with h | h
    · cases h
    · exact h
  | (n, k) :: r, acc, h => by
    unfold clOf
    by_cases hk : (k == NameKind.free) = true
    · rw [if_pos hk]
      refine clOf_has r _ ?_
      rcases h with h | h
      · rcases (List.mem_cons.mp h) with (e | h)
        · cases e
          exact .inr (by rw [List.lookup_cons]; simp)
        · exact .inl h
      · refine .inr ?_
        rw [List.lookup_cons]
        cases hb : x == n <;> simp [h]
    · rw [if_neg hk]
      refine clOf_has r _ ?_
      rcases h with h | h
      · rcases (List.mem_cons.mp h) with (e | h)
        · cases e
          exact absurd rfl hk
        · exact .inl h
      · exact .inr h
theorem cellsFrom_app : ∀ (names : List (Str × NameKind)) (n : Nat) (acc : List (Str × Addr)), cellsFrom n names acc = cellsFrom n names [] ++ acc
  | [], _, _ => rfl
  | (x, k) :: r, n, acc => by
    unfold cellsFrom
    by_cases hk : (k == NameKind.cell) = true
    · rw [if_pos hk, if_pos hk, cellsFrom_app r (n + 1) ((x, n) :: acc), cellsFrom_app r (n + 1) [(x, n)], List.append_assoc]
      rfl
    · rw [if_neg hk, if_neg hk]
      exact cellsFrom_app r n acc
theorem cellsFrom_mem : ∀ (names : List (Str × NameKind)) (n : Nat) (x : Str) (c : Addr), (x, c) ∈ cellsFrom n names [] → (x, NameKind.cell) ∈ names
  | [], _, _, _, h => nomatch h
  | (y, k) :: r, n, x, c, h => by
    unfold cellsFrom at h
    by_cases hk : (k == NameKind.cell) = true
    · have hk' : k = .cell := by simpa using hk
      rw [if_pos hk, cellsFrom_app] at h
      refine (List.mem_append.mp h).elim (fun h => ?_) fun h => ?_
      · exact List.mem_cons_of_mem _ (cellsFrom_mem r _ x c h)
      · have e : (x, c) = (y, n) := by simpa using h
        cases e
        subst hk'
        exact List.mem_cons_self
    · rw [if_neg hk] at h
      exact List.mem_cons_of_mem _ (cellsFrom_mem r n x c h)
theorem lookup_app {α : Type} {x : Str} : ∀ (a b : List (Str × α)), (a ++ b).lookup x = (a.lookup x).or (b.lookup x)
  | [], _ => by simp
  | (y, v) :: r, b => by
    rw [List.cons_append, List.lookup_cons, List.lookup_cons]
    cases hb : x == y with
    | true => simp
    | false => exact lookup_app r b
theorem lookup_of_mem {α : Type} {x : Str} {v : α} : ∀ {l : List (Str × α)}, (l.map (·.1)).Nodup → (x, v) ∈ l → l.lookup x = some v
  | [], _, h => by cases h
  | (y, w) :: r, nd, h => by
    rw [List.map_cons, List.nodup_cons] at nd
    rw [List.lookup_cons]
    cases h with
    | head => simp
    | tail _ h =>
      have hne : (x == y) = false := by
        apply beq_false_of_ne
        intro hxy
        exact nd.1 (List.mem_map.mpr ⟨(x, v), h, hxy⟩)
      rw [hne]
      exact lookup_of_mem nd.2 h

/-- a map that keeps every key -/
theorem lookup_keyed {α β : Type} {x : Str} (f : Str × α → Str × β) (hf : ∀ p, (f p).1 = p.1) : ∀ (l : List (Str × α)), (l.map f).lookup x = (l.lookup x).map fun k => (f (x, k)).2
  | [] => rfl
  | (n, k) :: r => by
    obtain ⟨m, z⟩ : ∃ z, f (n, k) = (n, z) := ⟨(f (n, k)).2, Prod.ext (hf _) rfl⟩
    rw [List.map_cons, z, List.lookup_cons, List.lookup_cons]
    cases hx : x == n with
    | false => exact lookup_keyed f hf r
    | true => cases (beq_iff_eq.mp hx); simp [z]
/-- the names of a block that are relabelled -/
theorem relabel_lookup {env : Env} {x : Str} (names : List (Str × NameKind)) : (names.map fun (n, k) => if (k == NameKind.free && env.scope.kind == .function && env.kindOf n == some .cell) then (n, NameKind.cell) else (n, k)).lookup x =
    (names.lookup x).map fun k => if (k == NameKind.free && env.scope.kind == .function && env.kindOf x == some .cell) = true then NameKind.cell else k := by
  rw [lookup_keyed _ (fun p => by dsimp only; split <;> rfl)]
  congr 1
  funext k
  dsimp only
  split <;> rfl

/-- the block's own namespace and cells -/
theorem newEnv_blk {M : Model} {A : Around} {E : Value → Shared → Prop} {s : Shared} {scope : Scope} {env : Env} {cl : List (Str × Addr)} {Q : Env → Shared → Prop}
    (q : Q (newEnv scope s.heap.objs.size env.globals (cellsFrom (s.heap.objs.size + 1) scope.names cl) env.qual none .none (some env) builtinsNs)
      { s with heap := pushCells (s.heap.push { cls := .type "dict", data := .dict #[] }) scope.names }) :
    wpAny M A (newFunctionEnv scope env.globals cl [] env.qual none .none (some env)) Q E s := by
  have z : (s.heap.push { cls := .type "dict", data := .dict #[] }).objs.size = s.heap.objs.size + 1 := Heap.size_push ..
  rw [← z] at q
  unfold newFunctionEnv
  have cells := wpAny_layCells (M := M) (A := A) (E := E) (fun x r => if (x.2 == NameKind.cell) = true then (do let c ← alloc { cls := .type "cell", data := .cell none }; pure (ForInStep.yield ((x.1, c) :: r))) else pure (ForInStep.yield r)) (fun _ _ _ => rfl) scope.names cl { s with heap := s.heap.push { cls := .type "dict", data := .dict #[] } }
  exact wpAny_bind (wpAny_alloc (wpAny_bind (cells _ (wpAny_bind (wpAny_pure (wpAny_pure q))))))
end L2
namespace L2
open PySem PySem.Spec PyProof.Rows

/-- the context of a comprehension's block within X: no exception leaves it -/
noncomputable def blk (X : Cx) (N : List Str) (scope : Scope) (cs : List (Str × Addr)) (C : Addr) (s₀ : Shared) (H₀ : Hp) (ex : List Addr) : Cx where
  prog := X.prog
  w := X.w
  K := X.K
  mg := X.mg
  base := X.base
  A := X.A
  N := N
  s₀ := s₀
  H₀ := H₀
  env := compEnvC scope cs C X.env
  outer := X.stack
  stack := X.stack
  ex := ex
  fn := fun x => scope.names.lookup x == some .cell
  calm := X.calm
  pn := []
  xe := fun _ _ => False

/-- what of the block's scope is read off the text: oN, osc the names and the scope around; own names first, then the captured ones -/
structure BlkScope (oN : List Str) (osc : Scope) (N : List Str) (own : Nat) (caps : List Nat) (scope : Scope) : Prop where
  kind : scope.kind = .function
  nd : N.Nodup
  ndn : (scope.names.map (·.1)).Nodup
  free : ∀ x ∈ scope.names, x.2 = .free → osc.names.lookup x.1 = some .cell ∨ osc.names.lookup x.1 = some .free
  len : N.length = own + caps.length
  cap : caps.map (fun i => oN[i]?) = (N.drop own).map some
  capf : ∀ x ∈ N.drop own, scope.names.lookup x = some .free

noncomputable def blkStart (own : Nat) (caps : List Nat) (σ : St) : St := List.replicate own none ++ caps.map fun i => (σ[i]?).join
noncomputable abbrev blkCells (X : Cx) (scope : Scope) (C : Addr) : List (Str × Addr) := cellsFrom (C + 1) scope.names (clOf X.env.cells scope.names [])
noncomputable abbrev blkHeap (h : Heap) (scope : Scope) : Heap := pushCells (h.push { cls := .type "dict", data := .dict #[] }) scope.names

section
variable {X : Cx} {pins : List (Addr × Obj)} {σ : St} {H : Hp} {s : Shared} {N : List Str} {own : Nat} {caps : List Nat} {scope : Scope} {ex : List Addr}

theorem blk_look (S : BlkScope X.N X.env.scope N own caps scope) (I : Inv X pins σ H s) (n : Nat) {x : Str} {c : Addr} (h : (cellsFrom n scope.names (clOf X.env.cells scope.names [])).lookup x = some c) :
    (x, c) ∈ cellsFrom n scope.names [] ∨ ((x, NameKind.free) ∈ scope.names ∧ X.env.cells.lookup x = some c) := by
  rw [cellsFrom_app, lookup_app] at h
  cases q : (cellsFrom n scope.names []).lookup x with
  | some c' =>
    rw [q] at h
    have e : c' = c := by simpa using h
    subst e
    exact .inl (PySem.mem_of_lookup q)
  | none =>
    rw [q] at h
    have h' : (clOf X.env.cells scope.names []).lookup x = some c := by simpa using h
    rcases clOf_some _ _ h' with z | ⟨z, e⟩
    · cases z
    · refine .inr ⟨z, ?_⟩
      obtain ⟨c', hc'⟩ := I.ok.has x (S.free (x, .free) z rfl)
      rw [hc'] at e ⊢
      rw [e]; rfl
theorem blk_capt (S : BlkScope X.N X.env.scope N own caps scope) (I : Inv X pins σ H s) (n : Nat) {x : Str} (hx : scope.names.lookup x = some .free) :
    ∃ c, X.env.cells.lookup x = some c ∧ (cellsFrom n scope.names (clOf X.env.cells scope.names [])).lookup x = some c := by
  have hm : (x, NameKind.free) ∈ scope.names := PySem.mem_of_lookup hx
  obtain ⟨c, hc⟩ := I.ok.has x (S.free (x, .free) hm rfl)
  refine ⟨c, hc, ?_⟩
  obtain ⟨c', hc'⟩ := Option.isSome_iff_exists.mp (clOf_has (cells := X.env.cells) (x := x) scope.names [] (.inl hm))
  have e0 : (cellsFrom n scope.names []).lookup x = none := by
    cases q : (cellsFrom n scope.names []).lookup x with
    | none => rfl
    | some d =>
      have := lookup_of_mem S.ndn (cellsFrom_mem _ _ _ _ (PySem.mem_of_lookup q))
      rw [hx] at this
      cases this
  rw [cellsFrom_app, lookup_app, e0, hc']
  rcases clOf_some _ _ hc' with z | ⟨_, e⟩
  · cases z
  · rw [hc] at e
    rw [e]; rfl

theorem inv_blk (S : BlkScope X.N X.env.scope N own caps scope) (I : Inv X pins σ H s) (hex : ∀ b ∈ ex, FpOk X pins H b ∧ b < s.heap.objs.size) :
    Inv (blk X N scope (blkCells X scope s.heap.objs.size) s.heap.objs.size s H ex) [] (blkStart own caps σ) H { s with heap := blkHeap s.heap scope } := by
  have k1 : ∀ b o, s.heap.get? b = some o → (blkHeap s.heap scope).get? b = some o := fun b o e => pushCells_keeps _ _ b o (Heap.get?_push_of_some _ e)
  have ok := cellsFrom_ok scope.names (s.heap.push { cls := .type "dict", data := .dict #[] }) (s.heap.objs.size + 1) [] ⟨fun _ _ hm => (nomatch hm), List.Pairwise.nil⟩ (by rw [Heap.size_push]; exact Nat.le_refl _)
  rw [Heap.size_push] at ok
  have oldc : ∀ x c, X.env.cells.lookup x = some c → c < s.heap.objs.size := fun x c e => by
    obtain ⟨v, q⟩ := I.cell x c e
    exact q.lt
  have kof : ∀ x, (compEnvC scope (blkCells X scope s.heap.objs.size) s.heap.objs.size X.env).kindOf x = (scope.names.lookup x).map fun k => if (k == NameKind.free && X.env.scope.kind == .function && X.env.kindOf x == some .cell) = true then NameKind.cell else k :=
    fun x => relabel_lookup (env := X.env) scope.names
  have kk : ∀ x, (compEnvC scope (blkCells X scope s.heap.objs.size) s.heap.objs.size X.env).kindOf x = some .cell ∨ (compEnvC scope (blkCells X scope s.heap.objs.size) s.heap.objs.size X.env).kindOf x = some .free →
      scope.names.lookup x = some .cell ∨ scope.names.lookup x = some .free := fun x h => by
    rw [kof] at h
    cases q : scope.names.lookup x with
    | none => rw [q] at h; rcases h with h | h <;> cases h
    | some k =>
      rw [q] at h
      by_cases hf : k = .free
      · exact .inr (by rw [hf])
      · have hb : (k == NameKind.free) = false := by simpa using hf
        have e : (some k).map (fun k => if (k == NameKind.free && X.env.scope.kind == .function && X.env.kindOf x == some .cell) = true then NameKind.cell else k) = some k := by
          simp [hf]
        rw [e] at h
        exact h
  refine ⟨⟨I.ok.mod, S.kind, I.ok.glob, I.ok.blt, Nat.le_refl _, fun x y c h1 h2 => ?_, fun x hx => ?_, fun x c hf h => ?_, I.ok.hd, I.ok.frames, .inl rfl, fun b hb => ⟨?_, fun x c h => ?_⟩, fun b o e => ?_, Nat.le_trans I.ok.bsz I.sz, fun b o e hb => ?_, fun b hb hf => ?_, I.stack, I.stkFree⟩,
    rfl, I.bare, Un.kept k1, ⟨fun _ => none, ?_, fun i x v h1 h2 h3 => ?_⟩, fun x c h => ?_, I.hok.fresh (Nat.le_refl _), fun x c h => ?_, fun p hp => absurd (show p ∈ ([] : List (Addr × Obj)) from hp) (by simp), I.hok.kept k1, ?_⟩
  · -- inj
    rcases blk_look S I _ h1 with a1 | ⟨_, a1⟩ <;> rcases blk_look S I _ h2 with a2 | ⟨_, a2⟩
    · exact name_of_addr ok.apart a1 a2
    · exact absurd (oldc _ _ a2) (Nat.not_lt.mpr (Nat.le_of_succ_le (ok.empty _ _ a1).2))
    · exact absurd (oldc _ _ a1) (Nat.not_lt.mpr (Nat.le_of_succ_le (ok.empty _ _ a2).2))
    · exact I.ok.inj _ _ _ a1 a2
  · -- has
    rcases kk x hx with q | q
    · exact Option.isSome_iff_exists.mp (PySem.W.cellsFrom_some scope.names _ _ (.inl q))
    · obtain ⟨c, _, hc⟩ := blk_capt S I (s.heap.objs.size + 1) q
      exact ⟨c, hc⟩
  · -- cab
    have hf' : scope.names.lookup x = some .cell := by simpa [blk] using hf
    rcases blk_look S I _ h with a | ⟨a, _⟩
    · exact Nat.le_of_succ_le (ok.empty _ _ a).2
    · rw [lookup_of_mem S.ndn a] at hf'
      cases hf'
  · exact Nat.ne_of_lt (hex b hb).2
  · rcases blk_look S I _ h with a | ⟨_, a⟩
    · exact Nat.ne_of_gt (Nat.lt_of_lt_of_le (hex b hb).2 (Nat.le_of_succ_le (ok.empty _ _ a).2))
    · exact (hex b hb).1.2.2.2.2.1 x c a
  · exact I.bs b o e
  · rcases (hex b hb).1.2.2.2.1 with z | z
    · exact I.ok.noex b o e z
    · exact absurd (Nat.lt_of_lt_of_le (Heap.lt_size e) (Nat.le_trans I.ok.bsz z)) (Nat.lt_irrefl _)
  · rcases List.mem_cons.mp (I.stkSub b hf) with z | z
    · exact (hex b hb).1.2.1 z
    · exact (hex b hb).1.2.2.1 z
  · exact (Heap.Ns.new s.heap (.type "dict")).keeps (pushCells_keeps _ _)
  · -- the captured names
    have hi : own ≤ i := by
      refine Nat.le_of_not_lt fun hlt => ?_
      unfold blkStart at h2
      rw [List.getElem?_append_left (by simpa using hlt), List.getElem?_replicate] at h2
      split at h2 <;> cases h2
    obtain ⟨j, rfl⟩ : ∃ j, i = own + j := ⟨i - own, by omega⟩
    unfold blkStart at h2
    rw [List.getElem?_append_right (by simp), List.length_replicate, Nat.add_sub_cancel_left, List.getElem?_map] at h2
    cases hc : caps[j]? with
    | none => rw [hc] at h2; cases h2
    | some ci =>
      rw [hc] at h2
      have hσ : σ[ci]? = some (some v) := by
        have z : (σ[ci]?).join = some v := by simpa using h2
        cases q : σ[ci]? with
        | none => rw [q] at z; cases z
        | some o => rw [q] at z; have z' : o = some v := z; rw [z']
      have hNx : (N.drop own)[j]? = some x := by rw [List.getElem?_drop]; exact h1
      have hX : X.N[ci]? = some x := by
        have e := congrArg (fun l => l[j]?) S.cap
        simp only [List.getElem?_map, hc, hNx, Option.map_some] at e
        exact Option.some.inj e
      have hfr := S.capf x (List.mem_of_getElem? hNx)
      obtain ⟨c, hc1, hc2⟩ := blk_capt S I (s.heap.objs.size + 1) hfr
      obtain ⟨m, hn, hl⟩ := I.loc
      have hk := S.free (x, .free) (PySem.mem_of_lookup hfr) rfl
      have hvis : Vis X.env.scope x := .inr hk
      obtain ⟨u, ru, lk⟩ := hl ci x v hX hσ hvis
      refine ⟨u, ru, ?_⟩
      rcases lk with ⟨z, _⟩ | ⟨_, c', e', z⟩
      · have z' : X.env.scope.names.lookup x = some .local := z
        rcases hk with hk | hk
        · have hk' : X.env.scope.names.lookup x = some .cell := hk
          rw [z'] at hk'; cases hk'
        · have hk' : X.env.scope.names.lookup x = some .free := hk
          rw [z'] at hk'; cases hk'
      · rw [hc1] at e'
        cases e'
        refine .inr ⟨?_, c, hc2, z.keeps k1⟩
        show (compEnvC scope _ _ X.env).kindOf x = _ ∨ (compEnvC scope _ _ X.env).kindOf x = _
        rw [kof, hfr]
        show some (if _ then NameKind.cell else NameKind.free) = _ ∨ some (if _ then NameKind.cell else NameKind.free) = _
        split
        · exact .inl rfl
        · exact .inr rfl
  · rcases blk_look S I _ h with a | ⟨_, a⟩
    · exact ⟨_, (ok.empty _ _ a).1⟩
    · obtain ⟨v, q⟩ := I.cell x c a
      exact ⟨v, q.keeps k1⟩
  · rcases blk_look S I _ h with a | ⟨_, a⟩
    · exact I.hok.fresh (Nat.le_of_succ_le (ok.empty _ _ a).2)
    · exact I.freeC x c a
  · unfold blkStart
    show _ = N.length
    rw [S.len, List.length_append, List.length_replicate, List.length_map]
end
end L2
namespace L2
open PySem PySem.Spec PyProof.Rows

/-- the tests of a comprehension -/
noncomputable def PTs (X : Cx) (ifs : List Expr) (t : TT) : Prop :=
  ∀ (pins : List (Addr × Obj)) (s : Shared) (σ : St) (H : Hp) (Q : Bool → Hp → Prop), Inv X pins σ H s → t σ H Q →
    wpAny (model X.prog X.w) X.A (forIn ifs true fun c r => if r = true then do let ok ← isTrue c X.env (eval c X.env); pure (ForInStep.yield ok) else pure (ForInStep.yield r)) (TP X pins σ Q) X.xe s
noncomputable def tTrue : TT := fun _ H Q => Q true H
theorem pts_nil {X : Cx} : PTs X [] tTrue := fun _ _ _ H _ I h => wpAny_tests_nil ⟨H, I, h⟩
theorem pts_one {X : Cx} {c : Expr} {t : TT} (h : PT X c t) : PTs X [c] t := fun pins s σ H Q I q => wpAny_tests_one (h pins s σ H Q I q)

/-- one turn of a comprehension's loop: the draw, the hand-over, the store, the tests, the element, the append; at the end 'fin', behind a turn 'more' -/
noncomputable def TurnWp (M : Model) (A : Around) (env : Env) (it acc : Value) (tg elt : Expr) (ifs : List Expr) (E : Value → Shared → Prop) (fin more : Shared → Prop) : Shared → Prop :=
  let kept : Shared → Prop := fun u => wpAny M A (eval elt env) (fun x u5 => wpAny M A (call (.builtin "list.append") [acc, x]) (fun _ u6 => more u6) E u5) E u
  let tested : Shared → Prop := fun u => wpAny M A (forIn ifs true fun c r => if r = true then (do let ok ← isTrue c env (eval c env); pure (ForInStep.yield ok)) else pure (ForInStep.yield r)) (fun ok u4 => if ok = true then kept u4 else more u4) E u
  let taken : Value → Shared → Prop := fun v u => wpAny M A (letOwnedTupleGo tg it v) (fun _ u2 => wpAny M A (assign tg env v) (fun _ u3 => tested u3) E u2) E u
  fun u => wpAny M A (pyNext it) (fun o u1 => match o with | none => fin u1 | some v => taken v u1) E u
theorem loop_by {prog : Program} {w : World} {A : Around} {R : Result → Shared → Prop} {s : Shared} {elt tg iter : Expr} {ifs : List Expr} {scope : Scope} {pos : Pos} {it acc : Value} {env : Env} (I : Nat → Shared → Prop) (n : Nat) (start : I n s)
    (turn : ∀ m u, I m u → TurnWp (model prog w) A env it acc tg elt ifs (notedBy (model prog w) A env fun e v => R (.error e) v) (R (.ok .next)) (fun v => ∃ j, j < m ∧ I j v) u) :
    codeAny (model prog w) A (.compLoop (.ListComp elt [⟨tg, iter, ifs, 0⟩] scope pos) 0 it acc env) R s := by
  refine codeAny_loop rfl I (fun m u hu => wpAny_noted (m := compTurn (.ListComp elt [⟨tg, iter, ifs, 0⟩] scope pos) 0 it acc env) ?_) n start
  have go := turn m u hu
  unfold TurnWp at go
  rw [compTurn_list]
  refine wpAny_bind (wpAny_standAt (wpAny_bind (thn go fun o u1 b1 => ?_)))
  match o, b1 with
  | none, b1 => exact wpAny_pure b1
  | some v, b1 =>
    refine wpAny_bind (thn b1 fun _ u2 b2 => wpAny_bind (thn b2 fun _ u3 b3 => wpAny_bind (thn b3 fun ok u4 b4 => ?_)))
    match ok, b4 with
    | false, b4 => exact wpAny_pure ⟨rfl, b4⟩
    | true, b4 => exact wpAny_bind (wpAny_bind (thn b4 fun x u5 b5 => wpAny_bind (thn b5 fun _ u6 b6 => wpAny_pure (wpAny_pure ⟨rfl, b6⟩))))

/-- a comprehension's reading: own names first, then the captured slots; W: the invariant by the turn, a measure, the block's names, the heap, the items so far -/
noncomputable def CompW (J : It) (g : TG) (tt : TT) (te : TE) (Q : VK) (W : Nat → Nat → St → Hp → List V → Prop) : Prop :=
  ∀ i m σ' H' ys, W i m σ' H' ys →
    (J.stop i H' ∧ ys.length ≤ sizeLine ∧ ∀ p, H' p = none → Q (.ref p) (upd H' p (.lst ys))) ∨
    (J.go i H' ∧ ys.length < sizeLine ∧ ∃ N : St → Hp → List V → Prop, (∀ σ2 H2 zs, N σ2 H2 zs → ∃ m', m' < m ∧ W (i + 1) m' σ2 H2 zs) ∧
      ∀ x H2, J.yld i H' x H2 → g x σ' H2 fun σ3 H3 => tt σ3 H3 fun b H4 => if b = true then te σ3 H4 fun v H5 => N σ3 H5 (ys ++ [v]) else N σ3 H4 ys)
noncomputable def tComp (wi : TI) (own : Nat) (caps : List Nat) (g : TG) (tt : TT) (te : TE) : TE := fun σ H Q => wi σ H fun J H1 =>
  ∃ W : Nat → Nat → St → Hp → List V → Prop, (∃ m, W 0 m (blkStart own caps σ) H1 []) ∧ CompW J g tt te Q W

section
variable {X : Cx} {tg elt iter : Expr} {ifs : List Expr} {scope : Scope} {pos : Pos} {N : List Str} {own : Nat} {caps : List Nat} {wi : TI} {g : TG} {tt : TT} {te : TE}

theorem comp_run {pins : List (Addr × Obj)} {σ : St} {H2 : Hp} {s2 : Shared} {J : It} {fp : List Addr} {it : Addr} {tn : Nat → Heap → Prop} {Q : VK} {W : Nat → Nat → St → Hp → List V → Prop} {m0 : Nat}
    {E : Value → Shared → Prop} {R : Value → Addr → Result → Shared → Prop} (hc : X.calm = true) (S : BlkScope X.N X.env.scope N own caps scope)
    (hg : ∀ cs C s₀ H₀ ex, PG (blk X N scope cs C s₀ H₀ ex) tg g) (ht : ∀ cs C s₀ H₀ ex, PTs (blk X N scope cs C s₀ H₀ ex) ifs tt) (he : ∀ cs C s₀ H₀ ex, PE (blk X N scope cs C s₀ H₀ ex) elt te)
    (I2 : Inv X pins σ H2 s2) (T : Turn X.prog X.w X.K tg J fp it tn) (st2 : tn 0 s2.heap) (f2 : ∀ b ∈ fp, FpOk X pins H2 b)
    (w0 : W 0 m0 (blkStart own caps σ) H2 []) (turn : CompW J g tt te Q W)
    (hpost : ∀ D C s' H' ys, Inv X pins σ (upd H' D (.lst ys)) s' → FpOk X pins (upd H' D (.lst ys)) C → (∃ m, s'.heap.Ns C m) → Q (.ref D) (upd H' D (.lst ys)) → R (.ref D) C (.ok .next) s') :
    wpAny (model X.prog X.w) X.A (newList []) (fun acc s₃ => wpAny (model X.prog X.w) X.A (newFunctionEnv scope X.env.globals (clOf X.env.cells scope.names []) [] X.env.qual none .none (some X.env)) (fun cenv s₄ =>
      codeAny (model X.prog X.w) X.A (.compStart (.ListComp elt [⟨tg, iter, ifs, 0⟩] scope pos) 0 (.ref it) acc { cenv with scope := relabel scope X.env }) (R acc cenv.locals) s₄) E s₃) E s2 := by
  refine wpAny_newObj_type (newEnv_blk ?_)
  dsimp only
  generalize hh3 : s2.heap.push { cls := .type "list", dict := none, data := .seq ([] : List Value).toArray } = h3
  have hC : h3.objs.size = s2.heap.objs.size + 1 := by rw [← hh3, Heap.size_push]
  have up3 : ∀ b o, s2.heap.get? b = some o → h3.get? b = some o := fun b o e => hh3 ▸ Heap.get?_push_of_some _ e
  have I3 : Inv X pins σ H2 { s2 with heap := h3 } := I2.kept (t' := s2.toks) up3
  have gD : h3.get? s2.heap.objs.size = some { cls := .type "list", data := .seq ([] : List Value).toArray } := hh3 ▸ Heap.get?_push_size _ rfl
  have fD : FpOk X pins H2 s2.heap.objs.size := I2.fpOk (Nat.le_refl _) (I2.hok.fresh (Nat.le_refl _))
  have fplt : ∀ b ∈ fp, b < s2.heap.objs.size := fun b hb => by
    obtain ⟨o, e, _⟩ := T.obj 0 _ st2 b hb
    exact Heap.lt_size e
  have hex : ∀ b ∈ s2.heap.objs.size :: fp, FpOk X pins H2 b ∧ b < ({ s2 with heap := h3 } : Shared).heap.objs.size := fun b hb => by
    show _ ∧ b < h3.objs.size
    rw [hC]
    cases hb with
    | head => exact ⟨fD, Nat.lt_succ_self _⟩
    | tail _ hb => exact ⟨f2 b hb, Nat.lt_succ_of_lt (fplt b hb)⟩
  have IB := inv_blk S I3 hex
  -- the block's context
  generalize hY : blk X N scope (blkCells X scope h3.objs.size) h3.objs.size { s2 with heap := h3 } H2 (s2.heap.objs.size :: fp) = Y at IB
  have yP : Y.prog = X.prog := by rw [← hY]; rfl
  have yW : Y.w = X.w := by rw [← hY]; rfl
  have yK : Y.K = X.K := by rw [← hY]; rfl
  have yc : Y.calm = true := by rw [← hY]; exact hc
  have yA : Y.A = X.A := by rw [← hY]; rfl
  have yx : Y.xe = fun _ _ => False := by rw [← hY]; rfl
  have yL : Y.env.locals = h3.objs.size := by rw [← hY]; rfl
  have yex : Y.ex = s2.heap.objs.size :: fp := by rw [← hY]; rfl
  have yfs : Y.fs = frs X.stack := by rw [← hY]; rfl
  have ypn : Y.pn = [] := by rw [← hY]; rfl
  have yenv : Y.env = compEnvC scope (blkCells X scope h3.objs.size) h3.objs.size X.env := by rw [← hY]; rfl
  have yg : PG Y tg g := by rw [← hY]; exact hg _ _ _ _ _
  have yt : PTs Y ifs tt := by rw [← hY]; exact ht _ _ _ _ _
  have ye : PE Y elt te := by rw [← hY]; exact he _ _ _ _ _
  have yb : ∀ {σ' : St} {H' : Hp} {s' : Shared} {pn : List (Addr × Obj)}, Inv Y pn σ' H' s' → Un (frs X.stack) (s2.heap.objs.size :: fp) H2 H' h3 s'.heap := fun {σ' H' s' pn} J => by
    have b := J.base
    rw [yfs, yex] at b
    have e1 : Y.H₀ = H2 := by rw [← hY]; rfl
    have e2 : Y.s₀.heap = h3 := by rw [← hY]; rfl
    rw [e1, e2] at b
    exact b
  have yos : ∀ {σ' : St} {H' : Hp} {s' : Shared} {pn : List (Addr × Obj)}, Inv Y pn σ' H' s' → s'.os = s2.os := fun {σ' H' s' pn} J => by
    have e : Y.s₀.os = s2.os := by rw [← hY]; rfl
    exact J.os.trans e
  have DL : s2.heap.objs.size ≠ Y.env.locals := by rw [yL, hC]; exact Nat.ne_of_lt (Nat.lt_succ_self _)
  have Dfp : s2.heap.objs.size ∉ fp := fun z => Nat.lt_irrefl _ (fplt _ z)
  have exY : ∀ b ∈ s2.heap.objs.size :: fp, b ∈ Y.ex := fun b hb => by rw [yex]; exact hb
  have fpY : ∀ {pn : List (Addr × Obj)} {H' : Hp}, (∀ p ∈ pn, p.1 ∉ fp) → (∀ b ∈ fp, H' b = none) → ∀ b ∈ fp, FpOk Y pn H' b := fun {pn H'} hp hn b hb => by
    have hb' := exY b (List.mem_cons_of_mem _ hb)
    refine ⟨hn b hb, (IB.ok.exf b hb').1, IB.ok.exfs b hb', .inl hb', (IB.ok.exf b hb').2, fun p hp' z => ?_⟩
    rw [ypn, List.nil_append] at hp'
    exact hp p hp' (z ▸ hb)
  have up4 : ∀ b o, h3.get? b = some o → (blkHeap h3 scope).get? b = some o := fun b o e => pushCells_keeps _ _ b o (Heap.get?_push_of_some _ e)
  have st4 : tn 0 (blkHeap h3 scope) := T.keep 0 s2.heap _ st2 fun b _ o e => up4 b o (up3 b o e)
  have gD4 := up4 _ _ gD
  have loop : codeAny (model X.prog X.w) X.A (.compLoop (.ListComp elt [⟨tg, iter, ifs, 0⟩] scope pos) 0 (.ref it) (.ref s2.heap.objs.size) (compEnvC scope (blkCells X scope h3.objs.size) h3.objs.size X.env)) (R (.ref s2.heap.objs.size) h3.objs.size)
      { s2 with heap := blkHeap h3 scope } := by
    refine loop_by (fun n s' => ∃ i σ' H' ys its cap, Inv Y [] σ' H' s' ∧ tn i s'.heap ∧ (∀ b ∈ fp, H' b = none) ∧ H' s2.heap.objs.size = none ∧
      s'.heap.get? s2.heap.objs.size = some { cls := .type "list", data := .seq (its : List Value).toArray cap } ∧ Vals ys its ∧ W i n σ' H' ys) m0
      ⟨0, _, H2, [], [], _, IB, st4, fun b hb => (f2 b hb).1, fD.1, gD4, .nil, w0⟩ ?_
    rintro n s5 ⟨i, σ5, H5, ys, its, cap, I5, t5, fr5, nD5, gD5, rv5, w5⟩
    unfold TurnWp
    dsimp only
    have pin5 : Inv Y [(s2.heap.objs.size, { cls := .type "list", data := .seq its.toArray cap })] σ5 H5 s5 := I5.pins_of fun p hp => by
      have e := List.mem_singleton.mp hp
      subst e
      exact ⟨gD5, nD5, DL, IB.ok.exfs _ (exY _ List.mem_cons_self), fun v z => by cases z⟩
    have pno : ∀ p ∈ [((s2.heap.objs.size : Addr), ({ cls := .type "list", data := .seq its.toArray cap } : Obj))], p.1 ∉ fp := fun p hp => by
      have e := List.mem_singleton.mp hp
      subst e
      exact Dfp
    have fpo : ∀ {H' : Hp}, (∀ b ∈ fp, H' b = none) → ∀ b ∈ fp, FpOk Y [((s2.heap.objs.size : Addr), ({ cls := .type "list", data := .seq its.toArray cap } : Obj))] H' b := fun hn => fpY pno hn
    rcases turn i n σ5 H5 ys w5 with ⟨stop, hz, qn⟩ | ⟨go, hz, NN, hNN, step⟩
    · rw [← yA]
      refine wpAny_mono (T.done Y yP yW yK yc i _ s5 σ5 H5 (fun _ _ => False) pin5 (fpo fr5) t5 stop) (fun r s6 h6 => ?_) fun _ _ f => f.elim
      obtain ⟨hr, I6⟩ := h6
      subst hr
      have hp6 := I6.pin (s2.heap.objs.size, _) (List.mem_append_right _ (List.mem_singleton.mpr rfl))
      have nD : H2 s2.heap.objs.size = none := fD.1
      have base := yb I6
      have un : Un (frs X.stack) (s2.heap.objs.size :: fp) H2 (upd H5 s2.heap.objs.size (.lst ys)) h3 s6.heap := ⟨base.keep, base.slot, fun b o e n hx => by
          rw [upd_ne (fun z => hx (by rw [z]; exact List.mem_cons_self))]; exact base.free b o e n hx, base.there,
        fun b xs e => by rw [upd_ne (ne_of_none e nD)]; exact base.tups b xs e, fun b o u e => by rw [upd_ne (ne_of_none e nD)]; exact base.frzs b o u e, fun b ps e => by
          obtain ⟨more, q⟩ := base.tbls b ps e
          exact ⟨more, by rw [upd_ne (ne_of_none e nD)]; exact q⟩⟩
      have hok : HOk X.prog X.w (upd H5 s2.heap.objs.size (.lst ys)) s6.heap := fun b u e => by
        have hok6 := I6.hok
        rw [yP, yW] at hok6
        by_cases hb : b = s2.heap.objs.size
        · subst hb
          rw [upd_same] at e
          cases e
          exact ⟨hz, its, cap, rv5, hp6.1⟩
        · rw [upd_ne hb] at e
          exact (hok6 b u e).stay (fun c v _ q => q) (fun c q => by rw [upd_ne (ne_of_none q hp6.2.1)]; exact q) fun c xs q => by rw [upd_ne (ne_of_none q hp6.2.1)]; exact q
      have I7 : Inv X pins σ (upd H5 s2.heap.objs.size (.lst ys)) s6 := I3.call' (yos I6) un hok I6.bare fun b hb => by
        have z := (hex b hb).1
        exact ⟨z.2.2.2.1, z.2.1, z.2.2.2.2.1, z.2.2.2.2.2⟩
      have hCn : H5 h3.objs.size = none := by rw [← yL]; exact I6.free
      have CD : h3.objs.size ≠ s2.heap.objs.size := by rw [hC]; exact Nat.succ_ne_self _
      refine hpost _ _ s6 H5 ys I7 (I3.fpOk (Nat.le_refl _) (by rw [upd_ne CD]; exact hCn)) ?_ (qn _ nD5)
      obtain ⟨m, hn, _⟩ := I6.loc
      rw [yL] at hn
      exact ⟨m, hn⟩
    · rw [← yA]
      have lift : ∀ {α : Type} {t : Sem α} {Q1 Q2 : α → Shared → Prop} {s' : Shared}, wpAny (model X.prog X.w) Y.A t Q1 Y.xe s' → (∀ a s'', Q1 a s'' → Q2 a s'') →
          wpAny (model X.prog X.w) Y.A t Q2 (notedBy (model X.prog X.w) Y.A (compEnvC scope (blkCells X scope h3.objs.size) h3.objs.size X.env) fun e s' => R (.ref s2.heap.objs.size) h3.objs.size (.error e) s') s' := fun h k =>
        wpAny_mono h k fun _ _ f => by rw [yx] at f; exact f.elim
      refine lift (T.item Y yP yW yK yc i _ s5 σ5 H5 Y.xe pin5 (fpo fr5) t5 go) fun r s6 h6 => ?_
      obtain ⟨u, hr, h6⟩ := h6
      subst hr
      refine lift h6 fun _ s7 h7 => ?_
      obtain ⟨x, H7, I7, r7, y7, t7, fr7⟩ := h7
      have I7' := I7.pinned (fpo fr7) (T.obj _ _ t7)
      have ha := yg _ s7 σ5 H7 x u _ I7' r7 (step x H7 y7)
      rw [yP, yW, yenv] at ha
      refine lift ha fun _ s8 h8 => ?_
      obtain ⟨σ8, H8, I8, q8⟩ := h8
      have hb := yt _ s8 σ8 H8 _ I8 q8
      rw [yP, yW, yenv] at hb
      refine lift hb fun ok s9 h9 => ?_
      obtain ⟨H9, I9, q9⟩ := h9
      -- what the pins tell
      have after : ∀ {σ' : St} {H' : Hp} {s' : Shared}, Inv Y ([((s2.heap.objs.size : Addr), ({ cls := .type "list", data := .seq its.toArray cap } : Obj))] ++ pinsAt fp s7.heap) σ' H' s' →
          Inv Y [] σ' H' s' ∧ tn (i + 1) s'.heap ∧ (∀ b ∈ fp, H' b = none) ∧ H' s2.heap.objs.size = none ∧ s'.heap.get? s2.heap.objs.size = some { cls := .type "list", data := .seq its.toArray cap } := fun {σ' H' s'} J => by
        have pD := J.pin (s2.heap.objs.size, _) (List.mem_append_right _ (List.mem_append_left _ (List.mem_singleton.mpr rfl)))
        refine ⟨J.pins_of (fun p hp => by cases hp), T.keep _ _ _ t7 fun b hb o e => (J.pin (b, o) (List.mem_append_right _ (List.mem_append_right _ (mem_pinsAt hb e)))).1, fun b hb => ?_, pD.2.1, pD.1⟩
        obtain ⟨o, e, d⟩ := T.obj _ _ t7 b hb
        exact (J.pin (b, o) (List.mem_append_right _ (List.mem_append_right _ (mem_pinsAt hb e)))).2.1
      cases ok with
      | false =>
        rw [if_neg (by decide)] at q9
        rw [if_neg (by decide)]
        obtain ⟨m', hm, w9⟩ := hNN _ _ _ q9
        obtain ⟨a1, a2, a3, a4, a5⟩ := after I9
        exact ⟨m', hm, i + 1, σ8, H9, ys, its, cap, a1, a2, a3, a4, a5, rv5, w9⟩
      | true =>
        rw [if_pos rfl] at q9
        rw [if_pos rfl]
        have hd := ye _ s9 σ8 H9 _ I9 q9
        rw [yP, yW, yenv] at hd
        refine lift hd fun v s10 h10 => ?_
        obtain ⟨y, H10, I10, r10, n10⟩ := h10
        obtain ⟨m', hm, w10⟩ := hNN _ _ _ n10
        obtain ⟨a1, a2, a3, a4, a5⟩ := after I10
        have hlen := rv5.length
        refine append_at (hsz := by rw [List.size_toArray]; omega) a5 fun h' sb g' => ?_
        have hDx := exY _ (List.mem_cons_self (a := s2.heap.objs.size) (l := fp))
        have I11 : Inv Y [] σ8 H10 { s10 with heap := h' } := a1.turned (t' := s10.toks) (it := s2.heap.objs.size) (fun b o hb e => (sb.2 b hb).trans e) a4 DL (.inl hDx) (IB.ok.exf _ hDx).2 (by rw [ypn]; intro p hp; cases hp)
        refine ⟨m', hm, i + 1, σ8, H10, ys ++ [y], its ++ [v], cap + 1, I11, T.keep _ _ _ a2 fun b hb o e => (sb.2 b (fun z => Dfp (z ▸ hb))).trans e, a3, a4, ?_, rv5.snoc r10, w10⟩
        rw [g', List.push_toArray]
  exact codeAny_compStart_list loop (T.self X.A 0 _ _ _ st4 loop)

theorem comp_clos (S : BlkScope X.N X.env.scope N own caps scope) {pins : List (Addr × Obj)} {σ : St} {H : Hp} {s : Shared} (I : Inv X pins σ H s) : closureFor scope X.env = pure (clOf X.env.cells scope.names []) :=
  closureFor_eq fun x hx hk => I.ok.has x.1 (S.free x hx hk)

theorem pe_comp (hc : X.calm = true) (hi : PI X tg iter wi) (S : BlkScope X.N X.env.scope N own caps scope)
    (hg : ∀ cs C s₀ H₀ ex, PG (blk X N scope cs C s₀ H₀ ex) tg g) (ht : ∀ cs C s₀ H₀ ex, PTs (blk X N scope cs C s₀ H₀ ex) ifs tt) (he : ∀ cs C s₀ H₀ ex, PE (blk X N scope cs C s₀ H₀ ex) elt te)
    (hs : ∀ x, foldedSetIterable iter X.env x = pure x := by intro _; rfl) : PE X (.ListComp elt [⟨tg, iter, ifs, 0⟩] scope pos) (tComp wi own caps g tt te) := by
  intro pins s σ H Q I h
  rw [eval_ListComp]
  refine wpAny_comprehension_free (use := none) rfl hs (comp_clos S I) S.kind (fun x hx hl => lookup_of_mem S.ndn (by rw [← hl]; exact hx)) ?_
  refine thn (hi pins s σ H _ I h) fun v s1 h1 => thn h1 fun itv s2 h2 => ?_
  obtain ⟨it, fp, tn, J, H2, e, I2, T, st2, f2, W, ⟨m0, w0⟩, turn⟩ := h2
  subst e
  refine comp_run hc S hg ht he I2 T st2 f2 w0 turn fun D C s' H' ys I' F' hn q => ?_
  obtain ⟨m, hn⟩ := hn
  refine ⟨m, hn, fun h' sb => ⟨.ref D, _, I'.turned (t' := s'.toks) (fun b o hb e => (sb.2 b hb).trans e) F'.1 F'.2.1 F'.2.2.2.1 F'.2.2.2.2.1 F'.2.2.2.2.2, rfl, q⟩⟩

theorem ps_setComp {i : Nat} {x : Str} {pos' spos : Pos} (hc : X.calm = true) (hN : X.N.Nodup) (hix : X.N[i]? = some x) (hx : X.env.scope.names.lookup x = some .local) (hi : PI X tg iter wi) (S : BlkScope X.N X.env.scope N own caps scope)
    (hg : ∀ cs C s₀ H₀ ex, PG (blk X N scope cs C s₀ H₀ ex) tg g) (ht : ∀ cs C s₀ H₀ ex, PTs (blk X N scope cs C s₀ H₀ ex) ifs tt) (he : ∀ cs C s₀ H₀ ex, PE (blk X N scope cs C s₀ H₀ ex) elt te)
    (hsw : swapsWith (.ListComp elt [⟨tg, iter, ifs, 0⟩] scope pos) (some (.Name x pos')) spos.line X.env = pure true := by rfl)
    (hs : ∀ x, foldedSetIterable iter X.env x = pure x := by intro _; rfl) : PS X (.Assign [.Name x pos'] (.ListComp elt [⟨tg, iter, ifs, 0⟩] scope pos) spos) (tAsg (tComp wi own caps g tt te) (gName i)) := by
  intro pins s σ H D I h
  rw [exec_Assign_Name_used _ _ _ _ hsw]; refine wpAny_bind (wpAny_standAt (wpAny_bind ?_))
  show wpAny _ X.A (do let _ ← comprehension (.ListComp elt [⟨tg, iter, ifs, 0⟩] scope pos) scope X.env _ (newList []) false (eval iter X.env) (some (assign (.Name x pos') X.env))) _ _ s
  refine wpAny_bind (wpAny_mono (wpAny_comprehension_free (use := some (assign (.Name x pos') X.env)) (Q := fun _ s' => SP X pins D .next s') rfl hs (comp_clos S I) S.kind (fun x hx hl => lookup_of_mem S.ndn (by rw [← hl]; exact hx)) ?_) (fun _ s' hq => wpAny_pure (wpAny_pure hq)) fun _ _ e => e)
  refine thn (hi pins s σ H _ I h) fun v s1 h1 => thn h1 fun itv s2 h2 => ?_
  obtain ⟨it, fp, tn, J, H2, e, I2, T, st2, f2, W, ⟨m0, w0⟩, turn⟩ := h2
  subst e
  refine comp_run hc S hg ht he I2 T st2 f2 w0 turn fun D' C s' H' ys I' F' hn q => ?_
  obtain ⟨m, hn⟩ := hn
  refine wpAny_assign_Name (store_ok2 (v := .ref D') I' hN hix (.inl hx) rfl (fun s'' I'' h'' => ?_) (.inr hx))
  obtain ⟨a, sb, ha⟩ := h''
  have hCa : C ≠ a := by
    rcases ha with ha | ha
    · rw [ha]; exact F'.2.1
    · exact (F'.2.2.2.2.1 x a ha).symm
  exact ⟨m, hn.sameBut sb hCa, fun h' sb' => ⟨_, _, I''.turned (t' := s''.toks) (fun b o hb e => (sb'.2 b hb).trans e) F'.1 F'.2.1 F'.2.2.2.1 F'.2.2.2.2.1 F'.2.2.2.2.2, q⟩⟩
end
end L2
namespace L2
open PySem PySem.Spec PyProof.Rows
set_option maxRecDepth 100000
/-! ### iterators of lists and tuples, and zip over them: by walking the builtins -/
noncomputable def itKind (b : Bool) : String := match b with
  | true => "list_iterator"
  | false => "tuple_iterator"
noncomputable def sqKind (b : Bool) : String := match b with
  | true => "list"
  | false => "tuple"
/-- an iterator's record -/
noncomputable abbrev itRec (b : Bool) (a : Addr) (i : Nat) : Obj := { cls := .type (itKind b), data := .fields #[.ref a, .int i 0] }
noncomputable def itOf (b : Bool) (h : Heap) (it a : Addr) (i : Nat) : Prop := h.get? it = some (itRec b a i)
noncomputable def isSq (b : Bool) (h : Heap) (a : Addr) (its : Array Value) : Prop := ∃ o n, h.get? a = some o ∧ o.cls = .type (sqKind b) ∧ o.data = .seq its n

section
variable (it a : Addr) (i : Nat) (its : Array Value) (o : Obj) (n : Nat) (ed : o.data = .seq its n)
include ed
theorem step_tup (x : Value) (hx : its[i]? = some x) :
    Meets (Builtin.«tuple_iterator.__next__» ⟨[.ref it], []⟩) (fun _ R s => (s.heap.get? it = some (itRec false a i) ∧ s.heap.get? a = some o) ∧
      R (.ok (.ret x)) { s with heap := s.heap.update it (Obj.mapFields fun vs => vs.setIfInBounds 1 (rawInt ((i : Int) + 1))) }) :=
  .of_wp fun prog w A R s hyp => by
    obtain ⟨h, g, dr, tk, os⟩ := s
    obtain ⟨⟨e1, e2⟩, fin⟩ := hyp
    have hx' : its[((i : Nat) : Int).toNat]? = some x := by simpa using hx
    wp_walk
    rw [ed]
    wp_walk
    rw [hx']
    wp_walk
    exact ⟨_, rfl, fin⟩
theorem step_lst (x : Value) (hx : its[i]? = some x) :
    Meets (Builtin.«list_iterator.__next__» ⟨[.ref it], []⟩) (fun _ R s => (s.heap.get? it = some (itRec true a i) ∧ s.heap.get? a = some o) ∧
      R (.ok (.ret x)) { s with heap := s.heap.update it (Obj.mapFields fun vs => vs.setIfInBounds 1 (rawInt ((i : Int) + 1))) }) :=
  .of_wp fun prog w A R s hyp => by
    obtain ⟨h, g, dr, tk, os⟩ := s
    obtain ⟨⟨e1, e2⟩, fin⟩ := hyp
    have hx' : its[((i : Nat) : Int).toNat]? = some x := by simpa using hx
    wp_walk
    rw [ed]
    wp_walk
    rw [hx']
    wp_walk
    exact ⟨_, rfl, fin⟩
theorem stop_tup (hx : its[i]? = none) :
    Meets (Builtin.«tuple_iterator.__next__» ⟨[.ref it], []⟩) (fun A R s => A.handled = none ∧ (s.heap.get? it = some (itRec false a i) ∧ s.heap.get? a = some o) ∧
      ∀ h' e, (∀ b u, b ≠ it → s.heap.get? b = some u → h'.get? b = some u) → (∃ u, h'.get? e = some u ∧ u.cls = .type "StopIteration") → R (.error (.ref e)) { s with heap := h' }) :=
  .of_wp fun prog w A R s hyp => by
    obtain ⟨h, g, dr, tk, os⟩ := s
    obtain ⟨hh, ⟨e1, e2⟩, fin⟩ := hyp
    have hh' : A.in1.handled = none := hh
    have hx' : its[((i : Nat) : Int).toNat]? = none := by simpa using hx
    wp_walk
    rw [ed]
    wp_walk
    rw [hx']
    wp_walk
    unfold raiseNew
    wp_walk
    refine fin _ _ (fun b u hb q => ?_) ⟨_, Heap.get?_push_size _ rfl, rfl⟩
    exact Heap.get?_push_of_some _ (Heap.get?_push_of_some _ ((Heap.get?_update_other _ _ (Ne.symm hb)).trans q))
theorem stop_lst (hx : its[i]? = none) :
    Meets (Builtin.«list_iterator.__next__» ⟨[.ref it], []⟩) (fun A R s => A.handled = none ∧ (s.heap.get? it = some (itRec true a i) ∧ s.heap.get? a = some o) ∧
      ∀ h' e, (∀ b u, b ≠ it → s.heap.get? b = some u → h'.get? b = some u) → (∃ u, h'.get? e = some u ∧ u.cls = .type "StopIteration") → R (.error (.ref e)) { s with heap := h' }) :=
  .of_wp fun prog w A R s hyp => by
    obtain ⟨h, g, dr, tk, os⟩ := s
    obtain ⟨hh, ⟨e1, e2⟩, fin⟩ := hyp
    have hh' : A.in1.handled = none := hh
    have hx' : its[((i : Nat) : Int).toNat]? = none := by simpa using hx
    wp_walk
    rw [ed]
    wp_walk
    rw [hx']
    wp_walk
    unfold raiseNew
    wp_walk
    refine fin _ _ (fun b u hb q => ?_) ⟨_, Heap.get?_push_size _ rfl, rfl⟩
    exact Heap.get?_push_of_some _ (Heap.get?_push_of_some _ ((Heap.get?_update_other _ _ (Ne.symm hb)).trans q))
end
section
variable {prog : Program} {w : World} {A : Around} {E : Value → Shared → Prop} {s : Shared} {b : Bool} {it a : Addr} {i : Nat} {its : Array Value}
theorem itOf.moved (h : Heap) (e : itOf b h it a i) : itOf b (h.update it (Obj.mapFields fun vs => vs.setIfInBounds 1 (rawInt ((i : Int) + 1)))) it a (i + 1) := Heap.get?_update_self _ e rfl
theorem sq_next {x : Value} {Q : Value → Shared → Prop} (e1 : itOf b s.heap it a i) (e2 : isSq b s.heap a its) (hx : its[i]? = some x)
    (q : ∀ h', itOf b h' it a (i + 1) → Heap.SameBut it s.heap h' → Q x { s with heap := h' }) : wpAny (model prog w) A (Builtin.SmallTypes.nextOf (.ref it)) Q E s := by
  obtain ⟨o, n, eo, ec, ed⟩ := e2
  cases b <;> unfold Builtin.SmallTypes.nextOf
  · exact wpAny_bind (wpAny_callSpecial?_slot (T := "tuple_iterator") ⟨_, e1, rfl⟩ F.slot_tuple_iterator_next (call_meets F.slot_tuple_iterator_next ⟨_, e1, rfl⟩ F.entry_tuple_iterator_next (F.args_tuple_iterator_next_1 _) (step_tup it a i its o n ed x hx)
      ⟨⟨e1, eo⟩, wpAny_pure (q _ (itOf.moved _ e1) (Heap.SameBut.update ..))⟩))
  · exact wpAny_bind (wpAny_callSpecial?_slot (T := "list_iterator") ⟨_, e1, rfl⟩ slot_listiter_next (call_meets slot_listiter_next ⟨_, e1, rfl⟩ entry_listiter_next (args_listiter_next _) (step_lst it a i its o n ed x hx)
      ⟨⟨e1, eo⟩, wpAny_pure (q _ (itOf.moved _ e1) (Heap.SameBut.update ..))⟩))
theorem sq_stop {Q : Value → Shared → Prop} (hh : A.handled = none) (e1 : itOf b s.heap it a i) (e2 : isSq b s.heap a its) (hx : its[i]? = none)
    (q : ∀ h' e, Heap.ExtBut it s.heap h' → (∃ u, h'.get? e = some u ∧ u.cls = .type "StopIteration") → E (.ref e) { s with heap := h' }) : wpAny (model prog w) A (Builtin.SmallTypes.nextOf (.ref it)) Q E s := by
  obtain ⟨o, n, eo, ec, ed⟩ := e2
  cases b <;> unfold Builtin.SmallTypes.nextOf
  · exact wpAny_bind (wpAny_callSpecial?_slot (T := "tuple_iterator") ⟨_, e1, rfl⟩ F.slot_tuple_iterator_next (call_meets F.slot_tuple_iterator_next ⟨_, e1, rfl⟩ F.entry_tuple_iterator_next (F.args_tuple_iterator_next_1 _) (stop_tup it a i its o n ed hx)
      ⟨hh, ⟨e1, eo⟩, fun h' e k z => q h' e (fun c u hc y => k c u hc y) z⟩))
  · exact wpAny_bind (wpAny_callSpecial?_slot (T := "list_iterator") ⟨_, e1, rfl⟩ slot_listiter_next (call_meets slot_listiter_next ⟨_, e1, rfl⟩ entry_listiter_next (args_listiter_next _) (stop_lst it a i its o n ed hx)
      ⟨hh, ⟨e1, eo⟩, fun h' e k z => q h' e (fun c u hc y => k c u hc y) z⟩))
end
/-- the draws of a list's or a tuple's iterator -/
theorem draws_sq {prog : Program} {w : World} {A : Around} (b : Bool) (hh : A.handled = none) (it l : Addr) (hne : l ≠ it) (items : Array Value) :
    Draws prog w A it [it, l] items.size (fun i v => items[i]? = some v) (fun i h => itOf b h it l i ∧ isSq b h l items) := by
  refine ⟨fun i h st => ⟨_, st.1⟩, fun i h h' st k => ⟨k it (by simp) _ st.1, ?_⟩, fun i s Q E hi st q => ?_, fun s Q E st q => sq_stop hh st.1 st.2 (by simp) q⟩
  · obtain ⟨o, n, eo, r⟩ := st.2
    exact ⟨o, n, k l (by simp) o eo, r⟩
  · have hx : items[i]? = some items[i] := by simp [hi]
    refine sq_next st.1 st.2 hx fun h' e1 sb => q _ h' s.toks hx ⟨e1, ?_⟩ sb
    obtain ⟨o, n, eo, r⟩ := st.2
    exact ⟨o, n, (sb.2 l hne).trans eo, r⟩
structure ZipSep (z TI TO i1 i2 : Addr) (fp1 fp2 : List Addr) : Prop where
  dTz : TI ≠ z
  dOz : TO ≠ z
  d1z : i1 ≠ z
  d2z : i2 ≠ z
  dTO : TI ≠ TO
  dT1 : TI ≠ i1
  dT2 : TI ≠ i2
  dO1 : TO ≠ i1
  dO2 : TO ≠ i2
  d12 : i1 ≠ i2
  fz : z ∉ fp1 ∧ z ∉ fp2
  fO : TO ∉ fp1 ∧ TO ∉ fp2
  f2 : i2 ∉ fp1
  f1 : i1 ∉ fp2
section
variable {prog : Program} {w : World} {A : Around} {E : Value → Shared → Prop} {z TI TO i1 i2 : Addr} {fp1 fp2 : List Addr} {n1 n2 k : Nat} {P1 P2 : Nat → Value → Prop} {S1 S2 : Nat → Heap → Prop} {a b : Value}
theorem Draws.but {it : Addr} {fp : List Addr} {n : Nat} {P : Nat → Value → Prop} {St : Nat → Heap → Prop} (D : PySem.Draws prog w A it fp n P St) {c : Addr} {h h' : Heap} {k : Nat} (x : St k h) (hc : c ∉ fp) (sb : Heap.SameBut c h h') : St k h' :=
  D.frame _ _ _ x fun b hb o e => (sb.2 b fun z => hc (z ▸ hb)).trans e
/-- what is left of a heap that changed at the zip's own objects -/
noncomputable def ZKeep (z TO i1 i2 : Addr) (h h' : Heap) : Prop := ∀ c o, c ≠ z → c ≠ TO → c ≠ i1 → c ≠ i2 → h.get? c = some o → h'.get? c = some o
set_option maxHeartbeats 2000000 in
theorem zip_go {s : Shared} {Q : Value → Shared → Prop} (D1 : PySem.Draws prog w A i1 fp1 n1 P1 S1) (D2 : PySem.Draws prog w A i2 fp2 n2 P2 S2) (D : ZipSep z TI TO i1 i2 fp1 fp2)
    (hz : IsZip s.heap z TI TO .none) (hT : IsPair s.heap TI (.ref i1) (.ref i2)) (hO : IsPair s.heap TO a b) (h1 : S1 k s.heap) (h2 : S2 k s.heap) (l1 : k < n1) (l2 : k < n2)
    (q : ∀ x y h' t, P1 k x → P2 k y → IsZip h' z TI TO (rawInt s.heap.objs.size) → IsPair h' TO x y → S1 (k + 1) h' → S2 (k + 1) h' → IsPair h' s.heap.objs.size x y → h'.objs.size = s.heap.objs.size + 1 → ZKeep z TO i1 i2 s.heap h' →
      Q (.ref s.heap.objs.size) { s with heap := h', toks := t }) : wpAny (model prog w) A (Builtin.«zip.__next__» ⟨[.ref z], []⟩) (fun fin s' => ∃ v, fin = .done (.ret v) ∧ Q v s') E s := by
  obtain ⟨h, g, dr, tk, os⟩ := s
  have hz' : h.get? z = some _ := hz
  have hT' : h.get? TI = some _ := hT
  wp_walk using wpAny_onRaise, D1.item k _ _ _ l1
  · exact Draws.but D1 h1 D.fz.1 (Heap.SameBut.update ..)
  intro x ha ta p1 sa ka
  replace ka : Heap.SameBut i1 (h.update z _) ha := ka
  have zz := Heap.SameBut.update h z (Obj.mapFields fun vs => vs.setIfInBounds 0 Value.ellipsis)
  have hOa : ha.get? TO = some _ := ((ka.2 TO D.dO1).trans (zz.2 TO D.dOz)).trans hO
  have tt := Heap.SameBut.update ha TO (Obj.mapSeq fun vs => vs.setIfInBounds 0 x)
  wp_walk using wpAny_onRaise, wpAny_updateSeq hOa rfl, D2.item k _ _ _ l2
  all_goals try exact Draws.but D2 (Draws.but D2 (Draws.but D2 h2 D.fz.2 zz) D.f1 ka) D.fO.2 tt
  intro y hb tb p2 sb kb
  replace kb : Heap.SameBut i2 (ha.update TO _) hb := kb
  have hOb : hb.get? TO = some { cls := .type "tuple", data := .seq #[x, b] } := by
    rw [kb.2 TO D.dO2, Heap.get?_update_self _ hOa rfl]
    simp [Obj.mapSeq]
  have hzb : hb.get? z = some { cls := .type "zip", dict := none, data := .fields #[.ellipsis, .bool false, .bool false, .ref TI, .ref TO], slots := #[] } := by
    rw [kb.2 z D.d2z.symm, tt.2 z D.dOz.symm, ka.2 z D.d1z.symm, Heap.get?_update_self _ hz' rfl]
    simp [Obj.mapFields]
  have nz : TO ≠ z := D.dOz
  wp_walk using wpAny_updateSeq hOb rfl
  refine ⟨_, rfl, ?_⟩
  dsimp only
  have sz : hb.objs.size = h.objs.size := by rw [kb.1, tt.1, ka.1, zz.1]
  have uu := Heap.SameBut.update hb TO (Obj.mapSeq fun vs => vs.setIfInBounds (0 + 1) y)
  have hOc : (hb.update TO (Obj.mapSeq fun vs => vs.setIfInBounds (0 + 1) y)).get? TO = some { cls := .type "tuple", data := .seq #[x, y] } := by
    rw [Heap.get?_update_self _ hOb rfl]
    simp [Obj.mapSeq]
  have ex : (#[x, b].setIfInBounds (0 + 1) y).toList.toArray = #[x, y] := by simp
  rw [ex]
  generalize hb.update TO (Obj.mapSeq fun vs => vs.setIfInBounds (0 + 1) y) = hc at uu hOc ⊢
  have szc : hc.objs.size = h.objs.size := uu.1.trans sz
  have new := Heap.get?_push_size hc (o := { cls := .type "tuple", data := .seq #[x, y] }) rfl
  have szp := Heap.size_push hc { cls := .type "tuple", data := .seq #[x, y] }
  have old : ∀ c o, hc.get? c = some o → (hc.push { cls := .type "tuple", data := .seq #[x, y] }).get? c = some o := fun c o e => Heap.get?_push_of_some _ e
  rw [szc] at new szp ⊢
  generalize hc.push { cls := .type "tuple", data := .seq #[x, y] } = hp at new szp old ⊢
  have hzp := old z _ ((uu.2 z D.dOz.symm).trans hzb)
  have v1 := Heap.SameBut.update hp z (Obj.mapFields fun vs => vs.setIfInBounds 0 (rawInt h.objs.size))
  have v2 := Heap.SameBut.update (hp.update z (Obj.mapFields fun vs => vs.setIfInBounds 0 (rawInt h.objs.size))) z (Obj.mapFields fun vs => vs.setIfInBounds 1 (Value.bool false))
  have hzF : ((hp.update z (Obj.mapFields fun vs => vs.setIfInBounds 0 (rawInt h.objs.size))).update z (Obj.mapFields fun vs => vs.setIfInBounds 1 (Value.bool false))).get? z = some { cls := .type "zip", dict := none, data := .fields #[rawInt h.objs.size, .bool false, .bool false, .ref TI, .ref TO], slots := #[] } := by
    rw [Heap.get?_update_self _ (Heap.get?_update_self _ hzp rfl) rfl]
    simp [Obj.mapFields]
  have fwd : ∀ c o, c ≠ z → hc.get? c = some o → ((hp.update z (Obj.mapFields fun vs => vs.setIfInBounds 0 (rawInt h.objs.size))).update z (Obj.mapFields fun vs => vs.setIfInBounds 1 (Value.bool false))).get? c = some o := fun c o ne e => ((v2.2 c ne).trans (v1.2 c ne)).trans (old c o e)
  have szF := (v2.1.trans v1.1).trans szp
  have newF := ((v2.2 h.objs.size (Nat.ne_of_gt (Heap.lt_size hz'))).trans (v1.2 h.objs.size (Nat.ne_of_gt (Heap.lt_size hz')))).trans new
  generalize (hp.update z (Obj.mapFields fun vs => vs.setIfInBounds 0 (rawInt h.objs.size))).update z (Obj.mapFields fun vs => vs.setIfInBounds 1 (Value.bool false)) = hF at hzF fwd szF newF ⊢
  refine q x y hF tb p1 p2 hzF (fwd TO _ D.dOz hOc) (D1.frame _ _ _ (Draws.but D1 (Draws.but D1 (Draws.but D1 sa D.fO.1 tt) D.f2 kb) D.fO.1 uu) fun c hm o e => fwd c o (fun j => D.fz.1 (j ▸ hm)) e)
    (D2.frame _ _ _ (Draws.but D2 sb D.fO.2 uu) fun c hm o e => fwd c o (fun j => D.fz.2 (j ▸ hm)) e) newF szF fun c o n1 n2 n3 n4 e => fwd c o n1 ?_
  rw [uu.2 c n2, kb.2 c n4, tt.2 c n2, ka.2 c n3, zz.2 c n1]
  exact e
end
section
variable {prog : Program} {w : World} {A : Around} {E : Value → Shared → Prop} {z TI TO i1 i2 : Addr} {fp1 fp2 : List Addr} {n1 n2 k : Nat} {P1 P2 : Nat → Value → Prop} {S1 S2 : Nat → Heap → Prop} {a b : Value}
set_option maxHeartbeats 2000000 in
theorem zip_end {s : Shared} {Q : Fin → Shared → Prop} (D1 : PySem.Draws prog w A i1 fp1 n1 P1 S1) (D2 : PySem.Draws prog w A i2 fp2 n2 P2 S2) (D : ZipSep z TI TO i1 i2 fp1 fp2)
    (hz : IsZip s.heap z TI TO .none) (hT : IsPair s.heap TI (.ref i1) (.ref i2)) (hO : IsPair s.heap TO a b) (h1 : S1 k s.heap) (h2 : S2 k s.heap) (hend : k = n1 ∨ (k < n1 ∧ k = n2))
    (q : ∀ h' e t, ZKeep z TO i1 i2 s.heap h' → (∃ o, h'.get? e = some o ∧ o.cls = .type "StopIteration") → E (.ref e) { s with heap := h', toks := t }) : wpAny (model prog w) A (Builtin.«zip.__next__» ⟨[.ref z], []⟩) Q E s := by
  obtain ⟨h, g, dr, tk, os⟩ := s
  have hz' : h.get? z = some _ := hz
  have hT' : h.get? TI = some _ := hT
  have zz := Heap.SameBut.update h z (Obj.mapFields fun vs => vs.setIfInBounds 0 Value.ellipsis)
  have hzz : (h.update z (Obj.mapFields fun vs => vs.setIfInBounds 0 Value.ellipsis)).get? z = some { cls := .type "zip", dict := none, data := .fields #[.ellipsis, .bool false, .bool false, .ref TI, .ref TO], slots := #[] } := by
    rw [Heap.get?_update_self _ hz' rfl]
    simp [Obj.mapFields]
  rcases hend with rfl | ⟨l1, rfl⟩
  · wp_walk using wpAny_onRaise, D1.done
    all_goals try exact Draws.but D1 h1 D.fz.1 zz
    intro hx e kx ⟨oe, xe, xc⟩
    have hzx : hx.get? z = some _ := kx z _ D.d1z.symm hzz
    have nez : e ≠ z := fun y => by
      subst y
      rw [hzx] at xe
      cases xe
      simp at xc
    wp_walk
    have vv := Heap.SameBut.update hx z (Obj.mapFields fun vs => vs.setIfInBounds 0 Value.none)
    exact q _ e _ (fun c o m1 m2 m3 m4 y => (vv.2 c m1).trans (kx c o m3 ((zz.2 c m1).trans y))) ⟨oe, (vv.2 e nez).trans xe, xc⟩
  · wp_walk using wpAny_onRaise, D1.item k _ _ _ l1
    all_goals try exact Draws.but D1 h1 D.fz.1 zz
    intro x ha ta p1 sa ka
    replace ka : Heap.SameBut i1 (h.update z _) ha := ka
    have hOa : ha.get? TO = some _ := ((ka.2 TO D.dO1).trans (zz.2 TO D.dOz)).trans hO
    have tt := Heap.SameBut.update ha TO (Obj.mapSeq fun vs => vs.setIfInBounds 0 x)
    wp_walk using wpAny_onRaise, wpAny_updateSeq hOa rfl, D2.done
    all_goals try exact Draws.but D2 (Draws.but D2 (Draws.but D2 h2 D.fz.2 zz) D.f1 ka) D.fO.2 tt
    intro hx e kx ⟨oe, xe, xc⟩
    replace kx : Heap.ExtBut i2 (ha.update TO _) hx := kx
    have hzx : hx.get? z = some _ := kx z _ D.d2z.symm ((tt.2 z D.dOz.symm).trans ((ka.2 z D.d1z.symm).trans hzz))
    have nez : e ≠ z := fun y => by
      subst y
      rw [hzx] at xe
      cases xe
      simp at xc
    wp_walk
    have vv := Heap.SameBut.update hx z (Obj.mapFields fun vs => vs.setIfInBounds 0 Value.none)
    exact q _ e _ (fun c o m1 m2 m3 m4 y => (vv.2 c m1).trans (kx c o m4 ((tt.2 c m2).trans ((ka.2 c m3).trans ((zz.2 c m1).trans y))))) ⟨oe, (vv.2 e nez).trans xe, xc⟩
end
/-! ### a list (true) or a tuple (false) that is walked -/
noncomputable def Sq (b : Bool) (K : PySem.W.Frag) (H : Hp) (a : Addr) (xs : List V) : Prop := match b with
  | true => SqL K H a xs
  | false => SqT K H a xs
theorem Inv.sq {X : Cx} {pins : List (Addr × Obj)} {σ : St} {H : Hp} {s : Shared} {b : Bool} {a : Addr} {xs : List V} (I : Inv X pins σ H s) (h : Sq b X.K H a xs) : ∃ its : List Value, Vals xs its ∧ isSq b s.heap a its.toArray ∧ xs.length ≤ sizeLine := by
  cases b with
  | true =>
    obtain ⟨its, rv, p, hz⟩ := I.list h
    obtain ⟨o, eo, ec, n, ed⟩ := p.isList
    exact ⟨its, rv, ⟨o, n, eo, ec, ed⟩, hz⟩
  | false =>
    obtain ⟨its, rv, ⟨o, eo, ec, n, ed⟩, hz⟩ := I.tuple h
    exact ⟨its, rv, ⟨o, n, eo, ec, ed⟩, hz⟩
theorem Inv.sq_inj {X : Cx} {pins : List (Addr × Obj)} {σ : St} {H : Hp} {s : Shared} {b : Bool} {a : Addr} {xs ys : List V} (I : Inv X pins σ H s) (h : Sq b X.K H a xs) (h' : Sq b X.K H a ys) : xs = ys := by
  cases b with
  | true => exact I.list_inj h h'
  | false => exact I.tuple_inj h h'
theorem itOf.up {b : Bool} {h h' : Heap} {it a : Addr} {i : Nat} (x : itOf b h it a i) (k : ∀ o, h.get? it = some o → h'.get? it = some o) : itOf b h' it a i := k _ x
theorem itOf.obj {b : Bool} {h : Heap} {it a : Addr} {i : Nat} (x : itOf b h it a i) : ∃ o, h.get? it = some o ∧ ∀ v, o.data ≠ .cell v := ⟨_, x, fun v z => by cases z⟩
theorem isSq.obj {b : Bool} {h : Heap} {a : Addr} {its : Array Value} (x : isSq b h a its) : ∃ o, h.get? a = some o := let ⟨o, _, e, _⟩ := x; ⟨o, e⟩
/-! ### several records have turned; an untracked object is tracked -/
section
variable {X : Cx} {pins : List (Addr × Obj)} {σ : St} {H : Hp} {s : Shared} {h' : Heap}
theorem Inv.turnedL {t' : Nat} {ch : List Addr} (I : Inv X pins σ H s) (k : ∀ b o, b ∉ ch → s.heap.get? b = some o → h'.get? b = some o) (hf : ∀ b ∈ ch, FpOk X pins H b) : Inv X pins σ H { s with heap := h', toks := t' } := by
  have nit : ∀ b u, H b = some u → b ∉ ch := fun b u e z => by rw [(hf b z).1] at e; cases e
  refine I.step (g' := s.gens) (d' := s.drawn) (ch := ch) (fun b hb => ⟨(hf b hb).2.2.2.1, (hf b hb).2.1, (hf b hb).2.2.2.2.1, (hf b hb).2.2.2.2.2⟩) (fun b o _ _ hc e _ => k b o hc e) (fun b o _ _ hc e _ => ⟨o.slots, k b o hc e⟩) (fun _ _ _ _ n => n)
    (fun b o hc e => ⟨o, k b o hc e⟩) (fun _ _ e => e) (fun _ _ _ e => e) (fun b ps e => ⟨#[], by rw [e]; simp⟩) (fun m hm => ?_) (fun b u e => ?_) I.bare
  · obtain ⟨o, es, ep, ho, r⟩ := hm
    exact ⟨o, es, ep, k _ o (fun z => (hf _ z).2.1 rfl) ho, r⟩
  · refine (I.hok b u e).stay (fun c v hc q => k c v ?_ q) (fun _ q => q) fun _ _ q => q
    rcases hc with z | z
    · rw [z]; exact nit b u e
    · exact nit c _ z
theorem Inv.track {p : Addr} {o : HO} (I : Inv X pins σ H s) (f : FpOk X pins H p) (new : ObjOk X.prog X.w (upd H p o) s.heap p o) : Inv X pins σ (upd H p o) s := by
  have hp := f.1
  refine I.step (g' := s.gens) (d' := s.drawn) (t' := s.toks) (h' := s.heap) (ch := [p]) (fun b hb => ?_) (fun b o _ _ _ e _ => e) (fun b o _ _ _ e _ => ⟨o.slots, e⟩) (fun b o hc e n => ?_)
    (fun b o _ e => ⟨o, e⟩) (fun b xs e => by rw [upd_ne (ne_of_none e hp)]; exact e) (fun b o u e => by rw [upd_ne (ne_of_none e hp)]; exact e) (fun b ps e => ⟨#[], by rw [upd_ne (ne_of_none e hp), e]; simp⟩) (fun m hm => hm) (fun b u e => ?_) I.bare
  · have e := List.mem_singleton.mp hb
    subst e
    exact ⟨f.2.2.2.1, f.2.1, f.2.2.2.2.1, f.2.2.2.2.2⟩
  · rw [upd_ne (fun z => hc (by rw [z]; exact List.mem_singleton.mpr rfl))]; exact n
  · by_cases hb : b = p
    · subst hb
      rw [upd_same] at e
      cases e
      exact new
    · rw [upd_ne hb] at e
      exact (I.hok b u e).stay (fun c v _ q => q) (fun c q => by rw [upd_ne (ne_of_none q hp)]; exact q) fun c xs q => by rw [upd_ne (ne_of_none q hp)]; exact q
end
end L2
namespace L2
open PySem PySem.Spec PyProof.Rows
set_option maxRecDepth 100000
section
variable {prog : Program} {w : World} {A : Around} {E : Value → Shared → Prop} {s : Shared}
/-- an iterator's turn by what its __next__ does -/
theorem pyNext_of {T id : String} {v : Value} {Q : Option Value → Shared → Prop} (ty : s.TypeIs v T) (sl : Slot T (Str.ofString "__next__") id)
    (h : wpAny (model prog w) A (call (.builtin id) [v]) (fun x s' => Q (some x) s') (fun e s' => ∃ c o, e = .ref c ∧ s'.heap.get? c = some o ∧ o.cls = .type "StopIteration" ∧ Q none s') s) : wpAny (model prog w) A (pyNext v) Q E s := by
  unfold pyNext
  refine wpAny_bind (wpAny_attempt (wpAny_callSpecial?_slot ty sl (wpAny_mono h (fun x s' y => wpAny_pure y) fun e s' y => ?_)))
  obtain ⟨c, o, rfl, e1, e2, y⟩ := y
  exact wpAny_bind (wpAny_isInstance (b := true) ⟨o, e1, e2⟩ isSubtype_stop (wpAny_pure y))
theorem pyIter_sq (b : Bool) {a : Addr} {its : Array Value} {Q : Value → Shared → Prop} (e : isSq b s.heap a its) (q : Q (.ref s.heap.objs.size) { s with heap := s.heap.push (itRec b a 0) }) : wpAny (model prog w) A (pyIter (.ref a)) Q E s := by
  obtain ⟨o, n, eo, ec, ed⟩ := e
  cases b
  · exact wpAny_pyIter_tuple ⟨o, eo, ec, n, ed⟩ q
  · exact wpAny_pyIter_list ⟨o, eo, ec, n, ed⟩ q
end
/-- a zip just made -/
structure ZipNew (b1 b2 : Bool) (l1 l2 : Addr) (h h' : Heap) : Prop where
  zip : IsZip h' (h.objs.size + 4) (h.objs.size + 2) (h.objs.size + 3) .none
  tin : IsPair h' (h.objs.size + 2) (.ref h.objs.size) (.ref (h.objs.size + 1))
  out : IsPair h' (h.objs.size + 3) .none .none
  one : itOf b1 h' h.objs.size l1 0
  two : itOf b2 h' (h.objs.size + 1) l2 0
  old : ∀ c o, h.get? c = some o → h'.get? c = some o
theorem isSq.up {b : Bool} {h h' : Heap} {a : Addr} {its : Array Value} (x : isSq b h a its) (k : ∀ o, h.get? a = some o → h'.get? a = some o) : isSq b h' a its := by
  obtain ⟨o, n, eo, r⟩ := x
  exact ⟨o, n, k o eo, r⟩
theorem mk_zip (b1 b2 : Bool) (l1 l2 : Addr) (xs ys : Array Value) :
    Meets (Builtin.«zip.__new__» ⟨[.type "zip", .ref l1, .ref l2], []⟩) (fun _ R s => (isSq b1 s.heap l1 xs ∧ isSq b2 s.heap l2 ys) ∧
      ∀ h', ZipNew b1 b2 l1 l2 s.heap h' → R (.ok (.ret (.ref (s.heap.objs.size + 4)))) { s with heap := h' }) :=
  .of_wp fun prog w A R s hyp => by
    obtain ⟨h, g, dr, tk, os⟩ := s
    obtain ⟨⟨q1, q2⟩, fin⟩ := hyp
    have sub := sub_zip
    have q2' : isSq b2 (Shared.mk (h.push (itRec b1 l1 0)) g dr tk os).heap l2 ys := q2.up fun o e => Heap.get?_push_of_some _ e
    wp_walk using pyIter_sq b1 q1, pyIter_sq b2 q2'
    dsimp only
    have z1 := Heap.size_push h (itRec b1 l1 0)
    generalize e1 : h.push (itRec b1 l1 0) = ha at *
    have z2 := Heap.size_push ha (itRec b2 l2 0)
    generalize e2 : ha.push (itRec b2 l2 0) = hb at *
    generalize e3 : hb.push _ = hc
    have z3 : hc.objs.size = hb.objs.size + 1 := by rw [← e3]; exact Heap.size_push ..
    generalize e4 : hc.push _ = hd
    have z4 : hd.objs.size = hc.objs.size + 1 := by rw [← e4]; exact Heap.size_push ..
    rw [z1] at z2
    rw [z2] at z3
    rw [z3] at z4
    have a1 : ha.get? h.objs.size = some (itRec b1 l1 0) := by rw [← e1]; exact Heap.get?_push_size _ rfl
    have a2 : hb.get? (h.objs.size + 1) = some (itRec b2 l2 0) := by rw [← e2, ← z1]; exact Heap.get?_push_size _ rfl
    have a3 : hc.get? (h.objs.size + 2) = some { cls := .type "tuple", data := .seq #[.ref h.objs.size, .ref (h.objs.size + 1)] } := by
      rw [← e3, ← z2, ← z1]
      exact Heap.get?_push_size _ rfl
    have a4 : hd.get? (h.objs.size + 3) = some { cls := .type "tuple", data := .seq #[.none, .none] } := by
      rw [← e4, ← z3]
      exact Heap.get?_push_size _ rfl
    have u1 : ∀ c o, h.get? c = some o → ha.get? c = some o := fun c o y => by rw [← e1]; exact Heap.get?_push_of_some _ y
    have u2 : ∀ c o, ha.get? c = some o → hb.get? c = some o := fun c o y => by rw [← e2]; exact Heap.get?_push_of_some _ y
    have u3 : ∀ c o, hb.get? c = some o → hc.get? c = some o := fun c o y => by rw [← e3]; exact Heap.get?_push_of_some _ y
    have u4 : ∀ c o, hc.get? c = some o → hd.get? c = some o := fun c o y => by rw [← e4]; exact Heap.get?_push_of_some _ y
    have u5 : ∀ (r : Obj) c o, hd.get? c = some o → (hd.push r).get? c = some o := fun r c o y => Heap.get?_push_of_some _ y
    rw [z2, z3, z4]
    refine ⟨_, rfl, fin _ ⟨?_, u5 _ _ _ (u4 _ _ a3), u5 _ _ _ a4, u5 _ _ _ (u4 _ _ (u3 _ _ (u2 _ _ a1))), u5 _ _ _ (u4 _ _ (u3 _ _ a2)), fun c o y => u5 _ _ _ (u4 _ _ (u3 _ _ (u2 _ _ (u1 _ _ y))))⟩⟩
    rw [← z4]
    exact Heap.get?_push_size _ rfl
theorem mk_enum (b : Bool) (l : Addr) (xs : Array Value) (o : Obj) (n : Nat) (ec : o.cls = .type (sqKind b)) (ed : o.data = .seq xs n) :
    Meets (Builtin.«enumerate.__new__» ⟨[.type "enumerate", .ref l], []⟩) (fun _ R s => s.heap.get? l = some o ∧
      ∀ h', IsEnum h' (s.heap.objs.size + 1) s.heap.objs.size 0 .none → itOf b h' s.heap.objs.size l 0 → (∀ c o, s.heap.get? c = some o → h'.get? c = some o) → R (.ok (.ret (.ref (s.heap.objs.size + 1)))) { s with heap := h' }) :=
  .of_wp fun prog w A R s hyp => by
    obtain ⟨h, g, dr, tk, os⟩ := s
    obtain ⟨e1, fin⟩ := hyp
    have sub := sub_enumerate
    have q1 : isSq b (Shared.mk h g dr tk os).heap l xs := ⟨o, n, e1, ec, ed⟩
    have done : ∀ (e : Addr) (r : Obj), r = { cls := .type "enumerate", data := .fields #[.none, .bool false, .ref h.objs.size, rawInt 0, .none, .none] } → e = h.objs.size + 1 → R (.ok (.ret (.ref e))) (Shared.mk ((h.push (itRec b l 0)).push r) g dr tk os) := by
      rintro e r rfl rfl
      refine fin _ ?_ (Heap.get?_push_of_some _ (Heap.get?_push_size _ rfl)) fun c o y => Heap.get?_push_of_some _ (Heap.get?_push_of_some _ y)
      have z1 := Heap.size_push h (itRec b l 0)
      show Heap.get? _ (h.objs.size + 1) = _
      rw [← z1]
      exact Heap.get?_push_size _ rfl
    wp_walk using pyIter_sq b q1
    refine wpAny_stack_any fun st => ?_
    wp_walk
    split
    · rename_i c _ _ _ _ _
      rcases Bool.eq_false_or_eq_true (c == Value.type "enumerate") with y | y
      · rw [y]
        wp_walk using pyIter_sq b q1
        exact ⟨_, rfl, done _ _ rfl (Heap.size_push ..)⟩
      · rw [y]
        wp_walk using pyIter_sq b q1
        exact ⟨_, rfl, done _ _ rfl (Heap.size_push ..)⟩
    · wp_walk using pyIter_sq b q1
      exact ⟨_, rfl, done _ _ rfl (Heap.size_push ..)⟩
section
variable {prog : Program} {w : World} {A : Around} {E : Value → Shared → Prop} {s : Shared}
theorem call_zip (b1 b2 : Bool) {l1 l2 : Addr} {xs ys : Array Value} {Q : Value → Shared → Prop} (q1 : isSq b1 s.heap l1 xs) (q2 : isSq b2 s.heap l2 ys)
    (q : ∀ h', ZipNew b1 b2 l1 l2 s.heap h' → Q (.ref (s.heap.objs.size + 4)) { s with heap := h' }) : wpAny (model prog w) A (call (.type "zip") [.ref l1, .ref l2]) Q E s :=
  callType_new F.called_zip (by decide) (F.typeCall_zip_2 _ _) (F.newCall_zip_2 _ _) (fun v => F.args_object_init_3 v _ _) F.entry_zip_new (mk_zip b1 b2 l1 l2 xs ys) ⟨⟨q1, q2⟩, fun h' N => ⟨⟨_, N.zip, rfl⟩, q h' N⟩⟩
theorem call_enum (b : Bool) {l : Addr} {xs : Array Value} {Q : Value → Shared → Prop} (q1 : isSq b s.heap l xs)
    (q : ∀ h', IsEnum h' (s.heap.objs.size + 1) s.heap.objs.size 0 .none → itOf b h' s.heap.objs.size l 0 → (∀ c o, s.heap.get? c = some o → h'.get? c = some o) → Q (.ref (s.heap.objs.size + 1)) { s with heap := h' }) : wpAny (model prog w) A (call (.type "enumerate") [.ref l]) Q E s := by
  obtain ⟨o, n, eo, ec, ed⟩ := q1
  exact callType_new F.called_enumerate (by decide) (F.typeCall_enumerate_1 _) (F.newCall_enumerate_1 _) (fun v => F.args_object_init_2 v _) F.entry_enumerate_new (mk_enum b l xs o n ec ed) ⟨eo, fun h' a1 a2 a3 => ⟨⟨_, a1, rfl⟩, q h' a1 a2 a3⟩⟩
end
/-! ### the turns -/
/-- a pair is handed out, a new tuple -/
noncomputable def Itz (K : PySem.W.Frag) (b1 b2 : Bool) (l1 l2 : Addr) : It :=
  ⟨fun i H => ∃ xs ys x y, Sq b1 K H l1 xs ∧ Sq b2 K H l2 ys ∧ xs[i]? = some x ∧ ys[i]? = some y,
   fun i H v H' => ∃ p x y, v = .ref p ∧ H p = none ∧ H' = upd H p (.tup [x, y]) ∧ (∀ xs, Sq b1 K H l1 xs → xs[i]? = some x) ∧ ∀ ys, Sq b2 K H l2 ys → ys[i]? = some y,
   fun i H => ∃ xs ys, Sq b1 K H l1 xs ∧ Sq b2 K H l2 ys ∧ (i = xs.length ∨ (i < xs.length ∧ i = ys.length))⟩
noncomputable def Ite (K : PySem.W.Frag) (b : Bool) (l : Addr) : It :=
  ⟨fun i H => ∃ xs x, Sq b K H l xs ∧ xs[i]? = some x,
   fun i H v H' => ∃ p x, v = .ref p ∧ H p = none ∧ H' = upd H p (.tup [.int i, x]) ∧ ∀ xs, Sq b K H l xs → xs[i]? = some x,
   fun i H => ∃ xs, Sq b K H l xs ∧ i = xs.length⟩

theorem pair_ok {P : Program} {w : World} {H : Hp} {h : Heap} {p : Addr} {x y : V} {u v : Value} (hp : IsPair h p u v) (rx : RelV x u) (ry : RelV y v) : ObjOk P w H h p (.tup [x, y]) :=
  ⟨by show 2 ≤ sizeLine; decide, [u, v], .cons rx (.cons ry .nil), _, hp, rfl, _, rfl⟩

structure ZipAt (z TI TO i1 i2 l1 l2 : Addr) : Prop where
  sep : ZipSep z TI TO i1 i2 [i1, l1] [i2, l2]
  n1 : l1 ≠ i1
  n2 : l2 ≠ i2

theorem turn_zip {P : Program} {w : World} {K : PySem.W.Frag} {es : List Expr} {kt : Nat} {pt : Pos} (b1 b2 : Bool) {z TI TO i1 i2 l1 l2 : Addr} (D : ZipAt z TI TO i1 i2 l1 l2) :
    Turn P w K (.Tuple es kt pt) (Itz K b1 b2 l1 l2) [z, TI, TO, i1, i2] z (fun i h => IsZip h z TI TO .none ∧ IsPair h TI (.ref i1) (.ref i2) ∧ (∃ a b, IsPair h TO a b) ∧ itOf b1 h i1 l1 i ∧ itOf b2 h i2 l2 i) where
  mem := by simp
  obj := fun i h st b hb => by
    obtain ⟨hz, hTI, ⟨a, c, hTO⟩, h1, h2⟩ := st
    simp only [List.mem_cons, or_false, List.not_mem_nil] at hb
    rcases hb with rfl | rfl | rfl | rfl | rfl
    · exact ⟨_, hz, fun v q => by cases q⟩
    · exact ⟨_, hTI, fun v q => by cases q⟩
    · exact ⟨_, hTO, fun v q => by cases q⟩
    · exact h1.obj
    · exact h2.obj
  keep := fun i h h' st k => by
    obtain ⟨hz, hTI, ⟨a, c, hTO⟩, h1, h2⟩ := st
    exact ⟨k z (by simp) _ hz, k TI (by simp) _ hTI, ⟨a, c, k TO (by simp) _ hTO⟩, h1.up fun o e => k i1 (by simp) o e, h2.up fun o e => k i2 (by simp) o e⟩
  item := by
    intro X hP hw hK hc i pins s σ H E I hf st hg
    subst hP hw hK
    obtain ⟨hz, hTI, ⟨ta, tb, hTO⟩, h1, h2⟩ := st
    obtain ⟨xs, ys, x, y, hq1, hq2, hx, hy⟩ := hg
    obtain ⟨is1, rv1, p1, hz1⟩ := I.sq hq1
    obtain ⟨is2, rv2, p2, hz2⟩ := I.sq hq2
    obtain ⟨u, hu, ru⟩ := rv1.get hx
    obtain ⟨v, hv, rv⟩ := rv2.get hy
    have lx : i < is1.toArray.size := by rw [List.size_toArray]; exact (List.getElem?_eq_some_iff.mp hu).1
    have ly : i < is2.toArray.size := by rw [List.size_toArray]; exact (List.getElem?_eq_some_iff.mp hv).1
    have hh : X.A.in1.handled = none := I.ok.hd hc
    have hzlt : z < s.heap.objs.size := Heap.lt_size hz
    refine pyNext_of ⟨_, hz, rfl⟩ F.slot_zip_next (wpAny_call_entry F.slot_zip_next ⟨_, hz, rfl⟩ F.entry_zip_next (zip_go (draws_sq b1 hh i1 l1 D.n1 is1.toArray) (draws_sq b2 hh i2 l2 D.n2 is2.toArray) D.sep hz hTI hTO ⟨h1, p1⟩ ⟨h2, p2⟩ lx ly fun u' v' h' tk e1 e2 a1 a2 a3 a4 a5 a6 hk => ?_) (F.args_zip_next_1 _))
    have eu : u' = u := by
      have e1' : is1.toArray[i]? = some u' := e1
      rw [List.getElem?_toArray, hu] at e1'
      exact (Option.some.inj e1').symm
    have ev : v' = v := by
      have e2' : is2.toArray[i]? = some v' := e2
      rw [List.getElem?_toArray, hv] at e2'
      exact (Option.some.inj e2').symm
    subst eu ev
    refine ⟨_, rfl, wpAny_letOwnedTupleGo_zip a1 fun h'' hz'' sb => ?_⟩
    have hk' : ∀ b o, b ∉ [z, TI, TO, i1, i2] → s.heap.get? b = some o → h''.get? b = some o := fun b o hb e => by
      have : b ≠ z ∧ b ≠ TI ∧ b ≠ TO ∧ b ≠ i1 ∧ b ≠ i2 := by simpa using hb
      exact (sb.2 b this.1).trans (hk b o this.1 this.2.2.1 this.2.2.2.1 this.2.2.2.2 e)
    have I1 : Inv X pins σ H { s with heap := h'', toks := tk } := I.turnedL hk' hf
    have hpz : s.heap.objs.size ≠ z := Nat.ne_of_gt hzlt
    have hp2 : IsPair h'' s.heap.objs.size u' v' := (sb.2 _ hpz).trans a5
    have fp : FpOk X pins H s.heap.objs.size := I.fpOk (Nat.le_refl _) (I.hok.fresh (Nat.le_refl _))
    have I2 := I1.track (o := .tup [x, y]) fp (pair_ok hp2 ru rv)
    have up : ∀ b, b ≠ z → ∀ o, h'.get? b = some o → h''.get? b = some o := fun b hb o e => (sb.2 b hb).trans e
    refine ⟨.ref s.heap.objs.size, _, I2, rfl, ⟨_, x, y, rfl, fp.1, rfl, fun xs' q => by rw [I.sq_inj q hq1]; exact hx, fun ys' q => by rw [I.sq_inj q hq2]; exact hy⟩, ⟨hz'', up _ D.sep.dTz _ (hk _ _ D.sep.dTz D.sep.dTO D.sep.dT1 D.sep.dT2 hTI), ⟨_, _, up _ D.sep.dOz _ a2⟩, a3.1.up fun o e => up _ D.sep.d1z o e, a4.1.up fun o e => up _ D.sep.d2z o e⟩, fun b hb => ?_⟩
    rw [upd_ne]
    · exact (hf b hb).1
    · obtain ⟨o, e⟩ : ∃ o, s.heap.get? b = some o := by
        simp only [List.mem_cons, or_false, List.not_mem_nil] at hb
        rcases hb with rfl | rfl | rfl | rfl | rfl
        · exact ⟨_, hz⟩
        · exact ⟨_, hTI⟩
        · exact ⟨_, hTO⟩
        · exact ⟨_, h1.obj.choose_spec.1⟩
        · exact ⟨_, h2.obj.choose_spec.1⟩
      exact Nat.ne_of_lt (Heap.lt_size e)
  done := by
    intro X hP hw hK hc i pins s σ H E I hf st hg
    subst hP hw hK
    obtain ⟨hz, hTI, ⟨ta, tb, hTO⟩, h1, h2⟩ := st
    obtain ⟨xs, ys, hq1, hq2, hx⟩ := hg
    obtain ⟨is1, rv1, p1, hz1⟩ := I.sq hq1
    obtain ⟨is2, rv2, p2, hz2⟩ := I.sq hq2
    have hh : X.A.in1.handled = none := I.ok.hd hc
    have ll1 := rv1.length
    have ll2 := rv2.length
    refine pyNext_of ⟨_, hz, rfl⟩ F.slot_zip_next (wpAny_call_entry F.slot_zip_next ⟨_, hz, rfl⟩ F.entry_zip_next (zip_end (draws_sq b1 hh i1 l1 D.n1 is1.toArray) (draws_sq b2 hh i2 l2 D.n2 is2.toArray) D.sep hz hTI hTO ⟨h1, p1⟩ ⟨h2, p2⟩ ?_ fun h' e tk hk ⟨o, e1, e2⟩ => ⟨e, o, rfl, e1, e2, ?_⟩) (F.args_zip_next_1 _))
    · rw [List.size_toArray, List.size_toArray]
      omega
    · refine ⟨rfl, I.turnedL (fun b o hb y => ?_) hf⟩
      have : b ≠ z ∧ b ≠ TI ∧ b ≠ TO ∧ b ≠ i1 ∧ b ≠ i2 := by simpa using hb
      exact hk b o this.1 this.2.2.1 this.2.2.2.1 this.2.2.2.2 y
  self := fun _ _ _ _ _ st h => wpAny_pyIter_zip st.1 h

theorem enum_succ {h : Heap} {e it : Addr} {i : Nat} {v : Value} (x : IsEnum h e it ((i : Int) + 1) v) : IsEnum h e it (((i + 1 : Nat)) : Int) v := x
theorem addr_ne {n : Nat} (i j : Nat) (h : i ≠ j := by decide) : @Ne Addr (n + i) (n + j) := fun z => h (Nat.add_left_cancel z)
theorem addr_gt {n : Nat} {l : Addr} (i : Nat) (h : l < n) : @Ne Addr (n + i) l := Nat.ne_of_gt (Nat.lt_of_lt_of_le h (Nat.le_add_right n i))
theorem notin2 {a b c : Addr} (h1 : a ≠ b) (h2 : a ≠ c) : a ∉ [b, c] := by simp [h1, h2]
theorem turn_enum {P : Program} {w : World} {K : PySem.W.Frag} {es : List Expr} {kt : Nat} {pt : Pos} (b : Bool) {e it l : Addr} (hei : e ≠ it) (hle : l ≠ e) (hli : l ≠ it) :
    Turn P w K (.Tuple es kt pt) (Ite K b l) [e, it] e (fun i h => (∃ old, IsEnum h e it i old) ∧ itOf b h it l i) where
  mem := by simp
  obj := fun i h st c hc => by
    obtain ⟨⟨old, he⟩, h1⟩ := st
    simp only [List.mem_cons, List.not_mem_nil, or_false] at hc
    rcases hc with rfl | rfl
    · exact ⟨_, he, fun v q => by cases q⟩
    · exact h1.obj
  keep := fun i h h' st k => by
    obtain ⟨⟨old, he⟩, h1⟩ := st
    exact ⟨⟨old, k e (by simp) _ he⟩, h1.up fun o q => k it (by simp) o q⟩
  item := by
    intro X hP hw hK hc i pins s σ H E I hf st hg
    subst hP hw hK
    obtain ⟨⟨old, he⟩, h1⟩ := st
    obtain ⟨xs, x, hq, hx⟩ := hg
    obtain ⟨is1, rv1, p1, hz1⟩ := I.sq hq
    obtain ⟨u, hu, ru⟩ := rv1.get hx
    have lx : i < is1.toArray.size := by rw [List.size_toArray]; exact (List.getElem?_eq_some_iff.mp hu).1
    have hh : X.A.in1.handled = none := I.ok.hd hc
    have eIn : e < s.heap.objs.size := Heap.lt_size he
    refine wpAny_pyNext_enum_itemD (draws_sq b hh it l hli is1.toArray) he ⟨h1, p1⟩ lx hei (by simp; exact ⟨hei, hle.symm⟩) fun u' h' tk e1 a1 a2 a3 a4 hk => ?_
    have eu : u' = u := by
      have e1' : is1.toArray[i]? = some u' := e1
      rw [List.getElem?_toArray, hu] at e1'
      exact (Option.some.inj e1').symm
    subst eu
    refine ⟨_, rfl, wpAny_letOwnedTupleGo_enum a1 fun h'' he'' sb => ?_⟩
    have hk' : ∀ c o, c ∉ [e, it] → s.heap.get? c = some o → h''.get? c = some o := fun c o hc q => by
      have : c ≠ e ∧ c ≠ it := by simpa using hc
      exact (sb.2 c this.1).trans (hk c o this.1 this.2 q)
    have I1 : Inv X pins σ H { s with heap := h'', toks := tk + 1 } := I.turnedL hk' hf
    have hpe : s.heap.objs.size ≠ e := Nat.ne_of_gt eIn
    have hp2 : IsPair h'' s.heap.objs.size (.int i tk) u' := (sb.2 _ hpe).trans a3
    have fp : FpOk X pins H s.heap.objs.size := I.fpOk (Nat.le_refl _) (I.hok.fresh (Nat.le_refl _))
    have I2 := I1.track (o := .tup [.int i, x]) fp (pair_ok hp2 ⟨tk, rfl⟩ ru)
    refine ⟨.ref s.heap.objs.size, _, I2, rfl, ⟨_, x, rfl, fp.1, rfl, fun xs' q => by rw [I.sq_inj q hq]; exact hx⟩, ⟨⟨u', enum_succ he''⟩, a2.1.up fun o q => (sb.2 it hei.symm).trans q⟩, fun c hc => ?_⟩
    rw [upd_ne]
    · exact (hf c hc).1
    · obtain ⟨o, q⟩ : ∃ o, s.heap.get? c = some o := by
        simp only [List.mem_cons, List.not_mem_nil, or_false] at hc
        rcases hc with rfl | rfl
        · exact ⟨_, he⟩
        · exact ⟨_, h1.obj.choose_spec.1⟩
      exact Nat.ne_of_lt (Heap.lt_size q)
  done := by
    intro X hP hw hK hc i pins s σ H E I hf st hg
    subst hP hw hK
    obtain ⟨⟨old, he⟩, h1⟩ := st
    obtain ⟨xs, hq, hx⟩ := hg
    obtain ⟨is1, rv1, p1, hz1⟩ := I.sq hq
    have hh : X.A.in1.handled = none := I.ok.hd hc
    have ll1 := rv1.length
    have hn : i = is1.toArray.size := by rw [List.size_toArray]; omega
    refine wpAny_pyNext_enum_endD (draws_sq b hh it l hli is1.toArray) he (hn ▸ ⟨h1, p1⟩) fun h' hk => ?_
    refine ⟨rfl, I.turnedL (t' := s.toks) (fun c o hc q => ?_) hf⟩
    have : c ≠ e ∧ c ≠ it := by simpa using hc
    exact hk c o this.2 q
  self := fun _ _ _ _ _ st h => wpAny_pyIter_enum st.1.choose_spec h

theorem bt_zip : bootBuiltins "zip" = some (.type "zip") := by decide +kernel

section
variable {X : Cx}
noncomputable def iZip (K : PySem.W.Frag) (b1 b2 : Bool) (t : TA) : TI := fun σ H R => t σ H fun vs H1 => ∃ l1 l2, vs = [.ref l1, .ref l2] ∧ (∃ xs, Sq b1 K H1 l1 xs) ∧ (∃ ys, Sq b2 K H1 l2 ys) ∧ R (Itz K b1 b2 l1 l2) H1
noncomputable def iEnum (K : PySem.W.Frag) (b : Bool) (t : TA) : TI := fun σ H R => t σ H fun vs H1 => ∃ l, vs = [.ref l] ∧ (∃ xs, Sq b K H1 l xs) ∧ R (Ite K b l) H1
theorem pi_zip (b1 b2 : Bool) {a b : Expr} {ta : TA} {p pos pt : Pos} {es : List Expr} {kt : Nat} (hg : Gl X "zip") (hm : X.mg "zip" = none) (ha : PA X [a, b] ta) (hs : starEach [a, b] X.env = [(false, eval a X.env), (false, eval b X.env)] := by rfl) (hs2 : starEach [b] X.env = [(false, eval b X.env)] := by rfl) :
    PI X (.Tuple es kt pt) (.Call (.Name "zip" p) [a, b] [] pos) (iZip X.K b1 b2 ta) := by
  intro pins s σ H R I h
  refine Call_ (ld_blt I hg hm bt_zip (PyProof.Rows.callWith_type1 (thn (ha pos pins s σ H _ I h) fun us s1 ⟨vs, H1, I1, r1, q1⟩ => ?_) (by rw [hs, hs2]) (by rw [hs2]; rfl)))
  obtain ⟨l1, l2, e, ⟨xs, hq1⟩, ⟨ys, hq2⟩, q⟩ := q1
  subst e
  cases r1 with
  | cons r rr =>
    cases rr with
    | cons r' rr =>
      cases rr
      cases r
      cases r'
      obtain ⟨is1, rv1, p1, hz1⟩ := I1.sq hq1
      obtain ⟨is2, rv2, p2, hz2⟩ := I1.sq hq2
      have a1 : l1 < s1.heap.objs.size := by obtain ⟨_, e⟩ := p1.obj; exact Heap.lt_size e
      have a2 : l2 < s1.heap.objs.size := by obtain ⟨_, e⟩ := p2.obj; exact Heap.lt_size e
      refine call_zip b1 b2 p1 p2 fun h' N => wpAny_pyIter_zip N.zip ?_
      refine ⟨_, _, _, _, H1, rfl, I1.kept (t' := s1.toks) N.old, turn_zip b1 b2 (z := s1.heap.objs.size + 4) (TI := s1.heap.objs.size + 2) (TO := s1.heap.objs.size + 3) (i1 := s1.heap.objs.size) (i2 := s1.heap.objs.size + 1) ⟨?_, Nat.ne_of_lt a1, Nat.ne_of_lt (Nat.lt_succ_of_lt a2)⟩, ⟨N.zip, N.tin, ⟨_, _, N.out⟩, N.one, N.two⟩, fun b hb => ?_, q⟩
      · exact ⟨addr_ne 2 4, addr_ne 3 4, addr_ne 0 4, addr_ne 1 4, addr_ne 2 3, addr_ne 2 0, addr_ne 2 1, addr_ne 3 0, addr_ne 3 1, addr_ne 0 1, ⟨notin2 (addr_ne 4 0) (addr_gt 4 a1), notin2 (addr_ne 4 1) (addr_gt 4 a2)⟩,
          ⟨notin2 (addr_ne 3 0) (addr_gt 3 a1), notin2 (addr_ne 3 1) (addr_gt 3 a2)⟩, notin2 (addr_ne 1 0) (addr_gt 1 a1), notin2 (addr_ne 0 1) (addr_gt 0 a2)⟩
      · have hb' : s1.heap.objs.size ≤ b := by
          simp only [List.mem_cons, or_false, List.not_mem_nil] at hb
          rcases hb with rfl | rfl | rfl | rfl | rfl
          · exact Nat.le_add_right _ 4
          · exact Nat.le_add_right _ 2
          · exact Nat.le_add_right _ 3
          · exact Nat.le_refl _
          · exact Nat.le_add_right _ 1
        exact I1.fpOk hb' (I1.hok.fresh hb')
theorem pi_enum (b : Bool) {a : Expr} {ta : TA} {p pos pt : Pos} {es : List Expr} {kt : Nat} (hg : Gl X "enumerate") (hm : X.mg "enumerate" = none) (ha : PA X [a] ta) (hs : starEach [a] X.env = [(false, eval a X.env)] := by rfl) :
    PI X (.Tuple es kt pt) (.Call (.Name "enumerate" p) [a] [] pos) (iEnum X.K b ta) := by
  intro pins s σ H R I h
  refine Call_ (ld_blt I hg hm boot_enumerate (PyProof.Rows.callWith_type1 (thn (ha pos pins s σ H _ I h) fun us s1 ⟨vs, H1, I1, r1, q1⟩ => ?_) hs rfl))
  obtain ⟨l, e, ⟨xs, hq⟩, q⟩ := q1
  subst e
  cases r1 with
  | cons r rr =>
    cases rr
    cases r
    obtain ⟨is1, rv1, p1, hz1⟩ := I1.sq hq
    have a1 : l < s1.heap.objs.size := by obtain ⟨_, e⟩ := p1.obj; exact Heap.lt_size e
    refine call_enum b p1 fun h' z1 z2 hk => wpAny_pyIter_enum z1 ?_
    refine ⟨_, _, _, _, H1, rfl, I1.kept (t' := s1.toks) hk, turn_enum b (e := s1.heap.objs.size + 1) (it := s1.heap.objs.size) (addr_ne 1 0) (addr_gt 1 a1).symm (addr_gt 0 a1).symm, ⟨⟨_, z1⟩, z2⟩, fun c hc => ?_, q⟩
    have hb' : s1.heap.objs.size ≤ c := by
      simp only [List.mem_cons, List.not_mem_nil, or_false] at hc
      rcases hc with rfl | rfl
      · exact Nat.le_add_right _ 1
      · exact Nat.le_refl _
    exact I1.fpOk hb' (I1.hok.fresh hb')
end
end L2
namespace L2
open PySem PySem.Spec PyProof.Rows
set_option maxRecDepth 100000

theorem Same.sq {K : PySem.W.Frag} {H H' : Hp} {a : Addr} {xs : List V} {b : Bool} (e : Same H H') (h : Sq b K H a xs) : Sq b K H' a xs := by
  cases b with
  | true => exact e.seq h
  | false =>
    rcases h with h | h
    · refine .inl ?_
      rcases h with h | ⟨o, h⟩
      · exact .inl (e _ _ h)
      · exact .inr ⟨o, e _ _ h⟩
    · exact .inr h
theorem Same.seqT {K : PySem.W.Frag} {H H' : Hp} {a : Addr} {xs : List V} (e : Same H H') (h : SqT K H a xs) : SqT K H' a xs := e.sq (b := false) h
theorem Same.upd {H : Hp} {p : Addr} {o : HO} (h : H p = none) : Same H (upd H p o) := fun b u e => by rw [upd_ne (ne_of_none e h)]; exact e

/-! ### t * n, t + u, t[a:b] of tuples: a tuple with these items, new or not -/
noncomputable def AnyT (K : PySem.W.Frag) (H : Hp) (xs : List V) (Q : VK) : Prop := ∀ p H', Same H H' → SqT K H' p xs → Q (.ref p) H'
theorem AnyT.old {K : PySem.W.Frag} {H : Hp} {xs : List V} {Q : VK} {p : Addr} (h : AnyT K H xs Q) (q : SqT K H p xs) : Q (.ref p) H := h p H (.refl H) q
theorem AnyT.new {K : PySem.W.Frag} {H : Hp} {xs : List V} {Q : VK} {p : Addr} (h : AnyT K H xs Q) (n : H p = none) : Q (.ref p) (upd H p (.tup xs)) := h p _ (.upd n) (.of upd_same)

theorem noFill_tuple_mul : fillsNumberSlot (.type "tuple") "mul" = pure false :=
  PySem.fillsNumberSlot_seq (id := "tuple.__mul__") (r := some (.builtin "tuple.__rmul__")) F.slot_tuple_mul.lookup (by decide +kernel) F.slot_tuple_rmul.lookup (by decide +kernel)
theorem repeat_tuple : seqRepeat? (.type "tuple") = pure (some (.builtin "tuple.__mul__")) := by
  unfold seqRepeat?
  rw [PySem.seqSlot_of (T := "tuple") (name := "__mul__") (id := "tuple.__mul__") F.slot_tuple_mul.lookup (by decide +kernel), PySem.seqSlot_of (T := "tuple") (name := "__rmul__") (id := "tuple.__rmul__") F.slot_tuple_rmul.lookup (by decide +kernel)]
  rfl
theorem rmul_int_tuple (a : Int) (t : Tok) (l : Addr) (items : Array Value) (n : Nat) (dd : Option Addr) (sl : Array (Option Value)) :
    Meets (Builtin.«int.__rmul__» ⟨[.int a t, .ref l], []⟩) (fun _ R s => s.heap.get? l = some { cls := .type "tuple", dict := dd, data := .seq items n, slots := sl } ∧ R (.ok (.ret Value.notImplemented)) s) :=
  .of_wp fun prog w A R s h => by
    obtain ⟨hp_a, g_a, d_a, tk_a, os_a⟩ := s
    have at0 := h.1
    wp_walk
    exact ⟨_, rfl, h.2⟩

/-! ### list(range(..)) -/
section
variable {X : Cx}
/-! ### sum(a list of ints) -/
theorem ints_as : ∀ {ns : List Int} {its : List Value}, Vals (ns.map V.int) its → ∃ ps : List (Int × Tok), its = ps.map (fun p => Value.int p.1 p.2) ∧ ps.map (·.1) = ns
  | [], _, .nil => ⟨[], rfl, rfl⟩
  | n :: ns, _, .cons r rr => by
    obtain ⟨t, rfl⟩ := r
    obtain ⟨ps, rfl, rfl⟩ := ints_as rr
    exact ⟨(n, t) :: ps, rfl, rfl⟩
theorem call_sum (hc : X.calm = true) : CallR X (.builtin "sum") (fun xs H Q => ∃ p ns, xs = [.ref p] ∧ SqL X.K H p (List.map V.int ns) ∧ Q (.int ns.sum) H) := by
  intro pins s σ H vs us Q I r h
  obtain ⟨p, ns, rfl, hq, q⟩ := h
  obtain ⟨u, rfl, ru⟩ := vals1 r
  cases ru
  obtain ⟨its, rv, pl, hz⟩ := I.list hq
  obtain ⟨ps, rfl, rfl⟩ := ints_as rv
  have hl' : s.heap.IsList p (intItems ps.toArray) := by
    have z := pl.isList
    rwa [show (ps.map fun p => Value.int p.1 p.2).toArray = intItems ps.toArray by simp [intItems]] at z
  refine sum_intListG (I.ok.hd hc) hl' fun h' tk t' hk => ⟨.int _, H, I.kept hk, ⟨t', ?_⟩, q⟩
  have := preSum_eq ps.toArray ps.toArray.size
  simp only [List.size_toArray] at this
  rw [List.take_of_length_le (Nat.le_of_eq (List.length_map _))] at this
  simp [this]

/-! ### isinstance(x, T) of a builtin T -/
theorem call_isinst {T : String} : CallR X (.builtin "isinstance") (fun xs H Q => ∃ x t b, xs = [x, .ty T] ∧ TyOf X.K H x t ∧ PySem.W.kitOne X.K t (.type T) = some b ∧ Q (.bl b) H) := by
  intro pins s σ H vs us Q I r h
  obtain ⟨x, t, b, rfl, ty, e, q⟩ := h
  obtain ⟨u, v, rfl, ru, rv⟩ := vals2 r
  cases rv
  exact isinst_ok I ru ty e fun tk => ⟨.bl b, H, I.tok tk, rfl, q⟩
end

/-! ### what a value is, to its end -/
mutual
inductive HasD (K : PySem.W.Frag) (H : Hp) : V → PySem.W.Dat → Prop
  | none : HasD K H .non .none
  | bool (b : Bool) : HasD K H (.bl b) (.bool b)
  | int (i : Int) : HasD K H (.int i) (.int i)
  | str (x : Str) : HasD K H (.str x) (.str x)
  | tuple {a : Addr} {xs : List V} {ds : List PySem.W.Dat} : SqT K H a xs → HasA K H xs ds → HasD K H (.ref a) (.tuple ds)
  | list {a : Addr} {xs : List V} {ds : List PySem.W.Dat} : SqL K H a xs → HasA K H xs ds → HasD K H (.ref a) (.list ds)
inductive HasA (K : PySem.W.Frag) (H : Hp) : List V → List PySem.W.Dat → Prop
  | nil : HasA K H [] []
  | cons {v : V} {vs : List V} {d : PySem.W.Dat} {ds : List PySem.W.Dat} : HasD K H v d → HasA K H vs ds → HasA K H (v :: vs) (d :: ds)
end
mutual
theorem HasD.mono {K : PySem.W.Frag} {H H' : Hp} (e : Same H H') : ∀ {v : V} {d : PySem.W.Dat}, HasD K H v d → HasD K H' v d
  | _, _, .none => .none
  | _, _, .bool b => .bool b
  | _, _, .int i => .int i
  | _, _, .str x => .str x
  | _, _, .tuple h r => .tuple (e.seqT h) (HasA.mono e r)
  | _, _, .list h r => .list (e.seq h) (HasA.mono e r)
theorem HasA.mono {K : PySem.W.Frag} {H H' : Hp} (e : Same H H') : ∀ {vs : List V} {ds : List PySem.W.Dat}, HasA K H vs ds → HasA K H' vs ds
  | _, _, .nil => .nil
  | _, _, .cons h r => .cons (HasD.mono e h) (HasA.mono e r)
end
theorem HasA.length {K : PySem.W.Frag} {H : Hp} : ∀ {vs : List V} {ds : List PySem.W.Dat}, HasA K H vs ds → vs.length = ds.length
  | _, _, .nil => rfl
  | _, _, .cons _ r => by rw [List.length_cons, List.length_cons, HasA.length r]
theorem HasA.append {K : PySem.W.Frag} {H : Hp} : ∀ {vs ws : List V} {ds es : List PySem.W.Dat}, HasA K H vs ds → HasA K H ws es → HasA K H (vs ++ ws) (ds ++ es)
  | _, _, _, _, .nil, k => k
  | _, _, _, _, .cons h r, k => .cons h (HasA.append r k)
theorem HasA.get {K : PySem.W.Frag} {H : Hp} : ∀ {vs : List V} {ds : List PySem.W.Dat} {i : Nat} {v : V}, HasA K H vs ds → vs[i]? = some v → ∃ d, ds[i]? = some d ∧ HasD K H v d
  | _, _, 0, _, .cons h _, e => by
    have e' : _ = _ := Option.some.inj e
    subst e'
    exact ⟨_, rfl, h⟩
  | _, _, i + 1, v, .cons _ r, e => HasA.get (i := i) (v := v) r e
theorem HasA.ints {K : PySem.W.Frag} {H : Hp} : ∀ (ns : List Int), HasA K H (ns.map V.int) (ns.map PySem.W.Dat.int)
  | [] => .nil
  | n :: ns => .cons (.int n) (HasA.ints ns)
theorem HasA.intsV {K : PySem.W.Frag} {H : Hp} : ∀ {xs : List V} {ns : List Int}, HasA K H xs (ns.map PySem.W.Dat.int) → xs = ns.map V.int
  | _, [], h => by cases h; rfl
  | _, n :: ns, h => by
    cases h with
    | cons h r =>
      cases h
      rw [HasA.intsV r]; rfl
mutual
theorem HasD.reads {X : Cx} {pins : List (Addr × Obj)} {σ : St} {H : Hp} {s : Shared} (I : Inv X pins σ H s) : ∀ {v : V} {d : PySem.W.Dat} {u : Value}, HasD X.K H v d → RelV v u → ∃ as, Reads s.heap u (PySem.W.kqdP d) as
  | _, _, u, .none, r => by cases (show u = Value.none from r); exact ⟨_, .none⟩
  | _, _, u, .bool b, r => by cases (show u = Value.bool b from r); exact ⟨_, .bool b⟩
  | _, _, u, .int i, r => by obtain ⟨t, rfl⟩ := r; exact ⟨_, .int i t⟩
  | _, _, u, .str x, r => by obtain ⟨t, rfl⟩ := r; exact ⟨_, .str x t⟩
  | _, _, u, .tuple (a := a) h q, r => by
    cases (show u = Value.ref a from r)
    obtain ⟨its, rv, ⟨o, ho, hc, n, hd⟩, _⟩ := I.tuple h
    obtain ⟨as, z⟩ := HasA.reads I q rv
    rw [PySem.W.kqdP]
    exact ⟨as, .tuple ho hc hd (by simpa using z)⟩
  | _, _, u, .list (a := a) h q, r => by
    cases (show u = Value.ref a from r)
    obtain ⟨its, rv, p, _⟩ := I.list h
    obtain ⟨o, ho, hc, n, hd⟩ := p.isList
    obtain ⟨as, z⟩ := HasA.reads I q rv
    rw [PySem.W.kqdP]
    exact ⟨_, .list ho hc hd (by simpa using z)⟩
theorem HasA.reads {X : Cx} {pins : List (Addr × Obj)} {σ : St} {H : Hp} {s : Shared} (I : Inv X pins σ H s) : ∀ {vs : List V} {ds : List PySem.W.Dat} {us : List Value}, HasA X.K H vs ds → Vals vs us → ∃ as, ReadsAll s.heap us (PySem.W.kqdPs ds) as
  | _, _, _, .nil, .nil => ⟨_, .nil⟩
  | _, _, _, .cons h q, .cons r rr => by
    obtain ⟨as, z⟩ := HasD.reads I h r
    obtain ⟨bs, y⟩ := HasA.reads I q rr
    rw [PySem.W.kqdPs]
    exact ⟨_, .cons z y⟩
end
section
variable {X : Cx}
open Classical in
noncomputable def rEqD (K : PySem.W.Frag) (neg : Bool) : R2 := fun x y H Q => ∃ d e, HasD K H x d ∧ HasD K H y e ∧ PySem.W.kqdOk 8 d = true ∧ PySem.W.kqdOk 8 e = true ∧ Q (.bl (if neg then !decide (d = e) else decide (d = e))) H
open Classical in
theorem eqv_dec {d e : PySem.W.Dat} (hd : PySem.W.kqdOk 8 d = true) (he : PySem.W.kqdOk 8 e = true) : PyData.eqv (PySem.W.kqdP d) (PySem.W.kqdP e) = decide (d = e) := by
  exact Bool.eq_iff_iff.mpr ((PySem.W.kqd_eqv 8 d e 8 hd he).trans decide_eq_true_iff.symm)
theorem shaped_of {d : PySem.W.Dat} (hd : PySem.W.kqdOk 8 d = true) : SeqAt.shaped (PySem.W.kqdP d) = true := by
  have l := PySem.W.kqd_lay 8 d hd
  unfold SeqAt.shaped
  rw [l.1, Bool.true_and]
  exact decide_eq_true (Nat.le_trans l.2 (by decide))
theorem op_neD (hu : X.A.units + 64 < cLine) : OpR X (compareOp .NotEq) (rEqD X.K true) := by
  intro pins s σ H x y v u Q I rx ry h
  obtain ⟨d, e, hx, hy, hd, he, q⟩ := h
  obtain ⟨as, ra⟩ := hx.reads I rx
  obtain ⟨bs, rb⟩ := hy.reads I ry
  refine ne_dataH ra rb (shaped_of hd) (shaped_of he) hu ?_
  rw [eqv_dec hd he]
  exact ⟨.bl _, H, I, rfl, q⟩
end

/-! ### data of ints -/
noncomputable def intsT (ns : List Int) : PySem.W.Dat := .tuple (ns.map .int)
end L2
namespace L2
open PySem PySem.Spec PyProof.Rows
set_option maxRecDepth 100000

theorem tuple_mul1 (l : Addr) (items : Array Value) (n : Nat) (dd : Option Addr) (sl : Array (Option Value)) (u : Tok) :
    Meets (Builtin.«tuple.__mul__» ⟨[.ref l, .int 1 u], []⟩) (fun _ R s => s.heap.get? l = some { cls := .type "tuple", dict := dd, data := .seq items n, slots := sl } ∧ R (.ok (.ret (.ref l))) s) :=
  .of_wp fun prog w A R s h => by
    obtain ⟨hp_a, g_a, d_a, tk_a, os_a⟩ := s
    have at0 := h.1
    have f1 := AutoSeq1.idx_int
    wp_walk using AutoSeq1.wpAny_loadPart' at0
    exact ⟨_, rfl, h.2⟩
theorem tuple_mul0 (l : Addr) (items : Array Value) (n : Nat) (dd : Option Addr) (sl : Array (Option Value)) (x : Int) (u : Tok) (hx : x ≤ 0) (hx2 : -(2 ^ 63) ≤ x) (hne : items.isEmpty = false) :
    Meets (Builtin.«tuple.__mul__» ⟨[.ref l, .int x u], []⟩) (fun _ R s => s.heap.get? l = some { cls := .type "tuple", dict := dd, data := .seq items n, slots := sl } ∧
      R (.ok (.ret (Value.ref s.heap.objs.size))) { s with heap := s.heap.push { cls := Value.type "tuple", data := Data.seq #[] } }) :=
  .of_wp fun prog w A R s h => by
    obtain ⟨hp_a, g_a, d_a, tk_a, os_a⟩ := s
    have at0 := h.1
    have f1 := AutoSeq1.idx_int
    have c1 : (decide (x < -2 ^ 63) || decide (x ≥ 2 ^ 63)) = false := by simp; omega
    have c2 : (items.isEmpty || x == 1) = false := by rw [hne]; simp; omega
    have c3 : (decide (x ≤ 0) || items.isEmpty) = true := by simp [hx]
    wp_walk using AutoSeq1.wpAny_loadPart' at0
    refine wpAny_ite_false (by rw [c1]; rfl) ?_
    wp_walk using AutoSeq1.wpAny_loadPart' at0
    refine wpAny_ite_false (by rw [c2]; rfl) ?_
    wp_walk using AutoSeq1.wpAny_loadPart' at0
    exact ⟨_, rfl, h.2⟩
theorem size_rep (items : Array Value) : ∀ (k : Nat) (acc : Array Value), (List.foldl (fun x1 x2 => x1 ++ x2) acc (List.replicate k items)).size = acc.size + k * items.size
  | 0, acc => by simp
  | k + 1, acc => by rw [List.replicate_succ, List.foldl_cons, size_rep items k, Array.size_append, Nat.succ_mul]; omega
theorem tuple_mulN (l : Addr) (items : Array Value) (n : Nat) (dd : Option Addr) (sl : Array (Option Value)) (x : Int) (u : Tok) (hx : 2 ≤ x) (hx2 : x < 2 ^ 63) (hne : items.isEmpty = false) (hz : items.size * x.toNat ≤ sizeLine) :
    Meets (Builtin.«tuple.__mul__» ⟨[.ref l, .int x u], []⟩) (fun _ R s => s.heap.get? l = some { cls := .type "tuple", dict := dd, data := .seq items n, slots := sl } ∧
      R (.ok (.ret (Value.ref s.heap.objs.size))) { s with heap := s.heap.push { cls := Value.type "tuple", data := Data.seq (List.foldl (fun x1 x2 => x1 ++ x2) #[] (List.replicate x.toNat items)) } }) :=
  .of_wp fun prog w A R s h => by
    obtain ⟨hp_a, g_a, d_a, tk_a, os_a⟩ := s
    have at0 := h.1
    have f1 := AutoSeq1.idx_int
    have c1 : (decide (x < -2 ^ 63) || decide (x ≥ 2 ^ 63)) = false := by simp; omega
    have c2 : (items.isEmpty || x == 1) = false := by rw [hne]; simp; omega
    have c3 : (decide (x ≤ 0) || items.isEmpty) = false := by rw [hne]; simp; omega
    have e : (items.size : Int) * x = ((items.size * x.toNat : Nat) : Int) := by
      rw [Int.natCast_mul]; congr 1; omega
    have hl2 : (sizeLine : Nat) ≤ (2 ^ 63 - 1) / 8 := by decide
    have c4 : decide ((items.size : Int) * x > (2 ^ 63 - 1) / 8) = false := by rw [e]; simp only [decide_eq_false_iff_not]; omega
    have c5 : Builtin.Tuple.tupleTooMany ((items.size : Int) * x) = false := by rw [e]; unfold Builtin.Tuple.tupleTooMany; simp only [decide_eq_false_iff_not]; omega
    have c6 : (List.foldl (fun x1 x2 => x1 ++ x2) #[] (List.replicate x.toNat items)).size ≤ sizeLine := by rw [size_rep, Array.size_empty, Nat.zero_add, Nat.mul_comm]; exact hz
    wp_walk using AutoSeq1.wpAny_loadPart' at0
    refine wpAny_ite_false (by rw [c1]; rfl) ?_
    wp_walk using AutoSeq1.wpAny_loadPart' at0
    refine wpAny_ite_false (by rw [c2]; rfl) ?_
    wp_walk using AutoSeq1.wpAny_loadPart' at0
    refine wpAny_ite_false (by rw [c3]; rfl) ?_
    wp_walk
    refine wpAny_ite_false c4 ?_
    wp_walk
    refine wpAny_ite_false (by rw [c5]; rfl) ?_
    wp_walk
    exact ⟨_, rfl, h.2⟩

/-- t * k, t not empty -/
noncomputable def rRepT (K : PySem.W.Frag) : R2 := fun x y H Q => ∃ a k xs, x = .ref a ∧ y = .int k ∧ SqT K H a xs ∧ xs ≠ [] ∧ -(2 ^ 63) ≤ k ∧ k < 2 ^ 63 ∧ xs.length * k.toNat ≤ sizeLine ∧ AnyT K H (List.replicate k.toNat xs).flatten Q
theorem op_repT {X : Cx} : OpR X (binaryOp .Mult) (rRepT X.K) := by
  intro pins s σ H x y v u Q I rx ry h
  obtain ⟨l, k, xs, rfl, rfl, hH, hne, h1, h2, hz, q⟩ := h
  cases rx
  obtain ⟨t, rfl⟩ := ry
  obtain ⟨its, r, ht, _⟩ := I.tuple hH
  obtain ⟨⟨cls, dd, data, sl⟩, ho, hc, n, hd⟩ := id ht
  simp only at hc hd
  subst hc hd
  have hi : its.toArray.isEmpty = false := by
    have : its ≠ [] := fun z => hne (r.nil_iff.mp z)
    cases its with
    | nil => exact absurd rfl this
    | cons a b => rfl
  have hlen : its.toArray.size * k.toNat ≤ sizeLine := by rw [List.size_toArray, ← r.length]; exact hz
  have f0 : ∀ m : Nat, List.foldl (fun x1 x2 => x1 ++ x2) #[] (List.replicate m its.toArray) = (List.replicate m its).flatten.toArray := fun m => by
    have := foldl_rep its m []
    rw [List.nil_append] at this
    exact this
  refine wpAny_binaryOp_repeat_ref (T := "tuple") (U := "int") (by decide) ⟨_, ho, rfl⟩ (fun s' => typeIs_int s' k t) noFill_tuple_mul F.fills_int_mul F.slot_int_rmul repeat_tuple F.slot_int_index.lookup
    (call_meets F.slot_int_rmul (typeIs_int s k t) F.entry_int_rmul (F.args_int_rmul_2 _ _) (rmul_int_tuple k t l its.toArray n dd sl) ⟨ho, rfl, ⟨_, ho, rfl⟩, ?_⟩)
  by_cases hk1 : k = 1
  · subst hk1
    refine call_meets F.slot_tuple_mul ⟨_, ho, rfl⟩ F.entry_tuple_mul (F.args_tuple_mul_2 _ _) (tuple_mul1 l its.toArray n dd sl t) ⟨ho, ?_⟩
    exact ⟨.ref l, H, I, rfl, q.old (by simpa using hH)⟩
  · by_cases hk0 : k ≤ 0
    · refine call_meets F.slot_tuple_mul ⟨_, ho, rfl⟩ F.entry_tuple_mul (F.args_tuple_mul_2 _ _) (tuple_mul0 l its.toArray n dd sl k t hk0 h1 hi) ⟨ho, ?_⟩
      have e : k.toNat = 0 := by omega
      rw [e] at q
      exact ⟨.ref _, _, I.laid (t' := s.toks) (o := .tup []) (fun b ob q => Heap.get?_push_of_some _ q) (Nat.le_refl _) ⟨Nat.zero_le _, [], .nil, IsTup.new _ _⟩, rfl, q.new I.fresh⟩
    · refine call_meets F.slot_tuple_mul ⟨_, ho, rfl⟩ F.entry_tuple_mul (F.args_tuple_mul_2 _ _) (tuple_mulN l its.toArray n dd sl k t (by omega) h2 hi hlen) ⟨ho, ?_⟩
      rw [f0]
      exact ⟨.ref _, _, I.laid (t' := s.toks) (o := .tup (List.replicate k.toNat xs).flatten) (fun b ob q => Heap.get?_push_of_some _ q) (Nat.le_refl _) ⟨by rw [len_rep, Nat.mul_comm]; exact hz, _, r.rep k.toNat, IsTup.new _ _⟩, rfl, q.new I.fresh⟩
end L2
namespace L2
open PySem PySem.Spec PyProof.Rows

/-! ### the block's scope, checked -/
noncomputable def blkCheck (oN : List Str) (osc : Scope) (N : List Str) (own : Nat) (caps : List Nat) (scope : Scope) : Bool :=
  decide (scope.kind = .function) && decide N.Nodup && decide (scope.names.map (·.1)).Nodup &&
  scope.names.all (fun x => x.2 != .free || (decide (osc.names.lookup x.1 = some .cell) || decide (osc.names.lookup x.1 = some .free))) &&
  decide (N.length = own + caps.length) && decide (caps.map (fun i => oN[i]?) = (N.drop own).map some) && (N.drop own).all (fun x => decide (scope.names.lookup x = some .free))
theorem BlkScope.mk' {oN : List Str} {osc : Scope} {N : List Str} {own : Nat} {caps : List Nat} {scope : Scope} (h : blkCheck oN osc N own caps scope = true) : BlkScope oN osc N own caps scope := by
  unfold blkCheck at h
  simp only [Bool.and_eq_true, decide_eq_true_eq, List.all_eq_true, Bool.or_eq_true, bne_iff_ne, ne_eq] at h
  obtain ⟨⟨⟨⟨⟨⟨h1, h2⟩, h3⟩, h4⟩, h5⟩, h6⟩, h7⟩ := h
  exact ⟨h1, h2, h3, fun x hx hk => (h4 x hx).elim (fun z => absurd hk z) id, h5, h6, h7⟩

/-! ### comprehensions, in the forms one uses: the heap grows, the captured names cp stay -/
/-- behind a turn with n own names -/
noncomputable def CpN (n : Nat) (cp : St) (H1 : Hp) (P : Hp → List V → Prop) : St → Hp → List V → Prop := fun σ H zs => (∃ o : St, o.length = n ∧ σ = o ++ cp) ∧ Same H1 H ∧ P H zs
section
variable {K : PySem.W.Frag} {H1 : Hp} {cp : St} {g : TG} {tt : TT} {te : TE} {Q : VK} {xs ys : List V} {l1 l2 a : Addr} {b1 b2 b : Bool} {n own : Nat} {J : It}
/-- any iterator that goes n turns over whatever grows out of H1 -/
theorem comp_any (Pv : Nat → Hp → List V → Prop) (hn : n ≤ sizeLine) (h0 : Pv 0 H1 []) (hlen : ∀ i H zs, Pv i H zs → zs.length ≤ i)
    (hgo : ∀ i H, Same H1 H → i < n → J.go i H) (hstop : ∀ H, Same H1 H → J.stop n H)
    (step : ∀ i o H zs, i < n → o.length = own → Same H1 H → Pv i H zs → ∀ x H2, J.yld i H x H2 → g x (o ++ cp) H2 fun σ3 H3 => tt σ3 H3 fun c H4 => if c = true then te σ3 H4 fun v H5 => CpN own cp H1 (Pv (i + 1)) σ3 H5 (zs ++ [v]) else CpN own cp H1 (Pv (i + 1)) σ3 H4 zs)
    (done : ∀ H zs, Same H1 H → Pv n H zs → ∀ p, H p = none → Q (.ref p) (upd H p (.lst zs))) :
    ∃ W : Nat → Nat → St → Hp → List V → Prop, (∃ m, W 0 m (List.replicate own none ++ cp) H1 []) ∧ CompW J g tt te Q W := by
  refine ⟨fun i m σ H zs => m = n - i ∧ i ≤ n ∧ CpN own cp H1 (Pv i) σ H zs, ⟨n, by simp, Nat.zero_le _, ⟨_, by simp, rfl⟩, .refl _, h0⟩, ?_⟩
  rintro i m σ H zs ⟨rfl, hi, ⟨o, ho, rfl⟩, sm, pv⟩
  have hl := hlen _ _ _ pv
  by_cases hlt : i < n
  · exact .inr ⟨hgo i H sm hlt, by omega, CpN own cp H1 (Pv (i + 1)), fun σ2 H2 zs2 q => ⟨n - (i + 1), by omega, rfl, hlt, q⟩, step i o H zs hlt ho sm pv⟩
  · have e : i = n := by omega
    subst e
    exact .inl ⟨hstop H sm, by omega, done H zs sm pv⟩
theorem one_of {o : St} (h : o.length = 1) : ∃ x, o = [x] := by
  match o, h with
  | [x], _ => exact ⟨x, rfl⟩
theorem two_of {o : St} (h : o.length = 2) : ∃ x y, o = [x, y] := by
  match o, h with
  | [x, y], _ => exact ⟨x, y, rfl⟩
/-- .. for x in a list or tuple -/
theorem comp_list (Pv : Nat → Hp → List V → Prop) (hq : SqL K H1 a xs) (hz : xs.length ≤ sizeLine) (h0 : Pv 0 H1 []) (hlen : ∀ i H zs, Pv i H zs → zs.length ≤ i)
    (step : ∀ i x H zs, xs[i]? = some x → Same H1 H → Pv i H zs → tt (some x :: cp) H fun c H4 => if c = true then te (some x :: cp) H4 fun v H5 => CpN 1 cp H1 (Pv (i + 1)) (some x :: cp) H5 (zs ++ [v]) else CpN 1 cp H1 (Pv (i + 1)) (some x :: cp) H4 zs)
    (done : ∀ H zs, Same H1 H → Pv xs.length H zs → ∀ p, H p = none → Q (.ref p) (upd H p (.lst zs))) :
    ∃ W : Nat → Nat → St → Hp → List V → Prop, (∃ m, W 0 m (List.replicate 1 none ++ cp) H1 []) ∧ CompW (Itl K a) (gName 0) tt te Q W := by
  refine comp_any (n := xs.length) Pv hz h0 hlen (fun i H sm hi => ⟨xs, xs[i], sm.seq hq, by simp [hi]⟩) (fun H sm => ⟨xs, sm.seq hq, Nat.le_refl _⟩) (fun i o H zs hi ho sm pv x H2 y => ?_) done
  obtain ⟨w, rfl⟩ := one_of ho
  obtain ⟨rfl, y⟩ := y
  exact step i x _ zs (y xs (sm.seq hq)) sm pv
theorem comp_tup (Pv : Nat → Hp → List V → Prop) (hq : SqT K H1 a xs) (hz : xs.length ≤ sizeLine) (h0 : Pv 0 H1 []) (hlen : ∀ i H zs, Pv i H zs → zs.length ≤ i)
    (step : ∀ i x H zs, xs[i]? = some x → Same H1 H → Pv i H zs → tt (some x :: cp) H fun c H4 => if c = true then te (some x :: cp) H4 fun v H5 => CpN 1 cp H1 (Pv (i + 1)) (some x :: cp) H5 (zs ++ [v]) else CpN 1 cp H1 (Pv (i + 1)) (some x :: cp) H4 zs)
    (done : ∀ H zs, Same H1 H → Pv xs.length H zs → ∀ p, H p = none → Q (.ref p) (upd H p (.lst zs))) :
    ∃ W : Nat → Nat → St → Hp → List V → Prop, (∃ m, W 0 m (List.replicate 1 none ++ cp) H1 []) ∧ CompW (Itt K a) (gName 0) tt te Q W := by
  refine comp_any (n := xs.length) Pv hz h0 hlen (fun i H sm hi => ⟨xs, xs[i], sm.seqT hq, by simp [hi]⟩) (fun H sm => ⟨xs, sm.seqT hq, Nat.le_refl _⟩) (fun i o H zs hi ho sm pv x H2 y => ?_) done
  obtain ⟨w, rfl⟩ := one_of ho
  obtain ⟨rfl, y⟩ := y
  exact step i x _ zs (y xs (sm.seqT hq)) sm pv
/-- .. for k in range(..) -/
theorem comp_rng {lo : Int} (Pv : Nat → Hp → List V → Prop) (hz : n ≤ sizeLine) (h0 : Pv 0 H1 []) (hlen : ∀ i H zs, Pv i H zs → zs.length ≤ i)
    (step : ∀ i H zs, i < n → Same H1 H → Pv i H zs → tt (some (.int (lo + (i : Nat))) :: cp) H fun c H4 => if c = true then te (some (.int (lo + (i : Nat))) :: cp) H4 fun v H5 => CpN 1 cp H1 (Pv (i + 1)) (some (.int (lo + (i : Nat))) :: cp) H5 (zs ++ [v]) else CpN 1 cp H1 (Pv (i + 1)) (some (.int (lo + (i : Nat))) :: cp) H4 zs)
    (done : ∀ H zs, Same H1 H → Pv n H zs → ∀ p, H p = none → Q (.ref p) (upd H p (.lst zs))) :
    ∃ W : Nat → Nat → St → Hp → List V → Prop, (∃ m, W 0 m (List.replicate 1 none ++ cp) H1 []) ∧ CompW (Itr lo n) (gName 0) tt te Q W := by
  refine comp_any (n := n) Pv hz h0 hlen (fun i H sm hi => hi) (fun H sm => Nat.le_refl _) (fun i o H zs hi ho sm pv x H2 y => ?_) done
  obtain ⟨w, rfl⟩ := one_of ho
  obtain ⟨rfl, rfl⟩ := y
  exact step i _ zs hi sm pv
/-- two names out of a pair -/
noncomputable abbrev gPair (K : PySem.W.Frag) (i j : Nat) : TG := gTup K 2 (gCons (gName i) (gCons (gName j) gNil))
theorem gPair_at {p : Addr} {x y : V} {i j : Nat} {σ : St} {H : Hp} {R : St → Hp → Prop} (h : SqT K H p [x, y]) (q : R ((σ.set i (some x)).set j (some y)) H) : gPair K i j (.ref p) σ H R :=
  ⟨p, [x, y], rfl, h, rfl, x, [y], rfl, y, [], rfl, rfl, q⟩
theorem comp_zip (Pv : Nat → Hp → List V → Prop) (hq1 : Sq b1 K H1 l1 xs) (hq2 : Sq b2 K H1 l2 ys) (hl : xs.length = ys.length) (hz : xs.length ≤ sizeLine) (h0 : Pv 0 H1 []) (hlen : ∀ i H zs, Pv i H zs → zs.length ≤ i) (mono : ∀ i H H' zs, Same H H' → Pv i H zs → Pv i H' zs)
    (step : ∀ i x y H zs, xs[i]? = some x → ys[i]? = some y → Same H1 H → Pv i H zs → tt (some x :: some y :: cp) H fun c H4 => if c = true then te (some x :: some y :: cp) H4 fun v H5 => CpN 2 cp H1 (Pv (i + 1)) (some x :: some y :: cp) H5 (zs ++ [v]) else CpN 2 cp H1 (Pv (i + 1)) (some x :: some y :: cp) H4 zs)
    (done : ∀ H zs, Same H1 H → Pv xs.length H zs → ∀ p, H p = none → Q (.ref p) (upd H p (.lst zs))) :
    ∃ W : Nat → Nat → St → Hp → List V → Prop, (∃ m, W 0 m (List.replicate 2 none ++ cp) H1 []) ∧ CompW (Itz K b1 b2 l1 l2) (gPair K 0 1) tt te Q W := by
  refine comp_any (n := xs.length) Pv hz h0 hlen (fun i H sm hi => ⟨xs, ys, xs[i], ys[i], sm.sq hq1, sm.sq hq2, by simp [hi], by simp [hl ▸ hi]⟩) (fun H sm => ⟨xs, ys, sm.sq hq1, sm.sq hq2, .inl rfl⟩) (fun i o H zs hi ho sm pv v H2 yl => ?_) done
  obtain ⟨w1, w2, rfl⟩ := two_of ho
  obtain ⟨p, x, y, rfl, hp, rfl, hx, hy⟩ := yl
  refine gPair_at (.of upd_same) ?_
  have s2 : Same H (upd H p (.tup [x, y])) := .upd hp
  exact step i x y _ zs (hx xs (sm.sq hq1)) (hy ys (sm.sq hq2)) (sm.trans s2) (mono _ _ _ _ s2 pv)
end

/-! ### for over zip, enumerate -/
section
variable {K : PySem.W.Frag} {a l1 l2 : Addr} {xs ys : List V} {b b1 b2 : Bool} {tb : TS} {D : Ends} {σ : St} {H : Hp} {i j : Nat}
theorem for_zip (Pv : Nat → St → Hp → Prop) (hl : xs.length = ys.length) (h0 : Pv 0 σ H) (hq : ∀ k σ H, Pv k σ H → Sq b1 K H l1 xs ∧ Sq b2 K H l2 ys) (mono : ∀ k σ H H', Same H H' → Pv k σ H → Pv k σ H')
    (hs : ∀ k x y σ H, xs[k]? = some x → ys[k]? = some y → Pv k σ H → tb { D with nx := Pv (k + 1), ct := Pv (k + 1), bk := D.nx } ((σ.set i (some x)).set j (some y)) H) (hd : ∀ σ H, Pv xs.length σ H → D.nx σ H) :
    ∃ W : Nat → Nat → St → Hp → Prop, (∃ m, W 0 m σ H) ∧ ∀ k m σ H, W k m σ H →
      ((Itz K b1 b2 l1 l2).stop k H ∧ D.nx σ H) ∨ ((Itz K b1 b2 l1 l2).go k H ∧ ∃ N : St → Hp → Prop, (∀ σ' H', N σ' H' → ∃ m', m' < m ∧ W (k + 1) m' σ' H') ∧ ∀ x H', (Itz K b1 b2 l1 l2).yld k H x H' → gPair K i j x σ H' fun σ2 H2 => tb { D with nx := N, ct := N, bk := D.nx } σ2 H2) := by
  refine ⟨fun k m σ H => m = xs.length - k ∧ k ≤ xs.length ∧ Pv k σ H, ⟨xs.length, by simp, Nat.zero_le _, h0⟩, ?_⟩
  rintro k m σ H ⟨rfl, hk, p⟩
  obtain ⟨q1, q2⟩ := hq k σ H p
  by_cases hlt : k < xs.length
  · refine .inr ⟨⟨xs, ys, xs[k], ys[k], q1, q2, by simp [hlt], by simp [hl ▸ hlt]⟩, Pv (k + 1), fun σ' H' p' => ⟨xs.length - (k + 1), by omega, rfl, hlt, p'⟩, fun v H' yl => ?_⟩
    obtain ⟨pp, x, y, rfl, hp, rfl, hx, hy⟩ := yl
    exact gPair_at (.of upd_same) (hs k x y σ _ (hx xs q1) (hy ys q2) (mono _ _ _ _ (.upd hp) p))
  · have e : k = xs.length := by omega
    subst e
    exact .inl ⟨⟨xs, ys, q1, q2, .inl rfl⟩, hd σ H p⟩
theorem for_enum (Pv : Nat → St → Hp → Prop) (h0 : Pv 0 σ H) (hq : ∀ k σ H, Pv k σ H → Sq b K H a xs) (mono : ∀ k σ H H', Same H H' → Pv k σ H → Pv k σ H')
    (hs : ∀ k x σ H, xs[k]? = some x → Pv k σ H → tb { D with nx := Pv (k + 1), ct := Pv (k + 1), bk := D.nx } ((σ.set i (some (.int (k : Nat)))).set j (some x)) H) (hd : ∀ σ H, Pv xs.length σ H → D.nx σ H) :
    ∃ W : Nat → Nat → St → Hp → Prop, (∃ m, W 0 m σ H) ∧ ∀ k m σ H, W k m σ H →
      ((Ite K b a).stop k H ∧ D.nx σ H) ∨ ((Ite K b a).go k H ∧ ∃ N : St → Hp → Prop, (∀ σ' H', N σ' H' → ∃ m', m' < m ∧ W (k + 1) m' σ' H') ∧ ∀ x H', (Ite K b a).yld k H x H' → gPair K i j x σ H' fun σ2 H2 => tb { D with nx := N, ct := N, bk := D.nx } σ2 H2) := by
  refine ⟨fun k m σ H => m = xs.length - k ∧ k ≤ xs.length ∧ Pv k σ H, ⟨xs.length, by simp, Nat.zero_le _, h0⟩, ?_⟩
  rintro k m σ H ⟨rfl, hk, p⟩
  have q := hq k σ H p
  by_cases hlt : k < xs.length
  · refine .inr ⟨⟨xs, xs[k], q, by simp [hlt]⟩, Pv (k + 1), fun σ' H' p' => ⟨xs.length - (k + 1), by omega, rfl, hlt, p'⟩, fun v H' yl => ?_⟩
    obtain ⟨pp, x, rfl, hp, rfl, hx⟩ := yl
    exact gPair_at (.of upd_same) (hs k x σ _ (hx xs q) (mono _ _ _ _ (.upd hp) p))
  · have e : k = xs.length := by omega
    subst e
    exact .inl ⟨⟨xs, q, rfl⟩, hd σ H p⟩
end
end L2
namespace L2
open PySem PySem.Spec PyProof.Rows
/-! ### isinstance of what is read -/
theorem kit_int_int (K : PySem.W.Frag) : PySem.W.kitOne K (.type "int") (.type "int") = some true := by kernel_rfl
theorem kit_tuple_tuple (K : PySem.W.Frag) : PySem.W.kitOne K (.type "tuple") (.type "tuple") = some true := by kernel_rfl
theorem kit_str_int (K : PySem.W.Frag) : PySem.W.kitOne K (.type "str") (.type "int") = some false := by kernel_rfl
section
variable {X : Cx}
theorem call_isinstT {T : String} : CallR X (.builtin "isinstance") (fun xs H Q => ∃ a ys b, xs = [.ref a, .ty T] ∧ SqT X.K H a ys ∧ PySem.W.kitOne X.K (.type "tuple") (.type T) = some b ∧ Q (.bl b) H) := by
  intro pins s σ H vs us Q I r h
  obtain ⟨a, ys, b, rfl, hq, e, q⟩ := h
  obtain ⟨u, v, rfl, ru, rv⟩ := vals2 r
  cases ru
  cases rv
  obtain ⟨its, rr, ⟨o, h1, h2, _⟩, _⟩ := I.tuple hq
  exact PySem.W.kia_one PySem.W.kitx_tuple I.kIn ⟨o, h1, h2⟩ e (fun z => nomatch z) fun tk => ⟨.bl b, H, I.tok tk, rfl, q⟩
end
/-! ### values -/
theorem relTy (n : String) : RelV (.ty n) (.type n) := rfl
/-- a name of a builtin type as a value -/
theorem pe_ty {X : Cx} {x : Str} {T : String} {pos : Pos} (hg : Gl X x) (hm : X.mg x = none) (hv : bootBuiltins x = some (.type T)) (hn : x ≠ "__name__" := by decide) (hd : (x == ("__debug__" : Str)) = false := by decide) : PE X (.Name x pos) (tC (.ty T)) := pe_bltn hg hm hv (relTy T) hn hd
end L2
namespace L2
open PySem PySem.Spec PyProof.Rows
/-! ### a display of written ints -/
noncomputable def constInts : List Expr → Option (List Int)
  | [] => some []
  | .Constant (.int i) _ _ :: es => (constInts es).map (i :: ·)
  | _ => none
theorem pa_ints {X : Cx} : ∀ (es : List Expr) (ns : List Int), constInts es = some ns → PA X es (fun _ H Q => Q (ns.map V.int) H)
  | [], ns, h => by
    cases h
    exact pa_nil
  | .Constant (.int i) j pos :: es, ns, h => by
    unfold constInts at h
    cases e : constInts es with
    | none => rw [e] at h; cases h
    | some ms =>
      rw [e] at h
      have h' : i :: ms = ns := Option.some.inj h
      subst h'
      exact pa_cons pe_int (pa_ints es ms e) rfl
  | .Constant .none _ _ :: _, _, h => by cases h
  | .Constant (.bool _) _ _ :: _, _, h => by cases h
  | .Constant (.str _) _ _ :: _, _, h => by cases h
  | .Constant (.bytes _) _ _ :: _, _, h => by cases h
  | .Constant .ellipsis _ _ :: _, _, h => by cases h
  | .Name .. :: _, _, h => by cases h
theorem hasT {K : PySem.W.Frag} {H : Hp} {x : V} {r : List Int} (h : HasD K H x (intsT r)) : ∃ a, x = .ref a ∧ SqT K H a (r.map V.int) := by
  unfold intsT at h
  cases h with
  | tuple hq ha => exact ⟨_, rfl, by rw [← ha.intsV]; exact hq⟩
theorem hasT_of {K : PySem.W.Frag} {H : Hp} {a : Addr} {r : List Int} (h : SqT K H a (r.map V.int)) : HasD K H (.ref a) (intsT r) := .tuple h (HasA.ints r)
end L2

namespace L2
open PySem PySem.Spec PyProof.Rows
open Classical in
theorem iteNeD {d e : PySem.W.Dat} {A B : Prop} (h : d = e) (b : B) : if (if true = true then !decide (d = e) else decide (d = e)) = true then A else B := by
  subst h
  simp only [decide_true, Bool.not_true, if_true, Bool.false_eq_true, if_false]
  exact b
theorem kqd_ints (n : Nat) (ns : List Int) : (ns.map PySem.W.Dat.int).all (PySem.W.kqdOk n) = true := by
  rw [List.all_map]
  exact List.all_eq_true.mpr fun _ _ => by cases n <;> rfl
end L2

namespace L2
end L2
namespace L2
open PySem PySem.Spec PyProof.Rows
/-! ### the rules that name the written part, with it named: for a comprehension's block -/
section
variable {X : Cx} (K : PySem.W.Frag) (hK : X.K = K)
include hK
theorem ixL : IxR X (rIxL K) := hK ▸ ix_list
theorem ixT : IxR X (rIxT K) := hK ▸ ix_tup
theorem slL : SlR X (rSlL K) := hK ▸ sl_list
theorem cLen : CallR X (.builtin "len") (fun xs H Q => ∃ p ys, xs = [.ref p] ∧ (SqL K H p ys ∨ SqT K H p ys) ∧ Q (.int ys.length) H) := hK ▸ call_len_seq
theorem cList : CallR X (.type "list") (fun xs H Q => ∃ p ys, xs = [.ref p] ∧ (SqL K H p ys ∨ SqT K H p ys) ∧ ∀ l, H l = none → Q (.ref l) (upd H l (.lst ys))) := hK ▸ call_list_of
theorem cTuple : CallR X (.type "tuple") (fun xs H Q => ∃ p ys, xs = [.ref p] ∧ ((SqL K H p ys ∧ ∀ l, H l = none → Q (.ref l) (upd H l (.tup ys))) ∨ (SqT K H p ys ∧ Q (.ref p) H))) := hK ▸ call_tuple_of
theorem cIsT {T : String} : CallR X (.builtin "isinstance") (fun xs H Q => ∃ a ys b, xs = [.ref a, .ty T] ∧ SqT K H a ys ∧ PySem.W.kitOne K (.type "tuple") (.type T) = some b ∧ Q (.bl b) H) := hK ▸ call_isinstT
theorem cSum (hc : X.calm = true) : CallR X (.builtin "sum") (fun xs H Q => ∃ p ns, xs = [.ref p] ∧ SqL K H p (List.map V.int ns) ∧ Q (.int ns.sum) H) := hK ▸ call_sum hc
theorem opNeD (hu : X.A.units + 64 < cLine) : OpR X (compareOp .NotEq) (rEqD K true) := hK ▸ op_neD hu
theorem opRepT : OpR X (binaryOp .Mult) (rRepT K) := hK ▸ op_repT
theorem opIn : OpR X (compareOp .In) (rIn K false) := hK ▸ op_in_seq
theorem piList {tg l : Expr} {tl : TE} (hl : PE X l tl) : PI X tg l (iList K tl) := hK ▸ pi_list hl
theorem piTup {tg l : Expr} {tl : TE} (hl : PE X l tl) : PI X tg l (iTup K tl) := hK ▸ pi_tup hl
theorem piZip (b1 b2 : Bool) {a b : Expr} {ta : TA} {p pos pt : Pos} {es : List Expr} {kt : Nat} (hg : Gl X "zip") (hm : X.mg "zip" = none) (ha : PA X [a, b] ta) (hs : starEach [a, b] X.env = [(false, eval a X.env), (false, eval b X.env)] := by rfl) (hs2 : starEach [b] X.env = [(false, eval b X.env)] := by rfl) :
    PI X (.Tuple es kt pt) (.Call (.Name "zip" p) [a, b] [] pos) (iZip K b1 b2 ta) := hK ▸ pi_zip b1 b2 hg hm ha hs hs2
theorem piEnum (b : Bool) {a : Expr} {ta : TA} {p pos pt : Pos} {es : List Expr} {kt : Nat} (hg : Gl X "enumerate") (hm : X.mg "enumerate" = none) (ha : PA X [a] ta) (hs : starEach [a] X.env = [(false, eval a X.env)] := by rfl) :
    PI X (.Tuple es kt pt) (.Call (.Name "enumerate" p) [a] [] pos) (iEnum K b ta) := hK ▸ pi_enum b hg hm ha hs
theorem pgTup {es : List Expr} {k : Nat} {t : TGs} {n : Nat} {pos : Pos} (hc : X.calm = true) (h : PGs X es t)
    (hn : (assignEach es X.env).length = n := by rfl) (hst : (assignEach es X.env).findIdx? (·.1) = none := by rfl) : PG X (.Tuple es k pos) (gTup K n t) := hK ▸ pg_tup hc h hn hst
end
theorem bt_tuple : bootBuiltins "tuple" = some (.type "tuple") := by decide +kernel
theorem bt_list : bootBuiltins "list" = some (.type "list") := by decide +kernel
theorem bt_int : bootBuiltins "int" = some (.type "int") := by decide +kernel
theorem bt_isinstance : bootBuiltins "isinstance" = some (.builtin "isinstance") := by decide +kernel
theorem bt_sum : bootBuiltins "sum" = some (.builtin "sum") := by decide +kernel
theorem bt_len : bootBuiltins "len" = some (.builtin "len") := by decide +kernel
end L2
namespace L2
/-- a comprehension without a test -/
theorem tgo {σ : St} {H : Hp} {Y N : Hp → Prop} (h : Y H) : tTrue σ H (fun c H4 => if c = true then Y H4 else N H4) := by
  show if true = true then Y H else N H
  exact iteT h
end L2

namespace L2
open PySem
/-- a display of written ints, behind a wall (so that nobody runs it) -/
structure PAI (X : Cx) (es : List Expr) (ns : List Int) : Prop where
  get : PA X es (fun _ H Q => Q (ns.map V.int) H)
theorem pai {X : Cx} {es : List Expr} {ns : List Int} (h : constInts es = some ns) : PAI X es ns := ⟨pa_ints es ns h⟩
noncomputable def tInts (ns : List Int) : TE := tLst (fun _ H Q => Q (ns.map V.int) H)
theorem pe_ints {X : Cx} {es : List Expr} {ns : List Int} {pos : Pos} (h : PAI X es ns) : PE X (.List es pos) (tInts ns) := pe_lst h.get
end L2
namespace L2
open PySem PySem.Spec PyProof.Rows
set_option maxRecDepth 100000
/-! ### a, b = a list -/
section
variable {X : Cx} {pos : Pos}
end
/-! ### range(0, j, 2) -/
end L2
namespace L2
open PySem PySem.Spec PyProof.Rows
set_option maxRecDepth 100000
/-! ### t + u of any two tuples -/
theorem add_none (l b : Addr) (its its2 : Array Value) (n n2 : Nat) (dd dd2 : Option Addr) (sl sl2 : Array (Option Value)) (he : its.isEmpty = true) :
    Meets (Builtin.«tuple.__add__» ⟨[.ref l, .ref b], []⟩) (fun _ R s => s.heap.get? l = some { cls := .type "tuple", dict := dd, data := .seq its n, slots := sl } ∧ s.heap.get? b = some { cls := .type "tuple", dict := dd2, data := .seq its2 n2, slots := sl2 } ∧ R (.ok (.ret (.ref b))) s) :=
  .of_wp fun _ _ _ _ s h => by
    obtain ⟨hpA, gA, dA, tkA, osA⟩ := s
    have at0 := h.1
    have at1 := h.2.1
    have f2 := AutoSeq1.sub_tuple_tuple
    wp_walk using AutoSeq1.wpAny_loadPart' at0, AutoSeq1.wpAny_loadPart' at1
    exact ⟨_, rfl, h.2.2⟩
noncomputable def rCatA (K : PySem.W.Frag) : R2 := fun x y H Q => ∃ a b xs ys, x = .ref a ∧ y = .ref b ∧ SqT K H a xs ∧ SqT K H b ys ∧ xs.length + ys.length ≤ sizeLine ∧ AnyT K H (xs ++ ys) Q
theorem op_catA {X : Cx} : OpR X (binaryOp .Add) (rCatA X.K) := by
  rintro pins s σ H x y v u Q I rx ry ⟨a, b, xs, ys, rfl, rfl, ha, hb, hz, q⟩
  by_cases hx : xs = []
  · subst hx
    cases rx
    cases ry
    obtain ⟨its, r1, ⟨⟨c1, d1, t1, s1⟩, o1, e1, n1, f1⟩, _⟩ := I.tuple ha
    obtain ⟨its2, r2, ⟨⟨c2, d2, t2, s2⟩, o2, e2, n2, f2⟩, _⟩ := I.tuple hb
    simp only at e1 f1 e2 f2
    subst e1 f1 e2 f2
    cases r1
    refine concat_meets ⟨_, o1, rfl⟩ ⟨_, o2, rfl⟩ noFill_tuple_add seq_tuple_add PySem.F.slot_tuple_add PySem.F.entry_tuple_add (PySem.F.args_tuple_add_2 _ _) (add_none a b _ _ _ _ d1 d2 s1 s2 rfl) ⟨o1, o2, ?_⟩
    exact ⟨.ref b, H, I, rfl, q.old hb⟩
  · refine op_catT pins s σ H _ _ v u Q I rx ry ⟨a, b, xs, ys, rfl, rfl, ha, hb, hx, hz, fun hy => ?_, fun _ p hp => q.new hp⟩
    subst hy
    exact q.old (by rw [List.append_nil]; exact ha)
theorem opCatA {X : Cx} (K : PySem.W.Frag) (hK : X.K = K) : OpR X (binaryOp .Add) (rCatA K) := hK ▸ op_catA
end L2
namespace L2
open PySem PySem.Spec PyProof.Rows
set_option maxRecDepth 100000
/-! ### all(a list of truths), any(..) -/
theorem rng_map (d : Bool) (bs : List Bool) : (List.range bs.length).map (fun i => (bs[i]?).getD d) = bs := by
  apply List.ext_getElem
  · simp
  · intro i h1 h2
    simp [List.getElem?_eq_getElem h2]
theorem rng_any (bs : List Bool) : ((List.range bs.length).any fun i => (bs[i]?).getD false) = bs.any id := by
  have e := congrArg (fun l => List.any l id) (rng_map false bs)
  rw [← e]
  simp only [List.any_map]; rfl
section
variable {X : Cx}
theorem bt_any : bootBuiltins "any" = some (.builtin "any") := by decide +kernel
end
end L2
/-! THE MATHEMATICS of rows of numbers (plain Lean). -/
namespace Bw
noncomputable def primesL : List Int := [2, 3, 5, 7, 11, 13, 17, 19, 23, 29, 31, 37, 41, 43, 47, 53, 59, 61, 67, 71, 73, 79, 83, 89, 97]
/-- the program's turned -/
noncomputable def turnI (p n : Int) : Nat → Int
  | 0 => 1
  | k + 1 => turnI p n k * n % p
noncomputable def turnM (p n : Int) : Int := turnI p n (p - 2).toNat
noncomputable def turnOk (p n : Int) : Bool := decide (1 ≤ turnM p n) && decide (turnM p n < p) && decide (turnM p n * n % p = 1)
theorem turn_all : (primesL.all fun p => (List.range p.toNat).all fun n => n == 0 || turnOk p n) = true := by decide +kernel
theorem prime_pos : ∀ p ∈ primesL, 2 ≤ p ∧ p ≤ 97 := by decide +kernel
theorem turn_ok {p n : Int} (hp : p ∈ primesL) (h1 : 1 ≤ n) (h2 : n < p) : 1 ≤ turnM p n ∧ turnM p n < p ∧ turnM p n * n % p = 1 := by
  have h := List.all_eq_true.mp turn_all p hp
  have h' := List.all_eq_true.mp h n.toNat (List.mem_range.mpr (by omega))
  have en : ((n.toNat : Nat) : Int) = n := by omega
  have n0 : (n.toNat == 0) = false := by simp; omega
  rw [n0, Bool.false_or, en] at h'
  unfold turnOk at h'
  simp only [decide_eq_true_eq, Bool.and_eq_true] at h'
  exact ⟨h'.1.1, h'.1.2, h'.2⟩
theorem turnI_bound {p n : Int} (hp : 2 ≤ p) : ∀ k, 0 ≤ turnI p n k ∧ turnI p n k < p
  | 0 => by unfold turnI; omega
  | k + 1 => by
    unfold turnI
    exact ⟨Int.emod_nonneg _ (by omega), Int.emod_lt_of_pos _ (by omega)⟩
/-- the program's added, summed -/
noncomputable def addM (p : Int) (row : List Int) (f : Int) (other : List Int) : List Int := List.zipWith (fun a b => (a + f * b) % p) row other
noncomputable def sumM (p : Int) : List (List Int × Int) → List Int → List Int
  | [], t => t
  | (r, f) :: L, t => sumM p L (addM p t f r)
/-- a column's sum -/
noncomputable def colS (L : List (List Int × Int)) (j : Nat) : Int := (L.map fun q => q.1.getD j 0 * q.2).sum
theorem colS_cons (r : List Int) (f : Int) (L : List (List Int × Int)) (j : Nat) : colS ((r, f) :: L) j = r.getD j 0 * f + colS L j := by simp [colS]
theorem addM_map {p f : Int} {n : Nat} {r : List Int} (c : Nat → Int) (hr : r.length = n) : addM p ((List.range n).map fun j => c j % p) f r = (List.range n).map fun j => (c j + r.getD j 0 * f) % p := by
  apply List.ext_getElem
  · simp [addM, hr]
  · intro i h1 h2
    have hi : i < r.length := by simp [addM, hr] at h1; omega
    simp only [addM, List.getElem_zipWith, List.getElem_map, List.getElem_range]
    rw [List.getD_eq_getElem?_getD, List.getElem?_eq_getElem hi, Option.getD_some, Int.mul_comm f, Int.emod_add_emod]
theorem sumM_eq {p : Int} {n : Nat} : ∀ (L : List (List Int × Int)) (c : Nat → Int), (∀ q ∈ L, q.1.length = n) → sumM p L ((List.range n).map fun j => c j % p) = (List.range n).map fun j => (c j + colS L j) % p
  | [], c, _ => by simp [sumM, colS]
  | (r, f) :: L, c, h => by
    rw [sumM, addM_map c (h (r, f) List.mem_cons_self), sumM_eq L (fun j => c j + r.getD j 0 * f) fun q hq => h q (List.mem_cons_of_mem _ hq)]
    apply List.map_congr_left
    intro j _
    rw [colS_cons, Int.add_assoc]
theorem sumM_zero {p : Int} {n : Nat} (L : List (List Int × Int)) (h : ∀ q ∈ L, q.1.length = n) : sumM p L (List.replicate n 0) = (List.range n).map fun j => colS L j % p := by
  have e : List.replicate n (0 : Int) = (List.range n).map fun j => (fun _ => (0 : Int)) j % p := by
    apply List.ext_getElem
    · simp
    · intro i _ _; simp
  rw [e, sumM_eq L (fun _ => 0) h]
  apply List.map_congr_left
  intro j _
  rw [Int.zero_add]
end Bw
/-! THE MATHEMATICS 2: spans over a prime, echelons (plain Lean). -/
namespace Bw
noncomputable abbrev Fn := Nat → Int
noncomputable def eqm (p : Int) (u v : Fn) : Prop := ∀ j, p ∣ u j - v j
theorem dvd_mod (p a : Int) : p ∣ a % p - a := ⟨-(a / p), by
  have := Int.emod_add_mul_ediv a p
  rw [Int.mul_neg]
  omega⟩
/-- what vectors span -/
inductive Sp (p : Int) (R : Fn → Prop) : Fn → Prop
  | zero : Sp p R (fun _ => 0)
  | add {v r : Fn} (c : Int) : Sp p R v → R r → Sp p R (fun j => v j + c * r j)
  | cong {u v : Fn} : Sp p R v → eqm p v u → Sp p R u
section
variable {p : Int} {R R' : Fn → Prop}
theorem Sp.of_eq {u v : Fn} (h : Sp p R v) (e : ∀ j, v j = u j) : Sp p R u := .cong h fun j => ⟨0, by rw [e j]; omega⟩
theorem Sp.mem {r : Fn} (h : R r) : Sp p R r := (Sp.add 1 .zero h).of_eq fun j => by omega
theorem Sp.plus {u v : Fn} (c : Int) (hu : Sp p R u) (hv : Sp p R v) : Sp p R (fun j => u j + c * v j) := by
  induction hv with
  | zero => exact hu.of_eq fun j => by simp
  | @add v r d _ hr ih => exact (Sp.add (c * d) ih hr).of_eq fun j => by rw [Int.mul_add, ← Int.add_assoc, Int.mul_assoc]
  | @cong w v _ e ih =>
    refine .cong ih fun j => ?_
    have : p ∣ c * (v j - w j) := Int.dvd_mul_of_dvd_right (e j)
    rw [Int.mul_sub] at this
    rwa [show u j + c * v j - (u j + c * w j) = c * v j - c * w j by omega]
theorem Sp.trans {v : Fn} (h : ∀ r, R r → Sp p R' r) (hv : Sp p R v) : Sp p R' v := by
  induction hv with
  | zero => exact .zero
  | add c _ hr ih => exact ih.plus c (h _ hr)
  | cong _ e ih => exact .cong ih e
end
/-- a row as a vector -/
noncomputable def fn (r : List Int) : Fn := fun j => r.getD j 0
noncomputable def RS (L : List (List Int)) : Fn → Prop := fun f => ∃ r ∈ L, f = fn r
/-- rows of numbers of p -/
noncomputable def Rw (p : Int) (n : Nat) (r : List Int) : Prop := r.length = n ∧ ∀ x ∈ r, 0 ≤ x ∧ x < p
noncomputable def Rws (p : Int) (n : Nat) (L : List (List Int)) : Prop := ∀ r ∈ L, Rw p n r
theorem Rw.at {p : Int} {n : Nat} {r : List Int} (hp : 0 < p) (h : Rw p n r) (j : Nat) : 0 ≤ r.getD j 0 ∧ r.getD j 0 < p := by
  rw [List.getD_eq_getElem?_getD (i := j)]
  by_cases hj : j < r.length
  · rw [List.getElem?_eq_getElem hj]; exact h.2 _ (List.getElem_mem hj)
  · rw [List.getElem?_eq_none (by omega)]; exact ⟨Int.le_refl 0, hp⟩
theorem Rw.out {p : Int} {n : Nat} {r : List Int} (h : Rw p n r) {j : Nat} (hj : n ≤ j) : r.getD j 0 = 0 := by
  rw [List.getD_eq_getElem?_getD, List.getElem?_eq_none (by rw [h.1]; exact hj)]; rfl
/-! ### adding a row -/
theorem addM_at {p : Int} {n : Nat} {r o : List Int} (f : Int) (hr : r.length = n) (ho : o.length = n) (j : Nat) : (addM p r f o).getD j 0 = if j < n then (r.getD j 0 + f * o.getD j 0) % p else 0 := by
  by_cases hj : j < n
  · rw [if_pos hj]
    have h1 : j < r.length := by omega
    have h2 : j < o.length := by omega
    have h3 : j < (addM p r f o).length := by simp [addM]; omega
    rw [List.getD_eq_getElem?_getD, List.getElem?_eq_getElem h3, List.getD_eq_getElem?_getD, List.getElem?_eq_getElem h1, List.getD_eq_getElem?_getD, List.getElem?_eq_getElem h2]
    simp [addM]
  · rw [if_neg hj, List.getD_eq_getElem?_getD, List.getElem?_eq_none (by simp [addM]; omega)]; rfl
theorem addM_Rw {p : Int} {n : Nat} {r o : List Int} (f : Int) (hp : 0 < p) (hr : r.length = n) (ho : o.length = n) : Rw p n (addM p r f o) := by
  refine ⟨by simp [addM]; omega, fun x hx => ?_⟩
  obtain ⟨i, hi, rfl⟩ := List.mem_iff_getElem.mp hx
  simp only [addM, List.getElem_zipWith]
  exact ⟨Int.emod_nonneg _ (show p ≠ 0 by omega), Int.emod_lt_of_pos _ hp⟩
theorem addM_eqm {p : Int} {n : Nat} {r o : List Int} (f : Int) (hr : r.length = n) (ho : o.length = n) : eqm p (fun j => fn r j + f * fn o j) (fn (addM p r f o)) := fun j => by
  show p ∣ r.getD j 0 + f * o.getD j 0 - (addM p r f o).getD j 0
  rw [addM_at f hr ho]
  by_cases hj : j < n
  · rw [if_pos hj]
    have := Int.dvd_neg.mpr (dvd_mod p (r.getD j 0 + f * o.getD j 0))
    rwa [show -((r.getD j 0 + f * o.getD j 0) % p - (r.getD j 0 + f * o.getD j 0)) = r.getD j 0 + f * o.getD j 0 - (r.getD j 0 + f * o.getD j 0) % p by omega] at this
  · rw [if_neg hj]
    have e1 : r.getD j 0 = 0 := by rw [List.getD_eq_getElem?_getD, List.getElem?_eq_none (by omega)]; rfl
    have e2 : o.getD j 0 = 0 := by rw [List.getD_eq_getElem?_getD, List.getElem?_eq_none (by omega)]; rfl
    rw [e1, e2]
    exact ⟨0, by simp⟩
/-- the program's cleared -/
noncomputable def clearM (p : Int) (lead : List Int) (place : Nat) (row : List Int) : List Int := if row.getD place 0 ≠ 0 then addM p row (-(row.getD place 0)) lead else row
section
variable {p : Int} {n place : Nat} {lead row : List Int}
theorem clearM_Rw (hp : 0 < p) (hl : Rw p n lead) (hr : Rw p n row) : Rw p n (clearM p lead place row) := by
  unfold clearM; split
  · exact addM_Rw _ hp hr.1 hl.1
  · exact hr
theorem clearM_eqm (hl : Rw p n lead) (hr : Rw p n row) : eqm p (fun j => fn row j + -(row.getD place 0) * fn lead j) (fn (clearM p lead place row)) := by
  unfold clearM; split
  · exact addM_eqm _ hr.1 hl.1
  · rename_i h
    have h0 : row.getD place 0 = 0 := by simpa using h
    rw [h0]
    intro j
    exact ⟨0, by simp⟩
theorem clearM_at (hl : Rw p n lead) (hr : Rw p n row) {j : Nat} (hj : lead.getD j 0 = 0) (hp : 0 < p) : (clearM p lead place row).getD j 0 = row.getD j 0 := by
  unfold clearM; split
  · rw [addM_at _ hr.1 hl.1, hj, Int.mul_zero, Int.add_zero]
    by_cases h : j < n
    · rw [if_pos h]; exact Int.emod_eq_of_lt (hr.at hp j).1 (hr.at hp j).2
    · rw [if_neg h, hr.out (by omega)]
  · rfl
theorem clearM_place (hl : Rw p n lead) (hr : Rw p n row) (h1 : lead.getD place 0 = 1) : (clearM p lead place row).getD place 0 = 0 := by
  unfold clearM; split
  · rw [addM_at _ hr.1 hl.1, h1]
    split
    · rw [Int.mul_one, show row.getD place 0 + -(row.getD place 0) = 0 by omega]; exact Int.zero_emod p
    · rfl
  · rename_i h
    simpa using h
end
/-! ### the program's reduced -/
noncomputable def leadM (p : Int) (n : Nat) (h : List Int) (place : Nat) : List Int := sumM p [(h, turnM p (h.getD place 0))] (List.replicate n 0)
noncomputable def stepM (p : Int) (n : Nat) (st : List (List Int) × List (List Int)) (place : Nat) : List (List Int) × List (List Int) :=
  match st.2.filter fun r => r.getD place 0 ≠ 0 with
  | [] => st
  | h :: _ => (st.1.map (clearM p (leadM p n h place) place) ++ [leadM p n h place], st.2.map (clearM p (leadM p n h place) place))
noncomputable def redI (p : Int) (n : Nat) (L : List (List Int)) : Nat → List (List Int) × List (List Int)
  | 0 => ([], L)
  | k + 1 => stepM p n (redI p n L k) k
noncomputable def lenM (L : List (List Int)) : Nat := (L.head?.map List.length).getD 0
noncomputable def redM (p : Int) (L : List (List Int)) : List (List Int) := (redI p (lenM L) L (lenM L)).1
/-- an echelon: each row with its lead -/
structure Ech (n k : Nat) (D : List (List Int)) (ls : List Nat) : Prop where
  len : ls.length = D.length
  up : ls.Pairwise (· < ·)
  lt : ∀ l ∈ ls, l < k
  one : ∀ (i : Nat) (r : List Int) (l : Nat), D[i]? = some r → ls[i]? = some l → r.getD l 0 = 1 ∧ ∀ j, j < l → r.getD j 0 = 0
  alone : ∀ (i i' : Nat) (r : List Int) (l : Nat), i ≠ i' → D[i']? = some r → ls[i]? = some l → r.getD l 0 = 0
theorem leadM_at {p : Int} {n place : Nat} {h : List Int} (hh : Rw p n h) (j : Nat) : (leadM p n h place).getD j 0 = if j < n then h.getD j 0 * turnM p (h.getD place 0) % p else 0 := by
  unfold leadM
  rw [sumM_zero _ (fun q hq => by rw [List.mem_singleton.mp hq]; exact hh.1)]
  by_cases hj : j < n
  · rw [if_pos hj]; simp [List.getD_eq_getElem?_getD, hj, colS]
  · rw [if_neg hj]; simp [List.getD_eq_getElem?_getD, hj]
theorem leadM_Rw {p : Int} {n place : Nat} {h : List Int} (hp : 0 < p) (hh : Rw p n h) : Rw p n (leadM p n h place) := by
  unfold leadM
  rw [sumM_zero _ (fun q hq => by rw [List.mem_singleton.mp hq]; exact hh.1)]
  refine ⟨by simp, fun x hx => ?_⟩
  obtain ⟨j, _, rfl⟩ := List.mem_map.mp hx
  exact ⟨Int.emod_nonneg _ (show p ≠ 0 by omega), Int.emod_lt_of_pos _ hp⟩
theorem leadM_eqm {p : Int} {n place : Nat} {h : List Int} (hh : Rw p n h) : eqm p (fun j => turnM p (h.getD place 0) * fn h j) (fn (leadM p n h place)) := fun j => by
  show p ∣ turnM p (h.getD place 0) * h.getD j 0 - (leadM p n h place).getD j 0
  rw [leadM_at hh, Int.mul_comm]
  by_cases hj : j < n
  · rw [if_pos hj]
    have := Int.dvd_neg.mpr (dvd_mod p (h.getD j 0 * turnM p (h.getD place 0)))
    rwa [show -(h.getD j 0 * turnM p (h.getD place 0) % p - h.getD j 0 * turnM p (h.getD place 0)) = h.getD j 0 * turnM p (h.getD place 0) - h.getD j 0 * turnM p (h.getD place 0) % p by omega] at this
  · rw [if_neg hj, hh.out (by omega)]; exact ⟨0, by simp⟩
structure RedOk (p : Int) (n : Nat) (L : List (List Int)) (k : Nat) (st : List (List Int) × List (List Int)) : Prop where
  d : Rws p n st.1
  r : Rws p n st.2
  z : ∀ r ∈ st.2, ∀ j, j < k → r.getD j 0 = 0
  ech : ∃ ls, Ech n k st.1 ls
  sub : ∀ r ∈ st.1 ++ st.2, Sp p (RS L) (fn r)
  sup : ∀ r ∈ L, Sp p (RS (st.1 ++ st.2)) (fn r)
theorem step_ok {p : Int} {n k : Nat} {L : List (List Int)} {st : List (List Int) × List (List Int)} (hp : p ∈ primesL) (hk : k + 1 ≤ n) (I : RedOk p n L k st) : RedOk p n L (k + 1) (stepM p n st k) := by
    have p0 : 0 < p := by have := prime_pos p hp; omega
    obtain ⟨D, T⟩ := st
    unfold stepM
    dsimp only
    cases hf : T.filter fun r => r.getD k 0 ≠ 0 with
    | nil =>
      dsimp only
      obtain ⟨ls, E⟩ := I.ech
      refine ⟨I.d, I.r, fun r hr j hj => ?_, ⟨ls, E.len, E.up, fun l hl => Nat.lt_succ_of_lt (E.lt l hl), E.one, E.alone⟩, I.sub, I.sup⟩
      by_cases hjk : j < k
      · exact I.z r hr j hjk
      · have ej : j = k := by omega
        subst ej
        by_cases h0 : r.getD j 0 = 0
        · exact h0
        · have : r ∈ T.filter fun r => r.getD j 0 ≠ 0 := List.mem_filter.mpr ⟨hr, by simpa using h0⟩
          rw [hf] at this; cases this
    | cons h rest =>
      dsimp only
      have hm : h ∈ T.filter fun r => r.getD k 0 ≠ 0 := by rw [hf]; exact List.mem_cons_self
      obtain ⟨hT, hk0⟩ := List.mem_filter.mp hm
      have hk0' : h.getD k 0 ≠ 0 := by simpa using hk0
      have hh := I.r h hT
      have hlR : Rw p n (leadM p n h k) := leadM_Rw p0 hh
      have hb := hh.at p0 k
      obtain ⟨t1, t2, t3⟩ := turn_ok hp (show 1 ≤ h.getD k 0 by omega) hb.2
      have l1 : (leadM p n h k).getD k 0 = 1 := by rw [leadM_at hh, if_pos (by omega), Int.mul_comm]; exact t3
      have l0 : ∀ j, j < k → (leadM p n h k).getD j 0 = 0 := fun j hj => by
        rw [leadM_at hh, I.z h hT j hj, Int.zero_mul]; split
        · exact Int.zero_emod p
        · rfl
      have hlS : ∀ {Q : Fn → Prop}, Sp p Q (fn h) → Sp p Q (fn (leadM p n h k)) := fun q => .cong (((Sp.zero).plus (turnM p (h.getD k 0)) q).of_eq fun j => by rw [Int.zero_add]) (leadM_eqm hh)
      have hhS : ∀ {Q : Fn → Prop}, Sp p Q (fn (leadM p n h k)) → Sp p Q (fn h) := fun {Q} q => by
        refine .cong (((Sp.zero).plus (h.getD k 0) q)) fun j => ?_
        rw [Int.zero_add]
        show p ∣ h.getD k 0 * (leadM p n h k).getD j 0 - h.getD j 0
        have a := leadM_eqm (place := k) hh j
        have a' : p ∣ h.getD k 0 * (turnM p (h.getD k 0) * fn h j - fn (leadM p n h k) j) := Int.dvd_mul_of_dvd_right a
        rw [Int.mul_sub] at a'
        have t4 : p ∣ turnM p (h.getD k 0) * h.getD k 0 - 1 := by
          have z := Int.dvd_neg.mpr (dvd_mod p (turnM p (h.getD k 0) * h.getD k 0))
          rw [t3] at z
          rwa [show -(1 - turnM p (h.getD k 0) * h.getD k 0) = turnM p (h.getD k 0) * h.getD k 0 - 1 by omega] at z
        have b : p ∣ h.getD j 0 * (turnM p (h.getD k 0) * h.getD k 0 - 1) := Int.dvd_mul_of_dvd_right t4
        have c := Int.dvd_sub b a'
        have e : h.getD j 0 * (turnM p (h.getD k 0) * h.getD k 0 - 1) - (h.getD k 0 * (turnM p (h.getD k 0) * fn h j) - h.getD k 0 * fn (leadM p n h k) j) = h.getD k 0 * (leadM p n h k).getD j 0 - h.getD j 0 := by
          show h.getD j 0 * (turnM p (h.getD k 0) * h.getD k 0 - 1) - (h.getD k 0 * (turnM p (h.getD k 0) * h.getD j 0) - h.getD k 0 * (leadM p n h k).getD j 0) = _
          rw [Int.mul_sub, Int.mul_one, Int.mul_left_comm (h.getD k 0), Int.mul_comm (h.getD j 0) (turnM p (h.getD k 0) * h.getD k 0), Int.mul_assoc]
          omega
        rwa [e] at c
      generalize leadM p n h k = lead at hlR l1 l0 hlS hhS ⊢
      obtain ⟨ls, E⟩ := I.ech
      have elen : ls.length = D.length := E.len
      have hD : ∀ r ∈ D, Rw p n r := I.d
      have hTr : ∀ r ∈ T, Rw p n r := I.r
      have spT : Sp p (RS L) (fn h) := I.sub h (List.mem_append_right _ hT)
      have spL := hlS spT
      have clS : ∀ {Q : Fn → Prop} {r : List Int}, Rw p n r → Sp p Q (fn r) → Sp p Q (fn lead) → Sp p Q (fn (clearM p lead k r)) := fun hr a b => .cong (a.plus _ b) (clearM_eqm hlR hr)
      have unS : ∀ {Q : Fn → Prop} {r : List Int}, Rw p n r → Sp p Q (fn (clearM p lead k r)) → Sp p Q (fn lead) → Sp p Q (fn r) := fun {Q r} hr a b => by
        refine .cong (a.plus (r.getD k 0) b) fun j => ?_
        have q := (clearM_eqm (place := k) hlR hr j)
        have q' := Int.dvd_neg.mpr q
        rwa [show -(fn r j + -(r.getD k 0) * fn lead j - fn (clearM p lead k r) j) = fn (clearM p lead k r) j + r.getD k 0 * fn lead j - fn r j by rw [Int.neg_mul]; omega] at q'
      refine ⟨fun r hr => ?_, fun r hr => ?_, fun r hr j hj => ?_, ⟨ls ++ [k], ?_, ?_, ?_, ?_, ?_⟩, fun r hr => ?_, fun r hr => ?_⟩
      · rcases (List.mem_append.mp hr) with (hr | hr)
        · obtain ⟨r0, h0, rfl⟩ := List.mem_map.mp hr
          exact clearM_Rw p0 hlR (hD r0 h0)
        · rw [List.mem_singleton.mp hr]; exact hlR
      · obtain ⟨r0, h0, rfl⟩ := List.mem_map.mp hr
        exact clearM_Rw p0 hlR (hTr r0 h0)
      · obtain ⟨r0, h0, rfl⟩ := List.mem_map.mp hr
        by_cases hjk : j < k
        · rw [clearM_at hlR (hTr r0 h0) (l0 j hjk) p0]; exact I.z r0 h0 j hjk
        · have ej : j = k := by omega
          subst ej
          exact clearM_place hlR (hTr r0 h0) l1
      · simp [E.len]
      · refine List.pairwise_append.mpr ⟨E.up, by simp, fun a ha b hb => ?_⟩
        rw [List.mem_singleton.mp hb]; exact E.lt a ha
      · intro l hl
        rcases (List.mem_append.mp hl) with (hl | hl)
        · exact Nat.lt_succ_of_lt (E.lt l hl)
        · rw [List.mem_singleton.mp hl]; exact Nat.lt_succ_self k
      · intro i r l hr hl
        by_cases hi : i < D.length
        · rw [List.getElem?_append_left (by simpa using hi), List.getElem?_map, List.getElem?_eq_getElem hi] at hr
          rw [List.getElem?_append_left (by rw [elen]; exact hi)] at hl
          cases hr
          have hlk : l < k := E.lt l (List.mem_of_getElem? hl)
          obtain ⟨o1, o2⟩ := E.one i _ l (List.getElem?_eq_getElem hi) hl
          have rD := hD _ (List.getElem_mem hi)
          refine ⟨by rw [clearM_at hlR rD (l0 l hlk) p0]; exact o1, fun j hj => ?_⟩
          rw [clearM_at hlR rD (l0 j (by omega)) p0]; exact o2 j hj
        · rw [List.getElem?_append_right (by simpa using hi), List.length_map] at hr
          rw [List.getElem?_append_right (by omega), elen] at hl
          have e0 : i - D.length = 0 := by
            have := (List.getElem?_eq_some_iff.mp hr).1
            simp at this; omega
          rw [e0] at hr hl
          simp at hr hl
          subst hr hl
          exact ⟨l1, l0⟩
      · intro i i' r l hne hr hl
        by_cases hi : i < ls.length
        · rw [List.getElem?_append_left hi] at hl
          have hlk : l < k := E.lt l (List.mem_of_getElem? hl)
          by_cases hi' : i' < D.length
          · rw [List.getElem?_append_left (by simpa using hi'), List.getElem?_map, List.getElem?_eq_getElem hi'] at hr
            cases hr
            rw [clearM_at hlR (hD _ (List.getElem_mem hi')) (l0 l hlk) p0]
            exact E.alone i i' _ l hne (List.getElem?_eq_getElem hi') hl
          · rw [List.getElem?_append_right (by simpa using hi'), List.length_map] at hr
            have e0 : i' - D.length = 0 := by
              have := (List.getElem?_eq_some_iff.mp hr).1
              simp at this; omega
            rw [e0] at hr
            simp at hr
            subst hr
            exact l0 l hlk
        · rw [List.getElem?_append_right (by omega)] at hl
          have e0 : i - ls.length = 0 := by
            have := (List.getElem?_eq_some_iff.mp hl).1
            simp at this; omega
          rw [e0] at hl
          simp at hl
          subst hl
          by_cases hi' : i' < D.length
          · rw [List.getElem?_append_left (by simpa using hi'), List.getElem?_map, List.getElem?_eq_getElem hi'] at hr
            cases hr
            exact clearM_place hlR (hD _ (List.getElem_mem hi')) l1
          · rw [List.getElem?_append_right (by simpa using hi'), List.length_map] at hr
            have e1 : i' - D.length = 0 := by
              have := (List.getElem?_eq_some_iff.mp hr).1
              simp at this; omega
            omega
      · rcases (List.mem_append.mp hr) with (hr | hr)
        · rcases (List.mem_append.mp hr) with (hr | hr)
          · obtain ⟨r0, h0, rfl⟩ := List.mem_map.mp hr
            exact clS (hD r0 h0) (I.sub r0 (List.mem_append_left _ h0)) spL
          · rw [List.mem_singleton.mp hr]; exact spL
        · obtain ⟨r0, h0, rfl⟩ := List.mem_map.mp hr
          exact clS (hTr r0 h0) (I.sub r0 (List.mem_append_right _ h0)) spL
      · refine Sp.trans (fun f hf => ?_) (I.sup r hr)
        obtain ⟨r0, h0, rfl⟩ := hf
        have hL1 : Sp p (RS (D.map (clearM p lead k) ++ [lead] ++ T.map (clearM p lead k))) (fn lead) := .mem ⟨lead, by simp, rfl⟩
        rcases (List.mem_append.mp h0) with (h0 | h0)
        · exact unS (hD r0 h0) (.mem ⟨_, by simp; exact .inl ⟨r0, h0, rfl⟩, rfl⟩) hL1
        · exact unS (hTr r0 h0) (.mem ⟨_, by simp; exact .inr (.inr ⟨r0, h0, rfl⟩), rfl⟩) hL1

theorem redI_ok {p : Int} {n : Nat} {L : List (List Int)} (hp : p ∈ primesL) (hL : Rws p n L) : ∀ k, k ≤ n → RedOk p n L k (redI p n L k)
  | 0, _ => ⟨fun r hr => absurd hr (by simp [redI]), by simpa [redI] using hL, fun r _ j hj => absurd hj (by omega), ⟨[], by simp [redI], .nil, by simp, by simp [redI], by simp⟩,
      fun r hr => .mem ⟨r, by simpa [redI] using hr, rfl⟩, fun r hr => .mem ⟨r, by simpa [redI] using hr, rfl⟩⟩
  | k + 1, hk => step_ok hp hk (redI_ok hp hL k (by omega))
/-! ### coefficients -/
end Bw
/-! THE MATHEMATICS 3: the reduced list is one; a list kept by first places. -/
namespace Bw
theorem fn_zero {p : Int} {n : Nat} {r : List Int} (h : Rw p n r) (hz : ∀ j, j < n → r.getD j 0 = 0) (j : Nat) : fn r j = 0 := by
  by_cases hj : j < n
  · exact hz j hj
  · exact h.out (by omega)
/-- what the program's reduced list is -/
structure Redu (p : Int) (n : Nat) (L D : List (List Int)) : Prop where
  rws : Rws p n D
  ech : ∃ ls, Ech n n D ls
  sub : ∀ r ∈ D, Sp p (RS L) (fn r)
  sup : ∀ r ∈ L, Sp p (RS D) (fn r)
theorem lenM_eq {p : Int} {n : Nat} {L : List (List Int)} (h : Rws p n L) (hne : L ≠ []) : lenM L = n := by
  cases L with
  | nil => exact absurd rfl hne
  | cons r L => exact (h r List.mem_cons_self).1
theorem redM_ok {p : Int} {n : Nat} {L : List (List Int)} (hp : p ∈ primesL) (hL : Rws p n L) : Redu p n L (redM p L) := by
  by_cases hne : L = []
  · subst hne
    exact ⟨fun r hr => absurd hr (by simp [redM, lenM, redI]), ⟨[], by simp [redM, lenM, redI], .nil, by simp, by simp, by simp⟩, fun r hr => absurd hr (by simp [redM, lenM, redI]), fun r hr => absurd hr (by simp)⟩
  · unfold redM
    rw [lenM_eq hL hne]
    have I := redI_ok hp hL n (Nat.le_refl n)
    generalize redI p n L n = st at I
    refine ⟨I.d, I.ech, fun r hr => I.sub r (List.mem_append_left _ hr), fun r hr => (I.sup r hr).trans fun f hf => ?_⟩
    obtain ⟨r0, h0, rfl⟩ := hf
    rcases (List.mem_append.mp h0) with (h0 | h0)
    · exact .mem ⟨r0, h0, rfl⟩
    · exact (Sp.zero).of_eq fun j => (fn_zero (I.r r0 h0) (I.z r0 h0) j).symm
/-! ### rows kept by their first places -/
end Bw
/-! rows kept: one more; what a list of places and of leads tells -/
namespace Bw
end Bw
/-! factors: products with the rows of a list and with those of its span -/
namespace Bw
/-- factors, then -1 -/
noncomputable def hat (f : Fn) (c : Nat) : Fn := fun i => if i = c then -1 else f i
end Bw
/-! the factors, one by one; the asked rows -/
namespace Bw
end Bw
/-! sums of rows and factors: both ways -/
namespace Bw
/-- the numbers of the rows at a place -/
noncomputable def col (rs : List (List Int)) (j : Nat) : Fn := fn (rs.map fun q => q.getD j 0)
end Bw
/-! families in steps: how many there can be; the rows that are barred -/
namespace Bw
/-! ### a barred row -/
end Bw
/-! the law's own rank: rows taken from behind, by their last places -/
namespace Bw
end Bw
/-! the barred rows as they are made -/
namespace Bw
section
variable {p : Int} {n : Nat} {D : List (List Int)} {ls : List Nat}
end
end Bw
namespace L2
open PySem Bw
/-! ### a list of rows that are lists, each at an address that N allows -/
section
variable {N : Addr → Prop} {H H' : Hp} {LS : List V} {L : List (List Int)} {l a : Addr} {o : HO} {r : List Int}
end
end L2
namespace L2
open PySem PySem.Spec PyProof.Rows
set_option maxRecDepth 100000
/-! ### xs.insert(k, y) -/
end L2
namespace L2
open PySem Bw
/-! ### lists of rows: more -/
end L2
set_option linter.all false
set_option maxRecDepth 100000
namespace L2
open PySem PySem.Spec PyProof.Rows

/-! ### lists of pairs as tables -/
section
variable {κ : Type} [DecidableEq κ]
noncomputable def valV (kvs : List (κ × V)) (k : κ) : Option V := (kvs.find? fun kv => decide (kv.1 = k)).map (·.2)
/-- in its place, or at the end -/
noncomputable def putK (kvs : List (κ × V)) (k : κ) (v : V) : List (κ × V) :=
  if (kvs.any fun kv => decide (kv.1 = k)) = true then kvs.map (fun kv => if kv.1 = k then (kv.1, v) else kv) else kvs ++ [(k, v)]
theorem valV_pos {p : κ × V} {r : List (κ × V)} {k : κ} (e : p.1 = k) : valV (p :: r) k = some p.2 := by simp [valV, List.find?_cons, e]
theorem valV_neg {p : κ × V} {r : List (κ × V)} {k : κ} (e : ¬ p.1 = k) : valV (p :: r) k = valV r k := by simp [valV, List.find?_cons, e]
theorem valV_any (k : κ) : ∀ kvs : List (κ × V), (kvs.any fun kv => decide (kv.1 = k)) = (valV kvs k).isSome
  | [] => rfl
  | p :: r => by
    rw [List.any_cons]
    by_cases e : p.1 = k
    · simp only [valV_pos e, decide_eq_true e, Bool.true_or, Option.isSome_some]
    · rw [valV_neg e, decide_eq_false e, Bool.false_or]; exact valV_any k r
theorem valV_map (k j : κ) (y : V) : ∀ kvs : List (κ × V), valV (kvs.map fun kv => if kv.1 = k then (kv.1, y) else kv) j = (valV kvs j).map fun x => if j = k then y else x
  | [] => rfl
  | p :: r => by
    have ih := valV_map k j y r
    rw [List.map_cons]
    by_cases h : p.1 = k
    · rw [if_pos h]
      by_cases e : p.1 = j
      · rw [valV_pos (p := (p.1, y)) e, valV_pos e, Option.map_some, if_pos (e.symm.trans h)]
      · rw [valV_neg (p := (p.1, y)) e, valV_neg e, ih]
    · rw [if_neg h]
      by_cases e : p.1 = j
      · rw [valV_pos (p := p) e, valV_pos e, Option.map_some, if_neg (fun z => h (e.trans z))]
      · rw [valV_neg (p := p) e, valV_neg e, ih]
theorem valV_snoc (k j : κ) (y : V) : ∀ kvs : List (κ × V), valV kvs k = none → valV (kvs ++ [(k, y)]) j = if j = k then some y else valV kvs j
  | [], _ => by
    by_cases e : k = j
    · rw [if_pos e.symm]; exact valV_pos (p := (k, y)) e
    · rw [if_neg (fun z => e z.symm)]; exact valV_neg (p := (k, y)) e
  | p :: r, hn => by
    rw [List.cons_append]
    have hk : ¬ p.1 = k := fun z => by rw [valV_pos z] at hn; cases hn
    rw [valV_neg hk] at hn
    have ih := valV_snoc k j y r hn
    by_cases e : p.1 = j
    · rw [valV_pos e, valV_pos e, if_neg (fun z => hk (e.trans z))]
    · rw [valV_neg e, valV_neg e, ih]
theorem valV_put (kvs : List (κ × V)) (k j : κ) (y : V) : valV (putK kvs k y) j = if j = k then some y else valV kvs j := by
  unfold putK
  by_cases a : (kvs.any fun kv => decide (kv.1 = k)) = true
  · rw [if_pos a, valV_map]
    rw [valV_any] at a
    by_cases e : j = k
    · obtain ⟨x, hx⟩ := Option.isSome_iff_exists.mp a
      rw [if_pos e, e, hx, Option.map_some, if_pos rfl]
    · rw [if_neg e]
      cases valV kvs j with
      | none => rfl
      | some x => rw [Option.map_some, if_neg e]
  · rw [if_neg a]
    refine valV_snoc k j y kvs ?_
    rw [valV_any] at a
    cases q : valV kvs k with
    | none => rfl
    | some x => rw [q] at a; exact (a rfl).elim
theorem length_putK (kvs : List (κ × V)) (k : κ) (v : V) : (putK kvs k v).length ≤ kvs.length + 1 := by
  unfold putK
  split
  · rw [List.length_map]; omega
  · rw [List.length_append, List.length_cons, List.length_nil]; omega
theorem putK_new {kvs : List (κ × V)} {k : κ} (v : V) (h : valV kvs k = none) : putK kvs k v = kvs ++ [(k, v)] := by
  unfold putK
  rw [valV_any, h]
  exact if_neg (by decide)

theorem RelO.isSome_eq {o : Option V} {u : Option Value} (r : RelO o u) : o.isSome = u.isSome := by
  cases o with
  | none => cases u with
    | none => rfl
    | some _ => exact (show False from r).elim
  | some _ => cases u with
    | none => exact (show False from r).elim
    | some _ => rfl
theorem RelO.getD {o : Option V} {u : Option Value} {d : V} {d' : Value} (r : RelO o u) (rd : RelV d d') : RelV (o.getD d) (u.getD d') := by
  cases o with
  | none => cases u with
    | none => exact rd
    | some _ => exact (show False from r).elim
  | some _ => cases u with
    | none => exact (show False from r).elim
    | some _ => exact r

/-- raw tables of the same keys -/
theorem KV.val {kvs : List (κ × V)} {vs : List (κ × Value)} (r : KV kvs vs) (k : κ) : RelO (valV kvs k) (valueAt vs k) := by
  unfold KV at r
  induction r with
  | nil => exact True.intro
  | @cons p q ps qs h t ih =>
    obtain ⟨h1, h2⟩ := h
    by_cases e : p.1 = k
    · have e' : q.1 = k := h1.symm.trans e
      have b : valueAt (q :: qs) k = some q.2 := by simp [valueAt, List.find?_cons, e']
      rw [valV_pos e, b]; exact h2
    · have e' : ¬ q.1 = k := fun z => e (h1.trans z)
      have b : valueAt (q :: qs) k = valueAt qs k := by simp [valueAt, List.find?_cons, e']
      rw [valV_neg e, b]; exact ih
theorem KV.any {kvs : List (κ × V)} {vs : List (κ × Value)} (r : KV kvs vs) (k : κ) : (kvs.any fun kv => decide (kv.1 = k)) = vs.any fun kv => decide (kv.1 = k) := by
  unfold KV at r
  induction r with
  | nil => rfl
  | cons h t ih => rw [List.any_cons, List.any_cons, ih, h.1]
theorem KV.repl {kvs : List (κ × V)} {vs : List (κ × Value)} (r : KV kvs vs) (k : κ) {y : V} {u : Value} (ry : RelV y u) :
    KV (kvs.map fun kv => if kv.1 = k then (kv.1, y) else kv) (vs.map fun kv => if kv.1 = k then (kv.1, u) else kv) := by
  unfold KV at r ⊢
  induction r with
  | nil => exact .nil
  | @cons p q ps qs h t ih =>
    rw [List.map_cons, List.map_cons]
    refine .cons ?_ ih
    obtain ⟨h1, h2⟩ := h
    by_cases e : p.1 = k
    · rw [if_pos e, if_pos (h1.symm.trans e)]; exact ⟨h1, ry⟩
    · rw [if_neg e, if_neg (fun z => e (h1.trans z))]; exact ⟨h1, h2⟩
theorem KV.put {kvs : List (κ × V)} {vs : List (κ × Value)} (r : KV kvs vs) (k : κ) {y : V} {u : Value} (ry : RelV y u) : KV (putK kvs k y) (stored vs k u) := by
  unfold putK stored
  rw [r.any k]
  by_cases e : (vs.any fun kv => decide (kv.1 = k)) = true
  · rw [if_pos e, if_pos e]; exact r.repl k ry
  · rw [if_neg e, if_neg e]; exact Paired.snoc r ⟨rfl, ry⟩
theorem KV.length {kvs : List (κ × V)} {vs : List (κ × Value)} (r : KV kvs vs) : kvs.length = vs.length := Paired.length r
end

/-! ### a tracked dict, its keys ints and texts or tuples of these -/
theorem kV_is {P : Program} {w : World} {k : Key} {u : Value} (r : RelV (kV k) u) : (mixKind P w).is k u = true := by
  cases k with
  | inl i => obtain ⟨t, e⟩ := (show ∃ t, u = Value.int i t from r); subst e; exact mixKind_int P w i t
  | inr x => obtain ⟨t, e⟩ := (show ∃ t, u = Value.str x t from r); subst e; exact mixKind_str P w x t
theorem items_are {P : Program} {w : World} : ∀ {ks : List Key} {us : List Value}, Vals (ks.map kV) us → ItemsAre (mixKind P w) ks us
  | [], _, r => by rw [List.map_nil] at r; cases r; exact .nil
  | k :: ks, _, r => by
    rw [List.map_cons] at r
    cases r with
    | cons h t => exact .cons (kV_is h) (items_are t)

/-- raw entries of a dict with tuple keys -/
noncomputable abbrev KT (H : Hp) : List (List Key × V) → List (List Key × Addr × Value) → Prop := Paired fun p q => p.1 = q.1 ∧ H q.2.1 = some (.tup (p.1.map kV)) ∧ RelV p.2 q.2.2
theorem KT.val {H : Hp} {kvs : List (List Key × V)} {xs : List (List Key × Addr × Value)} (r : KT H kvs xs) (k : List Key) : RelO (valV kvs k) ((atKey xs k).map (·.2)) := by
  induction r with
  | nil => exact True.intro
  | @cons p q ps qs h t ih =>
    obtain ⟨h1, _, h2⟩ := h
    by_cases e : p.1 = k
    · have e' : q.1 = k := h1.symm.trans e
      have b : atKey (q :: qs) k = some q.2 := by simp [atKey, List.find?_cons, e']
      rw [valV_pos e, b]; exact h2
    · have e' : ¬ q.1 = k := fun z => e (h1.trans z)
      have b : atKey (q :: qs) k = atKey qs k := by simp [atKey, List.find?_cons, e']
      rw [valV_neg e, b]; exact ih
theorem KT.repl {H : Hp} {kvs : List (List Key × V)} {xs : List (List Key × Addr × Value)} (r : KT H kvs xs) (k : List Key) {y : V} {u : Value} (ry : RelV y u) :
    KT H (kvs.map fun kv => if kv.1 = k then (kv.1, y) else kv) (xs.map (putAt k u)) := by
  induction r with
  | nil => exact .nil
  | @cons p q ps qs h t ih =>
    rw [List.map_cons, List.map_cons]
    refine .cons ?_ ih
    obtain ⟨h1, h2, h3⟩ := h
    unfold putAt
    by_cases e : p.1 = k
    · rw [if_pos e, if_pos (h1.symm.trans e)]; exact ⟨h1, h2, ry⟩
    · rw [if_neg e, if_neg (fun z => e (h1.trans z))]; exact ⟨h1, h2, h3⟩
theorem KT.put {H : Hp} {kvs : List (List Key × V)} {xs : List (List Key × Addr × Value)} (r : KT H kvs xs) (k : List Key) {b : Addr} {y : V} {u : Value} (hb : H b = some (.tup (k.map kV))) (ry : RelV y u) :
    KT H (putK kvs k y) (storedH xs k b u) := by
  have e : (kvs.any fun kv => decide (kv.1 = k)) = (atKey xs k).isSome := by
    rw [valV_any, (r.val k).isSome_eq, Option.isSome_map]
  unfold putK storedH
  rw [e]
  by_cases q : (atKey xs k).isSome = true
  · rw [if_pos q, if_pos q]; exact r.repl k ry
  · rw [if_neg q, if_neg q]; exact Paired.snoc r ⟨rfl, hb, ry⟩
theorem KT.keeps {H H' : Hp} {kvs : List (List Key × V)} {xs : List (List Key × Addr × Value)} (r : KT H kvs xs) (ht : ∀ b ys, H b = some (.tup ys) → H' b = some (.tup ys)) : KT H' kvs xs :=
  Paired.mapP r fun _ _ z => ⟨z.1, ht _ _ z.2.1, z.2.2⟩

section
variable {P : Program} {w : World} {H : Hp} {h : Heap} {a : Addr}
theorem rd_of {u : HO} (ok : HOk P w H h) (e : Rd H a u) : ObjOk P w H h a u := e.ok ok
theorem dk_rd {kvs : List (Key × V)} (ok : HOk P w H h) (e : Rd H a (.dK kvs)) : kvs.length ≤ sizeLine ∧ (a == sysModules) = false ∧ ∃ vs, KV kvs vs ∧ h.DictOf (mixKind P w) a vs :=
  show ObjOk P w H h a (.dK kvs) from rd_of ok e
theorem dk_of {kvs : List (Key × V)} (ok : HOk P w H h) (e : H a = some (.dK kvs)) : kvs.length ≤ sizeLine ∧ (a == sysModules) = false ∧ ∃ vs, KV kvs vs ∧ h.DictOf (mixKind P w) a vs := dk_rd ok (.inl e)
/-- a tracked tuple of ints and texts is a key -/
theorem key_of {ks : List Key} (ok : HOk P w H h) (e : H a = some (.tup (ks.map kV))) : (tupleKind (mixKind P w)).is h ks a := by
  obtain ⟨_, its, r, o, h1, h2, n, h3⟩ := (show ObjOk P w H h a (.tup (ks.map kV)) from ok a _ e)
  exact ⟨o, its.toArray, n, h1, h2, h3, by simpa using items_are r⟩
theorem dt_rd {kvs : List (List Key × V)} (ok : HOk P w H h) (e : Rd H a (.dT kvs)) : kvs.length ≤ sizeLine ∧ (a == sysModules) = false ∧
    ∃ xs, KT H kvs xs ∧ h.DictOfH (tupleKind (mixKind P w)) a xs := by
  obtain ⟨z, y, xs, r, o, es, ep, h1, h2, h3, h4, h5⟩ := (show ObjOk P w H h a (.dT kvs) from rd_of ok e)
  refine ⟨z, y, xs, r, o, es, ep, h1, h2, h3, h4, fun x hx => ?_, h5⟩
  have all : ∀ {l : List (List Key × V)} {m : List (List Key × Addr × Value)}, KT H l m → ∀ x ∈ m, (tupleKind (mixKind P w)).is h x.1 x.2.1 := by
    intro l m q
    induction q with
    | nil => intro x hx; exact nomatch hx
    | @cons p q ps qs hq t ih =>
      intro x hx
      rcases List.mem_cons.mp hx with e | hx
      · subst e
        exact key_of ok (by rw [← hq.1]; exact hq.2.1)
      · exact ih x hx
  exact all r x hx
theorem dt_of {kvs : List (List Key × V)} (ok : HOk P w H h) (e : H a = some (.dT kvs)) : kvs.length ≤ sizeLine ∧ (a == sysModules) = false ∧
    ∃ xs, KT H kvs xs ∧ h.DictOfH (tupleKind (mixKind P w)) a xs := dt_rd ok (.inl e)
end

/-- what the dict at a holds at the key y -/
noncomputable def DGet (H : Hp) (a : Addr) (y : V) (r : Option V) : Prop :=
  (∃ kvs k, Rd H a (.dK kvs) ∧ y = kV k ∧ r = valV kvs k) ∨ ∃ kvs k b, Rd H a (.dT kvs) ∧ y = .ref b ∧ H b = some (.tup (k.map kV)) ∧ r = valV kvs k
/-- the heap behind a[y] = v -/
noncomputable def DPut (H : Hp) (a : Addr) (y v : V) (H' : Hp) : Prop :=
  (∃ kvs k, H a = some (.dK kvs) ∧ y = kV k ∧ kvs.length < sizeLine ∧ H' = upd H a (.dK (putK kvs k v))) ∨
  ∃ kvs k b, H a = some (.dT kvs) ∧ y = .ref b ∧ H b = some (.tup (k.map kV)) ∧ kvs.length < sizeLine ∧ H' = upd H a (.dT (putK kvs k v))
theorem DGet.k {H : Hp} {a : Addr} {kvs : List (Key × V)} {k : Key} (e : H a = some (.dK kvs)) : DGet H a (kV k) (valV kvs k) := .inl ⟨kvs, k, .inl e, rfl, rfl⟩
theorem DPut.k {H : Hp} {a : Addr} {kvs : List (Key × V)} {k : Key} {v : V} (e : H a = some (.dK kvs)) (hl : kvs.length < sizeLine) : DPut H a (kV k) v (upd H a (.dK (putK kvs k v))) := .inl ⟨kvs, k, e, rfl, hl, rfl⟩
section
variable {X : Cx} {pins : List (Addr × Obj)} {σ : St} {H : Hp} {s : Shared} {a : Addr} {y v : V} {u r : Value} {o : Option V} {A : Around} {E : Value → Shared → Prop}

theorem Inv.big (I : Inv X pins σ H s) : sysModules < s.heap.objs.size := by
  have h : mainGlobals < s.heap.objs.size := (I.mod.glob.keeps I.bk).lt
  exact Nat.lt_trans (by decide) h

/-- d[y], there -/
theorem d_getItem {Q : Value → Shared → Prop} (hu : A.units + 1 < cLine) (I : Inv X pins σ H s) (g : DGet H a y (some v)) (ry : RelV y u) (h : ∀ w' s', Inv X pins σ H s' → RelV v w' → Q w' s') :
    wpAny (model X.prog X.w) A (getItem (.ref a) u) Q E s := by
  rcases g with ⟨kvs, k, e, ey, l⟩ | ⟨kvs, k, b, e, ey, eb, l⟩
  · subst ey
    obtain ⟨z, hd, vs, rel, dd⟩ := dk_rd I.hok e
    obtain ⟨w', hw, rw'⟩ := RelO.some_of (v := v) (o := valueAt vs k) (by rw [l]; exact rel.val k)
    exact wpAny_getItem_of (kV_is ry) dd.mapOf hw (h w' _ (I.tok _) rw')
  · subst ey
    cases (show u = Value.ref b from ry)
    obtain ⟨z, hd, xs, rel, dd⟩ := dt_rd I.hok e
    obtain ⟨w', hw, rw'⟩ := RelO.some_of (v := v) (o := (atKey xs k).map (·.2)) (by rw [l]; exact rel.val k)
    obtain ⟨p, hp, hp2⟩ := Option.map_eq_some_iff.mp hw
    refine wpAny_getItem_heap (tupleKind_room_in1 hu) (key_of I.hok eb) dd hp ?_
    rw [hp2]
    exact h w' _ (I.tok _) rw'
/-- a dict's object is replaced -/
theorem d_write {h' : Heap} {t' : Nat} {ob : HO} (I : Inv X pins σ H s) (mu : Mut (H a)) (hs : Heap.SameBut a s.heap h') (he : ∃ q, h'.get? a = some q) (new : ObjOk X.prog X.w (upd H a ob) h' a ob) :
    Inv X pins σ (upd H a ob) { s with heap := h', toks := t' } :=
  I.write (x := a) (e := a) mu (.inl rfl) (fun b q hb z => (hs.2 b hb).trans z) he new
theorem dk_new {P : Program} {w : World} {H' : Hp} {h' : Heap} {kvs : List (Key × V)} {vs : List (Key × Value)} (z : kvs.length ≤ sizeLine) (hd : (a == sysModules) = false) (rel : KV kvs vs) (dd : h'.DictOf (mixKind P w) a vs) :
    ObjOk P w H' h' a (.dK kvs) := ⟨z, hd, vs, rel, dd⟩
/-- d[y] = v -/
theorem d_setItem {H' : Hp} {Q : Unit → Shared → Prop} (hu : A.units + 1 < cLine) (I : Inv X pins σ H s) (g : DPut H a y v H') (ry : RelV y u) (rv : RelV v r) (h : ∀ s', Inv X pins σ H' s' → Q () s') :
    wpAny (model X.prog X.w) A (setItem (.ref a) u r) Q E s := by
  rcases g with ⟨kvs, k, e, ey, l, eH⟩ | ⟨kvs, k, b, e, ey, eb, l, eH⟩
  · subst ey eH
    obtain ⟨z, hd, vs, rel, dd⟩ := dk_of I.hok e
    have hz : vs.length ≤ sizeLine := by rw [← rel.length]; exact z
    have hl : (putK kvs k v).length ≤ sizeLine := by have := length_putK kvs k v; omega
    refine wpAny_setItem_pairs (hsz := hz) (kV_is ry) dd fun h' dd' hs => h _ ?_
    have he : ∃ q, h'.get? a = some q := let ⟨q, _, _, hq, _⟩ := dd'; ⟨q, hq⟩
    exact d_write I (by rw [e]; exact True.intro) hs he (dk_new hl hd (rel.put k rv) dd')
  · subst ey eH
    cases (show u = Value.ref b from ry)
    obtain ⟨z, hd, xs, rel, dd⟩ := dt_of I.hok e
    have hz : xs.length ≤ sizeLine := by rw [← Paired.length rel]; exact z
    have hl : (putK kvs k v).length ≤ sizeLine := by have := length_putK kvs k v; omega
    refine wpAny_setItem_heap (hsz := hz) (tupleKind_room_in1 hu) (key_of I.hok eb) dd fun h' dd' hs => h _ ?_
    obtain ⟨q, es, ep, hq, h2, h3, h4, _, h5⟩ := dd'
    refine d_write I (by rw [e]; exact True.intro) hs ⟨q, hq⟩ ⟨hl, hd, _, (rel.put k eb rv).keeps fun c ys ec => ?_, q, es, ep, hq, h2, h3, h4, h5⟩
    rw [upd_ne (ne_of ec e (fun z => nomatch z))]
    exact ec
end

section
variable {X : Cx} {pins : List (Addr × Obj)} {σ : St} {H : Hp} {s : Shared} {a : Addr} {kvs : List (Key × V)} {k : Key} {u : Value} {A : Around} {E : Value → Shared → Prop}
end

/-! ### readings and rules -/
/-- the element of a subscription, not a slice -/
noncomputable def NoSl (i : Expr) : Prop := ∀ ov iv, subscripted i false ov iv = operate [ov, iv] (getItem ov iv)
theorem subD_of {prog : Program} {w : World} {A : Around} {E : Value → Shared → Prop} {s : Shared} {env : Env} {value slice : Expr} {pos : Pos} {T id : String} {Q : Value → Shared → Prop}
    (hl : typeLookup (.type T) "__getitem__" = pure (some (.builtin id))) (hs : NoSl slice)
    (h : wpAny (model prog w) A (eval value env) (fun o s₁ => wpAny (model prog w) A (eval slice env) (fun i s₂ => s₂.TypeIs o T ∧ wpAny (model prog w) A (getItem o i) Q E s₂) E s₁) E s) :
    wpAny (model prog w) A (eval (.Subscript value slice pos) env) Q E s := by
  refine Subscript_ (wpAny_mono h (fun o s₁ h₁ => wpAny_mono h₁ (fun i s₂ h₂ => ?_) fun _ _ x => x) fun _ _ x => x)
  obtain ⟨hT, h₂⟩ := h₂
  unfold subscriptTail
  refine wpAny_bind ?_
  rw [getitemInPython_of_ne hT.not_modules]
  refine wpAny_bind (wpAny_specialOf hT hl ?_)
  have fin : wpAny (model prog w) A (subscripted slice false o i) (fun r s₃ => wpAny (model prog w) A (letTemporaryGo value o r >>= fun _ => pure r) Q E s₃) E s₂ := by
    rw [hs o i]
    exact wpAny_operating (wpAny_mono h₂ (fun r s₃ h₃ => wpAny_bind (wpAny_letTemporaryGo (wpAny_pure h₃))) fun _ _ x => x)
  first
    | exact wpAny_pure (wpAny_bind fin)
    | exact wpAny_bind (wpAny_pure (wpAny_bind fin))
    | exact wpAny_bind fin

theorem dict_typeIs {X : Cx} {pins : List (Addr × Obj)} {σ : St} {H : Hp} {s : Shared} {a : Addr} {y : V} {o : Option V} (I : Inv X pins σ H s) (g : DGet H a y o) : s.TypeIs (.ref a) "dict" := by
  rcases g with ⟨kvs, k, e, _, _⟩ | ⟨kvs, k, b, e, _, _, _⟩
  · obtain ⟨_, _, vs, _, dd⟩ := dk_rd I.hok e
    exact dd.typeIs
  · obtain ⟨_, _, xs, _, dd⟩ := dt_rd I.hok e
    exact dd.typeIs
/-- d[y] -/
noncomputable def tDGet (td ty : TE) : TE := fun σ H Q => td σ H fun x H1 => ty σ H1 fun y H2 => ∃ a v, x = .ref a ∧ DGet H2 a y (some v) ∧ Q v H2
/-- d[y] = v -/
noncomputable def sDPut (td ty tv : TE) : TS := fun D σ H => tv σ H fun v H1 => td σ H1 fun x H2 => ty σ H2 fun y H3 => ∃ a H4, x = .ref a ∧ DPut H3 a y v H4 ∧ D.nx σ H4
section
variable {X : Cx} {o i e value : Expr} {pos pos' tpos : Pos} {td ty tv : TE}
theorem pe_dget (hu : X.A.units + 1 < cLine) (ho : PE X o td) (hi : PE X i ty) (hs : NoSl i) : PE X (.Subscript o i pos) (tDGet td ty) := by
  intro pins s σ H Q I h
  refine subD_of PySem.F.slot_dict_getitem.lookup hs (thn (ho pins s σ H _ I h) fun u s1 ⟨x, H1, I1, rx, q1⟩ => thn (hi pins s1 σ H1 _ I1 q1) fun iv s2 ⟨y, H2, I2, ry, a, v, ex, g, q2⟩ => ?_)
  subst ex
  obtain rfl : u = Value.ref a := rx
  exact ⟨dict_typeIs I2 g, d_getItem hu I2 g ry fun w' s3 I3 rw' => ⟨v, H2, I3, rw', q2⟩⟩
theorem ps_dput (hu : X.A.units + 1 < cLine) (ho : PE X o td) (hi : PE X i ty) (hv : PE X value tv) (hs : swapsWith value (some (.Subscript o i pos')) pos.line X.env = pure false) :
    PS X (.Assign [.Subscript o i pos'] value pos) (sDPut td ty tv) := by
  intro pins s σ H D I h
  refine wpAny_Assign_Subscript (thn (hv pins s σ H _ I h) fun r s1 ⟨v, H1, I1, rv, q1⟩ => thn (ho pins s1 σ H1 _ I1 q1) fun u s2 ⟨x, H2, I2, rx, q2⟩ => thn (hi pins s2 σ H2 _ I2 q2) fun iv s3 ⟨y, H3, I3, ry, a, H4, ex, g, q3⟩ => ?_) hs
  subst ex
  obtain rfl : u = Value.ref a := rx
  exact d_setItem hu I3 g ry rv fun s4 I4 => ⟨σ, H4, I4, q3⟩
end

/-! ### displays -/
theorem dk_empty {P : Program} {w : World} {H : Hp} (h : Heap) (hb : sysModules < h.objs.size) : ObjOk P w H (h.push { cls := .type "dict", data := .dict #[] }) h.objs.size (.dK []) :=
  ⟨Nat.zero_le _, beq_eq_false_iff_ne.mpr (Ne.symm (Nat.ne_of_lt hb)), [], .nil, Heap.DictOf.new h⟩
/-- {}, to be a dict of the kind that is wanted -/
noncomputable def tDNewK : TE := fun _ H Q => ∀ p, H p = none → Q (.ref p) (upd H p (.dK []))
section
variable {X : Cx} {pos : Pos}
theorem pe_dnewK : PE X (.Dict [] [] pos) tDNewK := fun pins s σ H Q I h =>
  wpAny_Dict_empty ⟨.ref s.heap.objs.size, _, I.laid (a := s.heap.objs.size) (o := .dK []) (t' := s.toks) (fun _ _ q => Heap.get?_push_of_some _ q) (Nat.le_refl _) (dk_empty s.heap I.big), rfl, h _ (I.hok.fresh (Nat.le_refl _))⟩
end

/-- the pairs of a display, from the left -/
noncomputable def tPairs : List (TE × TE) → St → Hp → (List (V × V) → Hp → Prop) → Prop
  | [], _, H, Q => Q [] H
  | (tk, tv) :: r, σ, H, Q => tk σ H fun x H1 => tv σ H1 fun y H2 => tPairs r σ H2 fun ps H3 => Q ((x, y) :: ps) H3
noncomputable abbrev VV : List (V × V) → List (Value × Value) → Prop := Paired fun p q => RelV p.1 q.1 ∧ RelV p.2 q.2
noncomputable def PPs (X : Cx) (pos : Pos) (keys : List (Option Expr)) (values : List Expr) (trs : List (TE × TE)) : Prop :=
  ∀ (pins : List (Addr × Obj)) (s : Shared) (σ : St) (H : Hp) (Q : List (V × V) → Hp → Prop), Inv X pins σ H s → tPairs trs σ H Q →
    wpAny (model X.prog X.w) X.A (evalPairs (pairTrees keys values X.env pos)) (fun vs s' => ∃ ps H', Inv X pins σ H' s' ∧ VV ps vs ∧ Q ps H') X.xe s
theorem pps_nil {X : Cx} {pos : Pos} : PPs X pos [] [] [] := fun pins s σ H Q I h => pairTrees_nil_walk ⟨[], H, I, .nil, h⟩
theorem pps_cons {X : Cx} {pos : Pos} {k v : Expr} {ks : List (Option Expr)} {vs : List Expr} {tk tv : TE} {trs : List (TE × TE)} (hk : PE X k tk) (hv : PE X v tv) (hr : PPs X pos ks vs trs) :
    PPs X pos (some k :: ks) (v :: vs) ((tk, tv) :: trs) := fun pins s σ H Q I h =>
  pairTrees_cons_walk (thn (hk pins s σ H _ I h) fun u s1 ⟨x, H1, I1, rx, q1⟩ => thn (hv pins s1 σ H1 _ I1 q1) fun w2 s2 ⟨y, H2, I2, ry, q2⟩ =>
    thn (hr pins s2 σ H2 _ I2 q2) fun ws s3 ⟨ps, H3, I3, rel, q3⟩ => ⟨(x, y) :: ps, H3, I3, .cons ⟨rx, ry⟩ rel, q3⟩)

noncomputable def mergeK (kvs more : List (Key × V)) : List (Key × V) := more.foldl (fun acc kv => putK acc kv.1 kv.2) kvs
theorem KV.merge : ∀ {more : List (Key × V)} {rs : List (Key × Value)} {kvs : List (Key × V)} {vs : List (Key × Value)}, KV more rs → KV kvs vs → KV (mergeK kvs more) (merged vs rs) := by
  intro more rs kvs vs r
  unfold KV at r
  induction r generalizing kvs vs with
  | nil => intro q; exact q
  | @cons p q ps qs h t ih =>
    intro r0
    have e : KV (putK kvs p.1 p.2) (stored vs q.1 q.2) := by
      have := r0.put p.1 h.2
      rw [← h.1]; exact this
    exact ih e
theorem length_mergeK : ∀ (more kvs : List (Key × V)), (mergeK kvs more).length ≤ kvs.length + more.length
  | [], kvs => by show kvs.length ≤ kvs.length + 0; omega
  | p :: r, kvs => by
    have h1 := length_mergeK r (putK kvs p.1 p.2)
    have h2 := length_putK kvs p.1 p.2
    show (mergeK (putK kvs p.1 p.2) r).length ≤ _
    rw [List.length_cons]; omega
theorem carries_of {P : Program} {w : World} : ∀ {kvs : List (Key × V)} {ws : List (Value × Value)}, VV (kvs.map fun kv => (kV kv.1, kv.2)) ws → ∃ rs, Carries (mixKind P w) ws rs ∧ KV kvs rs
  | [], _, r => by rw [List.map_nil] at r; cases r; exact ⟨[], True.intro, .nil⟩
  | p :: kvs, _, r => by
    rw [List.map_cons] at r
    cases r with
    | @cons a b as bs h t =>
      obtain ⟨rs, c, q⟩ := carries_of (P := P) (w := w) t
      obtain ⟨b1, b2⟩ := b
      exact ⟨(p.1, b2) :: rs, ⟨kV_is h.1, rfl, c⟩, .cons ⟨rfl, h.2⟩ q⟩
/-- {k: v, ..} with keys ints and texts; the new dict stands empty while the pairs are made -/
noncomputable def tDisp (trs : List (TE × TE)) : TE := fun σ H Q => ∀ p, H p = none → tPairs trs σ (upd H p (.dK [])) fun ps H2 => H2 p = some (.dK []) ∧ ∃ kvs : List (Key × V), ps = kvs.map (fun kv => (kV kv.1, kv.2)) ∧ kvs.length ≤ 15 ∧ Q (.ref p) (upd H2 p (.dK (mergeK [] kvs)))
theorem pe_disp {X : Cx} {pos : Pos} {keys : List (Option Expr)} {values : List Expr} {trs : List (TE × TE)} (h : PPs X pos keys values trs) (hall : keys.all (·.isSome) = true) (hl : keys.length = values.length) (h0 : keys ≠ [])
    (h15 : keys.length ≤ 15) : PE X (.Dict keys values pos) (tDisp trs) := by
  intro pins s σ H Q I q
  have hn := I.hok.fresh (Nat.le_refl s.heap.objs.size)
  have I1 := I.laid (a := s.heap.objs.size) (o := .dK []) (h' := s.heap.push { cls := .type "dict", data := .dict #[] }) (t' := s.toks) (fun _ _ q => Heap.get?_push_of_some _ q) (Nat.le_refl _) (dk_empty s.heap I.big)
  refine wpAny_Dict_walk (knd := mixKind X.prog X.w) hall hl h0 h15 (thn (h pins _ σ _ _ I1 (q _ hn)) fun ws s2 ⟨ps, H2, I2, rel, e, kvs, ep, lk, q2⟩ => ?_)
  subst ep
  obtain ⟨rs, c, rk⟩ := carries_of (P := X.prog) (w := X.w) rel
  obtain ⟨z, hd, vs0, r0, dd⟩ := dk_of I2.hok e
  cases r0
  refine ⟨rs, c, dd, fun h' dd' hs => ⟨.ref s.heap.objs.size, _, ?_, rfl, q2⟩⟩
  have hz : (mergeK [] kvs).length ≤ sizeLine := by
    have h1 := length_mergeK kvs []
    rw [List.length_nil] at h1
    rw [sizeLine_eq]; omega
  have he : ∃ q, h'.get? s.heap.objs.size = some q := let ⟨q, _, _, hq, _⟩ := dd'; ⟨q, hq⟩
  exact d_write I2 (by rw [e]; exact True.intro) hs he (dk_new hz hd (rk.merge .nil) dd')

/-! ### methods -/
structure M2 (X : Cx) (o : Expr) (m : Str) (apos : Pos) (e f : Expr) (cpos : Pos) : Prop where
  base : attributeBase o m X.env (eval o X.env) = eval o X.env
  few : ((backTo cpos (starEach [e, f] X.env)).all (fun x => !x.1) && (backToKw cpos (keywordEach [] X.env)).all (fun x => x.1.isSome)
    && decide (([e, f] : List Expr).length + ([] : List Keyword).length + (if ([] : List Keyword).isEmpty then 0 else 1) < 30)) = true
  line : (apos.endLine == cpos.line) = true
  trees : backTo cpos (starEach [e, f] X.env) = [(false, eval e X.env), (false, eval f X.env)]

/-- a is a dict, whatever its keys -/
noncomputable def IsD (H : Hp) (a : Addr) : Prop := (∃ kvs, Rd H a (.dK kvs)) ∨ ∃ kvs, Rd H a (.dT kvs)
theorem isD_at {X : Cx} {pins : List (Addr × Obj)} {σ : St} {H : Hp} {s : Shared} {a : Addr} (I : Inv X pins σ H s) (d : IsD H a) :
    s.TypeIs (.ref a) "dict" ∧ (∀ b, Value.ref a = .ref b → ∃ ob, s.heap.get? b = some ob ∧ ob.dict = none) ∧ (a == sysModules) = false := by
  rcases d with ⟨kvs, e⟩ | ⟨kvs, e⟩
  · obtain ⟨_, hd, vs, _, dd⟩ := dk_rd I.hok e
    refine ⟨dd.typeIs, fun b q => ?_, hd⟩
    cases q
    obtain ⟨ob, _, _, h1, h2, _⟩ := dd
    exact ⟨ob, h1, h2.2.1⟩
  · obtain ⟨_, hd, xs, _, dd⟩ := dt_rd I.hok e
    refine ⟨dd.typeIs, fun b q => ?_, hd⟩
    cases q
    obtain ⟨ob, _, _, h1, h2, _⟩ := dd
    exact ⟨ob, h1, h2.2.1⟩

section
variable {X : Cx} {pins : List (Addr × Obj)} {σ : St} {H : Hp} {s : Shared} {a : Addr} {y d : V} {u r : Value} {o : Option V} {A : Around} {E : Value → Shared → Prop}
/-- d.get(y, x) -/
theorem d_get2 {Q : Value → Shared → Prop} (hu : A.units + 1 < cLine) (I : Inv X pins σ H s) (g : DGet H a y o) (ry : RelV y u) (rd : RelV d r) (h : ∀ w' s', Inv X pins σ H s' → RelV (o.getD d) w' → Q w' s') :
    wpAny (model X.prog X.w) A (call (.builtin "dict.get") [.ref a, u, r]) Q E s := by
  rcases g with ⟨kvs, k, e, ey, l⟩ | ⟨kvs, k, b, e, ey, eb, l⟩
  · subst ey
    obtain ⟨z, hd, vs, rel, dd⟩ := dk_rd I.hok e
    refine call_meetsIn PySem.F.slot_dict_get dd.typeIs PySem.F.entry_dict_get (PySem.F.args_dict_get_3 _ _ _) (meets_dict_get_default (mixKind X.prog X.w) a (kV_is ry) hd r) ⟨_, dd.mapOf, h _ _ (I.tok _) ?_⟩
    rw [l]
    exact (rel.val k).getD rd
  · subst ey
    cases (show u = Value.ref b from ry)
    obtain ⟨z, hd, xs, rel, dd⟩ := dt_rd I.hok e
    refine call_meetsIn PySem.F.slot_dict_get dd.typeIs PySem.F.entry_dict_get (PySem.F.args_dict_get_3 _ _ _) (meetsH_dict_get_default (tupleKind (mixKind X.prog X.w)) a b hd r) ⟨tupleKind_room_in1 hu, k, xs, key_of I.hok eb, dd, h _ _ (I.tok _) ?_⟩
    rw [l]
    exact (rel.val k).getD rd
end

noncomputable def tDGet2 (td ty tx : TE) : TE := fun σ H Q => td σ H fun x H1 => ∃ a, x = .ref a ∧ IsD H1 a ∧ ty σ H1 fun y H2 => tx σ H2 fun z H3 => ∃ o, DGet H3 a y o ∧ Q (o.getD z) H3
section
variable {X : Cx} {o e f : Expr} {apos cpos : Pos} {td ty tx : TE}
theorem pe_dget2 (hu : X.A.units + 1 < cLine) (ho : PE X o td) (he : PE X e ty) (hf : PE X f tx) (m : M2 X o "get" apos e f cpos) : PE X (.Call (.Attribute o "get" apos) [e, f] [] cpos) (tDGet2 td ty tx) := by
  intro pins s σ H Q I h
  refine wpAny_Call_method m.base m.few m.line PySem.F.plainAttrs_dict PySem.F.slot_dict_get PySem.F.type_dict_get (thn (ho pins s σ H _ I h) fun u s1 ⟨x, H1, I1, rx, a, ex, d, q1⟩ => ?_)
  subst ex
  obtain rfl : u = Value.ref a := rx
  obtain ⟨t1, t2, _⟩ := isD_at I1 d
  refine ⟨t1, t2, ?_⟩
  rw [m.trees]
  refine Calls.callWith_builtin rfl (Calls.evalArgs_plain (Calls.spliced_cons (thn (he pins s1 σ H1 _ I1 q1) fun iv s2 ⟨y, H2, I2, ry, q2⟩ =>
    Calls.spliced_cons (thn (hf pins s2 σ H2 _ I2 q2) fun fv s3 ⟨z, H3, I3, rz, ov, g, q3⟩ => Calls.spliced_nil ?_))))
  exact d_get2 hu I3 g ry rz fun w' s4 I4 rw' => ⟨_, H3, I4, rw', q3⟩
end

/-! ### dict(d): a copy -/
section
variable {X : Cx} {pins : List (Addr × Obj)} {σ : St} {H : Hp} {s : Shared} {a : Addr} {kvs : List (Key × V)} {A : Around} {E : Value → Shared → Prop}
end

section
variable {X : Cx} {pins : List (Addr × Obj)} {σ : St} {H : Hp} {s : Shared} {a : Addr} {y : V} {u : Value} {A : Around} {E : Value → Shared → Prop}
end
end L2
namespace HT
open PySem PySem.Spec PyProof.Rows
set_option maxRecDepth 100000
variable {prog : Program} {w : World} {A : Around} {E : Value → Shared → Prop} {s : Shared}
theorem getItem_tuple_whole {t sl : Addr} {items : Array Value} {vl vu : Value} {lo hi : Option Int} {Q : Value → Shared → Prop} (ht : IsTup s.heap t items) (hs : s.heap.IsSliceOf sl vl vu .none) (pl : IsPart vl lo) (pu : IsPart vu hi)
    (h0 : sIx items.size 0 lo = 0) (h1 : sIx items.size items.size hi = items.size) (h : Q (.ref t) s) : wpAny (model prog w) A (getItem (.ref t) (.ref sl)) Q E s := by
  obtain ⟨os, hos, hcs, hds⟩ := id hs
  have hTs : s.TypeIs (.ref sl) "slice" := ⟨os, hos, hcs⟩
  unfold getItem
  try with_reducible refine wpAny_holding ?_
  first | refine wpAny_bind (wpAny_pure ?_) | skip
  refine wpAny_bind (wpAny_sequenceKey ht.typeIs (by decide) ?_)
  refine wpAny_bind (wpAny_callSpecial?_slot (name := Str.ofString "__getitem__") ht.typeIs PyProof.Rows.slot_tuple_getitem
    (wpAny_call_entry PyProof.Rows.slot_tuple_getitem ht.typeIs entry_tuple_getitem ?_ (args_tuple_getitem _ _)))
  show wpAny _ _ (Builtin.Tuple.tupleItemsOf (.ref t) >>= _) _ _ s
  refine wpAny_bind (tupleItemsOf_ ht ?_)
  refine wpAny_bind (wpAny_typeOf hTs ?_)
  rw [if_pos (by decide)]
  refine wpAny_bind (sliceApplied_gen hs pl pu ?_)
  have hyes : (((sIx items.size 0 lo : Nat) : Int) == 0 && (1 : Int) == 1 && (sIx items.size items.size hi - sIx items.size 0 lo) == items.size) = true := by
    rw [h0, h1]; simp
  show wpAny _ _ (if (((sIx items.size 0 lo : Nat) : Int) == 0 && (1 : Int) == 1 && (sIx items.size items.size hi - sIx items.size 0 lo) == items.size) = true then _ else _) _ _ s
  rw [if_pos hyes]
  unfold Builtin.Tuple.tupleIsExact
  refine wpAny_bind (wpAny_bind (wpAny_typeOf ht.typeIs (wpAny_pure ?_)))
  rw [if_pos (by decide)]
  first
    | exact wpAny_bind (wpAny_pure (wpAny_pure ⟨_, rfl, wpAny_pure h⟩))
    | exact wpAny_bind (m := rule _) (wpAny_pure ⟨_, rfl, wpAny_pure h⟩)
    | exact wpAny_pure ⟨_, rfl, wpAny_pure h⟩
    | exact wpAny_bind (wpAny_rule (wpAny_pure ⟨_, rfl, wpAny_pure h⟩))
    | exact wpAny_bind (wpAny_rule (wpAny_bind (wpAny_pure (wpAny_pure ⟨_, rfl, wpAny_pure h⟩))))
end HT
namespace L2
open PySem PySem.Spec PyProof.Rows
/-- t[lo:hi], whatever it is -/
noncomputable def rSlA (K : PySem.W.Frag) : V → Option Int → Option Int → Hp → VK → Prop := fun x lo hi H Q => ∃ a xs, x = .ref a ∧ SqT K H a xs ∧ AnyT K H (cutV xs lo hi) Q
theorem sl_tupA {X : Cx} : SlR X (rSlA X.K) := by
  intro pins s σ H x v vl vu lo hi sl Q I rx hs pl pu h
  obtain ⟨a, xs, rfl, hx, q⟩ := h
  by_cases hw : HT.sIx xs.length 0 lo = 0 ∧ HT.sIx xs.length xs.length hi = xs.length
  · cases rx
    obtain ⟨its, r, ht, hz⟩ := I.tuple hx
    have hlen : its.toArray.size = xs.length := by rw [List.size_toArray]; exact r.length.symm
    refine ⟨"tuple", _, PyProof.Rows.slot_tuple_getitem.lookup, ht.typeIs, ?_⟩
    refine HT.getItem_tuple_whole ht hs pl pu (by rw [hlen]; exact hw.1) (by rw [hlen]; exact hw.2) ?_
    refine ⟨.ref a, H, I, rfl, q.old ?_⟩
    unfold cutV
    rw [hw.1, hw.2, List.drop_zero, Nat.sub_zero, List.take_length]
    exact hx
  · exact sl_tup pins s σ H _ v vl vu lo hi sl Q I rx hs pl pu ⟨a, xs, rfl, hx, hw, fun p hp => q.new hp⟩
theorem slA {X : Cx} (K : PySem.W.Frag) (hK : X.K = K) : SlR X (rSlA K) := hK ▸ sl_tupA
end L2
namespace L2
open PySem PySem.Spec PyProof.Rows
set_option maxRecDepth 100000
/-! ### any(a tuple of whole numbers) -/
section
variable {X : Cx}
theorem call_anyT (hc : X.calm = true) : CallR X (.builtin "any") (fun xs H Q => ∃ p ns, xs = [.ref p] ∧ SqT X.K H p (List.map V.int ns) ∧ Q (.bl (ns.any fun n => n != 0)) H) := by
  intro pins s σ H vs us Q I r h
  obtain ⟨p, ns, rfl, hq, q⟩ := h
  obtain ⟨u, rfl, ru⟩ := vals1 r
  cases ru
  obtain ⟨its, rv, ht, hz⟩ := I.tuple hq
  have hlt : p < s.heap.objs.size := ht.lt
  have hlen : its.length = ns.length := by have := rv.length; rw [List.length_map] at this; exact this.symm
  apply call_any_walk
  apply wpAny_pyIter_tuple ht
  refine ⟨s.heap.objs.size, [s.heap.objs.size, p], [s.heap.objs.size], its.toArray.size, _, _, fun i => ((ns.map fun n => n != 0)[i]?).getD false, rfl, Walks.tuple (A := X.A.in1) (I.ok.hd hc) _ p (Nat.ne_of_lt hlt) its.toArray,
    ⟨⟨_, Heap.get?_push_size _ rfl, rfl, rfl⟩, ht.push _⟩, fun i v s1 Q1 E1 hP hQ => ?_, fun h1 tk1 hk => ?_⟩
  · have hP : its[i]? = some v := by simpa using hP
    have hi : i < ns.length := by rw [← hlen]; exact (List.getElem?_eq_some_iff.mp hP).1
    have hx : (ns.map V.int)[i]? = some (.int ns[i]) := by simp [hi]
    obtain ⟨u, hu, ru⟩ := rv.get hx
    rw [hP] at hu
    cases hu
    obtain ⟨t, rfl⟩ := ru
    dsimp only at hQ
    rw [show (ns.map fun n => n != 0)[i]? = some (ns[i] != 0) by simp [hi], Option.getD_some] at hQ
    exact truthy_int hQ
  · have e : ((List.range its.toArray.size).any fun i => ((ns.map fun n => n != 0)[i]?).getD false) = ns.any fun n => n != 0 := by
      have e2 := rng_any (ns.map fun n => n != 0)
      rw [List.length_map] at e2
      rw [List.size_toArray, hlen, e2, List.any_map]; rfl
    rw [e]
    refine ⟨.bl _, H, I.kept (fun b x e => hk b x (fun hm => by rw [List.mem_singleton.mp hm] at e; exact Nat.lt_irrefl _ (Heap.lt_size e)) (Heap.get?_push_of_some _ e)), rfl, q⟩
theorem cAnyT (K : PySem.W.Frag) (hK : X.K = K) (hc : X.calm = true) : CallR X (.builtin "any") (fun xs H Q => ∃ p ns, xs = [.ref p] ∧ SqT K H p (List.map V.int ns) ∧ Q (.bl (ns.any fun n => n != 0)) H) := hK ▸ call_anyT hc
end
section
variable {K : PySem.W.Frag} {H1 : Hp} {cp : St} {tt : TT} {te : TE} {Q : VK} {xs ys : List V} {l1 l2 : Addr} {b1 b2 : Bool}
end
end L2
namespace L2
open PySem PySem.Spec PyProof.Rows
set_option maxRecDepth 100000
set_option maxHeartbeats 3900000
/-! ### lambdas that a def makes: its code's table, what is made, calls of it -/
/-- the table of a def's code: empty, or with the code of its one lambda -/
noncomputable def LamT (H : Hp) (Pt : Addr) (pos : Pos) (qual : Str) : Prop :=
  H Pt = some (.tbl #[]) ∨ ∃ c', H Pt = some (.tbl #[rawInt pos.line, rawInt pos.col, .ref c']) ∧ H c' = some (.ext fun h => h.CodeRec (.ref c') qual)
/-- all is kept but that table -/
noncomputable def SmT (Pt : Addr) (H H' : Hp) : Prop := ∀ b o, H b = some o → b ≠ Pt → H' b = some o
/-- a lambda that was made -/
noncomputable def LamF (H : Hp) (f : Addr) (qual : Str) (params : Arguments) (body : Expr) (scope : Scope) (cl : List (Str × Addr)) : Prop :=
  ∃ c', H f = some (.ext fun h => ∃ pm ctv, h.get? f = some (PySem.W.kla_obj "<lambda>" qual params body scope cl pm c' ctv)) ∧ H c' = some (.ext fun h => h.CodeRec (.ref c') qual)
theorem codeRec_ext {P : Program} {w : World} {H : Hp} {h : Heap} {c : Addr} {qual : Str} (x : h.CodeRec (.ref c) qual) : ObjOk P w H h c (.ext fun h => h.CodeRec (.ref c) qual) := by
  refine ⟨x, ?_, fun h1 h2 z k => ?_⟩
  · obtain ⟨c2, oc, vs, t, e, ho, _⟩ := x
    cases e
    exact ⟨oc, ho⟩
  · obtain ⟨c2, oc, vs, t, e, ho, r⟩ := z
    cases e
    exact ⟨c, oc, vs, t, rfl, k _ ho, r⟩
theorem fun_ext {P : Program} {w : World} {H : Hp} {h : Heap} {f c : Addr} {qual : Str} {params : Arguments} {body : Expr} {scope : Scope} {cl : List (Str × Addr)} {pm ctv : Value} (x : h.get? f = some (PySem.W.kla_obj "<lambda>" qual params body scope cl pm c ctv)) :
    ObjOk P w H h f (.ext fun h => ∃ pm ctv, h.get? f = some (PySem.W.kla_obj "<lambda>" qual params body scope cl pm c ctv)) :=
  ⟨⟨pm, ctv, x⟩, ⟨_, x⟩, fun h1 h2 ⟨pm, ctv, z⟩ k => ⟨pm, ctv, k _ z⟩⟩
/-- the builtins, as the module has them -/
noncomputable def BltAt (mg : Str → Option Value) (h : Heap) : Prop := ∃ bm ob, mg "__builtins__" = some (.ref bm) ∧ bm ≠ builtinsNs ∧ h.get? bm = some ob ∧ ob.cls = .type "module" ∧ ob.dict = some builtinsNs ∧ ob.data = .plain
section
variable {X : Cx}
noncomputable def tLam (Pt : Addr) (pos : Pos) (qual : Str) (params : Arguments) (body : Expr) (scope : Scope) (cl : List (Str × Addr)) : TE := fun _ H Q => LamT H Pt pos qual ∧
  ∀ f H', H f = none → SmT Pt H H' → LamT H' Pt pos qual → LamF H' f qual params body scope cl → Q (.ref f) H'
theorem pe_lam {params : Arguments} {body : Expr} {scope : Scope} {pos : Pos} {c Pt : Addr} {cl : List (Str × Addr)} (hcode : X.env.code = .ref c) (C : PySem.W.CodeHd X.base c Pt) (B : BltAt X.mg X.base) (hcl : closureFor scope X.env = pure cl) (hdef : defaultsOf params X.env = ([], []) := by rfl) :
    PE X (.Lambda params body scope pos) (tLam Pt pos (X.env.qual ++ "<lambda>") params body scope cl) := by
  intro pins s σ H Q I h
  obtain ⟨hT, h⟩ := h
  generalize hq : X.env.qual ++ "<lambda>" = qual at hT h
  refine PySem.W.kla_eval hdef ?_
  rw [hq]
  have hg : s.heap.Ns mainGlobals X.mg := I.mod.glob.keeps I.bk
  have Cs := C.keeps I.bk
  obtain ⟨bm, ob, b1, b2, b3, b4, b5, b6⟩ := B
  have neG : bm ≠ mainGlobals := fun q => by
    obtain ⟨o, es, ep, e, hd, _⟩ := I.mod.glob
    rw [q, e] at b3
    cases b3
    rw [hd] at b6
    cases b6
  have hT0 : ∃ ps, H Pt = some (.tbl ps) := hT.elim (fun z => ⟨_, z⟩) fun ⟨_, z, _⟩ => ⟨_, z⟩
  obtain ⟨ps0, hps0⟩ := hT0
  have hP0 : s.heap.get? Pt = some (PySem.W.tabObj ps0) := I.hok Pt _ hps0
  have hgP : mainGlobals ≠ Pt := fun q => by
    obtain ⟨o, es, ep, e, hd, _⟩ := hg
    rw [q, hP0] at e
    cases e
    cases hd
  have hbP : bm ≠ Pt := fun q => by
    have e := I.bk _ _ b3
    rw [q, hP0] at e
    cases e
    cases b4
  have hPlt : Pt < s.heap.objs.size := Heap.lt_size hP0
  rcases hT with hT | ⟨c', hT, hc⟩
  · rw [hT] at hps0
    cases hps0
    refine PySem.W.kla_makeFunction (mg := X.mg) hcl I.ok.glob hg hcode Cs hP0 trivial rfl hgP ⟨bm, ob, b1, b2, neG, hbP, I.bk _ _ b3, b4, b5, b6⟩ fun c' ctv h' tk hx hge hlt hrec htb => ?_
    have hsz : s.heap.objs.size ≤ h'.objs.size := Nat.le_trans hge (Nat.le_of_lt hlt)
    have hn : ∀ a, s.heap.objs.size ≤ a → H a = none := fun a ha => I.hok.fresh ha
    have nPc : Pt ≠ c' := Nat.ne_of_lt (Nat.lt_of_lt_of_le hPlt hge)
    have nPf : Pt ≠ h'.objs.size := Nat.ne_of_lt (Nat.lt_of_lt_of_le hPlt hsz)
    have ncf : c' ≠ h'.objs.size := Nat.ne_of_lt hlt
    have hk : ∀ b o, b ≠ Pt → s.heap.get? b = some o → (h'.push (PySem.W.kla_obj "<lambda>" qual params body scope cl ((X.mg "__name__").getD .none) c' ctv)).get? b = some o := fun b o hb e => Heap.get?_push_of_some _ (hx b o hb e)
    have hf : (h'.push (PySem.W.kla_obj "<lambda>" qual params body scope cl ((X.mg "__name__").getD .none) c' ctv)).get? h'.objs.size = some (PySem.W.kla_obj "<lambda>" qual params body scope cl ((X.mg "__name__").getD .none) c' ctv) := Heap.get?_push_size _ rfl
    have hrec' : (h'.push (PySem.W.kla_obj "<lambda>" qual params body scope cl ((X.mg "__name__").getD .none) c' ctv)).CodeRec (.ref c') qual := by
      obtain ⟨c2, oc, vs, t, e, ho, r⟩ := hrec
      exact ⟨c2, oc, vs, t, e, Heap.get?_push_of_some _ ho, r⟩
    have htb' : (h'.push (PySem.W.kla_obj "<lambda>" qual params body scope cl ((X.mg "__name__").getD .none) c' ctv)).get? Pt = some (PySem.W.tabObj (#[] ++ #[rawInt pos.line, rawInt pos.col, .ref c'])) := Heap.get?_push_of_some _ htb
    generalize h'.push (PySem.W.kla_obj "<lambda>" qual params body scope cl ((X.mg "__name__").getD .none) c' ctv) = hh at hk hf hrec' htb' ⊢
    generalize h'.objs.size = f at hsz nPf ncf hf ⊢
    have hnf := hn f hsz
    have hnc := hn c' hge
    let H' : Hp := upd (upd (upd H Pt (.tbl (#[] ++ #[rawInt pos.line, rawInt pos.col, .ref c']))) c' (.ext fun h => h.CodeRec (.ref c') qual)) f (.ext fun h => ∃ pm ctv, h.get? f = some (PySem.W.kla_obj "<lambda>" qual params body scope cl pm c' ctv))
    have e1 : ∀ b, b ≠ f → b ≠ c' → b ≠ Pt → H' b = H b := fun b x1 x2 x3 => by
      show upd (upd (upd H Pt _) c' _) f _ b = _
      rw [upd_ne x1, upd_ne x2, upd_ne x3]
    have e2 : H' Pt = some (.tbl (#[] ++ #[rawInt pos.line, rawInt pos.col, .ref c'])) := by
      show upd (upd (upd H Pt _) c' _) f _ Pt = _
      rw [upd_ne nPf, upd_ne nPc, upd_same]
    have e3 : H' c' = some (.ext fun h => h.CodeRec (.ref c') qual) := by
      show upd (upd (upd H Pt _) c' _) f _ c' = _
      rw [upd_ne ncf, upd_same]
    have e4 : H' f = some (.ext fun h => ∃ pm ctv, h.get? f = some (PySem.W.kla_obj "<lambda>" qual params body scope cl pm c' ctv)) := upd_same
    have e5 : ∀ b o, H b = some o → b ≠ Pt → H' b = some o := fun b o q hb => by
      rw [e1 b (ne_of_none q hnf) (ne_of_none q hnc) hb]; exact q
    have neP : ∀ b o, H b = some o → (∀ ps, o ≠ .tbl ps) → b ≠ Pt := fun b o q ht z => by
      rw [z, hT] at q
      exact ht _ (Option.some.inj q).symm
    refine ⟨.ref f, H', I.un (t' := tk) ⟨fun b o e n _ _ => hk b o (fun z => by rw [z, hT] at n; cases n) e, fun b o e n _ _ => ⟨o.slots, hk b o (fun z => by rw [z, hT] at n; cases n) e⟩, fun b o e n _ => ?_, fun b o e _ => ?_, fun b xs q => e5 b _ q (neP b _ q fun _ z => nomatch z), fun b o u q => e5 b _ q (neP b _ q fun _ z => nomatch z), fun b ps q => ?_⟩ fun a o e => ?_, rfl, h f H' hnf e5 (.inr ⟨c', by rw [e2]; rfl, e3⟩) ⟨c', e4, e3⟩⟩
    · have hb := Heap.lt_size e
      rw [e1 b (Nat.ne_of_lt (Nat.lt_of_lt_of_le hb hsz)) (Nat.ne_of_lt (Nat.lt_of_lt_of_le hb hge)) (fun z => by rw [z, hT] at n; cases n)]
      exact n
    · by_cases hb : b = Pt
      · rw [hb]; exact ⟨_, htb'⟩
      · exact ⟨o, hk b o hb e⟩
    · by_cases hb : b = Pt
      · subst hb
        rw [hT] at q
        cases q
        exact ⟨_, e2⟩
      · exact ⟨#[], by rw [e5 b _ q hb]; simp⟩
    · by_cases hf' : a = f
      · subst hf'
        rw [e4] at e
        cases e
        exact fun_ext hf
      by_cases hc' : a = c'
      · subst hc'
        rw [e3] at e
        cases e
        exact codeRec_ext hrec'
      by_cases hp' : a = Pt
      · subst hp'
        rw [e2] at e
        cases e
        exact htb'
      · rw [e1 a hf' hc' hp'] at e
        refine (I.hok a o e).stay (fun b u hb q => hk b u (fun z => ?_) q) (fun b q => e5 b _ q (neP b _ q fun _ z => nomatch z)) fun b xs q => e5 b _ q (neP b _ q fun _ z => nomatch z)
        rcases hb with hb | hb
        · exact hp' (hb ▸ z)
        · rw [z, hT] at hb; cases hb
  · rw [hT] at hps0
    cases hps0
    refine PySem.W.kla_makeFunctionHit (cv := .ref c') (mg := X.mg) hcl I.ok.glob hg hcode Cs hP0 (by simp [TriplesOk, rawInt]) (by simp [codeAmong, rawInt]) ⟨bm, ob, b1, b2, neG, hbP, I.bk _ _ b3, b4, b5, b6⟩ fun ctv h' tk hk hsz => ?_
    have hn : H h'.objs.size = none := I.hok.fresh hsz
    refine ⟨.ref h'.objs.size, _, I.laid (t' := tk) (o := .ext fun h => ∃ pm ctv, h.get? h'.objs.size = some (PySem.W.kla_obj "<lambda>" qual params body scope cl pm c' ctv)) (fun b u e => Heap.get?_push_of_some _ (hk b u e)) hsz (fun_ext (Heap.get?_push_size _ rfl)), rfl, ?_⟩
    have e5 : ∀ b o, H b = some o → (upd H h'.objs.size (.ext fun h => ∃ pm ctv, h.get? h'.objs.size = some (PySem.W.kla_obj "<lambda>" qual params body scope cl pm c' ctv))) b = some o := fun b o q => by rw [upd_ne (ne_of_none q hn)]; exact q
    exact h _ _ hn (fun b o q _ => e5 b o q) (.inr ⟨c', e5 _ _ hT, e5 _ _ hc⟩) ⟨c', upd_same, e5 _ _ hc⟩
end
/-! ### defs whose promise hangs on the state at their entry -/
structure RunS (P : Program) (w : World) (K : PySem.W.Frag) (mg : Str → Option Value) (base : Heap) (k : Nat) (f : Addr) (fd : FuncData) (ps : List Str) (sp : Shared → Sp) : Prop where
  len : ∀ s vs H Q E, sp s vs H Q E → vs.length = ps.length
  run : ∀ (A : Around) (outer : List Env) (s : Shared) (H : Hp) (args : Args) (us : List Value) (vs : List V) (Q : VK) (E : XK), Room k A → Env0 P w K mg base A outer s H → BindsTo s fd args (ps.zip us) → Vals vs us → sp s vs H Q E →
    codeAny (model P w) A (.call (.ref f) args) (CR CX0 outer P w H s Q E) s
section
variable {P : Program} {w : World} {K : PySem.W.Frag} {mg : Str → Option Value} {base : Heap}
theorem Fun.okS {x qual : Str} {st : Stmt} {f : Addr} {fd : FuncData} {N ps : List Str} {k : Nat} {sp : Shared → Sp} (F : Fun K x qual st f fd) (S : FnScope N ps (defScope st)) (len : ∀ s vs H Q E, sp s vs H Q E → vs.length = ps.length)
    (hbody : ∀ (cdv : Value) (A : Around) (outer : List Env) (s : Shared) (H : Hp) (vs : List V) (Q : VK) (E : XK), Room k (A.deeper (envOfC qual (defScope st) s.heap.objs.size f cdv)) → sp s vs H Q E →
      ∃ t, PSs (cxOf CX0 P w K mg base N qual (defScope st) f cdv A outer s H E).nox (defBody st) t ∧ t { nx := fun _ H' => Q .non H', rt := Q } (start N vs) H) : RunS P w K mg base (k + 1) f fd ps sp := by
  obtain ⟨oc, od, kV, doc, pm, an, cdv, ct, osl, rfl, lk, hcd⟩ := F.ex
  refine ⟨len, fun A outer s H args us vs Q E hr e0 hb r hsp => ?_⟩
  have hl := len _ _ _ _ _ hsp
  have KX : K.In s.heap := e0.mod.kin.keeps fun b o e => (e0.bs b o e).1
  have lim : s.heap.NoLimit := e0.mod.nolimit.keeps fun b o e => (e0.bs b o e).1
  have hkind : ∀ y ∈ ps.zip us, (defScope st).names.lookup y.1 = some .local ∨ ((defScope st).names.lookup y.1 = some .cell ∧ ((cellsFrom (s.heap.objs.size + 1) (defScope st).names []).lookup y.1).isSome = true) := fun ⟨n, v⟩ hy => by
    rcases S.par n (List.of_mem_zip hy).1 with q | q
    · exact .inl q
    · exact .inr ⟨q, PySem.W.cellsFrom_some _ _ _ (.inl q)⟩
  refine codeAny_call_function hr.depth (KX _ _ lk) rfl S.co S.gen rfl (PySem.W.codeRec_of KX hcd) (hb _ _ _ _ ?_)
  refine wpAny_newFunctionEnv_cells S.kind hkind fun env he s1 x => ?_
  subst he
  refine ⟨lim.keeps x.toInCall.keep, codeAny_func ?_⟩
  obtain ⟨t, ht, hq⟩ := hbody cdv A outer s H vs Q E (hr.deeper _) hsp
  have I : Inv (cxOf CX0 P w K mg base N qual (defScope st) f cdv A outer s H E) [] (start N vs) H s1 := inv_start S hr.hd e0 hl r x
  refine wpAny_mono (ht.nox [] s1 (start N vs) H _ I hq) (fun fl s' hs => ?_) fun e s' hs => hs
  have fin : ∀ {σ' : St} {H' : Hp} {v : V} {u : Value}, Inv (cxOf CX0 P w K mg base N qual (defScope st) f cdv A outer s H E) [] σ' H' s' → RelV v u → Q v H' → CE outer P w H s Q u s' :=
    fun {σ' H' v u} J rv q => ⟨v, H', J.os, J.bare, J.base, J.hok, rv, q⟩
  cases fl with
  | ret u =>
    obtain ⟨v, σ', H', J, rv, q⟩ := hs
    exact fin J rv q
  | next =>
    obtain ⟨σ', H', J, q⟩ := hs
    exact fin (v := V.non) (u := Value.none) J rfl q
  | brk =>
    obtain ⟨_, _, _, q⟩ := hs
    exact False.elim q
  | cont =>
    obtain ⟨_, _, _, q⟩ := hs
    exact False.elim q
end
section
variable {X : Cx} {k : Nat} {f : Addr} {fd : FuncData} {ps : List Str} {x : Str} {p pos : Pos} {e : Expr} {es : List Expr} {t : TA} {te : TE}
theorem pe_callS {sp : Shared → Sp} (F : RunS X.prog X.w X.K X.mg X.base k f fd ps sp) (hr : Room k X.A) (hg : Gl X x) (hm : X.mg x = some (.ref f)) (hk : PySem.W.keepIn X.K (.ref f) = true) (hb : Binds X.K fd ps [])
    (ha : PA X (e :: es) t) (hdb : (x == ("__debug__" : Str)) = false := by decide) (he : starEach (e :: es) X.env = (false, eval e X.env) :: starEach es X.env := by rfl) (hpl : (backTo pos (starEach es X.env)).any (·.1) = false := by rfl) :
    PE X (.Call (.Name x p) (e :: es) [] pos) (fun σ H Q => t σ H fun vs H1 => ∀ pins s, Inv X pins σ H1 s → sp s vs H1 Q E0) := by
  intro pins s σ H Q I h
  refine wpAny_Call_Name_kw (ld_glob I hg hm ?_ hdb)
  refine PySem.W.callWith_K (h₀ := X.base) I.ok.mod.kin hk (thn (ha pos pins s σ H _ I h) fun us s1 ⟨vs, H1, I1, r, q⟩ => ⟨I1.kIn, ?_⟩) he hpl
  have hs := q pins s1 I1
  have hl : us.length = ps.length := by rw [← r.length]; exact F.len _ _ _ _ _ hs
  have hbb := hb s1 us I1.kIn (by rw [List.append_nil]; exact hl)
  rw [List.append_nil] at hbb
  refine wpAny_call (codeAny_mono (F.run X.A X.stack s1 H1 ⟨us, []⟩ us vs Q E0 hr I1.env0 hbb r hs) fun r s' hq => ?_)
  cases r with
  | error e => exact False.elim hq
  | ok fl =>
    cases fl with
    | ret u => exact I1.after hq
    | next => exact False.elim hq
    | brk => exact False.elim hq
    | cont => exact False.elim hq
end
/-! ### the lambda's own run -/
noncomputable def lamCx (P : Program) (w : World) (K : PySem.W.Frag) (mg : Str → Option Value) (base : Heap) (N : List Str) (qual : Str) (scope : Scope) (f c : Addr) (cl : List (Str × Addr)) (A : Around) (outer : List Env) (s : Shared) (H : Hp) : Cx where
  prog := P
  w := w
  K := K
  mg := mg
  base := base
  A := A.deeper (PySem.W.envX qual scope s.heap.objs.size f (.ref c) cl)
  N := N
  s₀ := s
  H₀ := H
  env := PySem.W.envX qual scope s.heap.objs.size f (.ref c) cl
  outer := outer
  stack := PySem.W.envX qual scope s.heap.objs.size f (.ref c) cl :: outer
  ex := []
  calm := true
  fn := fun _ => false
  pn := []
  xe := fun e s' => wpAny (model P w) (A.deeper (PySem.W.envX qual scope s.heap.objs.size f (.ref c) cl)) (leaving (PySem.W.envX qual scope s.heap.objs.size f (.ref c) cl) e) (fun _ _ => False) (fun _ _ => False) s'
section
variable {P : Program} {w : World} {K : PySem.W.Frag} {mg : Str → Option Value} {base : Heap}
end
end L2
namespace L2
open PySem PySem.Spec PyProof.Rows
set_option maxRecDepth 100000
set_option maxHeartbeats 3900000
/-! ### a def whose code is known; the law's call where defs make lambdas -/
section
variable {P : Program} {w : World} {K : PySem.W.Frag} {mg : Str → Option Value} {base : Heap}
theorem Fun.okC {x qual : Str} {st : Stmt} {f : Addr} {fd : FuncData} {N ps : List Str} {k : Nat} {sp : Sp} (F : Fun K x qual st f fd) (S : FnScope N ps (defScope st)) (len : ∀ vs H Q E, sp vs H Q E → vs.length = ps.length)
    (hbody : ∀ (cdv : Value) (A : Around) (outer : List Env) (s : Shared) (H : Hp) (vs : List V) (Q : VK) (E : XK), fd.code = cdv → Room k (A.deeper (envOfC qual (defScope st) s.heap.objs.size f cdv)) → sp vs H Q E →
      ∃ t, PSs (cxOf CX0 P w K mg base N qual (defScope st) f cdv A outer s H E).nox (defBody st) t ∧ t { nx := fun _ H' => Q .non H', rt := Q } (start N vs) H) : FnOk P w K mg base CX0 (k + 1) f fd ps sp := by
  obtain ⟨oc, od, kV, doc, pm, an, cdv, ct, osl, rfl, lk, hcd⟩ := F.ex
  refine fn_of lk hcd S len fun A outer s H vs Q E hr hsp => ?_
  obtain ⟨t, h, q⟩ := hbody cdv A outer s H vs Q E rfl hr hsp
  exact ⟨t, h.nox, q⟩
theorem tab_code {x : Str} {c Pt f : Addr} {oc : Value} {od : Option Addr} {fd : FuncData} {sl : Array (Option Value)} (a : PySem.W.nsIn K mainGlobals x = some (some (.ref f))) (l : K.lookup f = some ⟨oc, od, .func fd, sl⟩) (t : PySem.W.tabIn K x = some (c, Pt)) : fd.code = .ref c := by
  unfold PySem.W.tabIn at t
  rw [a] at t
  simp only [l] at t
  split at t
  · rename_i c2 hc
    split at t
    · split at t
      · cases t; exact hc
      · cases t
    · cases t
  · cases t
theorem law_callT {tabs : List (Addr × Addr)} {mb : Str → Option Value} {k : Nat} {fa a : Addr} {fd : FuncData} {x : Str} {sp : Sp} {s₁ : Shared} {vs : List Value} {ns : List Int}
    (KX : K.In s₁.heap) (noT : PySem.W.noTabs K = true) (hT : PySem.W.TabsAt tabs s₁.heap) (hns : s₁.heap.Ns mainGlobals mg) (hb : s₁.heap.Ns builtinsNs mb) (hbb : ∀ x : Str, x ≠ "__name__" → mb x = bootBuiltins x) (hbm : BltAt mg s₁.heap) (hlim : s₁.heap.NoLimit) (hg : s₁.gens = #[])
    (ha : s₁.heap.get? a = some { cls := .type "list", data := .seq vs.toArray }) (hi : IntsAre vs ns) (hl : ns.length ≤ sizeLine) (hr : Room k callerA)
    (F : ∀ base : Heap, K.In base → base.Ns mainGlobals mg → BltAt mg base → (∀ q ∈ tabs, PySem.W.CodeHd base q.1 q.2) → FnOk P w K mg base CX0 k fa fd [x] sp) (hbind : ∀ (s : Shared) (u : Value), BindsTo s fd ⟨[u], []⟩ [(x, u)])
    (hsp : ∀ H : Hp, SqL K H a (ns.map V.int) → (∀ q ∈ tabs, H q.2 = some (.tbl #[])) → sp [.ref a] H (fun v _ => v = .bl true) fun _ _ _ => False) :
    codeAny (model P w) callerA (.call (.ref fa) ⟨[.ref a], []⟩) (fun r s' => r = .ok (.ret (.bool true)) ∧ OldK s₁.heap s'.heap ∧ s'.os = s₁.os ∧ AllBare s'.gens) s₁ := by
  have rv := vals_ints hi
  have lenV := hi.length
  have tabK : ∀ q ∈ tabs, K.lookup q.2 = none := fun q hq => by
    cases e : K.lookup q.2 with
    | none => rfl
    | some o =>
      have e1 := KX _ _ e
      rw [(hT q hq).2] at e1
      cases e1
      have h2 := List.all_eq_true.mp noT (q.2, PySem.W.tabObj #[]) (PySem.W.mem_of_lookupK e)
      exact (Bool.false_ne_true (show false = true from h2)).elim
  have aT : ∀ q ∈ tabs, q.2 ≠ a := fun q hq z => by
    have e := (hT q hq).2
    rw [z, ha] at e
    cases e
  have core : ∀ H : Hp, SqL K H a (ns.map V.int) → HOk P w H s₁.heap → (∀ q ∈ tabs, H q.2 = some (.tbl #[])) → (∀ b u, H b = some u → (b = a ∧ K.lookup a = none ∧ ∃ o xs, u = .frz o (.lst xs)) ∨ (∃ q ∈ tabs, b = q.2)) →
      codeAny (model P w) callerA (.call (.ref fa) ⟨[.ref a], []⟩) (fun r s' => r = .ok (.ret (.bool true)) ∧ OldK s₁.heap s'.heap ∧ s'.os = s₁.os ∧ AllBare s'.gens) s₁ := by
    intro H hS hok hTH hA
    have base_of : ∀ {b : Addr} {o : Obj}, s₁.heap.get? b = some o → H b = none → (hidT s₁.heap H).get? b = some o := fun e n => hidT_get e n
    have noH : ∀ {b : Addr} {o : Obj}, s₁.heap.get? b = some o → o ≠ { cls := .type "list", data := .seq vs.toArray } → o ≠ PySem.W.tabObj #[] → H b = none := fun {b o} e n1 n2 => by
      cases q : H b with
      | none => rfl
      | some u =>
        rcases hA b u q with ⟨rfl, _⟩ | ⟨r, hr, rfl⟩
        · rw [ha] at e; cases e; exact absurd rfl n1
        · rw [(hT r hr).2] at e; cases e; exact absurd rfl n2
    have nsK : ∀ {b : Addr} {m : Str → Option Value}, s₁.heap.Ns b m → (hidT s₁.heap H).Ns b m := fun {b m} ⟨o, es, ep, e, d, r⟩ => ⟨o, es, ep, base_of e (noH e (fun z => by rw [z] at d; cases d) (fun z => by rw [z] at d; cases d)), d, r⟩
    have hKb : K.In (hidT s₁.heap H) := fun b o e => base_of (KX b o e) (by
      cases q : H b with
      | none => rfl
      | some u =>
        rcases hA b u q with ⟨rfl, hn, _⟩ | ⟨r, hr, rfl⟩
        · rw [hn] at e; cases e
        · rw [tabK r hr] at e; cases e)
    have hM : Mod K mg (hidT s₁.heap H) := ⟨hKb, nsK hns, ⟨mb, nsK hb, hbb⟩, let ⟨mc, h1, h2⟩ := hlim; ⟨mc, nsK h1, h2⟩⟩
    have hBB : BltAt mg (hidT s₁.heap H) := by
      obtain ⟨bm, ob, b1, b2, b3, b4, b5, b6⟩ := hbm
      exact ⟨bm, ob, b1, b2, base_of b3 (noH b3 (fun z => by rw [z] at b4; exact absurd (Value.type.inj b4) (by decide)) (fun z => by rw [z] at b4; cases b4)), b4, b5, b6⟩
    have hCC : ∀ q ∈ tabs, PySem.W.CodeHd (hidT s₁.heap H) q.1 q.2 := fun q hq => by
      obtain ⟨o, cvs, file, tf, flags, tg, inF, text, tt, e1, e2, r⟩ := (hT q hq).1
      exact ⟨o, cvs, file, tf, flags, tg, inF, text, tt, base_of e1 (noH e1 (fun z => by rw [z] at e2; exact absurd (Value.type.inj e2) (by decide)) (fun z => by rw [z] at e2; cases e2)), e2, r⟩
    have e0 : Env0 P w K mg (hidT s₁.heap H) callerA [] s₁ H := ⟨rfl, hM, fun b o e => of_hidT e, Nat.le_of_eq (hidT_size _ _), trivial, fun b hb => absurd (show b ∈ ([] : List Addr) from hb) (by simp), hok, .of_eq hg⟩
    refine codeAny_mono ((F _ hKb (nsK hns) hBB hCC).run callerA [] s₁ H ⟨[.ref a], []⟩ [.ref a] [.ref a] _ _ hr e0 (hbind s₁ (.ref a)) (.cons rfl .nil) (hsp H hS hTH)) fun r s' h => ?_
    cases r with
    | error e => exact False.elim h
    | ok fl =>
      cases fl with
      | next => exact False.elim h
      | brk => exact False.elim h
      | cont => exact False.elim h
      | ret u =>
        obtain ⟨v, H', os, bare, un, hok', r', q⟩ := h
        have q' : v = .bl true := q
        subst q'
        obtain rfl : u = Value.bool true := r'
        have keep : ∀ b o, s₁.heap.get? b = some o → s'.heap.get? b = some o ∨ ∃ q ∈ tabs, b = q.2 ∧ o = PySem.W.tabObj #[] ∧ ∃ ps, s'.heap.get? b = some (PySem.W.tabObj ps) := fun b o e => by
          cases q : H b with
          | none => exact .inl (un.keep b o e q (by intro z; exact absurd (show b ∈ ([] : List Addr) from z) (by simp)) (by simp))
          | some u =>
            rcases hA b u q with ⟨rfl, _, ob, xs, rfl⟩ | ⟨r, hr, rfl⟩
            · have z2 := un.frzs _ ob _ q
              obtain ⟨e1, _⟩ := hok _ _ q
              obtain ⟨e2, _⟩ := hok' _ _ z2
              rw [e] at e1
              cases e1
              exact .inl e2
            · obtain ⟨more, hm⟩ := un.tbls _ _ (hTH r hr)
              have e2 := (hT r hr).2
              rw [e] at e2
              exact .inr ⟨r, hr, rfl, Option.some.inj e2, _, hok' _ _ hm⟩
        refine ⟨rfl, ⟨fun b o e => ?_, fun b o e => ?_⟩, os, bare⟩
        · rcases keep b o e with h | ⟨q, hq, rfl, rfl, ps, hP⟩
          · exact .inl h
          · exact .inr (.inl ⟨((hT q hq).1.tab (hT q hq).2).isCodeTable, rfl, #[], ps, rfl, by rw [Array.empty_append]; exact hP⟩)
        · rcases keep b o e with h | ⟨q, hq, rfl, rfl, ps, hP⟩
          · exact ⟨_, h⟩
          · exact ⟨_, hP⟩
  cases hk : K.lookup a with
  | some o =>
    have e := KX a o hk
    rw [ha] at e
    cases e
    refine core (fun b => if b ∈ tabs.map (·.2) then some (.tbl #[]) else none) (.inr ⟨_, vs.toArray, _, hk, rfl, rfl, rfl, by rw [List.size_toArray, lenV]; exact hl, by simpa using rv⟩) (fun b u z => ?_) (fun q hq => if_pos (List.mem_map_of_mem hq)) fun b u z => ?_
    · by_cases hbt : b ∈ tabs.map (·.2)
      · have z' := (if_pos hbt).symm.trans z
        cases z'
        obtain ⟨q, hq, rfl⟩ := List.mem_map.mp hbt
        exact (hT q hq).2
      · have z' := (if_neg hbt).symm.trans z
        cases z'
    · by_cases hbt : b ∈ tabs.map (·.2)
      · obtain ⟨q, hq, rfl⟩ := List.mem_map.mp hbt
        exact .inr ⟨q, hq, rfl⟩
      · have z' := (if_neg hbt).symm.trans z
        cases z'
  | none =>
    have hif : ∀ b, b = a → (if b = a then some (HO.frz { cls := .type "list", data := .seq vs.toArray } (.lst (ns.map V.int))) else if b ∈ tabs.map (·.2) then some (.tbl #[]) else none) = some (HO.frz { cls := .type "list", data := .seq vs.toArray } (.lst (ns.map V.int))) := fun b hb => if_pos hb
    refine core (fun b => if b = a then some (.frz { cls := .type "list", data := .seq vs.toArray } (.lst (ns.map V.int))) else if b ∈ tabs.map (·.2) then some (.tbl #[]) else none) (.inl (.inr ⟨{ cls := .type "list", data := .seq vs.toArray }, if_pos rfl⟩)) (fun b u z => ?_) (fun q hq => (if_neg (aT q hq)).trans (if_pos (List.mem_map_of_mem hq))) fun b u z => ?_
    · by_cases hb : b = a
      · have z' := (if_pos hb).symm.trans z
        cases z'
        subst hb
        exact ⟨ha, by rw [List.length_map]; exact hl, vs, _, rv, ha⟩
      · have z := (if_neg hb).symm.trans z
        by_cases hbt : b ∈ tabs.map (·.2)
        · have z' := (if_pos hbt).symm.trans z
          cases z'
          obtain ⟨q, hq, rfl⟩ := List.mem_map.mp hbt
          exact (hT q hq).2
        · have z' := (if_neg hbt).symm.trans z
          cases z'
    · by_cases hb : b = a
      · have z' := (if_pos hb).symm.trans z
        cases z'
        exact .inl ⟨hb, hk, _, _, rfl⟩
      · have z := (if_neg hb).symm.trans z
        by_cases hbt : b ∈ tabs.map (·.2)
        · obtain ⟨q, hq, rfl⟩ := List.mem_map.mp hbt
          exact .inr ⟨q, hq, rfl⟩
        · have z' := (if_neg hbt).symm.trans z
          cases z'
end
/-- the goal that k_head leaves, where defs of the program make lambdas: tabs w are the codes and tables of these defs -/
theorem walk_ofT {l : PySem.W.OpenLaw} {n k : Nat} {q : Program} {loose : List Str} {XP : (Str → Option Value) → Heap → Prop} {YP : World → Heap → Prop} {d : DefRec} {K : Params → PySem.W.Frag} {sp : World → Sp} {x : Str} {tabs : World → List (Addr × Addr)}
    (hn : l.most = some n) (hn2 : n ≤ sizeLine) (hdf : d.params.defaults = []) (hr : Room k callerA)
    (hY : ∀ (w : World) (h : Heap), YP w h → (K w.params).In h) (noT : ∀ w : World, PySem.W.noTabs (K w.params) = true)
    (hT : ∀ (w : World) {mean : ExcName → Option Value} {lo : List Str} {mg mb : Str → Option Value} {h : Heap}, Top q lo mean mg mb h → (K w.params).In h → PySem.W.TabsAt (tabs w) h)
    (F : ∀ (w : World) (mg : Str → Option Value) (fa : Addr) (h : Heap), (K w.params).In h → h.Ns mainGlobals mg → mg d.name = some (.ref fa) →
      ∃ fd : FuncData, (∀ (s : Shared) (u : Value), BindsTo s fd ⟨[u], []⟩ [(x, u)]) ∧
        ∀ base : Heap, (K w.params).In base → base.Ns mainGlobals mg → BltAt mg base → (∀ q ∈ tabs w, PySem.W.CodeHd base q.1 q.2) → FnOk l.prog w (K w.params) mg base CX0 k fa fd [x] (sp w))
    (hsp : ∀ (w : World) (H : Hp) (a : Addr) (ns : List Int), ns.length ≤ n → SqL (K w.params) H a (ns.map V.int) → (∀ q ∈ tabs w, H q.2 = some (.tbl #[])) → sp w [.ref a] H (fun v _ => v = .bl true) fun _ _ _ => False) :
    PySem.W.WalkO q loose XP YP l.row.toRowW d [] (fun f vs => PySem.call f vs) := by
  refine Att.attach_call hn hdf fun w s₀ s₁ mg mb fa o pm cd doc a vs ns G Y ho hd hcd hmg hobj hints hlen hg => ?_
  have KX := hY w _ Y
  obtain ⟨fd, hb, hF⟩ := F w mg fa _ KX G.T.g hmg
  exact law_callT KX (noT w) (hT w G.T KX) G.T.g G.T.b G.T.builtins G.T.bmain G.T.nolimit hg hobj hints (Nat.le_trans hlen hn2) hr hF hb fun H hS hTH => hsp w H a ns hlen hS hTH
/-- the code and the table of a def of the module, as its written part tells them -/
noncomputable def tabOf (K : PySem.W.Frag) (x : Str) : Addr × Addr := (PySem.W.tabIn K x).getD (0, 0)
theorem tabOf_is {K : PySem.W.Frag} {x : Str} (h : (PySem.W.tabIn K x).isSome = true) : PySem.W.tabIn K x = some (tabOf K x) := by
  unfold tabOf
  cases e : PySem.W.tabIn K x with
  | none => rw [e] at h; cases h
  | some q => rfl
theorem tabs_nil {h : Heap} : PySem.W.TabsAt [] h := fun _ hq => (nomatch hq)
theorem tabs_cons {q : Program} {lo : List Str} {mean : ExcName → Option Value} {mg mb : Str → Option Value} {h : Heap} {K : PySem.W.Frag} {x : Str} {d : DefRec} {l : List (Addr × Addr)} (T : Top q lo mean mg mb h) (X : K.In h) (hr : (recsOf q).find? (fun e => e.name == x) = some d)
    (hs : (PySem.W.tabIn K x).isSome = true) (hl : PySem.W.TabsAt l h) : PySem.W.TabsAt (tabOf K x :: l) h := List.forall_mem_cons.mpr ⟨PySem.W.tab_of (c := (tabOf K x).1) (P := (tabOf K x).2) T X hr (tabOf_is hs), hl⟩
end L2
/-! a dict that stands at the top of a module, its keys texts: d[x], x in d, d.get(x, y) -/
namespace L2
open PySem PySem.Spec PyProof.Rows
set_option maxRecDepth 100000
/-- the dict at a holds D -/
noncomputable def VTab (h : Heap) (a : Addr) (D : List (Str × V)) : Prop := KTD.TabOf (fun (v : V) (u : Value) => RelV v u) h a D
noncomputable def vLook : V → Value → Bool
  | .non, .none => true
  | .bl b, .bool c => b == c
  | .int i, .int j _ => i == j
  | .str x, .str y _ => x == y
  | .ref a, .ref b => a == b
  | _, _ => false
theorem vLook_is (v : V) (u : Value) (h : vLook v u = true) : RelV v u := by
  cases v <;> cases u <;> first | exact Bool.noConfusion h | rfl | (have e := beq_iff_eq.mp h; subst e; first | rfl | exact ⟨_, rfl⟩)
noncomputable def vOf : Value → V
  | .bool b => .bl b
  | .int i _ => .int i
  | .str x _ => .str x
  | .ref a => .ref a
  | _ => .non
/-- the dict at a, as the written part has it -/
noncomputable def tabV (K : PySem.W.Frag) (a : Addr) : List (Str × V) := match K.lookup a with
  | some ⟨_, _, .dict es _, _⟩ => es.toList.map fun e => ((match e.key with | .str x _ => x | _ => ""), vOf e.val)
  | _ => []
noncomputable def okTab (K : PySem.W.Frag) (a : Addr) : Bool := KTD.tabLook vLook (fun b => K.lookup b) a (tabV K a)
theorem vtab_of {K : PySem.W.Frag} {h : Heap} {a : Addr} (X : K.In h) (e : okTab K a = true) : VTab h a (tabV K a) := KTD.tab_of_look vLook_is (fun b o q => X b o q) e
theorem VTab.typeIs {s : Shared} {a : Addr} {D : List (Str × V)} (T : VTab s.heap a D) : s.TypeIs (.ref a) "dict" := by
  obtain ⟨_, o, _, _, ho, hc, _⟩ := T
  exact ⟨o, ho, hc.1⟩
theorem VTab.noDict {h : Heap} {a : Addr} {D : List (Str × V)} (T : VTab h a D) : ∀ b, Value.ref a = .ref b → ∃ ob, h.get? b = some ob ∧ ob.dict = none := fun b e => by
  cases e
  obtain ⟨_, o, _, _, ho, hc, _⟩ := T
  exact ⟨o, ho, hc.2.1⟩
section
variable {prog : Program} {w : World} {A : Around} {E : Value → Shared → Prop} {s : Shared} {a : Addr} {D : List (Str × V)} {x : Str} {tk : Tok}
theorem kd_find {Q : Option Value → Shared → Prop} (T : VTab s.heap a D) (h1 : ∀ v u, KTD.datumAt x D = some v → RelV v u → Q (some u) { s with toks := s.toks + 1 }) (h2 : KTD.datumAt x D = none → Q none { s with toks := s.toks + 1 }) :
    wpAny (model prog w) A (dictGet a (.str x tk)) Q E s := by
  obtain ⟨_, o, es, ep, ho, hc, hd, hr⟩ := T
  have hal : (es.all fun e => isExactStrKey e.key) = true := by
    have z := hr.exact
    obtain ⟨l⟩ := es
    simpa using z
  have hf : findBy (fun k v => v.isStr k) es x = (es.toList.find? fun e => e.key.isStr x).map (·.val) := by obtain ⟨l⟩ := es; simp [findBy]
  have hq : Q (findBy (fun k v => v.isStr k) es x) { s with toks := s.toks + 1 } := by
    rw [hf]
    cases e : KTD.datumAt x D with
    | none => rw [hr.find_none e]; exact h2 e
    | some v => obtain ⟨u, z1, z2⟩ := hr.find_some e; rw [z1]; exact h1 v u e z2
  rw [findBy_of_findIdx?] at hq
  unfold dictGet
  refine wpAny_bind (wpAny_pyHash_str (wpAny_bind (KTD.kt_dictFind_strs (s := { s with toks := s.toks + 1 }) ho hd hal ?_)))
  cases e : es.findIdx? fun e => e.key.isStr x with
  | none => rw [e] at hq; exact wpAny_pure hq
  | some i => rw [e] at hq; exact wpAny_bind (wpAny_dictEntries (s := { s with toks := s.toks + 1 }) ho hd (wpAny_pure hq))
theorem kd_item {Q : Value → Shared → Prop} {v : V} (T : VTab s.heap a D) (hv : KTD.datumAt x D = some v) (h : ∀ u, RelV v u → Q u { s with toks := s.toks + 1 }) : wpAny (model prog w) A (getItem (.ref a) (.str x tk)) Q E s := by
  unfold getItem
  try (with_reducible refine wpAny_holding ?_)
  refine wpAny_bind (wpAny_sequenceKey (T.typeIs) (by decide) ?_)
  refine wpAny_bind (wpAny_callSpecial?_slot (name := Str.ofString "__getitem__") T.typeIs PySem.F.slot_dict_getitem (wpAny_call_entry PySem.F.slot_dict_getitem T.typeIs PySem.F.entry_dict_getitem ?_ (PySem.F.args_dict_getitem_2 _ _)))
  show wpAny _ _ (dictGet a (.str x tk) >>= _) _ _ s
  exact wpAny_bind (kd_find T (fun v' u e r => by rw [hv] at e; cases e; exact wpAny_pure ⟨u, rfl, wpAny_pure (h u r)⟩) fun e => by rw [hv] at e; cases e)
theorem kd_in {Q : Value → Shared → Prop} (T : VTab s.heap a D) (h : Q (.bool (KTD.datumAt x D).isSome) { s with toks := s.toks + 1 }) : wpAny (model prog w) A (compareOp .In (.str x tk) (.ref a)) Q E s := by
  show wpAny _ _ (do return .bool (← contains (.ref a) (.str x tk))) Q E s
  refine wpAny_bind ?_
  unfold contains
  try (with_reducible refine wpAny_holding ?_)
  refine wpAny_bind (wpAny_specialOf T.typeIs PySem.F.slot_dict_contains.lookup ?_)
  show wpAny _ _ (if (some (Value.builtin "dict.__contains__") == some Value.none) = true then _ else _) _ _ s
  rw [if_neg (by decide)]
  refine wpAny_bind (wpAny_callSpecialUnlessNone?_slot (name := Str.ofString "__contains__") T.typeIs PySem.F.slot_dict_contains (wpAny_call_entry PySem.F.slot_dict_contains T.typeIs PySem.F.entry_dict_contains ?_ (PySem.F.args_dict_contains_2 _ _)))
  show wpAny _ _ (dictGet a (.str x tk) >>= _) _ _ s
  refine wpAny_bind (kd_find T (fun v u e _ => ?_) fun e => ?_)
  · rw [e] at h
    exact (wpAny_pure ⟨_, rfl, wpAny_truthy_bool (wpAny_pure h)⟩)
  · rw [e] at h
    show wpAny _ _ (Builtin.Dict.pendingKey? a (.str x tk) >>= _) _ _ _
    exact wpAny_bind (wpAny_pendingKey_other T.1 (wpAny_pure ⟨_, rfl, wpAny_truthy_bool (wpAny_pure h)⟩))
theorem kd_meets {dflt : Value} : MeetsIn prog w (Builtin.«dict.get» ⟨[.ref a, .str x tk, dflt], []⟩) (fun _ R s => VTab s.heap a D ∧ (∀ v u, KTD.datumAt x D = some v → RelV v u → R (.ok (.ret u)) { s with toks := s.toks + 1 }) ∧ (KTD.datumAt x D = none → R (.ok (.ret dflt)) { s with toks := s.toks + 1 })) :=
  .of_wp fun A₁ R s ⟨T, h1, h2⟩ => by
    show wpAny _ _ (dictGet a (.str x tk) >>= _) _ _ s
    refine wpAny_bind (kd_find T (fun v u e r => wpAny_pure ⟨u, rfl, h1 v u e r⟩) fun e => ?_)
    show wpAny _ _ (Builtin.Dict.missed a (.str x tk) >>= _) _ _ _
    exact wpAny_bind (wpAny_missed_other T.1 (wpAny_pure ⟨dflt, rfl, h2 e⟩))
theorem kd_get2 {Q : Value → Shared → Prop} {dflt : Value} (T : VTab s.heap a D) (h1 : ∀ v u, KTD.datumAt x D = some v → RelV v u → Q u { s with toks := s.toks + 1 }) (h2 : KTD.datumAt x D = none → Q dflt { s with toks := s.toks + 1 }) :
    wpAny (model prog w) A (call (.builtin "dict.get") [.ref a, .str x tk, dflt]) Q E s :=
  call_meetsIn PySem.F.slot_dict_get T.typeIs PySem.F.entry_dict_get (PySem.F.args_dict_get_3 _ _ _) (kd_meets (D := D)) ⟨T, h1, h2⟩
end
section
variable {X : Cx} {o i e f : Expr} {pos apos cpos : Pos} {td ty tx : TE} {a : Addr} {D : List (Str × V)}
/-- d[x] -/
noncomputable def tKix (a : Addr) (D : List (Str × V)) (td ty : TE) : TE := fun σ H Q => td σ H fun u H1 => ty σ H1 fun y H2 => ∃ x v, u = .ref a ∧ y = .str x ∧ KTD.datumAt x D = some v ∧ Q v H2
theorem pe_kix (hT : ∀ h, X.K.In h → VTab h a D) (ho : PE X o td) (hi : PE X i ty) (hs : NoSl i) : PE X (.Subscript o i pos) (tKix a D td ty) := by
  intro pins s σ H Q I h
  refine subD_of PySem.F.slot_dict_getitem.lookup hs (thn (ho pins s σ H _ I h) fun u s1 ⟨x', H1, I1, rx, q1⟩ => thn (hi pins s1 σ H1 _ I1 q1) fun iv s2 ⟨y, H2, I2, ry, x, v, ex, ey, g, q2⟩ => ?_)
  subst ex ey
  obtain rfl : u = Value.ref a := rx
  obtain ⟨tk, rfl⟩ := ry
  exact ⟨(hT _ I2.kIn).typeIs, kd_item (hT _ I2.kIn) g fun u r => ⟨v, H2, I2.tok _, r, q2⟩⟩
/-- x in d -/
noncomputable def tKin (a : Addr) (D : List (Str × V)) (ty td : TE) : TE := fun σ H Q => ty σ H fun y H1 => td σ H1 fun u H2 => ∃ x, u = .ref a ∧ y = .str x ∧ Q (.bl (KTD.datumAt x D).isSome) H2
theorem pc_kin (hT : ∀ h, X.K.In h → VTab h a D) (hi : PE X i ty) (ho : PE X o td) : PC X .In i o (tKin a D ty td) := by
  intro pins s σ H Q I h
  refine thn (hi pins s σ H _ I h) fun iv s1 ⟨y, H1, I1, ry, q1⟩ => thn (ho pins s1 σ H1 _ I1 q1) fun u s2 ⟨x', H2, I2, rx, x, ex, ey, q2⟩ => ?_
  subst ex ey
  obtain rfl : u = Value.ref a := rx
  obtain ⟨tk, rfl⟩ := ry
  exact kd_in (hT _ I2.kIn) ⟨.bl _, H2, I2.tok _, rfl, q2⟩
/-- d.get(x, y) -/
noncomputable def tKget (a : Addr) (D : List (Str × V)) (td ty tx : TE) : TE := fun σ H Q => td σ H fun u H1 => u = .ref a ∧ ty σ H1 fun y H2 => tx σ H2 fun z H3 => ∃ x, y = .str x ∧ Q ((KTD.datumAt x D).getD z) H3
theorem pe_kget2 (hT : ∀ h, X.K.In h → VTab h a D) (ho : PE X o td) (he : PE X e ty) (hf : PE X f tx) (m : M2 X o "get" apos e f cpos) : PE X (.Call (.Attribute o "get" apos) [e, f] [] cpos) (tKget a D td ty tx) := by
  intro pins s σ H Q I h
  refine wpAny_Call_method m.base m.few m.line PySem.F.plainAttrs_dict PySem.F.slot_dict_get PySem.F.type_dict_get (thn (ho pins s σ H _ I h) fun u s1 ⟨x', H1, I1, rx, ex, q1⟩ => ?_)
  subst ex
  obtain rfl : u = Value.ref a := rx
  refine ⟨(hT _ I1.kIn).typeIs, (hT _ I1.kIn).noDict, ?_⟩
  rw [m.trees]
  refine Calls.callWith_builtin rfl (Calls.evalArgs_plain (Calls.spliced_cons (thn (he pins s1 σ H1 _ I1 q1) fun iv s2 ⟨y, H2, I2, ry, q2⟩ => Calls.spliced_cons (thn (hf pins s2 σ H2 _ I2 q2) fun fv s3 ⟨z, H3, I3, rz, x, ey, q3⟩ => Calls.spliced_nil ?_))))
  subst ey
  obtain ⟨tk, rfl⟩ := ry
  refine kd_get2 (hT _ I3.kIn) (fun v u e r => ⟨v, H3, I3.tok _, r, ?_⟩) fun e => ⟨z, H3, I3.tok _, rz, ?_⟩
  · rw [e] at q3; exact q3
  · rw [e] at q3; exact q3
end
end L2
/-! range(i, -1, -1); a comprehension over a range whose element changes the heap -/
namespace L2
open PySem PySem.Spec PyProof.Rows
set_option maxRecDepth 100000
/-- hi, hi - 1, .. (n of them) -/
noncomputable def Itd (hi : Int) (n : Nat) : It := ⟨fun i _ => i < n, fun i H x H' => H' = H ∧ x = .int (hi - i), fun i _ => n ≤ i⟩
theorem turn_down {P : Program} {w : World} {K : PySem.W.Frag} {tg : Expr} (it : Addr) (hi : Int) (n : Nat) : Turn P w K tg (Itd hi n) [it] it (fun i h => IsRangeIter h it (hi + (i : Nat) * (-1)) ((n : Int) - (i : Nat)) (-1)) where
  mem := by simp
  obj := fun i h st b hb => by
    have e : b = it := by simpa using hb
    subst e
    refine ⟨_, st, fun v z => ?_⟩
    cases (show Data.fields _ = Data.cell v from z)
  keep := fun i h h' st k => k it (by simp) _ st
  item := by
    intro X hP hw hK hc i pins s σ H E I hf st hg
    subst hP hw hK
    obtain ⟨f0, f1, f2, f3, f4, f5⟩ := hf it (by simp)
    refine (Walks.range (prog := X.prog) (w := X.w) (I.ok.hd hc) it hi (-1) n).item i s _ _ hg st fun v h' tk hv st' kk => ?_
    obtain ⟨t, rfl⟩ := hv
    have I1 : Inv X pins σ H { s with heap := h', toks := tk } := I.turned (fun b o hb e => kk b o (by simpa using hb) e) f0 f1 f3 f4 f5
    refine ⟨_, rfl, go_of (s := { s with heap := h', toks := tk }) (n := "range_iterator") st' rfl rfl (by decide) ⟨.int (hi - i), H, I1, ⟨t, ?_⟩, ⟨rfl, rfl⟩, st', fun b hb => (hf b hb).1⟩⟩
    rw [Int.mul_neg, Int.mul_one, Int.sub_eq_add_neg]
  done := by
    intro X hP hw hK hc i pins s σ H E I hf st hg
    subst hP hw hK
    obtain ⟨f0, f1, f2, f3, f4, f5⟩ := hf it (by simp)
    exact wpAny_pyNext_range_end (I.ok.hd hc) st (by have : n ≤ i := hg; omega) fun h' eb => ⟨rfl, I.turned (t' := s.toks) (fun b o hb e => eb b o hb e) f0 f1 f3 f4 f5⟩
  self := fun _ _ _ _ _ st h => wpAny_pyIter_rangeiter st h
theorem size_down {i : Int} (h : -1 ≤ i) : Builtin.Range.rangeSize i (-1) (-1) = i + 1 := by
  (unfold Builtin.Range.rangeSize)
  rw [if_neg (by decide)]
  split
  · rw [show (-(-1) : Int) = 1 from rfl, Int.ediv_one]; omega
  · omega
theorem small_down {i : Int} (h : -1 ≤ i) (h2 : i < 2 ^ 61) : Builtin.Range.small i (-1) (-1) = true := by
  unfold Builtin.Range.small
  rw [size_down h]
  simp only [Builtin.Range.rangeFitsLong, Bool.and_eq_true, Bool.or_eq_true, decide_eq_true_eq, beq_iff_eq]
  exact ⟨⟨⟨⟨⟨by omega, by omega⟩, by decide, by decide⟩, by decide, by decide⟩, by omega, by omega⟩, .inr (by decide)⟩
section
variable {X : Cx} {tg : Expr}
noncomputable def iDown (ta : TA) : TI := fun σ H R => ta σ H fun vs H1 => ∃ i : Int, vs = [.int i, .int (-1), .int (-1)] ∧ (-1 ≤ i ∧ i < 2 ^ 61) ∧ R (Itd i (i + 1).toNat) H1
theorem down_it {pins : List (Addr × Obj)} {σ : St} {H : Hp} {s : Shared} {R : It → Hp → Prop} {E : Value → Shared → Prop} {i : Int} {t u v : Tok} {tk : Nat} (I : Inv X pins σ H s) (h1 : -1 ≤ i) (h2 : i < 2 ^ 61) (q : R (Itd i (i + 1).toNat) H) :
    wpAny (model X.prog X.w) X.A (pyIter (.ref s.heap.objs.size)) (PIE X pins σ tg R) E { s with heap := s.heap.push { cls := .type "range", data := .fields #[.int i t, .int (-1) u, .int (-1) v] }, toks := tk } := by
  refine wpAny_pyIter_range (IsRange.new ..) (small_down h1 h2) ?_
  have I1 : Inv X pins σ H { s with heap := s.heap.push { cls := .type "range", data := .fields #[.int i t, .int (-1) u, .int (-1) v] }, toks := tk } := I.kept fun b o e => Heap.get?_push_of_some _ e
  generalize s.heap.push { cls := .type "range", data := .fields #[.int i t, .int (-1) u, .int (-1) v] } = h3 at I1 ⊢
  refine ⟨h3.objs.size, [h3.objs.size], _, _, H, rfl, I1.kept (t' := tk) fun b o e => Heap.get?_push_of_some _ e, turn_down _ i (i + 1).toNat, ?_, fun b hb => ?_, q⟩
  · show IsRangeIter _ _ (i + ((0 : Nat) : Int) * (-1)) ((((i + 1).toNat : Nat) : Int) - ((0 : Nat) : Int)) (-1)
    rw [show i + ((0 : Nat) : Int) * (-1) = i by simp, show (((i + 1).toNat : Nat) : Int) - ((0 : Nat) : Int) = Builtin.Range.rangeSize i (-1) (-1) by rw [size_down h1]; omega]
    exact Heap.get?_push_size _ rfl
  · have e : b = h3.objs.size := by simpa using hb
    subst e
    exact I1.fpOk (Nat.le_refl _) (I1.hok.fresh (Nat.le_refl _))
theorem pi_down {a b c : Expr} {ta : TA} {p pos : Pos} (hg : Gl X "range") (hm : X.mg "range" = none) (ha : PA X [a, b, c] ta) (hs : starEach [a, b, c] X.env = (false, eval a X.env) :: starEach [b, c] X.env := by rfl) (hs2 : (backTo pos (starEach [b, c] X.env)).any (·.1) = false := by rfl) :
    PI X tg (.Call (.Name "range" p) [a, b, c] [] pos) (iDown ta) := by
  intro pins s σ H R I h
  refine Call_ (ld_blt I hg hm boot_range (PyProof.Rows.callWith_type1 (thn (ha pos pins s σ H _ I h) fun us s1 ⟨vs, H1, I1, r1, q1⟩ => ?_) hs hs2))
  obtain ⟨i, e, ⟨q1, q2⟩, q⟩ := q1
  subst e
  cases r1 with
  | cons r rr =>
    cases rr with
    | cons r' rr =>
      cases rr with
      | cons r2 rr =>
        cases rr
        obtain ⟨t, rfl⟩ := r
        obtain ⟨t', rfl⟩ := r'
        obtain ⟨t2, rfl⟩ := r2
        exact call_range_3 (by decide) (down_it I1 q1 q2 q) (Or.inl (PyProof.noPylong_small (by omega)))
end
theorem for_down {hi : Int} {n : Nat} {g : TG} {tb : TS} {D : Ends} {σ : St} {H : Hp} (Pv : Nat → St → Hp → Prop) (h0 : Pv 0 σ H)
    (hs : ∀ i σ H, i < n → Pv i σ H → g (.int (hi - (i : Nat))) σ H fun σ2 H2 => tb { D with nx := Pv (i + 1), ct := Pv (i + 1), bk := D.nx } σ2 H2) (hd : ∀ σ H, Pv n σ H → D.nx σ H) :
    ∃ W : Nat → Nat → St → Hp → Prop, (∃ m, W 0 m σ H) ∧ ∀ i m σ H, W i m σ H →
      ((Itd hi n).stop i H ∧ D.nx σ H) ∨ ((Itd hi n).go i H ∧ ∃ N : St → Hp → Prop, (∀ σ' H', N σ' H' → ∃ m', m' < m ∧ W (i + 1) m' σ' H') ∧ ∀ x H', (Itd hi n).yld i H x H' → g x σ H' fun σ2 H2 => tb { D with nx := N, ct := N, bk := D.nx } σ2 H2) := by
  refine ⟨fun i m σ H => m = n - i ∧ i ≤ n ∧ Pv i σ H, ⟨n, by simp, Nat.zero_le _, h0⟩, ?_⟩
  rintro i m σ H ⟨rfl, hi', p⟩
  by_cases hlt : i < n
  · exact .inr ⟨hlt, Pv (i + 1), fun σ' H' p' => ⟨n - (i + 1), by omega, rfl, hlt, p'⟩, fun x H' ⟨z1, z2⟩ => by subst z1 z2; exact hs i σ _ hlt p⟩
  · have e : i = n := by omega
    subst e
    exact .inl ⟨Nat.le_refl _, hd σ H p⟩
/-- behind a turn -/
noncomputable def CpF (cp : St) (P : Hp → List V → Prop) : St → Hp → List V → Prop := fun σ H zs => (∃ o : St, o.length = 1 ∧ σ = o ++ cp) ∧ P H zs
theorem CpF.mk {cp : St} {P : Hp → List V → Prop} {x : Option V} {H : Hp} {zs : List V} (h : P H zs) : CpF cp P (x :: cp) H zs := ⟨⟨[x], rfl, rfl⟩, h⟩
/-- a comprehension over a range: whatever the element does to the heap -/
theorem comp_rngF {cp : St} {te : TE} {Q : VK} {n : Nat} {H1 : Hp} {lo : Int} (Pv : Nat → Hp → List V → Prop) (hz : n ≤ sizeLine) (h0 : Pv 0 H1 []) (hlen : ∀ i H zs, Pv i H zs → zs.length ≤ i)
    (step : ∀ i H zs, i < n → Pv i H zs → te (some (.int (lo + (i : Nat))) :: cp) H fun v H5 => CpF cp (Pv (i + 1)) (some (.int (lo + (i : Nat))) :: cp) H5 (zs ++ [v])) (done : ∀ H zs, Pv n H zs → ∀ p, H p = none → Q (.ref p) (upd H p (.lst zs))) :
    ∃ W : Nat → Nat → St → Hp → List V → Prop, (∃ m, W 0 m (List.replicate 1 none ++ cp) H1 []) ∧ CompW (Itr lo n) (gName 0) tTrue te Q W := by
  refine ⟨fun i m σ H zs => m = n - i ∧ i ≤ n ∧ CpF cp (Pv i) σ H zs, ⟨n, by simp, Nat.zero_le _, ⟨_, by simp, rfl⟩, h0⟩, ?_⟩
  rintro i m σ H zs ⟨rfl, hi, ⟨o, ho, rfl⟩, pv⟩
  have hl := hlen _ _ _ pv
  by_cases hlt : i < n
  · refine .inr ⟨hlt, by omega, CpF cp (Pv (i + 1)), fun σ2 H2 zs2 q => ⟨n - (i + 1), by omega, rfl, hlt, q⟩, fun x H2 y => ?_⟩
    obtain ⟨z, rfl⟩ := one_of ho
    obtain ⟨rfl, rfl⟩ := y
    exact step i _ zs hlt pv
  · have e : i = n := by omega
    subst e
    exact .inl ⟨Nat.le_refl _, by omega, done H zs pv⟩
end L2
/-! what stays where lists and dicts change; a function handed in, of any arguments -/
namespace L2
open PySem PySem.Spec PyProof.Rows
set_option maxRecDepth 100000
noncomputable def Tup (H H' : Hp) : Prop := ∀ b o, H b = some o → ((∃ xs, o = .tup xs) ∨ ∃ ob u, o = .frz ob u) → H' b = some o
theorem Tup.trans {H H1 H2 : Hp} (a : Tup H H1) (b : Tup H1 H2) : Tup H H2 := fun c o h k => b c o (a c o h k) k
theorem Same.tup {H H' : Hp} (s : Same H H') : Tup H H' := fun b o h _ => s b o h
theorem Tup.upd {H : Hp} {a : Addr} {o : HO} (h : ∀ u, H a = some u → (∃ xs, u = .lst xs) ∨ ∃ kvs, u = .dK kvs) : Tup H (upd H a o) := fun b u e k => by
  have ne : b ≠ a := fun z => by
    subst z
    rcases h u e with ⟨xs, rfl⟩ | ⟨kvs, rfl⟩ <;> rcases k with ⟨_, z⟩ | ⟨_, _, z⟩ <;> cases z
  rw [upd_ne ne]
  exact e
theorem Tup.lst {H : Hp} {a : Addr} {xs : List V} {o : HO} (h : H a = some (.lst xs)) : Tup H (L2.upd H a o) := Tup.upd fun u e => .inl ⟨xs, by rw [h] at e; exact (Option.some.inj e).symm⟩
theorem Tup.dct {H : Hp} {a : Addr} {kvs : List (Key × V)} {o : HO} (h : H a = some (.dK kvs)) : Tup H (L2.upd H a o) := Tup.upd fun u e => .inr ⟨kvs, by rw [h] at e; exact (Option.some.inj e).symm⟩
theorem Tup.seqT {K : PySem.W.Frag} {H H' : Hp} {a : Addr} {xs : List V} (e : Tup H H') (h : SqT K H a xs) : SqT K H' a xs := by
  rcases h with h | h
  · refine .inl ?_
    rcases h with h | ⟨o, h⟩
    · exact .inl (e _ _ h (.inl ⟨xs, rfl⟩))
    · exact .inr ⟨o, e _ _ h (.inr ⟨o, _, rfl⟩)⟩
  · exact .inr h
/-- a thing made later is written -/
theorem Same.put {H H' : Hp} {a : Addr} {o : HO} (s : Same H H') (h : H a = none) : Same H (L2.upd H' a o) := fun b u e => by
  rw [upd_ne (ne_of_none e h)]
  exact s b u e
/-- a function handed in: it is there, and keeps R -/
structure FnV (P : Program) (w : World) (K : PySem.W.Frag) (mg : Str → Option Value) (base : Heap) (k : Nat) (s : Shared) (H : Hp) (f : Addr) (R : List V → Hp → VK → Prop) : Prop where
  here : (∃ φ : Heap → Prop, H f = some (.ext φ) ∧ ∀ h, φ h → PySem.W.FnAt f h) ∨ ∀ h, K.In h → PySem.W.FnAt f h
  run : ∀ (A : Around) (outer : List Env) (s' : Shared) (H' : Hp) (vs : List V) (us : List Value) (Q : VK), Room k A → Env0 P w K mg base A outer s' H' → Same H H' →
    (∀ c o, s.heap.get? c = some o → H c = none → H' c = none ∧ ∃ sl, s'.heap.get? c = some { o with slots := sl }) → Vals vs us → R vs H' Q → codeAny (model P w) A (.call (.ref f) ⟨us, []⟩) (CR CX0 outer P w H' s' Q E0) s'
theorem FnV.ofK {P : Program} {w : World} {K : PySem.W.Frag} {mg : Str → Option Value} {base : Heap} {k : Nat} {s : Shared} {H : Hp} {f : Addr} {fd : FuncData} {ps : List Str} {sp : Sp} {x qual : Str} {st : Stmt} (F : FnOk P w K mg base CX0 k f fd ps sp) (G : Fun K x qual st f fd) (hb : Binds K fd ps []) :
    FnV P w K mg base k s H f (fun vs H' Q => sp vs H' Q E0) := by
  refine ⟨.inr fun h X => ?_, fun A outer s' H' vs us Q hr e0 _ _ r q => ?_⟩
  · obtain ⟨oc, od, kV, doc, pm, an, cdv, ct, osl, rfl, lk, _⟩ := G.ex
    exact ⟨_, _, _, _, X _ _ lk⟩
  · have KX : K.In s'.heap := e0.mod.kin.keeps fun b o e => (e0.bs b o e).1
    have hl : us.length = ps.length := by rw [← r.length]; exact F.len _ _ _ _ q
    have hbb := hb s' us KX (by rw [List.append_nil]; exact hl)
    rw [List.append_nil] at hbb
    exact F.run A outer s' H' ⟨us, []⟩ us vs Q E0 hr e0 hbb r q
section
variable {X : Cx} {k : Nat} {f : Addr} {x : Str} {p pos : Pos} {e : Expr} {es : List Expr} {t : TA} {R : List V → Hp → VK → Prop}
theorem pe_callFn {i : Nat} (L : FnV X.prog X.w X.K X.mg X.base k X.s₀ X.H₀ f R) (hr : Room k X.A) (hex : X.ex = []) (hN : X.N[i]? = some x) (hv : Vis X.env.scope x) (ha : PA X (e :: es) t)
    (hd : (x == ("__debug__" : Str)) = false := by decide) (hcd : (x == ("__classdict__" : Str)) = false := by decide) (he : starEach (e :: es) X.env = (false, eval e X.env) :: starEach es X.env := by rfl) (hpl : (backTo pos (starEach es X.env)).any (·.1) = false := by rfl) :
    PE X (.Call (.Name x p) (e :: es) [] pos) (fun σ H Q => σ[i]? = some (some (.ref f)) ∧ Same X.H₀ H ∧ t σ H fun vs H1 => Same X.H₀ H1 ∧ R vs H1 Q) := by
  intro pins s σ H Q I ⟨hσ, sm, h⟩
  have fnat : ∀ {σ : St} {H1 : Hp} {s1 : Shared}, Inv X pins σ H1 s1 → Same X.H₀ H1 → PySem.W.FnAt f s1.heap := fun I1 sm1 => by
    rcases L.here with ⟨φ, hφ, hfn⟩ | z
    · exact hfn _ (I1.hok f _ (sm1 _ _ hφ)).1
    · exact z _ I1.kIn
  refine wpAny_Call_Name_kw (thn (pe_var hN hv hd hcd pins s σ H (fun v H1 => v = .ref f ∧ H1 = H) I ⟨_, hσ, rfl, rfl⟩) fun u s1 ⟨v, H1, I1, r, e1, e2⟩ => ?_)
  subst e1 e2
  cases r
  refine PySem.W.callWith_F (fnat I1 sm) (thn (ha pos pins s1 σ H1 _ I1 h) fun us s2 ⟨vs, H2, I2, rv, sm2, hq⟩ => ⟨fnat I2 sm2, ?_⟩) he hpl
  refine wpAny_call (codeAny_mono (L.run X.A X.stack s2 H2 vs us Q hr I2.env0 sm2 (fun c o hc hn => ?_) rv hq) fun r s' hq => ?_)
  · have hcx : c ∉ X.ex := by rw [hex]; simp
    exact ⟨I2.base.free c o hc hn hcx, I2.base.any hc hn hcx⟩
  cases r with
  | error e => exact False.elim hq
  | ok fl =>
    cases fl with
    | ret u => exact I2.after hq
    | next => exact False.elim hq
    | brk => exact False.elim hq
    | cont => exact False.elim hq
end
/-- o.pop(), within a comprehension too -/
theorem pe_pop {X : Cx} (K : PySem.W.Frag) (hK : X.K = K) {o : Expr} {to : TE} {apos cpos : Pos} (ho : PE X o to) (hbase : attributeBase o "pop" X.env (eval o X.env) = eval o X.env := by rfl) (hline : (apos.endLine == cpos.line) = true := by rfl) :
    PE X (.Call (.Attribute o "pop" apos) [] [] cpos) (tBM0 K "list" rPop to) := hK ▸ pe_bm0 PySem.F.plainAttrs_list PySem.F.slot_list_pop PySem.F.type_list_pop mt_pop ho hbase hline
end L2
/-! what is barred by what is barred; one row more -/
namespace Bw
end Bw
/-! deeds that keep the span -/
namespace Bw
section
variable {p : Int} {n : Nat} {L L' L'' : List (List Int)}
end
end Bw
namespace S21
open PySem L2 Bw
set_option maxHeartbeats 3900000
noncomputable def top (i : Nat) : Stmt := PySem.Challenge.pw_bentwires_k23_late.main.body.getD i (.Pass ⟨0, 0, 0, 0⟩)
noncomputable abbrev sTurned : Stmt := top 9
noncomputable abbrev sAdded : Stmt := top 10
noncomputable abbrev sSummed : Stmt := top 11
noncomputable abbrev sReduced : Stmt := top 13
noncomputable abbrev sLed : Stmt := top 14
noncomputable abbrev sCleared : Stmt := top 15
noncomputable abbrev sBarred : Stmt := top 18
noncomputable abbrev s_wires : Stmt := top 23
noncomputable abbrev s_folded : Stmt := top 24
noncomputable abbrev s_all_folded : Stmt := top 25
noncomputable abbrev s_measured : Stmt := top 28
noncomputable abbrev s_measure : Stmt := top 29
noncomputable abbrev s_plain : Stmt := top 34
noncomputable abbrev s_forms : Stmt := top 35
noncomputable abbrev s_refuse_late : Stmt := top 36
noncomputable abbrev s_form : Stmt := top 37
noncomputable abbrev s_form_of_back : Stmt := top 38
noncomputable abbrev s_form_of_beside : Stmt := top 39
noncomputable abbrev s_form_of_then : Stmt := top 40
noncomputable abbrev s_facing : Stmt := top 41
noncomputable abbrev s_stands : Stmt := top 44
noncomputable abbrev s_setting : Stmt := top 45
noncomputable abbrev s_bar : Stmt := top 46
noncomputable abbrev s_law_hand : Stmt := top 56
noncomputable abbrev sDraw : Stmt := top 57
noncomputable abbrev s_law_box : Stmt := top 58
noncomputable abbrev s_law_ids : Stmt := top 59
noncomputable abbrev s_law_padded : Stmt := top 60
noncomputable abbrev s_law_next : Stmt := top 61
noncomputable abbrev s_law_joined : Stmt := top 62
noncomputable abbrev s_law_fits : Stmt := top 63
noncomputable abbrev sGrown : Stmt := top 64
noncomputable abbrev sPrime : Stmt := top 65
noncomputable abbrev s_law_delayed : Stmt := top 66
noncomputable abbrev s_law_late : Stmt := top 67
noncomputable abbrev s_law : Stmt := top 68

/-- what the module's names are -/
structure Txt (mg : Str → Option Value) : Prop where
  range : mg "range" = none
  zip : mg "zip" = none
  tuple : mg "tuple" = none
  list : mg "list" = none
  int : mg "int" = none
  bool : mg "bool" = none
  isinstance : mg "isinstance" = none
  len : mg "len" = none
  sum : mg "sum" = none
  max : mg "max" = none
  min : mg "min" = none
  enumerate : mg "enumerate" = none
  any : mg "any" = none
  all : mg "all" = none
theorem getD_of {r : List Int} {j : Nat} (h : j < r.length) : r[j]? = some (r.getD j 0) := by
  rw [List.getElem?_eq_getElem h, List.getD_eq_getElem?_getD, List.getElem?_eq_getElem h]; rfl
theorem atRow {r : List Int} {j : Nat} (h : j < r.length) : (r.map V.int)[j]? = some (.int (r.getD j 0)) := by
  rw [List.getElem?_map, getD_of h]; rfl
theorem iteNe {c A B : Prop} [Decidable c] (h1 : ¬ c → A) (h2 : c → B) : if (!decide c) = true then A else B := by
  by_cases h : c
  · exact iteNS h (h2 h)
  · rw [decide_eq_false h]; exact iteT (h1 h)

section
variable {K : PySem.W.Frag}
theorem rowAt {H : Hp} {RS : List V} {rs : List (List Int)} {i : Nat} {x : V} (hA : HasA K H RS (rs.map intsT)) (hx : RS[i]? = some x) : ∃ r a, rs[i]? = some r ∧ x = .ref a ∧ SqT K H a (r.map V.int) := by
  obtain ⟨d, hd, hx'⟩ := hA.get hx
  rw [List.getElem?_map] at hd
  cases e : rs[i]? with
  | none => rw [e] at hd; cases hd
  | some r =>
    rw [e] at hd
    cases hd
    obtain ⟨a, rfl, ha⟩ := hasT hx'
    exact ⟨r, a, rfl, rfl, ha⟩
theorem lenA {H : Hp} {RS : List V} {rs : List (List Int)} (hA : HasA K H RS (rs.map intsT)) : RS.length = rs.length := by rw [hA.length, List.length_map]
end

/-! ### an item of a list of bounded ints -/
open Classical in
theorem iteNeD' {d e : PySem.W.Dat} {A B : Prop} (h : d ≠ e) (b : A) : if (if true = true then !decide (d = e) else decide (d = e)) = true then A else B := by
  simp only [if_true, decide_eq_false h, Bool.not_false]
  exact b

theorem redI_len {p : Int} {n : Nat} {L : List (List Int)} : ∀ k, (redI p n L k).1.length ≤ k ∧ (redI p n L k).2.length = L.length
  | 0 => ⟨Nat.le_refl _, rfl⟩
  | k + 1 => by
    obtain ⟨h1, h2⟩ := redI_len (p := p) (n := n) (L := L) k
    rw [redI]
    unfold stepM
    split
    · exact ⟨by omega, h2⟩
    · constructor
      · show (_ ++ [_]).length ≤ _
        rw [List.length_append, List.length_map, List.length_singleton]; omega
      · show (List.map _ _).length = _
        rw [List.length_map]; exact h2

theorem redM_len {p : Int} {n : Nat} {L : List (List Int)} (h : Rws p n L) : (redM p L).length ≤ n := by
  by_cases hne : L = []
  · subst hne; exact Nat.zero_le _
  · have := (redI_len (p := p) (n := lenM L) (L := L) (lenM L)).1
    rw [lenM_eq h hne] at this
    unfold redM
    rw [lenM_eq h hne]
    exact this

end S21
namespace L2
open PySem PySem.Spec PyProof.Rows
set_option maxHeartbeats 3900000
section
variable {P : Program} {w : World} {K : PySem.W.Frag} {mg : Str → Option Value} {base : Heap}
/-- a def that calls none of the text's: it wants no room -/
theorem ok_flat {x qual : Str} {st : Stmt} {f : Addr} {fd : FuncData} {N ps : List Str} {sp : Sp} (F : Fun K x qual st f fd) (S : FnScope N ps (defScope st)) (len : ∀ vs H Q E, sp vs H Q E → vs.length = ps.length)
    (hbody : ∀ (cdv : Value) (A : Around) (outer : List Env) (s : Shared) (H : Hp) (vs : List V) (Q : VK) (E : XK), sp vs H Q E →
      ∃ t, PSs (cxOf CX0 P w K mg base N qual (defScope st) f cdv A outer s H E).nox (defBody st) t ∧ t { nx := fun _ H' => Q .non H', rt := Q } (start N vs) H) : FnOk P w K mg base CX0 0 f fd ps sp := by
  obtain ⟨oc, od, kV, doc, pm, an, cdv, ct, osl, rfl, lk, hcd⟩ := F.ex
  refine ⟨len, fun A outer s H args us vs Q E hr e0 hb r hsp => ?_⟩
  have hl := len _ _ _ _ hsp
  have KX : K.In s.heap := e0.mod.kin.keeps fun b o e => (e0.bs b o e).1
  have lim : s.heap.NoLimit := e0.mod.nolimit.keeps fun b o e => (e0.bs b o e).1
  have hkind : ∀ y ∈ ps.zip us, (defScope st).names.lookup y.1 = some .local ∨ ((defScope st).names.lookup y.1 = some .cell ∧ ((cellsFrom (s.heap.objs.size + 1) (defScope st).names []).lookup y.1).isSome = true) := fun ⟨n, v⟩ hy => by
    rcases S.par n (List.of_mem_zip hy).1 with q | q
    · exact .inl q
    · exact .inr ⟨q, PySem.W.cellsFrom_some _ _ _ (.inl q)⟩
  refine codeAny_call_function hr.depth (KX _ _ lk) rfl S.co S.gen rfl (PySem.W.codeRec_of KX hcd) (hb _ _ _ _ ?_)
  refine wpAny_newFunctionEnv_cells S.kind hkind fun env he s1 x => ?_
  subst he
  refine ⟨lim.keeps x.toInCall.keep, codeAny_func ?_⟩
  obtain ⟨t, ht, hq⟩ := hbody cdv A outer s H vs Q E hsp
  have I : Inv (cxOf CX0 P w K mg base N qual (defScope st) f cdv A outer s H E) [] (start N vs) H s1 := inv_start S hr.hd e0 hl r x
  refine wpAny_mono (ht.nox [] s1 (start N vs) H _ I hq) (fun fl s' hs => ?_) fun e s' hs => hs
  have fin : ∀ {σ' : St} {H' : Hp} {v : V} {u : Value}, Inv (cxOf CX0 P w K mg base N qual (defScope st) f cdv A outer s H E) [] σ' H' s' → RelV v u → Q v H' → CE outer P w H s Q u s' :=
    fun {σ' H' v u} J rv q => ⟨v, H', J.os, J.bare, J.base, J.hok, rv, q⟩
  cases fl with
  | ret u =>
    obtain ⟨v, σ', H', J, rv, q⟩ := hs
    exact fin J rv q
  | next =>
    obtain ⟨σ', H', J, q⟩ := hs
    exact fin (v := V.non) (u := Value.none) J rfl q
  | brk =>
    obtain ⟨_, _, _, q⟩ := hs
    exact False.elim q
  | cont =>
    obtain ⟨_, _, _, q⟩ := hs
    exact False.elim q
end
end L2
/-! the law's own reduced list -/
namespace Bw
end Bw
/-! rows in steps: what is left of a row by them; the greedy walk through lists that grow -/
namespace Bw
section
variable {p : Int} {n : Nat}
end
end Bw
namespace S21
open PySem L2 Bw
set_option maxHeartbeats 3900000
theorem nd0 : (["number", "more", "factor", "p"] : List Str).Nodup := by decide +kernel
/-! ### the promises -/
noncomputable def spTurned : Sp := fun vs H Q _ => ∃ p n : Int, vs = [.int p, .int n] ∧ 2 ≤ p ∧ p ≤ 97 ∧ Q (.int (turnM p n)) H
noncomputable def spAdded (K : PySem.W.Frag) : Sp := fun vs H Q _ => ∃ (p f : Int) (a b : Addr) (r o : List Int), vs = [.int p, .ref a, .int f, .ref b] ∧ 2 ≤ p ∧ p ≤ 97 ∧ -1000 ≤ f ∧ f ≤ 1000 ∧ SqT K H a (r.map V.int) ∧ SqT K H b (o.map V.int) ∧ r.length = o.length ∧ r.length ≤ 1000 ∧
  AnyT K H ((addM p r f o).map V.int) Q
noncomputable def spSummed (K : PySem.W.Frag) : Sp := fun vs H Q _ => ∃ (p n : Int) (a b : Addr) (b1 b2 : Bool) (RS : List V) (rs : List (List Int)) (fs : List Int), vs = [.int p, .ref a, .ref b, .int n] ∧ 2 ≤ p ∧ p ≤ 97 ∧ 0 ≤ n ∧ n ≤ 1000 ∧
  Sq b1 K H a RS ∧ HasA K H RS (rs.map intsT) ∧ Sq b2 K H b (fs.map V.int) ∧ rs.length = fs.length ∧ rs.length ≤ 1000 ∧ (∀ r ∈ rs, r.length = n.toNat) ∧ (∀ f ∈ fs, 0 ≤ f ∧ f < p) ∧
  AnyT K H ((sumM p (rs.zip fs) (List.replicate n.toNat 0)).map V.int) Q

section
variable {P : Program} {w : World} {K : PySem.W.Frag} {mg : Str → Option Value} {base : Heap}
/-! ### turned -/
theorem scT : FnScope ["p", "number", "power", "step"] ["p", "number"] (defScope sTurned) := ⟨rfl, rfl, rfl, by decide +kernel, rfl, by decide +kernel, by decide +kernel⟩
theorem ok_turned {f : Addr} {fd : FuncData} (F : Fun K "turned" "turned" sTurned f fd) (T : Txt mg) : FnOk P w K mg base CX0 1 f fd ["p", "number"] spTurned := by
  refine F.ok scT (fun vs H Q E h => ?_) (fun cdv A outer s H vs Q E hr h => ?_)
  · obtain ⟨p, n, rfl, _⟩ := h
    rfl
  · obtain ⟨p, n, rfl, p2, p97, k⟩ := h
    refine ⟨_, pss_cons (ps_set (i := 2) scT.nd rfl (Or.inl rfl) pe_int)
      (pss_cons (ps_for PassesOwn.never rfl (pi_range1 rfl T.range (pa_cons (pe_op op_sub (pv 0) pe_int) pa_nil)) (pg_name (i := 3) scT.nd rfl (Or.inl rfl))
        (pss_one (ps_set (i := 2) scT.nd rfl (Or.inl rfl) (pe_op op_mod (pe_op op_mul (pv 2) (pv 1)) (pv 0)))))
      (pss_one (ps_ret (pv 2)))), ?_⟩
    refine ⟨_, rfl, _, _, rfl, rfl, p - 2, rfl, by omega, by omega, for_range (n := (p - 2).toNat) (fun i σ H' => H' = H ∧ ∃ st, σ = [some (.int p), some (.int n), some (.int (turnI p n i)), st]) ⟨rfl, none, rfl⟩ ?_ ?_⟩
    · rintro i σ H' hi ⟨rfl, st, rfl⟩
      have hb := turnI_bound (n := n) p2 i
      exact ⟨_, rfl, _, rfl, _, _, rfl, rfl, .inl ⟨by omega, by omega⟩, _, rfl, _, _, rfl, rfl, by omega, rfl, _, rfl⟩
    · rintro σ H' ⟨rfl, st, rfl⟩
      exact ⟨_, rfl, k⟩
/-! ### added -/
theorem scA : FnScope ["p", "row", "factor", "other"] ["p", "row", "factor", "other"] (defScope sAdded) := ⟨rfl, rfl, rfl, by decide +kernel, rfl, by decide +kernel, by decide +kernel⟩
theorem ok_added0 {f : Addr} {fd : FuncData} (F : Fun K "added" "added" sAdded f fd) (T : Txt mg) : FnOk P w K mg base CX0 0 f fd ["p", "row", "factor", "other"] (spAdded K) := by
  refine ok_flat F scA (fun vs H Q E h => ?_) (fun cdv A outer s H vs Q E h => ?_)
  · obtain ⟨p, f, a, b, r, o, rfl, _⟩ := h
    rfl
  · obtain ⟨p, fc, a, b, r, o, rfl, p2, p97, f0, f1, ha, hb, hl, hz, k⟩ := h
    refine ⟨_, pss_one (ps_ret (pe_callTy (cTuple K rfl) rfl T.tuple bt_tuple (pa_cons (pe_comp (N := ["number", "more", "factor", "p"]) (own := 2) (caps := [2, 0]) rfl
      (piZip K rfl false false rfl T.zip (pa_cons (pv 1) (pa_cons (pv 3) pa_nil))) (show BlkScope ["p", "row", "factor", "other"] (defScope sAdded) ["number", "more", "factor", "p"] 2 [2, 0] _ from .mk' (by decide +kernel))
      (fun _ _ _ _ _ => pgTup (n := 2) K rfl rfl (pgs_cons (pg_name (i := 0) nd0 rfl (Or.inl rfl)) (pgs_cons (pg_name (i := 1) nd0 rfl (Or.inl rfl)) pgs_nil))) (fun _ _ _ _ _ => pts_nil)
      (fun _ _ _ _ _ => pe_op op_mod (pe_op op_add (pv 0) (pe_op op_mul (pv 2) (pv 1))) (pv 3))) pa_nil))), ?_⟩
    have ext : (addM p r fc o).length = r.length := by simp [addM, hl]
    refine ⟨_, rfl, _, rfl, a, b, rfl, ⟨_, ha⟩, ⟨_, hb⟩, comp_zip (b1 := false) (b2 := false) (cp := [some (.int fc), some (.int p)]) (fun i H' zs => zs = ((addM p r fc o).take i).map V.int) ha hb (by simp [hl]) (by rw [List.length_map]; exact Nat.le_of_lt (small1000 hz)) rfl
      (fun i H' zs e => by subst e; rw [List.length_map, List.length_take]; omega) (fun i H1 H2 zs _ e => e) ?_ ?_⟩
    · rintro i x y H' zs hx hy sm rfl
      rw [List.getElem?_map] at hx hy
      cases e1 : r[i]? with
      | none => rw [e1] at hx; cases hx
      | some u =>
        cases e2 : o[i]? with
        | none => rw [e2] at hy; cases hy
        | some v =>
          rw [e1] at hx
          rw [e2] at hy
          cases hx
          cases hy
          refine tgo ?_
          refine ⟨_, rfl, _, rfl, _, rfl, _, _, rfl, rfl, .inl ⟨by omega, by omega⟩, _, _, rfl, rfl, _, rfl, _, _, rfl, rfl, by omega, ⟨[_, _], rfl, rfl⟩, sm, ?_⟩
          have e3 : (addM p r fc o)[i]? = some ((u + fc * v) % p) := by
            unfold addM
            rw [List.getElem?_zipWith, e1, e2]
          rw [List.take_add_one, e3]
          simp
    · rintro H' zs sm rfl q hq
      rw [List.length_map, List.take_of_length_le (by omega)]
      refine ⟨q, _, rfl, .inl ⟨.of upd_same, fun l hl => ?_⟩⟩
      exact k _ _ ((sm.trans (.upd hq)).trans (.upd hl)) (.of upd_same)
theorem ok_added {f : Addr} {fd : FuncData} (F : Fun K "added" "added" sAdded f fd) (T : Txt mg) : FnOk P w K mg base CX0 1 f fd ["p", "row", "factor", "other"] (spAdded K) := (ok_added0 F T).mono (by decide)
/-! ### summed -/
theorem sumM_snoc (p : Int) (r : List Int) (f : Int) : ∀ (L : List (List Int × Int)) (t : List Int), sumM p (L ++ [(r, f)]) t = addM p (sumM p L t) f r
  | [], t => rfl
  | (r', f') :: L, t => by
    rw [List.cons_append, sumM, sumM]
    exact sumM_snoc p r f L _
theorem sumM_len {p : Int} {n : Nat} : ∀ (L : List (List Int × Int)) (t : List Int), (∀ q ∈ L, q.1.length = n) → t.length = n → (sumM p L t).length = n
  | [], t, _, h => h
  | (r, f) :: L, t, h, ht => by
    rw [sumM]
    refine sumM_len L _ (fun q hq => h q (List.mem_cons_of_mem _ hq)) ?_
    have := h (r, f) List.mem_cons_self
    simp only at this
    simp [addM, ht, this]
theorem scS : FnScope ["p", "rows", "factors", "length", "total", "row", "factor"] ["p", "rows", "factors", "length"] (defScope sSummed) := ⟨rfl, rfl, rfl, by decide +kernel, rfl, by decide +kernel, by decide +kernel⟩
theorem ok_summed1 {f fA : Addr} {fd fdA : FuncData} (F : Fun K "summed" "summed" sSummed f fd) (T : Txt mg) (FA : Fun K "added" "added" sAdded fA fdA) (bA : Binds K fdA ["p", "row", "factor", "other"] []) (mA : mg "added" = some (.ref fA)) :
    FnOk P w K mg base CX0 1 f fd ["p", "rows", "factors", "length"] (spSummed K) := by
  have GA : FnOk P w K mg base CX0 0 fA fdA ["p", "row", "factor", "other"] (spAdded K) := ok_added0 FA T
  refine F.ok scS (fun vs H Q E h => ?_) (fun cdv A outer s H vs Q E hr h => ?_)
  · obtain ⟨p, n, a, b, b1, b2, RS, rs, fs, rfl, _⟩ := h
    rfl
  · obtain ⟨p, n, a, b, b1, b2, RS, rs, fs, rfl, p2, p97, n0, n1, hq1, hA, hq2, hl, hz, hrl, hfl, k⟩ := h
    refine ⟨_, pss_cons (ps_set (i := 4) scS.nd rfl (Or.inl rfl) (pe_op (opRepT K rfl) (pe_tup (pa_cons pe_int pa_nil)) (pv 3)))
      (pss_cons (ps_for PassesOwn.never rfl (piZip K rfl b1 b2 rfl T.zip (pa_cons (pv 1) (pa_cons (pv 2) pa_nil))) (pgTup (n := 2) K rfl rfl (pgs_cons (pg_name (i := 5) scS.nd rfl (Or.inl rfl)) (pgs_cons (pg_name (i := 6) scS.nd rfl (Or.inl rfl)) pgs_nil)))
        (pss_one (ps_set (i := 4) scS.nd rfl (Or.inl rfl) (pe_call GA hr rfl mA FA.kp bA .nil pass0 (pa_cons (pv 0) (pa_cons (pv 4) (pa_cons (pv 6) (pa_cons (pv 5) pa_nil))))))))
      (pss_one (ps_ret (pv 4)))), ?_⟩
    refine ⟨by decide, fun q hq => ⟨_, rfl, q, n, _, rfl, rfl, .of upd_same, by simp, by omega, by omega, ?_, fun t H1 sm1 ht => ?_⟩⟩
    · have : (1000 : Nat) ≤ sizeLine := by decide
      show 1 * n.toNat ≤ sizeLine
      omega
    have sm0 : Same H H1 := (Same.upd hq).trans sm1
    have eRS : RS.length = (fs.map V.int).length := by rw [hA.length, List.length_map, List.length_map]; exact hl
    have e0 : (List.replicate n.toNat [V.int 0]).flatten = (List.replicate n.toNat (0 : Int)).map V.int := by
      rw [List.map_replicate]
      induction n.toNat with
      | zero => rfl
      | succ m ih => rw [List.replicate_succ, List.flatten_cons, ih, List.replicate_succ]; rfl
    refine ⟨_, rfl, _, rfl, a, b, rfl, ⟨_, sm0.sq hq1⟩, ⟨_, sm0.sq hq2⟩, for_zip (b1 := b1) (b2 := b2) (fun i σ H' => Same H H' ∧ ∃ t st1 st2, σ = [some (.int p), some (.ref a), some (.ref b), some (.int n), some (.ref t), st1, st2] ∧ SqT K H' t ((sumM p ((rs.zip fs).take i) (List.replicate n.toNat 0)).map V.int)) eRS ⟨sm0, t, none, none, rfl, by rw [e0] at ht; exact ht⟩
      (fun i σ H' ⟨sm, _⟩ => ⟨sm.sq hq1, sm.sq hq2⟩) (fun i σ H1 H2 s12 ⟨sm, t, st1, st2, e, ht⟩ => ⟨sm.trans s12, t, st1, st2, e, s12.seqT ht⟩) ?_ ?_⟩
    · rintro i x y σ H' hx hy ⟨sm, t, st1, st2, rfl, ht⟩
      obtain ⟨d, hd, hx'⟩ := hA.get hx
      rw [List.getElem?_map] at hd hy
      cases e1 : rs[i]? with
      | none => rw [e1] at hd; cases hd
      | some r =>
        cases e2 : fs[i]? with
        | none => rw [e2] at hy; cases hy
        | some fc =>
          rw [e1] at hd
          rw [e2] at hy
          cases hd
          cases hy
          obtain ⟨ra, rfl, hra⟩ := hasT hx'
          have hr1 := hrl r (List.mem_of_getElem? e1)
          have hf1 := hfl fc (List.mem_of_getElem? e2)
          have hsl : (sumM p ((rs.zip fs).take i) (List.replicate n.toNat 0)).length = n.toNat := sumM_len _ _ (fun q hq => hrl q.1 (List.of_mem_zip (List.mem_of_mem_take hq)).1) (by simp)
          refine ⟨_, rfl, _, rfl, _, rfl, _, rfl, p, fc, t, ra, _, r, rfl, p2, p97, by omega, by omega, ht, sm.seqT hra, by rw [hsl, hr1], by rw [hsl]; omega, fun t' H2 sm2 ht' => ?_⟩
          refine ⟨sm.trans sm2, t', _, _, rfl, ?_⟩
          have e3 : (rs.zip fs)[i]? = some (r, fc) := by rw [List.getElem?_zip_eq_some]; exact ⟨e1, e2⟩
          rw [List.take_add_one, e3]
          show SqT K H2 t' ((sumM p ((rs.zip fs).take i ++ [(r, fc)]) _).map V.int)
          rw [sumM_snoc]
          exact ht'
    · rintro σ H' ⟨sm, t, st1, st2, rfl, ht⟩
      have e4 : (rs.zip fs).length ≤ RS.length := by rw [List.length_zip, hA.length, List.length_map]; omega
      rw [List.take_of_length_le e4] at ht
      exact ⟨_, rfl, k _ _ sm ht⟩
end
end S21

namespace S21
open PySem L2 Bw
set_option maxHeartbeats 3900000
theorem nd1 : (["row", "place"] : List Str).Nodup := by decide +kernel
theorem nd2 : (["row", "lead", "p", "place"] : List Str).Nodup := by decide +kernel
noncomputable def spCleared (K : PySem.W.Frag) : Sp := fun vs H Q _ => ∃ (p : Int) (a b : Addr) (r o : List Int) (i : Int) (j : Nat), vs = [.int p, .ref a, .ref b, .int i] ∧ i = j ∧ 2 ≤ p ∧ p ≤ 97 ∧ SqT K H a (r.map V.int) ∧ SqT K H b (o.map V.int) ∧ r.length = o.length ∧ j < r.length ∧ r.length ≤ 1000 ∧
  (∀ x ∈ r, 0 ≤ x ∧ x < p) ∧ AnyT K H ((clearM p o j r).map V.int) Q
noncomputable def spReduced (K : PySem.W.Frag) : Sp := fun vs H Q _ => ∃ (p : Int) (a : Addr) (b : Bool) (RS : List V) (rs : List (List Int)) (n : Nat), vs = [.int p, .ref a] ∧ p ∈ primesL ∧ Sq b K H a RS ∧ HasA K H RS (rs.map intsT) ∧ rs.length ≤ 1000 ∧ n ≤ 1000 ∧ Rws p n rs ∧
  ∀ t H' DS, Same H H' → SqT K H' t DS → HasA K H' DS ((redM p rs).map intsT) → Q (.ref t) H'
section
variable {P : Program} {w : World} {K : PySem.W.Frag} {mg : Str → Option Value} {base : Heap}
/-! ### cleared -/
theorem scC : FnScope ["p", "row", "lead", "place"] ["p", "row", "lead", "place"] (defScope sCleared) := ⟨rfl, rfl, rfl, by decide +kernel, rfl, by decide +kernel, by decide +kernel⟩
theorem ok_cleared {f fA : Addr} {fd fdA : FuncData} (F : Fun K "cleared" "cleared" sCleared f fd) (T : Txt mg) (FA : Fun K "added" "added" sAdded fA fdA) (bA : Binds K fdA ["p", "row", "factor", "other"] []) (mA : mg "added" = some (.ref fA)) :
    FnOk P w K mg base CX0 2 f fd ["p", "row", "lead", "place"] (spCleared K) := by
  have GA : FnOk P w K mg base CX0 1 fA fdA ["p", "row", "factor", "other"] (spAdded K) := ok_added FA T
  refine F.ok scC (fun vs H Q E h => ?_) (fun cdv A outer s H vs Q E hr h => ?_)
  · obtain ⟨p, a, b, r, o, i, j, rfl, _⟩ := h
    rfl
  · obtain ⟨p, a, b, r, o, i, j, rfl, rfl, p2, p97, ha, hb, hl, hj, hz, hrp, k⟩ := h
    refine ⟨_, pss_one (ps_ret (pe_ifExp (pt_cmpR op_ne (pe_ix (ixT K rfl) (pv 1) (pv 3) (fun _ _ => rfl)) pe_int (nomark _))
      (pe_call GA hr rfl mA FA.kp bA .nil pass0 (pa_cons (pv 0) (pa_cons (pv 1) (pa_cons (pe_un un_neg (pe_ix (ixT K rfl) (pv 1) (pv 3) (fun _ _ => rfl))) (pa_cons (pv 2) pa_nil))))) (pv 1))), ?_⟩
    have hx := hrp _ (List.mem_of_getElem? (getD_of hj))
    refine ⟨_, rfl, _, rfl, a, _, (j : Int), _, rfl, rfl, ha, atI_nat (atRow hj), rfl, _, rfl, iteNe (fun hne => ?_) (fun heq => ?_)⟩
    · have hne' : r.getD j 0 ≠ 0 := fun z => hne (congrArg V.int z)
      refine ⟨_, rfl, _, rfl, _, rfl, _, rfl, a, _, (j : Int), _, rfl, rfl, ha, atI_nat (atRow hj), _, rfl, _, rfl, p, -(r.getD j 0), a, b, r, o, rfl, p2, p97, by omega, by omega, ha, hb, hl, hz, ?_⟩
      unfold clearM at k
      rw [if_pos hne'] at k
      exact k
    · have heq' : r.getD j 0 = 0 := V.int.inj heq
      unfold clearM at k
      rw [if_neg (fun z => z heq')] at k
      exact ⟨_, rfl, k.old ha⟩
end
end S21

namespace S21
open PySem L2 Bw
set_option maxHeartbeats 3900000
section
variable {P : Program} {w : World} {K : PySem.W.Frag} {mg : Str → Option Value} {base : Heap}
/-! ### reduced -/
noncomputable abbrev nD : List Str := ["p", "rows", "done", "rest", "length", "place", "heads", "lead"]
theorem scD : FnScope ["p", "rows", "done", "rest", "length", "place", "heads", "lead"] ["p", "rows"] (defScope sReduced) := ⟨rfl, rfl, rfl, by decide +kernel, rfl, by decide +kernel, by decide +kernel⟩
/-- [cleared(p, row, lead, place) for row in ..] -/
theorem comp_clear {H : Hp} {l la : Addr} {XS : List V} {xs : List (List Int)} {p : Int} {n place : Nat} {lead : List Int} {Q : VK} {te : TE} (p2 : 2 ≤ p) (p97 : p ≤ 97) (hl : SqL K H l XS) (hA : HasA K H XS (xs.map intsT)) (hx : Rws p n xs) (hz : xs.length ≤ 1000) (hn : n ≤ 1000) (hp : place < n) (hld : lead.length = n) (hla : SqT K H la (lead.map V.int))
    (te_of : ∀ (x : Addr) (H1 : Hp) (R : VK), spCleared K [.int p, .ref x, .ref la, .int (0 + (place : Int))] H1 R (fun _ _ _ => False) → te [some (.ref x), some (.ref la), some (.int p), some (.int (0 + (place : Int)))] H1 R)
    (done : ∀ H' zs, Same H H' → HasA K H' zs ((xs.map (clearM p lead place)).map intsT) → ∀ q, H' q = none → Q (.ref q) (upd H' q (.lst zs))) :
    ∃ W : Nat → Nat → St → Hp → List V → Prop, (∃ m, W 0 m (List.replicate 1 none ++ [some (.ref la), some (.int p), some (.int (0 + (place : Int)))]) H []) ∧ CompW (Itl K l) (gName 0) tTrue te Q W := by
  refine comp_list (cp := [some (.ref la), some (.int p), some (.int (0 + (place : Int)))]) (fun i H' zs => HasA K H' zs (((xs.take i).map (clearM p lead place)).map intsT)) hl (by rw [lenA hA]; exact Nat.le_of_lt (small1000 hz)) .nil
    (fun i H' zs h => by rw [lenA h, List.length_map, List.length_take]; omega) ?_ ?_
  · rintro i x H' zs hx' sm h
    obtain ⟨r, a, hr, rfl, ha⟩ := rowAt hA hx'
    have hR := hx r (List.mem_of_getElem? hr)
    refine tgo (te_of a H' _ ⟨p, a, la, r, lead, 0 + (place : Int), place, rfl, by omega, p2, p97, sm.seqT ha, sm.seqT hla, by rw [hR.1, hld], by rw [hR.1]; exact hp, by rw [hR.1]; exact hn, hR.2, fun t H2 s2 ht => ?_⟩)
    refine ⟨⟨[_], rfl, rfl⟩, sm.trans s2, ?_⟩
    rw [List.take_add_one, hr]
    show HasA K H2 _ (((xs.take i ++ [r]).map (clearM p lead place)).map intsT)
    rw [List.map_append, List.map_append]
    exact (h.mono s2).append (.cons (hasT_of ht) .nil)
  · rintro H' zs sm h q hq
    rw [lenA hA, List.take_length] at h
    exact done H' zs sm h q hq
/-! ### led -/
noncomputable def spLed (K : PySem.W.Frag) : Sp := fun vs H Q _ => ∃ (p : Int) (a : Addr) (r : List Int) (i : Int) (j : Nat), vs = [.int p, .ref a, .int i] ∧ i = j ∧ p ∈ primesL ∧ SqT K H a (r.map V.int) ∧ j < r.length ∧ r.length ≤ 1000 ∧ (∀ x ∈ r, 0 ≤ x ∧ x < p) ∧ r.getD j 0 ≠ 0 ∧
  AnyT K H ((leadM p r.length r j).map V.int) Q
theorem scLead : FnScope ["p", "row", "place"] ["p", "row", "place"] (defScope sLed) := ⟨rfl, rfl, rfl, by decide +kernel, rfl, by decide +kernel, by decide +kernel⟩
theorem ok_led {f fA fT fS : Addr} {fd fdA fdT fdS : FuncData} (F : Fun K "led" "led" sLed f fd) (T : Txt mg) (FA : Fun K "added" "added" sAdded fA fdA) (bA : Binds K fdA ["p", "row", "factor", "other"] []) (mA : mg "added" = some (.ref fA))
    (FT : Fun K "turned" "turned" sTurned fT fdT) (bT : Binds K fdT ["p", "number"] []) (mT : mg "turned" = some (.ref fT)) (FS : Fun K "summed" "summed" sSummed fS fdS) (bS : Binds K fdS ["p", "rows", "factors", "length"] []) (mS : mg "summed" = some (.ref fS)) :
    FnOk P w K mg base CX0 2 f fd ["p", "row", "place"] (spLed K) := by
  have GT : FnOk P w K mg base CX0 1 fT fdT ["p", "number"] spTurned := ok_turned FT T
  have GS : FnOk P w K mg base CX0 1 fS fdS ["p", "rows", "factors", "length"] (spSummed K) := ok_summed1 FS T FA bA mA
  refine F.ok scLead (fun vs H Q E h => ?_) (fun cdv A outer s H vs Q E hr h => ?_)
  · obtain ⟨p, a, r, i, j, rfl, _⟩ := h
    rfl
  · obtain ⟨p, a, r, i, j, rfl, rfl, pp, ha, hj, hz, hrp, hne, k⟩ := h
    obtain ⟨p2, p97⟩ := prime_pos p pp
    refine ⟨_, pss_one (ps_ret (pe_call GS hr rfl mS FS.kp bS .nil pass0 (pa_cons (pv 0) (pa_cons (pe_lst (pa_cons (pv 1) pa_nil)) (pa_cons (pe_lst (pa_cons (pe_call GT hr rfl mT FT.kp bT .nil pass0 (pa_cons (pv 0) (pa_cons (pe_ix (ixT K rfl) (pv 1) (pv 2) (fun _ _ => rfl)) pa_nil))) pa_nil))
      (pa_cons (pe_callB (cLen K rfl) rfl T.len bt_len (pa_cons (pv 1) pa_nil)) pa_nil)))))), ?_⟩
    have hx := hrp _ (List.mem_of_getElem? (getD_of hj))
    have htk := turn_ok (n := r.getD j 0) pp (by omega) hx.2
    refine ⟨_, rfl, _, rfl, (by show 1 ≤ sizeLine; decide), fun l1 h1 => ?_⟩
    refine ⟨_, rfl, _, rfl, _, rfl, a, _, (j : Int), _, rfl, rfl, (Same.upd h1).seqT ha, atI_nat (atRow hj), p, r.getD j 0, rfl, p2, p97, (by show 1 ≤ sizeLine; decide), fun l2 h2 => ?_⟩
    have sm5 : Same H (upd (upd H l1 (.lst [.ref a])) l2 (.lst [.int (turnM p (r.getD j 0))])) := (Same.upd h1).trans (.upd h2)
    refine ⟨_, rfl, a, _, rfl, .inr (sm5.seqT ha), ?_⟩
    rw [List.length_map]
    refine ⟨p, (r.length : Int), l1, l2, true, true, [.ref a], [r], [turnM p (r.getD j 0)], rfl, p2, p97, by omega, by omega, .of (by rw [upd_ne (ne_of_none upd_same h2)]; exact upd_same), .cons (hasT_of (sm5.seqT ha)) .nil, .of upd_same, rfl, (by show 1 ≤ 1000; decide), fun q hq => by rw [List.mem_singleton.mp hq]; rfl, fun f hf => by rw [List.mem_singleton.mp hf]; omega, fun t H6 sm6 ht => ?_⟩
    exact k t H6 (sm5.trans sm6) ht
theorem ok_reduced {f fA fT fS fC fL : Addr} {fd fdA fdT fdS fdC fdL : FuncData} (F : Fun K "reduced" "reduced" sReduced f fd) (T : Txt mg) (FA : Fun K "added" "added" sAdded fA fdA) (bA : Binds K fdA ["p", "row", "factor", "other"] []) (mA : mg "added" = some (.ref fA))
    (FT : Fun K "turned" "turned" sTurned fT fdT) (bT : Binds K fdT ["p", "number"] []) (mT : mg "turned" = some (.ref fT)) (FS : Fun K "summed" "summed" sSummed fS fdS) (bS : Binds K fdS ["p", "rows", "factors", "length"] []) (mS : mg "summed" = some (.ref fS))
    (FC : Fun K "cleared" "cleared" sCleared fC fdC) (bC : Binds K fdC ["p", "row", "lead", "place"] []) (mC : mg "cleared" = some (.ref fC))
    (FL : Fun K "led" "led" sLed fL fdL) (bL : Binds K fdL ["p", "row", "place"] []) (mL : mg "led" = some (.ref fL)) :
    FnOk P w K mg base CX0 3 f fd ["p", "rows"] (spReduced K) := by
  have GL : FnOk P w K mg base CX0 2 fL fdL ["p", "row", "place"] (spLed K) := ok_led FL T FA bA mA FT bT mT FS bS mS
  have GC : FnOk P w K mg base CX0 2 fC fdC ["p", "row", "lead", "place"] (spCleared K) := ok_cleared FC T FA bA mA
  refine F.ok scD (fun vs H Q E h => ?_) (fun cdv A outer s H vs Q E hr h => ?_)
  · obtain ⟨p, a, b, RS, rs, n, rfl, _⟩ := h
    rfl
  · obtain ⟨p, a, b, RS, rs, n, rfl, pp, hq, hA, hz, hn, hR, k⟩ := h
    obtain ⟨p2, p97⟩ := prime_pos p pp
    refine ⟨_, pss_cons (ps_set (i := 2) scD.nd rfl (Or.inl rfl) (pe_lst pa_nil))
      (pss_cons (ps_set (i := 3) scD.nd rfl (Or.inl rfl) (pe_callTy (cList K rfl) rfl T.list bt_list (pa_cons (pv 1) pa_nil)))
      (pss_cons (ps_set (i := 4) scD.nd rfl (Or.inl rfl) (pe_ifExp (pt_truth (pv 3) (fun _ => rfl)) (pe_callB (cLen K rfl) rfl T.len bt_len (pa_cons (pe_ix (ixL K rfl) (pv 3) pe_int (fun _ _ => rfl)) pa_nil)) pe_int))
      (pss_cons (ps_for PassesOwn.never rfl (pi_range1 rfl T.range (pa_cons (pv 4) pa_nil)) (pg_name (i := 5) scD.nd rfl (Or.inr rfl))
        (pss_cons (ps_setComp (i := 6) (N := ["row", "place"]) (own := 1) (caps := [5]) rfl scD.nd rfl rfl (piList K rfl (pv 3)) (show BlkScope nD (defScope sReduced) ["row", "place"] 1 [5] _ from .mk' (by decide +kernel))
          (fun _ _ _ _ _ => pg_name (i := 0) nd1 rfl (Or.inl rfl)) (fun _ _ _ _ _ => pts_one (pt_cmpR op_ne (pe_ix (ixT K rfl) (pv 0) (pv 1) (fun _ _ => rfl)) pe_int (nomark _))) (fun _ _ _ _ _ => pv 0))
        (pss_one (ps_if (pt_truth (pv 6) (fun _ => rfl))
          (pss_cons (ps_set (i := 7) scD.nd rfl (Or.inr rfl) (pe_call GL hr rfl mL FL.kp bL .nil pass0 (pa_cons (pv 0) (pa_cons (pe_ix (ixL K rfl) (pv 6) pe_int (fun _ _ => rfl)) (pa_cons (pv 5) pa_nil)))))
          (pss_cons (ps_set (i := 2) scD.nd rfl (Or.inl rfl) (pe_op op_cat (pe_comp (N := ["row", "lead", "p", "place"]) (own := 1) (caps := [7, 0, 5]) rfl (piList K rfl (pv 2)) (show BlkScope nD (defScope sReduced) ["row", "lead", "p", "place"] 1 [7, 0, 5] _ from .mk' (by decide +kernel))
            (fun _ _ _ _ _ => pg_name (i := 0) nd2 rfl (Or.inl rfl)) (fun _ _ _ _ _ => pts_nil) (fun _ _ _ _ _ => pe_call GC hr rfl mC FC.kp bC .nil pass0 (pa_cons (pv 2) (pa_cons (pv 0) (pa_cons (pv 1) (pa_cons (pv 3) pa_nil)))))) (pe_lst (pa_cons (pv 7) pa_nil))))
          (pss_one (ps_setComp (i := 3) (N := ["row", "lead", "p", "place"]) (own := 1) (caps := [7, 0, 5]) rfl scD.nd rfl rfl (piList K rfl (pv 3)) (show BlkScope nD (defScope sReduced) ["row", "lead", "p", "place"] 1 [7, 0, 5] _ from .mk' (by decide +kernel))
            (fun _ _ _ _ _ => pg_name (i := 0) nd2 rfl (Or.inl rfl)) (fun _ _ _ _ _ => pts_nil) (fun _ _ _ _ _ => pe_call GC hr rfl mC FC.kp bC .nil pass0 (pa_cons (pv 2) (pa_cons (pv 0) (pa_cons (pv 1) (pa_cons (pv 3) pa_nil)))))))))
          pss_nil))))
      (pss_one (ps_ret (pe_callTy (cTuple K rfl) rfl T.tuple bt_tuple (pa_cons (pv 2) pa_nil))))))), ?_⟩
    refine ⟨by decide, fun ld hd => ⟨_, rfl, a, RS, rfl, ?_, fun lr hlr => ?_⟩⟩
    · cases b with
      | true => exact .inl ((Same.upd hd).sq (b := true) hq)
      | false => exact .inr ((Same.upd hd).sq (b := false) hq)
    have sm1 : Same H (upd (upd H ld (.lst [])) lr (.lst RS)) := (Same.upd hd).trans (.upd hlr)
    have g1 : (upd (upd H ld (.lst [])) lr (.lst RS)) ld = some (.lst []) := by rw [upd_ne (ne_of_none upd_same hlr)]; exact upd_same
    have g2 : (upd (upd H ld (.lst [])) lr (.lst RS)) lr = some (.lst RS) := upd_same
    generalize upd (upd H ld (.lst [])) lr (.lst RS) = H1 at sm1 g1 g2 ⊢
    have hA1 := hA.mono sm1
    have hlen : RS.length = rs.length := lenA hA
    refine ⟨_, rfl, !RS.isEmpty, .inl ⟨RS, .of g2, rfl⟩, ?_⟩
    by_cases hne : rs = []
    · subst hne
      have e0 : RS = [] := List.length_eq_zero_iff.mp hlen
      subst e0
      refine iteF ?_
      refine ⟨_, rfl, 0, rfl, by decide, by decide, for_range (n := 0) (fun i σ H' => H' = H1 ∧ σ = [some (.int p), some (.ref a), some (.ref ld), some (.ref lr), some (.int 0), none, none, none]) ⟨rfl, rfl⟩ (fun i σ H' hi => absurd hi (by omega)) ?_⟩
      rintro σ H' ⟨rfl, rfl⟩
      exact ⟨_, rfl, ld, _, rfl, .inl ⟨.of g1, fun t ht => k t _ [] (sm1.trans (.upd ht)) (.of upd_same) .nil⟩⟩
    · have e1 : lenM rs = n := lenM_eq hR hne
      have hpos : 0 < rs.length := List.length_pos_iff.mpr hne
      have hb : (!RS.isEmpty) = true := by
        cases RS with
        | nil => rw [List.length_nil] at hlen; omega
        | cons _ _ => rfl
      rw [hb]
      refine iteT ?_
      have hx0 : RS[0]? = some (RS[0]'(by omega)) := List.getElem?_eq_getElem _
      obtain ⟨r0, a0, hr0, ea0, ha0⟩ := rowAt hA1 hx0
      have hl0 : (r0.map V.int).length = n := by rw [List.length_map]; exact (hR r0 (List.mem_of_getElem? hr0)).1
      refine ⟨_, rfl, lr, RS, 0, _, rfl, rfl, .of g2, atI_nat (j := 0) (hx0.trans (congrArg some ea0)), a0, _, rfl, .inr ha0, ?_⟩
      rw [hl0]
      refine ⟨_, rfl, (n : Int), rfl, by omega, by omega, for_range (n := n) (fun i σ H' => Same H H' ∧ ∃ dn rst DS XS s5 s6 s7, σ = [some (.int p), some (.ref a), some (.ref dn), some (.ref rst), some (.int (n : Int)), s5, s6, s7] ∧ H' dn = some (.lst DS) ∧ HasA K H' DS ((redI p n rs i).1.map intsT) ∧ H' rst = some (.lst XS) ∧ HasA K H' XS ((redI p n rs i).2.map intsT))
        ⟨sm1, ld, lr, [], RS, none, none, none, rfl, g1, .nil, g2, hA1⟩ ?_ ?_⟩
      · rintro i σ H2 hi ⟨sm, dn, rst, DS, XS, s5, s6, s7, rfl, gd, hD, gr, hX⟩
        have IO := redI_ok pp hR i (Nat.le_of_lt hi)
        have IL := redI_len (p := p) (n := n) (L := rs) i
        have eStep : redI p n rs (i + 1) = stepM p n (redI p n rs i) i := rfl
        rw [eStep]
        generalize redI p n rs i = st at hD hX IO IL ⊢
        -- heads
        refine ⟨_, rfl, rst, rfl, ⟨_, .of gr⟩, comp_list (cp := [some (.int (0 + (i : Int)))]) (fun j H' zs => HasA K H' zs (((st.2.take j).filter fun r => r.getD i 0 ≠ 0).map intsT)) (.of gr) (by rw [lenA hX, IL.2]; exact Nat.le_of_lt (small1000 hz)) .nil
          (fun j H' zs h => by rw [lenA h]; exact Nat.le_trans (List.length_filter_le _ _) (by rw [List.length_take]; omega)) ?_ ?_⟩
        · rintro j x H' zs hx' sm' h
          obtain ⟨r, ra, hrj, rfl, hra⟩ := rowAt hX hx'
          have hRr := IO.r r (List.mem_of_getElem? hrj)
          have hil : i < r.length := by rw [hRr.1]; exact hi
          refine ⟨_, rfl, _, rfl, ra, _, (i : Int), _, rfl, congrArg V.int (Int.zero_add _), sm'.seqT hra, atI_nat (atRow hil), rfl, _, rfl, iteNe (fun hne' => ?_) (fun heq => ?_)⟩
          · have hne2 : r.getD i 0 ≠ 0 := fun z => hne' (congrArg V.int z)
            refine ⟨_, rfl, ⟨[_], rfl, rfl⟩, sm', ?_⟩
            rw [List.take_add_one, hrj]
            show HasA K H' _ (((st.2.take j ++ [r]).filter _).map intsT)
            rw [List.filter_append, List.filter_cons_of_pos (by simpa using hne2), List.filter_nil, List.map_append]
            exact h.append (.cons (hasT_of (sm'.seqT hra)) .nil)
          · have heq2 : r.getD i 0 = 0 := V.int.inj heq
            refine ⟨⟨[_], rfl, rfl⟩, sm', ?_⟩
            rw [List.take_add_one, hrj]
            show HasA K H' _ (((st.2.take j ++ [r]).filter _).map intsT)
            rw [List.filter_append, List.filter_cons_of_neg (by simpa using heq2), List.filter_nil, List.append_nil]
            exact h
        rintro H3 zs sm3 h3 lh hlh
        rw [lenA hX, List.take_length] at h3
        have sm4 : Same H2 (upd H3 lh (.lst zs)) := sm3.trans (.upd hlh)
        have g4 : (upd H3 lh (.lst zs)) lh = some (.lst zs) := upd_same
        have h4 := h3.mono (Same.upd hlh (o := .lst zs))
        generalize upd H3 lh (.lst zs) = H4 at sm4 g4 h4 ⊢
        refine ⟨_, rfl, !zs.isEmpty, .inl ⟨zs, .of g4, rfl⟩, ?_⟩
        unfold stepM
        generalize hf : (st.2.filter fun r => r.getD i 0 ≠ 0) = hs at h4 ⊢
        cases hs with
        | nil =>
          have : zs = [] := List.length_eq_zero_iff.mp (lenA h4)
          subst this
          refine iteF ?_
          exact ⟨sm.trans sm4, dn, rst, DS, XS, _, _, _, rfl, sm4 _ _ gd, hD.mono sm4, sm4 _ _ gr, hX.mono sm4⟩
        | cons hd tl =>
          cases zs with
          | nil => exact absurd (lenA h4) (by simp)
          | cons z zs' =>
            obtain ⟨r', ha, hr', rfl, hha⟩ := rowAt (i := 0) (x := z) h4 rfl
            have er : hd = r' := Option.some.inj hr'
            subst er
            refine iteT ?_
            have hdm : hd ∈ st.2 ∧ hd.getD i 0 ≠ 0 := by
              have : hd ∈ st.2.filter fun r => r.getD i 0 ≠ 0 := by rw [hf]; exact List.mem_cons_self
              simpa using List.mem_filter.mp this
            have hRh := IO.r hd hdm.1
            have hil : i < hd.length := by rw [hRh.1]; exact hi
            refine ⟨_, rfl, _, rfl, lh, _, 0, .ref ha, rfl, rfl, .of g4, atI_nat (j := 0) rfl, _, rfl, p, ha, hd, 0 + (i : Int), i, rfl, Int.zero_add _, pp, hha, hil, by rw [hRh.1]; exact hn, hRh.2, hdm.2, fun t H6 sm6 ht => ?_⟩
            have sm7 : Same H2 H6 := sm4.trans sm6
            rw [hRh.1] at ht
            have ht' : SqT K H6 t ((leadM p n hd i).map V.int) := ht
            have hLR := leadM_Rw (place := i) (show 0 < p by omega) hRh
            dsimp only
            generalize leadM p n hd i = ldr at ht' hLR ⊢
            refine ⟨_, rfl, dn, rfl, ⟨_, .of (sm7 _ _ gd)⟩, comp_clear p2 p97 (.of (sm7 _ _ gd)) (hD.mono sm7) IO.d (by omega) hn hi hLR.1 ht' (fun x H1 R h => ⟨_, rfl, _, rfl, _, rfl, _, rfl, h⟩) fun H8 zs8 sm8 h8 q8 hq8 => ?_⟩
            refine ⟨_, rfl, (by show 1 ≤ sizeLine; decide), fun l9 h9 => ⟨q8, l9, _, _, rfl, rfl, by rw [upd_ne (ne_of_none upd_same h9)]; exact upd_same, upd_same, ?_, fun q9 hq9 => ?_⟩⟩
            · show zs8.length + 1 ≤ sizeLine
              rw [lenA h8, List.length_map]
              have : (1000 : Nat) < sizeLine := by decide
              omega
            have sm9 : Same H8 (upd (upd (upd H8 q8 (.lst zs8)) l9 (.lst [.ref t])) q9 (.lst (zs8 ++ [.ref t]))) := ((Same.upd hq8).trans (.upd h9)).trans (.upd hq9)
            have g9 : (upd (upd (upd H8 q8 (.lst zs8)) l9 (.lst [.ref t])) q9 (.lst (zs8 ++ [.ref t]))) q9 = some (.lst (zs8 ++ [.ref t])) := upd_same
            generalize upd (upd (upd H8 q8 (.lst zs8)) l9 (.lst [.ref t])) q9 (.lst (zs8 ++ [.ref t])) = H9 at sm9 g9 ⊢
            have smA : Same H2 H9 := (sm7.trans sm8).trans sm9
            have htA := (sm8.trans sm9).seqT ht'
            refine ⟨_, rfl, rst, rfl, ⟨_, .of (smA _ _ gr)⟩, comp_clear p2 p97 (.of (smA _ _ gr)) (hX.mono smA) IO.r (by omega) hn hi hLR.1 htA (fun x H1 R h => ⟨_, rfl, _, rfl, _, rfl, _, rfl, h⟩) fun Hb zsb smb hb qb hqb => ?_⟩
            have smC := smb.trans (Same.upd hqb (o := .lst zsb))
            refine ⟨(sm.trans smA).trans smC, q9, qb, _, zsb, _, _, _, rfl, smC _ _ g9, ?_, upd_same, hb.mono (.upd hqb)⟩
            show HasA K _ _ ((st.1.map (clearM p ldr i) ++ [ldr]).map intsT)
            rw [List.map_append]
            exact (h8.mono (sm9.trans smC)).append (.cons (hasT_of (smC.seqT htA)) .nil)
      · rintro σ H' ⟨sm, dn, rst, DS, XS, s5, s6, s7, rfl, gd, hD, gr, hX⟩
        refine ⟨_, rfl, dn, _, rfl, .inl ⟨.of gd, fun t ht => k t _ DS (sm.trans (.upd ht)) (.of upd_same) ?_⟩⟩
        unfold redM
        rw [e1]
        exact hD.mono (.upd ht)
end
end S21

namespace S21
open PySem L2 Bw
set_option maxHeartbeats 3900000
section
variable {P : Program} {w : World} {K : PySem.W.Frag} {mg : Str → Option Value} {base : Heap}
/-! ### first_place -/
end
end S21
namespace S21
open PySem L2 Bw
set_option maxHeartbeats 3900000
/-! ### all_folded -/
noncomputable def dParts : List (Str × V) := [("times", .int 1), ("back", .int 1), ("beside", .int 2), ("then", .int 2)]
/-- how many parts a word has -/
noncomputable def pcI (x : Str) : Nat := if x = "times" ∨ x = "back" then 1 else if x = "beside" ∨ x = "then" then 2 else 0
theorem pc_is (x : Str) : (PyProof.Rows.KTD.datumAt x dParts).getD (.int 0) = .int (pcI x) := by
  unfold dParts pcI
  simp only [PyProof.Rows.KTD.datumAt, decide_eq_true_eq]
  by_cases h1 : x = "times"
  · simp [h1]
  · by_cases h2 : x = "back"
    · simp [h2]
    · by_cases h3 : x = "beside"
      · subst h3; rfl
      · by_cases h4 : x = "then"
        · subst h4; rfl
        · simp [h1, h2, h3, h4]
theorem pc_le (x : Str) : pcI x ≤ 2 := by
  unfold pcI
  split
  · omega
  · split <;> omega
structure Parts (K : PySem.W.Frag) (mg : Str → Option Value) (aP : Addr) : Prop where
  nm : mg "PARTS" = some (.ref aP)
  tab : ∀ h, K.In h → VTab h aP dParts
theorem npt : (["part", "values"] : List Str).Nodup := by decide +kernel
section
variable {P : Program} {w : World} {K : PySem.W.Frag} {mg : Str → Option Value} {base : Heap}
/-- words are gone through from the last one to the first; G i vs: behind the places from i on the values vs stand -/
structure FoldAsk (k : Nat) (P : Program) (w : World) (K : PySem.W.Frag) (mg : Str → Option Value) (base : Heap) (s : Shared) (H : Hp) (Q : VK) (aw f : Addr) (ws : List V) (R : List V → Hp → VK → Prop) (G : Nat → List V → Hp → Prop) : Prop where
  wds : SqT K H aw ws
  len : ws.length ≤ 200
  fn : FnV P w K mg base k s H f R
  g0 : G ws.length [] H
  mono : ∀ i vs H1 H2, G i vs H1 → Tup H1 H2 → G i vs H2
  few : ∀ i vs H1, G i vs H1 → vs.length ≤ 200
  kind : ∀ i, i < ws.length → (∃ x, ws[i]? = some (.str x)) ∨ ∃ n, ws[i]? = some (.int n)
  num : ∀ i n vs H1, ws[i]? = some (.int n) → G (i + 1) vs H1 → G i (vs ++ [.int n]) H1
  word : ∀ i x vs H1, ws[i]? = some (.str x) → G (i + 1) vs H1 → ∃ rest ps, vs = rest ++ ps.reverse ∧ ps.length = pcI x ∧
    ∀ pa H2 Q', Tup H1 H2 → H2 pa = some (.lst ps) → (∀ v H3, Same H2 H3 → G i (rest ++ [v]) H3 → Q' v H3) → R [.int i, .str x, .ref pa] H2 Q'
  first : ∃ x, ws[0]? = some (.str x)
  fin : ∀ td kvs vs v H', Same H H' → H' td = some (.dK kvs) → valV kvs (Sum.inl 0) = some v → G 0 (vs ++ [v]) H' → Q (.ref td) H'
noncomputable def spFold (k : Nat) (P : Program) (w : World) (K : PySem.W.Frag) (mg : Str → Option Value) (base : Heap) (s : Shared) : Sp := fun vs H Q _ => ∃ (aw f : Addr) (ws : List V) (R : List V → Hp → VK → Prop) (G : Nat → List V → Hp → Prop), vs = [.ref aw, .ref f] ∧ FoldAsk k P w K mg base s H Q aw f ws R G
noncomputable abbrev nAf : List Str := ["words", "made", "told", "values", "place", "word", "parts"]
theorem scAf : FnScope ["words", "made", "told", "values", "place", "word", "parts"] ["words", "made"] (defScope s_all_folded) := ⟨rfl, rfl, rfl, by decide +kernel, rfl, by decide +kernel, by decide +kernel⟩
/-- between the turns: j words are done -/
noncomputable def WAf (K : PySem.W.Frag) (aw f td vl : Addr) (ws : List V) (G : Nat → List V → Hp → Prop) (H : Hp) (j : Nat) (σ : St) (H' : Hp) : Prop := Same H H' ∧ ∃ (s4 s5 s6 : Option V) (kvs : List (Key × V)) (vs : List V),
  σ = [some (.ref aw), some (.ref f), some (.ref td), some (.ref vl), s4, s5, s6] ∧ H' td = some (.dK kvs) ∧ H' vl = some (.lst vs) ∧ kvs.length ≤ j ∧ G (ws.length - j) vs H' ∧
  (∀ x, ws[ws.length - j]? = some (.str x) → ∃ rest v, vs = rest ++ [v] ∧ valV kvs (Sum.inl ((ws.length - j : Nat) : Int)) = some v)
theorem ok_fold {k : Nat} {aP f : Addr} {fd : FuncData} (F : Fun K "all_folded" "all_folded" s_all_folded f fd) (T : Txt mg) (PT : Parts K mg aP) : RunS P w K mg base (k + 1) f fd ["words", "made"] (spFold k P w K mg base) := by
  refine F.okS scAf (fun s vs H Q E h => ?_) (fun cdv A outer s H vs Q E hr h => ?_)
  · obtain ⟨aw, f, ws, R, G, rfl, _⟩ := h
    rfl
  · obtain ⟨aw, fm, ws, R, G, rfl, D⟩ := h
    have hu := hr.units
    have hu1 := hu_of hr
    refine ⟨_, pss_cons (ps_set (i := 2) scAf.nd rfl (Or.inl rfl) pe_dnewK)
      (pss_cons (ps_set (i := 3) scAf.nd rfl (Or.inr rfl) (pe_lst pa_nil))
      (pss_cons (ps_for PassesOwn.never rfl (pi_down rfl T.range (pa_cons (pe_op op_sub (pe_callB (cLen K rfl) rfl T.len bt_len (pa_cons (pv 0) pa_nil)) pe_int) (pa_cons (pe_un un_neg pe_int) (pa_cons (pe_un un_neg pe_int) pa_nil)))) (pg_name (i := 4) scAf.nd rfl (Or.inl rfl))
        (pss_cons (ps_set (i := 5) scAf.nd rfl (Or.inl rfl) (pe_ix (ixT K rfl) (pv 0) (pv 4) (fun _ _ => rfl)))
        (pss_one (ps_if (pt_val (pe_callB (call_isinst (T := "int")) rfl T.isinstance bt_isinstance (pa_cons (pv 5) (pa_cons (pe_ty rfl T.int bt_int) pa_nil))))
          (pss_one (ps_expr (pe_bm PySem.F.plainAttrs_list PySem.F.slot_list_append PySem.F.type_list_append mt_append (pv 3) (pa_cons (pv 5) pa_nil))))
          (pss_cons (ps_setComp (N := ["part", "values"]) (own := 1) (caps := [3]) (i := 6) rfl scAf.nd rfl rfl (pi_range1 rfl T.range (pa_cons (pe_kget2 PT.tab (pe_glob (v := .ref _) rfl PT.nm rfl) (pv 5) pe_int ⟨rfl, rfl, rfl, rfl⟩) pa_nil)) (show BlkScope nAf (defScope s_all_folded) ["part", "values"] 1 [3] _ from .mk' (by decide +kernel))
            (fun _ _ _ _ _ => pg_name (i := 0) npt rfl (Or.inl rfl)) (fun _ _ _ _ _ => pts_nil) (fun _ _ _ _ _ => pe_pop K rfl (pv 1)))
          (pss_cons (ps_dput hu1 (pv 2) (pv 4) (by exact pe_callFn (i := 1) D.fn hr rfl rfl (Or.inl rfl) (pa_cons (pv 4) (pa_cons (pv 5) (pa_cons (pv 6) pa_nil)))) rfl)
          (pss_one (ps_expr (pe_bm PySem.F.plainAttrs_list PySem.F.slot_list_append PySem.F.type_list_append mt_append (pv 3) (pa_cons (pe_dget hu1 (pv 2) (pv 4) (fun _ _ => rfl)) pa_nil))))))))))
      (pss_one (ps_ret (pv 2))))), ?_⟩
    have hz : (1000 : Nat) ≤ sizeLine := by decide
    have hl := D.len
    intro td htd
    refine ⟨(by show 0 ≤ sizeLine; omega), fun vl hvl => ?_⟩
    have nvt : vl ≠ td := fun z => by rw [z, upd_same] at hvl; cases hvl
    have hvl0 : H vl = none := by rw [upd_ne nvt] at hvl; exact hvl
    have s2 : Same H (upd (upd H td (.dK [])) vl (.lst [])) := (Same.upd htd).trans (.upd hvl)
    refine ⟨_, rfl, aw, ws, rfl, .inr (s2.seqT D.wds), _, _, rfl, rfl, _, rfl, _, rfl, _, rfl, ⟨by omega, by omega⟩, ?_⟩
    have en : ((ws.length : Int) - 1 + 1).toNat = ws.length := by omega
    rw [en]
    refine for_down (WAf K aw fm td vl ws G H) ⟨s2, none, none, none, [], [], rfl, ?_, upd_same, Nat.zero_le _, D.mono _ _ _ _ D.g0 s2.tup, fun x hx => ?_⟩ ?_ ?_
    · rw [upd_ne (Ne.symm nvt)]; exact upd_same
    · rw [Nat.sub_zero, List.getElem?_eq_none (Nat.le_refl _)] at hx; cases hx
    · rintro j σ H' hj ⟨sm, s4, s5, s6, kvs, vs, rfl, htd', hvl', hk, hG, _⟩
      obtain ⟨i, hi⟩ : ∃ i, ws.length = i + 1 + j := ⟨ws.length - 1 - j, by omega⟩
      have e1 : (ws.length : Int) - 1 - (j : Nat) = ((i : Nat) : Int) := by omega
      have e2 : ws.length - j = i + 1 := by omega
      have e3 : ws.length - (j + 1) = i := by omega
      rw [e1]
      rw [e2] at hG
      have hfew := D.few _ _ _ hG
      rcases D.kind i (by omega) with ⟨x, hx⟩ | ⟨n, hx⟩
      · obtain ⟨rest, ps, rfl, hps, hmade⟩ := D.word i x vs H' hx hG
        refine ⟨_, rfl, _, rfl, aw, _, ((i : Nat) : Int), _, rfl, rfl, sm.seqT D.wds, atI_nat (j := i) hx, ?_⟩
        refine ⟨_, rfl, .str x, .type "str", false, rfl, .str x, kit_str_int K, false, rfl, iteF ?_⟩
        have hpc := pc_le x
        refine ⟨rfl, _, rfl, x, rfl, ((pcI x : Nat) : Int), by rw [pc_is], by omega, by omega, ?_⟩
        refine comp_rngF (cp := [some (.ref vl)]) (n := pcI x) (lo := 0) (fun k Hx zs => zs = ps.take k ∧ Hx vl = some (.lst (rest ++ (ps.drop k).reverse)) ∧ ∀ b, b ≠ vl → Hx b = H' b) (by omega) ⟨rfl, hvl', fun _ _ => rfl⟩ (fun k Hx zs h => by rw [h.1]; exact List.length_take_le _ _) ?_ ?_
        · rintro k Hx zs hk' ⟨rfl, h1, h2⟩
          have hlt : k < ps.length := by omega
          have ex : rest ++ (ps.drop k).reverse = (rest ++ (ps.drop (k + 1)).reverse) ++ [ps[k]] := by rw [List.drop_eq_getElem_cons hlt, List.reverse_cons, List.append_assoc]
          rw [ex] at h1
          refine ⟨_, rfl, .inl ⟨rfl, _, .of h1⟩, vl, _, ps[k], rfl, rfl, h1, by simp, CpF.mk ⟨?_, ?_, fun b hb => ?_⟩⟩
          · rw [List.take_add_one, List.getElem?_eq_getElem hlt]; rfl
          · rw [upd_same, List.dropLast_concat]
          · rw [upd_ne hb]; exact h2 b hb
        · rintro Hx zs ⟨rfl, h1, h2⟩ pa hpa
          rw [List.take_of_length_le (by omega)]
          rw [List.drop_eq_nil_of_le (by omega), List.reverse_nil, List.append_nil] at h1
          have ntv : td ≠ vl := Ne.symm nvt
          have keep : ∀ b o, b ≠ vl → H' b = some o → (upd Hx pa (.lst ps)) b = some o := fun b o nb e => by
            have h3 : Hx b = some o := by rw [h2 b nb]; exact e
            rw [upd_ne (ne_of_none h3 hpa)]; exact h3
          have sH2 : Same H (upd Hx pa (.lst ps)) := fun b o e => keep b o (ne_of_none e hvl0) (sm b o e)
          have tp : Tup H' (upd Hx pa (.lst ps)) := fun b o e k => keep b o (fun z => by
            subst z
            rw [hvl'] at e
            cases e
            rcases k with ⟨_, z⟩ | ⟨_, _, z⟩ <;> cases z) e
          have g1 : (upd Hx pa (.lst ps)) pa = some (.lst ps) := upd_same
          have g2 : (upd Hx pa (.lst ps)) vl = some (.lst rest) := by rw [upd_ne (ne_of_none h1 hpa)]; exact h1
          have g3 : (upd Hx pa (.lst ps)) td = some (.dK kvs) := keep _ _ ntv htd'
          generalize upd Hx pa (.lst ps) = H2 at sH2 tp g1 g2 g3
          refine ⟨rfl, sH2, _, rfl, _, rfl, _, rfl, sH2, hmade pa H2 _ tp g1 fun v H3 s3 hG3 => ?_⟩
          have hrl : rest.length ≤ 200 := by rw [List.length_append] at hfew; omega
          refine ⟨_, rfl, _, rfl, td, _, rfl, DPut.k (k := Sum.inl ((i : Nat) : Int)) (s3 _ _ g3) (by omega), ?_⟩
          have hv4 : (upd H3 td (.dK (putK kvs (Sum.inl ((i : Nat) : Int)) v))) vl = some (.lst rest) := by rw [upd_ne nvt]; exact s3 _ _ g2
          have hd4 : (upd H3 td (.dK (putK kvs (Sum.inl ((i : Nat) : Int)) v))) td = some (.dK (putK kvs (Sum.inl ((i : Nat) : Int)) v)) := upd_same
          have hval : valV (putK kvs (Sum.inl ((i : Nat) : Int)) v) (Sum.inl ((i : Nat) : Int)) = some v := by rw [valV_put, if_pos rfl]
          refine ⟨_, rfl, .inl ⟨rfl, _, .of hv4⟩, _, rfl, _, rfl, td, v, rfl, hval ▸ DGet.k (k := Sum.inl ((i : Nat) : Int)) hd4, vl, rest, _, rfl, rfl, hv4, by omega, ?_⟩
          refine ⟨((sH2.trans s3).put htd).put hvl0, _, _, _, _, _, rfl, by rw [upd_ne ntv]; exact hd4, upd_same, ?_, ?_, fun x' _ => ⟨rest, v, rfl, by rw [e3]; exact hval⟩⟩
          · have := length_putK kvs (Sum.inl ((i : Nat) : Int)) v
            omega
          · rw [e3]
            exact D.mono _ _ _ _ hG3 ((Tup.dct (s3 _ _ g3)).trans (Tup.lst hv4))
      · refine ⟨_, rfl, _, rfl, aw, _, ((i : Nat) : Int), _, rfl, rfl, sm.seqT D.wds, atI_nat (j := i) hx, ?_⟩
        refine ⟨_, rfl, .int n, .type "int", true, rfl, .int n, kit_int_int K, true, rfl, iteT ?_⟩
        refine ⟨_, rfl, .inl ⟨rfl, _, .of hvl'⟩, _, rfl, vl, vs, _, rfl, rfl, hvl', by omega, ?_⟩
        have ntv : td ≠ vl := Ne.symm nvt
        refine ⟨sm.put hvl0, _, _, _, kvs, _, rfl, by rw [upd_ne ntv]; exact htd', upd_same, Nat.le_succ_of_le hk, ?_, fun x' hx' => ?_⟩
        · rw [e3]
          exact D.mono _ _ _ _ (D.num i n vs H' hx hG) (Tup.lst hvl')
        · rw [e3, hx] at hx'
          cases hx'
    · rintro σ H' ⟨sm, s4, s5, s6, kvs, vs, rfl, htd', hvl', hk, hG, hf⟩
      obtain ⟨x, hx⟩ := D.first
      rw [Nat.sub_self] at hG hf
      obtain ⟨rest, v, rfl, hv⟩ := hf x hx
      exact ⟨_, rfl, D.fin td kvs rest v H' sm htd' hv hG⟩
end
end S21
/-! a lambda of any number of names, as a function handed in -/
namespace L2
open PySem PySem.Spec PyProof.Rows
set_option maxRecDepth 100000
theorem lookup_mem : ∀ {l : List (Str × Value)} {y : Str} {u : Value}, (l.map (·.1)).Nodup → (y, u) ∈ l → l.lookup y = some u
  | [], _, _, _, h => (by cases h)
  | (k, v) :: r, y, u, nd, h => by
    have nd' := List.nodup_cons.mp nd
    rcases (List.mem_cons.mp h) with (e | h)
    · cases e
      simp [List.lookup]
    · have ne : y ≠ k := fun z => nd'.1 (List.mem_map.mpr ⟨(y, u), h, z⟩)
      have e0 : (y == k) = false := beq_eq_false_iff_ne.mpr ne
      rw [List.lookup_cons, e0]
      exact lookup_mem nd'.2 h
theorem zip_at {xs : List Str} {us : List Value} {i : Nat} {y : Str} {u : Value} (nd : xs.Nodup) (hl : us.length = xs.length) (h1 : xs[i]? = some y) (h2 : us[i]? = some u) : (xs.zip us).reverse.lookup y = some u := by
  have em : (xs.zip us).map (·.1) = xs := by rw [List.map_fst_zip (by omega)]
  refine lookup_mem ?_ (List.mem_reverse.mpr ?_)
  · rw [List.map_reverse, em]
    exact List.pairwise_reverse.mpr (nd.imp fun h => Ne.symm h)
  · exact List.mem_of_getElem? (i := i) (by rw [List.getElem?_zip_eq_some]; exact ⟨h1, h2⟩)
structure LamScopeN (xs names : List Str) (scope : Scope) (params : Arguments) (cl : List (Str × Addr)) : Prop where
  kind : scope.kind = .function
  co : scope.isCoroutine = false
  gen : scope.isGenerator = false
  nd : xs.Nodup
  cell : ∀ y ∈ scope.names, y.2 ≠ .cell
  loc : ∀ x ∈ xs, scope.names.lookup x = some .local
  fr : ∀ y ∈ names, scope.names.lookup y = some .free
  has : ∀ y, scope.names.lookup y = some .free → ∃ c, cl.lookup y = some c
  inj : ∀ y z c, cl.lookup y = some c → cl.lookup z = some c → y = z
  only : ∀ y c, cl.lookup y = some c → y ∈ names
section
variable {P : Program} {w : World} {K : PySem.W.Frag} {mg : Str → Option Value} {base : Heap}
theorem lam_v {xs names : List Str} {caps : List V} {qual : Str} {params : Arguments} {body : Expr} {scope : Scope} {cl : List (Str × Addr)} {k : Nat} {s : Shared} {H : Hp} {f : Addr} {R : List V → Hp → VK → Prop} (S : LamScopeN xs names scope params cl)
    (F : LamF H f qual params body scope cl) (hbind : ∀ (pm cdv ct : Value) (us : List Value), us.length = xs.length → bindArgs (PySem.W.kla_fn "<lambda>" qual params body scope cl pm cdv ct) ⟨us, []⟩ = pure (xs.zip us))
    (hcells : ∀ (j : Nat) (y : Str), names[j]? = some y → ∃ c v u, cl.lookup y = some c ∧ caps[j]? = some v ∧ RelV v u ∧ s.heap.IsCell c (some u) ∧ H c = none) (hlen : caps.length = names.length) (len : ∀ vs H' Q, R vs H' Q → vs.length = xs.length)
    (hbody : ∀ (c : Addr) (A : Around) (outer : List Env) (s' : Shared) (H' : Hp) (vs : List V) (Q : VK), Room k (A.deeper (PySem.W.envX qual scope s'.heap.objs.size f (.ref c) cl)) → Same H H' → R vs H' Q →
      ∃ t, PE (lamCx P w K mg base (xs ++ names) qual scope f c cl A outer s' H').nox body t ∧ t (vs.map some ++ caps.map some) H' Q) : FnV P w K mg base (k + 1) s H f R := by
  obtain ⟨c, hf, hc⟩ := F
  refine ⟨.inl ⟨_, hf, fun h ⟨pm, ctv, e⟩ => ⟨_, _, _, _, e⟩⟩, fun A outer s' H' vs us Q hr e0 sm hk rv hQ => ?_⟩
  obtain ⟨⟨pm, ctv, ho⟩, _⟩ := e0.hok f _ (sm _ _ hf)
  have hcr : s'.heap.CodeRec (.ref c) qual := (e0.hok c _ (sm _ _ hc)).1
  have lim : s'.heap.NoLimit := e0.mod.nolimit.keeps fun b o e => (e0.bs b o e).1
  have hl := len _ _ _ hQ
  have hul : us.length = xs.length := by rw [← rv.length]; exact hl
  refine PySem.W.kla_callFunE hr.depth ho rfl S.co S.gen rfl hcr ?_
  rw [hbind _ _ _ us hul]
  refine wpAny_pure (wpAny_newFunctionEnv S.cell (fun z hz => S.loc _ (List.of_mem_zip hz).1) (fun h₁ hns hsb => ⟨lim.fresh _ hsb, ?_⟩) S.kind)
  show codeAny _ _ (.expr body (PySem.W.envX qual scope s'.heap.objs.size f (.ref c) cl)) _ _
  have up : ∀ b o, s'.heap.get? b = some o → h₁.get? b = some o := fun b o e => hsb.extBut b o (Nat.ne_of_lt (Heap.lt_size e)) (Heap.get?_push_of_some _ e)
  obtain ⟨t, ht, hq⟩ := hbody c A outer s' H' vs Q (hr.deeper _) sm hQ
  have cells : ∀ (j : Nat) (y : Str), names[j]? = some y → ∃ c v u, cl.lookup y = some c ∧ caps[j]? = some v ∧ RelV v u ∧ h₁.IsCell c (some u) ∧ H' c = none := fun j y hj => by
    obtain ⟨c0, v, u, h1, h2, h3, ⟨o, ho, hd⟩, h5⟩ := hcells j y hj
    obtain ⟨h6, sl, h7⟩ := hk c0 o ho h5
    exact ⟨c0, v, u, h1, h2, h3, ⟨_, up _ _ h7, hd⟩, h6⟩
  have cellA : ∀ y c, cl.lookup y = some c → ∃ v, h₁.IsCell c (some v) ∧ H' c = none := fun y c0 h => by
    obtain ⟨j, hj⟩ := List.getElem?_of_mem (S.only y c0 h)
    obtain ⟨c1, v, u, h1, _, _, h4, h5⟩ := cells j y hj
    rw [h] at h1
    cases h1
    exact ⟨u, h4, h5⟩
  have I : Inv (lamCx P w K mg base (xs ++ names) qual scope f c cl A outer s' H') [] (vs.map some ++ caps.map some) H' { s' with heap := h₁, toks := s'.toks + (xs.zip us).length } := by
    have noA : ∀ b : Addr, b ∉ (lamCx P w K mg base (xs ++ names) qual scope f c cl A outer s' H').ex := fun b z => absurd (show b ∈ ([] : List Addr) from z) (by simp)
    refine ⟨⟨e0.mod, S.kind, rfl, rfl, Nat.le_refl _, fun y z c h1 h2 => S.inj y z c h1 h2, fun y hy => ?_, fun y c h => (nomatch h), fun _ => hr.hd, Around.frames_deeper e0.frames, .inr ⟨rfl, rfl⟩, fun b z => absurd z (noA b), e0.bs, e0.bsz, fun b _ _ => noA b, fun b z => absurd z (noA b), e0.funs, e0.frf⟩,
      rfl, e0.bare, Un.kept up, ⟨_, hns, fun i y v h1 h2 h3 => ?_⟩, fun y c h => ?_, e0.hok.fresh (Nat.le_refl _), fun y c h => ?_, fun p hp => absurd (show p ∈ ([] : List (Addr × Obj)) from hp) (by simp), e0.hok.kept up, by show (vs.map some ++ caps.map some).length = (xs ++ names).length; simp [hlen, hl]⟩
    · rcases hy with hy | hy
      · exact absurd rfl (S.cell _ (PySem.mem_of_lookup hy))
      · exact S.has y hy
    · have h1 : (xs ++ names)[i]? = some y := h1
      by_cases hi : i < xs.length
      · rw [List.getElem?_append_left hi] at h1
        rw [List.getElem?_append_left (by simp only [List.length_map]; omega), List.getElem?_map] at h2
        cases ev : vs[i]? with
        | none => rw [ev] at h2; cases h2
        | some v' =>
          rw [ev] at h2
          cases h2
          obtain ⟨u, hu, ru⟩ := rv.get ev
          exact ⟨u, ru, .inl ⟨S.loc y (List.mem_of_getElem? h1), zip_at S.nd hul h1 hu⟩⟩
      · rw [List.getElem?_append_right (by omega)] at h1
        rw [List.getElem?_append_right (by simp only [List.length_map]; omega), List.length_map, hl, List.getElem?_map] at h2
        obtain ⟨c1, v', u, g1, g2, g3, g4, _⟩ := cells _ y h1
        rw [g2] at h2
        cases h2
        exact ⟨u, g3, .inr ⟨.inr (S.fr y (List.mem_of_getElem? h1)), c1, g1, g4⟩⟩
    · obtain ⟨v, h4, _⟩ := cellA y c h
      exact ⟨_, h4⟩
    · obtain ⟨v, _, h5⟩ := cellA y c h
      exact h5
  refine PySem.W.kla_codeExpr (wpAny_mono (ht.nox [] _ _ H' Q I hq) (fun u s'' hs => ?_) fun e s'' z => wpAny_mono z (fun _ _ z => False.elim z) fun _ _ z => False.elim z)
  obtain ⟨v, H'', J, rv, q⟩ := hs
  exact ⟨v, H'', J.os, J.bare, J.base, J.hok, rv, q⟩
end
end L2
namespace S21
open PySem L2 Bw
set_option maxHeartbeats 3900000
/-! ### tables of the module: what they hold -/
noncomputable def valsI : List Value → List Int → Bool
  | [], [] => true
  | .int i _ :: vs, n :: ns => i == n && valsI vs ns
  | _, _ => false
theorem valsI_is : ∀ (vs : List Value) (ns : List Int), valsI vs ns = true → Vals (ns.map V.int) vs
  | [], [], _ => .nil
  | .int i t :: vs, n :: ns, h => by
    have h' : (i == n && valsI vs ns) = true := h
    rw [Bool.and_eq_true] at h'
    have e : i = n := beq_iff_eq.mp h'.1
    exact .cons ⟨t, by rw [e]⟩ (valsI_is vs ns h'.2)
  | [], _ :: _, h => nomatch h
  | .none :: _, [], h => nomatch h
  | v :: vs, [], h => by cases v <;> exact nomatch h
  | v :: vs, n :: ns, h => by
    cases v with
    | int i t =>
      have h' : (i == n && valsI vs ns) = true := h
      rw [Bool.and_eq_true] at h'
      have e : i = n := beq_iff_eq.mp h'.1
      exact .cons ⟨t, by rw [e]⟩ (valsI_is vs ns h'.2)
    | _ => exact nomatch h
/-- a tuple of numbers that stands in the module -/
noncomputable def intsAt (K : PySem.W.Frag) (t : Addr) (ns : List Int) : Bool := match K.lookup t with
  | some ⟨.type "tuple", _, .seq its _, _⟩ => decide (its.size ≤ 1000) && valsI its.toList ns
  | _ => false
theorem intsAt_is {K : PySem.W.Frag} {t : Addr} {ns : List Int} (h : intsAt K t ns = true) (H : Hp) : SqT K H t (ns.map V.int) := by
  unfold intsAt at h
  split at h
  case h_2 => exact nomatch h
  case h_1 d its n sl ho =>
    rw [Bool.and_eq_true] at h
    exact .inr ⟨_, its, n, ho, rfl, rfl, Nat.le_trans (of_decide_eq_true h.1) (by decide), valsI_is _ _ h.2⟩
noncomputable def refsI (K : PySem.W.Frag) : List Value → List (List Int) → Bool
  | [], [] => true
  | .ref t :: vs, r :: rs => intsAt K t r && refsI K vs rs
  | _, _ => false
theorem refsI_is {K : PySem.W.Frag} (H : Hp) : ∀ (vs : List Value) (rs : List (List Int)), refsI K vs rs = true → ∃ RS, Vals RS vs ∧ HasA K H RS (rs.map intsT)
  | [], [], _ => ⟨[], .nil, .nil⟩
  | [], _ :: _, h => nomatch h
  | v :: vs, [], h => by cases v <;> exact nomatch h
  | v :: vs, r :: rs, h => by
    cases v with
    | ref t =>
      have h' : (intsAt K t r && refsI K vs rs) = true := h
      rw [Bool.and_eq_true] at h'
      obtain ⟨RS, h1, h2⟩ := refsI_is H vs rs h'.2
      exact ⟨.ref t :: RS, .cons rfl h1, .cons (hasT_of (intsAt_is h'.1 H)) h2⟩
    | _ => exact nomatch h
noncomputable def rowsAt (K : PySem.W.Frag) (t : Addr) (rs : List (List Int)) : Bool := match K.lookup t with
  | some ⟨.type "tuple", _, .seq its _, _⟩ => decide (its.size ≤ 1000) && refsI K its.toList rs
  | _ => false
theorem rowsAt_is {K : PySem.W.Frag} {t : Addr} {rs : List (List Int)} (h : rowsAt K t rs = true) (H : Hp) : ∃ RS, SqT K H t RS ∧ HasA K H RS (rs.map intsT) := by
  unfold rowsAt at h
  split at h
  case h_2 => exact nomatch h
  case h_1 d its n sl ho =>
    rw [Bool.and_eq_true] at h
    obtain ⟨RS, h1, h2⟩ := refsI_is H _ _ h.2
    exact ⟨RS, .inr ⟨_, its, n, ho, rfl, rfl, Nat.le_trans (of_decide_eq_true h.1) (by decide), h1⟩, h2⟩
/-- the boxes: words, sides, rows -/
noncomputable def boxL : List (Str × Nat × Nat × List (List Int)) := [("id", 1, 1, [[1, 1]]), ("swap", 2, 2, [[1, 0, 0, 1], [0, 1, 1, 0]]), ("copy", 1, 2, [[1, 1, 1]]), ("end", 1, 0, [[1]]), ("add", 2, 1, [[1, 0, 1], [0, 1, 1]]), ("none", 0, 1, []), ("cup", 0, 2, [[1, 1]]), ("empty", 0, 0, [])]
noncomputable def boxesOk (K : PySem.W.Frag) (aS aB : Addr) : Bool := okTab K aS && okTab K aB && boxL.all fun e =>
  (match PyProof.Rows.KTD.datumAt e.1 (tabV K aS) with | some (.ref t) => intsAt K t [(e.2.1 : Int), (e.2.2.1 : Int)] | _ => false) &&
  (match PyProof.Rows.KTD.datumAt e.1 (tabV K aB) with | some (.ref t) => rowsAt K t e.2.2.2 | _ => false)
structure Boxes (K : PySem.W.Frag) (mg : Str → Option Value) (aS aB : Addr) : Prop where
  nmS : mg "SIDES" = some (.ref aS)
  nmB : mg "BOX_ROWS" = some (.ref aB)
  ok : boxesOk K aS aB = true
theorem Boxes.tabS {K : PySem.W.Frag} {mg : Str → Option Value} {aS aB : Addr} (B : Boxes K mg aS aB) : ∀ h, K.In h → VTab h aS (tabV K aS) := fun h X => by
  have z := B.ok
  unfold boxesOk at z
  rw [Bool.and_eq_true, Bool.and_eq_true] at z
  exact vtab_of X z.1.1
theorem Boxes.tabB {K : PySem.W.Frag} {mg : Str → Option Value} {aS aB : Addr} (B : Boxes K mg aS aB) : ∀ h, K.In h → VTab h aB (tabV K aB) := fun h X => by
  have z := B.ok
  unfold boxesOk at z
  rw [Bool.and_eq_true, Bool.and_eq_true] at z
  exact vtab_of X z.1.2
theorem Boxes.at_ {K : PySem.W.Frag} {mg : Str → Option Value} {aS aB : Addr} (B : Boxes K mg aS aB) {x : Str} {l r : Nat} {rows : List (List Int)} (h : (x, l, r, rows) ∈ boxL) :
    (∃ t, PyProof.Rows.KTD.datumAt x (tabV K aS) = some (.ref t) ∧ ∀ H, SqT K H t [.int (l : Int), .int (r : Int)]) ∧ ∃ t, PyProof.Rows.KTD.datumAt x (tabV K aB) = some (.ref t) ∧ ∀ H, ∃ RS, SqT K H t RS ∧ HasA K H RS (rows.map intsT) := by
  have z := B.ok
  unfold boxesOk at z
  rw [Bool.and_eq_true] at z
  have z2 := List.all_eq_true.mp z.2 _ h
  rw [Bool.and_eq_true] at z2
  obtain ⟨z3, z4⟩ := z2
  constructor
  · split at z3
    · rename_i t e
      exact ⟨t, e, fun H => intsAt_is z3 H⟩
    · exact nomatch z3
  · split at z4
    · rename_i t e
      exact ⟨t, e, fun H => rowsAt_is z4 H⟩
    · exact nomatch z4
section
variable {P : Program} {w : World} {K : PySem.W.Frag} {mg : Str → Option Value} {base : Heap}
/-! ### measure of a box -/
noncomputable def spMeas (K : PySem.W.Frag) : Sp := fun vs H Q _ => ∃ (i : Int) (x : Str) (pa : Addr) (l r : Nat) (rows : List (List Int)), vs = [.int i, .str x, .ref pa] ∧ (x, l, r, rows) ∈ boxL ∧ AnyT K H [.int (l : Int), .int (r : Int), .non] Q
theorem scMs : FnScope ["place", "word", "parts", "unmet"] ["place", "word", "parts"] (defScope s_measure) := ⟨rfl, rfl, rfl, by decide +kernel, rfl, by decide +kernel, by decide +kernel⟩
theorem ok_meas {aS aB f : Addr} {fd : FuncData} (F : Fun K "measure" "measure" s_measure f fd) (B : Boxes K mg aS aB) : FnOk P w K mg base CX0 1 f fd ["place", "word", "parts"] (spMeas K) := by
  refine F.ok scMs (fun vs H Q E h => ?_) (fun cdv A outer s H vs Q E hr h => ?_)
  · obtain ⟨i, x, pa, l, r, rows, rfl, _⟩ := h
    rfl
  · obtain ⟨i, x, pa, l, r, rows, rfl, hx, q⟩ := h
    obtain ⟨⟨t, e, ht⟩, _⟩ := B.at_ hx
    refine ⟨_, pss_cons (ps_if (pt_cmp (pc_kin B.tabS (pv 1) (pe_glob (v := .ref _) rfl B.nmS rfl)) rfl) (pss_one (ps_ret (pe_op (opCatA K rfl) (pe_kix B.tabS (pe_glob (v := .ref _) rfl B.nmS rfl) (pv 1) (fun _ _ => rfl)) (pe_tup (pa_cons pe_non pa_nil))))) pss_nil) pss_never, ?_⟩
    refine ⟨_, rfl, x, rfl, rfl, _, rfl, ?_⟩
    rw [e]
    refine iteT ⟨_, rfl, x, _, rfl, rfl, e, (by show 1 ≤ sizeLine; decide), fun t1 g1 => ?_⟩
    exact ⟨t, t1, _, _, rfl, rfl, ht _, .of upd_same, (by show 2 + 1 ≤ sizeLine; decide), fun a' H' s' h' => q a' H' ((Same.upd g1).trans s') h'⟩
/-! ### folded, measured, wires -/
/-- a function handed in, handed on -/
theorem FnV.on {X : Cx} {pins : List (Addr × Obj)} {σ : St} {H1 : Hp} {s1 : Shared} {k : Nat} {f : Addr} {R : List V → Hp → VK → Prop} (I : Inv X pins σ H1 s1) (hex : X.ex = []) (sm : Same X.H₀ H1) (L : FnV P w K mg base k X.s₀ X.H₀ f R) : FnV P w K mg base k s1 H1 f R := by
  refine ⟨?_, fun A outer s' H' vs us Q hr e0 sm' hk rv hQ => L.run A outer s' H' vs us Q hr e0 (sm.trans sm') (fun c o hc hn => ?_) rv hQ⟩
  · rcases L.here with ⟨φ, h1, h2⟩ | h
    · exact .inl ⟨φ, sm _ _ h1, h2⟩
    · exact .inr h
  · have hcx : c ∉ X.ex := by rw [hex]; simp
    obtain ⟨sl, h3⟩ := I.base.any hc hn hcx
    obtain ⟨h4, sl', h5⟩ := hk c _ h3 (I.base.free c o hc hn hcx)
    exact ⟨h4, sl', h5⟩
theorem FoldAsk.on {k : Nat} {X : Cx} {pins : List (Addr × Obj)} {σ : St} {H1 : Hp} {s1 : Shared} {Q Q1 : VK} {aw f : Addr} {ws : List V} {R : List V → Hp → VK → Prop} {G : Nat → List V → Hp → Prop} (I : Inv X pins σ H1 s1) (hex : X.ex = []) (sm : Same X.H₀ H1)
    (D : FoldAsk k P w K mg base X.s₀ X.H₀ Q aw f ws R G) (q : ∀ u H', Same H1 H' → Q u H' → Q1 u H') : FoldAsk k P w K mg base s1 H1 Q1 aw f ws R G :=
  ⟨sm.seqT D.wds, D.len, FnV.on I hex sm D.fn, D.mono _ _ _ _ D.g0 sm.tup, D.mono, D.few, D.kind, D.num, D.word, D.first, fun td kvs vs v H' s' h1 h2 h3 => q _ _ s' (D.fin td kvs vs v H' (sm.trans s') h1 h2 h3)⟩
noncomputable def QFold (Q : VK) : VK := fun u H' => ∃ td kvs v, u = .ref td ∧ H' td = some (.dK kvs) ∧ valV kvs (Sum.inl 0) = some v ∧ Q v H'
noncomputable def spFolded (k : Nat) (P : Program) (w : World) (K : PySem.W.Frag) (mg : Str → Option Value) (base : Heap) (s : Shared) : Sp := fun vs H Q _ => ∃ (aw f : Addr) (ws : List V) (R : List V → Hp → VK → Prop) (G : Nat → List V → Hp → Prop), vs = [.ref aw, .ref f] ∧ FoldAsk k P w K mg base s H (QFold Q) aw f ws R G
theorem scFo : FnScope ["words", "made"] ["words", "made"] (defScope s_folded) := ⟨rfl, rfl, rfl, by decide +kernel, rfl, by decide +kernel, by decide +kernel⟩
theorem ok_folded {k : Nat} {f fA : Addr} {fd fdA : FuncData} (F : Fun K "folded" "folded" s_folded f fd)
    (GA : RunS P w K mg base (k + 1) fA fdA ["words", "made"] (spFold k P w K mg base)) (kA : PySem.W.keepIn K (.ref fA) = true) (bA : Binds K fdA ["words", "made"] []) (mA : mg "all_folded" = some (.ref fA)) : RunS P w K mg base (k + 2) f fd ["words", "made"] (spFolded k P w K mg base) := by
  refine F.okS scFo (fun s vs H Q E h => ?_) (fun cdv A outer s H vs Q E hr h => ?_)
  · obtain ⟨aw, f, ws, R, G, rfl, _⟩ := h
    rfl
  · obtain ⟨aw, fm, ws, R, G, rfl, D⟩ := h
    refine ⟨_, pss_one (ps_ret (pe_dget (hu_of hr) (pe_callS GA hr rfl mA kA bA (pa_cons (pv 0) (pa_cons (pv 1) pa_nil))) pe_int (fun _ _ => rfl))), ?_⟩
    refine ⟨_, rfl, _, rfl, fun pins s1 I => ⟨aw, fm, ws, R, G, rfl, FoldAsk.on I rfl (.refl _) D fun u H' _ ⟨td, kvs, v, e, h1, h2, h3⟩ => ?_⟩⟩
    exact ⟨td, v, e, h2 ▸ DGet.k (k := Sum.inl 0) h1, h3⟩
noncomputable def spMeasd (K : PySem.W.Frag) : Sp := fun vs H Q _ => ∃ (aw : Addr) (x : Str) (l r : Nat) (rows : List (List Int)), vs = [.ref aw] ∧ SqT K H aw [.str x] ∧ (x, l, r, rows) ∈ boxL ∧ ∀ v H', Same H H' → SqT K H' v [.int (l : Int), .int (r : Int), .non] → Q (.ref v) H'
theorem pc_box : ∀ e ∈ boxL, pcI e.1 = 0 := by decide +kernel
theorem scMd : FnScope ["words"] ["words"] (defScope s_measured) := ⟨rfl, rfl, rfl, by decide +kernel, rfl, by decide +kernel, by decide +kernel⟩
theorem ok_measd {f fF fM : Addr} {fd fdF fdM : FuncData} (F : Fun K "measured" "measured" s_measured f fd)
    (GF : RunS P w K mg base 3 fF fdF ["words", "made"] (spFolded 1 P w K mg base)) (kF : PySem.W.keepIn K (.ref fF) = true) (bF : Binds K fdF ["words", "made"] []) (mF : mg "folded" = some (.ref fF))
    (GM : FnOk P w K mg base CX0 1 fM fdM ["place", "word", "parts"] (spMeas K)) (FM : Fun K "measure" "measure" s_measure fM fdM) (bM : Binds K fdM ["place", "word", "parts"] []) (mM : mg "measure" = some (.ref fM)) : FnOk P w K mg base CX0 4 f fd ["words"] (spMeasd K) := by
  refine F.ok scMd (fun vs H Q E h => ?_) (fun cdv A outer s H vs Q E hr h => ?_)
  · obtain ⟨aw, x, l, r, rows, rfl, _⟩ := h
    rfl
  · obtain ⟨aw, x, l, r, rows, rfl, hw, hx, q⟩ := h
    refine ⟨_, pss_one (ps_ret (pe_callS GF hr rfl mF kF bF (pa_cons (pv 0) (pa_cons (pe_glob (v := .ref _) rfl mM rfl) pa_nil)))), ?_⟩
    refine ⟨_, rfl, fun pins s1 I => ⟨aw, fM, [.str x], fun vs H' Q => spMeas K vs H' Q E0, fun i vs H' => (i = 1 ∧ vs = []) ∨ (i = 0 ∧ ∃ v, vs = [.ref v] ∧ SqT K H' v [.int (l : Int), .int (r : Int), .non]), rfl, ?_⟩⟩
    refine ⟨hw, by simp, FnV.ofK GM FM bM, .inl ⟨rfl, rfl⟩, fun i vs H1 H2 h tp => ?_, fun i vs H1 h => ?_, fun i hi => ?_, fun i n vs H1 h => ?_, fun i y vs H1 h g => ?_, ⟨x, rfl⟩, fun td kvs vs v H' s' h1 h2 h3 => ?_⟩
    · rcases h with h | ⟨h1, v, h2, h3⟩
      · exact .inl h
      · exact .inr ⟨h1, v, h2, tp.seqT h3⟩
    · rcases h with ⟨_, h⟩ | ⟨_, v, h, _⟩ <;> (rw [h]; simp)
    · have : i = 0 := by simpa using hi
      subst this
      exact .inl ⟨x, rfl⟩
    · match i, h with
      | 0, h => cases h
      | _ + 1, h => cases h
    · match i, h with
      | 0, h =>
        cases h
        rcases g with ⟨_, g⟩ | ⟨g, _⟩
        · refine ⟨[], [], by rw [g]; rfl, (pc_box _ hx).symm, fun pa H2 Q' tp hp hq => ⟨_, x, pa, l, r, rows, rfl, hx, fun v H3 s3 hv => hq (.ref v) H3 s3 (.inr ⟨rfl, v, rfl, hv⟩)⟩⟩
        · exact absurd g (by decide)
      | _ + 1, h => cases h
    · rcases h3 with ⟨z, _⟩ | ⟨_, v', z, hv⟩
      · exact absurd z (by decide)
      · have e : vs = [] ∧ v = .ref v' := by
          cases vs with
          | nil => exact ⟨rfl, by simpa using z⟩
          | cons a vs => simp at z
        obtain ⟨rfl, rfl⟩ := e
        exact ⟨td, kvs, _, rfl, h1, h2, q v' H' s' hv⟩
noncomputable def spWires (K : PySem.W.Frag) : Sp := fun vs H Q _ => ∃ (aw : Addr) (x : Str) (l r : Nat) (rows : List (List Int)), vs = [.ref aw] ∧ SqT K H aw [.str x] ∧ (x, l, r, rows) ∈ boxL ∧ ∀ v H', Same H H' → SqT K H' v [.int (l : Int), .int (r : Int)] → Q (.ref v) H'
theorem scWi : FnScope ["words"] ["words"] (defScope s_wires) := ⟨rfl, rfl, rfl, by decide +kernel, rfl, by decide +kernel, by decide +kernel⟩
theorem ok_wires {f fM : Addr} {fd fdM : FuncData} (F : Fun K "wires" "wires" s_wires f fd)
    (GM : FnOk P w K mg base CX0 4 fM fdM ["words"] (spMeasd K)) (kM : PySem.W.keepIn K (.ref fM) = true) (bM : Binds K fdM ["words"] []) (mM : mg "measured" = some (.ref fM)) : FnOk P w K mg base CX0 5 f fd ["words"] (spWires K) := by
  refine F.ok scWi (fun vs H Q E h => ?_) (fun cdv A outer s H vs Q E hr h => ?_)
  · obtain ⟨aw, x, l, r, rows, rfl, _⟩ := h
    rfl
  · obtain ⟨aw, x, l, r, rows, rfl, hw, hx, q⟩ := h
    refine ⟨_, pss_one (ps_ret (pe_slice (slA K rfl) (pe_call GM hr rfl mM kM bM .nil pass0 (pa_cons (pv 0) pa_nil)) po_none (po_some pe_int))), ?_⟩
    refine ⟨_, rfl, aw, x, l, r, rows, rfl, hw, hx, fun v H1 s1 hv => ?_⟩
    exact ⟨_, rfl, v, _, rfl, hv, fun t H2 s2 ht => q t H2 (s1.trans s2) ht⟩
end
end S21
namespace S21
open PySem L2 Bw
set_option maxHeartbeats 3900000
/-! ### forms: two numbers and rows -/
noncomputable def FormH (K : PySem.W.Frag) (H : Hp) (a : Addr) (l r : Nat) (rows : List (List Int)) : Prop := ∃ (t : Addr) (RS : List V), SqT K H a [.int (l : Int), .int (r : Int), .ref t] ∧ SqT K H t RS ∧ HasA K H RS (rows.map intsT)
theorem HasA.tupR {K : PySem.W.Frag} {H H' : Hp} (s : Tup H H') : ∀ {RS : List V} {rows : List (List Int)}, HasA K H RS (rows.map intsT) → HasA K H' RS (rows.map intsT)
  | [], [], _ => .nil
  | _ :: _, [], h => nomatch h
  | [], _ :: _, h => nomatch h
  | v :: RS, r :: rows, .cons h q => by
    refine .cons ?_ (HasA.tupR s q)
    have h : HasD K H v (.tuple (r.map .int)) := h
    cases h with
    | tuple h1 h2 =>
      have e := HasA.intsV h2
      subst e
      exact hasT_of (s.seqT h1)
theorem FormH.tup {K : PySem.W.Frag} {H H' : Hp} {a : Addr} {l r : Nat} {rows : List (List Int)} (h : FormH K H a l r rows) (s : Tup H H') : FormH K H' a l r rows := by
  obtain ⟨t, RS, h1, h2, h3⟩ := h
  exact ⟨t, RS, s.seqT h1, s.seqT h2, HasA.tupR s h3⟩
/-- left and right exchanged -/
noncomputable def swapM (l r : Nat) (row : List Int) : List Int := (row.drop l).take r ++ (row.take l ++ row.drop (l + r))
theorem cutI_hi {r : List Int} {k : Nat} (h : k ≤ r.length) : cutV (r.map V.int) none (some (k : Int)) = (r.take k).map V.int := by
  unfold cutV
  rw [HT.sIx_nat, HT.sIx_none, List.drop_zero, Nat.sub_zero, List.length_map, Nat.min_eq_left h, List.map_take]
theorem cutI_lo {r : List Int} {k : Nat} (h : k ≤ r.length) : cutV (r.map V.int) (some (k : Int)) none = (r.drop k).map V.int := by
  unfold cutV
  rw [HT.sIx_nat, HT.sIx_none, List.length_map, Nat.min_eq_left h, List.take_of_length_le (by simp), List.map_drop]
theorem cutI_mid {r : List Int} {j k : Nat} (h : j + k ≤ r.length) : cutV (r.map V.int) (some (j : Int)) (some ((j + k : Nat) : Int)) = ((r.drop j).take k).map V.int := by
  unfold cutV
  rw [HT.sIx_nat, HT.sIx_nat, List.length_map, Nat.min_eq_left h, Nat.min_eq_left (by omega), List.map_take, List.map_drop, Nat.add_sub_cancel_left]
theorem swap_len {l r x : Nat} {row : List Int} (h : row.length = l + r + x) : (swapM l r row).length = r + l + x := by
  unfold swapM
  simp only [List.length_append, List.length_take, List.length_drop]
  omega
theorem swap_rw {p : Int} {l r x : Nat} {row : List Int} (h : Rw p (l + r + x) row) : Rw p (r + l + x) (swapM l r row) := by
  refine ⟨swap_len h.1, fun x hx => h.2 x ?_⟩
  unfold swapM at hx
  rcases (List.mem_append.mp hx) with z | z
  · exact List.mem_of_mem_drop (List.mem_of_mem_take z)
  · rcases (List.mem_append.mp z) with z | z
    · exact List.mem_of_mem_take z
    · exact List.mem_of_mem_drop z
theorem nbk : (["row", "behind", "left"] : List Str).Nodup := by decide +kernel
section
variable {P : Program} {w : World} {K : PySem.W.Frag} {mg : Str → Option Value} {base : Heap}
/-! ### form_of_back -/
noncomputable def spBack (K : PySem.W.Frag) : Sp := fun vs H Q _ => ∃ (p : Int) (a : Addr) (l r x : Nat) (rows : List (List Int)), vs = [.int p, .ref a] ∧ p ∈ primesL ∧ FormH K H a l r rows ∧ l ≤ 100 ∧ r ≤ 100 ∧ x ≤ 200 ∧ rows.length ≤ 500 ∧ Rws p (l + r + x) rows ∧ ∀ v H', Same H H' → FormH K H' v r l (redM p (rows.map (swapM l r))) → Q (.ref v) H'
noncomputable abbrev nBk : List Str := ["p", "one", "left", "behind"]
theorem scBk : FnScope ["p", "one", "left", "behind"] ["p", "one"] (defScope s_form_of_back) := ⟨rfl, rfl, rfl, by decide +kernel, rfl, by decide +kernel, by decide +kernel⟩
theorem ok_back {f fD : Addr} {fd fdD : FuncData} (F : Fun K "form_of_back" "form_of_back" s_form_of_back f fd)
    (GD : FnOk P w K mg base CX0 3 fD fdD ["p", "rows"] (spReduced K)) (kD : PySem.W.keepIn K (.ref fD) = true) (bD : Binds K fdD ["p", "rows"] []) (mD : mg "reduced" = some (.ref fD)) : FnOk P w K mg base CX0 4 f fd ["p", "one"] (spBack K) := by
  refine F.ok scBk (fun vs H Q E h => ?_) (fun cdv A outer s H vs Q E hr h => ?_)
  · obtain ⟨p, a, l, r, x, rows, rfl, _⟩ := h
    rfl
  · obtain ⟨p, a, l, r, x, rows, rfl, pp, ⟨t, RS, h1, h2, h3⟩, hl, hr', hx200, hz, hR, q⟩ := h
    have z1000 : (1000 : Nat) ≤ sizeLine := by decide
    refine ⟨_, pss_cons (ps_set (i := 2) scBk.nd rfl (Or.inr rfl) (pe_ix (ixT K rfl) (pv 1) pe_int (fun _ _ => rfl)))
      (pss_cons (ps_set (i := 3) scBk.nd rfl (Or.inr rfl) (pe_op op_add (pv 2) (pe_ix (ixT K rfl) (pv 1) pe_int (fun _ _ => rfl))))
      (pss_one (ps_ret (pe_tup (pa_cons (pe_ix (ixT K rfl) (pv 1) pe_int (fun _ _ => rfl)) (pa_cons (pv 2) (pa_cons (pe_call GD hr rfl mD kD bD .nil pass0 (pa_cons (pv 0) (pa_cons (pe_comp (N := ["row", "behind", "left"]) (own := 1) (caps := [3, 2]) rfl (piTup K rfl (pe_ix (ixT K rfl) (pv 1) pe_int (fun _ _ => rfl)))
        (show BlkScope nBk (defScope s_form_of_back) ["row", "behind", "left"] 1 [3, 2] _ from .mk' (by decide +kernel)) (fun _ _ _ _ _ => pg_name (i := 0) nbk rfl (Or.inl rfl)) (fun _ _ _ _ _ => pts_nil)
        (fun _ _ _ _ _ => pe_op (opCatA K rfl) (pe_op (opCatA K rfl) (pe_slice (slA K rfl) (pv 0) (po_some (pv 2)) (po_some (pv 1))) (pe_slice (slA K rfl) (pv 0) po_none (po_some (pv 2)))) (pe_slice (slA K rfl) (pv 0) (po_some (pv 1)) po_none))) pa_nil))) pa_nil))))))), ?_⟩
    have eRS := lenA h3
    refine ⟨_, rfl, a, _, 0, _, rfl, rfl, h1, atI_nat (j := 0) rfl, ?_⟩
    refine ⟨_, rfl, _, rfl, a, _, 1, _, rfl, rfl, h1, atI_nat (j := 1) rfl, _, _, rfl, rfl, ?_⟩
    refine ⟨_, rfl, a, _, 1, _, rfl, rfl, h1, atI_nat (j := 1) rfl, _, rfl, _, rfl, _, rfl, a, _, 2, _, rfl, rfl, h1, atI_nat (j := 2) rfl, t, rfl, ⟨_, h2⟩, ?_⟩
    refine comp_tup (xs := RS) (cp := [some (.int ((l : Int) + (r : Int))), some (.int (l : Int))]) (fun i H' zs => HasA K H' zs (((rows.map (swapM l r)).take i).map intsT)) h2 (by omega) .nil (fun i H' zs h => by rw [lenA h, List.length_take]; exact Nat.min_le_left _ _) ?_ ?_
    · rintro i v H2 zs hv sm h
      obtain ⟨rw_, ra, hri, rfl, hra⟩ := rowAt h3 hv
      have hlen := (hR rw_ (List.mem_of_getElem? hri)).1
      have elr : (l : Int) + (r : Int) = ((l + r : Nat) : Int) := by omega
      rw [elr]
      refine tgo ⟨_, rfl, _, rfl, _, rfl, _, rfl, _, rfl, ra, _, rfl, sm.seqT hra, fun t1 H3 s3 ht1 => ?_⟩
      rw [cutI_mid (by omega)] at ht1
      refine ⟨_, rfl, _, rfl, _, rfl, ra, _, rfl, (sm.trans s3).seqT hra, fun t2 H4 s4 ht2 => ?_⟩
      rw [cutI_hi (by omega)] at ht2
      refine ⟨t1, t2, _, _, rfl, rfl, s4.seqT ht1, ht2, by simp only [List.length_map, List.length_take, List.length_drop]; omega, fun t3 H5 s5 ht3 => ?_⟩
      have s35 := s3.trans (s4.trans s5)
      refine ⟨_, rfl, _, rfl, _, rfl, ra, _, rfl, (sm.trans s35).seqT hra, fun t4 H6 s6 ht4 => ?_⟩
      rw [cutI_lo (by omega)] at ht4
      refine ⟨t3, t4, _, _, rfl, rfl, s6.seqT ht3, ht4, by simp only [List.length_map, List.length_append, List.length_take, List.length_drop]; omega, fun t5 H7 s7 ht5 => ?_⟩
      have smm := s35.trans (s6.trans s7)
      refine ⟨⟨[_], rfl, rfl⟩, sm.trans smm, ?_⟩
      rw [← List.map_append, ← List.map_append, List.append_assoc] at ht5
      have e : (rows.map (swapM l r))[i]? = some (swapM l r rw_) := by rw [List.getElem?_map, hri]; rfl
      rw [List.take_add_one, e]
      show HasA K H7 _ (((rows.map (swapM l r)).take i ++ [_]).map intsT)
      rw [List.map_append]
      exact (h.mono smm).append (.cons (hasT_of ht5) .nil)
    rintro H1 ZS sm hZ lz hlz
    rw [List.take_of_length_le (by rw [List.length_map]; omega)] at hZ
    have s1 : Same H (upd H1 lz (.lst ZS)) := sm.trans (.upd hlz)
    refine ⟨p, lz, true, ZS, rows.map (swapM l r), r + l + x, rfl, pp, .of upd_same, hZ.mono (.upd hlz), by rw [List.length_map]; omega, by omega, fun x hx => ?_, fun t2 H2 DS s2 ht2 hD2 => ?_⟩
    · obtain ⟨y, hy, rfl⟩ := List.mem_map.mp hx
      exact swap_rw (hR y hy)
    · refine ⟨(by show 3 ≤ sizeLine; omega), fun v hv => q v _ (s1.trans (s2.trans (.upd hv))) ⟨t2, DS, .of upd_same, (Same.upd hv).seqT ht2, hD2.mono (.upd hv)⟩⟩
end
end S21
namespace S21
open PySem L2 Bw
set_option maxHeartbeats 3900000
theorem box_no : ∀ e ∈ boxL, e.1 ≠ "back" ∧ e.1 ≠ "beside" ∧ e.1 ≠ "then" ∧ e.1 ≠ "times" := by decide +kernel
theorem iteStr {x y : Str} {A B : Prop} (h : x ≠ y) (b : B) : if decide (V.str x = V.str y) = true then A else B := by
  rw [decide_eq_false (fun z => h (V.str.inj z))]
  exact iteF b
theorem iteSame {x : V} {A B : Prop} (a : A) : if decide (x = x) = true then A else B := by
  rw [decide_eq_true rfl]
  exact iteT a
theorem iteIn {b : Bool} {A B : Prop} (h : b = false) (q : B) : if (if false = true then !b else b) = true then A else B := by
  subst h
  simpa using q
/-- said once: the rule's own way is slow where tuples stand in tuples -/
theorem se_tup {ts es : List Expr} {k : Nat} {pos : Pos} {env : Env} : starEach (.Tuple ts k pos :: es) env = (false, eval (.Tuple ts k pos) env) :: starEach es env := by rfl
theorem se_con {c : Const} {k : Nat} {es : List Expr} {pos : Pos} {env : Env} : starEach (.Constant c k pos :: es) env = (false, eval (.Constant c k pos) env) :: starEach es env := by rfl
theorem ts1 : ("times" : Str) ≠ "back" := by decide +kernel
theorem ts2 : ("times" : Str) ≠ "beside" := by decide +kernel
theorem ts3 : ("times" : Str) ≠ "then" := by decide +kernel
section
variable {P : Program} {w : World} {K : PySem.W.Frag} {mg : Str → Option Value} {base : Heap}
/-! ### form: a word and its parts -/
inductive FormAsk (K : PySem.W.Frag) (p : Int) (x : Str) (ps : List V) (H : Hp) (Q : VK) : Prop where
  | back (a : Addr) (l r e : Nat) (rows : List (List Int)) (hx : x = "back") (hp : ps = [.ref a]) (hf : FormH K H a l r rows) (hl : l ≤ 100) (hr : r ≤ 100) (he : e ≤ 200) (hz : rows.length ≤ 500) (hR : Rws p (l + r + e) rows) (q : ∀ v H', Same H H' → FormH K H' v r l (redM p (rows.map (swapM l r))) → Q (.ref v) H') : FormAsk K p x ps H Q
  | times (n : Int) (hx : x = "times") (hp : ps = [.int n]) (q : ∀ v H', Same H H' → FormH K H' v 1 1 [[1, n]] → Q (.ref v) H') : FormAsk K p x ps H Q
  | box (l r : Nat) (rows : List (List Int)) (hx : (x, l, r, rows) ∈ boxL) (q : ∀ v H', Same H H' → FormH K H' v l r rows → Q (.ref v) H') : FormAsk K p x ps H Q
theorem scFm : FnScope ["p", "word", "parts"] ["p", "word", "parts"] (defScope s_form) := ⟨rfl, rfl, rfl, by decide +kernel, rfl, by decide +kernel, by decide +kernel⟩
/-! ### refuse_late: there is none -/
noncomputable def spLate (K : PySem.W.Frag) : Sp := fun vs H Q _ => ∃ (aw : Addr) (ws : List V), vs = [.ref aw] ∧ SqT K H aw ws ∧ ws.all flatV = true ∧ inV (.str "late") ws = false ∧ Q .non H
theorem scLt : FnScope ["words"] ["words"] (defScope s_refuse_late) := ⟨rfl, rfl, rfl, by decide +kernel, rfl, by decide +kernel, by decide +kernel⟩
theorem ok_late {f : Addr} {fd : FuncData} (F : Fun K "refuse_late" "refuse_late" s_refuse_late f fd) : FnOk P w K mg base CX0 1 f fd ["words"] (spLate K) := by
  refine F.ok scLt (fun vs H Q E h => ?_) (fun cdv A outer s H vs Q E hr h => ?_)
  · obtain ⟨aw, ws, rfl, _⟩ := h
    rfl
  · obtain ⟨aw, ws, rfl, hw, hf, hn, q⟩ := h
    refine ⟨_, pss_one (ps_if (pt_cmpR (opIn K rfl) pe_str (pv 0) rfl) (pss_one ps_never) pss_nil), ?_⟩
    exact ⟨_, rfl, aw, ws, rfl, .inr hw, rfl, hf, _, rfl, iteIn hn q⟩
end
end S21
namespace S21
open PySem L2 Bw
set_option maxHeartbeats 3900000
noncomputable def del (Pt : Addr) (H : Hp) : Hp := fun b => if b = Pt then none else H b
section
variable {K : PySem.W.Frag} {H H' : Hp} {Pt a b : Addr} {ps : Array Value} {xs : List V} {o : HO}
theorem del_ne (h : b ≠ Pt) : del Pt H b = H b := if_neg h
theorem of_del (e : del Pt H b = some o) : b ≠ Pt ∧ H b = some o := by
  by_cases hb : b = Pt
  · rw [del, if_pos hb] at e; cases e
  · exact ⟨hb, (del_ne hb).symm.trans e⟩
theorem SmT.same (h : SmT Pt H H') : Same (del Pt H) H' := fun b o e => h b o (of_del e).2 (of_del e).1
theorem neTab (hP : H Pt = some (.tbl ps)) (e : H b = some o) (hn : ∀ ps, o ≠ .tbl ps) : b ≠ Pt := fun z => by
  rw [z, hP] at e
  exact hn _ (Option.some.inj e).symm
theorem get_del (hP : H Pt = some (.tbl ps)) (e : H b = some o) (hn : ∀ ps, o ≠ .tbl ps) : del Pt H b = some o := by rw [del_ne (neTab hP e hn)]; exact e
theorem SqT.del (hP : H Pt = some (.tbl ps)) (h : SqT K H a xs) : SqT K (del Pt H) a xs := by
  rcases h with (h | ⟨o, h⟩) | h
  · exact .inl (.inl (get_del hP h fun _ z => nomatch z))
  · exact .inl (.inr ⟨o, get_del hP h fun _ z => nomatch z⟩)
  · exact .inr h
end
theorem _root_.L2.LamT.tab {H : Hp} {Pt : Addr} {pos : Pos} {qual : Str} (h : LamT H Pt pos qual) : ∃ ps, H Pt = some (.tbl ps) := by
  rcases h with h | ⟨c, h, _⟩
  · exact ⟨_, h⟩
  · exact ⟨_, h⟩
theorem _root_.L2.LamT.mono {H H' : Hp} {Pt : Addr} {pos : Pos} {qual : Str} (h : LamT H Pt pos qual) (e : Same H H') : LamT H' Pt pos qual := by
  rcases h with h | ⟨c, h, h2⟩
  · exact .inl (e _ _ h)
  · exact .inr ⟨c, e _ _ h, e _ _ h2⟩
/-! ### both machines, in one -/
noncomputable def lamPos (e : Expr) : Pos := match e with
  | .Lambda _ _ _ q => q
  | _ => ⟨0, 0, 0, 0⟩
noncomputable def lamArgs (e : Expr) : Arguments := match e with
  | .Lambda a _ _ _ => a
  | _ => { posonlyargs := [], args := [], vararg := none, kwonlyargs := [], kw_defaults := [], kwarg := none, defaults := [] }
noncomputable def lamScope (e : Expr) : Scope := match e with
  | .Lambda _ _ s _ => s
  | _ => { kind := .function, names := [], isGenerator := false, isCoroutine := false }
end S21
namespace S21
open PySem L2 Bw
set_option maxHeartbeats 3900000
noncomputable def lamOf (st : Stmt) (i : Nat) : Expr := match (defBody st).getD i (.Pass ⟨0, 0, 0, 0⟩) with
  | .Return (some (.Call _ [_, e] _ _)) _ => e
  | _ => .Constant .none 0 ⟨0, 0, 0, 0⟩
noncomputable abbrev lamFo : Expr := lamOf s_forms 1
noncomputable abbrev qFo : Str := "forms" ++ ".<locals>." ++ "<lambda>"
noncomputable def cellF (L : Nat) : Addr := ((cellsFrom (L + 1) (defScope s_forms).names []).lookup ("p" : Str)).getD 0
noncomputable abbrev clFo (L : Nat) : List (Str × Addr) := [("p", cellF L)]
theorem clos_fo {L f : Addr} {cdv : Value} : closureFor (lamScope lamFo) (PyProof.Rows.envOfC "forms" (defScope s_forms) L f cdv) = pure (clFo L) := rfl
theorem cellF_at {L : Nat} : (cellsFrom (L + 1) (defScope s_forms).names []).lookup ("p" : Str) = some (cellF L) := by
  obtain ⟨c, hc⟩ := cell_has (n := L + 1) (sc := defScope s_forms) (x := "p") rfl
  unfold cellF
  rw [hc]; rfl
theorem cl_only {L : Nat} {y : Str} {c : Addr} (h : (clFo L).lookup y = some c) : y = "p" := by
  rcases (List.mem_cons.mp (PySem.mem_of_lookup h)) with e | e
  · cases e; rfl
  · cases e
theorem cl_env {L : Nat} {y : Str} {c : Addr} (h : (clFo L).lookup y = some c) : (cellsFrom (L + 1) (defScope s_forms).names []).lookup y = some c := by
  have e := cl_only h
  subst e
  rw [cellF_at]; exact h
theorem lsFo {L : Nat} (hinj : ∀ y z c, (cellsFrom (L + 1) (defScope s_forms).names []).lookup y = some c → (cellsFrom (L + 1) (defScope s_forms).names []).lookup z = some c → y = z) : LamScopeN ["place", "word", "parts"] ["p"] (lamScope lamFo) (lamArgs lamFo) (clFo L) := by
  have fr : ∀ y ∈ (["p"] : List Str), (lamScope lamFo).names.lookup y = some .free := by decide +kernel
  have only : ∀ z ∈ (lamScope lamFo).names, z.2 = .free → z.1 ∈ (["p"] : List Str) := by decide +kernel
  refine ⟨rfl, rfl, rfl, by decide +kernel, by decide +kernel, by decide +kernel, fr, fun y hy => ?_, fun y z c h1 h2 => hinj y z c (cl_env h1) (cl_env h2), fun y c h => by rw [cl_only h]; exact List.mem_cons_self⟩
  have e : y = "p" := List.mem_singleton.mp (only _ (PySem.mem_of_lookup hy) rfl)
  exact ⟨_, by rw [e]; rfl⟩
/-! ### words back .. back and a box, and their forms -/
theorem pc_back : pcI "back" = 1 := by decide +kernel
theorem pc_times : pcI "times" = 1 := by decide +kernel
section
variable {P : Program} {w : World} {K : PySem.W.Frag} {mg : Str → Option Value} {base : Heap}
theorem scFs : FnScope ["p", "words"] ["p", "words"] (defScope s_forms) := ⟨rfl, rfl, rfl, by decide +kernel, rfl, by decide +kernel, by decide +kernel⟩
/-! ### plain -/
theorem scPl : FnScope ["p", "words"] ["p", "words"] (defScope s_plain) := ⟨rfl, rfl, rfl, by decide +kernel, rfl, by decide +kernel, by decide +kernel⟩
end
end S21
namespace S21
open PySem L2 Bw
set_option maxHeartbeats 3900000
/-! ### readings that give a number, or a tuple of numbers, whatever comes behind -/
noncomputable def IntE (te : TE) (σ : St) (H : Hp) (k : Int) : Prop := ∀ H', Same H H' → ∀ R : VK, R (.int k) H' → te σ H' R
noncomputable def TupE (K : PySem.W.Frag) (te : TE) (σ : St) (H : Hp) (ns : List Int) : Prop := ∀ H', Same H H' → ∀ R : VK, (∀ v H'', Same H' H'' → SqT K H'' v (ns.map V.int) → R (.ref v) H'') → te σ H' R
/-- what a slice is asked for -/
noncomputable def OptE (to : TO) (σ : St) (H : Hp) (k : Option Int) : Prop := ∀ H', Same H H' → ∀ R : Option Int → Hp → Prop, R k H' → to σ H' R
section
variable {K : PySem.W.Frag} {σ : St} {H : Hp}
theorem intE_c {k : Int} : IntE (tC (.int k)) σ H k := fun _ _ _ q => q
theorem intE_v {i : Nat} {k : Int} (h : σ[i]? = some (some (.int k))) : IntE (tVar i) σ H k := fun _ _ _ q => ⟨_, h, q⟩
theorem intE_ix {i : Nat} {a : Addr} {xs : List V} {j : Nat} {k : Int} (h : σ[i]? = some (some (.ref a))) (ha : SqT K H a xs) (hj : xs[j]? = some (.int k)) : IntE (tOp (rIxT K) (tVar i) (tC (.int (j : Int)))) σ H k :=
  fun _ s _ q => ⟨_, h, a, xs, (j : Int), _, rfl, rfl, s.seqT ha, atI_nat hj, q⟩
theorem intE_add {ta tb : TE} {i j : Int} (h1 : IntE ta σ H i) (h2 : IntE tb σ H j) : IntE (tOp (rI0 fun i j => .int (i + j)) ta tb) σ H (i + j) := fun H' s _ q => h1 H' s _ (h2 H' s _ ⟨i, j, rfl, rfl, q⟩)
theorem tupE_v {i : Nat} {a : Addr} {ns : List Int} (h : σ[i]? = some (some (.ref a))) (ha : SqT K H a (ns.map V.int)) : TupE K (tVar i) σ H ns := fun _ s _ q => ⟨_, h, q a _ (.refl _) (s.seqT ha)⟩
theorem optE_none : OptE tNoPart σ H none := fun _ _ _ q => q
theorem optE_some {te : TE} {k : Int} (h : IntE te σ H k) : OptE (tPart te) σ H (some k) := fun H' s _ q => h H' s _ ⟨k, rfl, q⟩
theorem tupE_cat {ta tb : TE} {ns ms : List Int} (h1 : TupE K ta σ H ns) (h2 : TupE K tb σ H ms) (hl : ns.length + ms.length ≤ 10000) : TupE K (tOp (rCatA K) ta tb) σ H (ns ++ ms) := fun H' s R q => by
  have z : (10000 : Nat) ≤ sizeLine := by decide
  refine h1 H' s _ fun a H1 s1 ha => h2 H1 (s.trans s1) _ fun b H2 s2 hb => ?_
  refine ⟨a, b, _, _, rfl, rfl, s2.seqT ha, hb, by simp only [List.length_map]; omega, fun c H3 s3 hc => q c H3 (s1.trans (s2.trans s3)) ?_⟩
  rw [List.map_append]
  exact hc
theorem flat_1 {α : Type} (v : α) : ∀ n : Nat, (List.replicate n [v]).flatten = List.replicate n v
  | 0 => rfl
  | n + 1 => by rw [List.replicate_succ, List.flatten_cons, flat_1 v n]; rfl
theorem tupE_rep {tk : TE} {k : Nat} (h : IntE tk σ H (k : Int)) (hk : k ≤ 10000) : TupE K (tOp (rRepT K) (tTup (tCons (tC (.int 0)) tNil)) tk) σ H (List.replicate k 0) := fun H' s R q => by
  have z : (10000 : Nat) ≤ sizeLine := by decide
  refine ⟨by show 1 ≤ sizeLine; decide, fun a ha => ?_⟩
  have sa := Same.upd (o := .tup [.int 0]) ha
  refine h _ (s.trans sa) _ ⟨a, (k : Int), [.int 0], rfl, rfl, .of upd_same, by simp, by omega, by omega, by show 1 * (k : Int).toNat ≤ sizeLine; omega, fun c H3 s3 hc => q c H3 (sa.trans s3) ?_⟩
  rw [show (k : Int).toNat = k by omega, flat_1] at hc
  rw [List.map_replicate]
  exact hc
theorem tupE_sl {te : TE} {tl th : TO} {ns : List Int} {lo hi : Option Int} {ms : List Int} (h : TupE K te σ H ns) (h1 : OptE tl σ H lo) (h2 : OptE th σ H hi) (e : cutV (ns.map V.int) lo hi = ms.map V.int) : TupE K (tSl (rSlA K) te tl th) σ H ms := fun H' s R q =>
  h H' s _ fun a H1 s1 ha => h1 H1 (s.trans s1) _ (h2 H1 (s.trans s1) _ ⟨a, _, rfl, ha, fun c H3 s3 hc => q c H3 (s1.trans s3) (by rw [e] at hc; exact hc)⟩)
end
/-! ### a list of rows out of a tuple of rows -/
theorem comp_rows {K : PySem.W.Frag} {H1 : Hp} {t : Addr} {RS : List V} {rows : List (List Int)} {f : List Int → List Int} {cp : St} {te : TE} {Q : VK} (h2 : SqT K H1 t RS) (h3 : HasA K H1 RS (rows.map intsT)) (hz : rows.length ≤ 1000)
    (step : ∀ row ra H, row ∈ rows → Same H1 H → SqT K H ra (row.map V.int) → TupE K te (some (.ref ra) :: cp) H (f row))
    (done : ∀ H ZS, Same H1 H → HasA K H ZS ((rows.map f).map intsT) → ∀ p, H p = none → Q (.ref p) (upd H p (.lst ZS))) :
    ∃ W : Nat → Nat → St → Hp → List V → Prop, (∃ m, W 0 m (List.replicate 1 none ++ cp) H1 []) ∧ CompW (Itt K t) (gName 0) tTrue te Q W := by
  have z1000 : (1000 : Nat) ≤ sizeLine := by decide
  have eRS := lenA h3
  refine comp_tup (xs := RS) (cp := cp) (fun i H' zs => HasA K H' zs (((rows.map f).take i).map intsT)) h2 (by omega) .nil (fun i H' zs h => by rw [lenA h, List.length_take]; exact Nat.min_le_left _ _) ?_ ?_
  · rintro i v H2 zs hv sm h
    obtain ⟨row, ra, hri, rfl, hra⟩ := rowAt h3 hv
    refine tgo (step row ra H2 (List.mem_of_getElem? hri) sm (sm.seqT hra) H2 (.refl _) _ fun u H3 s3 hu => ⟨⟨[_], rfl, rfl⟩, sm.trans s3, ?_⟩)
    have e : (rows.map f)[i]? = some (f row) := by rw [List.getElem?_map, hri]; rfl
    rw [List.take_add_one, e]
    show HasA K H3 _ (((rows.map f).take i ++ [_]).map intsT)
    rw [List.map_append]
    exact (h.mono s3).append (.cons (hasT_of hu) .nil)
  · rintro H2 ZS sm hZ lz hlz
    rw [List.take_of_length_le (by rw [List.length_map]; omega)] at hZ
    exact done H2 ZS sm hZ lz hlz
end S21
namespace S21
open PySem L2 Bw
set_option maxHeartbeats 3900000
/-! ### two drawings beside one another -/
noncomputable def aboveM (l r l' r' : Nat) (row : List Int) : List Int := row.take l ++ List.replicate l' 0 ++ (row.drop l).take r ++ List.replicate r' 0 ++ row.drop (l + r)
noncomputable def belowM (l r l' : Nat) (row : List Int) : List Int := List.replicate l 0 ++ row.take l' ++ List.replicate r 0 ++ row.drop l'
noncomputable def besM (l r l' r' : Nat) (rows rows' : List (List Int)) : List (List Int) := rows.map (aboveM l r l' r') ++ rows'.map (belowM l r l')
theorem above_rw {p : Int} {l r l' r' x : Nat} {row : List Int} (p0 : 0 < p) (h : Rw p (l + r + x) row) : Rw p (l + l' + (r + r') + x) (aboveM l r l' r' row) := by
  refine ⟨?_, fun y hx => ?_⟩
  · unfold aboveM
    have := h.1
    simp only [List.length_append, List.length_take, List.length_drop, List.length_replicate]
    omega
  · unfold aboveM at hx
    simp only [List.mem_append, List.mem_replicate] at hx
    rcases hx with (((z | ⟨_, rfl⟩) | z) | ⟨_, rfl⟩) | z
    · exact h.2 y (List.mem_of_mem_take z)
    · omega
    · exact h.2 y (List.mem_of_mem_drop (List.mem_of_mem_take z))
    · omega
    · exact h.2 y (List.mem_of_mem_drop z)
theorem below_rw {p : Int} {l r l' r' x : Nat} {row : List Int} (p0 : 0 < p) (h : Rw p (l' + r' + x) row) : Rw p (l + l' + (r + r') + x) (belowM l r l' row) := by
  refine ⟨?_, fun y hx => ?_⟩
  · unfold belowM
    have := h.1
    simp only [List.length_append, List.length_take, List.length_drop, List.length_replicate]
    omega
  · unfold belowM at hx
    simp only [List.mem_append, List.mem_replicate] at hx
    rcases hx with ((⟨_, rfl⟩ | z) | ⟨_, rfl⟩) | z
    · omega
    · exact h.2 y (List.mem_of_mem_take z)
    · omega
    · exact h.2 y (List.mem_of_mem_drop z)
theorem bes_rws {p : Int} {l r l' r' x : Nat} {rows rows' : List (List Int)} (p0 : 0 < p) (h : Rws p (l + r + x) rows) (h' : Rws p (l' + r' + x) rows') : Rws p (l + l' + (r + r') + x) (besM l r l' r' rows rows') := fun w hx => by
  rcases (List.mem_append.mp hx) with z | z
  · obtain ⟨y, hy, e⟩ := List.mem_map.mp z
    rw [← e]
    exact above_rw p0 (h y hy)
  · obtain ⟨y, hy, e⟩ := List.mem_map.mp z
    rw [← e]
    exact below_rw p0 (h' y hy)
theorem nbs1 : (["row", "behind", "one", "other"] : List Str).Nodup := by decide +kernel
theorem nbs2 : (["row", "one", "other"] : List Str).Nodup := by decide +kernel
section
variable {P : Program} {w : World} {K : PySem.W.Frag} {mg : Str → Option Value} {base : Heap}
noncomputable def spBes (K : PySem.W.Frag) : Sp := fun vs H Q _ => ∃ (p : Int) (a b : Addr) (l r : Nat) (rows : List (List Int)) (l' r' : Nat) (rows' : List (List Int)) (x : Nat), vs = [.int p, .ref a, .ref b] ∧ p ∈ primesL ∧ FormH K H a l r rows ∧ FormH K H b l' r' rows' ∧ l ≤ 100 ∧ r ≤ 100 ∧ l' ≤ 100 ∧ r' ≤ 100 ∧ x ≤ 200 ∧ rows.length ≤ 400 ∧ rows'.length ≤ 400 ∧ Rws p (l + r + x) rows ∧ Rws p (l' + r' + x) rows' ∧
  ∀ v H', Same H H' → FormH K H' v (l + l') (r + r') (redM p (besM l r l' r' rows rows')) → Q (.ref v) H'
noncomputable abbrev nBs : List Str := ["p", "one", "other", "behind", "above", "below"]
theorem scBs : FnScope ["p", "one", "other", "behind", "above", "below"] ["p", "one", "other"] (defScope s_form_of_beside) := ⟨rfl, rfl, rfl, by decide +kernel, rfl, by decide +kernel, by decide +kernel⟩
noncomputable abbrev tIx (K : PySem.W.Frag) (i : Nat) (j : Int) : TE := tOp (rIxT K) (tVar i) (tC (.int j))
noncomputable abbrev tZero (K : PySem.W.Frag) (tk : TE) : TE := tOp (rRepT K) (tTup (tCons (tC (.int 0)) tNil)) tk
noncomputable abbrev tCat (K : PySem.W.Frag) (ta tb : TE) : TE := tOp (rCatA K) ta tb
noncomputable abbrev tAddI (ta tb : TE) : TE := tOp (rI0 fun i j => .int (i + j)) ta tb
noncomputable def tAbove (K : PySem.W.Frag) : TE := tCat K (tCat K (tCat K (tCat K (tSl (rSlA K) (tVar 0) tNoPart (tPart (tIx K 2 0))) (tZero K (tIx K 3 0))) (tSl (rSlA K) (tVar 0) (tPart (tIx K 2 0)) (tPart (tVar 1)))) (tZero K (tIx K 3 1))) (tSl (rSlA K) (tVar 0) (tPart (tVar 1)) tNoPart)
noncomputable def tBelow (K : PySem.W.Frag) : TE := tCat K (tCat K (tCat K (tZero K (tIx K 1 0)) (tSl (rSlA K) (tVar 0) tNoPart (tPart (tIx K 2 0)))) (tZero K (tIx K 1 1))) (tSl (rSlA K) (tVar 0) (tPart (tIx K 2 0)) tNoPart)
theorem above_is {σ : St} {H : Hp} {ra a b : Addr} {row : List Int} {l r l' r' x : Nat} {t t' : V} (h0 : σ[0]? = some (some (.ref ra))) (h1 : σ[1]? = some (some (.int ((l + r : Nat) : Int)))) (h2 : σ[2]? = some (some (.ref a))) (h3 : σ[3]? = some (some (.ref b)))
    (hr : SqT K H ra (row.map V.int)) (ha : SqT K H a [.int (l : Int), .int (r : Int), t]) (hb : SqT K H b [.int (l' : Int), .int (r' : Int), t']) (hl : row.length = l + r + x) (hx : x ≤ 200) (b1 : l ≤ 100) (b2 : r ≤ 100) (b3 : l' ≤ 100) (b4 : r' ≤ 100) : TupE K (tAbove K) σ H (aboveM l r l' r' row) := by
  have e1 : (row.take l).length ≤ 100 := by rw [List.length_take]; omega
  have e2 : ((row.drop l).take r).length ≤ 100 := by rw [List.length_take]; omega
  have e3 : (row.drop (l + r)).length ≤ 200 := by rw [List.length_drop]; omega
  refine tupE_cat (tupE_cat (tupE_cat (tupE_cat (tupE_sl (tupE_v h0 hr) optE_none (optE_some (intE_ix (j := 0) h2 ha rfl)) (cutI_hi (by omega))) (tupE_rep (intE_ix (j := 0) h3 hb rfl) (by omega)) ?_)
    (tupE_sl (tupE_v h0 hr) (optE_some (intE_ix (j := 0) h2 ha rfl)) (optE_some (intE_v h1)) (cutI_mid (by omega))) ?_) (tupE_rep (intE_ix (j := 1) h3 hb rfl) (by omega)) ?_) (tupE_sl (tupE_v h0 hr) (optE_some (intE_v h1)) optE_none (cutI_lo (by omega))) ?_ <;>
    simp only [List.length_append, List.length_replicate] <;> omega
theorem below_is {σ : St} {H : Hp} {ra a b : Addr} {row : List Int} {l r l' r' x : Nat} {t t' : V} (h0 : σ[0]? = some (some (.ref ra))) (h2 : σ[1]? = some (some (.ref a))) (h3 : σ[2]? = some (some (.ref b)))
    (hr : SqT K H ra (row.map V.int)) (ha : SqT K H a [.int (l : Int), .int (r : Int), t]) (hb : SqT K H b [.int (l' : Int), .int (r' : Int), t']) (hl : row.length = l' + r' + x) (hx : x ≤ 200) (b1 : l ≤ 100) (b2 : r ≤ 100) (b3 : l' ≤ 100) (b4 : r' ≤ 100) : TupE K (tBelow K) σ H (belowM l r l' row) := by
  have e1 : (row.take l').length ≤ 100 := by rw [List.length_take]; omega
  have e3 : (row.drop l').length ≤ 300 := by rw [List.length_drop]; omega
  refine tupE_cat (tupE_cat (tupE_cat (tupE_rep (intE_ix (j := 0) h2 ha rfl) (by omega)) (tupE_sl (tupE_v h0 hr) optE_none (optE_some (intE_ix (j := 0) h3 hb rfl)) (cutI_hi (by omega))) ?_)
    (tupE_rep (intE_ix (j := 1) h2 ha rfl) (by omega)) ?_) (tupE_sl (tupE_v h0 hr) (optE_some (intE_ix (j := 0) h3 hb rfl)) optE_none (cutI_lo (by omega))) ?_ <;>
    simp only [List.length_append, List.length_replicate] <;> omega
noncomputable def tBes (K : PySem.W.Frag) : TS := tSeq (tAsg (tAddI (tIx K 1 0) (tIx K 1 1)) (gName 3))
  (tSeq (tAsg (tComp (iTup K (tIx K 1 2)) 1 [3, 1, 2] (gName 0) tTrue (tAbove K)) (gName 4))
  (tSeq (tAsg (tComp (iTup K (tIx K 2 2)) 1 [1, 2] (gName 0) tTrue (tBelow K)) (gName 5))
  (tRet (tTup (tCons (tAddI (tIx K 1 0) (tIx K 2 0)) (tCons (tAddI (tIx K 1 1) (tIx K 2 1)) (tCons (tCall (spReduced K) [] E0 (tCons (tVar 0) (tCons (tOp rCat (tVar 4) (tVar 5)) tNil))) tNil)))))))
theorem bes_read {D : Ends} {p : Int} {a b : Addr} {l r : Nat} {rows : List (List Int)} {l' r' : Nat} {rows' : List (List Int)} {x : Nat} {H : Hp} (pp : p ∈ primesL) (hf : FormH K H a l r rows) (hf' : FormH K H b l' r' rows') (b1 : l ≤ 100) (b2 : r ≤ 100) (b3 : l' ≤ 100) (b4 : r' ≤ 100) (hx : x ≤ 200) (z1 : rows.length ≤ 400) (z2 : rows'.length ≤ 400) (hR : Rws p (l + r + x) rows) (hR' : Rws p (l' + r' + x) rows')
    (q : ∀ v H', Same H H' → FormH K H' v (l + l') (r + r') (redM p (besM l r l' r' rows rows')) → D.rt (.ref v) H') : tBes K D [some (.int p), some (.ref a), some (.ref b), none, none, none] H := by
  obtain ⟨t, RS, h1, h2, h3⟩ := hf
  obtain ⟨t', RS', h1', h2', h3'⟩ := hf'
  have z1000 : (1000 : Nat) ≤ sizeLine := by decide
  have p0 : 0 < p := (prime_pos p pp).1 |> fun h => by omega
  unfold tBes
  refine intE_add (intE_ix (j := 0) rfl h1 rfl) (intE_ix (j := 1) rfl h1 rfl) H (.refl _) _ ?_
  refine ⟨_, rfl, a, _, 2, _, rfl, rfl, h1, atI_nat (j := 2) rfl, t, rfl, ⟨_, h2⟩, ?_⟩
  refine comp_rows (f := aboveM l r l' r') (cp := [some (.int ((l : Int) + (r : Int))), some (.ref a), some (.ref b)]) h2 h3 (by omega) (fun row ra H1 hrow s1 hra => above_is rfl (by rw [show ((l + r : Nat) : Int) = (l : Int) + (r : Int) by omega]; rfl) rfl rfl hra (s1.seqT h1) (s1.seqT h1') (hR row hrow).1 hx b1 b2 b3 b4) ?_
  intro H1 ZS s1 hZ la hla
  refine ⟨_, rfl, b, _, 2, _, rfl, rfl, (s1.trans (.upd hla)).seqT h1', atI_nat (j := 2) rfl, t', rfl, ⟨_, (s1.trans (.upd hla)).seqT h2'⟩, ?_⟩
  have gla : (upd H1 la (.lst ZS)) la = some (.lst ZS) := upd_same
  have hZ' := hZ.mono (Same.upd hla (o := .lst ZS))
  have sA : Same H (upd H1 la (.lst ZS)) := s1.trans (.upd hla)
  generalize upd H1 la (.lst ZS) = H2 at gla hZ' sA ⊢
  refine comp_rows (f := belowM l r l') (cp := [some (.ref a), some (.ref b)]) (sA.seqT h2') (h3'.mono sA) (by omega) (fun row ra H3 hrow s3 hra => below_is rfl rfl rfl hra ((sA.trans s3).seqT h1) ((sA.trans s3).seqT h1') (hR' row hrow).1 hx b1 b2 b3 b4) ?_
  intro H3 YS s3 hY lb hlb
  have sB : Same H2 (upd H3 lb (.lst YS)) := s3.trans (.upd hlb)
  have glb : (upd H3 lb (.lst YS)) lb = some (.lst YS) := upd_same
  have hY' := hY.mono (Same.upd hlb (o := .lst YS))
  generalize upd H3 lb (.lst YS) = H4 at sB glb hY' ⊢
  have sC := sA.trans sB
  refine intE_add (intE_ix (j := 0) rfl (sC.seqT h1) rfl) (intE_ix (j := 0) rfl (sC.seqT h1') rfl) H4 (.refl _) _ ?_
  refine intE_add (intE_ix (j := 1) rfl (sC.seqT h1) rfl) (intE_ix (j := 1) rfl (sC.seqT h1') rfl) H4 (.refl _) _ ?_
  have eZ := lenA hZ'
  have eY := lenA hY'
  rw [List.length_map] at eZ eY
  refine ⟨_, rfl, _, rfl, _, rfl, la, lb, ZS, YS, rfl, rfl, sB _ _ gla, glb, by omega, fun lc hlc => ?_⟩
  have sD := Same.upd (o := .lst (ZS ++ YS)) hlc
  refine ⟨p, lc, true, ZS ++ YS, besM l r l' r' rows rows', l + l' + (r + r') + x, rfl, pp, .of upd_same, ?_, by unfold besM; rw [List.length_append, List.length_map, List.length_map]; omega, by omega, bes_rws p0 hR hR', fun t2 H5 DS s5 ht2 hD2 => ?_⟩
  · unfold besM
    rw [List.map_append]
    exact ((hZ'.mono sB).mono sD).append (hY'.mono sD)
  · refine ⟨(by show 3 ≤ sizeLine; omega), fun v hv => q v _ (sC.trans (sD.trans (s5.trans (.upd hv)))) ⟨t2, DS, ?_, (Same.upd hv).seqT ht2, hD2.mono (.upd hv)⟩⟩
    refine .of ?_
    rw [upd_same, show ((l + l' : Nat) : Int) = (l : Int) + (l' : Int) by omega, show ((r + r' : Nat) : Int) = (r : Int) + (r' : Int) by omega]
end
end S21
namespace S21
open PySem L2 Bw
set_option maxHeartbeats 3900000
section
variable {P : Program} {w : World} {K : PySem.W.Frag} {mg : Str → Option Value} {base : Heap}
theorem ok_bes {f fD : Addr} {fd fdD : FuncData} (F : Fun K "form_of_beside" "form_of_beside" s_form_of_beside f fd)
    (GD : FnOk P w K mg base CX0 3 fD fdD ["p", "rows"] (spReduced K)) (kD : PySem.W.keepIn K (.ref fD) = true) (bD : Binds K fdD ["p", "rows"] []) (mD : mg "reduced" = some (.ref fD)) : FnOk P w K mg base CX0 4 f fd ["p", "one", "other"] (spBes K) := by
  refine F.ok scBs (fun vs H Q E h => ?_) (fun cdv A outer s H vs Q E hr h => ?_)
  · obtain ⟨p, a, b, l, r, rows, l', r', rows', x, rfl, _⟩ := h
    rfl
  · obtain ⟨p, a, b, l, r, rows, l', r', rows', x, rfl, pp, hf, hf', b1, b2, b3, b4, hx, z1, z2, hR, hR', q⟩ := h
    refine ⟨tBes K, ?_, ?_⟩
    · unfold tBes
      refine pss_cons ?_ ?_
      · refine ps_set (i := 3) (te := tAddI (tIx K 1 0) (tIx K 1 1)) ?_ ?_ ?_ ?_ ?_ ?_
        · exact scBs.nd
        · rfl
        · exact Or.inr rfl
        · exact pe_op op_add (pe_ix (ixT K rfl) (pv 1) pe_int (fun _ _ => rfl)) (pe_ix (ixT K rfl) (pv 1) pe_int (fun _ _ => rfl))
        · rfl
        · exact .inl rfl
      refine pss_cons ?_ ?_
      · refine ps_setComp (N := ["row", "behind", "one", "other"]) (own := 1) (caps := [3, 1, 2]) (i := 4) (te := tAbove K) rfl scBs.nd rfl rfl ?_ ?_ ?_ ?_ ?_
        · exact piTup K rfl (pe_ix (ixT K rfl) (pv 1) pe_int (fun _ _ => rfl))
        · exact (show BlkScope nBs (defScope s_form_of_beside) ["row", "behind", "one", "other"] 1 [3, 1, 2] _ from .mk' (by decide +kernel))
        · exact fun _ _ _ _ _ => pg_name (i := 0) nbs1 rfl (Or.inl rfl)
        · exact fun _ _ _ _ _ => pts_nil
        · intro _ _ _ _ _
          unfold tAbove
          refine pe_op (opCatA K rfl) ?_ ?_
          · refine pe_op (opCatA K rfl) ?_ ?_
            · refine pe_op (opCatA K rfl) ?_ ?_
              · refine pe_op (opCatA K rfl) ?_ ?_
                · exact pe_slice (slA K rfl) (pv 0) po_none (po_some (pe_ix (ixT K rfl) (pv 2) pe_int (fun _ _ => rfl)))
                · exact pe_op (opRepT K rfl) (pe_tup (pa_cons pe_int pa_nil)) (pe_ix (ixT K rfl) (pv 3) pe_int (fun _ _ => rfl))
              · exact pe_slice (slA K rfl) (pv 0) (po_some (pe_ix (ixT K rfl) (pv 2) pe_int (fun _ _ => rfl))) (po_some (pv 1))
            · exact pe_op (opRepT K rfl) (pe_tup (pa_cons pe_int pa_nil)) (pe_ix (ixT K rfl) (pv 3) pe_int (fun _ _ => rfl))
          · exact pe_slice (slA K rfl) (pv 0) (po_some (pv 1)) po_none
      refine pss_cons ?_ ?_
      · refine ps_setComp (N := ["row", "one", "other"]) (own := 1) (caps := [1, 2]) (i := 5) (te := tBelow K) rfl scBs.nd rfl rfl ?_ ?_ ?_ ?_ ?_
        · exact piTup K rfl (pe_ix (ixT K rfl) (pv 2) pe_int (fun _ _ => rfl))
        · exact (show BlkScope nBs (defScope s_form_of_beside) ["row", "one", "other"] 1 [1, 2] _ from .mk' (by decide +kernel))
        · exact fun _ _ _ _ _ => pg_name (i := 0) nbs2 rfl (Or.inl rfl)
        · exact fun _ _ _ _ _ => pts_nil
        · intro _ _ _ _ _
          unfold tBelow
          refine pe_op (opCatA K rfl) ?_ ?_
          · refine pe_op (opCatA K rfl) ?_ ?_
            · refine pe_op (opCatA K rfl) ?_ ?_
              · exact pe_op (opRepT K rfl) (pe_tup (pa_cons pe_int pa_nil)) (pe_ix (ixT K rfl) (pv 1) pe_int (fun _ _ => rfl))
              · exact pe_slice (slA K rfl) (pv 0) po_none (po_some (pe_ix (ixT K rfl) (pv 2) pe_int (fun _ _ => rfl)))
            · exact pe_op (opRepT K rfl) (pe_tup (pa_cons pe_int pa_nil)) (pe_ix (ixT K rfl) (pv 1) pe_int (fun _ _ => rfl))
          · exact pe_slice (slA K rfl) (pv 0) (po_some (pe_ix (ixT K rfl) (pv 2) pe_int (fun _ _ => rfl))) po_none
      refine pss_one ?_
      refine ps_ret (te := tTup (tCons (tAddI (tIx K 1 0) (tIx K 2 0)) (tCons (tAddI (tIx K 1 1) (tIx K 2 1)) (tCons (tCall (spReduced K) [] E0 (tCons (tVar 0) (tCons (tOp rCat (tVar 4) (tVar 5)) tNil))) tNil)))) ?_
      refine pe_tup ?_
      refine pa_cons ?_ ?_ ?_
      · exact pe_op op_add (pe_ix (ixT K rfl) (pv 1) pe_int (fun _ _ => rfl)) (pe_ix (ixT K rfl) (pv 2) pe_int (fun _ _ => rfl))
      · refine pa_cons ?_ ?_ ?_
        · exact pe_op op_add (pe_ix (ixT K rfl) (pv 1) pe_int (fun _ _ => rfl)) (pe_ix (ixT K rfl) (pv 2) pe_int (fun _ _ => rfl))
        · refine pa_cons ?_ pa_nil ?_
          · exact pe_call GD hr rfl mD kD bD .nil pass0 (pa_cons (pv 0) (pa_cons (pe_op op_cat (pv 4) (pv 5)) pa_nil))
          · rfl
        · rfl
      · rfl
    · exact bes_read pp hf hf' b1 b2 b3 b4 hx z1 z2 hR hR' q
end
end S21
namespace S21
open PySem L2 Bw
set_option maxHeartbeats 3900000
/-! ### one drawing behind another -/
noncomputable def aheadM (l m r' : Nat) (row : List Int) : List Int := (row.drop l).take m ++ row.take l ++ List.replicate r' 0 ++ row.drop (l + m)
noncomputable def followM (p : Int) (l m : Nat) (row : List Int) : List Int := (row.take m).map (fun n => (-n) % p) ++ List.replicate l 0 ++ row.drop m
noncomputable def faceM (p : Int) (l m r' : Nat) (rows rows' : List (List Int)) : List (List Int) := rows.map (aheadM l m r') ++ rows'.map (followM p l m)
noncomputable def noneAt (m : Nat) (row : List Int) : Bool := !((row.take m).any fun n => n != 0)
noncomputable def thenM (p : Int) (l m r' : Nat) (rows rows' : List (List Int)) : List (List Int) := ((redM p (faceM p l m r' rows rows')).filter (noneAt m)).map (fun row => row.drop m)
theorem ahead_rw {p : Int} {l m r' x : Nat} {row : List Int} (p0 : 0 < p) (h : Rw p (l + m + x) row) : Rw p (m + (l + r') + x) (aheadM l m r' row) := by
  refine ⟨?_, fun y hx => ?_⟩
  · unfold aheadM
    have := h.1
    simp only [List.length_append, List.length_take, List.length_drop, List.length_replicate]
    omega
  · unfold aheadM at hx
    simp only [List.mem_append, List.mem_replicate] at hx
    rcases hx with ((z | z) | ⟨_, rfl⟩) | z
    · exact h.2 y (List.mem_of_mem_drop (List.mem_of_mem_take z))
    · exact h.2 y (List.mem_of_mem_take z)
    · omega
    · exact h.2 y (List.mem_of_mem_drop z)
theorem follow_rw {p : Int} {l m r' x : Nat} {row : List Int} (p0 : 0 < p) (h : Rw p (m + r' + x) row) : Rw p (m + (l + r') + x) (followM p l m row) := by
  refine ⟨?_, fun y hx => ?_⟩
  · unfold followM
    have := h.1
    simp only [List.length_append, List.length_map, List.length_take, List.length_drop, List.length_replicate]
    omega
  · unfold followM at hx
    simp only [List.mem_append, List.mem_replicate, List.mem_map] at hx
    rcases hx with (⟨w, _, rfl⟩ | ⟨_, rfl⟩) | z
    · exact ⟨Int.emod_nonneg _ (by omega), Int.emod_lt_of_pos _ p0⟩
    · omega
    · exact h.2 y (List.mem_of_mem_drop z)
theorem face_rws {p : Int} {l m r' x : Nat} {rows rows' : List (List Int)} (p0 : 0 < p) (h : Rws p (l + m + x) rows) (h' : Rws p (m + r' + x) rows') : Rws p (m + (l + r') + x) (faceM p l m r' rows rows') := fun w hx => by
  rcases (List.mem_append.mp hx) with z | z
  · obtain ⟨y, hy, e⟩ := List.mem_map.mp z
    rw [← e]
    exact ahead_rw p0 (h y hy)
  · obtain ⟨y, hy, e⟩ := List.mem_map.mp z
    rw [← e]
    exact follow_rw p0 (h' y hy)
theorem then_rws {p : Int} (pp : p ∈ primesL) {l m r' x : Nat} {rows rows' : List (List Int)} (h : Rws p (l + m + x) rows) (h' : Rws p (m + r' + x) rows') : Rws p (l + r' + x) (thenM p l m r' rows rows') := fun w hx => by
  have p0 : 0 < p := by have := prime_pos p pp; omega
  obtain ⟨y, hy, e⟩ := List.mem_map.mp hx
  have hy' := (redM_ok pp (face_rws p0 h h')).rws y (List.mem_filter.mp hy).1
  rw [← e]
  refine ⟨by rw [List.length_drop, hy'.1]; omega, fun z hz => hy'.2 z (List.mem_of_mem_drop hz)⟩
theorem then_len {p : Int} (pp : p ∈ primesL) {l m r' x : Nat} {rows rows' : List (List Int)} (h : Rws p (l + m + x) rows) (h' : Rws p (m + r' + x) rows') : (thenM p l m r' rows rows').length ≤ m + (l + r') + x := by
  have p0 : 0 < p := by have := prime_pos p pp; omega
  have := redM_len (face_rws p0 h h')
  unfold thenM
  rw [List.length_map]
  exact Nat.le_trans (List.length_filter_le _ _) this
theorem nfc1 : (["row", "behind", "left", "other"] : List Str).Nodup := by decide +kernel
theorem nfc2 : (["row", "between", "left", "p"] : List Str).Nodup := by decide +kernel
theorem nfc3 : (["number", "p"] : List Str).Nodup := by decide +kernel
theorem nth1 : (["row", "between"] : List Str).Nodup := by decide +kernel
section
variable {P : Program} {w : World} {K : PySem.W.Frag} {mg : Str → Option Value} {base : Heap}
noncomputable def rTupl (K : PySem.W.Frag) : List V → Hp → VK → Prop := fun xs H Q => ∃ p ys, xs = [.ref p] ∧ ((SqL K H p ys ∧ ∀ l, H l = none → Q (.ref l) (upd H l (.tup ys))) ∨ (SqT K H p ys ∧ Q (.ref p) H))
noncomputable def tNegs (K : PySem.W.Frag) : TE := tCB (rTupl K) (tCons (tComp (iTup K (tSl (rSlA K) (tVar 0) tNoPart (tPart (tVar 1)))) 1 [3] (gName 0) tTrue (tOp (rI (fun _ j => 0 < j) fun i j => .int (i % j)) (tUn (rU fun i => .int (-i)) (tVar 0)) (tVar 1))) tNil)
noncomputable def tAhead (K : PySem.W.Frag) : TE := tCat K (tCat K (tCat K (tSl (rSlA K) (tVar 0) (tPart (tVar 2)) (tPart (tVar 1))) (tSl (rSlA K) (tVar 0) tNoPart (tPart (tVar 2)))) (tZero K (tIx K 3 1))) (tSl (rSlA K) (tVar 0) (tPart (tVar 1)) tNoPart)
noncomputable def tFollow (K : PySem.W.Frag) : TE := tCat K (tCat K (tNegs K) (tZero K (tVar 2))) (tSl (rSlA K) (tVar 0) (tPart (tVar 1)) tNoPart)
/-- numbers out of a tuple of numbers -/
theorem comp_ints {H1 : Hp} {t : Addr} {ns : List Int} {g : Int → Int} {cp : St} {te : TE} {Q : VK} (h2 : SqT K H1 t (ns.map V.int)) (hz : ns.length ≤ 1000) (step : ∀ n H, Same H1 H → IntE te (some (.int n) :: cp) H (g n))
    (done : ∀ H, Same H1 H → ∀ p, H p = none → Q (.ref p) (upd H p (.lst ((ns.map g).map V.int)))) :
    ∃ W : Nat → Nat → St → Hp → List V → Prop, (∃ m, W 0 m (List.replicate 1 none ++ cp) H1 []) ∧ CompW (Itt K t) (gName 0) tTrue te Q W := by
  have z1000 : (1000 : Nat) ≤ sizeLine := by decide
  refine comp_tup (xs := ns.map V.int) (cp := cp) (fun i H' zs => zs = ((ns.take i).map g).map V.int) h2 (by rw [List.length_map]; omega) (by simp) (fun i H' zs h => by rw [h, List.length_map, List.length_map, List.length_take]; exact Nat.min_le_left _ _) ?_ ?_
  · rintro i v H2 zs hv sm rfl
    rw [List.getElem?_map] at hv
    cases e : ns[i]? with
    | none => rw [e] at hv; cases hv
    | some n =>
      rw [e] at hv
      cases hv
      refine tgo (step n H2 sm H2 (.refl _) _ ⟨⟨[_], rfl, rfl⟩, sm, ?_⟩)
      rw [List.take_add_one, e]
      simp
  · rintro H2 zs sm rfl lz hlz
    rw [List.length_map, List.take_of_length_le (Nat.le_refl _)]
    exact done H2 sm lz hlz
theorem negs_is {σ : St} {H : Hp} {ra : Addr} {row : List Int} {m : Nat} {p : Int} (h0 : σ[0]? = some (some (.ref ra))) (h1 : σ[1]? = some (some (.int (m : Int)))) (h3 : σ[3]? = some (some (.int p))) (hr : SqT K H ra (row.map V.int)) (hm : m ≤ row.length) (hl : row.length ≤ 1000) (p0 : 0 < p) :
    TupE K (tNegs K) σ H ((row.take m).map fun n => (-n) % p) := fun H' s R q => by
  unfold tNegs tCB
  refine tupE_sl (K := K) (ms := row.take m) (tupE_v h0 hr) optE_none (optE_some (intE_v h1)) (cutI_hi hm) H' s _ fun t H1 s1 ht => ⟨t, rfl, ⟨_, ht⟩, ?_⟩
  have eb : blkStart 1 [3] σ = List.replicate 1 none ++ [some (.int p)] := by simp [blkStart, h3]
  rw [eb]
  refine comp_ints (g := fun n => (-n) % p) (cp := [some (.int p)]) ht (by rw [List.length_take]; omega) (fun n H2 s2 H3 s3 R' q' => ⟨_, rfl, n, rfl, _, rfl, -n, p, rfl, rfl, p0, q'⟩) ?_
  intro H2 s2 l hl'
  refine ⟨l, _, rfl, .inl ⟨.of upd_same, fun v hv => q v _ (s1.trans (s2.trans ((Same.upd hl').trans (.upd hv)))) (.of upd_same)⟩⟩
theorem ahead_is {σ : St} {H : Hp} {ra b : Addr} {row : List Int} {l m r' e : Nat} {x t' : V} (h0 : σ[0]? = some (some (.ref ra))) (h1 : σ[1]? = some (some (.int ((l + m : Nat) : Int)))) (h2 : σ[2]? = some (some (.int (l : Int)))) (h3 : σ[3]? = some (some (.ref b)))
    (hr : SqT K H ra (row.map V.int)) (hb : SqT K H b [x, .int (r' : Int), t']) (hl : row.length = l + m + e) (he : e ≤ 200) (b1 : l ≤ 100) (b2 : m ≤ 100) (b4 : r' ≤ 100) : TupE K (tAhead K) σ H (aheadM l m r' row) := by
  have e1 : (row.take l).length ≤ 100 := by rw [List.length_take]; omega
  have e2 : ((row.drop l).take m).length ≤ 100 := by rw [List.length_take]; omega
  have e3 : (row.drop (l + m)).length ≤ 200 := by rw [List.length_drop]; omega
  refine tupE_cat (tupE_cat (tupE_cat (tupE_sl (tupE_v h0 hr) (optE_some (intE_v h2)) (optE_some (intE_v h1)) (cutI_mid (by omega))) (tupE_sl (tupE_v h0 hr) optE_none (optE_some (intE_v h2)) (cutI_hi (by omega))) ?_)
    (tupE_rep (intE_ix (j := 1) h3 hb rfl) (by omega)) ?_) (tupE_sl (tupE_v h0 hr) (optE_some (intE_v h1)) optE_none (cutI_lo (by omega))) ?_ <;>
    (try simp only [List.length_append, List.length_replicate]) <;> omega
theorem follow_is {σ : St} {H : Hp} {ra : Addr} {row : List Int} {l m r' e : Nat} {p : Int} (h0 : σ[0]? = some (some (.ref ra))) (h1 : σ[1]? = some (some (.int (m : Int)))) (h2 : σ[2]? = some (some (.int (l : Int)))) (h3 : σ[3]? = some (some (.int p)))
    (hr : SqT K H ra (row.map V.int)) (hl : row.length = m + r' + e) (he : e ≤ 200) (b1 : l ≤ 100) (b2 : m ≤ 100) (b4 : r' ≤ 100) (p0 : 0 < p) : TupE K (tFollow K) σ H (followM p l m row) := by
  have e1 : ((row.take m).map fun n => (-n) % p).length ≤ 100 := by rw [List.length_map, List.length_take]; omega
  have e3 : (row.drop m).length ≤ 300 := by rw [List.length_drop]; omega
  refine tupE_cat (tupE_cat (negs_is h0 h1 h3 hr (by omega) (by omega) p0) (tupE_rep (intE_v h2) (by omega)) ?_) (tupE_sl (tupE_v h0 hr) (optE_some (intE_v h1)) optE_none (cutI_lo (by omega))) ?_ <;>
    (try simp only [List.length_append, List.length_replicate]) <;> omega
noncomputable def spFace (K : PySem.W.Frag) : Sp := fun vs H Q _ => ∃ (p : Int) (a b : Addr) (l m : Nat) (rows : List (List Int)) (r' : Nat) (rows' : List (List Int)) (e : Nat), vs = [.int p, .ref a, .ref b] ∧ p ∈ primesL ∧ FormH K H a l m rows ∧ FormH K H b m r' rows' ∧ l ≤ 100 ∧ m ≤ 100 ∧ r' ≤ 100 ∧ e ≤ 200 ∧ rows.length ≤ 400 ∧ rows'.length ≤ 400 ∧ Rws p (l + m + e) rows ∧ Rws p (m + r' + e) rows' ∧
  ∀ v H' ZS, Same H H' → H' v = some (.lst ZS) → HasA K H' ZS ((faceM p l m r' rows rows').map intsT) → Q (.ref v) H'
noncomputable abbrev nFc : List Str := ["p", "one", "other", "left", "between", "behind", "ahead", "follow"]
theorem scFc : FnScope ["p", "one", "other", "left", "between", "behind", "ahead", "follow"] ["p", "one", "other"] (defScope s_facing) := ⟨rfl, rfl, rfl, by decide +kernel, rfl, by decide +kernel, by decide +kernel⟩
noncomputable def tFace (K : PySem.W.Frag) : TS := tSeq (tAsg (tIx K 1 0) (gName 3)) (tSeq (tAsg (tIx K 1 1) (gName 4)) (tSeq (tAsg (tAddI (tVar 3) (tVar 4)) (gName 5))
  (tSeq (tAsg (tComp (iTup K (tIx K 1 2)) 1 [5, 3, 2] (gName 0) tTrue (tAhead K)) (gName 6))
  (tSeq (tAsg (tComp (iTup K (tIx K 2 2)) 1 [4, 3, 0] (gName 0) tTrue (tFollow K)) (gName 7))
  (tRet (tOp rCat (tVar 6) (tVar 7)))))))
theorem face_read {D : Ends} {p : Int} {a b : Addr} {l m : Nat} {rows : List (List Int)} {r' : Nat} {rows' : List (List Int)} {e : Nat} {H : Hp} (pp : p ∈ primesL) (hf : FormH K H a l m rows) (hf' : FormH K H b m r' rows') (b1 : l ≤ 100) (b2 : m ≤ 100) (b4 : r' ≤ 100) (he : e ≤ 200) (z1 : rows.length ≤ 400) (z2 : rows'.length ≤ 400) (hR : Rws p (l + m + e) rows) (hR' : Rws p (m + r' + e) rows')
    (q : ∀ v H' ZS, Same H H' → H' v = some (.lst ZS) → HasA K H' ZS ((faceM p l m r' rows rows').map intsT) → D.rt (.ref v) H') : tFace K D [some (.int p), some (.ref a), some (.ref b), none, none, none, none, none] H := by
  obtain ⟨t, RS, h1, h2, h3⟩ := hf
  obtain ⟨t', RS', h1', h2', h3'⟩ := hf'
  have z1000 : (1000 : Nat) ≤ sizeLine := by decide
  have p0 : 0 < p := by have := prime_pos p pp; omega
  unfold tFace
  refine intE_ix (j := 0) rfl h1 rfl H (.refl _) _ ?_
  refine intE_ix (j := 1) rfl h1 rfl H (.refl _) _ ?_
  refine intE_add (i := (l : Int)) (j := (m : Int)) (intE_v rfl) (intE_v rfl) H (.refl _) _ ?_
  refine ⟨_, rfl, a, _, 2, _, rfl, rfl, h1, atI_nat (j := 2) rfl, t, rfl, ⟨_, h2⟩, ?_⟩
  refine comp_rows (f := aheadM l m r') (cp := [some (.int ((l : Int) + (m : Int))), some (.int (l : Int)), some (.ref b)]) h2 h3 (by omega) (fun row ra H1 hrow s1 hra => ahead_is rfl (by rw [show ((l + m : Nat) : Int) = (l : Int) + (m : Int) by omega]; rfl) rfl rfl hra (s1.seqT h1') (hR row hrow).1 he b1 b2 b4) ?_
  intro H1 ZS s1 hZ la hla
  refine ⟨_, rfl, b, _, 2, _, rfl, rfl, (s1.trans (.upd hla)).seqT h1', atI_nat (j := 2) rfl, t', rfl, ⟨_, (s1.trans (.upd hla)).seqT h2'⟩, ?_⟩
  have gla : (upd H1 la (.lst ZS)) la = some (.lst ZS) := upd_same
  have hZ' := hZ.mono (Same.upd hla (o := .lst ZS))
  have sA : Same H (upd H1 la (.lst ZS)) := s1.trans (.upd hla)
  generalize upd H1 la (.lst ZS) = H2 at gla hZ' sA ⊢
  refine comp_rows (f := followM p l m) (cp := [some (.int (m : Int)), some (.int (l : Int)), some (.int p)]) (sA.seqT h2') (h3'.mono sA) (by omega) (fun row ra H3 hrow s3 hra => follow_is (r' := r') rfl rfl rfl rfl hra (hR' row hrow).1 he b1 b2 b4 p0) ?_
  intro H3 YS s3 hY lb hlb
  have sB : Same H2 (upd H3 lb (.lst YS)) := s3.trans (.upd hlb)
  have glb : (upd H3 lb (.lst YS)) lb = some (.lst YS) := upd_same
  have hY' := hY.mono (Same.upd hlb (o := .lst YS))
  generalize upd H3 lb (.lst YS) = H4 at sB glb hY' ⊢
  have eZ := lenA hZ'
  have eY := lenA hY'
  rw [List.length_map] at eZ eY
  refine ⟨_, rfl, _, rfl, la, lb, ZS, YS, rfl, rfl, sB _ _ gla, glb, by omega, fun lc hlc => ?_⟩
  have sD := Same.upd (o := .lst (ZS ++ YS)) hlc
  refine q lc _ (ZS ++ YS) (sA.trans (sB.trans sD)) upd_same ?_
  unfold faceM
  rw [List.map_append]
  exact ((hZ'.mono sB).mono sD).append (hY'.mono sD)
end
end S21
namespace S21
open PySem L2 Bw
set_option maxHeartbeats 3900000
section
variable {P : Program} {w : World} {K : PySem.W.Frag} {mg : Str → Option Value} {base : Heap}
theorem ok_face {f : Addr} {fd : FuncData} (F : Fun K "facing" "facing" s_facing f fd) (T : Txt mg) : FnOk P w K mg base CX0 1 f fd ["p", "one", "other"] (spFace K) := by
  refine F.ok scFc (fun vs H Q E h => ?_) (fun cdv A outer s H vs Q E hr h => ?_)
  · obtain ⟨p, a, b, l, r, rows, r', rows', e, rfl, _⟩ := h
    rfl
  · obtain ⟨p, a, b, l, m, rows, r', rows', e, rfl, pp, hf, hf', b1, b2, b4, he, z1, z2, hR, hR', q⟩ := h
    refine ⟨tFace K, ?_, ?_⟩
    · unfold tFace
      refine pss_cons ?_ ?_
      · exact ps_set (i := 3) scFc.nd rfl (Or.inr rfl) (pe_ix (ixT K rfl) (pv 1) pe_int (fun _ _ => rfl))
      refine pss_cons ?_ ?_
      · exact ps_set (i := 4) scFc.nd rfl (Or.inr rfl) (pe_ix (ixT K rfl) (pv 1) pe_int (fun _ _ => rfl))
      refine pss_cons ?_ ?_
      · exact ps_set (i := 5) scFc.nd rfl (Or.inr rfl) (pe_op op_add (pv 3) (pv 4))
      refine pss_cons ?_ ?_
      · refine ps_setComp (N := ["row", "behind", "left", "other"]) (own := 1) (caps := [5, 3, 2]) (i := 6) (te := tAhead K) rfl scFc.nd rfl rfl ?_ ?_ ?_ ?_ ?_
        · exact piTup K rfl (pe_ix (ixT K rfl) (pv 1) pe_int (fun _ _ => rfl))
        · exact (show BlkScope nFc (defScope s_facing) ["row", "behind", "left", "other"] 1 [5, 3, 2] _ from .mk' (by decide +kernel))
        · exact fun _ _ _ _ _ => pg_name (i := 0) nfc1 rfl (Or.inl rfl)
        · exact fun _ _ _ _ _ => pts_nil
        · intro _ _ _ _ _
          unfold tAhead
          refine pe_op (opCatA K rfl) ?_ ?_
          · refine pe_op (opCatA K rfl) ?_ ?_
            · refine pe_op (opCatA K rfl) ?_ ?_
              · exact pe_slice (slA K rfl) (pv 0) (po_some (pv 2)) (po_some (pv 1))
              · exact pe_slice (slA K rfl) (pv 0) po_none (po_some (pv 2))
            · exact pe_op (opRepT K rfl) (pe_tup (pa_cons pe_int pa_nil)) (pe_ix (ixT K rfl) (pv 3) pe_int (fun _ _ => rfl))
          · exact pe_slice (slA K rfl) (pv 0) (po_some (pv 1)) po_none
      refine pss_cons ?_ ?_
      · refine ps_setComp (N := ["row", "between", "left", "p"]) (own := 1) (caps := [4, 3, 0]) (i := 7) (te := tFollow K) rfl scFc.nd rfl rfl ?_ ?_ ?_ ?_ ?_
        · exact piTup K rfl (pe_ix (ixT K rfl) (pv 2) pe_int (fun _ _ => rfl))
        · exact (show BlkScope nFc (defScope s_facing) ["row", "between", "left", "p"] 1 [4, 3, 0] _ from .mk' (by decide +kernel))
        · exact fun _ _ _ _ _ => pg_name (i := 0) nfc2 rfl (Or.inl rfl)
        · exact fun _ _ _ _ _ => pts_nil
        · intro _ _ _ _ _
          unfold tFollow
          refine pe_op (opCatA K rfl) ?_ ?_
          · refine pe_op (opCatA K rfl) ?_ ?_
            · unfold tNegs
              refine pe_callTy (cTuple K rfl) rfl T.tuple bt_tuple ?_
              refine pa_cons ?_ pa_nil ?_
              · refine pe_comp (N := ["number", "p"]) (own := 1) (caps := [3]) rfl ?_ ?_ ?_ ?_ ?_
                · exact piTup K rfl (pe_slice (slA K rfl) (pv 0) po_none (po_some (pv 1)))
                · exact (BlkScope.mk' (by kernel_rfl))
                · exact fun _ _ _ _ _ => pg_name (i := 0) nfc3 rfl (Or.inl rfl)
                · exact fun _ _ _ _ _ => pts_nil
                · exact fun _ _ _ _ _ => pe_op op_mod (pe_un un_neg (pv 0)) (pv 1)
              · rfl
            · exact pe_op (opRepT K rfl) (pe_tup (pa_cons pe_int pa_nil)) (pv 2)
          · exact pe_slice (slA K rfl) (pv 0) (po_some (pv 1)) po_none
      refine pss_one ?_
      exact ps_ret (te := tOp rCat (tVar 6) (tVar 7)) (pe_op op_cat (pv 6) (pv 7))
    · exact face_read pp hf hf' b1 b2 b4 he z1 z2 hR hR' q
end
end S21
namespace S21
open PySem L2 Bw
set_option maxHeartbeats 3900000
section
variable {P : Program} {w : World} {K : PySem.W.Frag} {mg : Str → Option Value} {base : Heap}
noncomputable def spThen (K : PySem.W.Frag) : Sp := fun vs H Q _ => ∃ (p : Int) (a b : Addr) (l m : Nat) (rows : List (List Int)) (r' : Nat) (rows' : List (List Int)) (e : Nat), vs = [.int p, .ref a, .ref b] ∧ p ∈ primesL ∧ FormH K H a l m rows ∧ FormH K H b m r' rows' ∧ l ≤ 100 ∧ m ≤ 100 ∧ r' ≤ 100 ∧ e ≤ 200 ∧ rows.length ≤ 400 ∧ rows'.length ≤ 400 ∧ Rws p (l + m + e) rows ∧ Rws p (m + r' + e) rows' ∧
  ∀ v H', Same H H' → FormH K H' v l r' (thenM p l m r' rows rows') → Q (.ref v) H'
noncomputable abbrev nTh : List Str := ["p", "one", "other", "between", "met"]
theorem scTh : FnScope ["p", "one", "other", "between", "met"] ["p", "one", "other"] (defScope s_form_of_then) := ⟨rfl, rfl, rfl, by decide +kernel, rfl, by decide +kernel, by decide +kernel⟩
noncomputable def rAnyI (K : PySem.W.Frag) : List V → Hp → VK → Prop := fun xs H Q => ∃ p ns, xs = [.ref p] ∧ SqT K H p (List.map V.int ns) ∧ Q (.bl (ns.any fun n => n != 0)) H
noncomputable def tNone (K : PySem.W.Frag) : TT := tNot (tB (tCB (rAnyI K) (tCons (tSl (rSlA K) (tVar 0) tNoPart (tPart (tVar 1))) tNil)))
noncomputable def tRestM (K : PySem.W.Frag) : TE := tSl (rSlA K) (tVar 0) (tPart (tVar 1)) tNoPart
noncomputable def tThen (K : PySem.W.Frag) : TS := tSeq (tAsg (tIx K 1 1) (gName 3))
  (tSeq (tAsg (tComp (iTup K (tCall (spReduced K) [] E0 (tCons (tVar 0) (tCons (tCall (spFace K) [] E0 (tCons (tVar 0) (tCons (tVar 1) (tCons (tVar 2) tNil)))) tNil)))) 1 [3] (gName 0) (tNone K) (tRestM K)) (gName 4))
  (tRet (tTup (tCons (tIx K 1 0) (tCons (tIx K 2 1) (tCons (tCB (rTupl K) (tCons (tVar 4) tNil)) tNil))))))
/-- rows out of a tuple of rows, by a test -/
theorem comp_rowsIf {H1 : Hp} {t : Addr} {RS : List V} {rows : List (List Int)} {g : List Int → Bool} {f : List Int → List Int} {cp : St} {tt : TT} {te : TE} {Q : VK} (h2 : SqT K H1 t RS) (h3 : HasA K H1 RS (rows.map intsT)) (hz : rows.length ≤ 1000)
    (test : ∀ row ra H, row ∈ rows → Same H1 H → SqT K H ra (row.map V.int) → ∀ R : Bool → Hp → Prop, (∀ H', Same H H' → R (g row) H') → tt (some (.ref ra) :: cp) H R)
    (step : ∀ row ra H, row ∈ rows → Same H1 H → SqT K H ra (row.map V.int) → TupE K te (some (.ref ra) :: cp) H (f row))
    (done : ∀ H ZS, Same H1 H → HasA K H ZS (((rows.filter g).map f).map intsT) → ∀ p, H p = none → Q (.ref p) (upd H p (.lst ZS))) :
    ∃ W : Nat → Nat → St → Hp → List V → Prop, (∃ m, W 0 m (List.replicate 1 none ++ cp) H1 []) ∧ CompW (Itt K t) (gName 0) tt te Q W := by
  have z1000 : (1000 : Nat) ≤ sizeLine := by decide
  have eRS := lenA h3
  refine comp_tup (xs := RS) (cp := cp) (fun i H' zs => HasA K H' zs ((((rows.take i).filter g).map f).map intsT)) h2 (by omega) .nil (fun i H' zs h => by rw [lenA h, List.length_map]; exact Nat.le_trans (List.length_filter_le _ _) (by rw [List.length_take]; exact Nat.min_le_left _ _)) ?_ ?_
  · rintro i v H2 zs hv sm h
    obtain ⟨row, ra, hri, rfl, hra⟩ := rowAt h3 hv
    have hm := List.mem_of_getElem? hri
    refine test row ra H2 hm sm (sm.seqT hra) _ fun H3 s3 => ?_
    have et : (rows.take (i + 1)).filter g = (rows.take i).filter g ++ [row].filter g := by
      rw [List.take_add_one, hri]
      exact List.filter_append ..
    cases hg : g row with
    | true =>
      refine iteT (step row ra H3 hm (sm.trans s3) ((sm.trans s3).seqT hra) H3 (.refl _) _ fun u H4 s4 hu => ⟨⟨[_], rfl, rfl⟩, sm.trans (s3.trans s4), ?_⟩)
      show HasA K H4 _ ((((rows.take (i + 1)).filter g).map f).map intsT)
      rw [et, List.filter_cons, hg, if_pos rfl, List.filter_nil, List.map_append, List.map_append]
      exact (h.mono (s3.trans s4)).append (.cons (hasT_of hu) .nil)
    | false =>
      refine iteF ⟨⟨[_], rfl, rfl⟩, sm.trans s3, ?_⟩
      show HasA K H3 _ ((((rows.take (i + 1)).filter g).map f).map intsT)
      rw [et, List.filter_cons, hg, if_neg (by decide), List.filter_nil, List.append_nil]
      exact h.mono s3
  · rintro H2 ZS sm hZ lz hlz
    rw [List.take_of_length_le (by omega)] at hZ
    exact done H2 ZS sm hZ lz hlz
theorem then_read {D : Ends} {p : Int} {a b : Addr} {l m : Nat} {rows : List (List Int)} {r' : Nat} {rows' : List (List Int)} {e : Nat} {H : Hp} (pp : p ∈ primesL) (hf : FormH K H a l m rows) (hf' : FormH K H b m r' rows') (b1 : l ≤ 100) (b2 : m ≤ 100) (b4 : r' ≤ 100) (he : e ≤ 200) (z1 : rows.length ≤ 400) (z2 : rows'.length ≤ 400) (hR : Rws p (l + m + e) rows) (hR' : Rws p (m + r' + e) rows')
    (q : ∀ v H', Same H H' → FormH K H' v l r' (thenM p l m r' rows rows') → D.rt (.ref v) H') : tThen K D [some (.int p), some (.ref a), some (.ref b), none, none] H := by
  have z1000 : (1000 : Nat) ≤ sizeLine := by decide
  have p0 : 0 < p := by have := prime_pos p pp; omega
  have hF := face_rws p0 hR hR'
  have RO := redM_ok pp hF
  have hlen := redM_len hF
  obtain ⟨t, RS, h1, h2, h3⟩ := id hf
  obtain ⟨t', RS', h1', h2', h3'⟩ := id hf'
  unfold tThen
  refine intE_ix (j := 1) rfl h1 rfl H (.refl _) _ ?_
  refine ⟨_, rfl, _, rfl, _, rfl, _, rfl, p, a, b, l, m, rows, r', rows', e, rfl, pp, hf, hf', b1, b2, b4, he, z1, z2, hR, hR', fun lf H1 ZS s1 hlf hZ => ?_⟩
  refine ⟨p, lf, true, ZS, faceM p l m r' rows rows', m + (l + r') + e, rfl, pp, .of hlf, hZ, by unfold faceM; rw [List.length_append, List.length_map, List.length_map]; omega, by omega, hF, fun t2 H2 DS s2 ht2 hD2 => ?_⟩
  refine ⟨t2, rfl, ⟨_, ht2⟩, ?_⟩
  have sA := s1.trans s2
  refine comp_rowsIf (g := noneAt m) (f := fun row => row.drop m) (cp := [some (.int (m : Int))]) ht2 hD2 (by omega) (fun row ra H3 hrow s3 hra R hR3 => ?_) (fun row ra H3 hrow s3 hra => ?_) ?_
  · have hl := (RO.rws row hrow).1
    refine tupE_sl (K := K) (ms := row.take m) (tupE_v rfl hra) optE_none (optE_some (intE_v rfl)) (cutI_hi (by omega)) H3 (.refl _) _ fun u H4 s4 hu => ?_
    exact ⟨u, row.take m, rfl, hu, _, rfl, hR3 H4 s4⟩
  · have hl := (RO.rws row hrow).1
    exact tupE_sl (K := K) (tupE_v rfl hra) (optE_some (intE_v rfl)) optE_none (cutI_lo (by omega))
  intro H3 YS s3 hY lb hlb
  have sB : Same H2 (upd H3 lb (.lst YS)) := s3.trans (.upd hlb)
  have glb : (upd H3 lb (.lst YS)) lb = some (.lst YS) := upd_same
  have hY' := hY.mono (Same.upd hlb (o := .lst YS))
  generalize upd H3 lb (.lst YS) = H4 at sB glb hY' ⊢
  have sC := sA.trans sB
  refine intE_ix (j := 0) rfl (sC.seqT h1) rfl H4 (.refl _) _ ?_
  refine intE_ix (j := 1) rfl (sC.seqT h1') rfl H4 (.refl _) _ ?_
  refine ⟨_, rfl, lb, YS, rfl, .inl ⟨.of glb, fun tt htt => ⟨(by show 3 ≤ sizeLine; omega), fun v hv => ?_⟩⟩⟩
  have sv := (Same.upd (o := .tup YS) htt).trans (Same.upd hv (o := .tup [.int (l : Int), .int (r' : Int), .ref tt]))
  exact q v _ (sC.trans sv) ⟨tt, YS, .of upd_same, (Same.upd hv).seqT (.of upd_same), hY'.mono sv⟩
theorem ok_then {f fD fC : Addr} {fd fdD fdC : FuncData} (F : Fun K "form_of_then" "form_of_then" s_form_of_then f fd) (T : Txt mg)
    (GD : FnOk P w K mg base CX0 3 fD fdD ["p", "rows"] (spReduced K)) (kD : PySem.W.keepIn K (.ref fD) = true) (bD : Binds K fdD ["p", "rows"] []) (mD : mg "reduced" = some (.ref fD))
    (GC : FnOk P w K mg base CX0 1 fC fdC ["p", "one", "other"] (spFace K)) (kC : PySem.W.keepIn K (.ref fC) = true) (bC : Binds K fdC ["p", "one", "other"] []) (mC : mg "facing" = some (.ref fC)) : FnOk P w K mg base CX0 4 f fd ["p", "one", "other"] (spThen K) := by
  refine F.ok scTh (fun vs H Q E h => ?_) (fun cdv A outer s H vs Q E hr h => ?_)
  · obtain ⟨p, a, b, l, r, rows, r', rows', e, rfl, _⟩ := h
    rfl
  · obtain ⟨p, a, b, l, m, rows, r', rows', e, rfl, pp, hf, hf', b1, b2, b4, he, z1, z2, hR, hR', q⟩ := h
    have hr1 : Room 1 _ := hr.mono (by decide)
    refine ⟨tThen K, ?_, ?_⟩
    · unfold tThen
      refine pss_cons ?_ ?_
      · exact ps_set (i := 3) scTh.nd rfl (Or.inr rfl) (pe_ix (ixT K rfl) (pv 1) pe_int (fun _ _ => rfl))
      refine pss_cons ?_ ?_
      · refine ps_setComp (N := ["row", "between"]) (own := 1) (caps := [3]) (i := 4) (te := tRestM K) (tt := tNone K) rfl scTh.nd rfl rfl ?_ ?_ ?_ ?_ ?_
        · exact piTup K rfl (pe_call GD hr rfl mD kD bD .nil pass0 (pa_cons (pv 0) (pa_cons (pe_call GC hr1 rfl mC kC bC .nil pass0 (pa_cons (pv 0) (pa_cons (pv 1) (pa_cons (pv 2) pa_nil)))) pa_nil)))
        · exact (show BlkScope nTh (defScope s_form_of_then) ["row", "between"] 1 [3] _ from .mk' (by decide +kernel))
        · exact fun _ _ _ _ _ => pg_name (i := 0) nth1 rfl (Or.inl rfl)
        · intro _ _ _ _ _
          unfold tNone
          exact pts_one (pt_not (pt_val (pe_callB (cAnyT K rfl rfl) rfl T.any bt_any (pa_cons (pe_slice (slA K rfl) (pv 0) po_none (po_some (pv 1))) pa_nil))))
        · intro _ _ _ _ _
          unfold tRestM
          exact pe_slice (slA K rfl) (pv 0) (po_some (pv 1)) po_none
      refine pss_one ?_
      refine ps_ret (te := tTup (tCons (tIx K 1 0) (tCons (tIx K 2 1) (tCons (tCB (rTupl K) (tCons (tVar 4) tNil)) tNil)))) ?_
      refine pe_tup ?_
      refine pa_cons ?_ ?_ ?_
      · exact pe_ix (ixT K rfl) (pv 1) pe_int (fun _ _ => rfl)
      · refine pa_cons ?_ ?_ ?_
        · exact pe_ix (ixT K rfl) (pv 2) pe_int (fun _ _ => rfl)
        · refine pa_cons ?_ pa_nil ?_
          · exact pe_callTy (cTuple K rfl) rfl T.tuple bt_tuple (pa_cons (pv 4) pa_nil)
          · rfl
        · rfl
      · rfl
    · exact then_read pp hf hf' b1 b2 b4 he z1 z2 hR hR' q
end
end S21
namespace S21
open PySem L2 Bw
set_option maxHeartbeats 3900000
section
variable {P : Program} {w : World} {K : PySem.W.Frag} {mg : Str → Option Value} {base : Heap}
/-! ### form, of any word -/
inductive FormAsk2 (K : PySem.W.Frag) (p : Int) (x : Str) (ps : List V) (H : Hp) (Q : VK) : Prop where
  | old (h : FormAsk K p x ps H Q) : FormAsk2 K p x ps H Q
  | beside (a b : Addr) (l r : Nat) (rows : List (List Int)) (l' r' : Nat) (rows' : List (List Int)) (e : Nat) (hx : x = "beside") (hp : ps = [.ref a, .ref b]) (hf : FormH K H a l r rows) (hf' : FormH K H b l' r' rows') (b1 : l ≤ 100) (b2 : r ≤ 100) (b3 : l' ≤ 100) (b4 : r' ≤ 100) (he : e ≤ 200) (z1 : rows.length ≤ 400) (z2 : rows'.length ≤ 400) (hR : Rws p (l + r + e) rows) (hR' : Rws p (l' + r' + e) rows')
      (q : ∀ v H', Same H H' → FormH K H' v (l + l') (r + r') (redM p (besM l r l' r' rows rows')) → Q (.ref v) H') : FormAsk2 K p x ps H Q
  | thn (a b : Addr) (l m : Nat) (rows : List (List Int)) (r' : Nat) (rows' : List (List Int)) (e : Nat) (hx : x = "then") (hp : ps = [.ref a, .ref b]) (hf : FormH K H a l m rows) (hf' : FormH K H b m r' rows') (b1 : l ≤ 100) (b2 : m ≤ 100) (b4 : r' ≤ 100) (he : e ≤ 200) (z1 : rows.length ≤ 400) (z2 : rows'.length ≤ 400) (hR : Rws p (l + m + e) rows) (hR' : Rws p (m + r' + e) rows')
      (q : ∀ v H', Same H H' → FormH K H' v l r' (thenM p l m r' rows rows') → Q (.ref v) H') : FormAsk2 K p x ps H Q
noncomputable def spForm2 (K : PySem.W.Frag) : Sp := fun vs H Q _ => ∃ (p : Int) (x : Str) (pa : Addr) (ps : List V), vs = [.int p, .str x, .ref pa] ∧ p ∈ primesL ∧ H pa = some (.lst ps) ∧ FormAsk2 K p x ps H Q
noncomputable abbrev tIxL (K : PySem.W.Frag) (i : Nat) (j : Int) : TE := tOp (rIxL K) (tVar i) (tC (.int j))
noncomputable abbrev tIsW (x : Str) : TT := tTest (tOp rEq (tVar 1) (tC (.str x)))
noncomputable def tFormB (K : PySem.W.Frag) : TE := tCall (spBack K) [] E0 (tCons (tVar 0) (tCons (tIxL K 2 0) tNil))
noncomputable def tFormS (K : PySem.W.Frag) : TE := tCall (spBes K) [] E0 (tCons (tVar 0) (tCons (tIxL K 2 0) (tCons (tIxL K 2 1) tNil)))
noncomputable def tFormT (K : PySem.W.Frag) : TE := tCall (spThen K) [] E0 (tCons (tVar 0) (tCons (tIxL K 2 0) (tCons (tIxL K 2 1) tNil)))
noncomputable def tFormN (K : PySem.W.Frag) : TE := tTup (tCons (tC (.int 1)) (tCons (tC (.int 1)) (tCons (tTup (tCons (tTup (tCons (tC (.int 1)) (tCons (tIxL K 2 0) tNil))) tNil)) tNil)))
noncomputable def tFormX (K : PySem.W.Frag) (aB : Addr) : TE := tCat K (tCall (spWires K) [] E0 (tCons (tTup (tCons (tVar 1) tNil)) tNil)) (tTup (tCons (tKix aB (tabV K aB) (tC (.ref aB)) (tVar 1)) tNil))
noncomputable def tForm2 (K : PySem.W.Frag) (aB : Addr) : TS := tSeq (tIfS (tIsW "back") (tRet (tFormB K)) tNext) (tSeq (tIfS (tIsW "beside") (tRet (tFormS K)) tNext) (tSeq (tIfS (tIsW "then") (tRet (tFormT K)) tNext) (tSeq (tIfS (tIsW "times") (tRet (tFormN K)) tNext) (tRet (tFormX K aB)))))
theorem tw1 : ("beside" : Str) ≠ "back" := by decide +kernel
theorem tw2 : ("then" : Str) ≠ "back" := by decide +kernel
theorem tw3 : ("then" : Str) ≠ "beside" := by decide +kernel
theorem form2_read {D : Ends} {aS aB : Addr} {p : Int} {x : Str} {pa : Addr} {ps : List V} {H : Hp} (B : Boxes K mg aS aB) (pp : p ∈ primesL) (hpa : H pa = some (.lst ps)) (A : FormAsk2 K p x ps H D.rt) : tForm2 K aB D [some (.int p), some (.str x), some (.ref pa)] H := by
  unfold tForm2
  cases A with
  | beside a b l r rows l' r' rows' e hx hp hf hf' b1 b2 b3 b4 he z1 z2 hR hR' q =>
    subst hx hp
    refine ⟨_, rfl, rfl, _, rfl, iteStr tw1 ⟨_, rfl, rfl, _, rfl, iteSame ?_⟩⟩
    exact ⟨_, rfl, _, rfl, pa, _, 0, _, rfl, rfl, .of hpa, atI_nat (j := 0) rfl, _, rfl, pa, _, 1, _, rfl, rfl, .of hpa, atI_nat (j := 1) rfl, p, a, b, l, r, rows, l', r', rows', e, rfl, pp, hf, hf', b1, b2, b3, b4, he, z1, z2, hR, hR', q⟩
  | thn a b l m rows r' rows' e hx hp hf hf' b1 b2 b4 he z1 z2 hR hR' q =>
    subst hx hp
    refine ⟨_, rfl, rfl, _, rfl, iteStr tw2 ⟨_, rfl, rfl, _, rfl, iteStr tw3 ⟨_, rfl, rfl, _, rfl, iteSame ?_⟩⟩⟩
    exact ⟨_, rfl, _, rfl, pa, _, 0, _, rfl, rfl, .of hpa, atI_nat (j := 0) rfl, _, rfl, pa, _, 1, _, rfl, rfl, .of hpa, atI_nat (j := 1) rfl, p, a, b, l, m, rows, r', rows', e, rfl, pp, hf, hf', b1, b2, b4, he, z1, z2, hR, hR', q⟩
  | old A =>
    cases A with
    | back a l r e rows hx hp hf hl hr' he hz hR q =>
      subst hx hp
      refine ⟨_, rfl, rfl, _, rfl, iteSame ?_⟩
      exact ⟨_, rfl, _, rfl, pa, _, 0, _, rfl, rfl, .of hpa, atI_nat (j := 0) rfl, p, a, l, r, e, rows, rfl, pp, hf, hl, hr', he, hz, hR, q⟩
    | times n hx hp q =>
      subst hx hp
      refine ⟨_, rfl, rfl, _, rfl, iteStr ts1 ⟨_, rfl, rfl, _, rfl, iteStr ts2 ⟨_, rfl, rfl, _, rfl, iteStr ts3 ⟨_, rfl, rfl, _, rfl, iteSame ?_⟩⟩⟩⟩
      refine ⟨_, rfl, pa, _, 0, _, rfl, rfl, .of hpa, atI_nat (j := 0) rfl, (by show 2 ≤ sizeLine; decide), fun t1 g1 => ⟨(by show 1 ≤ sizeLine; decide), fun t2 g2 => ⟨(by show 3 ≤ sizeLine; decide), fun t3 g3 => ?_⟩⟩⟩
      exact q t3 _ ((Same.upd g1).trans ((Same.upd g2).trans (.upd g3))) ⟨t2, [.ref t1], .of upd_same, (Same.upd g3).seqT (.of upd_same), .cons (hasT_of (r := [1, n]) ((Same.upd g3).seqT ((Same.upd g2).seqT (.of upd_same)))) .nil⟩
    | box l r rows hx q =>
      obtain ⟨n1, n2, n3, n4⟩ := box_no _ hx
      refine ⟨_, rfl, rfl, _, rfl, iteStr n1 ⟨_, rfl, rfl, _, rfl, iteStr n2 ⟨_, rfl, rfl, _, rfl, iteStr n3 ⟨_, rfl, rfl, _, rfl, iteStr n4 ?_⟩⟩⟩⟩
      obtain ⟨_, t, e, ht⟩ := B.at_ hx
      refine ⟨_, rfl, (by show 1 ≤ sizeLine; decide), fun t1 g1 => ⟨t1, x, l, r, rows, rfl, .of upd_same, hx, fun v H1 s1 hv => ?_⟩⟩
      refine ⟨_, rfl, x, _, rfl, rfl, e, (by show 1 ≤ sizeLine; decide), fun t2 g2 => ⟨v, t2, _, _, rfl, rfl, (Same.upd g2).seqT hv, .of upd_same, (by show 2 + 1 ≤ sizeLine; decide), fun t3 H3 s3 ht3 => ?_⟩⟩
      obtain ⟨RS, k1, k2⟩ := ht H3
      exact q t3 H3 ((Same.upd g1).trans (s1.trans ((Same.upd g2).trans s3))) ⟨t, RS, ht3, k1, k2⟩
theorem ok_form2 {aS aB f fB fS fT fW : Addr} {fd fdB fdS fdT fdW : FuncData} (F : Fun K "form" "form" s_form f fd) (B : Boxes K mg aS aB)
    (GB : FnOk P w K mg base CX0 4 fB fdB ["p", "one"] (spBack K)) (kB : PySem.W.keepIn K (.ref fB) = true) (bB : Binds K fdB ["p", "one"] []) (mB : mg "form_of_back" = some (.ref fB))
    (GS : FnOk P w K mg base CX0 4 fS fdS ["p", "one", "other"] (spBes K)) (kS : PySem.W.keepIn K (.ref fS) = true) (bS : Binds K fdS ["p", "one", "other"] []) (mS : mg "form_of_beside" = some (.ref fS))
    (GT : FnOk P w K mg base CX0 4 fT fdT ["p", "one", "other"] (spThen K)) (kT : PySem.W.keepIn K (.ref fT) = true) (bT : Binds K fdT ["p", "one", "other"] []) (mT : mg "form_of_then" = some (.ref fT))
    (GW : FnOk P w K mg base CX0 5 fW fdW ["words"] (spWires K)) (kW : PySem.W.keepIn K (.ref fW) = true) (bW : Binds K fdW ["words"] []) (mW : mg "wires" = some (.ref fW)) : FnOk P w K mg base CX0 6 f fd ["p", "word", "parts"] (spForm2 K) := by
  refine F.ok scFm (fun vs H Q E h => ?_) (fun cdv A outer s H vs Q E hr h => ?_)
  · obtain ⟨p, x, pa, ps, rfl, _⟩ := h
    rfl
  · obtain ⟨p, x, pa, ps, rfl, pp, hpa, D⟩ := h
    have hr4 : Room 4 _ := hr.mono (by decide)
    refine ⟨tForm2 K aB, ?_, ?_⟩
    · unfold tForm2
      refine pss_cons ?_ ?_
      · refine ps_if ?_ ?_ pss_nil
        · exact pt_cmpR op_eq (pv 1) pe_str (nomark _)
        · refine pss_one ?_
          refine ps_ret (te := tFormB K) ?_
          exact pe_call GB hr4 rfl mB kB bB .nil pass0 (pa_cons (pv 0) (pa_cons (pe_ix (ixL K rfl) (pv 2) pe_int (fun _ _ => rfl)) pa_nil))
      refine pss_cons ?_ ?_
      · refine ps_if ?_ ?_ pss_nil
        · exact pt_cmpR op_eq (pv 1) pe_str (nomark _)
        · refine pss_one ?_
          refine ps_ret (te := tFormS K) ?_
          exact pe_call GS hr4 rfl mS kS bS .nil pass0 (pa_cons (pv 0) (pa_cons (pe_ix (ixL K rfl) (pv 2) pe_int (fun _ _ => rfl)) (pa_cons (pe_ix (ixL K rfl) (pv 2) pe_int (fun _ _ => rfl)) pa_nil)))
      refine pss_cons ?_ ?_
      · refine ps_if ?_ ?_ pss_nil
        · exact pt_cmpR op_eq (pv 1) pe_str (nomark _)
        · refine pss_one ?_
          refine ps_ret (te := tFormT K) ?_
          exact pe_call GT hr4 rfl mT kT bT .nil pass0 (pa_cons (pv 0) (pa_cons (pe_ix (ixL K rfl) (pv 2) pe_int (fun _ _ => rfl)) (pa_cons (pe_ix (ixL K rfl) (pv 2) pe_int (fun _ _ => rfl)) pa_nil)))
      refine pss_cons ?_ ?_
      · refine ps_if ?_ ?_ pss_nil
        · exact pt_cmpR op_eq (pv 1) pe_str (nomark _)
        · refine pss_one ?_
          refine ps_ret (te := tFormN K) ?_
          unfold tFormN
          refine pe_tup ?_
          refine pa_cons pe_int ?_ ?_
          · refine pa_cons pe_int ?_ ?_
            · refine pa_cons ?_ pa_nil ?_
              · refine pe_tup ?_
                refine pa_cons ?_ pa_nil ?_
                · refine pe_tup ?_
                  refine pa_cons pe_int ?_ ?_
                  · refine pa_cons ?_ pa_nil ?_
                    · exact pe_ix (ixL K rfl) (pv 2) pe_int (fun _ _ => rfl)
                    · rfl
                  · exact se_con
                · exact se_tup
              · exact se_tup
            · exact se_con
          · exact se_con
      refine pss_one ?_
      refine ps_ret (te := tFormX K aB) ?_
      unfold tFormX
      refine pe_op (opCatA K rfl) ?_ ?_
      · exact pe_call GW hr rfl mW kW bW .nil pass0 (pa_cons (pe_tup (pa_cons (pv 1) pa_nil)) pa_nil)
      · refine pe_tup ?_
        refine pa_cons ?_ pa_nil ?_
        · exact pe_kix B.tabB (pe_glob (v := .ref _) rfl B.nmB rfl) (pv 1) (fun _ _ => rfl)
        · rfl
    · exact form2_read B pp hpa D
end
end S21
namespace S21
open PySem L2 Bw
set_option maxHeartbeats 3900000
/-! ### drawings as trees -/
inductive Drw where
  | box (x : Str) (l r : Nat) (rows : List (List Int))
  | times (n : Int)
  | back (d : Drw)
  | beside (a b : Drw)
  | thn (a b : Drw)
namespace Drw
noncomputable def words : Drw → List V
  | box x _ _ _ => [.str x]
  | times n => [.str "times", .int n]
  | back d => .str "back" :: d.words
  | beside a b => .str "beside" :: (a.words ++ b.words)
  | thn a b => .str "then" :: (a.words ++ b.words)
/-- wires to the left and to the right -/
noncomputable def sides : Drw → Nat × Nat
  | box _ l r _ => (l, r)
  | times _ => (1, 1)
  | back d => (d.sides.2, d.sides.1)
  | beside a b => (a.sides.1 + b.sides.1, a.sides.2 + b.sides.2)
  | thn a b => (a.sides.1, b.sides.2)
noncomputable abbrev lft (d : Drw) : Nat := d.sides.1
noncomputable abbrev rgt (d : Drw) : Nat := d.sides.2
noncomputable def wf (p : Int) : Drw → Prop
  | box x l r rows => (x, l, r, rows) ∈ boxL
  | times n => 0 ≤ n ∧ n < p
  | back d => d.wf p
  | beside a b => a.wf p ∧ b.wf p
  | thn a b => a.wf p ∧ b.wf p ∧ a.rgt = b.lft
/-- its plain form -/
noncomputable def rows (p : Int) : Drw → List (List Int)
  | box _ _ _ rows => rows
  | times n => [[1, n]]
  | back d => redM p ((d.rows p).map (swapM d.lft d.rgt))
  | beside a b => redM p (besM a.lft a.rgt b.lft b.rgt (a.rows p) (b.rows p))
  | thn a b => thenM p a.lft a.rgt b.rgt (a.rows p) (b.rows p)
theorem pos (d : Drw) : 1 ≤ d.words.length := by cases d <;> simp [words]
end Drw
theorem box_small2 : ∀ e ∈ boxL, e.2.1 ≤ 2 ∧ e.2.2.1 ≤ 2 ∧ e.2.2.2.length ≤ 2 ∧ ∀ r ∈ e.2.2.2, r.length = e.2.1 + e.2.2.1 ∧ ∀ x ∈ r, 0 ≤ x ∧ x < 2 := by decide +kernel
namespace Drw
theorem few {p : Int} : ∀ {d : Drw}, d.wf p → d.lft ≤ d.words.length + 1 ∧ d.rgt ≤ d.words.length + 1
  | box x l r rows, h => by
    obtain ⟨h1, h2, _⟩ := box_small2 _ h
    exact ⟨h1, h2⟩
  | times n, _ => by simp [lft, rgt, sides, words]
  | back d, h => by
    have := few (d := d) h
    simp only [lft, rgt, sides, words, List.length_cons] at this ⊢
    omega
  | beside a b, h => by
    have h1 := few (d := a) h.1
    have h2 := few (d := b) h.2
    simp only [lft, rgt, sides, words, List.length_cons, List.length_append] at h1 h2 ⊢
    omega
  | thn a b, h => by
    have h1 := few (d := a) h.1
    have h2 := few (d := b) h.2.1
    simp only [lft, rgt, sides, words, List.length_cons, List.length_append] at h1 h2 ⊢
    omega
theorem good {p : Int} (pp : p ∈ primesL) : ∀ {d : Drw}, d.wf p → d.words.length ≤ 99 → d.lft ≤ 100 ∧ d.rgt ≤ 100 ∧ (d.rows p).length ≤ 400 ∧ Rws p (d.lft + d.rgt) (d.rows p)
  | box x l r rows, h, _ => by
    obtain ⟨p2, _⟩ := prime_pos p pp
    obtain ⟨h1, h2, h3, h4⟩ := box_small2 _ h
    refine ⟨Nat.le_trans h1 (by decide), Nat.le_trans h2 (by decide), Nat.le_trans h3 (by decide), fun r hr => ⟨(h4 r hr).1, fun x hx => ?_⟩⟩
    have := (h4 r hr).2 x hx
    omega
  | times n, h, _ => by
    obtain ⟨p2, _⟩ := prime_pos p pp
    refine ⟨by show 1 ≤ 100; decide, by show 1 ≤ 100; decide, by show 1 ≤ 400; decide, fun r hr => ?_⟩
    rw [List.mem_singleton.mp hr]
    refine ⟨rfl, fun x hx => ?_⟩
    rcases (List.mem_cons.mp hx) with z | z
    · subst z; omega
    · rw [List.mem_singleton.mp z]; exact h
  | back d, h, hl => by
    obtain ⟨a1, a2, a3, a4⟩ := good pp (d := d) h (by simp only [words, List.length_cons] at hl; omega)
    have hS : Rws p (d.rgt + d.lft) ((d.rows p).map (swapM d.lft d.rgt)) := fun x hx => by
      obtain ⟨y, hy, e⟩ := List.mem_map.mp hx
      rw [← e]
      exact swap_rw (x := 0) (a4 y hy)
    have := redM_len hS
    exact ⟨a2, a1, Nat.le_trans this (by omega), (redM_ok pp hS).rws⟩
  | beside a b, h, hl => by
    obtain ⟨p2, _⟩ := prime_pos p pp
    have hf := few (d := beside a b) h
    simp only [words, List.length_cons, List.length_append] at hl
    obtain ⟨a1, a2, a3, a4⟩ := good pp (d := a) h.1 (by omega)
    obtain ⟨b1, b2, b3, b4⟩ := good pp (d := b) h.2 (by omega)
    have hS := bes_rws (x := 0) (by omega) a4 b4
    have hz := redM_len hS
    simp only [words, List.length_cons, List.length_append] at hf
    exact ⟨by omega, by omega, Nat.le_trans hz (by omega), (redM_ok pp hS).rws⟩
  | thn a b, h, hl => by
    simp only [words, List.length_cons, List.length_append] at hl
    obtain ⟨a1, a2, a3, a4⟩ := good pp (d := a) h.1 (by omega)
    obtain ⟨b1, b2, b3, b4⟩ := good pp (d := b) h.2.1 (by omega)
    have b4 : Rws p (a.rgt + b.rgt) (b.rows p) := by rw [h.2.2]; exact b4
    have hz := then_len (x := 0) pp a4 b4
    exact ⟨a1, b2, Nat.le_trans hz (by omega), then_rws (x := 0) pp a4 b4⟩
end Drw
/-! ### what is left behind the first i words -/
inductive Itm where
  | num (n : Int)
  | drw (d : Drw)
namespace Itm
noncomputable def words : Itm → List V
  | num n => [.int n]
  | drw d => d.words
noncomputable def head : Itm → V
  | num n => .int n
  | drw (.box x _ _ _) => .str x
  | drw (.times _) => .str "times"
  | drw (.back _) => .str "back"
  | drw (.beside _ _) => .str "beside"
  | drw (.thn _ _) => .str "then"
noncomputable def kids : Itm → List Itm
  | num _ => []
  | drw (.box _ _ _ _) => []
  | drw (.times n) => [num n]
  | drw (.back d) => [drw d]
  | drw (.beside a b) => [drw a, drw b]
  | drw (.thn a b) => [drw a, drw b]
theorem words_eq (t : Itm) : t.words = t.head :: t.kids.flatMap words := by
  cases t with
  | num n => rfl
  | drw d => cases d <;> simp [words, head, kids, Drw.words]
theorem pos (t : Itm) : 1 ≤ t.words.length := by rw [words_eq]; simp
noncomputable def wf (p : Int) : Itm → Prop
  | num _ => True
  | drw d => d.wf p ∧ d.words.length ≤ 99
theorem wf_kids {p : Int} {t : Itm} (h : t.wf p) : ∀ u ∈ t.kids, u.wf p := by
  cases t with
  | num n => intro u hu; cases hu
  | drw d =>
    obtain ⟨h1, h2⟩ := h
    cases d with
    | box => intro u hu; cases hu
    | times n => intro u hu; rw [List.mem_singleton.mp hu]; exact True.intro
    | back d =>
      intro u hu
      rw [List.mem_singleton.mp hu]
      simp only [Drw.words, List.length_cons] at h2
      exact ⟨h1, by omega⟩
    | beside a b =>
      intro u hu
      simp only [Drw.words, List.length_cons, List.length_append] at h2
      rcases (List.mem_cons.mp hu) with z | z
      · rw [z]; exact ⟨h1.1, by omega⟩
      · rw [List.mem_singleton.mp z]; exact ⟨h1.2, by omega⟩
    | thn a b =>
      intro u hu
      simp only [Drw.words, List.length_cons, List.length_append] at h2
      rcases (List.mem_cons.mp hu) with z | z
      · rw [z]; exact ⟨h1.1, by omega⟩
      · rw [List.mem_singleton.mp z]; exact ⟨h1.2.1, by omega⟩
end Itm
noncomputable def sfx : List Itm → Nat → List Itm
  | ts, 0 => ts
  | [], _ + 1 => []
  | t :: ts, i + 1 => sfx (t.kids ++ ts) i
theorem sfx_nil (i : Nat) : sfx [] i = [] := by cases i <;> rfl
theorem sfx_words : ∀ (i : Nat) (ts : List Itm), (sfx ts i).flatMap Itm.words = (ts.flatMap Itm.words).drop i
  | 0, ts => rfl
  | i + 1, [] => rfl
  | i + 1, t :: ts => by
    show (sfx (t.kids ++ ts) i).flatMap Itm.words = _
    rw [sfx_words i, List.flatMap_append, List.flatMap_cons, Itm.words_eq, List.cons_append, List.drop_succ_cons]
theorem sfx_succ : ∀ (i : Nat) (ts : List Itm), sfx ts (i + 1) = sfx (sfx ts i) 1
  | 0, ts => rfl
  | i + 1, [] => by rw [sfx_nil, sfx_nil]; rfl
  | i + 1, t :: ts => by
    show sfx (t.kids ++ ts) (i + 1) = sfx (sfx (t.kids ++ ts) i) 1
    exact sfx_succ i _
theorem sfx_wf {p : Int} : ∀ (i : Nat) {ts : List Itm}, (∀ t ∈ ts, t.wf p) → ∀ t ∈ sfx ts i, t.wf p
  | 0, ts, h => h
  | i + 1, [], h => by intro t ht; rw [sfx_nil] at ht; cases ht
  | i + 1, t :: ts, h => sfx_wf i (ts := t.kids ++ ts) fun u hu => by
    rcases (List.mem_append.mp hu) with z | z
    · exact Itm.wf_kids (h t List.mem_cons_self) u z
    · exact h u (List.mem_cons_of_mem _ z)
theorem sfx_at {ts : List Itm} {i : Nat} (h : i < (ts.flatMap Itm.words).length) : ∃ t r, sfx ts i = t :: r ∧ (ts.flatMap Itm.words)[i]? = some t.head ∧ sfx ts (i + 1) = t.kids ++ r := by
  have e := sfx_words i ts
  cases hs : sfx ts i with
  | nil =>
    rw [hs] at e
    have := congrArg List.length e
    simp only [List.flatMap_nil, List.length_nil, List.length_drop] at this
    omega
  | cons t r =>
    refine ⟨t, r, rfl, ?_, by rw [sfx_succ, hs]; rfl⟩
    rw [hs, List.flatMap_cons, Itm.words_eq, List.cons_append] at e
    have z : ((ts.flatMap Itm.words).drop i)[0]? = some t.head := by rw [← e]; rfl
    rwa [List.getElem?_drop, Nat.add_zero] at z
theorem flat_len : ∀ ts : List Itm, ts.length ≤ (ts.flatMap Itm.words).length
  | [] => Nat.zero_le _
  | t :: ts => by
    have := flat_len ts
    have := t.pos
    rw [List.flatMap_cons, List.length_append, List.length_cons]
    omega
theorem sfx_end {ts : List Itm} : sfx ts (ts.flatMap Itm.words).length = [] := by
  have e := flat_len (sfx ts (ts.flatMap Itm.words).length)
  rw [sfx_words, List.drop_length] at e
  exact List.eq_nil_of_length_eq_zero (Nat.le_zero.mp e)
theorem sfx_few {ts : List Itm} {i : Nat} : (sfx ts i).length ≤ (ts.flatMap Itm.words).length := by
  have e := flat_len (sfx ts i)
  rw [sfx_words, List.length_drop] at e
  omega
end S21
namespace S21
open PySem L2 Bw
set_option maxHeartbeats 3900000
/-! ### forms and plain of any drawing -/
theorem box_pc : ∀ e ∈ boxL, pcI e.1 = 0 := pc_box
theorem pc_bes : pcI "beside" = 2 := by decide +kernel
theorem pc_thn : pcI "then" = 2 := by decide +kernel
theorem late_box : ∀ e ∈ boxL, eqV (.str e.1) (.str "late") = false := by decide +kernel
theorem late_w : eqV (.str "back") (.str "late") = false ∧ eqV (.str "beside") (.str "late") = false ∧ eqV (.str "then") (.str "late") = false ∧ eqV (.str "times") (.str "late") = false := by decide +kernel
theorem late_n (n : Int) : eqV (.int n) (.str "late") = false := rfl
theorem Drw.noLate {p : Int} : ∀ {d : Drw}, d.wf p → ∀ v ∈ d.words, flatV v = true ∧ eqV v (.str "late") = false
  | .box x l r rows, h => fun v hv => by
    rw [List.mem_singleton.mp hv]
    exact ⟨rfl, late_box _ h⟩
  | .times n, _ => fun v hv => by
    rcases (List.mem_cons.mp hv) with z | z
    · rw [z]; exact ⟨rfl, late_w.2.2.2⟩
    · rw [List.mem_singleton.mp z]; exact ⟨rfl, late_n n⟩
  | .back d, h => fun v hv => by
    rcases (List.mem_cons.mp hv) with z | z
    · rw [z]; exact ⟨rfl, late_w.1⟩
    · exact Drw.noLate (d := d) h v z
  | .beside a b, h => fun v hv => by
    rcases (List.mem_cons.mp hv) with z | z
    · rw [z]; exact ⟨rfl, late_w.2.1⟩
    · rcases (List.mem_append.mp z) with z | z
      · exact Drw.noLate (d := a) h.1 v z
      · exact Drw.noLate (d := b) h.2 v z
  | .thn a b, h => fun v hv => by
    rcases (List.mem_cons.mp hv) with z | z
    · rw [z]; exact ⟨rfl, late_w.2.2.1⟩
    · rcases (List.mem_append.mp z) with z | z
      · exact Drw.noLate (d := a) h.1 v z
      · exact Drw.noLate (d := b) h.2.1 v z
noncomputable def ItmH (K : PySem.W.Frag) (p : Int) (H : Hp) : Itm → V → Prop
  | .num n, v => v = .int n
  | .drw d, v => ∃ a, v = .ref a ∧ FormH K H a d.lft d.rgt (d.rows p)
inductive ItmsH (K : PySem.W.Frag) (p : Int) (H : Hp) : List Itm → List V → Prop where
  | nil : ItmsH K p H [] []
  | cons {t : Itm} {ts : List Itm} {v : V} {vs : List V} (h : ItmH K p H t v) (r : ItmsH K p H ts vs) : ItmsH K p H (t :: ts) (v :: vs)
section
variable {K : PySem.W.Frag} {p : Int} {H H' : Hp}
theorem ItmH.tup {t : Itm} {v : V} (h : ItmH K p H t v) (s : Tup H H') : ItmH K p H' t v := by
  cases t with
  | num n => exact h
  | drw d =>
    obtain ⟨a, e, hf⟩ := h
    exact ⟨a, e, hf.tup s⟩
theorem ItmsH.tup {ts : List Itm} {vs : List V} (h : ItmsH K p H ts vs) (s : Tup H H') : ItmsH K p H' ts vs := by
  induction h with
  | nil => exact .nil
  | cons h r ih => exact .cons (h.tup s) ih
theorem ItmsH.len {ts : List Itm} {vs : List V} (h : ItmsH K p H ts vs) : vs.length = ts.length := by
  induction h with
  | nil => rfl
  | cons h r ih => rw [List.length_cons, List.length_cons, ih]
theorem ItmsH.split : ∀ {ts us : List Itm} {vs : List V}, ItmsH K p H (ts ++ us) vs → ∃ xs ys, vs = xs ++ ys ∧ ItmsH K p H ts xs ∧ ItmsH K p H us ys
  | [], us, vs, h => ⟨[], vs, rfl, .nil, h⟩
  | t :: ts, us, _, .cons h r => by
    obtain ⟨xs, ys, e, h1, h2⟩ := ItmsH.split (ts := ts) r
    exact ⟨_ :: xs, ys, by rw [e]; rfl, .cons h h1, h2⟩
end
section
variable {P : Program} {w : World} {K : PySem.W.Frag} {mg : Str → Option Value} {base : Heap}
noncomputable def spForms2 (K : PySem.W.Frag) (Pt : Addr) : Sp := fun vs H Q _ => ∃ (p : Int) (aw : Addr) (d : Drw), vs = [.int p, .ref aw] ∧ p ∈ primesL ∧ d.wf p ∧ d.words.length ≤ 99 ∧ SqT K H aw d.words ∧ LamT H Pt (lamPos lamFo) qFo ∧
  ∀ td kvs v H', Same (del Pt H) H' → LamT H' Pt (lamPos lamFo) qFo → H' td = some (.dK kvs) → valV kvs (Sum.inl 0) = some (.ref v) → FormH K H' v d.lft d.rgt (d.rows p) → Q (.ref td) H'
theorem ok_forms2 {c Pt f fL fA fM : Addr} {fd fdL fdA fdM : FuncData} (F : Fun K "forms" "forms" s_forms f fd) (hcd : fd.code = .ref c) (C : PySem.W.CodeHd base c Pt) (BB : BltAt mg base)
    (GL : FnOk P w K mg base CX0 1 fL fdL ["words"] (spLate K)) (kL : PySem.W.keepIn K (.ref fL) = true) (bL : Binds K fdL ["words"] []) (mL : mg "refuse_late" = some (.ref fL))
    (GA : RunS P w K mg base 8 fA fdA ["words", "made"] (spFold 7 P w K mg base)) (kA : PySem.W.keepIn K (.ref fA) = true) (bA : Binds K fdA ["words", "made"] []) (mA : mg "all_folded" = some (.ref fA))
    (GM : FnOk P w K mg base CX0 6 fM fdM ["p", "word", "parts"] (spForm2 K)) (kM : PySem.W.keepIn K (.ref fM) = true) (bM : Binds K fdM ["p", "word", "parts"] []) (mM : mg "form" = some (.ref fM)) :
    FnOk P w K mg base CX0 9 f fd ["p", "words"] (spForms2 K Pt) := by
  refine F.okC scFs (fun vs H Q E h => ?_) (fun cdv A outer s H vs Q E hcv hr h => ?_)
  · obtain ⟨p, aw, d, rfl, _⟩ := h
    rfl
  · obtain ⟨p, aw, d, rfl, pp, hd, hdl, hw, hLT, q⟩ := h
    have hcc : cdv = .ref c := hcv.symm.trans hcd
    subst hcc
    have hr1 : Room 1 _ := hr.mono (by decide)
    refine ⟨_, pss_cons (ps_expr (pe_call GL hr1 rfl mL kL bL .nil pass0 (pa_cons (pv 1) pa_nil)))
      (pss_one (ps_ret (pe_callS GA hr rfl mA kA bA (pa_cons (pv 1) (pa_cons (pe_lam (c := c) (Pt := Pt) (cl := clFo s.heap.objs.size) rfl C BB clos_fo) pa_nil))))), ?_⟩
    obtain ⟨pst, hP⟩ := hLT.tab
    have hnl := Drw.noLate hd
    refine ⟨_, rfl, aw, _, rfl, hw, List.all_eq_true.mpr fun v hv => (hnl v hv).1, List.any_eq_false.mpr fun v hv => by rw [(hnl v hv).2]; decide, ?_⟩
    refine ⟨_, rfl, hLT, fun fl HL hnf smt hLT' hLF pins sI I => ?_⟩
    have sL := SmT.same smt
    have hcell : ∃ u, RelV (.int p) u ∧ sI.heap.IsCell (cellF s.heap.objs.size) (some u) ∧ HL (cellF s.heap.objs.size) = none := by
      obtain ⟨mm, hn, hl⟩ := I.loc
      obtain ⟨u, r, l⟩ := hl 0 "p" (.int p) rfl rfl (.inr (.inl rfl))
      rcases l with ⟨hk', _⟩ | ⟨_, c', hc', hcell⟩
      · exact absurd (show (defScope s_forms).names.lookup ("p" : Str) = some .local from hk') (by decide +kernel)
      · have hc2 : (cellsFrom (s.heap.objs.size + 1) (defScope s_forms).names []).lookup ("p" : Str) = some c' := hc'
        rw [cellF_at] at hc2
        cases hc2
        exact ⟨u, r, hcell, I.freeC _ _ hc'⟩
    have ew : ([Itm.drw d]).flatMap Itm.words = d.words := by simp [Itm.words]
    have hwf : ∀ t ∈ [Itm.drw d], t.wf p := fun t ht => by rw [List.mem_singleton.mp ht]; exact ⟨hd, hdl⟩
    refine ⟨aw, fl, d.words, fun vs H' Q => ∃ (i : Int) (x : Str) (pa : Addr) (ps : List V), vs = [.int i, .str x, .ref pa] ∧ H' pa = some (.lst ps) ∧ FormAsk2 K p x ps H' Q, fun i vs H => ItmsH K p H (sfx [.drw d] i) vs.reverse, rfl, ?_⟩
    refine ⟨sL.seqT (SqT.del hP hw), Nat.le_trans hdl (by decide), ?_, ?_, fun i vs H1 H2 h tp => h.tup tp, fun i vs H1 h => ?_, fun i hi => ?_, fun i n vs H1 h g => ?_, fun i x vs H1 h g => ?_, ?_, fun td kvs vs v H' s' h1 h2 h3 => ?_⟩
    · refine lam_v (k := 6) (names := ["p"]) (caps := [.int p]) (lsFo I.ok.inj) hLF (fun _ _ _ us hu => match us, hu with | [_, _, _], _ => rfl) (fun j y hj => ?_) rfl (fun vs H' Q ⟨i, x, pa, ps, e, _⟩ => by rw [e]; rfl) (fun c' A' outer' s' H' vs Q' hr' sm' hQ' => ?_)
      · match j, hj with
        | 0, hj =>
          have e : "p" = y := Option.some.inj hj
          subst e
          obtain ⟨u, r, h4, h5⟩ := hcell
          exact ⟨_, _, u, rfl, rfl, r, h4, h5⟩
        | j + 1, hj => simp at hj
      · obtain ⟨i, x, pa, ps, rfl, hpa, hF⟩ := hQ'
        refine ⟨_, pe_call GM hr' rfl mM kM bM .nil pass0 (pa_cons (pv 3) (pa_cons (pv 1) (pa_cons (pv 2) pa_nil))), ?_⟩
        exact ⟨_, rfl, _, rfl, _, rfl, p, x, pa, ps, rfl, pp, hpa, hF⟩
    · show ItmsH K p HL (sfx [.drw d] d.words.length) _
      have e := sfx_end (ts := [.drw d])
      rw [ew] at e
      rw [e]
      exact .nil
    · have e := h.len
      have z := sfx_few (ts := [.drw d]) (i := i)
      rw [List.length_reverse] at e
      rw [ew] at z
      omega
    · obtain ⟨t, r, e1, e2, e3⟩ := sfx_at (ts := [.drw d]) (i := i) (by rw [ew]; exact hi)
      rw [ew] at e2
      rw [e2]
      cases t with
      | num n => exact .inr ⟨n, rfl⟩
      | drw d' => cases d' <;> exact .inl ⟨_, rfl⟩
    · obtain ⟨t, r, e1, e2, e3⟩ := sfx_at (ts := [.drw d]) (i := i) (by rw [ew]; exact (List.getElem?_eq_some_iff.mp h).1)
      rw [ew, h] at e2
      cases t with
      | num m =>
        have e2 : n = m := V.int.inj (Option.some.inj e2)
        subst e2
        have g : ItmsH K p H1 (sfx [.drw d] (i + 1)) vs.reverse := g
        rw [e3] at g
        show ItmsH K p H1 (sfx [.drw d] i) (vs ++ [V.int n]).reverse
        rw [e1, List.reverse_append]
        exact .cons rfl g
      | drw d' => cases d' <;> cases e2
    · obtain ⟨t, r, e1, e2, e3⟩ := sfx_at (ts := [.drw d]) (i := i) (by rw [ew]; exact (List.getElem?_eq_some_iff.mp h).1)
      rw [ew, h] at e2
      have hti : t.wf p := sfx_wf i hwf t (by rw [e1]; exact List.mem_cons_self)
      have g : ItmsH K p H1 (sfx [.drw d] (i + 1)) vs.reverse := g
      rw [e3] at g
      obtain ⟨xs, ys, ev, g1, g2⟩ := g.split
      have ev' : vs = ys.reverse ++ xs.reverse := by rw [← List.reverse_append, ← ev, List.reverse_reverse]
      refine ⟨ys.reverse, xs, ev', ?_, ?_⟩
      · have el := g1.len
        rw [el]
        cases t with
        | num m => cases e2
        | drw d' =>
          cases d' with
          | box x' l' r' rows' =>
            have e2 : x = x' := V.str.inj (Option.some.inj e2)
            subst e2
            exact (box_pc _ hti.1).symm
          | times n => have e2 : x = _ := V.str.inj (Option.some.inj e2); subst e2; exact pc_times.symm
          | back d' => have e2 : x = _ := V.str.inj (Option.some.inj e2); subst e2; exact pc_back.symm
          | beside a b => have e2 : x = _ := V.str.inj (Option.some.inj e2); subst e2; exact pc_bes.symm
          | thn a b => have e2 : x = _ := V.str.inj (Option.some.inj e2); subst e2; exact pc_thn.symm
      · intro pa H2 Q' tp hp hq
        refine ⟨_, _, pa, _, rfl, hp, ?_⟩
        have g1 := g1.tup tp
        have g2 := g2.tup tp
        have fin : ∀ v H3, Same H2 H3 → ItmH K p H3 t v → Q' v H3 := fun v H3 s3 hv => hq v H3 s3 (by
          show ItmsH K p H3 (sfx [.drw d] i) _
          rw [e1, List.reverse_append, List.reverse_reverse]
          exact .cons hv (g2.tup s3.tup))
        cases t with
        | num m => cases e2
        | drw d' =>
          obtain ⟨hwt, hlt⟩ := hti
          cases d' with
          | box x' l' r' rows' =>
            have e2 : x = x' := V.str.inj (Option.some.inj e2)
            subst e2
            exact .old (.box _ _ _ hwt fun v H3 s3 hv => fin _ H3 s3 ⟨v, rfl, hv⟩)
          | times n =>
            have e2 : x = _ := V.str.inj (Option.some.inj e2)
            subst e2
            cases g1 with
            | cons h1 r1 =>
              cases r1
              have h1 : _ = V.int n := h1
              subst h1
              exact .old (.times n rfl rfl fun v H3 s3 hv => fin _ H3 s3 ⟨v, rfl, hv⟩)
          | back d' =>
            have e2 : x = _ := V.str.inj (Option.some.inj e2)
            subst e2
            cases g1 with
            | cons h1 r1 =>
              cases r1
              obtain ⟨a, rfl, hf⟩ := h1
              simp only [Drw.words, List.length_cons] at hlt
              obtain ⟨b1, b2, b3, b4⟩ := Drw.good pp (d := d') hwt (by omega)
              exact .old (.back a _ _ 0 _ rfl rfl hf b1 b2 (by omega) (by omega) b4 fun v H3 s3 hv => fin _ H3 s3 ⟨v, rfl, hv⟩)
          | beside a b =>
            have e2 : x = _ := V.str.inj (Option.some.inj e2)
            subst e2
            cases g1 with
            | cons h1 r1 =>
              cases r1 with
              | cons h2 r2 =>
                cases r2
                obtain ⟨a1, rfl, hf⟩ := h1
                obtain ⟨a2, rfl, hf2⟩ := h2
                simp only [Drw.words, List.length_cons, List.length_append] at hlt
                obtain ⟨b1, b2, b3, b4⟩ := Drw.good pp (d := a) hwt.1 (by omega)
                obtain ⟨c1, c2, c3, c4⟩ := Drw.good pp (d := b) hwt.2 (by omega)
                exact .beside a1 a2 _ _ _ _ _ _ 0 rfl rfl hf hf2 b1 b2 c1 c2 (by omega) b3 c3 b4 c4 fun v H3 s3 hv => fin _ H3 s3 ⟨v, rfl, hv⟩
          | thn a b =>
            have e2 : x = _ := V.str.inj (Option.some.inj e2)
            subst e2
            cases g1 with
            | cons h1 r1 =>
              cases r1 with
              | cons h2 r2 =>
                cases r2
                obtain ⟨a1, rfl, hf⟩ := h1
                obtain ⟨a2, rfl, hf2⟩ := h2
                simp only [Drw.words, List.length_cons, List.length_append] at hlt
                obtain ⟨b1, b2, b3, b4⟩ := Drw.good pp (d := a) hwt.1 (by omega)
                obtain ⟨c1, c2, c3, c4⟩ := Drw.good pp (d := b) hwt.2.1 (by omega)
                rw [← hwt.2.2] at hf2 c4
                exact .thn a1 a2 _ _ _ _ _ 0 rfl rfl hf hf2 b1 b2 c2 (by omega) b3 c3 b4 c4 fun v H3 s3 hv => fin _ H3 s3 ⟨v, rfl, hv⟩
    · cases d <;> exact ⟨_, rfl⟩
    · have h3 : ItmsH K p H' [.drw d] (vs ++ [v]).reverse := h3
      rw [List.reverse_append] at h3
      cases h3 with
      | cons hv r =>
        obtain ⟨a, rfl, hf⟩ := hv
        exact q td kvs a H' (sL.trans s') (hLT'.mono s') h1 h2 hf
noncomputable def spPlain2 (K : PySem.W.Frag) (Pt : Addr) : Sp := fun vs H Q _ => ∃ (p : Int) (aw : Addr) (d : Drw), vs = [.int p, .ref aw] ∧ p ∈ primesL ∧ d.wf p ∧ d.words.length ≤ 99 ∧ SqT K H aw d.words ∧ LamT H Pt (lamPos lamFo) qFo ∧
  ∀ v RS H', Same (del Pt H) H' → LamT H' Pt (lamPos lamFo) qFo → SqT K H' v RS → HasA K H' RS ((d.rows p).map intsT) → Q (.ref v) H'
theorem ok_plain2 {Pt f fF : Addr} {fd fdF : FuncData} (F : Fun K "plain" "plain" s_plain f fd)
    (GF : FnOk P w K mg base CX0 9 fF fdF ["p", "words"] (spForms2 K Pt)) (kF : PySem.W.keepIn K (.ref fF) = true) (bF : Binds K fdF ["p", "words"] []) (mF : mg "forms" = some (.ref fF)) : FnOk P w K mg base CX0 10 f fd ["p", "words"] (spPlain2 K Pt) := by
  refine F.ok scPl (fun vs H Q E h => ?_) (fun cdv A outer s H vs Q E hr h => ?_)
  · obtain ⟨p, aw, d, rfl, _⟩ := h
    rfl
  · obtain ⟨p, aw, d, rfl, pp, hd, hdl, hw, hLT, q⟩ := h
    refine ⟨_, pss_one (ps_ret (pe_ix (ixT K rfl) (pe_dget (hu_of hr) (pe_call GF hr rfl mF kF bF .nil pass0 (pa_cons (pv 0) (pa_cons (pv 1) pa_nil))) pe_int (fun _ _ => rfl)) pe_int (fun _ _ => rfl))), ?_⟩
    refine ⟨_, rfl, _, rfl, p, aw, d, rfl, pp, hd, hdl, hw, hLT, fun td kvs v H' s' hL htd hv hF => ?_⟩
    obtain ⟨tt, RS, h1, h2, h3⟩ := hF
    exact ⟨td, _, rfl, hv ▸ DGet.k (k := Sum.inl 0) htd, v, _, 2, _, rfl, rfl, h1, atI_nat (j := 2) rfl, q tt RS H' s' hL h2 h3⟩
end
end S21
namespace S21
open PySem L2 Bw
set_option maxHeartbeats 3900000
section
variable {P : Program} {w : World} {K : PySem.W.Frag} {mg : Str → Option Value} {base : Heap}
/-! ### _law_hand, _law_draw -/
noncomputable def Hand (H : Hp) (a : Addr) (n : Nat) : Prop := ∃ x0 x1 x2 : Int, H a = some (.lst [.int x0, .int x1, .int x2]) ∧ 0 ≤ x0 ∧ x0 ≤ (n : Int) ∧ 0 ≤ x1 ∧ x1 < 1000000007
noncomputable def spHand : Sp := fun vs H Q _ => ∃ c k : Int, vs = [.int c, .int k] ∧ 0 ≤ k ∧ k ≤ 100 ∧ ∀ a H', Same H H' → H a = none → Hand H' a 0 → Q (.ref a) H'
theorem scHa : FnScope ["cell", "k"] ["cell", "k"] (defScope s_law_hand) := ⟨rfl, rfl, rfl, by decide +kernel, rfl, by decide +kernel, by decide +kernel⟩
theorem ok_hand {f : Addr} {fd : FuncData} (F : Fun K "_law_hand" "_law_hand" s_law_hand f fd) : FnOk P w K mg base CX0 1 f fd ["cell", "k"] spHand := by
  refine F.ok scHa (fun vs H Q E h => ?_) (fun cdv A outer s H vs Q E hr h => ?_)
  · obtain ⟨c, k, rfl, _⟩ := h
    rfl
  · obtain ⟨c, k, rfl, k0, k1, q⟩ := h
    refine ⟨_, pss_one (ps_ret (pe_lst (pa_cons pe_int (pa_cons (pe_op op_mod (pe_op op_mul (pe_op op_add (pe_op op_add (pe_op op_mod (pv 0) pe_int) (pe_op op_mul pe_int (pv 1))) pe_int) pe_int) pe_int) (pa_cons (pv 0) pa_nil))))), ?_⟩
    have m0 : 0 ≤ c % 1000000007 := Int.emod_nonneg _ (by decide)
    have m1 : c % 1000000007 < 1000000007 := Int.emod_lt_of_pos _ (by decide)
    refine ⟨_, rfl, _, _, rfl, rfl, (by show (0 : Int) < 1000000007; decide), _, rfl, _, _, rfl, rfl, .inl ⟨by decide, by decide⟩, _, _, rfl, rfl, _, _, rfl, rfl, _, _, rfl, rfl, .inr ⟨by decide, by decide⟩, _, _, rfl, rfl, (by show (0 : Int) < 1000000007; decide), _, rfl, (by show 3 ≤ sizeLine; decide), fun a ha => ?_⟩
    exact q a _ (.upd ha) ha ⟨0, _, c, upd_same, by decide, by decide, Int.emod_nonneg _ (by decide), Int.emod_lt_of_pos _ (by decide)⟩
noncomputable def spDrw : Sp := fun vs H Q _ => ∃ (a : Addr) (lim : Int) (n : Nat), vs = [.ref a, .int lim] ∧ Hand H a n ∧ n ≤ 1000000 ∧ 1 ≤ lim ∧ lim ≤ 100 ∧ ∀ (d : Int) (xs : List V), 0 ≤ d → d < lim → Hand (upd H a (.lst xs)) a (n + 1) → Q (.int d) (upd H a (.lst xs))
theorem scDw : FnScope ["hand", "limit", "found"] ["hand", "limit"] (defScope sDraw) := ⟨rfl, rfl, rfl, by decide +kernel, rfl, by decide +kernel, by decide +kernel⟩
theorem ok_drw {f : Addr} {fd : FuncData} (F : Fun K "_law_draw" "_law_draw" sDraw f fd) : FnOk P w K mg base CX0 1 f fd ["hand", "limit"] spDrw := by
  refine F.ok scDw (fun vs H Q E h => ?_) (fun cdv A outer s H vs Q E hr h => ?_)
  · obtain ⟨a, lim, n, rfl, _⟩ := h
    rfl
  · obtain ⟨a, lim, n, rfl, ⟨x0, x1, x2, ha, b0, b1, b2, b3⟩, hn, l0, l1, q⟩ := h
    refine ⟨_, pss_cons (ps_if (PW.pt (pw_or (pt_cmpR op_ge (pe_ix (ixL K rfl) (pv 0) pe_int (fun _ _ => rfl)) pe_int (nomark _)) (pw_or1 (pt_cmpR op_lt (pe_ix (ixL K rfl) (pv 0) pe_int (fun _ _ => rfl)) (pe_un un_neg pe_int) (nomark _)))))
        (pss_cons (ps_set (i := 2) scDw.nd rfl (Or.inl rfl) (pe_op op_mod (pe_ix (ixL K rfl) (pv 0) pe_int (fun _ _ => rfl)) (pv 1)))
        (pss_cons (ps_asg (pe_op op_fdiv (pe_ix (ixL K rfl) (pv 0) pe_int (fun _ _ => rfl)) (pv 1)) (pg_sub (pv 0) pe_int set_list))
        (pss_one (ps_ret (pv 2))))) pss_nil)
      (pss_cons (ps_asg (pe_op op_add (pe_ix (ixL K rfl) (pv 0) pe_int (fun _ _ => rfl)) pe_int) (pg_sub (pv 0) pe_int set_list))
      (pss_cons (ps_asg (pe_op op_mod (pe_op op_add (pe_op op_add (pe_op op_mul (pe_ix (ixL K rfl) (pv 0) pe_int (fun _ _ => rfl)) (pe_ix (ixL K rfl) (pv 0) pe_int (fun _ _ => rfl))) (pe_op op_mul pe_int (pe_ix (ixL K rfl) (pv 0) pe_int (fun _ _ => rfl)))) pe_int) pe_int) (pg_sub (pv 0) pe_int set_list))
      (pss_one (ps_ret (pe_op op_mod (pe_op op_fdiv (pe_ix (ixL K rfl) (pv 0) pe_int (fun _ _ => rfl)) pe_int) (pv 1)))))), ?_⟩
    have lp : 0 < lim := by omega
    refine (fun big => ⟨_, rfl, a, _, 2, _, rfl, rfl, .of ha, atI_nat (j := 2) rfl, _, _, rfl, rfl, _, rfl, ite2 (fun _ => iteT big) (fun _ => ⟨_, rfl, a, _, 2, _, rfl, rfl, .of ha, atI_nat (j := 2) rfl, _, rfl, _, _, rfl, rfl, _, rfl, ite2 (fun _ => big) (fun _ => ?small)⟩)⟩) ?big
    case big =>
      refine ⟨_, rfl, a, _, 2, _, rfl, rfl, .of ha, atI_nat (j := 2) rfl, _, rfl, _, _, rfl, rfl, lp, ?_⟩
      refine ⟨_, rfl, a, _, 2, _, rfl, rfl, .of ha, atI_nat (j := 2) rfl, _, rfl, _, _, rfl, rfl, ⟨lp, by omega⟩, _, rfl, a, _, 2, 2, rfl, rfl, ha, rfl, ?_⟩
      exact ⟨_, rfl, q _ _ (Int.emod_nonneg _ (by omega)) (Int.emod_lt_of_pos _ lp) ⟨x0, x1, x2 / lim, upd_same, b0, by omega, b2, b3⟩⟩
    case small =>
      refine ⟨_, rfl, a, _, 0, _, rfl, rfl, .of ha, atI_nat (j := 0) rfl, _, _, rfl, rfl, _, rfl, a, _, 0, 0, rfl, rfl, ha, rfl, ?_⟩
      have g1 : (upd H a (.lst [.int (x0 + 1), .int x1, .int x2])) a = some (.lst [.int (x0 + 1), .int x1, .int x2]) := upd_same
      refine ⟨_, rfl, a, _, 1, _, rfl, rfl, .of g1, atI_nat (j := 1) rfl, _, rfl, a, _, 1, _, rfl, rfl, .of g1, atI_nat (j := 1) rfl, _, _, rfl, rfl, .inl ⟨by omega, by omega⟩, _, rfl, a, _, 0, _, rfl, rfl, .of g1, atI_nat (j := 0) rfl, _, _, rfl, rfl, .inl ⟨by decide, by decide⟩, _, _, rfl, rfl, _, _, rfl, rfl, _, _, rfl, rfl, (by show (0 : Int) < 1000000007; decide), _, rfl, a, _, 1, 1, rfl, rfl, g1, rfl, ?_⟩
      rw [upd_upd]
      have g2 : (upd H a (.lst [.int (x0 + 1), .int ((x1 * x1 + 7 * (x0 + 1) + 11) % 1000000007), .int x2])) a = some (.lst [.int (x0 + 1), .int ((x1 * x1 + 7 * (x0 + 1) + 11) % 1000000007), .int x2]) := upd_same
      refine ⟨_, rfl, a, _, 1, _, rfl, rfl, .of g2, atI_nat (j := 1) rfl, _, _, rfl, rfl, ⟨by decide, by decide⟩, _, rfl, _, _, rfl, rfl, lp, ?_⟩
      exact q _ _ (Int.emod_nonneg _ (by omega)) (Int.emod_lt_of_pos _ lp) ⟨_, _, x2, upd_same, by omega, by omega, Int.emod_nonneg _ (by decide), Int.emod_lt_of_pos _ (by decide)⟩
end
end S21
namespace S21
open PySem L2 Bw
set_option maxHeartbeats 3900000
theorem Hand.new {H : Hp} {a b : Addr} {n : Nat} {o : HO} (h : Hand H a n) (hb : H b = none) : Hand (upd H b o) a n := by
  obtain ⟨x0, x1, x2, e, r⟩ := h
  exact ⟨x0, x1, x2, by rw [upd_ne (ne_of_none e hb)]; exact e, r⟩
theorem Hand.at_ {H : Hp} {a : Addr} {n : Nat} (h : Hand H a n) : ∃ xs, H a = some (.lst xs) := let ⟨_, _, _, e, _⟩ := h; ⟨_, e⟩
noncomputable def L25 : List Int := [2, 3, 5, 7, 11, 13, 17, 19, 23, 29, 31, 37, 41, 43, 47, 53, 59, 61, 67, 71, 73, 79, 83, 89, 97]
theorem L25_in : ∀ j : Nat, j < 25 → ∃ q, L25[j]? = some q ∧ q ∈ primesL := by decide +kernel
theorem SmT.refl (a : Addr) (H : Hp) : SmT a H H := fun _ _ h _ => h
theorem SmT.trans {a : Addr} {H H1 H2 : Hp} (s : SmT a H H1) (t : SmT a H1 H2) : SmT a H H2 := fun b o h n => t b o (s b o h n) n
theorem SmT.put {a : Addr} {H : Hp} {o : HO} : SmT a H (upd H a o) := fun b u h n => by rw [upd_ne n]; exact h
section
variable {P : Program} {w : World} {K : PySem.W.Frag} {mg : Str → Option Value} {base : Heap}
/-! ### _law_prime -/
noncomputable def spPrm : Sp := fun vs H Q _ => ∃ (a : Addr) (n : Nat), vs = [.ref a] ∧ Hand H a n ∧ n ≤ 900 ∧ ∀ p H', p ∈ primesL → SmT a H H' → Hand H' a (n + 3) → Q (.int p) H'
theorem scPm : FnScope ["hand", "primes"] ["hand"] (defScope sPrime) := ⟨rfl, rfl, rfl, by decide +kernel, rfl, by decide +kernel, by decide +kernel⟩
theorem ok_prm {f fD : Addr} {fd fdD : FuncData} (F : Fun K "_law_prime" "_law_prime" sPrime f fd)
    (GD : FnOk P w K mg base CX0 1 fD fdD ["hand", "limit"] spDrw) (kD : PySem.W.keepIn K (.ref fD) = true) (bD : Binds K fdD ["hand", "limit"] []) (mD : mg "_law_draw" = some (.ref fD)) : FnOk P w K mg base CX0 2 f fd ["hand"] spPrm := by
  refine F.ok scPm (fun vs H Q E h => ?_) (fun cdv A outer s H vs Q E hr h => ?_)
  · obtain ⟨a, n, rfl, _⟩ := h
    rfl
  · obtain ⟨a, n, rfl, hH, hn, q⟩ := h
    refine ⟨tSeq (tAsg (tInts L25) (gName 1)) (tRet (tOp (rIxL K) (tVar 1) (tOp (rIxL K) (tLst (tCons (tCall spDrw [] E0 (tCons (tVar 0) (tCons (tC (.int 4)) tNil))) (tCons (tCall spDrw [] E0 (tCons (tVar 0) (tCons (tC (.int 25)) tNil))) tNil))) (tCall spDrw [] E0 (tCons (tVar 0) (tCons (tC (.int 2)) tNil)))))), pss_cons ?_ ?_, ?_⟩
    · refine ps_set ?_ ?_ ?_ ?_ ?_ ?_
      · exact scPm.nd
      · rfl
      · exact Or.inl rfl
      · refine pe_ints ?_
        exact pai (by kernel_rfl)
      · rfl
      · exact .inl rfl
    · refine pss_one ?_
      refine ps_ret ?_
      refine pe_ix ?_ ?_ ?_ ?_
      · exact ixL K rfl
      · exact pv 1
      · refine pe_ix ?_ ?_ ?_ ?_
        · exact ixL K rfl
        · exact pe_lst (pa_cons (pe_call GD hr rfl mD kD bD .nil pass0 (pa_cons (pv 0) (pa_cons pe_int pa_nil))) (pa_cons (pe_call GD hr rfl mD kD bD .nil pass0 (pa_cons (pv 0) (pa_cons pe_int pa_nil))) pa_nil))
        · exact pe_call GD hr rfl mD kD bD .nil pass0 (pa_cons (pv 0) (pa_cons pe_int pa_nil))
        · exact fun _ _ => rfl
      · exact fun _ _ => rfl
    refine ⟨(by show 25 ≤ sizeLine; decide), fun l hl => ?_⟩
    have hne : l ≠ a := fun z => by
      obtain ⟨xs, e⟩ := hH.at_
      rw [z, e] at hl
      cases hl
    refine ⟨_, rfl, _, rfl, a, 4, n, rfl, hH.new hl, by omega, by decide, by decide, fun d1 xs1 p0 p1 h1 => ?_⟩
    refine ⟨_, rfl, a, 25, n + 1, rfl, h1, by omega, by decide, by decide, fun d2 xs2 r0 r1 h2 => ?_⟩
    rw [upd_upd] at h2 ⊢
    refine ⟨(by show 2 ≤ sizeLine; decide), fun l2 hl2 => ⟨_, rfl, a, 2, n + 2, rfl, h2.new hl2, by omega, by decide, by decide, fun d3 xs3 t0 t1 h3 => ?_⟩⟩
    have na2 : l2 ≠ a := fun z => by rw [z, upd_same] at hl2; cases hl2
    have hl3 : ∀ b o, (upd H l (.lst (L25.map V.int))) b = some o → b ≠ a → (upd (upd (upd (upd H l (.lst (L25.map V.int))) a (.lst xs2)) l2 (.lst [.int d1, .int d2])) a (.lst xs3)) b = some o := fun b o e nb => by
      have e1 : (upd (upd H l (.lst (L25.map V.int))) a (.lst xs2)) b = some o := by rw [upd_ne nb]; exact e
      rw [upd_ne nb, upd_ne (ne_of_none e1 hl2)]; exact e1
    have gl := hl3 l _ upd_same hne
    have gl2 : (upd (upd (upd (upd H l (.lst (L25.map V.int))) a (.lst xs2)) l2 (.lst [.int d1, .int d2])) a (.lst xs3)) l2 = some (.lst [.int d1, .int d2]) := by rw [upd_ne na2]; exact upd_same
    have sm : SmT a H (upd (upd (upd (upd H l (.lst (L25.map V.int))) a (.lst xs2)) l2 (.lst [.int d1, .int d2])) a (.lst xs3)) := fun b o e nb => hl3 b o (by rw [upd_ne (ne_of_none e hl)]; exact e) nb
    have fin : ∀ d : Int, 0 ≤ d → d < 25 → ∃ pr, pr ∈ primesL ∧ (L25.map V.int)[d.toNat]? = some (.int pr) := fun d e0 e1 => by
      obtain ⟨pr, z1, z2⟩ := L25_in d.toNat (by omega)
      exact ⟨pr, z2, by rw [List.getElem?_map, z1]; rfl⟩
    have d01 : d3 = 0 ∨ d3 = 1 := by omega
    rcases d01 with rfl | rfl
    · obtain ⟨pr, hp, hi⟩ := fin d1 p0 (by omega)
      have ed : d1 = ((d1.toNat : Nat) : Int) := by omega
      refine ⟨l2, _, 0, _, rfl, rfl, .of gl2, atI_nat (j := 0) rfl, l, _, d1, _, rfl, rfl, .of gl, ?_, q pr _ hp sm h3⟩
      rw [ed]
      exact atI_nat (j := d1.toNat) hi
    · obtain ⟨pr, hp, hi⟩ := fin d2 r0 r1
      have ed : d2 = ((d2.toNat : Nat) : Int) := by omega
      refine ⟨l2, _, 1, _, rfl, rfl, .of gl2, atI_nat (j := 1) rfl, l, _, d2, _, rfl, rfl, .of gl, ?_, q pr _ hp sm h3⟩
      rw [ed]
      exact atI_nat (j := d2.toNat) hi
end
end S21
namespace S21
open PySem L2 Bw
set_option maxHeartbeats 3900000
/-! ### lists of texts and dicts of texts and rows, as they are written -/
noncomputable def cStrs : List Expr → Option (List Str)
  | [] => some []
  | .Constant (.str x) _ _ :: es => (cStrs es).map (x :: ·)
  | _ => none
noncomputable def tTexts (xs : List Str) : TE := tLst (fun _ H Q => Q (xs.map V.str) H)
theorem pa_texts {X : Cx} : ∀ (es : List Expr) (xs : List Str), cStrs es = some xs → PA X es (fun _ H Q => Q (xs.map V.str) H)
  | [], xs, h => by cases h; exact pa_nil
  | e :: es, xs, h => by
    unfold cStrs at h
    split at h
    case h_1 => rename_i z; cases z
    case h_2 x _ _ es' z =>
      cases z
      cases e : cStrs es with
      | none => rw [e] at h; cases h
      | some ys =>
        rw [e] at h
        cases h
        exact pa_cons pe_str (pa_texts es ys e)
    case h_3 => cases h
theorem pe_texts {X : Cx} {es : List Expr} {xs : List Str} {pos : Pos} (h : cStrs es = some xs) : PE X (.List es pos) (tTexts xs) := pe_lst (pa_texts es xs h)
noncomputable def cKey : Option Expr → Option Str
  | some (.Constant (.str x) _ _) => some x
  | _ => none
noncomputable def cRow : Expr → Option (List Int)
  | .Tuple es _ _ => constInts es
  | _ => none
noncomputable def cPairs : List (Option Expr) → List Expr → Option (List (Str × List Int))
  | [], [] => some []
  | k :: ks, v :: vs => match cKey k, cRow v, cPairs ks vs with
    | some x, some r, some ps => some ((x, r) :: ps)
    | _, _, _ => none
  | _, _ => none
noncomputable def cDisp : Expr → Option (List (Str × List Int))
  | .Dict ks vs _ => cPairs ks vs
  | _ => none
noncomputable def tRow (ns : List Int) : TE := tTup (fun _ H Q => Q (ns.map V.int) H)
noncomputable def tPairsR : List (Str × List Int) → List (TE × TE)
  | [] => []
  | p :: ps => (tC (.str p.1), tRow p.2) :: tPairsR ps
theorem key_c {X : Cx} {k : Option Expr} {x : Str} (h : cKey k = some x) : ∃ e, k = some e ∧ PE X e (tC (.str x)) := by
  unfold cKey at h
  split at h
  case h_2 => exact nomatch h
  case h_1 y i pos => cases h; exact ⟨_, rfl, pe_str⟩
theorem row_c {X : Cx} {v : Expr} {r : List Int} (h : cRow v = some r) : PE X v (tRow r) := by
  unfold cRow at h
  split at h
  case h_2 => exact nomatch h
  case h_1 es i pos => exact pe_tup (pa_ints es r h)
theorem pps_c {X : Cx} {pos : Pos} : ∀ (ks : List (Option Expr)) (vs : List Expr) (L : List (Str × List Int)), cPairs ks vs = some L →
    PPs X pos ks vs (tPairsR L) ∧ ks.all (·.isSome) = true ∧ ks.length = L.length ∧ vs.length = L.length
  | [], [], L, h => by cases h; exact ⟨pps_nil, rfl, rfl, rfl⟩
  | [], _ :: _, _, h => nomatch h
  | _ :: _, [], _, h => nomatch h
  | k :: ks, v :: vs, L, h => by
    unfold cPairs at h
    split at h
    case h_2 => exact nomatch h
    case h_1 x r ps h1 h2 h3 =>
      cases h
      obtain ⟨e, rfl, he⟩ := key_c (X := X) h1
      obtain ⟨g1, g2, g3, g4⟩ := pps_c (X := X) (pos := pos) ks vs ps h3
      exact ⟨pps_cons he (row_c h2) g1, by rw [List.all_cons, g2]; rfl, congrArg (· + 1) g3, congrArg (· + 1) g4⟩
theorem pe_cDisp {X : Cx} {e : Expr} {L : List (Str × List Int)} (h : cDisp e = some L) (h0 : L ≠ []) (h15 : L.length ≤ 15) : PE X e (tDisp (tPairsR L)) := by
  unfold cDisp at h
  split at h
  case h_2 => exact nomatch h
  case h_1 ks vs pos =>
    obtain ⟨g1, g2, g3, g4⟩ := pps_c (X := X) (pos := pos) ks vs L h
    exact pe_disp g1 g2 (g3.trans g4.symm) (fun z => by rw [z] at g3; exact h0 (List.eq_nil_of_length_eq_zero g3.symm)) (by rw [g3]; exact h15)
inductive DRel (K : PySem.W.Frag) (H : Hp) : List (Str × List Int) → List (Key × V) → Prop where
  | nil : DRel K H [] []
  | cons {x : Str} {r : List Int} {v : Addr} {L : List (Str × List Int)} {kvs : List (Key × V)} (h : SqT K H v (r.map V.int)) (t : DRel K H L kvs) : DRel K H ((x, r) :: L) ((.inr x, .ref v) :: kvs)
section
variable {K : PySem.W.Frag} {H H' : Hp} {L : List (Str × List Int)} {kvs : List (Key × V)}
theorem DRel.tup (h : DRel K H L kvs) (s : Tup H H') : DRel K H' L kvs := by
  induction h with
  | nil => exact .nil
  | cons h t ih => exact .cons (s.seqT h) ih
theorem DRel.keys (h : DRel K H L kvs) : kvs.map (·.1) = L.map fun p => (Sum.inr p.1 : Key) := by
  induction h with
  | nil => rfl
  | cons h t ih => rw [List.map_cons, List.map_cons, ih]
theorem DRel.get (h : DRel K H L kvs) (x : Str) : (∃ r v, L.lookup x = some r ∧ valV (κ := Key) kvs (.inr x) = some (.ref v) ∧ SqT K H v (r.map V.int)) ∨ (L.lookup x = none ∧ valV (κ := Key) kvs (.inr x) = none) := by
  induction h with
  | nil => exact .inr ⟨rfl, rfl⟩
  | @cons y r v L kvs h t ih =>
    by_cases e : y = x
    · subst e
      exact .inl ⟨r, v, by simp, valV_pos rfl, h⟩
    · have n : (x == y) = false := beq_eq_false_iff_ne.mpr fun z => e z.symm
      rw [List.lookup_cons, n, valV_neg (p := (Sum.inr y, V.ref v)) (fun z => e (Sum.inr.inj z))]
      exact ih
end
theorem mergeK_nd : ∀ (more kvs : List (Key × V)), ((kvs ++ more).map (·.1)).Nodup → mergeK kvs more = kvs ++ more
  | [], kvs, _ => by rw [List.append_nil]; rfl
  | p :: more, kvs, h => by
    have hv : valV kvs p.1 = none := by
      unfold valV
      rw [Option.map_eq_none_iff, List.find?_eq_none]
      intro q hq z
      rw [decide_eq_true_eq] at z
      rw [List.map_append, List.map_cons, List.nodup_append] at h
      exact h.2.2 q.1 (List.mem_map_of_mem hq) p.1 List.mem_cons_self z
    show mergeK (putK kvs p.1 p.2) more = _
    rw [putK_new _ hv, mergeK_nd more (kvs ++ [(p.1, p.2)]) (by rw [List.append_assoc]; exact h), List.append_assoc]
    rfl
theorem pairsR_read {K : PySem.W.Frag} {σ : St} : ∀ (L : List (Str × List Int)) {H : Hp} {Q : List (V × V) → Hp → Prop}, (∀ p ∈ L, p.2.length ≤ 1000) → (∀ kvs H', Same H H' → DRel K H' L kvs → Q (kvs.map fun kv => (kV kv.1, kv.2)) H') → tPairs (tPairsR L) σ H Q
  | [], H, Q, _, q => by
    unfold tPairsR tPairs
    exact q [] H (.refl _) .nil
  | p :: L, H, Q, hl, q => by
    have h0 := hl p List.mem_cons_self
    have h : tRow p.2 σ H (fun y H2 => tPairs (tPairsR L) σ H2 fun ps H3 => Q ((.str p.1, y) :: ps) H3) := by
      refine ⟨by rw [List.length_map]; exact Nat.le_trans h0 (by decide), fun t ht => ?_⟩
      exact pairsR_read (K := K) L (fun x hx => hl x (List.mem_cons_of_mem _ hx)) fun kvs H' s h => q ((.inr p.1, .ref t) :: kvs) H' ((Same.upd ht).trans s) (.cons (s.seqT (.of upd_same)) h)
    unfold tPairsR tPairs
    exact h
theorem dispR_read {K : PySem.W.Frag} {σ : St} {L : List (Str × List Int)} {H : Hp} {Q : VK} (nd : (L.map (·.1)).Nodup) (hL : L.length ≤ 15) (hl : ∀ p ∈ L, p.2.length ≤ 1000) (q : ∀ p kvs H', Same H H' → H' p = some (.dK kvs) → DRel K H' L kvs → Q (.ref p) H') : tDisp (tPairsR L) σ H Q := by
  intro p hp
  have hs : Same H (upd H p (.dK [])) := .upd hp
  have hpe : (upd H p (.dK [])) p = some (.dK []) := upd_same
  generalize upd H p (.dK []) = H0 at hs hpe
  refine pairsR_read (K := K) L hl fun kvs H1 s1 r => ?_
  have hp1 := s1 _ _ hpe
  have ek := r.keys
  refine ⟨hp1, kvs, rfl, ?_, ?_⟩
  · have := congrArg List.length ek
    rw [List.length_map, List.length_map] at this
    omega
  · rw [mergeK_nd kvs [] (by
      rw [List.nil_append, ek]
      rw [show (L.map fun p => (Sum.inr p.1 : Key)) = (L.map (·.1)).map Sum.inr by rw [List.map_map]; rfl]
      exact List.Pairwise.map _ (fun a b (h : a ≠ b) (z : Sum.inr a = Sum.inr b) => h (Sum.inr.inj z)) nd), List.nil_append]
    exact q p kvs _ (Same.put (hs.trans s1) hp) upd_same (r.tup (Tup.dct hp1))
/-! ### steps -/
theorem seq_asg {te : TE} {i : Nat} {u : TS} {D : Ends} {σ : St} {H : Hp} (h : te σ H fun x H1 => u D (σ.set i (some x)) H1) : tSeq (tAsg te (gName i)) u D σ H := h
theorem seq_asgG {te : TE} {g : TG} {u : TS} {D : Ends} {σ : St} {H : Hp} (h : te σ H fun x H1 => g x σ H1 (u D)) : tSeq (tAsg te g) u D σ H := h
theorem seq_if {c : TT} {t u : TS} {D : Ends} {σ : St} {H : Hp} (h : c σ H fun b H1 => if b = true then t { D with nx := u D } σ H1 else u D σ H1) : tSeq (tIfS c t tNext) u D σ H := h
theorem ret_of {te : TE} {D : Ends} {σ : St} {H : Hp} (h : te σ H D.rt) : tRet te D σ H := h
theorem gPair_of {K : PySem.W.Frag} {i j : Nat} {v : Addr} {x y : V} {σ : St} {H : Hp} {R : St → Hp → Prop} (h : SqT K H v [x, y]) (q : R ((σ.set i (some x)).set j (some y)) H) : gTup K 2 (gCons (gName i) (gCons (gName j) gNil)) (.ref v) σ H R := ⟨v, _, rfl, h, rfl, _, _, rfl, _, _, rfl, rfl, q⟩
theorem gTrip_of {K : PySem.W.Frag} {i j k : Nat} {v : Addr} {x y z : V} {σ : St} {H : Hp} {R : St → Hp → Prop} (h : SqT K H v [x, y, z]) (q : R (((σ.set i (some x)).set j (some y)).set k (some z)) H) : gTup K 3 (gCons (gName i) (gCons (gName j) (gCons (gName k) gNil))) (.ref v) σ H R := ⟨v, _, rfl, h, rfl, _, _, rfl, _, _, rfl, _, _, rfl, rfl, q⟩
/-! ### a hand that is drawn from -/
noncomputable def tDr (i : Nat) (t : TE) : TE := tCall spDrw [] E0 (tCons (tVar i) (tCons t tNil))
section
variable {K : PySem.W.Frag} {σ : St} {H : Hp} {a : Addr} {n : Nat}
theorem SmT.seqT {H' : Hp} {b : Addr} {ys : List V} (s : SmT a H H') (hH : Hand H a n) (h : SqT K H b ys) : SqT K H' b ys := by
  obtain ⟨xs, e⟩ := hH.at_
  rcases h with (h | ⟨o, h⟩) | h
  · exact .inl (.inl (s _ _ h fun z => by rw [z, e] at h; cases h))
  · exact .inl (.inr ⟨o, s _ _ h fun z => by rw [z, e] at h; cases h⟩)
  · exact .inr h
theorem Same.smt {H' : Hp} (s : Same H H') : SmT a H H' := fun b o e _ => s b o e
theorem dr_read {i : Nat} {t : TE} {lim : Int} {Q : VK} (h3 : σ[i]? = some (some (.ref a))) (ht : ∀ R : VK, R (.int lim) H → t σ H R) (hH : Hand H a n) (hn : n ≤ 900000) (l0 : 1 ≤ lim) (l1 : lim ≤ 100) (q : ∀ d H', 0 ≤ d → d < lim → SmT a H H' → Hand H' a (n + 1) → Q (.int d) H') : tDr i t σ H Q :=
  ⟨_, h3, ht _ ⟨a, lim, n, rfl, hH, by omega, l0, l1, fun d xs d0 d1 h => q d _ d0 d1 SmT.put h⟩⟩
theorem hand_other {b : Addr} (hH : Hand H a n) (hb : H b = none) : b ≠ a := fun z => by
  obtain ⟨xs, e⟩ := hH.at_
  rw [z, e] at hb
  cases hb
/-- int(a truth) -/
noncomputable def rIntB : List V → Hp → VK → Prop := fun xs H Q => (∃ i, xs = [.int i] ∧ Q (.int i) H) ∨ ∃ k, xs = [.bl k] ∧ Q (.int (if k then 1 else 0)) H
noncomputable def tIntEq (i : Nat) (x : Str) : TE := tCB rIntB (tCons (tOp rEq (tVar i) (tC (.str x))) tNil)
theorem intE_mul {ta tb : TE} {i j : Int} (h1 : IntE ta σ H i) (h2 : IntE tb σ H j) (hi : -(2 ^ 60) < i ∧ i < 2 ^ 60) : IntE (tOp (rI CMul fun i j => .int (i * j)) ta tb) σ H (i * j) := fun H' s _ q => h1 H' s _ (h2 H' s _ ⟨i, j, rfl, rfl, .inl ⟨by omega, by omega⟩, q⟩)
theorem intE_sub {ta tb : TE} {i j : Int} (h1 : IntE ta σ H i) (h2 : IntE tb σ H j) : IntE (tOp (rI0 fun i j => .int (i - j)) ta tb) σ H (i - j) := fun H' s _ q => h1 H' s _ (h2 H' s _ ⟨i, j, rfl, rfl, q⟩)
theorem Hand.mono {H' : Hp} (h : Hand H a n) (s : Same H H') : Hand H' a n := let ⟨x0, x1, x2, e, r⟩ := h; ⟨x0, x1, x2, s _ _ e, r⟩
theorem intE_eq {i : Nat} {x y : Str} (h : σ[i]? = some (some (.str y))) : IntE (tIntEq i x) σ H (if y = x then 1 else 0) := fun H' s R q => by
  refine ⟨_, h, rfl, .inr ⟨_, rfl, ?_⟩⟩
  by_cases e : y = x
  · rw [if_pos e] at q
    rw [decide_eq_true (congrArg V.str e)]
    exact q
  · rw [if_neg e] at q
    rw [decide_eq_false fun z => e (V.str.inj z)]
    exact q
theorem isW_read {i : Nat} {x y : Str} {Q : Bool → Hp → Prop} (h : σ[i]? = some (some (.str y))) (q : Q (decide (y = x)) H) : tTest (tOp rEq (tVar i) (tC (.str x))) σ H Q := by
  refine ⟨_, h, rfl, _, rfl, ?_⟩
  simpa using q
theorem iteD2 {c : Prop} [Decidable c] {A B : Prop} (h1 : c → A) (h2 : ¬ c → B) : if decide c = true then A else B := by
  by_cases h : c
  · rw [decide_eq_true h]; exact iteT (h1 h)
  · rw [decide_eq_false h]; exact iteF (h2 h)
end
/-! ### a drawing with its wires -/
noncomputable def DrwH (K : PySem.W.Frag) (H : Hp) (v : Addr) (d : Drw) : Prop := ∃ aw, SqT K H v [.ref aw, .int (d.lft : Int), .int (d.rgt : Int)] ∧ SqT K H aw d.words
section
variable {K : PySem.W.Frag} {H H' : Hp} {v : Addr} {d : Drw}
theorem DrwH.mono (h : DrwH K H v d) (s : Same H H') : DrwH K H' v d := let ⟨aw, h1, h2⟩ := h; ⟨aw, s.seqT h1, s.seqT h2⟩
theorem DrwH.tup (h : DrwH K H v d) (s : Tup H H') : DrwH K H' v d := let ⟨aw, h1, h2⟩ := h; ⟨aw, s.seqT h1, s.seqT h2⟩
theorem DrwH.smt {a : Addr} {n : Nat} (h : DrwH K H v d) (hH : Hand H a n) (s : SmT a H H') : DrwH K H' v d := let ⟨aw, h1, h2⟩ := h; ⟨aw, SmT.seqT s hH h1, SmT.seqT s hH h2⟩
end
/-! ### how many wires stand between -/
noncomputable def Drw.mid (s : Int) : Drw → Prop
  | .box _ _ _ _ => True
  | .times _ => True
  | .back d => d.mid s
  | .beside a b => a.mid s ∧ b.mid s
  | .thn a b => a.mid s ∧ b.mid s ∧ (a.rgt : Int) ≤ s
theorem Drw.mid_box {p s : Int} (s2 : 2 ≤ s) : ∀ {d : Drw}, d.wf p → d.words.length ≤ 3 → d.mid s
  | .box _ _ _ _, _, _ => True.intro
  | .times _, _, _ => True.intro
  | .back d, h, hl => Drw.mid_box (d := d) s2 h (by simp only [Drw.words, List.length_cons] at hl; omega)
  | .beside a b, h, hl => by
    simp only [Drw.words, List.length_cons, List.length_append] at hl
    exact ⟨Drw.mid_box s2 h.1 (by omega), Drw.mid_box s2 h.2 (by omega)⟩
  | .thn a b, h, hl => by
    simp only [Drw.words, List.length_cons, List.length_append] at hl
    have hb := b.pos
    have hf := (Drw.few h.1).2
    exact ⟨Drw.mid_box s2 h.1 (by omega), Drw.mid_box s2 h.2.1 (by omega), by omega⟩
end S21
namespace S21
open PySem L2 Bw
set_option maxHeartbeats 3900000
/-! ### _law_box -/
noncomputable abbrev W12 : List Str := ["id", "swap", "copy", "end", "add", "none", "times", "cup", "empty", "copy", "add", "times"]
noncomputable abbrev szL : List (Str × List Int) := [("id", [1, 1]), ("swap", [2, 2]), ("copy", [1, 2]), ("end", [1, 0]), ("add", [2, 1]), ("none", [0, 1])]
theorem szL_nd : (szL.map (·.1)).Nodup := by decide +kernel
theorem szL_len : szL.length ≤ 15 := by show 6 ≤ 15; decide
theorem szL_ne : szL ≠ [] := fun z => nomatch z
theorem szL_row : ∀ p ∈ szL, p.2.length ≤ 1000 := by decide +kernel
theorem w12_in : ∀ j : Nat, j < 12 → ∃ x, W12[j]? = some x ∧ (x = "times" ∨ ∃ e ∈ boxL, e.1 = x ∧ x ≠ "times") := by
  have h : ∀ j : Nat, j < 12 → (match W12[j]? with | some x => decide (x = "times") || boxL.any fun e => decide (e.1 = x) && !decide (x = "times") | none => false) = true := by decide +kernel
  intro j hj
  have z := h j hj
  cases e : W12[j]? with
  | none => rw [e] at z; cases z
  | some x =>
    rw [e] at z
    refine ⟨x, rfl, ?_⟩
    simp only [Bool.or_eq_true, decide_eq_true_eq, List.any_eq_true, Bool.and_eq_true, Bool.not_eq_true', decide_eq_false_iff_not] at z
    exact z
theorem sz_times : szL.lookup ("times" : Str) = none := by decide +kernel
theorem cup_times : ("times" : Str) ≠ "cup" := by decide +kernel
theorem sz_box : ∀ e ∈ boxL, szL.lookup e.1 = some [(e.2.1 : Int), (e.2.2.1 : Int)] ∨ (szL.lookup e.1 = none ∧ (e.2.1 : Int) = 0 ∧ (e.2.2.1 : Int) = 2 * (if e.1 = "cup" then 1 else 0)) := by decide +kernel
section
variable {P : Program} {w : World} {K : PySem.W.Frag} {mg : Str → Option Value} {base : Heap}
noncomputable def spBox (K : PySem.W.Frag) : Sp := fun vs H Q _ => ∃ (a : Addr) (n : Nat) (p : Int), vs = [.ref a, .int p] ∧ Hand H a n ∧ n ≤ 800 ∧ 2 ≤ p ∧ p ≤ 97 ∧
  ∀ v d H' n', d.wf p → d.words.length ≤ 3 → d.lft ≤ 2 → d.rgt ≤ 2 → SmT a H H' → Hand H' a n' → n' ≤ n + 3 → DrwH K H' v d → Q (.ref v) H'
theorem scBx : FnScope ["hand", "p", "some", "word", "times", "sizes", "left", "right", "words"] ["hand", "p"] (defScope s_law_box) := ⟨rfl, rfl, rfl, by decide +kernel, rfl, by decide +kernel, by decide +kernel⟩
noncomputable abbrev rMul : R2 := rI CMul fun i j => .int (i * j)
noncomputable def tBx5 : TE := tDGet2 (tVar 5) (tVar 3) (tTup (tCons (tVar 4) (tCons (tAddI (tVar 4) (tOp rMul (tC (.int 2)) (tIntEq 3 "cup"))) tNil)))
noncomputable def tBox (K : PySem.W.Frag) : TS := tSeq (tAsg (tTexts W12) (gName 2)) (tSeq (tAsg (tOp (rIxL K) (tVar 2) (tDr 0 (tC (.int 12)))) (gName 3)) (tSeq (tAsg (tIntEq 3 "times") (gName 4)) (tSeq (tAsg (tDisp (tPairsR szL)) (gName 5))
  (tSeq (tAsg (tBx5) (gTup K 2 (gCons (gName 6) (gCons (gName 7) gNil)))) (tSeq (tAsg (tTup (tCons (tVar 3) tNil)) (gName 8))
  (tSeq (tIfS (tTest (tOp rEq (tVar 3) (tC (.str "times")))) (tAsg (tTup (tCons (tVar 3) (tCons (tDr 0 (tVar 1)) tNil))) (gName 8)) tNext)
  (tSeq (tIfS (tTest (tOp rEq (tDr 0 (tC (.int 3))) (tC (.int 1)))) (tRet (tTup (tCons (tCat K (tTup (tCons (tC (.str "back")) tNil)) (tVar 8)) (tCons (tVar 7) (tCons (tVar 6) tNil))))) tNext)
  (tRet (tTup (tCons (tVar 8) (tCons (tVar 6) (tCons (tVar 7) tNil)))))))))))) 
/-- the sizes are found -/
theorem bx5_read {σ : St} {H : Hp} {d : Addr} {x : Str} {kvs : List (Key × V)} {tm l r : Int} {Q : VK} (h3 : σ[3]? = some (some (.str x))) (h4 : σ[4]? = some (some (.int tm))) (h5 : σ[5]? = some (some (.ref d))) (hd : H d = some (.dK kvs)) (hD : DRel K H szL kvs)
    (hs : szL.lookup x = some [l, r] ∨ (szL.lookup x = none ∧ l = tm ∧ r = tm + 2 * (if x = "cup" then 1 else 0))) (q : ∀ v H', Same H H' → SqT K H' v [.int l, .int r] → Q (.ref v) H') : tBx5 σ H Q := by
  unfold tBx5 tDGet2
  refine ⟨_, h5, d, rfl, .inl ⟨_, .of hd⟩, _, h3, _, h4, ?_⟩
  refine intE_add (i := tm) (j := 2 * (if x = "cup" then 1 else 0)) (intE_v h4) (intE_mul intE_c (intE_eq h3) (by decide)) H (.refl _) _ ?_
  refine ⟨by show 2 ≤ sizeLine; decide, fun t ht => ?_⟩
  have st := Same.upd (o := .tup [.int tm, .int (tm + 2 * (if x = "cup" then 1 else 0))]) ht
  refine ⟨_, DGet.k (k := .inr x) (st _ _ hd), ?_⟩
  rcases hD.get x with ⟨row, v, e1, e2, e3⟩ | ⟨e1, e2⟩
  · rcases hs with hs | ⟨hs, _⟩
    · rw [e1] at hs
      cases hs
      rw [e2]
      exact q v _ st (st.seqT e3)
    · rw [e1] at hs; cases hs
  · rcases hs with hs | ⟨_, rfl, rfl⟩
    · rw [e1] at hs; cases hs
    · rw [e2]
      exact q t _ st (.of upd_same)
theorem box_read {D : Ends} {H : Hp} {a : Addr} {n : Nat} {p : Int} (hH : Hand H a n) (hn : n ≤ 800) (p2 : 2 ≤ p) (p97 : p ≤ 97) (q : ∀ v d H' n', d.wf p → d.words.length ≤ 3 → d.lft ≤ 2 → d.rgt ≤ 2 → SmT a H H' → Hand H' a n' → n' ≤ n + 3 → DrwH K H' v d → D.rt (.ref v) H') :
    tBox K D [some (.ref a), some (.int p), none, none, none, none, none, none, none] H := by
  unfold tBox
  refine seq_asg ?_
  refine ⟨by show 12 ≤ sizeLine; decide, fun l0 hl0 => ?_⟩
  refine seq_asg ⟨_, rfl, ?_⟩
  refine dr_read rfl (fun R h => h) (hH.new hl0) (by omega) (by decide) (by decide) fun j H1 j0 j1 s1 g1 => ?_
  obtain ⟨x, hx, hw⟩ := w12_in j.toNat (by omega)
  refine ⟨l0, W12.map V.str, j, .str x, rfl, rfl, .of (s1 _ _ upd_same (hand_other hH hl0)), ?_, ?_⟩
  · rw [show j = ((j.toNat : Nat) : Int) by omega]
    refine atI_nat (j := j.toNat) ?_
    rw [List.getElem?_map, hx]
    rfl
  have sA : SmT a H H1 := fun b o e nb => s1 b o (by rw [upd_ne (ne_of_none e hl0)]; exact e) nb
  refine seq_asg ?_
  refine intE_eq (y := x) (x := "times") rfl H1 (.refl _) _ ?_
  refine seq_asg ?_
  refine dispR_read (K := K) szL_nd szL_len szL_row ?_
  intro dk kvs H2 s2 hd hD
  have g2 : Hand H2 a (n + 1) := g1.mono s2
  have sB : SmT a H H2 := SmT.trans sA (Same.smt s2)
  obtain ⟨l, r, rows, hsz, hE⟩ : ∃ (l r : Nat) (rows : List (List Int)), (szL.lookup x = some [(l : Int), (r : Int)] ∨ (szL.lookup x = none ∧ (l : Int) = (if x = "times" then 1 else 0) ∧ (r : Int) = (if x = "times" then 1 else 0) + 2 * (if x = "cup" then 1 else 0))) ∧ ((x = "times" ∧ l = 1 ∧ r = 1) ∨ (x ≠ "times" ∧ (x, l, r, rows) ∈ boxL)) := by
    rcases hw with rfl | ⟨e, he, rfl, hne⟩
    · exact ⟨1, 1, [], .inr ⟨sz_times, by rw [if_pos rfl]; rfl, by rw [if_pos rfl, if_neg cup_times]; rfl⟩, .inl ⟨rfl, rfl, rfl⟩⟩
    · refine ⟨e.2.1, e.2.2.1, e.2.2.2, ?_, .inr ⟨hne, he⟩⟩
      rw [if_neg hne]
      rcases sz_box e he with z | ⟨z1, z2, z3⟩
      · exact .inl z
      · exact .inr ⟨z1, z2, by rw [z3, Int.zero_add]⟩
  refine seq_asgG ?_
  refine bx5_read (K := K) (x := x) rfl rfl rfl hd hD hsz ?_
  intro v3 H3 s3 hv3
  have g3 : Hand H3 a (n + 1) := g2.mono s3
  have sC : SmT a H H3 := SmT.trans sB (Same.smt s3)
  refine gPair_of hv3 ?_
  refine seq_asg ⟨_, rfl, by show 1 ≤ sizeLine; decide, fun w4 hw4 => ?_⟩
  have s4 := Same.upd (o := .tup [.str x]) hw4
  have g4 : Hand (upd H3 w4 (.tup [.str x])) a (n + 1) := g3.new hw4
  have hws : SqT K (upd H3 w4 (.tup [.str x])) w4 [.str x] := .of upd_same
  have sD : SmT a H (upd H3 w4 (.tup [.str x])) := SmT.trans sC (Same.smt s4)
  generalize upd H3 w4 (.tup [.str x]) = H4 at s4 g4 hws sD ⊢
  -- behind the number that may stand
  have rest : ∀ (d : Drw) (ws : Addr) (H5 : Hp) (m : Nat), d.wf p → d.words.length ≤ 2 → d.lft = l → d.rgt = r → l ≤ 2 → r ≤ 2 → SmT a H H5 → Hand H5 a m → m ≤ n + 2 → SqT K H5 ws d.words →
      tSeq (tIfS (tTest (tOp rEq (tDr 0 (tC (.int 3))) (tC (.int 1)))) (tRet (tTup (tCons (tCat K (tTup (tCons (tC (.str "back")) tNil)) (tVar 8)) (tCons (tVar 7) (tCons (tVar 6) tNil))))) tNext) (tRet (tTup (tCons (tVar 8) (tCons (tVar 6) (tCons (tVar 7) tNil))))) D
        [some (.ref a), some (.int p), some (.ref l0), some (.str x), some (.int (if x = "times" then 1 else 0)), some (.ref dk), some (.int (l : Int)), some (.int (r : Int)), some (.ref ws)] H5 := by
    intro d ws H5 m hd hdl el er l2 r2 sm hm hmn hws
    refine seq_if ?_
    refine dr_read rfl (fun R h => h) hm (by omega) (by decide) (by decide) fun j H6 j0 j1 s6 g6 => ⟨rfl, _, rfl, ?_⟩
    have hws6 := SmT.seqT s6 hm hws
    have sm6 := SmT.trans sm s6
    by_cases ej : j = 1
    · rw [decide_eq_true (congrArg V.int ej)]
      refine iteT ⟨by show 1 ≤ sizeLine; decide, fun b hb => ⟨_, rfl, ?_⟩⟩
      have sb := Same.upd (o := .tup [.str "back"]) hb
      refine ⟨b, ws, _, _, rfl, rfl, .of upd_same, sb.seqT hws6, ?_, fun c H7 s7 hc => ?_⟩
      · have : (1000 : Nat) ≤ sizeLine := by decide
        show 1 + d.words.length ≤ sizeLine
        omega
      refine ⟨_, rfl, _, rfl, by show 3 ≤ sizeLine; decide, fun v hv => ?_⟩
      have sv := (sb.trans s7).trans (Same.upd (o := .tup [.ref c, .int (r : Int), .int (l : Int)]) hv)
      refine q v (.back d) _ (m + 1) hd (by simp only [Drw.words, List.length_cons]; omega) (by show d.rgt ≤ 2; omega) (by show d.lft ≤ 2; omega) (SmT.trans sm6 (Same.smt sv)) (g6.mono sv) (by omega) ⟨c, ?_, (Same.upd hv).seqT hc⟩
      refine .of ?_
      rw [upd_same]
      show some (HO.tup _) = some (HO.tup [_, .int (d.rgt : Int), .int (d.lft : Int)])
      rw [el, er]
    · rw [decide_eq_false fun z => ej (V.int.inj z)]
      refine iteF ⟨_, rfl, _, rfl, _, rfl, by show 3 ≤ sizeLine; decide, fun v hv => ?_⟩
      have sv := Same.upd (o := .tup [.ref ws, .int (l : Int), .int (r : Int)]) hv
      refine q v d _ (m + 1) hd (by omega) (by omega) (by omega) (SmT.trans sm6 (Same.smt sv)) (g6.mono sv) (by omega) ⟨ws, ?_, sv.seqT hws6⟩
      refine .of ?_
      rw [upd_same, el, er]
  refine seq_if ?_
  refine isW_read (y := x) rfl (iteD2 (fun ct => ?_) fun ct => ?_)
  · rcases hE with ⟨_, rfl, rfl⟩ | ⟨hne, _⟩
    · refine ⟨_, rfl, ?_⟩
      refine dr_read rfl (fun R h => ⟨_, rfl, h⟩) g4 (by omega) (by omega) (by omega) fun m H5 m0 m1 s5 g5 => ?_
      refine ⟨by show 2 ≤ sizeLine; decide, fun w5 hw5 => ?_⟩
      have s6 := Same.upd (o := .tup [.str x, .int m]) hw5
      refine rest (.times m) w5 _ (n + 1 + 1) ⟨m0, m1⟩ (by show 2 ≤ 2; decide) rfl rfl (by decide) (by decide) (SmT.trans sD (SmT.trans s5 (Same.smt s6))) (g5.new hw5) (by omega) ?_
      rw [ct]
      exact .of upd_same
    · exact absurd ct hne
  · rcases hE with ⟨hx', _⟩ | ⟨_, hb⟩
    · exact absurd hx' ct
    · obtain ⟨b1, b2, _⟩ := box_small2 _ hb
      exact rest (.box x l r rows) w4 H4 (n + 1) hb (by show 1 ≤ 2; decide) rfl rfl b1 b2 sD g4 (by omega) hws
end
end S21
namespace S21
open PySem L2 Bw
set_option maxHeartbeats 3900000
section
variable {P : Program} {w : World} {K : PySem.W.Frag} {mg : Str → Option Value} {base : Heap}
theorem ok_box {f fD : Addr} {fd fdD : FuncData} (F : Fun K "_law_box" "_law_box" s_law_box f fd) (T : Txt mg)
    (GD : FnOk P w K mg base CX0 1 fD fdD ["hand", "limit"] spDrw) (kD : PySem.W.keepIn K (.ref fD) = true) (bD : Binds K fdD ["hand", "limit"] []) (mD : mg "_law_draw" = some (.ref fD)) : FnOk P w K mg base CX0 2 f fd ["hand", "p"] (spBox K) := by
  refine F.ok scBx (fun vs H Q E h => ?_) (fun cdv A outer s H vs Q E hr h => ?_)
  · obtain ⟨a, n, p, rfl, _⟩ := h
    rfl
  · obtain ⟨a, n, p, rfl, hH, hn, p2, p97, q⟩ := h
    have hu := hu_of hr
    refine ⟨tBox K, ?_, ?_⟩
    · unfold tBox
      refine pss_cons ?_ ?_
      · refine ps_set (i := 2) (te := tTexts W12) ?_ ?_ ?_ ?_ ?_ ?_
        · exact scBx.nd
        · rfl
        · exact Or.inl rfl
        · refine pe_texts (xs := W12) ?_
          kernel_rfl
        · rfl
        · exact .inl rfl
      refine pss_cons ?_ ?_
      · exact ps_set (i := 3) scBx.nd rfl (Or.inl rfl) (pe_ix (ixL K rfl) (pv 2) (pe_call GD hr rfl mD kD bD .nil pass0 (pa_cons (pv 0) (pa_cons pe_int pa_nil))) (fun _ _ => rfl))
      refine pss_cons ?_ ?_
      · exact ps_set (i := 4) scBx.nd rfl (Or.inl rfl) (pe_callTy call_int1 rfl T.int bt_int (pa_cons (pe_cmpR op_eq (pv 3) pe_str (nomark _)) pa_nil))
      refine pss_cons ?_ ?_
      · refine ps_set (i := 5) (te := tDisp (tPairsR szL)) ?_ ?_ ?_ ?_ ?_ ?_
        · exact scBx.nd
        · rfl
        · exact Or.inl rfl
        · refine pe_cDisp (L := szL) ?_ ?_ ?_
          · kernel_rfl
          · exact szL_ne
          · exact szL_len
        · rfl
        · exact .inl rfl
      refine pss_cons ?_ ?_
      · refine ps_asg (te := tBx5) ?_ ?_ ?_
        · unfold tBx5
          refine pe_dget2 hu (pv 5) (pv 3) ?_ ?_
          · refine pe_tup ?_
            refine pa_cons (pv 4) ?_ ?_
            · refine pa_cons ?_ pa_nil ?_
              · refine pe_op op_add (pv 4) ?_
                refine pe_op op_mul pe_int ?_
                exact pe_callTy call_int1 rfl T.int bt_int (pa_cons (pe_cmpR op_eq (pv 3) pe_str (nomark _)) pa_nil)
              · rfl
            · rfl
          · exact ⟨rfl, rfl, rfl, rfl⟩
        · exact pgTup (n := 2) K rfl rfl (pgs_cons (pg_name (i := 6) scBx.nd rfl (Or.inl rfl)) (pgs_cons (pg_name (i := 7) scBx.nd rfl (Or.inl rfl)) pgs_nil))
        · rfl
      refine pss_cons ?_ ?_
      · exact ps_set (i := 8) scBx.nd rfl (Or.inl rfl) (pe_tup (pa_cons (pv 3) pa_nil))
      refine pss_cons ?_ ?_
      · refine ps_if ?_ ?_ pss_nil
        · exact pt_cmpR op_eq (pv 3) pe_str (nomark _)
        · refine pss_one ?_
          exact ps_set (i := 8) scBx.nd rfl (Or.inl rfl) (pe_tup (pa_cons (pv 3) (pa_cons (pe_call GD hr rfl mD kD bD .nil pass0 (pa_cons (pv 0) (pa_cons (pv 1) pa_nil))) pa_nil)))
      refine pss_cons ?_ ?_
      · refine ps_if ?_ ?_ pss_nil
        · exact pt_cmpR op_eq (pe_call GD hr rfl mD kD bD .nil pass0 (pa_cons (pv 0) (pa_cons pe_int pa_nil))) pe_int (nomark _)
        · refine pss_one ?_
          refine ps_ret (te := tTup (tCons (tCat K (tTup (tCons (tC (.str "back")) tNil)) (tVar 8)) (tCons (tVar 7) (tCons (tVar 6) tNil)))) ?_
          refine pe_tup ?_
          refine pa_cons ?_ ?_ ?_
          · exact pe_op (opCatA K rfl) (pe_tup (pa_cons pe_str pa_nil)) (pv 8)
          · exact pa_cons (pv 7) (pa_cons (pv 6) pa_nil)
          · rfl
      refine pss_one ?_
      exact ps_ret (te := tTup (tCons (tVar 8) (tCons (tVar 6) (tCons (tVar 7) tNil)))) (pe_tup (pa_cons (pv 8) (pa_cons (pv 6) (pa_cons (pv 7) pa_nil))))
    · exact box_read hH hn p2 p97 q
/-! ### _law_ids -/
noncomputable def idB : Drw := .box "id" 1 1 [[1, 1]]
noncomputable def idsD : Nat → Drw
  | 0 => .box "empty" 0 0 []
  | 1 => idB
  | n + 2 => .beside idB (idsD (n + 1))
theorem id_in : (("id" : Str), 1, 1, [[1, 1]]) ∈ boxL := by decide +kernel
theorem empty_in : (("empty" : Str), 0, 0, ([] : List (List Int))) ∈ boxL := by decide +kernel
theorem ids_wf {p : Int} : ∀ n, (idsD n).wf p
  | 0 => empty_in
  | 1 => id_in
  | n + 2 => ⟨id_in, ids_wf (n + 1)⟩
theorem ids_sides : ∀ n, (idsD n).sides = (n, n)
  | 0 => rfl
  | 1 => rfl
  | n + 2 => by
    show (1 + (idsD (n + 1)).sides.1, 1 + (idsD (n + 1)).sides.2) = _
    rw [ids_sides (n + 1)]
    show (1 + (n + 1), 1 + (n + 1)) = _
    rw [Nat.add_comm 1]
theorem ids_words : ∀ n, (idsD (n + 1)).words = (List.replicate n [V.str "beside", V.str "id"]).flatten ++ [V.str "id"]
  | 0 => rfl
  | n + 1 => by
    show V.str "beside" :: ([V.str "id"] ++ (idsD (n + 1)).words) = _
    rw [ids_words n]
    rfl
theorem ids_len : ∀ n, (idsD n).words.length ≤ 2 * n + 1
  | 0 => Nat.le_refl _
  | 1 => by show 1 ≤ 3; decide
  | n + 2 => by
    have := ids_len (n + 1)
    show (V.str "beside" :: ([V.str "id"] ++ (idsD (n + 1)).words)).length ≤ _
    simp only [List.length_cons, List.length_append, List.length_nil]
    omega
noncomputable def spIds (K : PySem.W.Frag) : Sp := fun vs H Q _ => ∃ m : Nat, vs = [.int (m : Int)] ∧ m ≤ 200 ∧ ∀ v H', Same H H' → SqT K H' v (idsD m).words → Q (.ref v) H'
theorem scId : FnScope ["many"] ["many"] (defScope s_law_ids) := ⟨rfl, rfl, rfl, by decide +kernel, rfl, by decide +kernel, by decide +kernel⟩
noncomputable def tIds (K : PySem.W.Frag) : TS := tSeq (tIfS (tTest (tOp rEq (tVar 0) (tC (.int 0)))) (tRet (tTup (tCons (tC (.str "empty")) tNil))) tNext)
  (tRet (tCat K (tOp (rRepT K) (tTup (tCons (tC (.str "beside")) (tCons (tC (.str "id")) tNil))) (tOp (rI0 fun i j => .int (i - j)) (tVar 0) (tC (.int 1)))) (tTup (tCons (tC (.str "id")) tNil))))
theorem ids_read {D : Ends} {H : Hp} {m : Nat} (hm : m ≤ 200) (q : ∀ v H', Same H H' → SqT K H' v (idsD m).words → D.rt (.ref v) H') : tIds K D [some (.int (m : Int))] H := by
  have z1000 : (1000 : Nat) ≤ sizeLine := by decide
  unfold tIds
  refine seq_if ⟨_, rfl, rfl, _, rfl, ?_⟩
  cases m with
  | zero =>
    rw [decide_eq_true (show V.int ((0 : Nat) : Int) = V.int 0 from rfl)]
    refine iteT ⟨by show 1 ≤ sizeLine; decide, fun v hv => q v _ (.upd hv) (.of upd_same)⟩
  | succ k =>
    rw [decide_eq_false fun z => by have := V.int.inj z; omega]
    refine iteF ⟨by show 2 ≤ sizeLine; decide, fun a ha => ⟨_, rfl, _, _, rfl, rfl, a, ((k : Nat) : Int), _, rfl, (show V.int (((k + 1 : Nat) : Int) - 1) = V.int (k : Int) from congrArg V.int (by omega)), .of upd_same, by simp, by omega, by omega, by show 2 * (k : Int).toNat ≤ sizeLine; omega, fun b H1 s1 hb => ?_⟩⟩
    refine ⟨by show 1 ≤ sizeLine; decide, fun c hc => ?_⟩
    have sc := Same.upd (o := .tup [.str "id"]) hc
    refine ⟨b, c, _, _, rfl, rfl, sc.seqT hb, .of upd_same, ?_, fun e H2 s2 he => q e H2 ((Same.upd ha).trans (s1.trans (sc.trans s2))) ?_⟩
    · have : ((List.replicate (k : Int).toNat [V.str "beside", V.str "id"]).flatten).length = 2 * k := by
        rw [List.length_flatten, List.map_replicate, List.sum_replicate_nat]
        simp
        omega
      rw [this]
      show 2 * k + 1 ≤ sizeLine
      omega
    · rw [ids_words]
      rw [show (k : Int).toNat = k by omega] at he
      exact he
theorem ok_ids {f : Addr} {fd : FuncData} (F : Fun K "_law_ids" "_law_ids" s_law_ids f fd) : FnOk P w K mg base CX0 1 f fd ["many"] (spIds K) := by
  refine F.ok scId (fun vs H Q E h => ?_) (fun cdv A outer s H vs Q E hr h => ?_)
  · obtain ⟨m, rfl, _⟩ := h
    rfl
  · obtain ⟨m, rfl, hm, q⟩ := h
    refine ⟨tIds K, ?_, ?_⟩
    · unfold tIds
      refine pss_cons ?_ ?_
      · exact ps_if (pt_cmpR op_eq (pv 0) pe_int (nomark _)) (pss_one (ps_ret (pe_tup (pa_cons pe_str pa_nil)))) pss_nil
      · refine pss_one ?_
        refine ps_ret (te := tCat K (tOp (rRepT K) (tTup (tCons (tC (.str "beside")) (tCons (tC (.str "id")) tNil))) (tOp (rI0 fun i j => .int (i - j)) (tVar 0) (tC (.int 1)))) (tTup (tCons (tC (.str "id")) tNil))) ?_
        refine pe_op (opCatA K rfl) ?_ ?_
        · exact pe_op (opRepT K rfl) (pe_tup (pa_cons pe_str (pa_cons pe_str pa_nil))) (pe_op op_sub (pv 0) pe_int)
        · exact pe_tup (pa_cons pe_str pa_nil)
    · exact ids_read hm q
end
end S21
namespace S21
open PySem L2 Bw
set_option maxHeartbeats 3900000
/-! ### tuples of anything -/
noncomputable def TplE (K : PySem.W.Frag) (te : TE) (σ : St) (H : Hp) (xs : List V) : Prop := ∀ H', Same H H' → ∀ R : VK, (∀ v H'', Same H' H'' → SqT K H'' v xs → R (.ref v) H'') → te σ H' R
noncomputable abbrev tW1 (x : Str) : TE := tTup (tCons (tC (.str x)) tNil)
noncomputable abbrev tW2 (x y : Str) : TE := tTup (tCons (tC (.str x)) (tCons (tC (.str y)) tNil))
noncomputable abbrev tSubI (ta tb : TE) : TE := tOp (rI0 fun i j => .int (i - j)) ta tb
section
variable {K : PySem.W.Frag} {σ : St} {H : Hp}
theorem tplE_v {i : Nat} {a : Addr} {xs : List V} (h : σ[i]? = some (some (.ref a))) (ha : SqT K H a xs) : TplE K (tVar i) σ H xs := fun _ s _ q => ⟨_, h, q a _ (.refl _) (s.seqT ha)⟩
theorem tplE_ix {i : Nat} {a b : Addr} {ys xs : List V} {j : Nat} (h : σ[i]? = some (some (.ref a))) (ha : SqT K H a ys) (hj : ys[j]? = some (.ref b)) (hb : SqT K H b xs) : TplE K (tOp (rIxT K) (tVar i) (tC (.int (j : Int)))) σ H xs :=
  fun _ s _ q => ⟨_, h, a, ys, (j : Int), _, rfl, rfl, s.seqT ha, atI_nat hj, q b _ (.refl _) (s.seqT hb)⟩
theorem tplE_1 {x : Str} : TplE K (tW1 x) σ H [.str x] := fun _ _ _ q => ⟨by show 1 ≤ sizeLine; decide, fun v hv => q v _ (.upd hv) (.of upd_same)⟩
theorem tplE_2 {x y : Str} : TplE K (tW2 x y) σ H [.str x, .str y] := fun _ _ _ q => ⟨by show 2 ≤ sizeLine; decide, fun v hv => q v _ (.upd hv) (.of upd_same)⟩
theorem tplE_cat {ta tb : TE} {xs ys : List V} (h1 : TplE K ta σ H xs) (h2 : TplE K tb σ H ys) (hl : xs.length + ys.length ≤ 10000) : TplE K (tCat K ta tb) σ H (xs ++ ys) := fun H' s R q => by
  have z : (10000 : Nat) ≤ sizeLine := by decide
  refine h1 H' s _ fun a H1 s1 ha => h2 H1 (s.trans s1) _ fun b H2 s2 hb => ?_
  exact ⟨a, b, _, _, rfl, rfl, s2.seqT ha, hb, by omega, fun c H3 s3 hc => q c H3 (s1.trans (s2.trans s3)) hc⟩
theorem tplE_ids {te : TE} {m : Nat} (h : IntE te σ H (m : Int)) (hm : m ≤ 200) : TplE K (tCall (spIds K) [] E0 (tCons te tNil)) σ H (idsD m).words := fun H' s _ q => h H' s _ ⟨m, rfl, hm, q⟩
/-- the drawing with its wires is told -/
theorem drw_told {Q : VK} {tw tl tr : TE} {d : Drw} (h1 : TplE K tw σ H d.words) (h2 : ∀ H', Same H H' → IntE tl σ H' (d.lft : Int)) (h3 : ∀ H', Same H H' → IntE tr σ H' (d.rgt : Int)) (q : ∀ v H', Same H H' → DrwH K H' v d → Q (.ref v) H') : tTup (tCons tw (tCons tl (tCons tr tNil))) σ H Q := by
  refine h1 H (.refl _) _ fun a H1 s1 ha => h2 H1 s1 H1 (.refl _) _ (h3 H1 s1 H1 (.refl _) _ ⟨by show 3 ≤ sizeLine; decide, fun v hv => ?_⟩)
  exact q v _ (s1.trans (.upd hv)) ⟨a, .of upd_same, (Same.upd hv).seqT ha⟩
end
/-! ### _law_padded -/
noncomputable def padD (d : Drw) (ab un : Nat) : Drw :=
  let d1 := if 0 < un then Drw.beside d (idsD un) else d
  if 0 < ab then .beside (idsD ab) d1 else d1
theorem pad_wf {p : Int} {d : Drw} {ab un : Nat} (h : d.wf p) : (padD d ab un).wf p := by
  unfold padD
  split <;> split
  · exact ⟨ids_wf _, h, ids_wf _⟩
  · exact ⟨h, ids_wf _⟩
  · exact ⟨ids_wf _, h⟩
  · exact h
theorem ids_mid {s : Int} : ∀ n, (idsD n).mid s
  | 0 => True.intro
  | 1 => True.intro
  | n + 2 => ⟨True.intro, ids_mid (n + 1)⟩
theorem pad_mid {s : Int} {d : Drw} {ab un : Nat} (h : d.mid s) : (padD d ab un).mid s := by
  unfold padD
  split <;> split
  · exact ⟨ids_mid _, h, ids_mid _⟩
  · exact ⟨h, ids_mid _⟩
  · exact ⟨ids_mid _, h⟩
  · exact h
theorem pad_sides {d : Drw} {ab un : Nat} : (padD d ab un).lft = ab + d.lft + un ∧ (padD d ab un).rgt = d.rgt + ab + un := by
  unfold padD
  split <;> split <;> simp only [Drw.lft, Drw.rgt, Drw.sides, ids_sides] <;> omega
theorem pad_len {d : Drw} {ab un : Nat} : (padD d ab un).words.length ≤ d.words.length + 2 * ab + 2 * un + 4 := by
  have h1 := ids_len ab
  have h2 := ids_len un
  unfold padD
  split <;> split <;> simp only [Drw.words, List.length_cons, List.length_append] <;> omega
section
variable {P : Program} {w : World} {K : PySem.W.Frag} {mg : Str → Option Value} {base : Heap}
noncomputable def spPad (K : PySem.W.Frag) : Sp := fun vs H Q _ => ∃ (a b : Addr) (n : Nat) (d : Drw) (m : Nat), vs = [.ref a, .ref b, .int (m : Int)] ∧ Hand H a n ∧ n ≤ 800 ∧ DrwH K H b d ∧ d.lft ≤ m ∧ m ≤ 90 ∧ d.words.length ≤ 100 ∧
  ∀ v ab un H', ab + d.lft + un = m → SmT a H H' → Hand H' a (n + 1) → DrwH K H' v (padD d ab un) → Q (.ref v) H'
theorem scPd : FnScope ["hand", "box", "many", "words", "left", "right", "above", "under"] ["hand", "box", "many"] (defScope s_law_padded) := ⟨rfl, rfl, rfl, by decide +kernel, rfl, by decide +kernel, by decide +kernel⟩
noncomputable abbrev rGt : R2 := rI0 fun i j => .bl (decide (j < i))
noncomputable def tPd4 (K : PySem.W.Frag) : TE := tCat K (tCat K (tW1 "beside") (tVar 3)) (tCall (spIds K) [] E0 (tCons (tVar 7) tNil))
noncomputable def tPd5 (K : PySem.W.Frag) : TE := tCat K (tCat K (tW1 "beside") (tCall (spIds K) [] E0 (tCons (tVar 6) tNil))) (tVar 3)
noncomputable def tPad (K : PySem.W.Frag) : TS := tSeq (tAsg (tVar 1) (gTup K 3 (gCons (gName 3) (gCons (gName 4) (gCons (gName 5) gNil)))))
  (tSeq (tAsg (tDr 0 (tAddI (tSubI (tVar 2) (tVar 4)) (tC (.int 1)))) (gName 6))
  (tSeq (tAsg (tSubI (tSubI (tVar 2) (tVar 4)) (tVar 6)) (gName 7))
  (tSeq (tIfS (tTest (tOp rGt (tVar 7) (tC (.int 0)))) (tAsg (tPd4 K) (gName 3)) tNext)
  (tSeq (tIfS (tTest (tOp rGt (tVar 6) (tC (.int 0)))) (tAsg (tPd5 K) (gName 3)) tNext)
  (tRet (tTup (tCons (tVar 3) (tCons (tVar 2) (tCons (tAddI (tAddI (tVar 5) (tVar 6)) (tVar 7)) tNil)))))))))
theorem pad_read {D : Ends} {H : Hp} {a b : Addr} {n : Nat} {d : Drw} {m : Nat} (hH : Hand H a n) (hn : n ≤ 800) (hd : DrwH K H b d) (hl : d.lft ≤ m) (hm : m ≤ 90) (hw : d.words.length ≤ 100)
    (q : ∀ v ab un H', ab + d.lft + un = m → SmT a H H' → Hand H' a (n + 1) → DrwH K H' v (padD d ab un) → D.rt (.ref v) H') : tPad K D [some (.ref a), some (.ref b), some (.int (m : Int)), none, none, none, none, none] H := by
  obtain ⟨aw, h1, h2⟩ := hd
  unfold tPad
  refine seq_asgG ⟨_, rfl, gTrip_of h1 ?_⟩
  refine seq_asg ?_
  refine dr_read (lim := (m : Int) - (d.lft : Int) + 1) rfl (fun R h => intE_add (intE_sub (intE_v rfl) (intE_v rfl)) intE_c H (.refl _) _ h) hH (by omega) (by omega) (by omega) fun ab H1 j0 j1 s1 g1 => ?_
  obtain ⟨ab, rfl⟩ : ∃ k : Nat, ab = (k : Int) := ⟨ab.toNat, by omega⟩
  obtain ⟨un, hun⟩ : ∃ un : Nat, (m : Int) - (d.lft : Int) - (ab : Int) = (un : Int) := ⟨((m : Int) - (d.lft : Int) - (ab : Int)).toNat, by omega⟩
  have e : ab + d.lft + un = m := by omega
  refine seq_asg ?_
  refine intE_sub (i := (m : Int) - (d.lft : Int)) (j := (ab : Int)) (intE_sub (intE_v rfl) (intE_v rfl)) (intE_v rfl) H1 (.refl _) _ ?_
  rw [hun]
  have h2 := SmT.seqT s1 hH h2
  have li := ids_len ab
  have lu := ids_len un
  -- behind the first
  have rest : ∀ (d1 : Drw) (ws : Addr) (H2 : Hp), d1 = (if 0 < un then Drw.beside d (idsD un) else d) → d1.words.length ≤ 400 → Same H1 H2 → SqT K H2 ws d1.words →
      tSeq (tIfS (tTest (tOp rGt (tVar 6) (tC (.int 0)))) (tAsg (tPd5 K) (gName 3)) tNext) (tRet (tTup (tCons (tVar 3) (tCons (tVar 2) (tCons (tAddI (tAddI (tVar 5) (tVar 6)) (tVar 7)) tNil))))) D
        [some (.ref a), some (.ref b), some (.int (m : Int)), some (.ref ws), some (.int (d.lft : Int)), some (.int (d.rgt : Int)), some (.int (ab : Int)), some (.int (un : Int))] H2 := by
    intro d1 ws H2 ed1 hl1 s2 hws
    have ps := pad_sides (d := d) (ab := ab) (un := un)
    have fin : ∀ (ws' : Addr) (H3 : Hp), Same H1 H3 → SqT K H3 ws' (padD d ab un).words → tRet (tTup (tCons (tVar 3) (tCons (tVar 2) (tCons (tAddI (tAddI (tVar 5) (tVar 6)) (tVar 7)) tNil)))) D
        [some (.ref a), some (.ref b), some (.int (m : Int)), some (.ref ws'), some (.int (d.lft : Int)), some (.int (d.rgt : Int)), some (.int (ab : Int)), some (.int (un : Int))] H3 := by
      intro ws' H3 s3 hws'
      refine ret_of ?_
      refine drw_told (d := padD d ab un) (tplE_v rfl hws') (fun H' s' => ?_) (fun H' s' => ?_) fun v H4 s4 hv => q v ab un H4 e (SmT.trans s1 (Same.smt (s3.trans s4))) (g1.mono (s3.trans s4)) hv
      · rw [ps.1, e]
        exact intE_v rfl
      · rw [ps.2, show ((d.rgt + ab + un : Nat) : Int) = (d.rgt : Int) + (ab : Int) + (un : Int) by omega]
        exact intE_add (intE_add (intE_v rfl) (intE_v rfl)) (intE_v rfl)
    refine seq_if ⟨_, rfl, _, _, rfl, rfl, _, rfl, ?_⟩
    by_cases c : 0 < ab
    · rw [decide_eq_true (show (0 : Int) < (ab : Int) by omega)]
      refine iteT ?_
      refine tplE_cat (K := K) (tplE_cat tplE_1 (tplE_ids (m := ab) (intE_v rfl) (by omega)) ?_) (tplE_v rfl hws) ?_ H2 (.refl _) _ fun v H3 s3 hv => fin v H3 (s2.trans s3) ?_
      · show 1 + _ ≤ 10000
        omega
      · rw [List.length_append]
        show 1 + _ + _ ≤ 10000
        omega
      · unfold padD
        rw [if_pos c, ← ed1]
        show SqT K H3 v (.str "beside" :: ((idsD ab).words ++ d1.words))
        rw [List.append_assoc] at hv
        exact hv
    · rw [decide_eq_false (show ¬ (0 : Int) < (ab : Int) by omega)]
      refine iteF (fin ws H2 s2 ?_)
      unfold padD
      rw [if_neg c, ← ed1]
      exact hws
  refine seq_if ⟨_, rfl, _, _, rfl, rfl, _, rfl, ?_⟩
  by_cases c : 0 < un
  · rw [decide_eq_true (show (0 : Int) < (un : Int) by omega)]
    refine iteT ?_
    refine tplE_cat (K := K) (tplE_cat tplE_1 (tplE_v rfl h2) ?_) (tplE_ids (m := un) (intE_v rfl) (by omega)) ?_ H1 (.refl _) _ fun v H3 s3 hv => rest (.beside d (idsD un)) v H3 (by rw [if_pos c]) ?_ s3 ?_
    · show 1 + _ ≤ 10000
      omega
    · rw [List.length_append]
      show 1 + _ + _ ≤ 10000
      omega
    · simp only [Drw.words, List.length_cons, List.length_append]
      omega
    · show SqT K H3 v (.str "beside" :: (d.words ++ (idsD un).words))
      rw [List.append_assoc] at hv
      exact hv
  · rw [decide_eq_false (show ¬ (0 : Int) < (un : Int) by omega)]
    exact iteF (rest d aw H1 (by rw [if_neg c]) (by omega) (.refl _) h2)
end
end S21
namespace S21
open PySem L2 Bw
set_option maxHeartbeats 3900000
/-! ### tests that leave all as it is -/
noncomputable def BoolE (tt : TT) (σ : St) (H : Hp) (c : Bool) : Prop := ∀ H', Same H H' → ∀ R : Bool → Hp → Prop, R c H' → tt σ H' R
noncomputable abbrev rLe : R2 := rI0 fun i j => .bl (decide (i ≤ j))
noncomputable abbrev rLt : R2 := rI0 fun i j => .bl (decide (i < j))
noncomputable abbrev rMd : R2 := rI (fun _ j => 0 < j) fun i j => .int (i % j)
section
variable {K : PySem.W.Frag} {σ : St} {H : Hp}
theorem boolE_gt {ta tb : TE} {i j : Int} (h1 : IntE ta σ H i) (h2 : IntE tb σ H j) : BoolE (tTest (tOp rGt ta tb)) σ H (decide (j < i)) := fun H' s _ q => h1 H' s _ (h2 H' s _ ⟨i, j, rfl, rfl, _, rfl, q⟩)
theorem boolE_le {ta tb : TE} {i j : Int} (h1 : IntE ta σ H i) (h2 : IntE tb σ H j) : BoolE (tTest (tOp rLe ta tb)) σ H (decide (i ≤ j)) := fun H' s _ q => h1 H' s _ (h2 H' s _ ⟨i, j, rfl, rfl, _, rfl, q⟩)
theorem boolE_lt {ta tb : TE} {i j : Int} (h1 : IntE ta σ H i) (h2 : IntE tb σ H j) : BoolE (tTest (tOp rLt ta tb)) σ H (decide (i < j)) := fun H' s _ q => h1 H' s _ (h2 H' s _ ⟨i, j, rfl, rfl, _, rfl, q⟩)
theorem dec_int {i j : Int} : decide (V.int i = V.int j) = decide (i = j) := by simp
theorem boolE_eq {ta tb : TE} {i j : Int} (h1 : IntE ta σ H i) (h2 : IntE tb σ H j) : BoolE (tTest (tOp rEq ta tb)) σ H (decide (i = j)) := fun H' s _ q => h1 H' s _ (h2 H' s _ ⟨rfl, _, rfl, by rw [dec_int]; exact q⟩)
theorem boolE_ne {ta tb : TE} {i j : Int} (h1 : IntE ta σ H i) (h2 : IntE tb σ H j) : BoolE (tTest (tOp rNe ta tb)) σ H (!decide (i = j)) := fun H' s _ q => h1 H' s _ (h2 H' s _ ⟨rfl, _, rfl, by rw [dec_int]; exact q⟩)
theorem boolE_and {ta tb : TT} {c d : Bool} (h1 : BoolE ta σ H c) (h2 : BoolE tb σ H d) : BoolE (tAnd ta tb) σ H (c && d) := fun H' s R q => h1 H' s _ (by
  cases c with
  | true => exact iteT (h2 H' s _ q)
  | false => exact iteF q)
theorem boolE_or {ta tb : TT} {c d : Bool} (h1 : BoolE ta σ H c) (h2 : BoolE tb σ H d) : BoolE (tOr ta tb) σ H (c || d) := fun H' s R q => h1 H' s _ (by
  cases c with
  | true => exact iteT q
  | false => exact iteF (h2 H' s _ q))
theorem intE_mod {ta tb : TE} {i j : Int} (h1 : IntE ta σ H i) (h2 : IntE tb σ H j) (j0 : 0 < j) : IntE (tOp rMd ta tb) σ H (i % j) := fun H' s _ q => h1 H' s _ (h2 H' s _ ⟨i, j, rfl, rfl, j0, q⟩)
theorem ifB {c : Bool} {A B : Prop} (h1 : c = true → A) (h2 : c = false → B) : if c = true then A else B := by
  cases c with
  | true => exact iteT (h1 rfl)
  | false => exact iteF (h2 rfl)
end
section
variable {P : Program} {w : World} {K : PySem.W.Frag} {mg : Str → Option Value} {base : Heap}
theorem ok_pad {f fD fI : Addr} {fd fdD fdI : FuncData} (F : Fun K "_law_padded" "_law_padded" s_law_padded f fd)
    (GD : FnOk P w K mg base CX0 1 fD fdD ["hand", "limit"] spDrw) (kD : PySem.W.keepIn K (.ref fD) = true) (bD : Binds K fdD ["hand", "limit"] []) (mD : mg "_law_draw" = some (.ref fD))
    (GI : FnOk P w K mg base CX0 1 fI fdI ["many"] (spIds K)) (kI : PySem.W.keepIn K (.ref fI) = true) (bI : Binds K fdI ["many"] []) (mI : mg "_law_ids" = some (.ref fI)) : FnOk P w K mg base CX0 2 f fd ["hand", "box", "many"] (spPad K) := by
  refine F.ok scPd (fun vs H Q E h => ?_) (fun cdv A outer s H vs Q E hr h => ?_)
  · obtain ⟨a, b, n, d, m, rfl, _⟩ := h
    rfl
  · obtain ⟨a, b, n, d, m, rfl, hH, hn, hd, hl, hm, hw, q⟩ := h
    refine ⟨tPad K, ?_, ?_⟩
    · unfold tPad
      refine pss_cons ?_ ?_
      · exact ps_asg (pv 1) (pgTup (n := 3) K rfl rfl (pgs_cons (pg_name (i := 3) scPd.nd rfl (Or.inl rfl)) (pgs_cons (pg_name (i := 4) scPd.nd rfl (Or.inl rfl)) (pgs_cons (pg_name (i := 5) scPd.nd rfl (Or.inl rfl)) pgs_nil))))
      refine pss_cons ?_ ?_
      · exact ps_set (i := 6) scPd.nd rfl (Or.inl rfl) (pe_call GD hr rfl mD kD bD .nil pass0 (pa_cons (pv 0) (pa_cons (pe_op op_add (pe_op op_sub (pv 2) (pv 4)) pe_int) pa_nil)))
      refine pss_cons ?_ ?_
      · exact ps_set (i := 7) scPd.nd rfl (Or.inl rfl) (pe_op op_sub (pe_op op_sub (pv 2) (pv 4)) (pv 6))
      refine pss_cons ?_ ?_
      · refine ps_if ?_ ?_ pss_nil
        · exact pt_cmpR op_gt (pv 7) pe_int (nomark _)
        · refine pss_one ?_
          exact ps_set (i := 3) (te := tPd4 K) scPd.nd rfl (Or.inl rfl) (pe_op (opCatA K rfl) (pe_op (opCatA K rfl) (pe_tup (pa_cons pe_str pa_nil)) (pv 3)) (pe_call GI hr rfl mI kI bI .nil pass0 (pa_cons (pv 7) pa_nil)))
      refine pss_cons ?_ ?_
      · refine ps_if ?_ ?_ pss_nil
        · exact pt_cmpR op_gt (pv 6) pe_int (nomark _)
        · refine pss_one ?_
          exact ps_set (i := 3) (te := tPd5 K) scPd.nd rfl (Or.inl rfl) (pe_op (opCatA K rfl) (pe_op (opCatA K rfl) (pe_tup (pa_cons pe_str pa_nil)) (pe_call GI hr rfl mI kI bI .nil pass0 (pa_cons (pv 6) pa_nil))) (pv 3))
      refine pss_one ?_
      refine ps_ret (te := tTup (tCons (tVar 3) (tCons (tVar 2) (tCons (tAddI (tAddI (tVar 5) (tVar 6)) (tVar 7)) tNil)))) ?_
      exact pe_tup (pa_cons (pv 3) (pa_cons (pv 2) (pa_cons (pe_op op_add (pe_op op_add (pv 5) (pv 6)) (pv 7)) pa_nil)))
    · exact pad_read hH hn hd hl hm hw q
/-! ### _law_next -/
noncomputable def MidN (d d' : Drw) : Prop := ∀ s : Int, 2 ≤ s → d.mid s → (d.lft : Int) ≤ s → (d.rgt : Int) ≤ s → d'.mid s
noncomputable def spNext (K : PySem.W.Frag) : Sp := fun vs H Q _ => ∃ (a b : Addr) (n : Nat) (p : Int) (d : Drw), vs = [.ref a, .int p, .ref b] ∧ Hand H a n ∧ n ≤ 700 ∧ 2 ≤ p ∧ p ≤ 97 ∧ DrwH K H b d ∧ d.wf p ∧ d.lft ≤ 90 ∧ d.rgt ≤ 90 ∧ d.words.length ≤ 100 ∧
  ∀ v d' H' n', d'.wf p → MidN d d' → d'.words.length ≤ 500 → SmT a H H' → Hand H' a n' → n' ≤ n + 5 → DrwH K H' v d' → Q (.ref v) H'
theorem scNx : FnScope ["hand", "p", "here", "style", "words", "left", "right", "box", "far"] ["hand", "p", "here"] (defScope s_law_next) := ⟨rfl, rfl, rfl, by decide +kernel, rfl, by decide +kernel, by decide +kernel⟩
noncomputable abbrev tSt (i : Int) : TT := tTest (tOp rEq (tOp rMd (tVar 3) (tC (.int 2))) (tC (.int i)))
noncomputable def tNc1 (K : PySem.W.Frag) : TT := tAnd (tTest (tOp rGt (tVar 3) (tC (.int 3)))) (tAnd (tSt 0) (tTest (tOp rLe (tIx K 7 1) (tVar 6))))
noncomputable def tNc2 (K : PySem.W.Frag) : TT := tAnd (tTest (tOp rGt (tVar 3) (tC (.int 3)))) (tAnd (tSt 1) (tTest (tOp rLe (tIx K 7 1) (tVar 5))))
noncomputable abbrev tDrwT (ta tb tc : TE) : TE := tTup (tCons ta (tCons tb (tCons tc tNil)))
noncomputable def tNe1 (K : PySem.W.Frag) : TE := tDrwT (tCat K (tW1 "back") (tVar 4)) (tVar 6) (tVar 5)
noncomputable def tNe2 (K : PySem.W.Frag) : TE := tDrwT (tCat K (tCat K (tW1 "then") (tVar 4)) (tIx K 8 0)) (tVar 5) (tIx K 8 2)
noncomputable def tNe3 (K : PySem.W.Frag) : TE := tDrwT (tCat K (tCat K (tW2 "then" "back") (tIx K 8 0)) (tVar 4)) (tIx K 8 2) (tVar 6)
noncomputable def tNe4 (K : PySem.W.Frag) : TE := tDrwT (tCat K (tCat K (tW1 "beside") (tVar 4)) (tIx K 7 0)) (tAddI (tVar 5) (tIx K 7 1)) (tAddI (tVar 6) (tIx K 7 2))
noncomputable def tNe5 (K : PySem.W.Frag) : TE := tDrwT (tCat K (tCat K (tW1 "beside") (tIx K 7 0)) (tVar 4)) (tAddI (tVar 5) (tIx K 7 1)) (tAddI (tVar 6) (tIx K 7 2))
noncomputable def tPdC (K : PySem.W.Frag) (i : Nat) : TE := tCall (spPad K) [] E0 (tCons (tVar 0) (tCons (tVar 7) (tCons (tVar i) tNil)))
noncomputable def tNext2 (K : PySem.W.Frag) : TS := tSeq (tAsg (tDr 0 (tC (.int 9))) (gName 3)) (tSeq (tAsg (tVar 2) (gTup K 3 (gCons (gName 4) (gCons (gName 5) (gCons (gName 6) gNil)))))
  (tSeq (tAsg (tCall (spBox K) [] E0 (tCons (tVar 0) (tCons (tVar 1) tNil))) (gName 7))
  (tSeq (tIfS (tTest (tOp rEq (tVar 3) (tC (.int 0)))) (tRet (tNe1 K)) tNext)
  (tSeq (tIfS (tNc1 K) (tSeq (tAsg (tPdC K 6) (gName 8)) (tRet (tNe2 K))) tNext)
  (tSeq (tIfS (tNc2 K) (tSeq (tAsg (tPdC K 5) (gName 8)) (tRet (tNe3 K))) tNext)
  (tSeq (tIfS (tSt 0) (tRet (tNe4 K)) tNext) (tRet (tNe5 K))))))))
theorem next_read {D : Ends} {H : Hp} {a b : Addr} {n : Nat} {p : Int} {d : Drw} (hH : Hand H a n) (hn : n ≤ 700) (p2 : 2 ≤ p) (p97 : p ≤ 97) (hd : DrwH K H b d) (hwf : d.wf p) (hl : d.lft ≤ 90) (hr : d.rgt ≤ 90) (hw : d.words.length ≤ 100)
    (q : ∀ v d' H' n', d'.wf p → MidN d d' → d'.words.length ≤ 500 → SmT a H H' → Hand H' a n' → n' ≤ n + 5 → DrwH K H' v d' → D.rt (.ref v) H') : tNext2 K D [some (.ref a), some (.int p), some (.ref b), none, none, none, none, none, none] H := by
  unfold tNext2
  refine seq_asg ?_
  refine dr_read rfl (fun R h => h) hH (by omega) (by decide) (by decide) fun st H1 j0 j1 s1 g1 => ?_
  obtain ⟨aw, hd1, hd2⟩ := hd.smt hH s1
  refine seq_asgG ⟨_, rfl, gTrip_of hd1 ?_⟩
  refine seq_asg ⟨_, rfl, _, rfl, a, n + 1, p, rfl, g1, by omega, p2, p97, fun bx e H2 n2 ewf el ell elr s2 g2 hn2 hbx => ?_⟩
  have hd2 := SmT.seqT s2 g1 hd2
  have sA := SmT.trans s1 s2
  obtain ⟨bw, hb1, hb2⟩ := id hbx
  refine seq_if ?_
  refine boolE_eq (i := st) (j := 0) (intE_v rfl) intE_c H2 (.refl _) _ (ifB (fun _ => ?_) fun _ => ?_)
  · refine ret_of ?_
    refine drw_told (d := .back d) (tplE_cat tplE_1 (tplE_v rfl hd2) (by show 1 + _ ≤ 10000; omega)) (fun H' s' => intE_v rfl) (fun H' s' => intE_v rfl) fun v H3 s3 hv => q v (.back d) H3 n2 hwf (fun _ _ h _ _ => h) (by simp only [Drw.words, List.length_cons]; omega) (SmT.trans sA (Same.smt s3)) (g2.mono s3) (by omega) hv
  refine seq_if ?_
  refine boolE_and (boolE_gt (i := st) (j := 3) (intE_v rfl) intE_c) (boolE_and (boolE_eq (intE_mod (intE_v rfl) intE_c (by decide)) intE_c) (boolE_le (i := (e.lft : Int)) (j := (d.rgt : Int)) (intE_ix (j := 1) rfl hb1 rfl) (intE_v rfl))) H2 (.refl _) _ (ifB (fun c => ?_) fun _ => ?_)
  · simp only [Bool.and_eq_true, decide_eq_true_eq] at c
    refine seq_asg ⟨_, rfl, _, rfl, _, rfl, a, bx, n2, e, d.rgt, rfl, g2, by omega, hbx, by omega, hr, by omega, fun v ab un H3 esum s3 g3 hv => ?_⟩
    obtain ⟨vw, hv1, hv2⟩ := id hv
    have hd3 := SmT.seqT s3 g2 hd2
    have ps := pad_sides (d := e) (ab := ab) (un := un)
    have pl := pad_len (d := e) (ab := ab) (un := un)
    refine ret_of ?_
    refine drw_told (d := .thn d (padD e ab un)) (tplE_cat (tplE_cat tplE_1 (tplE_v rfl hd3) (by show 1 + _ ≤ 10000; omega)) (tplE_ix (j := 0) rfl hv1 rfl hv2) ?_) (fun H' s' => intE_v rfl) (fun H' s' => intE_ix (j := 2) rfl (s'.seqT hv1) rfl) fun u H4 s4 hu => q u (.thn d (padD e ab un)) H4 (n2 + 1) ⟨hwf, pad_wf ewf, ?_⟩ (fun s s2 h _ h2 => ⟨h, pad_mid (Drw.mid_box s2 ewf el), h2⟩) ?_ (SmT.trans sA (SmT.trans s3 (Same.smt s4))) (g3.mono s4) (by omega) hu
    · rw [List.length_append]
      show 1 + _ + _ ≤ 10000
      omega
    · rw [ps.1, esum]
    · simp only [Drw.words, List.length_cons, List.length_append]
      omega
  refine seq_if ?_
  refine boolE_and (boolE_gt (i := st) (j := 3) (intE_v rfl) intE_c) (boolE_and (boolE_eq (intE_mod (intE_v rfl) intE_c (by decide)) intE_c) (boolE_le (i := (e.lft : Int)) (j := (d.lft : Int)) (intE_ix (j := 1) rfl hb1 rfl) (intE_v rfl))) H2 (.refl _) _ (ifB (fun c => ?_) fun _ => ?_)
  · simp only [Bool.and_eq_true, decide_eq_true_eq] at c
    refine seq_asg ⟨_, rfl, _, rfl, _, rfl, a, bx, n2, e, d.lft, rfl, g2, by omega, hbx, by omega, hl, by omega, fun v ab un H3 esum s3 g3 hv => ?_⟩
    obtain ⟨vw, hv1, hv2⟩ := id hv
    have hd3 := SmT.seqT s3 g2 hd2
    have ps := pad_sides (d := e) (ab := ab) (un := un)
    have pl := pad_len (d := e) (ab := ab) (un := un)
    refine ret_of ?_
    refine drw_told (d := .thn (.back (padD e ab un)) d) (tplE_cat (tplE_cat tplE_2 (tplE_ix (j := 0) rfl hv1 rfl hv2) (by show 2 + _ ≤ 10000; omega)) (tplE_v rfl hd3) ?_) (fun H' s' => intE_ix (j := 2) rfl (s'.seqT hv1) rfl) (fun H' s' => intE_v rfl) fun u H4 s4 hu => q u (.thn (.back (padD e ab un)) d) H4 (n2 + 1) ⟨pad_wf ewf, hwf, ?_⟩ (fun s s2 h h1 _ => ⟨pad_mid (Drw.mid_box s2 ewf el), h, by show ((padD e ab un).lft : Int) ≤ s; rw [ps.1, esum]; exact h1⟩) ?_ (SmT.trans sA (SmT.trans s3 (Same.smt s4))) (g3.mono s4) (by omega) hu
    · rw [List.length_append]
      show 2 + _ + _ ≤ 10000
      omega
    · show (padD e ab un).lft = _
      rw [ps.1, esum]
    · simp only [Drw.words, List.length_cons, List.length_append]
      omega
  refine seq_if ?_
  refine boolE_eq (intE_mod (i := st) (j := 2) (intE_v rfl) intE_c (by decide)) intE_c H2 (.refl _) _ (ifB (fun _ => ?_) fun _ => ?_)
  · refine ret_of ?_
    refine drw_told (d := .beside d e) (tplE_cat (tplE_cat tplE_1 (tplE_v rfl hd2) (by show 1 + _ ≤ 10000; omega)) (tplE_ix (j := 0) rfl hb1 rfl hb2) ?_) (fun H' s' => ?_) (fun H' s' => ?_) fun v H3 s3 hv => q v (.beside d e) H3 n2 ⟨hwf, ewf⟩ (fun s s2 h _ _ => ⟨h, Drw.mid_box s2 ewf el⟩) (by simp only [Drw.words, List.length_cons, List.length_append]; omega) (SmT.trans sA (Same.smt s3)) (g2.mono s3) (by omega) hv
    · rw [List.length_append]
      show 1 + _ + _ ≤ 10000
      omega
    · rw [show (((Drw.beside d e).lft : Nat) : Int) = (d.lft : Int) + (e.lft : Int) by show ((d.lft + e.lft : Nat) : Int) = _; omega]
      exact intE_add (intE_v rfl) (intE_ix (j := 1) rfl (s'.seqT hb1) rfl)
    · rw [show (((Drw.beside d e).rgt : Nat) : Int) = (d.rgt : Int) + (e.rgt : Int) by show ((d.rgt + e.rgt : Nat) : Int) = _; omega]
      exact intE_add (intE_v rfl) (intE_ix (j := 2) rfl (s'.seqT hb1) rfl)
  · refine ret_of ?_
    refine drw_told (d := .beside e d) (tplE_cat (tplE_cat tplE_1 (tplE_ix (j := 0) rfl hb1 rfl hb2) (by show 1 + _ ≤ 10000; omega)) (tplE_v rfl hd2) ?_) (fun H' s' => ?_) (fun H' s' => ?_) fun v H3 s3 hv => q v (.beside e d) H3 n2 ⟨ewf, hwf⟩ (fun s s2 h _ _ => ⟨Drw.mid_box s2 ewf el, h⟩) (by simp only [Drw.words, List.length_cons, List.length_append]; omega) (SmT.trans sA (Same.smt s3)) (g2.mono s3) (by omega) hv
    · rw [List.length_append]
      show 1 + _ + _ ≤ 10000
      omega
    · rw [show (((Drw.beside e d).lft : Nat) : Int) = (d.lft : Int) + (e.lft : Int) by show ((e.lft + d.lft : Nat) : Int) = _; omega]
      exact intE_add (intE_v rfl) (intE_ix (j := 1) rfl (s'.seqT hb1) rfl)
    · rw [show (((Drw.beside e d).rgt : Nat) : Int) = (d.rgt : Int) + (e.rgt : Int) by show ((e.rgt + d.rgt : Nat) : Int) = _; omega]
      exact intE_add (intE_v rfl) (intE_ix (j := 2) rfl (s'.seqT hb1) rfl)
end
end S21
namespace S21
open PySem L2 Bw
set_option maxHeartbeats 3900000
section
variable {P : Program} {w : World} {K : PySem.W.Frag} {mg : Str → Option Value} {base : Heap}
theorem pe_drwT {X : Cx} {a b c : Expr} {k : Nat} {pos : Pos} {ta tb tc : TE} (h1 : PE X a ta) (h2 : PE X b tb) (h3 : PE X c tc) (s1 : starEach [a, b, c] X.env = (false, eval a X.env) :: starEach [b, c] X.env) (s2 : starEach [b, c] X.env = (false, eval b X.env) :: starEach [c] X.env) (s3 : starEach [c] X.env = (false, eval c X.env) :: starEach [] X.env) : PE X (.Tuple [a, b, c] k pos) (tDrwT ta tb tc) :=
  pe_tup (pa_cons h1 (pa_cons h2 (pa_cons h3 pa_nil s3) s2) s1)
theorem ok_next {f fD fB fI : Addr} {fd fdD fdB fdI : FuncData} (F : Fun K "_law_next" "_law_next" s_law_next f fd)
    (GD : FnOk P w K mg base CX0 1 fD fdD ["hand", "limit"] spDrw) (kD : PySem.W.keepIn K (.ref fD) = true) (bD : Binds K fdD ["hand", "limit"] []) (mD : mg "_law_draw" = some (.ref fD))
    (GB : FnOk P w K mg base CX0 2 fB fdB ["hand", "p"] (spBox K)) (kB : PySem.W.keepIn K (.ref fB) = true) (bB : Binds K fdB ["hand", "p"] []) (mB : mg "_law_box" = some (.ref fB))
    (GI : FnOk P w K mg base CX0 2 fI fdI ["hand", "box", "many"] (spPad K)) (kI : PySem.W.keepIn K (.ref fI) = true) (bI : Binds K fdI ["hand", "box", "many"] []) (mI : mg "_law_padded" = some (.ref fI)) : FnOk P w K mg base CX0 3 f fd ["hand", "p", "here"] (spNext K) := by
  refine F.ok scNx (fun vs H Q E h => ?_) (fun cdv A outer s H vs Q E hr h => ?_)
  · obtain ⟨a, b, n, p, d, rfl, _⟩ := h
    rfl
  · obtain ⟨a, b, n, p, d, rfl, hH, hn, p2, p97, hd, hwf, hl, hr', hw, q⟩ := h
    have hr1 : Room 1 _ := hr.mono (by decide)
    refine ⟨tNext2 K, ?_, ?_⟩
    · unfold tNext2
      refine pss_cons ?_ ?_
      · exact ps_set (i := 3) scNx.nd rfl (Or.inl rfl) (pe_call GD hr1 rfl mD kD bD .nil pass0 (pa_cons (pv 0) (pa_cons pe_int pa_nil)))
      refine pss_cons ?_ ?_
      · exact ps_asg (pv 2) (pgTup (n := 3) K rfl rfl (pgs_cons (pg_name (i := 4) scNx.nd rfl (Or.inl rfl)) (pgs_cons (pg_name (i := 5) scNx.nd rfl (Or.inl rfl)) (pgs_cons (pg_name (i := 6) scNx.nd rfl (Or.inl rfl)) pgs_nil))))
      refine pss_cons ?_ ?_
      · exact ps_set (i := 7) scNx.nd rfl (Or.inl rfl) (pe_call GB hr rfl mB kB bB .nil pass0 (pa_cons (pv 0) (pa_cons (pv 1) pa_nil)))
      refine pss_cons ?_ ?_
      · refine ps_if ?_ ?_ pss_nil
        · exact pt_cmpR op_eq (pv 3) pe_int (nomark _)
        · refine pss_one ?_
          refine ps_ret (te := tNe1 K) ?_
          unfold tNe1
          refine pe_drwT ?_ ?_ ?_ ?_ ?_ ?_
          · exact pe_op (opCatA K rfl) (pe_tup (pa_cons pe_str pa_nil)) (pv 4)
          · exact pv 6
          · exact pv 5
          · rfl
          · rfl
          · rfl
      refine pss_cons ?_ ?_
      · refine ps_if ?_ ?_ pss_nil
        · unfold tNc1
          refine PW.pt (pw_and ?_ (pw_and ?_ (pw_and1 ?_)))
          · exact pt_cmpR op_gt (pv 3) pe_int (nomark _)
          · exact pt_cmpR op_eq (pe_op op_mod (pv 3) pe_int) pe_int (nomark _)
          · exact pt_cmpR op_le (pe_ix (ixT K rfl) (pv 7) pe_int (fun _ _ => rfl)) (pv 6) (nomark _)
        · refine pss_cons ?_ ?_
          · exact ps_set (i := 8) (te := tPdC K 6) scNx.nd rfl (Or.inl rfl) (pe_call GI hr rfl mI kI bI .nil pass0 (pa_cons (pv 0) (pa_cons (pv 7) (pa_cons (pv 6) pa_nil))))
          · refine pss_one ?_
            refine ps_ret (te := tNe2 K) ?_
            unfold tNe2
            refine pe_drwT ?_ ?_ ?_ ?_ ?_ ?_
            · exact pe_op (opCatA K rfl) (pe_op (opCatA K rfl) (pe_tup (pa_cons pe_str pa_nil)) (pv 4)) (pe_ix (ixT K rfl) (pv 8) pe_int (fun _ _ => rfl))
            · exact pv 5
            · exact pe_ix (ixT K rfl) (pv 8) pe_int (fun _ _ => rfl)
            · rfl
            · rfl
            · rfl
      refine pss_cons ?_ ?_
      · refine ps_if ?_ ?_ pss_nil
        · unfold tNc2
          refine PW.pt (pw_and ?_ (pw_and ?_ (pw_and1 ?_)))
          · exact pt_cmpR op_gt (pv 3) pe_int (nomark _)
          · exact pt_cmpR op_eq (pe_op op_mod (pv 3) pe_int) pe_int (nomark _)
          · exact pt_cmpR op_le (pe_ix (ixT K rfl) (pv 7) pe_int (fun _ _ => rfl)) (pv 5) (nomark _)
        · refine pss_cons ?_ ?_
          · exact ps_set (i := 8) (te := tPdC K 5) scNx.nd rfl (Or.inl rfl) (pe_call GI hr rfl mI kI bI .nil pass0 (pa_cons (pv 0) (pa_cons (pv 7) (pa_cons (pv 5) pa_nil))))
          · refine pss_one ?_
            refine ps_ret (te := tNe3 K) ?_
            unfold tNe3
            refine pe_drwT ?_ ?_ ?_ ?_ ?_ ?_
            · exact pe_op (opCatA K rfl) (pe_op (opCatA K rfl) (pe_tup (pa_cons pe_str (pa_cons pe_str pa_nil))) (pe_ix (ixT K rfl) (pv 8) pe_int (fun _ _ => rfl))) (pv 4)
            · exact pe_ix (ixT K rfl) (pv 8) pe_int (fun _ _ => rfl)
            · exact pv 6
            · rfl
            · rfl
            · rfl
      refine pss_cons ?_ ?_
      · refine ps_if ?_ ?_ pss_nil
        · exact pt_cmpR op_eq (pe_op op_mod (pv 3) pe_int) pe_int (nomark _)
        · refine pss_one ?_
          refine ps_ret (te := tNe4 K) ?_
          unfold tNe4
          refine pe_drwT ?_ ?_ ?_ ?_ ?_ ?_
          · exact pe_op (opCatA K rfl) (pe_op (opCatA K rfl) (pe_tup (pa_cons pe_str pa_nil)) (pv 4)) (pe_ix (ixT K rfl) (pv 7) pe_int (fun _ _ => rfl))
          · exact pe_op op_add (pv 5) (pe_ix (ixT K rfl) (pv 7) pe_int (fun _ _ => rfl))
          · exact pe_op op_add (pv 6) (pe_ix (ixT K rfl) (pv 7) pe_int (fun _ _ => rfl))
          · rfl
          · rfl
          · rfl
      refine pss_one ?_
      refine ps_ret (te := tNe5 K) ?_
      unfold tNe5
      refine pe_drwT ?_ ?_ ?_ ?_ ?_ ?_
      · exact pe_op (opCatA K rfl) (pe_op (opCatA K rfl) (pe_tup (pa_cons pe_str pa_nil)) (pe_ix (ixT K rfl) (pv 7) pe_int (fun _ _ => rfl))) (pv 4)
      · exact pe_op op_add (pv 5) (pe_ix (ixT K rfl) (pv 7) pe_int (fun _ _ => rfl))
      · exact pe_op op_add (pv 6) (pe_ix (ixT K rfl) (pv 7) pe_int (fun _ _ => rfl))
      · rfl
      · rfl
      · rfl
    · exact next_read hH hn p2 p97 hd hwf hl hr' hw q
/-! ### _law_joined -/
noncomputable def MidJ (d e d' : Drw) : Prop := ∀ s : Int, d.mid s → e.mid s → (d.lft : Int) ≤ s → (d.rgt : Int) ≤ s → d'.mid s
noncomputable def spJoin (K : PySem.W.Frag) : Sp := fun vs H Q _ => ∃ (a b c : Addr) (n : Nat) (p : Int) (d e : Drw), vs = [.ref a, .ref b, .ref c] ∧ Hand H a n ∧ n ≤ 700 ∧ DrwH K H b d ∧ DrwH K H c e ∧ d.wf p ∧ e.wf p ∧ d.words.length ≤ 100 ∧ e.words.length ≤ 100 ∧
  ∀ v d' H', d'.wf p → MidJ d e d' → d'.words.length ≤ 500 → SmT a H H' → Hand H' a (n + 1) → DrwH K H' v d' → Q (.ref v) H'
theorem scJo : FnScope ["hand", "one", "other", "style"] ["hand", "one", "other"] (defScope s_law_joined) := ⟨rfl, rfl, rfl, by decide +kernel, rfl, by decide +kernel, by decide +kernel⟩
noncomputable abbrev tNeq (K : PySem.W.Frag) (i j : Int) : TT := tTest (tOp rNe (tIx K 1 i) (tIx K 2 j))
noncomputable def tJc1 (K : PySem.W.Frag) : TT := tOr (tTest (tOp rEq (tVar 3) (tC (.int 0)))) (tAnd (tNeq K 2 1) (tAnd (tNeq K 2 2) (tNeq K 1 1)))
noncomputable def tJe1 (K : PySem.W.Frag) : TE := tDrwT (tCat K (tCat K (tW1 "beside") (tIx K 1 0)) (tIx K 2 0)) (tAddI (tIx K 1 1) (tIx K 2 1)) (tAddI (tIx K 1 2) (tIx K 2 2))
noncomputable def tJe2 (K : PySem.W.Frag) : TE := tDrwT (tCat K (tCat K (tW1 "then") (tIx K 1 0)) (tIx K 2 0)) (tIx K 1 1) (tIx K 2 2)
noncomputable def tJe3 (K : PySem.W.Frag) : TE := tDrwT (tCat K (tCat K (tCat K (tW1 "then") (tIx K 1 0)) (tW1 "back")) (tIx K 2 0)) (tIx K 1 1) (tIx K 2 1)
noncomputable def tJe4 (K : PySem.W.Frag) : TE := tDrwT (tCat K (tCat K (tW2 "then" "back") (tIx K 1 0)) (tIx K 2 0)) (tIx K 1 2) (tIx K 2 2)
noncomputable def tJoin (K : PySem.W.Frag) : TS := tSeq (tAsg (tDr 0 (tC (.int 4))) (gName 3)) (tSeq (tIfS (tJc1 K) (tRet (tJe1 K)) tNext)
  (tSeq (tIfS (tTest (tOp rEq (tIx K 1 2) (tIx K 2 1))) (tRet (tJe2 K)) tNext) (tSeq (tIfS (tTest (tOp rEq (tIx K 1 2) (tIx K 2 2))) (tRet (tJe3 K)) tNext) (tRet (tJe4 K)))))
theorem join_read {D : Ends} {H : Hp} {a b c : Addr} {n : Nat} {p : Int} {d e : Drw} (hH : Hand H a n) (hn : n ≤ 700) (hd : DrwH K H b d) (he : DrwH K H c e) (dwf : d.wf p) (ewf : e.wf p) (hw : d.words.length ≤ 100) (hw' : e.words.length ≤ 100)
    (q : ∀ v d' H', d'.wf p → MidJ d e d' → d'.words.length ≤ 500 → SmT a H H' → Hand H' a (n + 1) → DrwH K H' v d' → D.rt (.ref v) H') : tJoin K D [some (.ref a), some (.ref b), some (.ref c), none] H := by
  unfold tJoin
  refine seq_asg ?_
  refine dr_read rfl (fun R h => h) hH (by omega) (by decide) (by decide) fun st H1 j0 j1 s1 g1 => ?_
  obtain ⟨dw, hd1, hd2⟩ := hd.smt hH s1
  obtain ⟨ew, he1, he2⟩ := he.smt hH s1
  have fin : ∀ (d' : Drw) v H3, d'.wf p → MidJ d e d' → d'.words.length ≤ 500 → Same H1 H3 → DrwH K H3 v d' → D.rt (.ref v) H3 := fun d' v H3 a1 a0 a2 s3 hv => q v d' H3 a1 a0 a2 (SmT.trans s1 (Same.smt s3)) (g1.mono s3) hv
  have I1 : ∀ {σ : St} {H' : Hp} {i : Nat}, σ[i]? = some (some (.ref b)) → Same H1 H' → IntE (tIx K i 1) σ H' (d.lft : Int) := fun h s => intE_ix (j := 1) h (s.seqT hd1) rfl
  have I2 : ∀ {σ : St} {H' : Hp} {i : Nat}, σ[i]? = some (some (.ref b)) → Same H1 H' → IntE (tIx K i 2) σ H' (d.rgt : Int) := fun h s => intE_ix (j := 2) h (s.seqT hd1) rfl
  have J1 : ∀ {σ : St} {H' : Hp} {i : Nat}, σ[i]? = some (some (.ref c)) → Same H1 H' → IntE (tIx K i 1) σ H' (e.lft : Int) := fun h s => intE_ix (j := 1) h (s.seqT he1) rfl
  have J2 : ∀ {σ : St} {H' : Hp} {i : Nat}, σ[i]? = some (some (.ref c)) → Same H1 H' → IntE (tIx K i 2) σ H' (e.rgt : Int) := fun h s => intE_ix (j := 2) h (s.seqT he1) rfl
  have I0 : ∀ {σ : St} {i : Nat}, σ[i]? = some (some (.ref b)) → TplE K (tIx K i 0) σ H1 d.words := fun h => tplE_ix (j := 0) h hd1 rfl hd2
  have J0 : ∀ {σ : St} {i : Nat}, σ[i]? = some (some (.ref c)) → TplE K (tIx K i 0) σ H1 e.words := fun h => tplE_ix (j := 0) h he1 rfl he2
  refine seq_if ?_
  refine boolE_or (boolE_eq (i := st) (j := 0) (intE_v rfl) intE_c) (boolE_and (boolE_ne (I2 rfl (.refl _)) (J1 rfl (.refl _))) (boolE_and (boolE_ne (I2 rfl (.refl _)) (J2 rfl (.refl _))) (boolE_ne (I1 rfl (.refl _)) (J1 rfl (.refl _))))) H1 (.refl _) _ (ifB (fun _ => ?_) fun c1 => ?_)
  · refine ret_of ?_
    refine drw_told (d := .beside d e) (tplE_cat (tplE_cat tplE_1 (I0 rfl) (by show 1 + _ ≤ 10000; omega)) (J0 rfl) ?_) (fun H' s' => ?_) (fun H' s' => ?_) fun v H3 s3 hv => fin (.beside d e) v H3 ⟨dwf, ewf⟩ (fun s h h' _ _ => ⟨h, h'⟩) (by simp only [Drw.words, List.length_cons, List.length_append]; omega) s3 hv
    · rw [List.length_append]
      show 1 + _ + _ ≤ 10000
      omega
    · rw [show (((Drw.beside d e).lft : Nat) : Int) = (d.lft : Int) + (e.lft : Int) by show ((d.lft + e.lft : Nat) : Int) = _; omega]
      exact intE_add (I1 rfl s') (J1 rfl s')
    · rw [show (((Drw.beside d e).rgt : Nat) : Int) = (d.rgt : Int) + (e.rgt : Int) by show ((d.rgt + e.rgt : Nat) : Int) = _; omega]
      exact intE_add (I2 rfl s') (J2 rfl s')
  refine seq_if ?_
  refine boolE_eq (I2 rfl (.refl _)) (J1 rfl (.refl _)) H1 (.refl _) _ (ifB (fun c2 => ?_) fun c2 => ?_)
  · rw [decide_eq_true_eq] at c2
    refine ret_of ?_
    refine drw_told (d := .thn d e) (tplE_cat (tplE_cat tplE_1 (I0 rfl) (by show 1 + _ ≤ 10000; omega)) (J0 rfl) ?_) (fun H' s' => I1 rfl s') (fun H' s' => J2 rfl s') fun v H3 s3 hv => fin (.thn d e) v H3 ⟨dwf, ewf, by omega⟩ (fun s h h' _ h2 => ⟨h, h', h2⟩) (by simp only [Drw.words, List.length_cons, List.length_append]; omega) s3 hv
    rw [List.length_append]
    show 1 + _ + _ ≤ 10000
    omega
  refine seq_if ?_
  refine boolE_eq (I2 rfl (.refl _)) (J2 rfl (.refl _)) H1 (.refl _) _ (ifB (fun c3 => ?_) fun c3 => ?_)
  · rw [decide_eq_true_eq] at c3
    refine ret_of ?_
    refine drw_told (d := .thn d (.back e)) (fun H' s' R q' => tplE_cat (tplE_cat (tplE_cat tplE_1 (I0 rfl) (by show 1 + _ ≤ 10000; omega)) tplE_1 ?_) (J0 rfl) ?_ H' s' R fun v H'' s'' hv => q' v H'' s'' ?_) (fun H' s' => I1 rfl s') (fun H' s' => J1 rfl s') fun v H3 s3 hv => fin (.thn d (.back e)) v H3 ⟨dwf, ewf, by show d.rgt = e.rgt; omega⟩ (fun s h h' _ h2 => ⟨h, h', h2⟩) (by simp only [Drw.words, List.length_cons, List.length_append]; omega) s3 hv
    · rw [List.length_append]
      show 1 + _ + 1 ≤ 10000
      omega
    · rw [List.length_append, List.length_append]
      show 1 + _ + 1 + _ ≤ 10000
      omega
    · show SqT K H'' v (.str "then" :: (d.words ++ .str "back" :: e.words))
      rw [List.append_assoc, List.append_assoc] at hv
      exact hv
  · refine ret_of ?_
    have c4 : d.lft = e.lft := by
      simp only [Bool.or_eq_false_iff, Bool.and_eq_false_iff, Bool.not_eq_false', decide_eq_true_eq, decide_eq_false_iff_not] at c1 c2 c3
      omega
    refine drw_told (d := .thn (.back d) e) (tplE_cat (tplE_cat tplE_2 (I0 rfl) (by show 2 + _ ≤ 10000; omega)) (J0 rfl) ?_) (fun H' s' => I2 rfl s') (fun H' s' => J2 rfl s') fun v H3 s3 hv => fin (.thn (.back d) e) v H3 ⟨dwf, ewf, c4⟩ (fun s h h' h1 _ => ⟨h, h', h1⟩) (by simp only [Drw.words, List.length_cons, List.length_append]; omega) s3 hv
    rw [List.length_append]
    show 2 + _ + _ ≤ 10000
    omega
theorem ok_join {f fD : Addr} {fd fdD : FuncData} (F : Fun K "_law_joined" "_law_joined" s_law_joined f fd)
    (GD : FnOk P w K mg base CX0 1 fD fdD ["hand", "limit"] spDrw) (kD : PySem.W.keepIn K (.ref fD) = true) (bD : Binds K fdD ["hand", "limit"] []) (mD : mg "_law_draw" = some (.ref fD)) : FnOk P w K mg base CX0 2 f fd ["hand", "one", "other"] (spJoin K) := by
  refine F.ok scJo (fun vs H Q E h => ?_) (fun cdv A outer s H vs Q E hr h => ?_)
  · obtain ⟨a, b, c, n, p, d, e, rfl, _⟩ := h
    rfl
  · obtain ⟨a, b, c, n, p, d, e, rfl, hH, hn, hd, he, dwf, ewf, hw, hw', q⟩ := h
    refine ⟨tJoin K, ?_, ?_⟩
    · unfold tJoin
      refine pss_cons ?_ ?_
      · exact ps_set (i := 3) scJo.nd rfl (Or.inl rfl) (pe_call GD hr rfl mD kD bD .nil pass0 (pa_cons (pv 0) (pa_cons pe_int pa_nil)))
      refine pss_cons ?_ ?_
      · refine ps_if ?_ ?_ pss_nil
        · unfold tJc1
          refine PW.pt (pw_or ?_ (pw_or1 (PW.pt (pw_and ?_ (pw_and ?_ (pw_and1 ?_))))))
          · exact pt_cmpR op_eq (pv 3) pe_int (nomark _)
          · exact pt_cmpR op_ne (pe_ix (ixT K rfl) (pv 1) pe_int (fun _ _ => rfl)) (pe_ix (ixT K rfl) (pv 2) pe_int (fun _ _ => rfl)) (nomark _)
          · exact pt_cmpR op_ne (pe_ix (ixT K rfl) (pv 1) pe_int (fun _ _ => rfl)) (pe_ix (ixT K rfl) (pv 2) pe_int (fun _ _ => rfl)) (nomark _)
          · exact pt_cmpR op_ne (pe_ix (ixT K rfl) (pv 1) pe_int (fun _ _ => rfl)) (pe_ix (ixT K rfl) (pv 2) pe_int (fun _ _ => rfl)) (nomark _)
        · refine pss_one ?_
          refine ps_ret (te := tJe1 K) ?_
          unfold tJe1
          refine pe_drwT ?_ ?_ ?_ ?_ ?_ ?_
          · exact pe_op (opCatA K rfl) (pe_op (opCatA K rfl) (pe_tup (pa_cons pe_str pa_nil)) (pe_ix (ixT K rfl) (pv 1) pe_int (fun _ _ => rfl))) (pe_ix (ixT K rfl) (pv 2) pe_int (fun _ _ => rfl))
          · exact pe_op op_add (pe_ix (ixT K rfl) (pv 1) pe_int (fun _ _ => rfl)) (pe_ix (ixT K rfl) (pv 2) pe_int (fun _ _ => rfl))
          · exact pe_op op_add (pe_ix (ixT K rfl) (pv 1) pe_int (fun _ _ => rfl)) (pe_ix (ixT K rfl) (pv 2) pe_int (fun _ _ => rfl))
          · rfl
          · rfl
          · rfl
      refine pss_cons ?_ ?_
      · refine ps_if ?_ ?_ pss_nil
        · exact pt_cmpR op_eq (pe_ix (ixT K rfl) (pv 1) pe_int (fun _ _ => rfl)) (pe_ix (ixT K rfl) (pv 2) pe_int (fun _ _ => rfl)) (nomark _)
        · refine pss_one ?_
          refine ps_ret (te := tJe2 K) ?_
          unfold tJe2
          refine pe_drwT ?_ ?_ ?_ ?_ ?_ ?_
          · exact pe_op (opCatA K rfl) (pe_op (opCatA K rfl) (pe_tup (pa_cons pe_str pa_nil)) (pe_ix (ixT K rfl) (pv 1) pe_int (fun _ _ => rfl))) (pe_ix (ixT K rfl) (pv 2) pe_int (fun _ _ => rfl))
          · exact pe_ix (ixT K rfl) (pv 1) pe_int (fun _ _ => rfl)
          · exact pe_ix (ixT K rfl) (pv 2) pe_int (fun _ _ => rfl)
          · rfl
          · rfl
          · rfl
      refine pss_cons ?_ ?_
      · refine ps_if ?_ ?_ pss_nil
        · exact pt_cmpR op_eq (pe_ix (ixT K rfl) (pv 1) pe_int (fun _ _ => rfl)) (pe_ix (ixT K rfl) (pv 2) pe_int (fun _ _ => rfl)) (nomark _)
        · refine pss_one ?_
          refine ps_ret (te := tJe3 K) ?_
          unfold tJe3
          refine pe_drwT ?_ ?_ ?_ ?_ ?_ ?_
          · exact pe_op (opCatA K rfl) (pe_op (opCatA K rfl) (pe_op (opCatA K rfl) (pe_tup (pa_cons pe_str pa_nil)) (pe_ix (ixT K rfl) (pv 1) pe_int (fun _ _ => rfl))) (pe_tup (pa_cons pe_str pa_nil))) (pe_ix (ixT K rfl) (pv 2) pe_int (fun _ _ => rfl))
          · exact pe_ix (ixT K rfl) (pv 1) pe_int (fun _ _ => rfl)
          · exact pe_ix (ixT K rfl) (pv 2) pe_int (fun _ _ => rfl)
          · rfl
          · rfl
          · rfl
      refine pss_one ?_
      refine ps_ret (te := tJe4 K) ?_
      unfold tJe4
      refine pe_drwT ?_ ?_ ?_ ?_ ?_ ?_
      · exact pe_op (opCatA K rfl) (pe_op (opCatA K rfl) (pe_tup (pa_cons pe_str (pa_cons pe_str pa_nil))) (pe_ix (ixT K rfl) (pv 1) pe_int (fun _ _ => rfl))) (pe_ix (ixT K rfl) (pv 2) pe_int (fun _ _ => rfl))
      · exact pe_ix (ixT K rfl) (pv 1) pe_int (fun _ _ => rfl)
      · exact pe_ix (ixT K rfl) (pv 2) pe_int (fun _ _ => rfl)
      · rfl
      · rfl
      · rfl
    · exact join_read hH hn hd he dwf ewf hw hw' q
/-! ### _law_fits -/
noncomputable def spFits (K : PySem.W.Frag) : Sp := fun vs H Q _ => ∃ (v : Addr) (d : Drw) (m s : Int), vs = [.ref v, .int m, .int s] ∧ DrwH K H v d ∧ Q (.bl (decide ((d.words.length : Int) ≤ m) && (decide ((d.lft : Int) ≤ s) && decide ((d.rgt : Int) ≤ s)))) H
theorem scFt : FnScope ["drawing", "most", "side"] ["drawing", "most", "side"] (defScope s_law_fits) := ⟨rfl, rfl, rfl, by decide +kernel, rfl, by decide +kernel, by decide +kernel⟩
theorem ok_fits {f : Addr} {fd : FuncData} (F : Fun K "_law_fits" "_law_fits" s_law_fits f fd) (T : Txt mg) : FnOk P w K mg base CX0 1 f fd ["drawing", "most", "side"] (spFits K) := by
  refine F.ok scFt (fun vs H Q E h => ?_) (fun cdv A outer s H vs Q E hr h => ?_)
  · obtain ⟨v, d, m, sd, rfl, _⟩ := h
    rfl
  · obtain ⟨v, d, m, sd, rfl, ⟨aw, h1, h2⟩, q⟩ := h
    refine ⟨_, pss_one (ps_ret (pe_and (pe_cmpR op_le (pe_callB (cLen K rfl) rfl T.len bt_len (pa_cons (pe_ix (ixT K rfl) (pv 0) pe_int (fun _ _ => rfl)) pa_nil)) (pv 1) (nomark _)) (pe_and (pe_cmpR op_le (pe_ix (ixT K rfl) (pv 0) pe_int (fun _ _ => rfl)) (pv 2) (nomark _)) (pe_one (pe_cmpR op_le (pe_ix (ixT K rfl) (pv 0) pe_int (fun _ _ => rfl)) (pv 2) (nomark _)))))), ?_⟩
    refine ⟨_, rfl, v, _, 0, _, rfl, rfl, h1, atI_nat (j := 0) rfl, aw, _, rfl, .inr h2, _, rfl, _, _, rfl, rfl, _, rfl, ?_⟩
    refine ifB (fun c1 => ?_) fun c1 => ?_
    · rw [c1, Bool.true_and] at q
      refine ⟨_, rfl, v, _, 1, _, rfl, rfl, h1, atI_nat (j := 1) rfl, _, rfl, _, _, rfl, rfl, _, rfl, ?_⟩
      refine ifB (fun c2 => ?_) fun c2 => ?_
      · rw [c2, Bool.true_and] at q
        exact ⟨_, rfl, v, _, 2, _, rfl, rfl, h1, atI_nat (j := 2) rfl, _, rfl, _, _, rfl, rfl, q⟩
      · rw [c2, Bool.false_and] at q
        exact q
    · rw [c1, Bool.false_and] at q
      exact q
end
end S21
namespace S21
open PySem L2 Bw
set_option maxHeartbeats 3900000
/-! ### lists of drawings -/
inductive DrwsH (K : PySem.W.Frag) (H : Hp) : List V → List Drw → Prop where
  | nil : DrwsH K H [] []
  | cons {v : Addr} {d : Drw} {VS : List V} {ds : List Drw} (h : DrwH K H v d) (r : DrwsH K H VS ds) : DrwsH K H (.ref v :: VS) (d :: ds)
section
variable {K : PySem.W.Frag} {H H' : Hp} {VS : List V} {ds : List Drw}
theorem DrwsH.tup (h : DrwsH K H VS ds) (s : Tup H H') : DrwsH K H' VS ds := by
  induction h with
  | nil => exact .nil
  | cons h r ih => exact .cons (h.tup s) ih
theorem DrwsH.smt {a : Addr} {n : Nat} (h : DrwsH K H VS ds) (hH : Hand H a n) (s : SmT a H H') : DrwsH K H' VS ds := by
  induction h with
  | nil => exact .nil
  | cons h r ih => exact .cons (h.smt hH s) ih
theorem DrwsH.append {US : List V} {es : List Drw} (h : DrwsH K H VS ds) (g : DrwsH K H US es) : DrwsH K H (VS ++ US) (ds ++ es) := by
  induction h with
  | nil => exact g
  | cons h r ih => exact .cons h ih
theorem DrwsH.len (h : DrwsH K H VS ds) : VS.length = ds.length := by
  induction h with
  | nil => rfl
  | cons h r ih => rw [List.length_cons, List.length_cons, ih]
theorem DrwsH.last (h : DrwsH K H VS ds) (hne : 0 < VS.length) : ∃ US v es d, VS = US ++ [.ref v] ∧ ds = es ++ [d] ∧ DrwsH K H US es ∧ DrwH K H v d := by
  induction h with
  | nil => exact absurd hne (by simp)
  | @cons v d VS ds h r ih =>
    cases r with
    | nil => exact ⟨[], v, [], d, rfl, rfl, .nil, h⟩
    | cons h' r' =>
      obtain ⟨US, u, es, e, e1, e2, g1, g2⟩ := ih (by simp)
      exact ⟨.ref v :: US, u, d :: es, e, by rw [e1]; rfl, by rw [e2]; rfl, .cons h g1, g2⟩
theorem DrwsH.at {i : Nat} {v : V} (hV : DrwsH K H VS ds) (hi : VS[i]? = some v) : ∃ a d, v = .ref a ∧ ds[i]? = some d ∧ DrwH K H a d := by
  induction hV generalizing i with
  | nil => cases hi
  | @cons u d VS ds h r ih =>
    cases i with
    | zero => cases hi; exact ⟨u, d, rfl, rfl, h⟩
    | succ i => exact ih hi
end
noncomputable def fitsD (p most side : Int) (d : Drw) : Prop := d.wf p ∧ (d.words.length : Int) ≤ most ∧ (d.lft : Int) ≤ side ∧ (d.rgt : Int) ≤ side ∧ d.mid side
/-- between the turns -/
structure GI (K : PySem.W.Frag) (H : Hp) (lc lf lp : Addr) (xs : List V) (p most side : Int) (i : Nat) (hd : Addr) (H' : Hp) (FS PS : List V) (fs ps : List Drw) (d : Drw) : Prop where
  sm : Same H H'
  c : H' lc = some (.lst xs)
  f : H' lf = some (.lst FS)
  pl : H' lp = some (.lst PS)
  F : DrwsH K H' FS fs
  P : DrwsH K H' PS ps
  okF : ∀ e ∈ fs, fitsD p most side e
  okP : ∀ e ∈ ps, fitsD p most side e
  here : DrwH K H' hd d
  ok : fitsD p most side d
  few : fs.length + ps.length ≤ i
section
variable {P : Program} {w : World} {K : PySem.W.Frag} {mg : Str → Option Value} {base : Heap} {H H' H'' : Hp} {lc lf lp hd a : Addr} {xs FS PS : List V} {p most side : Int} {i n : Nat} {fs ps : List Drw} {d : Drw}
theorem GI.mono (g : GI K H lc lf lp xs p most side i hd H' FS PS fs ps d) (s : Same H' H'') : GI K H lc lf lp xs p most side i hd H'' FS PS fs ps d :=
  ⟨g.sm.trans s, s _ _ g.c, s _ _ g.f, s _ _ g.pl, g.F.tup s.tup, g.P.tup s.tup, g.okF, g.okP, g.here.mono s, g.ok, g.few⟩
theorem GI.smt (g : GI K H lc lf lp xs p most side i hd H' FS PS fs ps d) (hn : H a = none) (h1 : a ≠ lc) (h2 : a ≠ lf) (h3 : a ≠ lp) (hH : Hand H' a n) (s : SmT a H' H'') : GI K H lc lf lp xs p most side i hd H'' FS PS fs ps d :=
  ⟨fun b o e => s b o (g.sm b o e) (ne_of_none e hn), s _ _ g.c h1.symm, s _ _ g.f h2.symm, s _ _ g.pl h3.symm, g.F.smt hH s, g.P.smt hH s, g.okF, g.okP, g.here.smt hH s, g.ok, g.few⟩
/-- here is laid on the pile, or told -/
theorem GI.push (g : GI K H lc lf lp xs p most side i hd H' FS PS fs ps d) (hn : H lp = none) (h1 : lc ≠ lp) (h2 : lf ≠ lp) : GI K H lc lf lp xs p most side (i + 1) hd (upd H' lp (.lst (PS ++ [.ref hd]))) FS (PS ++ [.ref hd]) fs (ps ++ [d]) d := by
  have t : Tup H' (upd H' lp (.lst (PS ++ [.ref hd]))) := Tup.lst g.pl
  refine ⟨g.sm.put hn, by rw [upd_ne h1]; exact g.c, by rw [upd_ne h2]; exact g.f, upd_same, g.F.tup t, (g.P.tup t).append (.cons (g.here.tup t) .nil), g.okF, fun e he => ?_, g.here.tup t, g.ok, ?_⟩
  · rcases (List.mem_append.mp he) with z | z
    · exact g.okP e z
    · rw [List.mem_singleton.mp z]; exact g.ok
  · have := g.few
    rw [List.length_append]
    show _ + (_ + 1) ≤ _
    omega
theorem GI.tell (g : GI K H lc lf lp xs p most side i hd H' FS PS fs ps d) (hn : H lf = none) (h1 : lc ≠ lf) (h2 : lp ≠ lf) : GI K H lc lf lp xs p most side (i + 1) hd (upd H' lf (.lst (FS ++ [.ref hd]))) (FS ++ [.ref hd]) PS (fs ++ [d]) ps d := by
  have t : Tup H' (upd H' lf (.lst (FS ++ [.ref hd]))) := Tup.lst g.f
  refine ⟨g.sm.put hn, by rw [upd_ne h1]; exact g.c, upd_same, by rw [upd_ne h2]; exact g.pl, (g.F.tup t).append (.cons (g.here.tup t) .nil), g.P.tup t, fun e he => ?_, g.okP, g.here.tup t, g.ok, ?_⟩
  · rcases (List.mem_append.mp he) with z | z
    · exact g.okF e z
    · rw [List.mem_singleton.mp z]; exact g.ok
  · have := g.few
    rw [List.length_append]
    show _ + 1 + _ ≤ _
    omega
theorem GI.pop {US : List V} {v : V} {es : List Drw} {e : Drw} (g : GI K H lc lf lp xs p most side i hd H' FS (US ++ [v]) fs (es ++ [e]) d) (gU : DrwsH K H' US es) (hn : H lp = none) (h1 : lc ≠ lp) (h2 : lf ≠ lp) : GI K H lc lf lp xs p most side (i + 1) hd (upd H' lp (.lst US)) FS US fs es d := by
  have t : Tup H' (upd H' lp (.lst US)) := Tup.lst g.pl
  refine ⟨g.sm.put hn, by rw [upd_ne h1]; exact g.c, by rw [upd_ne h2]; exact g.f, upd_same, g.F.tup t, gU.tup t, g.okF, fun e he => g.okP e (List.mem_append_left _ he), g.here.tup t, g.ok, ?_⟩
  have := g.few
  rw [List.length_append] at this
  omega
theorem GI.new {hd' : Addr} {d' : Drw} (g : GI K H lc lf lp xs p most side i hd H' FS PS fs ps d) (h : DrwH K H' hd' d') (ok : fitsD p most side d') : GI K H lc lf lp xs p most side i hd' H' FS PS fs ps d' :=
  ⟨g.sm, g.c, g.f, g.pl, g.F, g.P, g.okF, g.okP, h, ok, g.few⟩
theorem GI.next (g : GI K H lc lf lp xs p most side i hd H' FS PS fs ps d) : GI K H lc lf lp xs p most side (i + 1) hd H' FS PS fs ps d :=
  ⟨g.sm, g.c, g.f, g.pl, g.F, g.P, g.okF, g.okP, g.here, g.ok, Nat.le_succ_of_le g.few⟩
/-! ### _law_grown -/
noncomputable def rLen (K : PySem.W.Frag) : List V → Hp → VK → Prop := fun xs H Q => ∃ p ys, xs = [.ref p] ∧ (SqL K H p ys ∨ SqT K H p ys) ∧ Q (.int ys.length) H
noncomputable def tLenV (K : PySem.W.Frag) (t : TE) : TE := tCB (rLen K) (tCons t tNil)
noncomputable def tGc1 (K : PySem.W.Frag) : TT := tAnd (tTest (tOp rEq (tVar 10) (tC (.int 0)))) (tAnd (tTest (tOp rLt (tLenV K (tVar 5)) (tC (.int 3)))) (tTest (tOp rLt (tOp rMul (tC (.int 2)) (tLenV K (tIx K 6 0))) (tVar 2))))
noncomputable def tGc2 (K : PySem.W.Frag) : TT := tAnd (tTest (tOp rEq (tVar 10) (tC (.int 1)))) (tTest (tOp rGt (tLenV K (tVar 5)) (tC (.int 0))))
noncomputable def tApp (K : PySem.W.Frag) (i j : Nat) : TE := tBM K "list" rAppend (tVar i) (tCons (tVar j) tNil)
noncomputable def tBoxC (K : PySem.W.Frag) : TE := tCall (spBox K) [] E0 (tCons (tVar 9) (tCons (tVar 1) tNil))
noncomputable def tFitC (K : PySem.W.Frag) : TE := tCall (spFits K) [] E0 (tCons (tVar 11) (tCons (tVar 2) (tCons (tVar 3) tNil)))
noncomputable def tJoC (K : PySem.W.Frag) : TE := tCall (spJoin K) [] E0 (tCons (tVar 9) (tCons (tOp (rIxL K) (tVar 5) (tUn (rU fun i => .int (-i)) (tC (.int 1)))) (tCons (tVar 6) tNil)))
noncomputable def tNxC (K : PySem.W.Frag) : TE := tCall (spNext K) [] E0 (tCons (tVar 9) (tCons (tVar 1) (tCons (tVar 6) tNil)))
noncomputable def tGb3 (K : PySem.W.Frag) : TS := tSeq (tDrop (tApp K 5 6)) (tSeq (tAsg (tBoxC K) (gName 6)) tCont)
noncomputable def tGb4 (K : PySem.W.Frag) : TS := tSeq (tAsg (tJoC K) (gName 11)) (tIfS (tB (tFitC K)) (tSeq (tDrop (tBM0 K "list" rPop (tVar 5))) (tSeq (tAsg (tVar 11) (gName 6)) tCont)) tNext)
noncomputable def tGb6 (K : PySem.W.Frag) : TS := tSeq (tDrop (tApp K 4 6)) (tAsg (tBoxC K) (gName 11))
noncomputable def tGT (K : PySem.W.Frag) : TS := tSeq (tAsg (tCall spHand [] E0 (tCons (tVar 8) (tCons (tVar 7) tNil))) (gName 9)) (tSeq (tAsg (tDr 9 (tC (.int 10))) (gName 10)) (tSeq (tIfS (tGc1 K) (tGb3 K) tNext) (tSeq (tIfS (tGc2 K) (tGb4 K) tNext)
  (tSeq (tAsg (tNxC K) (gName 11)) (tSeq (tIfS (tNot (tB (tFitC K))) (tGb6 K) tNext) (tAsg (tVar 11) (gName 6)))))))
theorem seq_drop {te : TE} {u : TS} {D : Ends} {σ : St} {H : Hp} (h : te σ H fun _ H1 => u D σ H1) : tSeq (tDrop te) u D σ H := h
theorem intE_len {t : TE} {σ : St} {v : Addr} {ys : List V} (h : ∀ H', Same H H' → ∀ R : VK, R (.ref v) H' → t σ H' R) (hs : SqL K H v ys ∨ SqT K H v ys) : IntE (tLenV K t) σ H (ys.length : Int) := fun H' s _ q => h H' s _ ⟨v, ys, rfl, hs.elim (fun z => .inl (s.seq z)) (fun z => .inr (s.seqT z)), q⟩
theorem gturn_read {D : Ends} {sc : V} {kI cI : Int} {s9 s10 s11 : Option V} (k0 : 0 ≤ kI) (k1 : kI ≤ 100) (p2 : 2 ≤ p) (p97 : p ≤ 97) (m3 : 3 ≤ most) (m90 : most ≤ 90) (d2 : 2 ≤ side) (d90 : side ≤ 90) (hi : i ≤ 100) (nf : H lf = none) (np : H lp = none) (ncf : lc ≠ lf) (ncp : lc ≠ lp) (nfp : lf ≠ lp)
    (g : GI K H lc lf lp xs p most side i hd H' FS PS fs ps d)
    (Gv : St → Hp → Prop) (hGv : ∀ hd' H2 FS' PS' fs' ps' d' s7 s8 s9 s10 s11, GI K H lc lf lp xs p most side (i + 1) hd' H2 FS' PS' fs' ps' d' → Gv [some sc, some (.int p), some (.int most), some (.int side), some (.ref lf), some (.ref lp), some (.ref hd'), s7, s8, s9, s10, s11] H2)
    (qn : ∀ σ H, Gv σ H → D.nx σ H) (qc : ∀ σ H, Gv σ H → D.ct σ H) :
    tGT K D [some sc, some (.int p), some (.int most), some (.int side), some (.ref lf), some (.ref lp), some (.ref hd), some (.int kI), some (.int cI), s9, s10, s11] H' := by
  have z1000 : (1000 : Nat) ≤ sizeLine := by decide
  unfold tGT
  refine seq_asg ⟨_, rfl, _, rfl, cI, kI, rfl, k0, k1, fun a H1 s1 han g1 => ?_⟩
  have aH : H a = none := by
    cases e : H a with
    | none => rfl
    | some o => rw [g.sm _ _ e] at han; cases han
  have nac : a ≠ lc := fun z => by rw [z, g.c] at han; cases han
  have naf : a ≠ lf := fun z => by rw [z, g.f] at han; cases han
  have nap : a ≠ lp := fun z => by rw [z, g.pl] at han; cases han
  replace g := g.mono s1
  refine seq_asg ?_
  refine dr_read rfl (fun R h => h) g1 (by omega) (by decide) (by decide) fun st H2 j0 j1 s2 g2 => ?_
  replace g := g.smt aH nac naf nap g1 s2
  have g2 : Hand H2 a 1 := g2
  clear g1 s1 s2 han
  obtain ⟨hwf, hlen, hl, hr, hmid⟩ := g.ok
  have eF := g.F.len
  have eP := g.P.len
  have fw := g.few
  obtain ⟨aw, hh1, hh2⟩ := g.here
  refine seq_if ?_
  refine boolE_and (boolE_eq (i := st) (j := 0) (intE_v rfl) intE_c) (boolE_and (boolE_lt (i := (PS.length : Int)) (j := 3) (intE_len (v := lp) (fun _ _ _ q => ⟨_, rfl, q⟩) (.inl (.of g.pl))) intE_c)
    (boolE_lt (i := 2 * (d.words.length : Int)) (j := most) (intE_mul intE_c (intE_len (v := aw) (fun H3 s3 R q => ⟨_, rfl, hd, _, 0, _, rfl, rfl, s3.seqT hh1, atI_nat (j := 0) rfl, q⟩) (.inr hh2)) (by decide)) (intE_v rfl))) H2 (.refl _) _ (ifB (fun _ => ?_) fun _ => ?_)
  · -- laid on the pile
    unfold tGb3
    refine seq_drop ?_
    refine ⟨_, rfl, .inl ⟨rfl, _, .of g.pl⟩, _, rfl, lp, PS, _, rfl, rfl, g.pl, by omega, ?_⟩
    have gp := g.push np ncp nfp
    have g3 : Hand (upd H2 lp (.lst (PS ++ [.ref hd]))) a 1 := let ⟨x0, x1, x2, e, r⟩ := g2; ⟨x0, x1, x2, by rw [upd_ne nap]; exact e, r⟩
    refine seq_asg ?_
    refine ⟨_, rfl, _, rfl, a, 1, p, rfl, g3, by decide, p2, p97, fun v e H3 n3 ewf el ell elr s3 g4 _ hv => ?_⟩
    exact qc _ _ (hGv _ _ _ _ _ _ _ _ _ _ _ _ ((gp.smt aH nac naf nap g3 s3).new hv ⟨ewf, by omega, by omega, by omega, Drw.mid_box d2 ewf el⟩))
  have rest : ∀ (s11 : Option V) (H3 : Hp) (n3 : Nat), GI K H lc lf lp xs p most side i hd H3 FS PS fs ps d → Hand H3 a n3 → n3 ≤ 10 → tSeq (tAsg (tNxC K) (gName 11)) (tSeq (tIfS (tNot (tB (tFitC K))) (tGb6 K) tNext) (tAsg (tVar 11) (gName 6))) D
      [some sc, some (.int p), some (.int most), some (.int side), some (.ref lf), some (.ref lp), some (.ref hd), some (.int kI), some (.int cI), some (.ref a), some (.int st), s11] H3 := by
    intro s11 H3 n3 g h3 hn3
    refine seq_asg ⟨_, rfl, _, rfl, _, rfl, a, hd, n3, p, d, rfl, h3, by omega, p2, p97, g.here, hwf, by omega, by omega, by omega, fun v e H4 n4 ewf emid el s4 h4 hn4 hv => ?_⟩
    replace g := g.smt aH nac naf nap h3 s4
    refine seq_if ⟨_, rfl, _, rfl, _, rfl, v, e, most, side, rfl, hv, _, rfl, ?_⟩
    refine ifB (fun _ => ?_) fun c => ?_
    · unfold tGb6
      refine ⟨_, rfl, .inl ⟨rfl, _, .of g.f⟩, _, rfl, lf, FS, _, rfl, rfl, g.f, by omega, ?_⟩
      have gp := g.tell nf ncf nfp.symm
      have h5 : Hand (upd H4 lf (.lst (FS ++ [.ref hd]))) a n4 := let ⟨x0, x1, x2, e, r⟩ := h4; ⟨x0, x1, x2, by rw [upd_ne naf]; exact e, r⟩
      refine ⟨_, rfl, _, rfl, a, n4, p, rfl, h5, by omega, p2, p97, fun v' e' H5 n5 ewf' el' ell elr s5 g5 _ hv' => ?_⟩
      refine ⟨_, rfl, ?_⟩
      exact qn _ _ (hGv _ _ _ _ _ _ _ _ _ _ _ _ ((gp.smt aH nac naf nap h5 s5).new hv' ⟨ewf', by omega, by omega, by omega, Drw.mid_box d2 ewf' el'⟩))
    · refine ⟨_, rfl, ?_⟩
      simp only [Bool.not_eq_false', Bool.and_eq_true, decide_eq_true_eq] at c
      exact qn _ _ (hGv _ _ _ _ _ _ _ _ _ _ _ _ (g.next.new hv ⟨ewf, c.1, c.2.1, c.2.2, emid side d2 hmid hl hr⟩))
  refine seq_if ?_
  refine boolE_and (boolE_eq (i := st) (j := 1) (intE_v rfl) intE_c) (boolE_gt (i := (PS.length : Int)) (j := 0) (intE_len (v := lp) (fun _ _ _ q => ⟨_, rfl, q⟩) (.inl (.of g.pl))) intE_c) H2 (.refl _) _ (ifB (fun c => ?_) fun _ => ?_)
  · simp only [Bool.and_eq_true, decide_eq_true_eq] at c
    obtain ⟨US, u, es, e, rfl, rfl, gU, gu⟩ := g.P.last (by omega)
    obtain ⟨uwf, ulen, ul, ur, umid⟩ := g.okP e (List.mem_append_right _ List.mem_cons_self)
    unfold tGb4
    refine seq_asg ⟨_, rfl, _, rfl, 1, rfl, lp, _, -1, _, rfl, rfl, .of g.pl, atI_last _ _, _, rfl, a, u, hd, 1, p, e, d, rfl, g2, by decide, gu, g.here, uwf, hwf, by omega, by omega, fun v e' H3 ewf emid el s3 h3 hv => ?_⟩
    have gU3 := gU.smt g2 s3
    have g3 := g.smt aH nac naf nap g2 s3
    refine ⟨_, rfl, _, rfl, _, rfl, v, e', most, side, rfl, hv, _, rfl, ?_⟩
    refine ifB (fun c' => ?_) fun _ => ?_
    · simp only [Bool.and_eq_true, decide_eq_true_eq] at c'
      refine seq_drop ?_
      refine ⟨_, rfl, .inl ⟨rfl, _, .of g3.pl⟩, lp, _, .ref u, rfl, rfl, g3.pl, by simp, ?_⟩
      rw [List.dropLast_concat]
      have gp := g3.pop gU3 np ncp nfp
      refine seq_asg ?_
      refine ⟨_, rfl, ?_⟩
      exact qc _ _ (hGv _ _ _ _ _ _ _ _ _ _ _ _ (gp.new (hv.tup (Tup.lst g3.pl)) ⟨ewf, c'.1, c'.2.1, c'.2.2, emid side umid hmid ul ur⟩))
    · exact rest _ H3 _ g3 h3 (by decide)
  · exact rest _ H2 _ g g2 (by decide)
end
end S21
namespace S21
open PySem L2 Bw
set_option maxHeartbeats 3900000
section
variable {P : Program} {w : World} {K : PySem.W.Frag} {mg : Str → Option Value} {base : Heap}
noncomputable def spGrown (K : PySem.W.Frag) : Sp := fun vs H Q _ => ∃ (s : Addr) (ns : List Int) (p most side : Int), vs = [.ref s, .int p, .int most, .int side] ∧ SqL K H s (ns.map V.int) ∧ ns.length ≤ 63 ∧ 2 ≤ p ∧ p ≤ 97 ∧ 3 ≤ most ∧ most ≤ 90 ∧ 2 ≤ side ∧ side ≤ 90 ∧
  ∀ v VS ds H', Same H H' → H' v = some (.lst VS) → DrwsH K H' VS ds → (∀ d ∈ ds, fitsD p most side d) → ds.length ≤ 70 → 1 ≤ ds.length → Q (.ref v) H'
theorem scGr : FnScope ["script", "p", "most", "side", "found", "pile", "here", "k", "cell", "hand", "style", "more"] ["script", "p", "most", "side"] (defScope sGrown) := ⟨rfl, rfl, rfl, by decide +kernel, rfl, by decide +kernel, by decide +kernel⟩
noncomputable def rSum (K : PySem.W.Frag) : List V → Hp → VK → Prop := fun xs H Q => ∃ p ns, xs = [.ref p] ∧ SqL K H p (List.map V.int ns) ∧ Q (.int ns.sum) H
noncomputable def tGr3 (K : PySem.W.Frag) : TE := tCall (spBox K) [] E0 (tCons (tCall spHand [] E0 (tCons (tCB (rSum K) (tCons (tVar 0) tNil)) (tCons (tC (.int 99)) tNil))) (tCons (tVar 1) tNil))
noncomputable def tGrF (K : PySem.W.Frag) : TS := tFor (iEnum K true (tCons (tSl (rSlL K) (tVar 0) tNoPart (tPart (tC (.int 63)))) tNil)) (gPair K 7 8) (tGT K)
noncomputable def tGrR : TE := tOp rCat (tOp rCat (tVar 4) (tVar 5)) (tLst (tCons (tVar 6) tNil))
noncomputable def tGrown (K : PySem.W.Frag) : TS := tSeq (tAsg (tLst tNil) (gName 4)) (tSeq (tAsg (tLst tNil) (gName 5)) (tSeq (tAsg (tGr3 K) (gName 6)) (tSeq (tGrF K) (tRet tGrR))))
theorem seq_of2 {t u : TS} {D : Ends} {σ : St} {H : Hp} (h : t { D with nx := u D } σ H) : tSeq t u D σ H := h
theorem grown_read {D : Ends} {H : Hp} {sc : Addr} {ns : List Int} {p most side : Int} (hS : SqL K H sc (ns.map V.int)) (hlen : ns.length ≤ 63) (p2 : 2 ≤ p) (p97 : p ≤ 97) (m3 : 3 ≤ most) (m90 : most ≤ 90) (d2 : 2 ≤ side) (d90 : side ≤ 90)
    (q : ∀ v VS ds H', Same H H' → H' v = some (.lst VS) → DrwsH K H' VS ds → (∀ d ∈ ds, fitsD p most side d) → ds.length ≤ 70 → 1 ≤ ds.length → D.rt (.ref v) H') :
    tGrown K D [some (.ref sc), some (.int p), some (.int most), some (.int side), none, none, none, none, none, none, none, none] H := by
  have z1000 : (1000 : Nat) ≤ sizeLine := by decide
  unfold tGrown
  refine seq_asg ⟨by show 0 ≤ sizeLine; decide, fun lf hlf => ?_⟩
  refine seq_asg ⟨by show 0 ≤ sizeLine; decide, fun lp hlp => ?_⟩
  have nfp : lf ≠ lp := fun z => by rw [z, upd_same] at hlp; cases hlp
  have np0 : H lp = none := by rw [upd_ne (Ne.symm nfp)] at hlp; exact hlp
  have s2 : Same H (upd (upd H lf (.lst [])) lp (.lst [])) := (Same.upd hlf).trans (.upd hlp)
  have gf : (upd (upd H lf (.lst [])) lp (.lst [])) lf = some (.lst []) := by rw [upd_ne nfp]; exact upd_same
  have gp : (upd (upd H lf (.lst [])) lp (.lst [])) lp = some (.lst []) := upd_same
  generalize upd (upd H lf (.lst [])) lp (.lst []) = H2 at s2 gf gp ⊢
  refine seq_asg ?_
  unfold tGr3
  refine ⟨_, rfl, sc, ns, rfl, s2.seq hS, ns.sum, 99, rfl, by decide, by decide, fun a H3 s3 ha g3 => ⟨_, rfl, a, 0, p, rfl, g3, by decide, p2, p97, fun v d H4 n4 dwf dl dll dlr s4 g4 _ hv => ?_⟩⟩
  have naf : lf ≠ a := fun z => by rw [← z, gf] at ha; cases ha
  have nap : lp ≠ a := fun z => by rw [← z, gp] at ha; cases ha
  have hna : H a = none := by
    cases e : H a with
    | none => rfl
    | some o => rw [s2 _ _ e] at ha; cases ha
  have sA : Same H H4 := fun b o e => s4 b o ((s2.trans s3) b o e) (ne_of_none e hna)
  have gf4 := s4 _ _ (s3 _ _ gf) naf
  have gp4 := s4 _ _ (s3 _ _ gp) nap
  refine seq_of2 ?_
  unfold tGrF tFor iEnum
  refine ⟨_, rfl, 63, rfl, sc, _, rfl, sA.seq hS, fun lc hlc => ?_⟩
  obtain ⟨cs, hcs, hcl⟩ : ∃ cs : List Int, cutV (ns.map V.int) none (some 63) = cs.map V.int ∧ cs.length ≤ 63 := by
    refine ⟨_, by unfold cutV; rw [← List.map_drop, ← List.map_take], ?_⟩
    rw [List.length_take, List.length_drop]
    omega
  rw [hcs]
  have smC : Same H4 (upd H4 lc (.lst (cs.map V.int))) := .upd hlc
  have gC : (upd H4 lc (.lst (cs.map V.int))) lc = some (.lst (cs.map V.int)) := upd_same
  have ncf : lc ≠ lf := fun z => by rw [z, gf4] at hlc; cases hlc
  have ncp : lc ≠ lp := fun z => by rw [z, gp4] at hlc; cases hlc
  generalize upd H4 lc (.lst (cs.map V.int)) = H5 at smC gC ⊢
  have G0 : GI K H lc lf lp (cs.map V.int) p most side 0 v H5 [] [] [] [] d :=
    ⟨sA.trans smC, gC, smC _ _ gf4, smC _ _ gp4, .nil, .nil, fun e he => (nomatch he), fun e he => (nomatch he), hv.mono smC, ⟨dwf, by omega, by omega, by omega, Drw.mid_box d2 dwf dl⟩, Nat.le_refl _⟩
  refine ⟨lc, rfl, ⟨_, .of gC⟩, for_enum (b := true) (xs := cs.map V.int) (fun i σ H' => ∃ hd FS PS fs ps d s7 s8 s9 s10 s11, σ = [some (.ref sc), some (.int p), some (.int most), some (.int side), some (.ref lf), some (.ref lp), some (.ref hd), s7, s8, s9, s10, s11] ∧ GI K H lc lf lp (cs.map V.int) p most side i hd H' FS PS fs ps d)
    ⟨v, [], [], [], [], d, _, _, _, _, _, rfl, G0⟩ (fun i σ H' ⟨_, _, _, _, _, _, _, _, _, _, _, _, g⟩ => .of g.c) (fun i σ H1 H2 s12 ⟨hd, FS, PS, fs, ps, d, s7, s8, s9, s10, s11, e, g⟩ => ⟨hd, FS, PS, fs, ps, d, s7, s8, s9, s10, s11, e, g.mono s12⟩) ?_ ?_⟩
  · rintro i x σ H6 hx ⟨hd, FS, PS, fs, ps, d, s7, s8, s9, s10, s11, rfl, g⟩
    have hi : i < cs.length := by
      have := (List.getElem?_eq_some_iff.mp hx).1
      rwa [List.length_map] at this
    rw [List.getElem?_map, List.getElem?_eq_getElem hi] at hx
    cases hx
    exact gturn_read (by omega) (by omega) p2 p97 m3 m90 d2 d90 (by omega) hlf np0 ncf ncp nfp g (fun σ H' => ∃ hd FS PS fs ps d s7 s8 s9 s10 s11, σ = [some (.ref sc), some (.int p), some (.int most), some (.int side), some (.ref lf), some (.ref lp), some (.ref hd), s7, s8, s9, s10, s11] ∧ GI K H lc lf lp (cs.map V.int) p most side (i + 1) hd H' FS PS fs ps d)
      (fun hd' H2 FS' PS' fs' ps' d' s7 s8 s9 s10 s11 g' => ⟨hd', FS', PS', fs', ps', d', s7, s8, s9, s10, s11, rfl, g'⟩) (fun _ _ h => h) (fun _ _ h => h)
  · rintro σ H6 ⟨hd, FS, PS, fs, ps, d, s7, s8, s9, s10, s11, rfl, g⟩
    have eF := g.F.len
    have eP := g.P.len
    have fw := g.few
    rw [List.length_map] at fw
    show tGrR _ _ _
    unfold tGrR
    refine ⟨_, rfl, _, rfl, lf, lp, FS, PS, rfl, rfl, g.f, g.pl, by omega, fun l1 hl1 => ⟨_, rfl, by show 1 ≤ sizeLine; decide, fun l2 hl2 => ?_⟩⟩
    have t1 := Same.upd (o := .lst (FS ++ PS)) hl1
    have t2 := Same.upd (o := .lst [.ref hd]) hl2
    refine ⟨l1, l2, _, _, rfl, rfl, t2 _ _ upd_same, upd_same, by rw [List.length_append]; show _ + 1 ≤ _; omega, fun l3 hl3 => ?_⟩
    have t3 := Same.upd (o := .lst (FS ++ PS ++ [.ref hd])) hl3
    have t := t1.trans (t2.trans t3)
    refine q l3 _ (fs ++ ps ++ [d]) _ (g.sm.trans t) upd_same (((g.F.tup t.tup).append (g.P.tup t.tup)).append (.cons (g.here.mono t) .nil)) (fun e he => ?_) (by rw [List.length_append, List.length_append]; show _ + _ + 1 ≤ _; omega) (by rw [List.length_append]; show 1 ≤ _ + 1; omega)
    rcases (List.mem_append.mp he) with z | z
    · rcases (List.mem_append.mp z) with z | z
      · exact g.okF e z
      · exact g.okP e z
    · rw [List.mem_singleton.mp z]; exact g.ok
theorem ok_grown {f fH fD fB fJ fF fN : Addr} {fd fdH fdD fdB fdJ fdF fdN : FuncData} (F : Fun K "_law_grown" "_law_grown" sGrown f fd) (T : Txt mg)
    (GH : FnOk P w K mg base CX0 1 fH fdH ["cell", "k"] spHand) (kH : PySem.W.keepIn K (.ref fH) = true) (bH : Binds K fdH ["cell", "k"] []) (mH : mg "_law_hand" = some (.ref fH))
    (GD : FnOk P w K mg base CX0 1 fD fdD ["hand", "limit"] spDrw) (kD : PySem.W.keepIn K (.ref fD) = true) (bD : Binds K fdD ["hand", "limit"] []) (mD : mg "_law_draw" = some (.ref fD))
    (GB : FnOk P w K mg base CX0 2 fB fdB ["hand", "p"] (spBox K)) (kB : PySem.W.keepIn K (.ref fB) = true) (bB : Binds K fdB ["hand", "p"] []) (mB : mg "_law_box" = some (.ref fB))
    (GJ : FnOk P w K mg base CX0 2 fJ fdJ ["hand", "one", "other"] (spJoin K)) (kJ : PySem.W.keepIn K (.ref fJ) = true) (bJ : Binds K fdJ ["hand", "one", "other"] []) (mJ : mg "_law_joined" = some (.ref fJ))
    (GF : FnOk P w K mg base CX0 1 fF fdF ["drawing", "most", "side"] (spFits K)) (kF : PySem.W.keepIn K (.ref fF) = true) (bF : Binds K fdF ["drawing", "most", "side"] []) (mF : mg "_law_fits" = some (.ref fF))
    (GN : FnOk P w K mg base CX0 3 fN fdN ["hand", "p", "here"] (spNext K)) (kN : PySem.W.keepIn K (.ref fN) = true) (bN : Binds K fdN ["hand", "p", "here"] []) (mN : mg "_law_next" = some (.ref fN)) :
    FnOk P w K mg base CX0 4 f fd ["script", "p", "most", "side"] (spGrown K) := by
  refine F.ok scGr (fun vs H Q E h => ?_) (fun cdv A outer s H vs Q E hr h => ?_)
  · obtain ⟨sc, ns, p, most, side, rfl, _⟩ := h
    rfl
  · obtain ⟨sc, ns, p, most, side, rfl, hS, hlen, p2, p97, m3, m90, d2, d90, q⟩ := h
    have hr1 : Room 1 _ := hr.mono (by decide)
    have hr2 : Room 2 _ := hr.mono (by decide)
    refine ⟨tGrown K, ?_, ?_⟩
    · unfold tGrown
      refine pss_cons ?_ ?_
      · exact ps_set (i := 4) scGr.nd rfl (Or.inl rfl) (pe_lst pa_nil)
      refine pss_cons ?_ ?_
      · exact ps_set (i := 5) scGr.nd rfl (Or.inl rfl) (pe_lst pa_nil)
      refine pss_cons ?_ ?_
      · exact ps_set (i := 6) (te := tGr3 K) scGr.nd rfl (Or.inl rfl) (pe_call GB hr2 rfl mB kB bB .nil pass0 (pa_cons (pe_call GH hr1 rfl mH kH bH .nil pass0 (pa_cons (pe_callB (cSum K rfl rfl) rfl T.sum bt_sum (pa_cons (pv 0) pa_nil)) (pa_cons pe_int pa_nil))) (pa_cons (pv 1) pa_nil)))
      refine pss_cons ?_ ?_
      · unfold tGrF
        refine ps_for PassesOwn.never rfl ?_ ?_ ?_
        · exact piEnum K rfl true rfl T.enumerate (pa_cons (pe_slice (slL K rfl) (pv 0) po_none (po_some pe_int)) pa_nil)
        · exact pgTup (n := 2) K rfl rfl (pgs_cons (pg_name (i := 7) scGr.nd rfl (Or.inl rfl)) (pgs_cons (pg_name (i := 8) scGr.nd rfl (Or.inl rfl)) pgs_nil))
        · unfold tGT
          refine pss_cons ?_ ?_
          · exact ps_set (i := 9) scGr.nd rfl (Or.inl rfl) (pe_call GH hr1 rfl mH kH bH .nil pass0 (pa_cons (pv 8) (pa_cons (pv 7) pa_nil)))
          refine pss_cons ?_ ?_
          · exact ps_set (i := 10) scGr.nd rfl (Or.inl rfl) (pe_call GD hr1 rfl mD kD bD .nil pass0 (pa_cons (pv 9) (pa_cons pe_int pa_nil)))
          refine pss_cons ?_ ?_
          · refine ps_if ?_ ?_ pss_nil
            · unfold tGc1
              refine PW.pt (pw_and ?_ (pw_and ?_ (pw_and1 ?_)))
              · exact pt_cmpR op_eq (pv 10) pe_int (nomark _)
              · exact pt_cmpR op_lt (pe_callB (cLen K rfl) rfl T.len bt_len (pa_cons (pv 5) pa_nil)) pe_int (nomark _)
              · exact pt_cmpR op_lt (pe_op op_mul pe_int (pe_callB (cLen K rfl) rfl T.len bt_len (pa_cons (pe_ix (ixT K rfl) (pv 6) pe_int (fun _ _ => rfl)) pa_nil))) (pv 2) (nomark _)
            · unfold tGb3
              refine pss_cons ?_ ?_
              · exact ps_expr (te := tApp K 5 6) (pe_bm PySem.F.plainAttrs_list PySem.F.slot_list_append PySem.F.type_list_append mt_append (pv 5) (pa_cons (pv 6) pa_nil))
              refine pss_cons ?_ ?_
              · exact ps_set (i := 6) (te := tBoxC K) scGr.nd rfl (Or.inl rfl) (pe_call GB hr2 rfl mB kB bB .nil pass0 (pa_cons (pv 9) (pa_cons (pv 1) pa_nil)))
              exact pss_one ps_continue
          refine pss_cons ?_ ?_
          · refine ps_if ?_ ?_ pss_nil
            · unfold tGc2
              refine PW.pt (pw_and ?_ (pw_and1 ?_))
              · exact pt_cmpR op_eq (pv 10) pe_int (nomark _)
              · exact pt_cmpR op_gt (pe_callB (cLen K rfl) rfl T.len bt_len (pa_cons (pv 5) pa_nil)) pe_int (nomark _)
            · unfold tGb4
              refine pss_cons ?_ ?_
              · exact ps_set (i := 11) (te := tJoC K) scGr.nd rfl (Or.inl rfl) (pe_call GJ hr2 rfl mJ kJ bJ .nil pass0 (pa_cons (pv 9) (pa_cons (pe_ix (ixL K rfl) (pv 5) (pe_un un_neg pe_int) (fun _ _ => rfl)) (pa_cons (pv 6) pa_nil))))
              refine pss_one ?_
              refine ps_if ?_ ?_ pss_nil
              · exact pt_val (pe_call GF hr1 rfl mF kF bF .nil pass0 (pa_cons (pv 11) (pa_cons (pv 2) (pa_cons (pv 3) pa_nil))))
              · refine pss_cons ?_ ?_
                · exact ps_expr (pe_pop K rfl (pv 5))
                refine pss_cons ?_ ?_
                · exact ps_set (i := 6) scGr.nd rfl (Or.inl rfl) (pv 11)
                exact pss_one ps_continue
          refine pss_cons ?_ ?_
          · exact ps_set (i := 11) (te := tNxC K) scGr.nd rfl (Or.inl rfl) (pe_call GN hr rfl mN kN bN .nil pass0 (pa_cons (pv 9) (pa_cons (pv 1) (pa_cons (pv 6) pa_nil))))
          refine pss_cons ?_ ?_
          · refine ps_if ?_ ?_ pss_nil
            · exact pt_not (pt_val (pe_call GF hr1 rfl mF kF bF .nil pass0 (pa_cons (pv 11) (pa_cons (pv 2) (pa_cons (pv 3) pa_nil)))))
            · unfold tGb6
              refine pss_cons ?_ ?_
              · exact ps_expr (te := tApp K 4 6) (pe_bm PySem.F.plainAttrs_list PySem.F.slot_list_append PySem.F.type_list_append mt_append (pv 4) (pa_cons (pv 6) pa_nil))
              refine pss_one ?_
              exact ps_set (i := 11) (te := tBoxC K) scGr.nd rfl (Or.inl rfl) (pe_call GB hr2 rfl mB kB bB .nil pass0 (pa_cons (pv 9) (pa_cons (pv 1) pa_nil)))
          refine pss_one ?_
          exact ps_set (i := 6) scGr.nd rfl (Or.inl rfl) (pv 11)
      refine pss_one ?_
      refine ps_ret (te := tGrR) ?_
      unfold tGrR
      exact pe_op op_cat (pe_op op_cat (pv 4) (pv 5)) (pe_lst (pa_cons (pv 6) pa_nil))
    · exact grown_read hS hlen p2 p97 m3 m90 d2 d90 q
end
end S21
/-! exceptions of the program's own classes: `raise C(..)`, a call that passes one on, `try: f(..)` / `except W as e: x = e`, and isinstance of what was caught -/
namespace L2
open PySem PySem.Spec PyProof.Rows
set_option maxRecDepth 100000
theorem ObjOk.obj {P : Program} {w : World} {H : Hp} {h : Heap} {a : Addr} {o : HO} (x : ObjOk P w H h a o) : ∃ u, h.get? a = some u := by
  cases o with
  | lst xs => exact let ⟨_, _, _, _, e⟩ := x; ⟨_, e⟩
  | tup xs => exact let ⟨_, _, _, u, e, _⟩ := x; ⟨u, e⟩
  | dK kvs => exact let ⟨_, _, _, _, u, _, _, e, _⟩ := x; ⟨u, e⟩
  | dT kvs => exact let ⟨_, _, _, _, u, _, _, e, _⟩ := x; ⟨u, e⟩
  | set S n => exact let ⟨u, _, _, _, e, _⟩ := x; ⟨u, e⟩
  | ins C dx fs => exact let ⟨_, _, _, e, _⟩ := x; ⟨_, e⟩
  | own y => exact x
  | xd fs => exact let ⟨_, ⟨u, _, _, e, _⟩, _⟩ := x; ⟨u, e⟩
  | rng lo hi => exact let ⟨_, _, _, e⟩ := x; ⟨_, e⟩
  | frz ob u => exact ⟨_, x.1⟩
  | tbl ps => exact ⟨_, x⟩
  | met f y => exact ⟨_, x⟩
  | ext φ => exact x.2.1
/-- an exception, caught: of its object the class is known -/
noncomputable def exO (C a : Addr) : HO := .ext fun h => ∃ o, h.get? a = some o ∧ o.cls = .ref C
/-- an exception of the class at C flies to the callers -/
inductive CX1 (P : Program) (w : World) (C : Addr) (outer : List Env) (H : Hp) (s : Shared) (E : XK) (e : Value) (s' : Shared) : Prop where
  | mk (ea : Addr) (B : Heap) (a0 : Value) (H' : Hp) (q0 : e = .ref ea) (q1 : s'.os = s.os) (q2 : AllBare s'.gens) (q3 : Un (frs outer) [] H H' s.heap s'.heap) (q4 : HOk P w H' s'.heap)
      (q5 : Heap.FlyingW B outer ea (.ref C) a0 s'.heap) (q6 : ∀ b u, H' b = some u → ∃ o, B.get? b = some o)
      (q7 : ∀ b o, s.heap.get? b = some o → b ∉ frs outer → ∃ o', B.get? b = some o' ∧ (H b = none → o' = o)) (q8 : E (.ref C) none H') : CX1 P w C outer H s E e s'
section
variable {P : Program} {w : World} {fs fs' : List Addr} {H H1 : Hp} {h h1 h2 B : Heap}
theorem Un.fly (u : Un fs' [] H H1 h h1) (k : B.StaysIn h2) (q7 : ∀ b o, h.get? b = some o → b ∉ fs → ∃ o', B.get? b = some o' ∧ (H b = none → o' = o))
    (sl : ∀ b o, b ∈ fs → h.get? b = some o → ∃ z, h2.get? b = some { o with slots := z }) : Un fs [] H H1 h h2 where
  keep := fun b o q n hb _ => let ⟨o', e, z⟩ := q7 b o q hb; k b o (z n ▸ e)
  slot := fun b o q _ hb _ => sl b o hb q
  free := u.free
  there := fun b o q _ => by
    by_cases hb : b ∈ fs
    · exact let ⟨_, e⟩ := sl b o hb q; ⟨_, e⟩
    · exact let ⟨o', e, _⟩ := q7 b o q hb; ⟨o', k b o' e⟩
  tups := u.tups
  frzs := u.frzs
  tbls := u.tbls
theorem HOk.fly (x : HOk P w H h1) (q6 : ∀ b u, H b = some u → ∃ o, B.get? b = some o) (k1 : B.StaysIn h1) (k2 : B.StaysIn h2) : HOk P w H h2 := fun a o e =>
  (x a o e).stay (fun b u hb q => by
    have t : ∃ v, B.get? b = some v := by
      rcases hb with rfl | hb
      · exact q6 _ _ e
      · exact q6 _ _ hb
    obtain ⟨v, hv⟩ := t
    have z := k1 b v hv
    rw [q] at z
    cases z
    exact k2 b _ hv) (fun _ q => q) fun _ _ q => q
end
theorem frs_in {l : List Env} : ∀ env ∈ l, ∀ a, env.frame = some a → a ∈ frs l := fun env he a ha => List.mem_filterMap.mpr ⟨env, he, ha⟩

section
variable {P : Program} {w : World} {K : PySem.W.Frag} {mg : Str → Option Value} {base : Heap} {N : List Str} {qual : Str} {scope : Scope} {f C : Addr} {cd : Value} {A : Around} {outer : List Env} {s : Shared} {H : Hp} {E : XK}
/-- made here: it leaves the frame -/
theorem raise1 {pins : List (Addr × Obj)} {σ : St} {H1 : Hp} {s1 : Shared} {h' : Heap} {ea : Addr} {us : List Value} (I : Inv (cxOf (CX1 P w C) P w K mg base N qual scope f cd A outer s H E) pins σ H1 s1)
    (hx : Heap.MadeExcOf s1.heap h' ea (.ref C) us) (hE : E (.ref C) none H1) : (cxOf (CX1 P w C) P w K mg base N qual scope f cd A outer s H E).xe (.ref ea) { s1 with heap := h' } := by
  have stk := I.stack
  have fre := I.stkFree
  have bas : Un (frs outer) [] H H1 s.heap s1.heap := I.base
  have fun1 : s1.heap.FunFrames base outer := I.funs
  have hok1 : HOk P w H1 s1.heap := I.hok
  have os1 : s1.os = s.os := I.os
  have frm : (A.deeper (envOfC qual scope s.heap.objs.size f cd)).frames = some (envOfC qual scope s.heap.objs.size f cd :: outer) := I.ok.frames
  have bare := I.bare
  replace stk : s1.heap.FunFrames base (envOfC qual scope s.heap.objs.size f cd :: outer) := stk
  replace fre : ∀ b ∈ frs (envOfC qual scope s.heap.objs.size f cd :: outer), H1 b = none := fre
  have hin : ∀ b, b ∈ frs (envOfC qual scope s.heap.objs.size f cd :: outer) → b = s.heap.objs.size ∨ b ∈ frs outer := fun b hb => List.mem_cons.mp hb
  refine wpAny_leaves_madeW (base := PySem.W.hideAll s1.heap (frs (envOfC qual scope s.heap.objs.size f cd :: outer))) (h := s1.heap) frm rfl (fun b o q => PySem.W.of_hideAll _ q) (PySem.W.funFrames_hide stk frs_in) hx fun h2 t fly _ _ up => ?_
  have q7 : ∀ b o, s.heap.get? b = some o → b ∉ frs outer → ∃ o', (PySem.W.hideAll s1.heap (frs (envOfC qual scope s.heap.objs.size f cd :: outer))).get? b = some o' ∧ (H b = none → o' = o) := fun b o q hb => by
    obtain ⟨o1, e1⟩ := bas.there b o q (by simp)
    refine ⟨o1, PySem.W.hideAll_get _ e1 fun z => (hin b z).elim (Nat.ne_of_lt (Heap.lt_size q)) hb, fun n => ?_⟩
    have e2 := bas.keep b o q n hb (by simp)
    rw [e1] at e2
    exact Option.some.inj e2
  have q6 : ∀ b u, H1 b = some u → ∃ o, (PySem.W.hideAll s1.heap (frs (envOfC qual scope s.heap.objs.size f cd :: outer))).get? b = some o := fun b u e => by
    obtain ⟨o, q⟩ := (hok1 b u e).obj
    exact ⟨o, PySem.W.hideAll_get _ q fun z => by rw [fre b z] at e; cases e⟩
  refine ⟨ea, _, _, H1, rfl, os1, bare, Un.fly bas fly.1 q7 (fun b o hb q => ?_), HOk.fly hok1 q6 (fun b o q => PySem.W.of_hideAll _ q) fly.1, fly, q6, q7, hE⟩
  obtain ⟨_, o2, ho2, nf⟩ := fun1.mem hb
  obtain ⟨z, e1⟩ := bas.any q (by
    have := I.ok.frf b hb
    exact this) (by simp)
  rw [ho2] at e1
  cases e1
  obtain ⟨z2, e3⟩ := up b _ (hx.keeps b _ ho2) nf
  exact ⟨z2, e3⟩
/-- a callee's: it goes on -/
theorem pass1 : Passes (CX1 P w C) (cxOf (CX1 P w C) P w K mg base N qual scope f cd A outer s H E) E := by
  intro pins σ H1 s1 e s' I hq
  obtain ⟨ea, B, a0, H', rfl, os, bare, un, hok, fly, q6, q7, q8⟩ := hq
  have bas : Un (frs outer) [] H H1 s.heap s1.heap := I.base
  have os1 : s1.os = s.os := I.os
  have frm : (A.deeper (envOfC qual scope s.heap.objs.size f cd)).frames = some (envOfC qual scope s.heap.objs.size f cd :: outer) := I.ok.frames
  have hfr0 : ∀ b ∈ frs outer, H b = none := I.ok.frf
  replace un : Un (frs (envOfC qual scope s.heap.objs.size f cd :: outer)) [] H1 H' s1.heap s'.heap := un
  replace fly : Heap.FlyingW B (envOfC qual scope s.heap.objs.size f cd :: outer) ea (.ref C) a0 s'.heap := fly
  replace q7 : ∀ b o, s1.heap.get? b = some o → b ∉ frs (envOfC qual scope s.heap.objs.size f cd :: outer) → ∃ o', B.get? b = some o' ∧ (H1 b = none → o' = o) := q7
  have sub : ∀ b, b ∈ frs outer → b ∈ frs (envOfC qual scope s.heap.objs.size f cd :: outer) := fun b hb => List.mem_cons_of_mem _ hb
  have hin : ∀ b, b ∈ frs (envOfC qual scope s.heap.objs.size f cd :: outer) → b = s.heap.objs.size ∨ b ∈ frs outer := fun b hb => List.mem_cons.mp hb
  refine wpAny_leaves_onW frm rfl fly fun h2 fly2 up => ?_
  have q7' : ∀ b o, s.heap.get? b = some o → b ∉ frs outer → ∃ o', B.get? b = some o' ∧ (H b = none → o' = o) := fun b o q hb => by
    obtain ⟨o1, e1⟩ := bas.there b o q (by simp)
    obtain ⟨o', e2, z⟩ := q7 b o1 e1 fun z => (hin b z).elim (Nat.ne_of_lt (Heap.lt_size q)) hb
    refine ⟨o', e2, fun n => ?_⟩
    rw [z (bas.free b o q n (by simp))]
    have e3 := bas.keep b o q n hb (by simp)
    rw [e1] at e3
    exact Option.some.inj e3
  refine ⟨ea, B, a0, H', rfl, os.trans os1, bare, Un.fly ((bas.mono sub (fun _ z => z)).trans un) fly2.1 q7' (fun b o hb q => ?_), HOk.fly hok q6 fly.1 fly2.1, fly2, q6, q7', q8⟩
  obtain ⟨z1, e1⟩ := bas.any q (hfr0 b hb) (by simp)
  obtain ⟨z2, e2⟩ := un.any e1 (bas.free b o q (hfr0 b hb) (by simp)) (by simp)
  obtain ⟨_, o3, ho3, nf⟩ := fly.2.2.1.mem (sub b hb)
  rw [ho3] at e2
  cases e2
  obtain ⟨z3, e3⟩ := up b _ ho3 nf
  exact ⟨z3, e3⟩
end
section
variable {P : Program} {w : World} {K : PySem.W.Frag} {mg : Str → Option Value} {base : Heap}
/-- a def whose body may be left by an exception -/
theorem Fun.okX {CX : CXT} {x qual : Str} {st : Stmt} {f : Addr} {fd : FuncData} {N ps : List Str} {k : Nat} {sp : Sp} (F : Fun K x qual st f fd) (S : FnScope N ps (defScope st)) (len : ∀ vs H Q E, sp vs H Q E → vs.length = ps.length)
    (hb : ∀ (cdv : Value) (A : Around) (outer : List Env) (s : Shared) (H : Hp) (vs : List V) (Q : VK) (E : XK), Room k (A.deeper (envOfC qual (defScope st) s.heap.objs.size f cdv)) → sp vs H Q E →
      ∃ t, PSs (cxOf CX P w K mg base N qual (defScope st) f cdv A outer s H E) (defBody st) t ∧ t { nx := fun _ H' => Q .non H', rt := Q } (start N vs) H) : FnOk P w K mg base CX (k + 1) f fd ps sp := by
  obtain ⟨oc, od, kV, doc, pm, an, cdv, ct, osl, rfl, lk, hcd⟩ := F.ex
  exact fn_of lk hcd S len fun A outer s H vs Q E hr hsp => hb cdv A outer s H vs Q E hr hsp
end
/-! ### raise C(..) -/
theorem own_obj {K : PySem.W.Frag} {h : Heap} {C : Addr} {bmB : List Value} {newId : String} (X : K.In h) (q : PySem.W.excIn K C bmB newId = true) :
    ∃ bm N nm q bs hdct sn sub ab col dd k0 k1 k2 k3 k5 mN, h.get? C = some (excClassObj nm q C N bs bm hdct sn sub ab col dd k0 k1 k2 k3 k5 newId) ∧ h.Ns N mN ∧ mN "__init__" = none ∧ OwnTail h bmB bm := by
  unfold PySem.W.excIn at q
  split at q
  case h_2 => exact nomatch q
  case h_1 dd cd sl ho =>
    split at q
    case h_2 => exact nomatch q
    case h_1 C' bm k0 k1 k2 k3 n k5 hm hs =>
      rw [Bool.and_eq_true, Bool.and_eq_true, Bool.and_eq_true, Bool.and_eq_true, Bool.and_eq_true] at q
      obtain ⟨⟨⟨⟨⟨e1, e2⟩, e3⟩, e4⟩, e5⟩, e6⟩ := q
      have e1 : C' = C := beq_iff_eq.mp e1
      have e2 : n = newId := beq_iff_eq.mp e2
      have e3 : cd.hasDel = false := by simpa using e3
      have e6 := beq_iff_eq.mp e6
      subst e1 e2
      obtain ⟨nm, bs, mr, ns, qn, hd, sn, sub, ab, col, dl⟩ := cd
      have hm : mr = .ref C' :: bm := hm
      have e3 : dl = false := e3
      have es : sl = #[k0, k1, k2, k3, some (.builtin n), k5] := Array.toList_inj.mp hs
      subst hm e3 es
      exact ⟨bm, ns, nm, qn, bs, hd, sn, sub, ab, col, dd, k0, k1, k2, k3, k5, _, X _ _ ho, .of_isNs (PySem.W.isNs_of_in X e5), PySem.W.nsMap_none_of_in X e5 e6, PySem.W.tail_of_in X e4⟩
section
variable {X : Cx} {x : Str} {np cpos pos : Pos} {C : Addr} {bmB : List Value} {B newId initId : String} {e₀ : Expr} {rest : List Expr} {t : TA} {E : XK}
theorem ps_raise (hc : X.calm = true) (hg : Gl X x) (hmC : X.mg x = some (.ref C)) (hin : PySem.W.excIn X.K C bmB newId = true) (FB : ExcBaseFacts B newId initId bmB) (ha : PA X (e₀ :: rest) t)
    (hE : ∀ {pins : List (Addr × Obj)} {σ : St} {H : Hp} {s : Shared} {h' : Heap} {ea : Addr} {us : List Value}, Inv X pins σ H s → Heap.MadeExcOf s.heap h' ea (.ref C) us → E (.ref C) none H → X.xe (.ref ea) { s with heap := h' })
    (hd : (x == ("__debug__" : Str)) = false := by decide) (he : starEach (e₀ :: rest) X.env = (false, eval e₀ X.env) :: starEach rest X.env := by rfl) (hpl : (backTo cpos (starEach rest X.env)).any (·.1) = false := by rfl) :
    PS X (.Raise (some (.Call (.Name x np) (e₀ :: rest) [] cpos)) none pos) (fun _ σ H => t σ H fun vs H1 => vs.length ≤ sizeLine ∧ E (.ref C) none H1) := by
  intro pins s σ H D I h
  obtain ⟨bm, N, nm, q, bs, hdct, sn, sub, ab, col, dd, k0, k1, k2, k3, k5, mN, hC, hN, hni, T⟩ := own_obj I.ok.mod.kin hin
  have hh := I.ok.hd hc
  have hpp : (backTo cpos (starEach (e₀ :: rest) X.env)).any (·.1) = false := by rw [he]; exact hpl
  refine wpAny_Raise_call_subT (nm := nm) (q := q) (C := C) (N := N) (bs := bs) (bm := bm) (hdct := hdct) (sn := sn) (sub := sub) (ab := ab) (col := col) (dd := dd) (k0 := k0) (k1 := k1) (k2 := k2) (k3 := k3) (k5 := k5) (mN := mN) FB (T.hasType FB.hasBase) hh hpp hni ?_
  refine ld_glob I hg hmC ⟨rfl, ?_⟩ hd
  have hpa := ha cpos pins s σ H _ I h
  rw [he] at hpa ⊢
  exact Calls.evalArgs_plain (thn hpa fun us s1 ⟨vs, H1, I1, r, z, q1⟩ => ⟨rfl, r.length ▸ z, I1.bk _ _ hC, hN.keeps I1.bk, T.keeps I1.bk, fun h' e hm => hE I1 hm q1⟩)
end
/-! ### a name goes -/
theorem Inv.goes {X : Cx} {pins : List (Addr × Obj)} {σ : St} {H : Hp} {s : Shared} {h' : Heap} {n : Str} {i tk : Nat} {m : Str → Option Value} {v : Option Value} (I : Inv X pins σ H s) (hN : X.N.Nodup) (hi : X.N[i]? = some n)
    (hm : ∀ (j : Nat) (x : Str) (v : V), X.N[j]? = some x → σ[j]? = some (some v) → Vis X.env.scope x → ∃ u, RelV v u ∧ Look X.env s.heap m x u)
    (hn : s.heap.Ns X.env.locals m) (hn' : h'.Ns X.env.locals (fun x => if x = n then v else m x)) (hs : Heap.SameBut X.env.locals s.heap h') : Inv X pins (σ.set i none) H { s with heap := h', toks := tk } := by
  obtain ⟨oL, _, _, hoL, _⟩ := id hn
  have ne0 : ∀ b o, X.s₀.heap.get? b = some o → b ≠ X.env.locals := fun b o e => Nat.ne_of_lt (Nat.lt_of_lt_of_le (Heap.lt_size e) I.ok.above)
  refine ⟨I.ok, I.os, I.bare, ⟨fun b o e n hb hx => ?_, fun b o e n hb hx => ?_, I.base.free, fun b o e hx => ?_, I.base.tups, I.base.frzs, I.base.tbls⟩, ⟨_, hn', fun j y v' e1 e2 e3 => ?_⟩, fun y c e => ?_, I.free, I.freeC, fun p hp => ?_, ?_, by simpa using I.len⟩
  · exact (hs.2 b (ne0 b o e)).trans (I.base.keep b o e n hb hx)
  · exact let ⟨sl, z⟩ := I.base.slot b o e n hb hx; ⟨sl, (hs.2 b (ne0 b o e)).trans z⟩
  · exact let ⟨o', z⟩ := I.base.there b o e hx; ⟨o', (hs.2 b (ne0 b o e)).trans z⟩
  · by_cases hj : j = i
    · subst hj
      rw [List.getElem?_set] at e2
      rw [if_pos rfl] at e2
      split at e2 <;> cases e2
    · rw [List.getElem?_set_ne (Ne.symm hj)] at e2
      obtain ⟨u, r, q⟩ := hm j y v' e1 e2 e3
      refine ⟨u, r, ?_⟩
      rcases q with ⟨k, e⟩ | ⟨k, c, e, z⟩
      · have nyn : y ≠ n := fun z => hj (nodup_ix hN e1 (z ▸ hi))
        exact .inl ⟨k, by show (if y = n then v else m y) = some u; rw [if_neg nyn]; exact e⟩
      · exact .inr ⟨k, c, e, z.sameBut hs (I.cne y c e)⟩
  · exact let ⟨w, z⟩ := I.cell y c e; ⟨w, z.sameBut hs (I.cne y c e)⟩
  · exact let ⟨e, n, ne, r⟩ := I.pin p hp; ⟨(hs.2 p.1 ne).trans e, n, ne, r⟩
  · intro b ob e
    have nl : ∀ c, H c ≠ none → c ≠ X.env.locals := fun c z q => z (q ▸ I.free)
    refine (I.hok b ob e).stay (fun c u hc q => (hs.2 c (nl c ?_)).trans q) (fun _ q => q) fun _ _ q => q
    rcases hc with rfl | hc
    · rw [e]; exact fun z => nomatch z
    · rw [hc]; exact fun z => nomatch z
end L2
namespace L2
open PySem PySem.Spec PyProof.Rows
/-! ### over a list or a tuple, told by a bool -/
end L2
namespace L2
open PySem PySem.Spec PyProof.Rows
open PySem.W (Looks)
open PySem.Builtin PySem.Builtin.ObjectAttr PySem.Builtin.Getset_descriptor
set_option maxRecDepth 100000
theorem upd_exO {P : Program} {w : World} {H : Hp} {h : Heap} {C ea : Addr} {o : Obj} (x : HOk P w H h) (hn : H ea = none) (e : h.get? ea = some o) (c : o.cls = .ref C) : HOk P w (upd H ea (exO C ea)) h := fun b u q => by
  by_cases hb : b = ea
  · subst hb
    rw [upd_same] at q
    cases q
    exact ⟨⟨o, e, c⟩, ⟨o, e⟩, fun h1 h2 ⟨o1, z1, z2⟩ k => ⟨o1, k o1 z1, z2⟩⟩
  · rw [upd_ne hb] at q
    exact (x b u q).stay (fun _ _ _ z => z) (fun c z => by rw [upd_ne (ne_of_none z hn)]; exact z) fun c xs z => by rw [upd_ne (ne_of_none z hn)]; exact z
theorem Un.more {fs : List Addr} {H H1 : Hp} {h h1 : Heap} {ea : Addr} {u : HO} (x : Un fs [] H H1 h h1) (hn : H1 ea = none) (hne : ∀ b o, h.get? b = some o → H b = none → b ≠ ea) : Un fs [] H (upd H1 ea u) h h1 where
  keep := x.keep
  slot := x.slot
  free := fun b o q n z => by rw [upd_ne (hne b o q n)]; exact x.free b o q n z
  there := x.there
  tups := fun b xs q => by rw [upd_ne (ne_of_none (x.tups b xs q) hn)]; exact x.tups b xs q
  frzs := fun b o xs q => by rw [upd_ne (ne_of_none (x.frzs b o xs q) hn)]; exact x.frzs b o xs q
  tbls := fun b ps q => let ⟨m, z⟩ := x.tbls b ps q; ⟨m, by rw [upd_ne (ne_of_none z hn)]; exact z⟩
section
variable {X : Cx} {C W ea : Addr} {pins : List (Addr × Obj)} {σ : St} {H1 H' : Hp} {s1 s' : Shared} {B : Heap} {a0 : Value}
/-- what was flying has come to this frame: the state, and the exception as a thing of it -/
theorem Inv.caught {h2 : Heap} {tk : Nat} (I : Inv X pins σ H1 s1) (os : s'.os = s1.os) (bare : AllBare s'.gens) (un : Un (frs X.stack) [] H1 H' s1.heap s'.heap) (hok : HOk X.prog X.w H' s'.heap) (fly : Heap.FlyingW B X.stack ea (.ref C) a0 s'.heap)
    (q6 : ∀ b u, H' b = some u → ∃ o, B.get? b = some o) (q7 : ∀ b o, s1.heap.get? b = some o → b ∉ frs X.stack → ∃ o', B.get? b = some o' ∧ (H1 b = none → o' = o))
    (fly2 : Heap.FlyingW B X.stack ea (.ref C) a0 h2) (up : s'.heap.UpToSlots h2) : H' ea = none ∧ Inv X pins σ H' { s' with heap := h2, toks := tk } ∧ Inv X pins σ (upd H' ea (exO C ea)) { s' with heap := h2, toks := tk } := by
  have hB : B.get? ea = none := fly.2.1
  have hn : H' ea = none := by
    cases e : H' ea with
    | none => rfl
    | some u =>
      obtain ⟨o, z⟩ := q6 _ _ e
      rw [hB] at z
      cases z
  have hne : ∀ b o, s1.heap.get? b = some o → H1 b = none → b ≠ ea := fun b o q _ z => by
    subst z
    by_cases hb : b ∈ frs X.stack
    · obtain ⟨_, o1, e1, nf⟩ := fly.2.2.1.mem hb
      obtain ⟨oe, vs, _, _, _, e2, _, hd, _⟩ := fly.2.2.2
      rw [e1] at e2
      cases e2
      exact nf vs hd
    · obtain ⟨o', e, _⟩ := q7 b o q hb
      rw [hB] at e
      cases e
  have u2 : Un (frs X.stack) [] H1 H' s1.heap h2 := Un.fly un fly2.1 q7 fun b o hb q => by
    obtain ⟨z1, e1⟩ := un.any q (I.stkFree b hb) (by simp)
    obtain ⟨_, o3, ho3, nf⟩ := fly.2.2.1.mem hb
    rw [ho3] at e1
    cases e1
    exact let ⟨z3, e3⟩ := up b _ ho3 nf; ⟨z3, e3⟩
  have k2 := HOk.fly hok q6 fly.1 fly2.1
  obtain ⟨oe, he, hc⟩ := fly2.there
  have no : ∀ b ∈ ([] : List Addr), (b ∈ X.ex ∨ X.s₀.heap.objs.size ≤ b) ∧ b ≠ X.env.locals ∧ (∀ x c, X.env.cells.lookup x = some c → c ≠ b) ∧ ∀ p ∈ X.pn ++ pins, p.1 ≠ b := fun b z => nomatch z
  exact ⟨hn, I.call' (s' := { s' with heap := h2, toks := tk }) os u2 k2 bare no, I.call' (s' := { s' with heap := h2, toks := tk }) os (u2.more hn hne) (upd_exO k2 hn he hc) bare no⟩
end
section
variable {X : Cx} {C W f : Addr} {k : Nat} {fd : FuncData} {ps : List Str} {sp : Sp} {x wn n y : Str} {p cp ep wp np yp ap hp pos : Pos} {e : Expr} {es : List Expr} {t : TA} {ix ie : Nat}
end
/-! ### isinstance of an exception -/
structure ExcK (K : PySem.W.Frag) (C : Addr) : Prop where
  cls : (PySem.W.clsIn K C).isSome = true
  ga : PySem.W.findIn K (.ref C) "__getattribute__" = some (some (.builtin "BaseException.__getattribute__"))
  gt : PySem.W.findIn K (.ref C) "__getattr__" = some none
  cl : PySem.W.findIn K (.ref C) "__class__" = some (some (.builtin "object.__class__"))
  gn : PySem.W.specialIn K (.builtin "object.__class__") "__get__" = some (some (.builtin "getset_descriptor.__get__"))
  tk : PySem.W.takesIn K (.builtin "object.__class__") = some true
  mo : PySem.W.mroIn K C (.type "object") = some true
  mb : PySem.W.mroIn K C (.type "BaseException") = some true
noncomputable def ExcAt (C a : Addr) (h : Heap) : Prop := ∃ o, h.get? a = some o ∧ o.cls = .ref C
section
variable {prog : Program} {w : World} {A : Around} {E : Value → Shared → Prop} {K : PySem.W.Frag} {C a : Addr}
theorem ExcAt.ty {M : Model} {h : Heap} (p : ExcAt C a h) : Looks M h (typeOf (.ref a)) (.ref C) := by
  obtain ⟨o, h1, h2⟩ := p
  exact h2 ▸ Looks.andThen (Looks.ld h1) .now
theorem exc_get {R : Result → Shared → Prop} {s : Shared} {tp : Value} (X : K.In s.heap) (Z : ExcK K C) (p : ExcAt C a s.heap) (h : R (.ok (.ret (.ref C))) s) :
    codeAny (model prog w) A (.call (.builtin "getset_descriptor.__get__") ⟨[.builtin "object.__class__", .ref a, tp], []⟩) R s := by
  obtain ⟨hh, g, d, t, os⟩ := s
  have T0 := p.ty (M := model prog w)
  have T1 := PySem.W.looks_mroIn (M := model prog w) X Z.mo
  refine codeAny_call_builtin PySem.W.KF.slot_gs.plain PySem.W.KF.entry_gs (PySem.W.KF.slot_gs.check _ _ _ _ _ _ _ _ PySem.W.KF.type_class (PySem.W.KF.args_gs _ _ _) ?_)
  unfold Builtin.«getset_descriptor.__get__»; unfold descrGet
  rw [PySem.W.dga_obj]
  refine wpAny_bind (wpAny_pure ?_)
  unfold descrGetter descrCheckInstance; unfold descrNameAndClass isInstance
  simp only [PySem.W.KF.owner_class]
  repeat lk
  refine ⟨Code.quiet_builtin _ (by decide +kernel), codeAny_builtin PySem.W.KF.entry_class ?_⟩
  unfold Builtin.«object.__class__»; unfold shownTypeOf
  repeat lk
  exact h
theorem exc_find {M : Model} {h : Heap} (X : K.In h) (Z : ExcK K C) : Looks M h (find (.ref a) (.ref C) "__class__") (.bind (.builtin "getset_descriptor.__get__") (.builtin "object.__class__")) := by
  have L3 := PySem.W.looks_takesIn (M := M) X Z.tk
  refine (PySem.W.looks_findIn (M := M) X Z.cl).andThen ((show Looks M h (getOf (some (.builtin "object.__class__"))) _ from PySem.W.looks_specialIn X Z.gn).andThen ?_)
  exact (show Looks M h (dataDescriptor? (some (.builtin "object.__class__")) (some (.builtin "getset_descriptor.__get__"))) (some (.builtin "getset_descriptor.__get__", .builtin "object.__class__")) from L3.andThen .now).andThen (Looks.tag .now)
theorem exc_check {M : Model} {nm : Value} {s : Shared} {Q : Unit → Shared → Prop} (TB : Looks M s.heap (isInstance (.ref a) (.type "BaseException")) true) (q : Q () s) :
    wpAny M A (checkBuiltinCall "BaseException.__getattribute__" ⟨[.ref a, nm], []⟩) Q E s := by
  have k1 : builtinKind "BaseException.__getattribute__" = some .slot := by decide +kernel
  have k2 : splitId "BaseException.__getattribute__" = some ("BaseException", "__getattribute__") := by decide +kernel
  exact @PySem.W.check_slot M A E s "BaseException.__getattribute__" "BaseException" "__getattribute__" (.ref a) [nm] [] Q k1 k2 TB (PySem.F.args_bexc_ga (.ref a) nm) q
theorem exc_look {tk : Tok} {Q : Fin → Shared → Prop} {s : Shared} (X : K.In s.heap) (Z : ExcK K C) (p : ExcAt C a s.heap) (h : Q (.done (.ret (.ref C))) s) : wpAny (model prog w) A (Builtin.«object.__getattribute__» ⟨[.ref a, .str "__class__" tk], []⟩) Q E s := by
  obtain ⟨hh, g, d, t, os⟩ := s
  have T0 := p.ty (M := model prog w)
  have T3 := exc_find (a := a) (M := model prog w) X Z
  unfold Builtin.«object.__getattribute__»; refine wpAny_bind (wpAny_pure ?_)
  refine wpAny_bind (wpAny_pure ?_)
  refine wpAny_bind (T0.at (wpAny_bind (T3.at ?_)))
  dsimp only
  show wpAny _ _ (holding [_] (call _ [_, _, _]) >>= ret) _ _ _
  exact wpAny_bind (wpAny_holding (wpAny_call (exc_get (s := ⟨hh, g, d, t, os⟩) X Z p (wpAny_pure h))))
theorem exc_class {Q : Option Value → Shared → Prop} {s : Shared} (X : K.In s.heap) (Z : ExcK K C) (p : ExcAt C a s.heap) (h : Q (some (.ref C)) { s with toks := s.toks + 1 }) : wpAny (model prog w) A (getAttr? (.ref a) "__class__") Q E s := by
  obtain ⟨hh, g, d, t, os⟩ := s
  have T0 := p.ty (M := model prog w)
  have T1 := PySem.W.looks_findIn (M := model prog w) X Z.ga
  have T2 := PySem.W.looks_findIn (M := model prog w) X Z.gt
  have T3 := exc_find (a := a) (M := model prog w) X Z
  have TB : Looks (model prog w) hh (isInstance (.ref a) (.type "BaseException")) true := T0.andThen (PySem.W.looks_mroIn X Z.mb)
  unfold getAttr?; unfold getAttrBy? getAttrBy
  refine wpAny_bind (wpAny_mkText (wpAny_bind (wpAny_attempt (wpAny_holding (wpAny_bind (T0.at (wpAny_bind (T1.at ?_))))))))
  show wpAny _ _ (getAttrByItsOwn _ _ _ _ _ _) _ _ _
  unfold getAttrByItsOwn
  refine wpAny_bind (T2.at (wpAny_bind (wpAny_attempt (wpAny_holding ?_))))
  show wpAny _ _ (boundAndCalled _ _ _) _ _ _
  unfold boundAndCalled
  rw [PySem.F.attr_ValueError.ga.bind (.ref a)]
  refine wpAny_bind (wpAny_pure ?_)
  refine wpAny_call (codeAny_call_builtin PySem.F.attr_ValueError.ga.plain PySem.F.entry_bexc_ga ?_)
  dsimp only [List.cons_append, List.nil_append]
  refine exc_check (s := ⟨hh, g, d, t + 1, os⟩) TB ?_
  refine exc_look (s := ⟨hh, g, d, t + 1, os⟩) X Z p ?_
  refine PySem.W.handed_on rfl ?_
  exact wpAny_pure h
theorem kitx_exc (Z : ExcK K C) : PySem.W.KitX K (.ref a) (.ref C) (ExcAt C a) where
  ty := fun _ _ _ p => p.ty
  it := fun M h X p => by
    obtain ⟨cd, hc⟩ := Option.isSome_iff_exists.mp Z.cls
    unfold PySem.W.clsIn at hc
    split at hc
    · rename_i ho
      intro A' Q' E' s' k q
      unfold isType loadHead
      exact wpAny_bind (wpAny_loadPart (k _ _ (X C _ ho)) (wpAny_pure q))
    · cases hc
  ne := fun h tp dd is n sl X htp => by
    refine Bool.eq_false_iff.mpr (fun q => ?_)
    have e : C = tp := Value.ref.inj (beq_iff_eq.mp q)
    subst e
    obtain ⟨cd, hc⟩ := Option.isSome_iff_exists.mp Z.cls
    unfold PySem.W.clsIn at hc
    split at hc
    · rename_i ho
      have z := (X C _ ho).symm.trans htp
      cases z
    · cases hc
  ca := fun X p k => exc_class X Z p k
end
theorem call_isinstX {X : Cx} {C : Addr} {c : Value} {cv : V} {b : Bool} (Z : ExcK X.K C) (hc : ∀ u, RelV cv u → u = c) (e : PySem.W.kitOne X.K (.ref C) c = some b) :
    CallR X (.builtin "isinstance") (fun xs H Q => ∃ a, xs = [.ref a, cv] ∧ H a = some (exO C a) ∧ Q (.bl b) H) := by
  intro pins s σ H vs us Q I r h
  obtain ⟨a, rfl, ha, q⟩ := h
  obtain ⟨u, v, rfl, ru, rv⟩ := vals2 r
  cases (show u = Value.ref a from ru)
  cases hc v rv
  exact PySem.W.kia_one (kitx_exc Z) I.kIn (show ExcAt C a s.heap from (I.hok a _ ha).1) e (fun z => nomatch z) fun tk => ⟨.bl b, H, I.tok tk, rfl, q⟩
section
variable {X : Cx} (K : PySem.W.Frag) (hK : X.K = K)
include hK
theorem cIsX {C D : Addr} {b : Bool} (Z : ExcK K C) (e : PySem.W.kitOne K (.ref C) (.ref D) = some b) : CallR X (.builtin "isinstance") (fun xs H Q => ∃ a, xs = [.ref a, .ref D] ∧ H a = some (exO C a) ∧ Q (.bl b) H) := by
  subst hK
  exact call_isinstX (cv := .ref D) Z (fun u z => z) e
theorem cIsV {C : Addr} {T : String} {b : Bool} (Z : ExcK K C) (e : PySem.W.kitOne K (.ref C) (.type T) = some b) : CallR X (.builtin "isinstance") (fun xs H Q => ∃ a, xs = [.ref a, .ty T] ∧ H a = some (exO C a) ∧ Q (.bl b) H) := by
  subst hK
  exact call_isinstX (cv := .ty T) Z (fun u z => z) e
end
theorem bt_ValueError : bootBuiltins "ValueError" = some (.type "ValueError") := by decide +kernel
end L2
namespace L2
open PySem PySem.Spec PyProof.Rows
open PySem.W (Looks)
set_option maxRecDepth 100000
/-! ### try: with any body that leaves the names as they are -/
noncomputable def PSx (X : Cx) (C : Addr) (body : List Stmt) (tb : XK → TS) : Prop := ∀ (pins : List (Addr × Obj)) (s : Shared) (σ : St) (H : Hp) (D : Ends) (E : XK), Inv X pins σ H s → tb E D σ H →
  wpAny (model X.prog X.w) X.A (execs body X.env) (SP X pins D) (fun e s' => ∃ H1 s1, Inv X pins σ H1 s1 ∧ CX1 X.prog X.w C X.stack H1 s1 E e s') s
section
variable {X : Cx} {C W f : Addr} {k : Nat} {fd : FuncData} {ps : List Str} {sp : Sp} {x wn n y : Str} {p cp ep wp np yp ap hp pos : Pos} {e : Expr} {es : List Expr} {t : TA} {ix ie : Nat}
theorem psx_call (hno : ∀ u s, X.xe u s → False) (F : FnOk X.prog X.w X.K X.mg X.base (CX1 X.prog X.w C) k f fd ps sp) (hr : Room k X.A) (hg : Gl X x) (hm : X.mg x = some (.ref f)) (hk : PySem.W.keepIn X.K (.ref f) = true) (hb : Binds X.K fd ps []) (ha : PA X (e :: es) t)
    (hdb : (x == ("__debug__" : Str)) = false := by decide)
    (he : starEach (e :: es) X.env = (false, eval e X.env) :: starEach es X.env := by rfl) (hpl : (backTo cp (starEach es X.env)).any (·.1) = false := by rfl)
    (hs : swapsWith (.Call (.Name x p) (e :: es) [] cp) none ep.line X.env = pure false := by rfl) :
    PSx X C [.Expr (.Call (.Name x p) (e :: es) [] cp) ep] (fun E D σ H => t σ H fun vs H1 => sp vs H1 (fun _ H' => D.nx σ H') E) := by
  intro pins s σ H D E I h
  refine wpAny_execs_cons (wpAny_Expr_any (wpAny_Call_Name_kw (ld_glob I hg hm ?_ hdb)) I.quiet hs)
  refine PySem.W.callWith_K (h₀ := X.base) I.ok.mod.kin hk (wpAny_mono (ha cp pins s σ H _ I h) (fun us s1 ⟨vs, H1, I1, r, q⟩ => ⟨I1.kIn, ?_⟩) fun _ _ z => (hno _ _ z).elim) he hpl
  have hl : us.length = ps.length := by rw [← r.length]; exact F.len _ _ _ _ q
  have hbb := hb s1 us I1.kIn (by rw [List.append_nil]; exact hl)
  rw [List.append_nil] at hbb
  refine wpAny_call (codeAny_mono (F.run X.A X.stack s1 H1 ⟨us, []⟩ us vs _ _ hr I1.env0 hbb r q) fun r s' hq => ?_)
  cases r with
  | ok fl =>
    cases fl with
    | ret u =>
      obtain ⟨v, H', I', _, q'⟩ := I1.after hq
      exact wpAny_execs_nil ⟨σ, H', I', q'⟩
    | next => exact False.elim hq
    | brk => exact False.elim hq
    | cont => exact False.elim hq
  | error e => exact ⟨H1, s1, I1, hq⟩
theorem psx_if {c : Expr} {a b : List Stmt} {tc : TT} {ta tb : XK → TS} (hno : ∀ u s, X.xe u s → False) (hc : PT X c tc) (ha : PSx X C a ta) (hb : PSx X C b tb) : PSx X C [.If c a b pos] (fun E => tIfS tc (ta E) (tb E)) := by
  intro pins s σ H D E I h
  refine wpAny_execs_cons (wpAny_If (wpAny_mono (hc pins s σ H _ I h) (fun d s1 ⟨H1, I1, q1⟩ => ?_) fun _ _ z => (hno _ _ z).elim))
  have fin : ∀ (f : Flow) (s2 : Shared), SP X pins D f s2 → SP X pins D f s2 := fun _ _ z => z
  cases d with
  | true =>
    refine thn (ha pins s1 σ H1 D E I1 q1) fun f s2 q => ?_
    cases f with
    | next => exact wpAny_execs_nil q
    | ret v => exact q
    | brk => exact q
    | cont => exact q
  | false =>
    refine thn (hb pins s1 σ H1 D E I1 q1) fun f s2 q => ?_
    cases f with
    | next => exact wpAny_execs_nil q
    | ret v => exact q
    | brk => exact q
    | cont => exact q
/-- `try: body` / `except W as n: y = n` -/
theorem ps_tryX {body : List Stmt} {tb : XK → TS} (hstk : X.stack = X.env :: X.outer) (hfr : X.env.frame = some X.env.locals) (hb : PSx X C body tb)
    (hgw : Gl X wn) (hmw : X.mg wn = some (.ref W)) (hex : PySem.W.exmOne X.K (.ref C) (.ref W) = some true) (hN : X.N.Nodup) (hy : X.N[ix]? = some y) (ly : X.env.scope.names.lookup y = some .local) (hn : X.N[ie]? = some n) (ln : X.env.scope.names.lookup n = some .local) (hxe : ix ≠ ie)
    (hdw : (wn == ("__debug__" : Str)) = false := by decide) (hdn : (n == ("__debug__" : Str)) = false := by decide) (hs2 : swapsWith (.Name n np) (some (.Name y yp)) ap.line X.env = pure false := by rfl) :
    PS X (.Try body [.ExceptHandler (some (.Name wn wp)) (some n) [.Assign [.Name y yp] (.Name n np) ap] hp] [] [] pos)
      (fun D σ H => tb (fun _ _ H' => ∀ ea, H' ea = none → D.nx ((σ.set ix (some (.ref ea))).set ie none) (upd H' ea (exO C ea))) D σ H) := by
  intro pins s σ H D I h
  refine wpAny_Try_except (wpAny_mono (hb pins s σ H D _ I h) (fun f s' q => ?_) fun e s' ⟨H1, s1, I1, hq⟩ => ?_)
  · cases f with
    | next => exact wpAny_execs_nil q
    | ret v => exact q
    | brk => exact q
    | cont => exact q
  obtain ⟨ea, B, a0, H', rfl, os, bare, un, hok, fly, q6, q7, q8⟩ := hq
  have fl1 : Heap.FlyingW B (X.env :: X.outer) ea (.ref C) a0 s'.heap := hstk ▸ fly
  have frm : X.A.frames = some (X.env :: X.outer) := hstk ▸ I1.ok.frames
  refine wpAny_looks_onW frm hfr fl1 fun h4 held up4 => ?_
  refine wpAny_landsW held fun h5 fl5 up5 => ?_
  have up45 := up4.trans up5
  have fly5 : Heap.FlyingW B X.stack ea (.ref C) a0 h5 := by rw [hstk]; exact fl5
  obtain ⟨_, I5, _⟩ := I1.caught (tk := s'.toks) os bare un hok fly q6 q7 fly5 up45
  refine wpAny_handleBy_cons (codeAny_handlers_test ?_) (by intro q; cases q)
  refine Calls.Name_function_global I.ok.kind hgw (Calls.loadGlobal_global (by rw [I.ok.glob]; exact I5.mod.glob.keeps I5.bk) hmw ?_) hdw
  obtain ⟨oe, hoe, hce⟩ := fly5.there
  have LT : Looks (model X.prog X.w) h5 (typeOf (.ref ea)) (.ref C) := hce ▸ (Looks.ld hoe).andThen .now
  refine (PySem.W.exm_one (M := model X.prog X.w) I5.kIn LT hex).here ?_
  refine codeAny_handlers_suite_as (lands_againW fl5 fun h6 fl6 up6 => ?_)
  have fly6 : Heap.FlyingW B X.stack ea (.ref C) a0 h6 := by rw [hstk]; exact fl6
  obtain ⟨hn0, _, I6⟩ := I1.caught (tk := s'.toks) os bare un hok fly q6 q7 fly6 (up45.trans up6)
  refine store_ok I6 hN hn (.inl ln) (v := .ref ea) rfl (fun s7 I7 => ?_) (.inr ln)
  have hlen : ie < σ.length := by rw [I1.len]; exact (List.getElem?_eq_some_iff.mp hn).1
  obtain ⟨m7, hn7, hl7⟩ := I7.loc
  obtain ⟨u7, r7, lk7⟩ := hl7 ie n (.ref ea) hn (List.getElem?_set_self hlen) (.inl ln)
  have lk7' : X.env.kindOf n = some .local ∧ m7 n = some u7 := by
    rcases lk7 with z | ⟨z, _⟩
    · exact z
    · have ln' : X.env.kindOf n = some .local := ln
      rcases z with z | z <;> (rw [ln'] at z; cases z)
  refine wpAny_execs_cons (wpAny_Assign_Name (wpAny_Name (wpAny_loadName_local I.ok.kind lk7'.1 hn7 lk7'.2 ?_) hdn) hs2)
  refine store_ok I7 hN hy (.inl ly) (v := .ref ea) r7 (fun s8 I8 => ?_) (.inr ly)
  refine wpAny_execs_nil ?_
  obtain ⟨m8, hn8, hl8⟩ := id I8.loc
  have hcls : (X.env.scope.kind == .class || (X.env.scope.kind == .module && X.env.locals != X.env.globals)) = false := by rw [I.ok.kind]; rfl
  refine wpAny_nameGoes_keeps ln hn8 hcls fun h9 v9 hn9 hs9 => ?_
  refine ⟨_, _, I8.goes hN hn hl8 hn8 hn9 hs9, ?_⟩
  have es : ((σ.set ie (some (V.ref ea))).set ix (some (V.ref ea))).set ie none = (σ.set ix (some (V.ref ea))).set ie none := by
    rw [List.set_comm _ _ hxe.symm, List.set_set]
  rw [es]
  exact q8 ea hn0
end
end L2
namespace S21
open PySem L2 Bw
set_option maxHeartbeats 3900000
/-! ### what the law and the program need of their classes -/
noncomputable abbrev veB : List Value := [.type "ValueError", .type "Exception", .type "BaseException", .type "object"]
noncomputable def adrOf (K : PySem.W.Frag) (x : Str) : Addr := match PySem.W.nsIn K mainGlobals x with
  | some (some (.ref a)) => a
  | _ => 0
noncomputable def clsRef (K : PySem.W.Frag) (x : Str) : Bool := PySem.W.nsIn K mainGlobals x == some (some (.ref (adrOf K x)))
noncomputable def others23 (K : PySem.W.Frag) : List Addr := [adrOf K "BadSides", adrOf K "BadWires", adrOf K "NoDrawing", adrOf K "NoMove", adrOf K "NoRun"]
noncomputable def exc23 (K : PySem.W.Frag) : Bool :=
  clsRef K "Late" && clsRef K "WireError" && clsRef K "BadSides" && clsRef K "BadWires" && clsRef K "NoDrawing" && clsRef K "NoMove" && clsRef K "NoRun" && (PySem.W.nsIn K mainGlobals "ValueError" == some none) &&
  PySem.W.excIn K (adrOf K "Late") veB "ValueError.__new__" && (PySem.W.exmOne K (.ref (adrOf K "Late")) (.ref (adrOf K "WireError")) == some true) &&
  (PySem.W.kitAny K (.ref (adrOf K "Late")) ((others23 K).map Value.ref) == some false) && (PySem.W.kitOne K (.ref (adrOf K "Late")) (.type "ValueError") == some true) &&
  (PySem.W.clsIn K (adrOf K "Late")).isSome && (PySem.W.findIn K (.ref (adrOf K "Late")) "__getattribute__" == some (some (.builtin "BaseException.__getattribute__"))) && (PySem.W.findIn K (.ref (adrOf K "Late")) "__getattr__" == some none) &&
  (PySem.W.findIn K (.ref (adrOf K "Late")) "__class__" == some (some (.builtin "object.__class__"))) && (PySem.W.specialIn K (.builtin "object.__class__") "__get__" == some (some (.builtin "getset_descriptor.__get__"))) &&
  (PySem.W.takesIn K (.builtin "object.__class__") == some true) && (PySem.W.mroIn K (adrOf K "Late") (.type "object") == some true) && (PySem.W.mroIn K (adrOf K "Late") (.type "BaseException") == some true)
structure Exc23 (K : PySem.W.Frag) (mg : Str → Option Value) : Prop where
  mC : mg "Late" = some (.ref (adrOf K "Late"))
  mW : mg "WireError" = some (.ref (adrOf K "WireError"))
  m1 : mg "BadSides" = some (.ref (adrOf K "BadSides"))
  m2 : mg "BadWires" = some (.ref (adrOf K "BadWires"))
  m3 : mg "NoDrawing" = some (.ref (adrOf K "NoDrawing"))
  m4 : mg "NoMove" = some (.ref (adrOf K "NoMove"))
  m5 : mg "NoRun" = some (.ref (adrOf K "NoRun"))
  val : mg "ValueError" = none
  exc : PySem.W.excIn K (adrOf K "Late") veB "ValueError.__new__" = true
  exm : PySem.W.exmOne K (.ref (adrOf K "Late")) (.ref (adrOf K "WireError")) = some true
  oth : PySem.W.kitAny K (.ref (adrOf K "Late")) ((others23 K).map Value.ref) = some false
  kV : PySem.W.kitOne K (.ref (adrOf K "Late")) (.type "ValueError") = some true
  Z : ExcK K (adrOf K "Late")
theorem exc23_of {K : PySem.W.Frag} {mg : Str → Option Value} {h : Heap} (X : K.In h) (G : h.Ns mainGlobals mg) (e : exc23 K = true) : Exc23 K mg := by
  unfold exc23 clsRef at e
  simp only [Bool.and_eq_true, beq_iff_eq] at e
  obtain ⟨⟨⟨⟨⟨⟨⟨⟨⟨⟨⟨⟨⟨⟨⟨⟨⟨⟨⟨h1, h2⟩, h3⟩, h4⟩, h5⟩, h6⟩, h7⟩, h8⟩, h9⟩, h10⟩, h11⟩, h12⟩, h13⟩, h14⟩, h15⟩, h16⟩, h17⟩, h18⟩, h19⟩, h20⟩ := e
  exact ⟨PySem.W.mg_of X G h1, PySem.W.mg_of X G h2, PySem.W.mg_of X G h3, PySem.W.mg_of X G h4, PySem.W.mg_of X G h5, PySem.W.mg_of X G h6, PySem.W.mg_of X G h7, PySem.W.mg_none_of X G h8, h9, h10, h11, h12, ⟨h13, h14, h15, h16, h17, h18, h19, h20⟩⟩
theorem kit_self (K : PySem.W.Frag) (C : Addr) : PySem.W.kitOne K (.ref C) (.ref C) = some true := by
  unfold PySem.W.kitOne
  rw [if_pos (by simp)]
theorem vals_refs : ∀ {cs : List Addr} {its : List Value}, Vals (cs.map V.ref) its → its = cs.map Value.ref
  | [], _, .nil => rfl
  | c :: cs, _, .cons r rr => by
    have e := vals_refs rr
    cases (show _ = Value.ref c from r)
    rw [e]; rfl
/-- isinstance of an exception, by a tuple of classes -/
theorem cIsXT {X : Cx} (K : PySem.W.Frag) (hK : X.K = K) {C : Addr} {cs : List Addr} {b : Bool} (Z : ExcK K C) (e : PySem.W.kitAny K (.ref C) (cs.map Value.ref) = some b) :
    CallR X (.builtin "isinstance") (fun xs H Q => ∃ a t, xs = [.ref a, .ref t] ∧ H a = some (exO C a) ∧ H t = some (.tup (cs.map V.ref)) ∧ Q (.bl b) H) := by
  subst hK
  intro pins s σ H vs us Q I r h
  obtain ⟨a, t, rfl, ha, ht, q⟩ := h
  obtain ⟨u, v, rfl, ru, rv⟩ := vals2 r
  cases (show u = Value.ref a from ru)
  cases (show v = Value.ref t from rv)
  obtain ⟨_, its, rr, o, h1, h2, n, h3⟩ := (show ObjOk X.prog X.w H s.heap t (.tup (cs.map V.ref)) from I.hok t _ ht)
  have ei := vals_refs rr
  subst ei
  obtain ⟨oc, od, oda, osl⟩ := o
  have h2 : oc = .type "tuple" := h2
  have h3 : oda = .seq (cs.map Value.ref).toArray n := h3
  subst h2 h3
  exact PySem.W.kia_tup (kitx_exc Z) I.kIn (show ExcAt C a s.heap from (I.hok a _ ha).1) h1 e (fun z => nomatch z) fun tk => ⟨.bl b, H, I.tok tk, rfl, q⟩
/-- a loop whose iterable is never there -/
theorem ps_forX {X : Cx} {tg iter : Expr} {body : List Stmt} {te : TE} {pos : Pos} (hi : PE X iter te) (hs : ∀ x, foldedSetIterable iter X.env x = pure x := by intro _; rfl) : PS X (.For tg iter body [] pos) (fun _ σ H => te σ H fun _ _ => False) := by
  intro pins s σ H D I h
  exact wpAny_For (thn (hi pins s σ H _ I h) fun v s1 ⟨_, _, _, _, z⟩ => z.elim) hs
section
variable {P : Program} {w : World} {K : PySem.W.Frag} {mg : Str → Option Value} {base : Heap}
/-- a function that is not come to -/
theorem FnOk.never {CX : CXT} {k : Nat} {f : Addr} {fd : FuncData} {ps : List Str} : FnOk P w K mg base CX k f fd ps (fun _ _ _ _ => False) := ⟨fun _ _ _ _ h => h.elim, fun _ _ _ _ _ _ _ _ _ _ _ _ _ h => h.elim⟩
noncomputable def LateW (K : PySem.W.Frag) (H : Hp) (aw : Addr) : Prop := ∃ ws : List V, SqT K H aw ws ∧ ws.all flatV = true ∧ inV (.str "late") ws = true
theorem LateW.mono {H H' : Hp} {aw : Addr} (h : LateW K H aw) (s : Same H H') : LateW K H' aw := let ⟨ws, a, b⟩ := h; ⟨ws, s.seqT a, b⟩
noncomputable def spLateX (K : PySem.W.Frag) : Sp := fun vs H _ E => ∃ aw, vs = [.ref aw] ∧ LateW K H aw ∧ E (.ref (adrOf K "Late")) none H
theorem iteInT {b : Bool} {A B : Prop} (h : b = true) (q : A) : if (if false = true then !b else b) = true then A else B := by
  subst h
  simpa using q
theorem ok_lateX {f : Addr} {fd : FuncData} (F : Fun K "refuse_late" "refuse_late" s_refuse_late f fd) (Y : Exc23 K mg) : FnOk P w K mg base (CX1 P w (adrOf K "Late")) 1 f fd ["words"] (spLateX K) := by
  refine F.okX scLt (fun vs H Q E h => ?_) (fun cdv A outer s H vs Q E hr h => ?_)
  · obtain ⟨aw, rfl, _⟩ := h
    rfl
  · obtain ⟨aw, rfl, ⟨ws, hw, hf, hn⟩, q⟩ := h
    refine ⟨_, pss_one (ps_if (pt_cmpR (opIn K rfl) pe_str (pv 0) rfl) (pss_one (ps_raise (E := E) rfl rfl Y.mC Y.exc PySem.F.excBase_ValueError (pa_cons pe_str pa_nil) raise1)) pss_nil), ?_⟩
    exact ⟨_, rfl, aw, ws, rfl, .inr hw, rfl, hf, _, rfl, iteInT hn ⟨(by show 1 ≤ sizeLine; decide), q⟩⟩
noncomputable def spFormsX (K : PySem.W.Frag) : Sp := fun vs H _ E => ∃ (p : Int) (aw : Addr), vs = [.int p, .ref aw] ∧ LateW K H aw ∧ E (.ref (adrOf K "Late")) none H
theorem ok_formsX {f fL : Addr} {fd fdL : FuncData} (F : Fun K "forms" "forms" s_forms f fd)
    (GL : FnOk P w K mg base (CX1 P w (adrOf K "Late")) 1 fL fdL ["words"] (spLateX K)) (kL : PySem.W.keepIn K (.ref fL) = true) (bL : Binds K fdL ["words"] []) (mL : mg "refuse_late" = some (.ref fL)) : FnOk P w K mg base (CX1 P w (adrOf K "Late")) 2 f fd ["p", "words"] (spFormsX K) := by
  refine F.okX scFs (fun vs H Q E h => ?_) (fun cdv A outer s H vs Q E hr h => ?_)
  · obtain ⟨p, aw, rfl, _⟩ := h
    rfl
  · obtain ⟨p, aw, rfl, hw, q⟩ := h
    refine ⟨_, pss_cons (ps_expr (pe_call (E := E) GL hr rfl mL kL bL .nil pass1 (pa_cons (pv 1) pa_nil))) pss_never, ?_⟩
    exact ⟨_, rfl, aw, rfl, hw, q⟩
theorem ok_plainX {f fF : Addr} {fd fdF : FuncData} (F : Fun K "plain" "plain" s_plain f fd)
    (GF : FnOk P w K mg base (CX1 P w (adrOf K "Late")) 2 fF fdF ["p", "words"] (spFormsX K)) (kF : PySem.W.keepIn K (.ref fF) = true) (bF : Binds K fdF ["p", "words"] []) (mF : mg "forms" = some (.ref fF)) : FnOk P w K mg base (CX1 P w (adrOf K "Late")) 3 f fd ["p", "words"] (spFormsX K) := by
  refine F.okX scPl (fun vs H Q E h => ?_) (fun cdv A outer s H vs Q E hr h => ?_)
  · obtain ⟨p, aw, rfl, _⟩ := h
    rfl
  · obtain ⟨p, aw, rfl, hw, q⟩ := h
    refine ⟨_, pss_one (ps_ret (pe_ix (ixT K rfl) (pe_dget (hu_of hr) (pe_call (E := E) GF hr rfl mF kF bF .nil pass1 (pa_cons (pv 0) (pa_cons (pv 1) pa_nil))) pe_int (fun _ _ => rfl)) pe_int (fun _ _ => rfl))), ?_⟩
    exact ⟨_, rfl, _, rfl, p, aw, rfl, hw, q⟩
noncomputable def spSetX (K : PySem.W.Frag) : Sp := fun vs H _ E => ∃ (p : Int) (aw ar : Addr), vs = [.int p, .ref aw, .ref ar] ∧ LateW K H aw ∧ (∃ xs, SqT K H ar xs) ∧ E (.ref (adrOf K "Late")) none H
theorem scSt : FnScope ["p", "words", "row", "told", "lying", "behind", "numbers", "place", "second", "found", "wire", "number"] ["p", "words", "row"] (defScope s_setting) := ⟨rfl, rfl, rfl, by decide +kernel, rfl, by decide +kernel, by decide +kernel⟩
theorem ok_setX {f fF : Addr} {fd fdF : FuncData} (F : Fun K "setting" "setting" s_setting f fd)
    (GF : FnOk P w K mg base (CX1 P w (adrOf K "Late")) 2 fF fdF ["p", "words"] (spFormsX K)) (kF : PySem.W.keepIn K (.ref fF) = true) (bF : Binds K fdF ["p", "words"] []) (mF : mg "forms" = some (.ref fF)) : FnOk P w K mg base (CX1 P w (adrOf K "Late")) 3 f fd ["p", "words", "row"] (spSetX K) := by
  refine F.okX scSt (fun vs H Q E h => ?_) (fun cdv A outer s H vs Q E hr h => ?_)
  · obtain ⟨p, aw, ar, rfl, _⟩ := h
    rfl
  · obtain ⟨p, aw, ar, rfl, hw, _, q⟩ := h
    refine ⟨_, pss_cons (ps_set (i := 3) scSt.nd rfl (Or.inl rfl) (pe_call (E := E) GF hr rfl mF kF bF .nil pass1 (pa_cons (pv 0) (pa_cons (pv 1) pa_nil)))) pss_never, ?_⟩
    exact ⟨_, rfl, _, rfl, p, aw, rfl, hw, q⟩
theorem scBr : FnScope ["p", "words", "row", "other"] ["p", "words", "row"] (defScope s_bar) := ⟨rfl, rfl, rfl, by decide +kernel, rfl, by decide +kernel, by decide +kernel⟩
theorem ok_barX {f fP fB : Addr} {fd fdP fdB : FuncData} (F : Fun K "bar" "bar" s_bar f fd) (T : Txt mg)
    (GP : FnOk P w K mg base (CX1 P w (adrOf K "Late")) 3 fP fdP ["p", "words"] (spFormsX K)) (kP : PySem.W.keepIn K (.ref fP) = true) (bP : Binds K fdP ["p", "words"] []) (mP : mg "plain" = some (.ref fP))
    (kB : PySem.W.keepIn K (.ref fB) = true) (bB : Binds K fdB ["p", "rows", "length"] []) (mB : mg "barred" = some (.ref fB)) : FnOk P w K mg base (CX1 P w (adrOf K "Late")) 4 f fd ["p", "words", "row"] (spSetX K) := by
  refine F.okX scBr (fun vs H Q E h => ?_) (fun cdv A outer s H vs Q E hr h => ?_)
  · obtain ⟨p, aw, ar, rfl, _⟩ := h
    rfl
  · obtain ⟨p, aw, ar, rfl, hw, ⟨xs, hx⟩, q⟩ := h
    refine ⟨_, pss_cons (ps_forX (pe_call (E := E) (FnOk.never (CX := CX1 P w (adrOf K "Late")) (f := fB) (fd := fdB) (ps := ["p", "rows", "length"])) hr rfl mB kB bB .nil pass1 (pa_cons (pv 0) (pa_cons (pe_call (E := E) GP hr rfl mP kP bP .nil pass1 (pa_cons (pv 0) (pa_cons (pv 1) pa_nil))) (pa_cons (pe_callB (cLen K rfl) rfl T.len bt_len (pa_cons (pv 2) pa_nil)) pa_nil))))) pss_never, ?_⟩
    exact ⟨_, rfl, _, rfl, _, rfl, p, aw, rfl, hw, q⟩
noncomputable def spStX (K : PySem.W.Frag) : Sp := fun vs H _ E => ∃ (p : Int) (aw : Addr) (x y : V), vs = [.int p, .ref aw, x, y] ∧ LateW K H aw ∧ E (.ref (adrOf K "Late")) none H
theorem scSn : FnScope ["p", "words", "row", "setting", "numbers", "lying", "boxes"] ["p", "words", "row", "setting"] (defScope s_stands) := ⟨rfl, rfl, rfl, by decide +kernel, rfl, by decide +kernel, by decide +kernel⟩
theorem ok_stX {f fL : Addr} {fd fdL : FuncData} (F : Fun K "stands" "stands" s_stands f fd)
    (GL : FnOk P w K mg base (CX1 P w (adrOf K "Late")) 1 fL fdL ["words"] (spLateX K)) (kL : PySem.W.keepIn K (.ref fL) = true) (bL : Binds K fdL ["words"] []) (mL : mg "refuse_late" = some (.ref fL)) : FnOk P w K mg base (CX1 P w (adrOf K "Late")) 2 f fd ["p", "words", "row", "setting"] (spStX K) := by
  refine F.okX scSn (fun vs H Q E h => ?_) (fun cdv A outer s H vs Q E hr h => ?_)
  · obtain ⟨p, aw, x, y, rfl, _⟩ := h
    rfl
  · obtain ⟨p, aw, x, y, rfl, hw, q⟩ := h
    refine ⟨_, pss_cons (ps_expr (pe_call (E := E) GL hr rfl mL kL bL .nil pass1 (pa_cons (pv 1) pa_nil))) pss_never, ?_⟩
    exact ⟨_, rfl, aw, rfl, hw, q⟩
/-! ### _law_late -/
noncomputable def spLL (K : PySem.W.Frag) : Sp := fun vs H Q _ => ∃ (wy p : Int) (aw ar : Addr), vs = [.int wy, .int p, .ref aw, .ref ar] ∧ LateW K H aw ∧ (∃ xs, SqT K H ar xs) ∧ ∀ H', Same H H' → Q (.bl true) H'
theorem scLL : FnScope ["way", "p", "words", "row", "caught", "e"] ["way", "p", "words", "row"] (defScope s_law_late) := ⟨rfl, rfl, rfl, by decide +kernel, rfl, by decide +kernel, by decide +kernel⟩
noncomputable def tXc (sp : Sp) (t : TA) : XK → TS := fun E D σ H => t σ H fun vs H1 => sp vs H1 (fun _ H' => D.nx σ H') E
noncomputable abbrev tWay (i : Int) : TT := tTest (tOp rEq (tVar 0) (tC (.int i)))
noncomputable def tTryB (K : PySem.W.Frag) : XK → TS := fun E => tIfS (tWay 0) (tXc (spFormsX K) (tCons (tVar 1) (tCons (tVar 2) tNil)) E) (tIfS (tWay 1) (tXc (spSetX K) (tCons (tVar 1) (tCons (tVar 2) (tCons (tVar 3) tNil))) E)
  (tIfS (tWay 2) (tXc (spSetX K) (tCons (tVar 1) (tCons (tVar 2) (tCons (tVar 3) tNil))) E) (tXc (spStX K) (tCons (tVar 1) (tCons (tVar 2) (tCons (tVar 3) (tCons (tTup tNil) tNil)))) E)))
noncomputable def tTryL (K : PySem.W.Frag) : TS := fun D σ H => tTryB K (fun _ _ H' => ∀ ea, H' ea = none → D.nx ((σ.set 4 (some (.ref ea))).set 5 none) (upd H' ea (exO (adrOf K "Late") ea))) D σ H
noncomputable def rXT (K : PySem.W.Frag) : List V → Hp → VK → Prop := fun xs H Q => ∃ a t, xs = [.ref a, .ref t] ∧ H a = some (exO (adrOf K "Late") a) ∧ H t = some (.tup ((others23 K).map V.ref)) ∧ Q (.bl false) H
noncomputable def rX1 (K : PySem.W.Frag) : List V → Hp → VK → Prop := fun xs H Q => ∃ a, xs = [.ref a, .ref (adrOf K "Late")] ∧ H a = some (exO (adrOf K "Late") a) ∧ Q (.bl true) H
noncomputable def rXV (K : PySem.W.Frag) : List V → Hp → VK → Prop := fun xs H Q => ∃ a, xs = [.ref a, .ty "ValueError"] ∧ H a = some (exO (adrOf K "Late") a) ∧ Q (.bl true) H
noncomputable abbrev tCl (K : PySem.W.Frag) (x : Str) : TE := tC (.ref (adrOf K x))
noncomputable def tOth (K : PySem.W.Frag) : TE := tTup (tCons (tCl K "BadSides") (tCons (tCl K "BadWires") (tCons (tCl K "NoDrawing") (tCons (tCl K "NoMove") (tCons (tCl K "NoRun") tNil)))))
noncomputable def tIs3 (K : PySem.W.Frag) : TE := tCB (rXT K) (tCons (tVar 4) (tCons (tOth K) tNil))
noncomputable def tIs4 (K : PySem.W.Frag) : TE := tAndV (tCB (rX1 K) (tCons (tVar 4) (tCons (tCl K "Late") tNil))) (tCB (rXV K) (tCons (tVar 4) (tCons (tC (.ty "ValueError")) tNil)))
noncomputable def tLL (K : PySem.W.Frag) : TS := tSeq (tAsg (tC .non) (gName 4)) (tSeq (tTryL K) (tSeq (tIfS (tB (tIs3 K)) (tRet (tC (.bl false))) tNext) (tRet (tIs4 K))))
theorem ll_read {D : Ends} {H : Hp} {wy p : Int} {aw ar : Addr} {xs : List V} (hw : LateW K H aw) (hx : SqT K H ar xs) (q : ∀ H', Same H H' → D.rt (.bl true) H') : tLL K D [some (.int wy), some (.int p), some (.ref aw), some (.ref ar), none, none] H := by
  have fin : ∀ (H1 : Hp) (ea : Addr), Same H H1 → H1 ea = none → tSeq (tIfS (tB (tIs3 K)) (tRet (tC (.bl false))) tNext) (tRet (tIs4 K)) D [some (.int wy), some (.int p), some (.ref aw), some (.ref ar), some (.ref ea), none] (upd H1 ea (exO (adrOf K "Late") ea)) := by
    intro H1 ea s1 hea
    have s2 := s1.trans (Same.upd hea (o := exO (adrOf K "Late") ea))
    have g : (upd H1 ea (exO (adrOf K "Late") ea)) ea = some (exO (adrOf K "Late") ea) := upd_same
    generalize upd H1 ea (exO (adrOf K "Late") ea) = H2 at s2 g
    refine seq_if ?_
    unfold tIs3
    refine ⟨_, rfl, by show 5 ≤ sizeLine; decide, fun t ht => ?_⟩
    have st := Same.upd ht (o := .tup [.ref (adrOf K "BadSides"), .ref (adrOf K "BadWires"), .ref (adrOf K "NoDrawing"), .ref (adrOf K "NoMove"), .ref (adrOf K "NoRun")])
    refine ⟨ea, t, rfl, st _ _ g, upd_same, false, rfl, iteF ?_⟩
    refine ret_of ?_
    unfold tIs4
    exact ⟨_, rfl, ea, rfl, st _ _ g, true, rfl, iteT ⟨_, rfl, ea, rfl, st _ _ g, q _ (s2.trans st)⟩⟩
  unfold tLL
  refine seq_asg ?_
  refine seq_of2 ?_
  unfold tTryL tTryB
  refine boolE_eq (i := wy) (j := 0) (intE_v rfl) intE_c H (.refl _) _ (ifB (fun _ => ?_) fun _ => ?_)
  · exact ⟨_, rfl, _, rfl, p, aw, rfl, hw, fun ea hea => fin H ea (.refl _) hea⟩
  refine boolE_eq (i := wy) (j := 1) (intE_v rfl) intE_c H (.refl _) _ (ifB (fun _ => ?_) fun _ => ?_)
  · exact ⟨_, rfl, _, rfl, _, rfl, p, aw, ar, rfl, hw, ⟨xs, hx⟩, fun ea hea => fin H ea (.refl _) hea⟩
  refine boolE_eq (i := wy) (j := 2) (intE_v rfl) intE_c H (.refl _) _ (ifB (fun _ => ?_) fun _ => ?_)
  · exact ⟨_, rfl, _, rfl, _, rfl, p, aw, ar, rfl, hw, ⟨xs, hx⟩, fun ea hea => fin H ea (.refl _) hea⟩
  · refine ⟨_, rfl, _, rfl, _, rfl, by show 0 ≤ sizeLine; decide, fun t ht => ?_⟩
    have st := Same.upd ht (o := .tup [])
    exact ⟨p, aw, _, _, rfl, hw.mono st, fun ea hea => fin _ ea st hea⟩
theorem ok_LL {f fP fS fB fT : Addr} {fd fdP fdS fdB fdT : FuncData} (F : Fun K "_law_late" "_law_late" s_law_late f fd) (T : Txt mg) (Y : Exc23 K mg)
    (GP : FnOk P w K mg base (CX1 P w (adrOf K "Late")) 3 fP fdP ["p", "words"] (spFormsX K)) (kP : PySem.W.keepIn K (.ref fP) = true) (bP : Binds K fdP ["p", "words"] []) (mP : mg "plain" = some (.ref fP))
    (GS : FnOk P w K mg base (CX1 P w (adrOf K "Late")) 3 fS fdS ["p", "words", "row"] (spSetX K)) (kS : PySem.W.keepIn K (.ref fS) = true) (bS : Binds K fdS ["p", "words", "row"] []) (mS : mg "setting" = some (.ref fS))
    (GB : FnOk P w K mg base (CX1 P w (adrOf K "Late")) 4 fB fdB ["p", "words", "row"] (spSetX K)) (kB : PySem.W.keepIn K (.ref fB) = true) (bB : Binds K fdB ["p", "words", "row"] []) (mB : mg "bar" = some (.ref fB))
    (GT : FnOk P w K mg base (CX1 P w (adrOf K "Late")) 2 fT fdT ["p", "words", "row", "setting"] (spStX K)) (kT : PySem.W.keepIn K (.ref fT) = true) (bT : Binds K fdT ["p", "words", "row", "setting"] []) (mT : mg "stands" = some (.ref fT)) :
    FnOk P w K mg base CX0 5 f fd ["way", "p", "words", "row"] (spLL K) := by
  refine F.ok scLL (fun vs H Q E h => ?_) (fun cdv A outer s H vs Q E hr h => ?_)
  · obtain ⟨wy, p, aw, ar, rfl, _⟩ := h
    rfl
  · obtain ⟨wy, p, aw, ar, rfl, hw, ⟨xs, hx⟩, q⟩ := h
    have hr2 : Room 2 _ := hr.mono (by decide)
    have hr3 : Room 3 _ := hr.mono (by decide)
    refine ⟨tLL K, ?_, ?_⟩
    · unfold tLL
      refine pss_cons ?_ ?_
      · exact ps_set (i := 4) scLL.nd rfl (Or.inl rfl) pe_non
      refine pss_cons ?_ ?_
      · unfold tTryL
        refine ps_tryX (C := adrOf K "Late") (ix := 4) (ie := 5) (tb := tTryB K) rfl rfl ?_ rfl Y.mW Y.exm scLL.nd rfl rfl rfl rfl (by decide)
        unfold tTryB
        refine psx_if (fun _ _ z => z) ?_ ?_ ?_
        · exact pt_cmpR op_eq (pv 0) pe_int (nomark _)
        · exact psx_call (fun _ _ z => z) GP hr3 rfl mP kP bP (pa_cons (pv 1) (pa_cons (pv 2) pa_nil))
        refine psx_if (fun _ _ z => z) ?_ ?_ ?_
        · exact pt_cmpR op_eq (pv 0) pe_int (nomark _)
        · exact psx_call (fun _ _ z => z) GS hr3 rfl mS kS bS (pa_cons (pv 1) (pa_cons (pv 2) (pa_cons (pv 3) pa_nil)))
        refine psx_if (fun _ _ z => z) ?_ ?_ ?_
        · exact pt_cmpR op_eq (pv 0) pe_int (nomark _)
        · exact psx_call (fun _ _ z => z) GB hr rfl mB kB bB (pa_cons (pv 1) (pa_cons (pv 2) (pa_cons (pv 3) pa_nil)))
        · exact psx_call (fun _ _ z => z) GT hr2 rfl mT kT bT (pa_cons (pv 1) (pa_cons (pv 2) (pa_cons (pv 3) (pa_cons (pe_tup pa_nil) pa_nil))))
      refine pss_cons ?_ ?_
      · refine ps_if ?_ ?_ pss_nil
        · refine pt_val ?_
          unfold tIs3
          refine pe_callB (cIsXT K rfl (cs := others23 K) Y.Z Y.oth) rfl T.isinstance bt_isinstance ?_
          refine pa_cons (pv 4) ?_ ?_
          · refine pa_cons ?_ pa_nil ?_
            · unfold tOth
              exact pe_tup (pa_cons (pe_glob (v := .ref _) rfl Y.m1 rfl) (pa_cons (pe_glob (v := .ref _) rfl Y.m2 rfl) (pa_cons (pe_glob (v := .ref _) rfl Y.m3 rfl) (pa_cons (pe_glob (v := .ref _) rfl Y.m4 rfl) (pa_cons (pe_glob (v := .ref _) rfl Y.m5 rfl) pa_nil)))))
            · rfl
          · rfl
        · exact pss_one (ps_ret pe_bl)
      refine pss_one ?_
      refine ps_ret (te := tIs4 K) ?_
      unfold tIs4
      refine pe_and ?_ (pe_one ?_)
      · exact pe_callB (cIsX K rfl Y.Z (kit_self K _)) rfl T.isinstance bt_isinstance (pa_cons (pv 4) (pa_cons (pe_glob (v := .ref _) rfl Y.mC rfl) pa_nil))
      · exact pe_callB (cIsV K rfl Y.Z Y.kV) rfl T.isinstance bt_isinstance (pa_cons (pv 4) (pa_cons (pe_ty rfl Y.val bt_ValueError) pa_nil))
    · exact ll_read hw hx q
end
end S21
namespace S21
open PySem L2 Bw
set_option maxHeartbeats 3900000
/-! ### _law_delayed -/
theorem cutV_hi {xs : List V} {k : Nat} (h : k ≤ xs.length) : cutV xs none (some (k : Int)) = xs.take k := by
  unfold cutV
  rw [HT.sIx_nat, HT.sIx_none, List.drop_zero, Nat.sub_zero, Nat.min_eq_left h]
theorem cutV_lo {xs : List V} {k : Nat} (h : k ≤ xs.length) : cutV xs (some (k : Int)) none = xs.drop k := by
  unfold cutV
  rw [HT.sIx_nat, HT.sIx_none, Nat.min_eq_left h, List.take_of_length_le (by simp)]
noncomputable def WOk (ws : List V) : Prop := ∀ x ∈ ws, (∃ s, x = .str s) ∨ ∃ n, x = .int n
noncomputable def WdsH (K : PySem.W.Frag) (H : Hp) (v : Addr) (ws : List V) (l r : Int) : Prop := ∃ aw, SqT K H v [.ref aw, .int l, .int r] ∧ SqT K H aw ws
theorem WOk.flat {ws : List V} (h : WOk ws) : ws.all flatV = true := List.all_eq_true.mpr fun x hx => by
  rcases h x hx with ⟨s, rfl⟩ | ⟨n, rfl⟩ <;> rfl
theorem late_is : eqV (.str "late") (.str "late") = true := by decide +kernel
theorem late_in {ws : List V} (h : V.str "late" ∈ ws) : inV (.str "late") ws = true := List.any_eq_true.mpr ⟨_, h, late_is⟩
theorem Drw.wok {p : Int} : ∀ (d : Drw), WOk d.words
  | .box x l r rows => fun v hv => by rw [List.mem_singleton.mp hv]; exact .inl ⟨_, rfl⟩
  | .times n => fun v hv => by
    rcases (List.mem_cons.mp hv) with z | z
    · rw [z]; exact .inl ⟨_, rfl⟩
    · rw [List.mem_singleton.mp z]; exact .inr ⟨_, rfl⟩
  | .back d => fun v hv => by
    rcases (List.mem_cons.mp hv) with z | z
    · rw [z]; exact .inl ⟨_, rfl⟩
    · exact Drw.wok (p := p) d v z
  | .beside a b => fun v hv => by
    rcases (List.mem_cons.mp hv) with z | z
    · rw [z]; exact .inl ⟨_, rfl⟩
    · rcases (List.mem_append.mp z) with z | z
      · exact Drw.wok (p := p) a v z
      · exact Drw.wok (p := p) b v z
  | .thn a b => fun v hv => by
    rcases (List.mem_cons.mp hv) with z | z
    · rw [z]; exact .inl ⟨_, rfl⟩
    · rcases (List.mem_append.mp z) with z | z
      · exact Drw.wok (p := p) a v z
      · exact Drw.wok (p := p) b v z
theorem ndl : (["k", "words"] : List Str).Nodup := by decide +kernel
section
variable {P : Program} {w : World} {K : PySem.W.Frag} {mg : Str → Option Value} {base : Heap}
noncomputable def spDel (K : PySem.W.Frag) : Sp := fun vs H Q _ => ∃ (a b : Addr) (n : Nat) (ws : List V) (l r : Int), vs = [.ref a, .ref b] ∧ Hand H a n ∧ n ≤ 800000 ∧ WdsH K H b ws l r ∧ WOk ws ∧ ws.length ≤ 90 ∧
  ∀ v ws' l' r' H' n', WdsH K H' v ws' l' r' → WOk ws' → V.str "late" ∈ ws' → ws'.length ≤ ws.length + 3 → l ≤ l' → l' ≤ l + 1 → r ≤ r' → r' ≤ r + 1 → SmT a H H' → Hand H' a n' → n' ≤ n + 3 → Q (.ref v) H'
noncomputable abbrev nDl : List Str := ["hand", "drawing", "words", "left", "right", "some", "style", "at", "box"]
theorem scDl : FnScope ["hand", "drawing", "words", "left", "right", "some", "style", "at", "box"] ["hand", "drawing"] (defScope s_law_delayed) := ⟨rfl, rfl, rfl, by decide +kernel, rfl, by decide +kernel, by decide +kernel⟩
noncomputable def tDl2 (K : PySem.W.Frag) : TE := tComp (iRng1 (tCons (tLenV K (tVar 2)) tNil)) 1 [2] (gName 0) (tTest (tOp rEq (tOp (rIxT K) (tVar 1) (tVar 0)) (tC (.str "id")))) (tVar 0)
noncomputable def tDlc (K : PySem.W.Frag) : TT := tAnd (tTest (tOp rLt (tVar 6) (tC (.int 2)))) (tTest (tOp (rEqD K true) (tVar 5) (tLst tNil)))
noncomputable def tDl5 (K : PySem.W.Frag) : TE := tDrwT (tCat K (tCat K (tSl (rSlA K) (tVar 2) tNoPart (tPart (tVar 7))) (tW1 "late")) (tSl (rSlA K) (tVar 2) (tPart (tAddI (tVar 7) (tC (.int 1)))) tNoPart)) (tVar 3) (tVar 4)
noncomputable def tDl6 (K : PySem.W.Frag) : TE := tOp (rIxL K) (tLst (tCons (tW1 "late") (tCons (tW2 "back" "late") tNil))) (tDr 0 (tC (.int 2)))
noncomputable def tDl7 (K : PySem.W.Frag) : TE := tDrwT (tCat K (tCat K (tW1 "beside") (tVar 8)) (tVar 2)) (tAddI (tVar 3) (tC (.int 1))) (tAddI (tVar 4) (tC (.int 1)))
noncomputable def tDl8 (K : PySem.W.Frag) : TE := tDrwT (tCat K (tCat K (tW1 "beside") (tVar 2)) (tVar 8)) (tAddI (tVar 3) (tC (.int 1))) (tAddI (tVar 4) (tC (.int 1)))
noncomputable def tDel (K : PySem.W.Frag) : TS := tSeq (tAsg (tVar 1) (gTup K 3 (gCons (gName 2) (gCons (gName 3) (gCons (gName 4) gNil))))) (tSeq (tAsg (tDl2 K) (gName 5)) (tSeq (tAsg (tDr 0 (tC (.int 5))) (gName 6))
  (tSeq (tIfS (tDlc K) (tSeq (tAsg (tOp (rIxL K) (tVar 5) (tDr 0 (tLenV K (tVar 5)))) (gName 7)) (tRet (tDl5 K))) tNext) (tSeq (tAsg (tDl6 K) (gName 8)) (tSeq (tIfS (tTest (tOp rEq (tVar 6) (tC (.int 2)))) (tRet (tDl7 K)) tNext) (tRet (tDl8 K)))))))
theorem tplE_sl {σ : St} {H : Hp} {te : TE} {tl th : TO} {xs ys : List V} {lo hi : Option Int} (h : TplE K te σ H xs) (h1 : OptE tl σ H lo) (h2 : OptE th σ H hi) (e : cutV xs lo hi = ys) : TplE K (tSl (rSlA K) te tl th) σ H ys := fun H' s R q =>
  h H' s _ fun a H1 s1 ha => h1 H1 (s.trans s1) _ (h2 H1 (s.trans s1) _ ⟨a, _, rfl, ha, fun c H3 s3 hc => q c H3 (s1.trans s3) (by rw [e] at hc; exact hc)⟩)
theorem wds_told {σ : St} {H : Hp} {Q : VK} {tw tl tr : TE} {ws : List V} {l r : Int} (h1 : TplE K tw σ H ws) (h2 : ∀ H', Same H H' → IntE tl σ H' l) (h3 : ∀ H', Same H H' → IntE tr σ H' r) (q : ∀ v H', Same H H' → WdsH K H' v ws l r → Q (.ref v) H') : tDrwT tw tl tr σ H Q := by
  refine h1 H (.refl _) _ fun a H1 s1 ha => h2 H1 s1 H1 (.refl _) _ (h3 H1 s1 H1 (.refl _) _ ⟨by show 3 ≤ sizeLine; decide, fun v hv => ?_⟩)
  exact q v _ (s1.trans (.upd hv)) ⟨a, .of upd_same, (Same.upd hv).seqT ha⟩
theorem sc_id {x : V} (h : (∃ s, x = .str s) ∨ ∃ n, x = .int n) : scal x (.str "id") = true := by
  rcases h with ⟨s, rfl⟩ | ⟨n, rfl⟩ <;> rfl
/-- the places of id -/
noncomputable def idAt (ws : List V) (n : Nat) : List Int := ((List.range n).filter fun k => decide (ws[k]? = some (.str "id"))).map fun (k : Nat) => (k : Int)
theorem idAt_lt {ws : List V} {n : Nat} {i : Nat} {z : Int} (h : (idAt ws n)[i]? = some z) : ∃ k : Nat, z = (k : Int) ∧ k < n := by
  have hm := List.mem_of_getElem? h
  obtain ⟨k, hk, e⟩ := List.mem_map.mp hm
  exact ⟨k, e.symm, List.mem_range.mp (List.mem_filter.mp hk).1⟩
theorem idAt_len {ws : List V} {n : Nat} : (idAt ws n).length ≤ n := by
  unfold idAt
  rw [List.length_map]
  exact Nat.le_trans (List.length_filter_le _ _) (by rw [List.length_range]; exact Nat.le_refl _)
theorem dl2_read {σ : St} {H : Hp} {aw : Addr} {ws : List V} {Q : VK} (h2 : σ[2]? = some (some (.ref aw))) (hw : SqT K H aw ws) (ok : WOk ws) (hl : ws.length ≤ 100) (q : ∀ v H', H v = none → Same H H' → H' v = some (.lst ((idAt ws ws.length).map V.int)) → Q (.ref v) H') : tDl2 K σ H Q := by
  have z1000 : (1000 : Nat) ≤ sizeLine := by decide
  unfold tDl2 tComp iRng1
  refine intE_len (v := aw) (fun _ _ _ q => ⟨_, h2, q⟩) (.inr hw) H (.refl _) _ ?_
  refine ⟨(ws.length : Int), rfl, by omega, by omega, ?_⟩
  have eb : blkStart 1 [2] σ = List.replicate 1 none ++ [some (.ref aw)] := by simp [blkStart, h2]
  rw [eb, show (ws.length : Int).toNat = ws.length by omega]
  refine comp_rng (n := ws.length) (lo := 0) (fun i H' zs => zs = (idAt ws i).map V.int) (by omega) rfl (fun i H' zs h => by rw [h, List.length_map]; exact idAt_len) ?_ ?_
  · rintro i H1 zs hi sm rfl
    rw [Int.zero_add]
    have e1 : ws[i]? = some ws[i] := List.getElem?_eq_getElem hi
    have hm : ws[i] ∈ ws := List.getElem_mem hi
    refine ⟨_, rfl, _, rfl, aw, _, (i : Int), _, rfl, rfl, sm.seqT hw, atI_nat e1, sc_id (ok _ hm), _, rfl, ?_⟩
    have es : idAt ws (i + 1) = idAt ws i ++ (if ws[i] = .str "id" then [(i : Int)] else []) := by
      unfold idAt
      rw [List.range_succ, List.filter_append, List.map_append]
      congr 1
      rw [List.filter_cons, e1]
      by_cases c : ws[i] = .str "id"
      · simp [c]
      · simp [c]
    by_cases c : ws[i] = .str "id"
    · rw [decide_eq_true c]
      refine iteT ⟨_, rfl, ⟨[_], rfl, rfl⟩, sm, ?_⟩
      rw [es, if_pos c, List.map_append]
      rfl
    · rw [decide_eq_false c]
      refine iteF ⟨⟨[_], rfl, rfl⟩, sm, ?_⟩
      rw [es, if_neg c, List.append_nil]
  · rintro H1 zs sm rfl lz hlz
    refine q lz _ ?_ (sm.trans (.upd hlz)) upd_same
    cases e : H lz with
    | none => rfl
    | some o => rw [sm _ _ e] at hlz; cases hlz
theorem del_read {D : Ends} {H : Hp} {a b : Addr} {n : Nat} {ws : List V} {l r : Int} (hH : Hand H a n) (hn : n ≤ 800000) (hb : WdsH K H b ws l r) (ok : WOk ws) (hl : ws.length ≤ 90)
    (q : ∀ v ws' l' r' H' n', WdsH K H' v ws' l' r' → WOk ws' → V.str "late" ∈ ws' → ws'.length ≤ ws.length + 3 → l ≤ l' → l' ≤ l + 1 → r ≤ r' → r' ≤ r + 1 → SmT a H H' → Hand H' a n' → n' ≤ n + 3 → D.rt (.ref v) H') :
    tDel K D [some (.ref a), some (.ref b), none, none, none, none, none, none, none] H := by
  obtain ⟨aw, h1, h2⟩ := hb
  unfold tDel
  refine seq_asgG ⟨_, rfl, gTrip_of h1 ?_⟩
  refine seq_asg ?_
  refine dl2_read (K := K) (aw := aw) rfl h2 ok (by omega) ?_
  intro ls H1 nl s1 hls
  refine seq_asg ?_
  refine dr_read rfl (fun R h => h) (hH.mono s1) (by omega) (by decide) (by decide) fun st H2 j0 j1 s2 g2 => ?_
  have g1 := hH.mono s1
  have nls : ls ≠ a := hand_other hH nl
  have hls2 := s2 _ _ hls nls
  have sA : SmT a H H2 := SmT.trans (Same.smt s1) s2
  have hw2 := SmT.seqT s2 g1 (s1.seqT h2)
  have z10 : (10000 : Nat) ≤ sizeLine := by decide
  have rest : ∀ H3, SmT a H H3 → Hand H3 a (n + 1) → SqT K H3 aw ws → tSeq (tAsg (tDl6 K) (gName 8)) (tSeq (tIfS (tTest (tOp rEq (tVar 6) (tC (.int 2)))) (tRet (tDl7 K)) tNext) (tRet (tDl8 K))) D
      [some (.ref a), some (.ref b), some (.ref aw), some (.int l), some (.int r), some (.ref ls), some (.int st), none, none] H3 := by
    intro H3 sm hh hw3
    refine seq_asg ?_
    unfold tDl6 tOp tLst tCons
    refine tplE_1 (K := K) H3 (.refl _) _ ?_
    intro x1 H4 s4 hx1
    refine tplE_2 (K := K) H4 (.refl _) _ ?_
    intro x2 H5 s5 hx2
    refine ⟨by show 2 ≤ sizeLine; decide, fun lb hlb => ?_⟩
    have s6 := Same.upd (o := .lst [.ref x1, .ref x2]) hlb
    have t6 : Same H3 (upd H5 lb (.lst [.ref x1, .ref x2])) := s4.trans (s5.trans s6)
    refine dr_read rfl (fun R h => h) (hh.mono t6) (by omega) (by decide) (by decide) fun j H6 jj0 jj1 s7 g7 => ?_
    have nlb : lb ≠ a := hand_other (hh.mono (s4.trans s5)) hlb
    have glb := s7 _ _ (upd_same (H := H5) (o := .lst [.ref x1, .ref x2])) nlb
    have hw6 := SmT.seqT s7 (hh.mono t6) (t6.seqT hw3)
    have h61 := SmT.seqT s7 (hh.mono t6) ((s5.trans s6).seqT hx1)
    have h62 := SmT.seqT s7 (hh.mono t6) (s6.seqT hx2)
    have sm6 : SmT a H H6 := SmT.trans sm (SmT.trans (Same.smt t6) s7)
    obtain ⟨bx, bs, hbx, hbl, hbo, hbt⟩ : ∃ bx bs, (∃ y, atI [V.ref x1, V.ref x2] j = some y ∧ y = .ref bx) ∧ bs.length ≤ 2 ∧ (WOk bs ∧ V.str "late" ∈ bs) ∧ SqT K H6 bx bs := by
      have c : j = 0 ∨ j = 1 := by omega
      rcases c with rfl | rfl
      · refine ⟨x1, [.str "late"], ⟨_, atI_nat (j := 0) rfl, rfl⟩, by simp, ⟨fun v hv => ?_, by simp⟩, h61⟩
        rw [List.mem_singleton.mp hv]; exact .inl ⟨_, rfl⟩
      · refine ⟨x2, [.str "back", .str "late"], ⟨_, atI_nat (j := 1) rfl, rfl⟩, by simp, ⟨fun v hv => ?_, by simp⟩, h62⟩
        rcases (List.mem_cons.mp hv) with z | z
        · rw [z]; exact .inl ⟨_, rfl⟩
        · rw [List.mem_singleton.mp z]; exact .inl ⟨_, rfl⟩
    obtain ⟨y, hy, rfl⟩ := hbx
    refine ⟨lb, _, j, _, rfl, rfl, .of glb, hy, ?_⟩
    refine seq_if ?_
    refine boolE_eq (i := st) (j := 2) (intE_v rfl) intE_c H6 (.refl _) _ (ifB (fun _ => ?_) fun _ => ?_)
    · refine ret_of ?_
      unfold tDl7
      refine wds_told (ws := [.str "beside"] ++ bs ++ ws) (tplE_cat (tplE_cat tplE_1 (tplE_v rfl hbt) (by show 1 + _ ≤ 10000; omega)) (tplE_v rfl hw6) (by rw [List.length_append]; show 1 + _ + _ ≤ 10000; omega)) (fun H' s' => intE_add (intE_v rfl) intE_c) (fun H' s' => intE_add (intE_v rfl) intE_c) fun v H7 s8 hv => q v _ (l + 1) (r + 1) H7 (n + 2) hv ?_ ?_ ?_ (by omega) (by omega) (by omega) (by omega) (SmT.trans sm6 (Same.smt s8)) (g7.mono s8) (by omega)
      · intro x hx
        simp only [List.mem_append, List.mem_singleton] at hx
        rcases hx with (z | z) | z
        · rw [z]; exact .inl ⟨_, rfl⟩
        · exact hbo.1 x z
        · exact ok x z
      · simp [hbo.2]
      · simp only [List.length_append, List.length_cons, List.length_nil]
        omega
    · refine ret_of ?_
      unfold tDl8
      refine wds_told (ws := [.str "beside"] ++ ws ++ bs) (tplE_cat (tplE_cat tplE_1 (tplE_v rfl hw6) (by show 1 + _ ≤ 10000; omega)) (tplE_v rfl hbt) (by rw [List.length_append]; show 1 + _ + _ ≤ 10000; omega)) (fun H' s' => intE_add (intE_v rfl) intE_c) (fun H' s' => intE_add (intE_v rfl) intE_c) fun v H7 s8 hv => q v _ (l + 1) (r + 1) H7 (n + 2) hv ?_ ?_ ?_ (by omega) (by omega) (by omega) (by omega) (SmT.trans sm6 (Same.smt s8)) (g7.mono s8) (by omega)
      · intro x hx
        simp only [List.mem_append, List.mem_singleton] at hx
        rcases hx with (z | z) | z
        · rw [z]; exact .inl ⟨_, rfl⟩
        · exact ok x z
        · exact hbo.1 x z
      · simp [hbo.2]
      · simp only [List.length_append, List.length_cons, List.length_nil]
        omega
  refine seq_if ?_
  unfold tDlc tAnd
  refine boolE_lt (i := st) (j := 2) (intE_v rfl) intE_c H2 (.refl _) _ (ifB (fun _ => ?_) fun _ => iteF (rest H2 sA g2 hw2))
  refine ⟨_, rfl, by show 0 ≤ sizeLine; decide, fun le hle => ?_⟩
  have se := Same.upd (o := .lst []) hle
  have HD : HasD K (upd H2 le (.lst [])) (.ref ls) (.list ((idAt ws ws.length).map .int)) := .list (.of (se _ _ hls2)) (HasA.ints _)
  have HE : HasD K (upd H2 le (.lst [])) (.ref le) (.list []) := .list (.of upd_same) .nil
  refine ⟨_, _, HD, HE, ?_, rfl, _, rfl, ?_⟩
  · show ((idAt ws ws.length).map PySem.W.Dat.int).all (PySem.W.kqdOk 7) = true
    exact kqd_ints 7 _
  by_cases c : idAt ws ws.length = []
  · exact iteNeD (by rw [c]; rfl) (rest _ (SmT.trans sA (Same.smt se)) (g2.mono se) (se.seqT hw2))
  refine iteNeD' (fun z => c ?_) ?_
  · injection z with z
    exact List.map_eq_nil_iff.mp z
  have g3 := g2.mono se
  have hls3 := se _ _ hls2
  have hw3 := se.seqT hw2
  have sB : SmT a H (upd H2 le (.lst [])) := SmT.trans sA (Same.smt se)
  generalize upd H2 le (.lst []) = H3 at g3 hls3 hw3 sB ⊢
  have hp : 0 < (idAt ws ws.length).length := List.length_pos_iff.mpr c
  have hq := idAt_len (ws := ws) (n := ws.length)
  refine seq_asg ?_
  refine ⟨_, rfl, ?_⟩
  refine dr_read (lim := ((idAt ws ws.length).length : Int)) rfl (fun R h => ?_) g3 (by omega) (by omega) (by omega) fun j H4 jj0 jj1 s4 g4 => ?_
  · have z := intE_len (K := K) (t := tVar 5) (σ := [some (.ref a), some (.ref b), some (.ref aw), some (.int l), some (.int r), some (.ref ls), some (.int st), none, none]) (v := ls) (fun _ _ _ q => ⟨_, rfl, q⟩) (.inl (.of hls3)) H3 (.refl _) R (by rw [List.length_map]; exact h)
    exact z
  obtain ⟨k, hk⟩ : ∃ k : Nat, (k : Int) = j := ⟨j.toNat, by omega⟩
  have hk1 : k < (idAt ws ws.length).length := by omega
  obtain ⟨at_, hat, hlt⟩ := idAt_lt (ws := ws) (List.getElem?_eq_getElem hk1)
  refine ⟨ls, _, j, .int (at_ : Int), rfl, rfl, .of (s4 _ _ hls3 nls), ?_, ?_⟩
  · rw [← hk]
    refine atI_nat ?_
    rw [List.getElem?_map, List.getElem?_eq_getElem hk1, hat]
    rfl
  have hw4 := SmT.seqT s4 g3 hw3
  refine ret_of ?_
  unfold tDl5
  refine wds_told (ws := ws.take at_ ++ [.str "late"] ++ ws.drop (at_ + 1)) (tplE_cat (tplE_cat (tplE_sl (tplE_v rfl hw4) optE_none (optE_some (intE_v rfl)) (cutV_hi (by omega))) tplE_1 ?_) (tplE_sl (tplE_v rfl hw4) (optE_some (intE_add (i := (at_ : Int)) (intE_v rfl) intE_c)) optE_none ?_) ?_) (fun H' s' => intE_v rfl) (fun H' s' => intE_v rfl) fun v H7 s8 hv => q v _ l r H7 (n + 2) hv ?_ ?_ ?_ (by omega) (by omega) (by omega) (by omega) (SmT.trans sB (SmT.trans s4 (Same.smt s8))) (g4.mono s8) (by omega)
  · rw [List.length_take]; show _ + 1 ≤ 10000; omega
  · rw [show (at_ : Int) + 1 = ((at_ + 1 : Nat) : Int) by omega]
    exact cutV_lo (by omega)
  · rw [List.length_append, List.length_take, List.length_drop]; show _ + 1 + _ ≤ 10000; omega
  · intro x hx
    simp only [List.mem_append, List.mem_singleton] at hx
    rcases hx with (z | z) | z
    · exact ok x (List.mem_of_mem_take z)
    · rw [z]; exact .inl ⟨_, rfl⟩
    · exact ok x (List.mem_of_mem_drop z)
  · simp
  · simp only [List.length_append, List.length_take, List.length_drop, List.length_cons, List.length_nil]
    omega
end
end S21
namespace S21
open PySem L2 Bw
set_option maxHeartbeats 3900000
theorem nrw : (["j", "hand", "p"] : List Str).Nodup := by decide +kernel
section
variable {P : Program} {w : World} {K : PySem.W.Frag} {mg : Str → Option Value} {base : Heap}
theorem ok_del {f fD : Addr} {fd fdD : FuncData} (F : Fun K "_law_delayed" "_law_delayed" s_law_delayed f fd) (T : Txt mg)
    (GD : FnOk P w K mg base CX0 1 fD fdD ["hand", "limit"] spDrw) (kD : PySem.W.keepIn K (.ref fD) = true) (bD : Binds K fdD ["hand", "limit"] []) (mD : mg "_law_draw" = some (.ref fD)) : FnOk P w K mg base CX0 2 f fd ["hand", "drawing"] (spDel K) := by
  refine F.ok scDl (fun vs H Q E h => ?_) (fun cdv A outer s H vs Q E hr h => ?_)
  · obtain ⟨a, b, n, ws, l, r, rfl, _⟩ := h
    rfl
  · obtain ⟨a, b, n, ws, l, r, rfl, hH, hn, hb, ok, hl, q⟩ := h
    have hu := hr.units
    refine ⟨tDel K, ?_, ?_⟩
    · unfold tDel
      refine pss_cons ?_ ?_
      · exact ps_asg (pv 1) (pgTup (n := 3) K rfl rfl (pgs_cons (pg_name (i := 2) scDl.nd rfl (Or.inr rfl)) (pgs_cons (pg_name (i := 3) scDl.nd rfl (Or.inl rfl)) (pgs_cons (pg_name (i := 4) scDl.nd rfl (Or.inl rfl)) pgs_nil))))
      refine pss_cons ?_ ?_
      · unfold tDl2
        refine ps_setComp (N := ["k", "words"]) (own := 1) (caps := [2]) (i := 5) rfl scDl.nd rfl rfl ?_ ?_ ?_ ?_ ?_
        · exact pi_range1 rfl T.range (pa_cons (pe_callB (cLen K rfl) rfl T.len bt_len (pa_cons (pv 2) pa_nil)) pa_nil)
        · exact (show BlkScope nDl (defScope s_law_delayed) ["k", "words"] 1 [2] _ from .mk' (by decide +kernel))
        · exact fun _ _ _ _ _ => pg_name (i := 0) ndl rfl (Or.inl rfl)
        · exact fun _ _ _ _ _ => pts_one (pt_cmpR op_eq (pe_ix (ixT K rfl) (pv 1) (pv 0) (fun _ _ => rfl)) pe_str (nomark _))
        · exact fun _ _ _ _ _ => pv 0
      refine pss_cons ?_ ?_
      · exact ps_set (i := 6) scDl.nd rfl (Or.inl rfl) (pe_call GD hr rfl mD kD bD .nil pass0 (pa_cons (pv 0) (pa_cons pe_int pa_nil)))
      refine pss_cons ?_ ?_
      · refine ps_if ?_ ?_ pss_nil
        · unfold tDlc
          refine PW.pt (pw_and ?_ (pw_and1 ?_))
          · exact pt_cmpR op_lt (pv 6) pe_int (nomark _)
          · exact pt_cmpR (opNeD K rfl hu) (pv 5) (pe_lst pa_nil) (nomark _)
        · refine pss_cons ?_ ?_
          · exact ps_set (i := 7) scDl.nd rfl (Or.inl rfl) (pe_ix (ixL K rfl) (pv 5) (pe_call GD hr rfl mD kD bD .nil pass0 (pa_cons (pv 0) (pa_cons (pe_callB (cLen K rfl) rfl T.len bt_len (pa_cons (pv 5) pa_nil)) pa_nil))) (fun _ _ => rfl))
          · refine pss_one ?_
            refine ps_ret (te := tDl5 K) ?_
            unfold tDl5
            refine pe_drwT ?_ ?_ ?_ ?_ ?_ ?_
            · refine pe_op (opCatA K rfl) ?_ ?_
              · exact pe_op (opCatA K rfl) (pe_slice (slA K rfl) (pv 2) po_none (po_some (pv 7))) (pe_tup (pa_cons pe_str pa_nil))
              · exact pe_slice (slA K rfl) (pv 2) (po_some (pe_op op_add (pv 7) pe_int)) po_none
            · exact pv 3
            · exact pv 4
            · rfl
            · rfl
            · rfl
      refine pss_cons ?_ ?_
      · refine ps_set (i := 8) (te := tDl6 K) ?_ ?_ ?_ ?_ ?_ ?_
        · exact scDl.nd
        · rfl
        · exact Or.inl rfl
        · unfold tDl6
          refine pe_ix (ixL K rfl) ?_ ?_ (fun _ _ => rfl)
          · refine pe_lst ?_
            refine pa_cons ?_ ?_ ?_
            · exact pe_tup (pa_cons pe_str pa_nil)
            · refine pa_cons ?_ pa_nil ?_
              · exact pe_tup (pa_cons pe_str (pa_cons pe_str pa_nil))
              · exact se_tup
            · exact se_tup
          · exact pe_call GD hr rfl mD kD bD .nil pass0 (pa_cons (pv 0) (pa_cons pe_int pa_nil))
        · rfl
        · exact .inl rfl
      refine pss_cons ?_ ?_
      · refine ps_if ?_ ?_ pss_nil
        · exact pt_cmpR op_eq (pv 6) pe_int (nomark _)
        · refine pss_one ?_
          refine ps_ret (te := tDl7 K) ?_
          unfold tDl7
          refine pe_drwT ?_ ?_ ?_ ?_ ?_ ?_
          · exact pe_op (opCatA K rfl) (pe_op (opCatA K rfl) (pe_tup (pa_cons pe_str pa_nil)) (pv 8)) (pv 2)
          · exact pe_op op_add (pv 3) pe_int
          · exact pe_op op_add (pv 4) pe_int
          · rfl
          · rfl
          · rfl
      refine pss_one ?_
      refine ps_ret (te := tDl8 K) ?_
      unfold tDl8
      refine pe_drwT ?_ ?_ ?_ ?_ ?_ ?_
      · exact pe_op (opCatA K rfl) (pe_op (opCatA K rfl) (pe_tup (pa_cons pe_str pa_nil)) (pv 2)) (pv 8)
      · exact pe_op op_add (pv 3) pe_int
      · exact pe_op op_add (pv 4) pe_int
      · rfl
      · rfl
      · rfl
    · exact del_read hH hn hb ok hl q
/-! ### the law -/
theorem LamT.smt {H H' : Hp} {Pt a : Addr} {pos : Pos} {qu : Str} {n : Nat} (h : LamT H Pt pos qu) (hH : Hand H a n) (s : SmT a H H') : LamT H' Pt pos qu := by
  obtain ⟨xs, e⟩ := hH.at_
  have ne : ∀ b o, H b = some o → (∀ ys, o ≠ .lst ys) → b ≠ a := fun b o hb hn z => by
    rw [z, e] at hb
    exact hn _ (Option.some.inj hb).symm
  rcases h with h | ⟨c, h, h2⟩
  · exact .inl (s _ _ h (ne _ _ h fun _ z => nomatch z))
  · exact .inr ⟨c, s _ _ h (ne _ _ h fun _ z => nomatch z), s _ _ h2 (ne _ _ h2 fun _ z => nomatch z)⟩
theorem DrwsH.del {H : Hp} {Pt : Addr} {qs : Array Value} {VS : List V} {ds : List Drw} (hP : H Pt = some (.tbl qs)) (h : DrwsH K H VS ds) : DrwsH K (S21.del Pt H) VS ds := by
  induction h with
  | nil => exact .nil
  | cons h r ih =>
    obtain ⟨aw, h1, h2⟩ := h
    exact .cons ⟨aw, SqT.del hP h1, SqT.del hP h2⟩ ih
/-- between the drawings -/
structure LI (K : PySem.W.Frag) (Pt ha vl : Addr) (VS : List V) (ds : List Drw) (n : Nat) (H : Hp) : Prop where
  hand : Hand H ha n
  lst : H vl = some (.lst VS)
  drw : DrwsH K H VS ds
  lam : LamT H Pt (lamPos lamFo) qFo
  ne : vl ≠ ha
section
variable {Pt ha vl : Addr} {VS : List V} {ds : List Drw} {n m : Nat} {H H' : Hp}
theorem LI.mono (g : LI K Pt ha vl VS ds n H) (s : Same H H') : LI K Pt ha vl VS ds n H' := ⟨g.hand.mono s, s _ _ g.lst, g.drw.tup s.tup, g.lam.mono s, g.ne⟩
theorem LI.smt (g : LI K Pt ha vl VS ds n H) (s : SmT ha H H') (h : Hand H' ha m) : LI K Pt ha vl VS ds m H' := ⟨h, s _ _ g.lst g.ne, g.drw.smt g.hand s, LamT.smt g.lam g.hand s, g.ne⟩
theorem LI.past (g : LI K Pt ha vl VS ds n H) (s : Same (S21.del Pt H) H') (h : LamT H' Pt (lamPos lamFo) qFo) : LI K Pt ha vl VS ds n H' := by
  obtain ⟨qs, hP⟩ := g.lam.tab
  refine ⟨?_, s _ _ (get_del hP g.lst fun _ z => nomatch z), (DrwsH.del hP g.drw).tup s.tup, h, g.ne⟩
  obtain ⟨x0, x1, x2, e, r⟩ := g.hand
  exact ⟨x0, x1, x2, s _ _ (get_del hP e fun _ z => nomatch z), r⟩
end
noncomputable def spLaw23 (K : PySem.W.Frag) (Pt : Addr) : Sp := fun vs H Q _ => ∃ (a : Addr) (ns : List Int), vs = [.ref a] ∧ SqL K H a (ns.map V.int) ∧ ns.length ≤ 63 ∧ LamT H Pt (lamPos lamFo) qFo ∧ ∀ H', Q (.bl true) H'
noncomputable abbrev nL23 : List Str := ["script", "hand", "p", "k", "drawing", "delayed", "turn", "row", "way"]
theorem scL23 : FnScope ["script", "hand", "p", "k", "drawing", "delayed", "turn", "row", "way"] ["script"] (defScope s_law) := ⟨rfl, rfl, rfl, by decide +kernel, rfl, by decide +kernel, by decide +kernel⟩
noncomputable def tK2 (K : PySem.W.Frag) : TS := tFor (iRng1 (tCons (tAddI (tC (.int 1)) (tDr 1 (tC (.int 3)))) tNil)) (gName 6) (tAsg (tCall (spDel K) [] E0 (tCons (tVar 1) (tCons (tVar 5) tNil))) (gName 5))
noncomputable def tK3 (K : PySem.W.Frag) : TE := tCB (rTupl K) (tCons (tComp (iRng1 (tCons (tAddI (tIx K 5 1) (tIx K 5 2)) tNil)) 1 [1, 2] (gName 0) tTrue (tDr 1 (tVar 2))) tNil)
noncomputable def tK4c (K : PySem.W.Frag) : TE := tCall (spLL K) [] E0 (tCons (tOp rMd (tAddI (tVar 3) (tVar 8)) (tC (.int 4))) (tCons (tVar 2) (tCons (tIx K 5 0) (tCons (tVar 7) tNil))))
noncomputable def tK4 (K : PySem.W.Frag) : TS := tFor (iRng1 (tCons (tC (.int 4)) tNil)) (gName 8) (tIfS (tNot (tB (tK4c K))) (tRet (tC (.bl false))) tNext)
noncomputable def rIsT (K : PySem.W.Frag) : List V → Hp → VK → Prop := fun xs H Q => ∃ a ys b, xs = [.ref a, .ty "tuple"] ∧ SqT K H a ys ∧ PySem.W.kitOne K (.type "tuple") (.type "tuple") = some b ∧ Q (.bl b) H
noncomputable def tK5c (K : PySem.W.Frag) (Pt : Addr) : TE := tCB (rIsT K) (tCons (tCall (spPlain2 K Pt) [] E0 (tCons (tVar 2) (tCons (tIx K 4 0) tNil))) (tCons (tC (.ty "tuple")) tNil))
noncomputable def tK5 (K : PySem.W.Frag) (Pt : Addr) : TS := tIfS (tNot (tB (tK5c K Pt))) (tRet (tC (.bl false))) tNext
noncomputable def tKT (K : PySem.W.Frag) (Pt : Addr) : TS := tSeq (tAsg (tVar 4) (gName 5)) (tSeq (tK2 K) (tSeq (tAsg (tK3 K) (gName 7)) (tSeq (tK4 K) (tK5 K Pt))))
noncomputable def tK0 (K : PySem.W.Frag) : TE := tCall spHand [] E0 (tCons (tCB (rSum K) (tCons (tVar 0) tNil)) (tCons (tC (.int 55)) tNil))
noncomputable def tKF (K : PySem.W.Frag) (Pt : Addr) : TS := tFor (iEnum K true (tCons (tCall (spGrown K) [] E0 (tCons (tVar 0) (tCons (tVar 2) (tCons (tC (.int 30)) (tCons (tC (.int 5)) tNil))))) tNil)) (gPair K 3 4) (tKT K Pt)
noncomputable def tLaw23 (K : PySem.W.Frag) (Pt : Addr) : TS := tSeq (tAsg (tK0 K) (gName 1)) (tSeq (tAsg (tCall spPrm [] E0 (tCons (tVar 1) tNil)) (gName 2)) (tSeq (tKF K Pt) (tRet (tC (.bl true)))))
theorem kturn_read {D : Ends} {Pt ha vl dv : Addr} {VS : List V} {ds : List Drw} {n i : Nat} {H : Hp} {sc : V} {p : Int} {d : Drw} {s5 s6 s7 s8 : Option V} (pp : p ∈ primesL) (g : LI K Pt ha vl VS ds n H) (hn : n ≤ 100000) (hd : DrwH K H dv d) (hf : fitsD p 30 5 d)
    (q : ∀ H' n' s3 s4 s5 s6 s7 s8, LI K Pt ha vl VS ds n' H' → n' ≤ n + 40 → D.nx [some sc, some (.ref ha), some (.int p), s3, s4, s5, s6, s7, s8] H') :
    tKT K Pt D [some sc, some (.ref ha), some (.int p), some (.int (i : Int)), some (.ref dv), s5, s6, s7, s8] H := by
  obtain ⟨p2, p97⟩ := prime_pos p pp
  obtain ⟨dwf, dw, dl, dr, _⟩ := hf
  have z1000 : (1000 : Nat) ≤ sizeLine := by decide
  unfold tKT
  refine seq_asg ⟨_, rfl, ?_⟩
  refine seq_of2 ?_
  unfold tK2 tFor iRng1
  show tDr 1 (tC (.int 3)) _ H _
  refine dr_read rfl (fun R h => h) g.hand (by omega) (by decide) (by decide) fun j H1 j0 j1 s1 g1 => ?_
  have hd1 := hd.smt g.hand s1
  replace g := g.smt s1 g1
  refine ⟨1, j, rfl, rfl, 1 + j, rfl, by omega, by omega, ?_⟩
  refine for_range (lo := 0) (fun k σ H' => ∃ v ws l r n' s6, σ = [some sc, some (.ref ha), some (.int p), some (.int (i : Int)), some (.ref dv), some (.ref v), s6, s7, s8] ∧ LI K Pt ha vl VS ds n' H' ∧ n' ≤ n + 1 + 3 * k ∧ DrwH K H' dv d ∧ WdsH K H' v ws l r ∧ WOk ws ∧ ws.length ≤ 30 + 3 * k ∧ 0 ≤ l ∧ l ≤ 5 + k ∧ 0 ≤ r ∧ r ≤ 5 + k ∧ (0 < k → V.str "late" ∈ ws))
    ⟨dv, d.words, d.lft, d.rgt, n + 1, _, rfl, g, by omega, hd1, hd1, Drw.wok (p := p) d, by omega, by omega, by omega, by omega, by omega, fun z => absurd z (by omega)⟩ ?_ ?_
  · rintro k σ H2 hk ⟨v, ws, l, r, n', t6, rfl, g, hn', hdv, hv, ok, hwl, l0, l1, r0, r1, _⟩
    refine ⟨_, rfl, _, rfl, ha, v, n', ws, l, r, rfl, g.hand, by omega, hv, ok, by omega, fun v' ws' l' r' H3 n3 hv' ok' hlate hwl' a1 a2 a3 a4 s3 g3 hn3 => ?_⟩
    exact ⟨v', ws', l', r', n3, _, rfl, g.smt s3 g3, by omega, hdv.smt g.hand s3, hv', ok', by omega, by omega, by omega, by omega, by omega, fun _ => hlate⟩
  rintro σ H2 ⟨v, ws, l, r, n', t6, rfl, g, hn', hdv, hv, ok, hwl, l0, l1, r0, r1, hlate⟩
  have hlate := hlate (by omega)
  have hk : (1 + j).toNat ≤ 3 := by omega
  obtain ⟨aw, hv1, hv2⟩ := hv
  show tSeq (tAsg (tK3 K) (gName 7)) (tSeq (tK4 K) (tK5 K Pt)) D _ H2
  refine seq_asg ?_
  unfold tK3 tCB
  show tAddI (tIx K 5 1) (tIx K 5 2) _ H2 _
  refine intE_add (intE_ix (j := 1) rfl hv1 rfl) (intE_ix (j := 2) rfl hv1 rfl) H2 (.refl _) _ ?_
  refine ⟨l + r, rfl, by omega, by omega, ?_⟩
  refine comp_rngF (cp := [some (.ref ha), some (.int p)]) (n := (l + r).toNat) (lo := 0) (fun k H' zs => zs.length = k ∧ SmT ha H2 H' ∧ ∃ n2, LI K Pt ha vl VS ds n2 H' ∧ n2 ≤ n' + k) (by omega) ⟨rfl, SmT.refl _ _, n', g, by omega⟩ (fun k H' zs h => by rw [h.1]; exact Nat.le_refl _) ?_ ?_
  · rintro k H3 zs hk' ⟨hz, sm3, n2, g3, hn2⟩
    refine dr_read rfl (fun R h => ⟨_, rfl, h⟩) g3.hand (by omega) (by omega) (by omega) fun dd H4 e0 e1 s4 g4 => CpF.mk ⟨?_, SmT.trans sm3 s4, n2 + 1, g3.smt s4 g4, by omega⟩
    rw [List.length_append, hz]; rfl
  rintro H3 zs ⟨hz, sm3, n2, g3, hn2⟩ lr hlr
  refine ⟨lr, zs, rfl, .inl ⟨.of upd_same, fun tr htr => ?_⟩⟩
  have hv1 := SmT.seqT sm3 g.hand hv1
  have hv2 := SmT.seqT sm3 g.hand hv2
  have hdv := hdv.smt g.hand sm3
  have s5 := (Same.upd (o := .lst zs) hlr).trans (Same.upd htr (o := .tup zs))
  have hrow : SqT K (upd (upd H3 lr (.lst zs)) tr (.tup zs)) tr zs := .of upd_same
  replace g3 := g3.mono s5
  have hv1 := s5.seqT hv1
  have hv2 := s5.seqT hv2
  have hdv := hdv.mono s5
  generalize upd (upd H3 lr (.lst zs)) tr (.tup zs) = H4 at hrow g3 hv1 hv2 hdv ⊢
  clear s5 sm3 hlr htr
  have hL : LateW K H4 aw := ⟨ws, hv2, ok.flat, late_in hlate⟩
  refine seq_of2 ?_
  unfold tK4 tFor iRng1
  refine ⟨4, rfl, by decide, by decide, ?_⟩
  refine for_range (lo := 0) (fun k σ H' => Same H4 H' ∧ ∃ s8, σ = [some sc, some (.ref ha), some (.int p), some (.int (i : Int)), some (.ref dv), some (.ref v), t6, some (.ref tr), s8]) ⟨.refl _, _, rfl⟩ ?_ ?_
  · rintro k σ H5 hk' ⟨s5, t8, rfl⟩
    refine intE_mod (intE_add (i := (i : Int)) (j := 0 + (k : Int)) (intE_v rfl) (intE_v rfl)) intE_c (by decide) H5 (.refl _) _ ?_
    refine ⟨_, rfl, ?_⟩
    refine ⟨_, rfl, v, _, 0, _, rfl, rfl, s5.seqT hv1, atI_nat (j := 0) rfl, _, rfl, _, p, aw, tr, rfl, hL.mono s5, ⟨_, s5.seqT hrow⟩, fun H6 s6 => ⟨true, rfl, iteF ⟨s5.trans s6, _, rfl⟩⟩⟩
  rintro σ H5 ⟨s5, t8, rfl⟩
  replace g3 := g3.mono s5
  obtain ⟨dw', hd1, hd2⟩ := hdv.mono s5
  show tK5 K Pt _ _ _
  unfold tK5 tIfS tNot tB tK5c tCB
  refine ⟨_, rfl, _, rfl, dv, _, 0, _, rfl, rfl, hd1, atI_nat (j := 0) rfl, p, dw', d, rfl, pp, dwf, by omega, hd2, g3.lam, fun pv RS H6 s6 hL6 hpv hRS => ?_⟩
  refine ⟨pv, RS, true, rfl, hpv, kit_tuple_tuple K, true, rfl, iteF ?_⟩
  exact q H6 n2 _ _ _ _ _ _ (g3.past s6 hL6) (by omega)
theorem law23_read {D : Ends} {H : Hp} {a Pt : Addr} {ns : List Int} (hS : SqL K H a (ns.map V.int)) (hlen : ns.length ≤ 63) (hL : LamT H Pt (lamPos lamFo) qFo) (q : ∀ H', D.rt (.bl true) H') :
    tLaw23 K Pt D [some (.ref a), none, none, none, none, none, none, none, none] H := by
  unfold tLaw23
  refine seq_asg ?_
  unfold tK0
  refine ⟨_, rfl, a, ns, rfl, hS, ns.sum, 55, rfl, by decide, by decide, fun ha H1 s1 hn1 g1 => ?_⟩
  refine seq_asg ⟨_, rfl, ha, 0, rfl, g1, by decide, fun p H2 pp s2 g2 => ?_⟩
  obtain ⟨p2, p97⟩ := prime_pos p pp
  have sA : Same H H2 := fun b o e => s2 b o (s1 b o e) (ne_of_none e hn1)
  refine seq_of2 ?_
  unfold tKF tFor iEnum
  refine ⟨_, rfl, _, rfl, a, ns, p, 30, 5, rfl, sA.seq hS, hlen, p2, p97, by decide, by decide, by decide, by decide, fun vl VS ds H3 s3 hvl hD hfit hdl hd1 => ?_⟩
  have ne : vl ≠ ha := fun z => by
    obtain ⟨x0, x1, x2, e, _⟩ := g2.mono s3
    rw [z, e] at hvl
    cases hvl
    cases hD
  have G0 : LI K Pt ha vl VS ds 3 H3 := ⟨g2.mono s3, hvl, hD, (hL.mono sA).mono s3, ne⟩
  have eV := hD.len
  refine ⟨vl, rfl, ⟨_, .of hvl⟩, for_enum (b := true) (xs := VS) (fun i σ H' => i ≤ VS.length ∧ ∃ n s3 s4 s5 s6 s7 s8, σ = [some (.ref a), some (.ref ha), some (.int p), s3, s4, s5, s6, s7, s8] ∧ LI K Pt ha vl VS ds n H' ∧ n ≤ 3 + 40 * i)
    ⟨Nat.zero_le _, 3, _, _, _, _, _, _, rfl, G0, by omega⟩ (fun i σ H' ⟨_, _, _, _, _, _, _, _, _, g, _⟩ => .of g.lst) (fun i σ H1 H2 s12 ⟨hi, n, s3, s4, s5, s6, s7, s8, e, g, hn⟩ => ⟨hi, n, s3, s4, s5, s6, s7, s8, e, g.mono s12, hn⟩) ?_ ?_⟩
  · rintro i x σ H6 hx ⟨_, n, s3, s4, s5, s6, s7, s8, rfl, g, hn⟩
    have hi := (List.getElem?_eq_some_iff.mp hx).1
    obtain ⟨dv, d, rfl, hdi, hdv⟩ := g.drw.at hx
    exact kturn_read pp g (by omega) hdv (hfit d (List.mem_of_getElem? hdi)) fun H' n' s3 s4 s5 s6 s7 s8 g' hn' => ⟨hi, n', s3, s4, s5, s6, s7, s8, rfl, g', by omega⟩
  · intro σ H6 _
    exact q _
end
end S21
namespace S21
open PySem L2 Bw
set_option maxHeartbeats 3900000
section
variable {P : Program} {w : World} {K : PySem.W.Frag} {mg : Str → Option Value} {base : Heap}
theorem ok_law23 {Pt f fH fD fP fG fE fL fN : Addr} {fd fdH fdD fdP fdG fdE fdL fdN : FuncData} (F : Fun K "law" "law" s_law f fd) (T : Txt mg)
    (GH : FnOk P w K mg base CX0 1 fH fdH ["cell", "k"] spHand) (kH : PySem.W.keepIn K (.ref fH) = true) (bH : Binds K fdH ["cell", "k"] []) (mH : mg "_law_hand" = some (.ref fH))
    (GD : FnOk P w K mg base CX0 1 fD fdD ["hand", "limit"] spDrw) (kD : PySem.W.keepIn K (.ref fD) = true) (bD : Binds K fdD ["hand", "limit"] []) (mD : mg "_law_draw" = some (.ref fD))
    (GP : FnOk P w K mg base CX0 2 fP fdP ["hand"] spPrm) (kP : PySem.W.keepIn K (.ref fP) = true) (bP : Binds K fdP ["hand"] []) (mP : mg "_law_prime" = some (.ref fP))
    (GG : FnOk P w K mg base CX0 4 fG fdG ["script", "p", "most", "side"] (spGrown K)) (kG : PySem.W.keepIn K (.ref fG) = true) (bG : Binds K fdG ["script", "p", "most", "side"] []) (mG : mg "_law_grown" = some (.ref fG))
    (GE : FnOk P w K mg base CX0 2 fE fdE ["hand", "drawing"] (spDel K)) (kE : PySem.W.keepIn K (.ref fE) = true) (bE : Binds K fdE ["hand", "drawing"] []) (mE : mg "_law_delayed" = some (.ref fE))
    (GL : FnOk P w K mg base CX0 5 fL fdL ["way", "p", "words", "row"] (spLL K)) (kL : PySem.W.keepIn K (.ref fL) = true) (bL : Binds K fdL ["way", "p", "words", "row"] []) (mL : mg "_law_late" = some (.ref fL))
    (GN : FnOk P w K mg base CX0 10 fN fdN ["p", "words"] (spPlain2 K Pt)) (kN : PySem.W.keepIn K (.ref fN) = true) (bN : Binds K fdN ["p", "words"] []) (mN : mg "plain" = some (.ref fN)) :
    FnOk P w K mg base CX0 11 f fd ["script"] (spLaw23 K Pt) := by
  refine F.ok scL23 (fun vs H Q E h => ?_) (fun cdv A outer s H vs Q E hr h => ?_)
  · obtain ⟨a, ns, rfl, _⟩ := h
    rfl
  · obtain ⟨a, ns, rfl, hS, hlen, hL, q⟩ := h
    have hr1 : Room 1 _ := hr.mono (by decide)
    have hr2 : Room 2 _ := hr.mono (by decide)
    have hr4 : Room 4 _ := hr.mono (by decide)
    have hr5 : Room 5 _ := hr.mono (by decide)
    refine ⟨tLaw23 K Pt, ?_, ?_⟩
    · unfold tLaw23
      refine pss_cons ?_ ?_
      · exact ps_set (i := 1) (te := tK0 K) scL23.nd rfl (Or.inr rfl) (pe_call GH hr1 rfl mH kH bH .nil pass0 (pa_cons (pe_callB (cSum K rfl rfl) rfl T.sum bt_sum (pa_cons (pv 0) pa_nil)) (pa_cons pe_int pa_nil)))
      refine pss_cons ?_ ?_
      · exact ps_set (i := 2) scL23.nd rfl (Or.inr rfl) (pe_call GP hr2 rfl mP kP bP .nil pass0 (pa_cons (pv 1) pa_nil))
      refine pss_cons ?_ ?_
      · unfold tKF
        refine ps_for PassesOwn.never rfl ?_ ?_ ?_
        · exact piEnum K rfl true rfl T.enumerate (pa_cons (pe_call GG hr4 rfl mG kG bG .nil pass0 (pa_cons (pv 0) (pa_cons (pv 2) (pa_cons pe_int (pa_cons pe_int pa_nil))))) pa_nil)
        · exact pgTup (n := 2) K rfl rfl (pgs_cons (pg_name (i := 3) scL23.nd rfl (Or.inl rfl)) (pgs_cons (pg_name (i := 4) scL23.nd rfl (Or.inl rfl)) pgs_nil))
        · unfold tKT
          refine pss_cons ?_ ?_
          · exact ps_set (i := 5) scL23.nd rfl (Or.inl rfl) (pv 4)
          refine pss_cons ?_ ?_
          · unfold tK2
            refine ps_for PassesOwn.never rfl ?_ ?_ ?_
            · exact pi_range1 rfl T.range (pa_cons (pe_op op_add pe_int (pe_call GD hr1 rfl mD kD bD .nil pass0 (pa_cons (pv 1) (pa_cons pe_int pa_nil)))) pa_nil)
            · exact pg_name (i := 6) scL23.nd rfl (Or.inl rfl)
            · refine pss_one ?_
              exact ps_set (i := 5) scL23.nd rfl (Or.inl rfl) (pe_call GE hr2 rfl mE kE bE .nil pass0 (pa_cons (pv 1) (pa_cons (pv 5) pa_nil)))
          refine pss_cons ?_ ?_
          · refine ps_set (i := 7) (te := tK3 K) ?_ ?_ ?_ ?_ ?_ ?_
            · exact scL23.nd
            · rfl
            · exact Or.inl rfl
            · unfold tK3
              refine pe_callTy (cTuple K rfl) rfl T.tuple bt_tuple ?_
              refine pa_cons ?_ pa_nil ?_
              · refine pe_comp (N := ["j", "hand", "p"]) (own := 1) (caps := [1, 2]) rfl ?_ ?_ ?_ ?_ ?_
                · exact pi_range1 rfl T.range (pa_cons (pe_op op_add (pe_ix (ixT K rfl) (pv 5) pe_int (fun _ _ => rfl)) (pe_ix (ixT K rfl) (pv 5) pe_int (fun _ _ => rfl))) pa_nil)
                · exact (show BlkScope nL23 (defScope s_law) ["j", "hand", "p"] 1 [1, 2] _ from .mk' (by decide +kernel))
                · exact fun _ _ _ _ _ => pg_name (i := 0) nrw rfl (Or.inl rfl)
                · exact fun _ _ _ _ _ => pts_nil
                · exact fun _ _ _ _ _ => pe_call GD hr1 rfl mD kD bD .nil pass0 (pa_cons (pv 1) (pa_cons (pv 2) pa_nil))
              · rfl
            · rfl
            · exact .inl rfl
          refine pss_cons ?_ ?_
          · unfold tK4
            refine ps_for PassesOwn.never rfl ?_ ?_ ?_
            · exact pi_range1 rfl T.range (pa_cons pe_int pa_nil)
            · exact pg_name (i := 8) scL23.nd rfl (Or.inl rfl)
            · refine pss_one ?_
              refine ps_if ?_ ?_ pss_nil
              · exact pt_not (pt_val (pe_call GL hr5 rfl mL kL bL .nil pass0 (pa_cons (pe_op op_mod (pe_op op_add (pv 3) (pv 8)) pe_int) (pa_cons (pv 2) (pa_cons (pe_ix (ixT K rfl) (pv 5) pe_int (fun _ _ => rfl)) (pa_cons (pv 7) pa_nil))))))
              · exact pss_one (ps_ret pe_bl)
          refine pss_one ?_
          unfold tK5
          refine ps_if ?_ ?_ pss_nil
          · refine pt_not (pt_val ?_)
            unfold tK5c
            exact pe_callB (cIsT (T := "tuple") K rfl) rfl T.isinstance bt_isinstance (pa_cons (pe_call GN hr rfl mN kN bN .nil pass0 (pa_cons (pv 2) (pa_cons (pe_ix (ixT K rfl) (pv 4) pe_int (fun _ _ => rfl)) pa_nil))) (pa_cons (pe_ty rfl T.tuple bt_tuple) pa_nil))
          · exact pss_one (ps_ret pe_bl)
      refine pss_one ?_
      exact ps_ret pe_bl
    · exact law23_read hS hlen hL q
end
end S21
namespace S21
open PySem L2 Bw
set_option maxHeartbeats 3900000
/-! ### the program's own tables -/
noncomputable def aOf (K : PySem.W.Frag) (x : Str) : Addr := match PySem.W.nsIn K mainGlobals x with
  | some (some (.ref a)) => a
  | _ => 0
noncomputable def refIn (K : PySem.W.Frag) (x : Str) : Bool := match PySem.W.nsIn K mainGlobals x with
  | some (some (.ref _)) => true
  | _ => false
theorem aOf_is {K : PySem.W.Frag} {x : Str} (h : refIn K x = true) : PySem.W.nsIn K mainGlobals x = some (some (.ref (aOf K x))) := by
  unfold refIn at h
  split at h
  case h_2 => cases h
  case h_1 a e =>
    unfold aOf
    rw [e]
noncomputable def tabs21 (K : PySem.W.Frag) : Bool := refIn K "PARTS" && refIn K "SIDES" && refIn K "BOX_ROWS" && okTab K (aOf K "PARTS") && decide (tabV K (aOf K "PARTS") = dParts) && boxesOk K (aOf K "SIDES") (aOf K "BOX_ROWS")
section
variable {K : PySem.W.Frag} {h : Heap} {mg : Str → Option Value}
theorem parts21 (X : K.In h) (G : h.Ns mainGlobals mg) (e : tabs21 K = true) : Parts K mg (aOf K "PARTS") := by
  simp only [tabs21, Bool.and_eq_true, decide_eq_true_eq] at e
  obtain ⟨⟨⟨⟨⟨e1, _⟩, _⟩, e4⟩, e5⟩, _⟩ := e
  exact ⟨PySem.W.mg_of X G (aOf_is e1), fun h X => e5 ▸ vtab_of X e4⟩
theorem boxes21 (X : K.In h) (G : h.Ns mainGlobals mg) (e : tabs21 K = true) : Boxes K mg (aOf K "SIDES") (aOf K "BOX_ROWS") := by
  simp only [tabs21, Bool.and_eq_true, decide_eq_true_eq] at e
  obtain ⟨⟨⟨⟨⟨_, e2⟩, e3⟩, _⟩, _⟩, e6⟩ := e
  exact ⟨PySem.W.mg_of X G (aOf_is e2), PySem.W.mg_of X G (aOf_is e3), e6⟩
end
end S21
namespace S21
open PySem L2 Bw
set_option maxHeartbeats 3900000
theorem us1 {fd : FuncData} {ps : List Str} : ∀ (us : List Value), us.length = 1 → (∀ a0, bindArgs fd ⟨[a0], []⟩ = pure (ps.zip [a0])) → bindArgs fd ⟨us, []⟩ = pure (ps.zip us)
  | [a0], _, h => h a0
theorem us2 {fd : FuncData} {ps : List Str} : ∀ (us : List Value), us.length = 2 → (∀ a0 a1, bindArgs fd ⟨[a0, a1], []⟩ = pure (ps.zip [a0, a1])) → bindArgs fd ⟨us, []⟩ = pure (ps.zip us)
  | [a0, a1], _, h => h a0 a1
theorem us3 {fd : FuncData} {ps : List Str} : ∀ (us : List Value), us.length = 3 → (∀ a0 a1 a2, bindArgs fd ⟨[a0, a1, a2], []⟩ = pure (ps.zip [a0, a1, a2])) → bindArgs fd ⟨us, []⟩ = pure (ps.zip us)
  | [a0, a1, a2], _, h => h a0 a1 a2
theorem us4 {fd : FuncData} {ps : List Str} : ∀ (us : List Value), us.length = 4 → (∀ a0 a1 a2 a3, bindArgs fd ⟨[a0, a1, a2, a3], []⟩ = pure (ps.zip [a0, a1, a2, a3])) → bindArgs fd ⟨us, []⟩ = pure (ps.zip us)
  | [a0, a1, a2, a3], _, h => h a0 a1 a2 a3
theorem all_mk {l : PySem.W.OpenLaw} {w : World} {K : PySem.W.Frag} {h : Heap} {mg : Str → Option Value} {fa f1 f2 f3 f4 f5 f6 f7 f8 f9 f10 f11 f12 f13 f14 f15 f16 f17 f18 f19 f20 f21 f22 f23 f24 f25 f26 f27 f28 f29 f30 f31 f32 f33 f34 f35 f36 : Addr} (X : K.In h) (G : h.Ns mainGlobals mg) (hfa : mg "law" = some (.ref fa))
    {od1 an1 od2 an2 od3 an3 od4 an4 od5 an5 od6 an6 od7 an7 od8 an8 od9 an9 od10 an10 od11 an11 od12 an12 od13 an13 od14 an14 od15 an15 od16 an16 od17 an17 od18 an18 od19 an19 od20 an20 od21 an21 od22 an22 od23 an23 od24 an24 od25 an25 od26 an26 od27 an27 od28 an28 od29 an29 od30 an30 od31 an31 od32 an32 od33 an33 od34 an34 od35 an35 od36 an36 : Option Addr} {sl1 sl2 sl3 sl4 sl5 sl6 sl7 sl8 sl9 sl10 sl11 sl12 sl13 sl14 sl15 sl16 sl17 sl18 sl19 sl20 sl21 sl22 sl23 sl24 sl25 sl26 sl27 sl28 sl29 sl30 sl31 sl32 sl33 sl34 sl35 sl36 : Array (Option Value)} {oc1 kV1 dc1 pm1 cd1 ct1 oc2 kV2 dc2 pm2 cd2 ct2 oc3 kV3 dc3 pm3 cd3 ct3 oc4 kV4 dc4 pm4 cd4 ct4 oc5 kV5 dc5 pm5 cd5 ct5 oc6 kV6 dc6 pm6 cd6 ct6 oc7 kV7 dc7 pm7 cd7 ct7 oc8 kV8 dc8 pm8 cd8 ct8 oc9 kV9 dc9 pm9 cd9 ct9 oc10 kV10 dc10 pm10 cd10 ct10 oc11 kV11 dc11 pm11 cd11 ct11 oc12 kV12 dc12 pm12 cd12 ct12 oc13 kV13 dc13 pm13 cd13 ct13 oc14 kV14 dc14 pm14 cd14 ct14 oc15 kV15 dc15 pm15 cd15 ct15 oc16 kV16 dc16 pm16 cd16 ct16 oc17 kV17 dc17 pm17 cd17 ct17 oc18 kV18 dc18 pm18 cd18 ct18 oc19 kV19 dc19 pm19 cd19 ct19 oc20 kV20 dc20 pm20 cd20 ct20 oc21 kV21 dc21 pm21 cd21 ct21 oc22 kV22 dc22 pm22 cd22 ct22 oc23 kV23 dc23 pm23 cd23 ct23 oc24 kV24 dc24 pm24 cd24 ct24 oc25 kV25 dc25 pm25 cd25 ct25 oc26 kV26 dc26 pm26 cd26 ct26 oc27 kV27 dc27 pm27 cd27 ct27 oc28 kV28 dc28 pm28 cd28 ct28 oc29 kV29 dc29 pm29 cd29 ct29 oc30 kV30 dc30 pm30 cd30 ct30 oc31 kV31 dc31 pm31 cd31 ct31 oc32 kV32 dc32 pm32 cd32 ct32 oc33 kV33 dc33 pm33 cd33 ct33 oc34 kV34 dc34 pm34 cd34 ct34 oc35 kV35 dc35 pm35 cd35 ct35 oc36 kV36 dc36 pm36 cd36 ct36 : Value}
    (a1 : PySem.W.nsIn K mainGlobals "turned" = some (some (.ref f1))) (l1 : K.lookup f1 = some ⟨oc1, od1, .func (PySem.W.fnOf "turned" "turned" (defArgs sTurned) (defBody sTurned) (defScope sTurned) .none kV1 dc1 pm1 an1 cd1 ct1), sl1⟩) (c1 : PySem.W.codeIn K cd1 "turned" = true) (k1 : PySem.W.keepIn K (.ref f1) = true)
    (a2 : PySem.W.nsIn K mainGlobals "added" = some (some (.ref f2))) (l2 : K.lookup f2 = some ⟨oc2, od2, .func (PySem.W.fnOf "added" "added" (defArgs sAdded) (defBody sAdded) (defScope sAdded) .none kV2 dc2 pm2 an2 cd2 ct2), sl2⟩) (c2 : PySem.W.codeIn K cd2 "added" = true) (k2 : PySem.W.keepIn K (.ref f2) = true)
    (a3 : PySem.W.nsIn K mainGlobals "summed" = some (some (.ref f3))) (l3 : K.lookup f3 = some ⟨oc3, od3, .func (PySem.W.fnOf "summed" "summed" (defArgs sSummed) (defBody sSummed) (defScope sSummed) .none kV3 dc3 pm3 an3 cd3 ct3), sl3⟩) (c3 : PySem.W.codeIn K cd3 "summed" = true) (k3 : PySem.W.keepIn K (.ref f3) = true)
    (a4 : PySem.W.nsIn K mainGlobals "reduced" = some (some (.ref f4))) (l4 : K.lookup f4 = some ⟨oc4, od4, .func (PySem.W.fnOf "reduced" "reduced" (defArgs sReduced) (defBody sReduced) (defScope sReduced) .none kV4 dc4 pm4 an4 cd4 ct4), sl4⟩) (c4 : PySem.W.codeIn K cd4 "reduced" = true) (k4 : PySem.W.keepIn K (.ref f4) = true)
    (a5 : PySem.W.nsIn K mainGlobals "led" = some (some (.ref f5))) (l5 : K.lookup f5 = some ⟨oc5, od5, .func (PySem.W.fnOf "led" "led" (defArgs sLed) (defBody sLed) (defScope sLed) .none kV5 dc5 pm5 an5 cd5 ct5), sl5⟩) (c5 : PySem.W.codeIn K cd5 "led" = true) (k5 : PySem.W.keepIn K (.ref f5) = true)
    (a6 : PySem.W.nsIn K mainGlobals "cleared" = some (some (.ref f6))) (l6 : K.lookup f6 = some ⟨oc6, od6, .func (PySem.W.fnOf "cleared" "cleared" (defArgs sCleared) (defBody sCleared) (defScope sCleared) .none kV6 dc6 pm6 an6 cd6 ct6), sl6⟩) (c6 : PySem.W.codeIn K cd6 "cleared" = true) (k6 : PySem.W.keepIn K (.ref f6) = true)
    (a7 : PySem.W.nsIn K mainGlobals "barred" = some (some (.ref f7))) (l7 : K.lookup f7 = some ⟨oc7, od7, .func (PySem.W.fnOf "barred" "barred" (defArgs sBarred) (defBody sBarred) (defScope sBarred) .none kV7 dc7 pm7 an7 cd7 ct7), sl7⟩) (c7 : PySem.W.codeIn K cd7 "barred" = true) (k7 : PySem.W.keepIn K (.ref f7) = true)
    (a8 : PySem.W.nsIn K mainGlobals "wires" = some (some (.ref f8))) (l8 : K.lookup f8 = some ⟨oc8, od8, .func (PySem.W.fnOf "wires" "wires" (defArgs s_wires) (defBody s_wires) (defScope s_wires) .none kV8 dc8 pm8 an8 cd8 ct8), sl8⟩) (c8 : PySem.W.codeIn K cd8 "wires" = true) (k8 : PySem.W.keepIn K (.ref f8) = true)
    (a9 : PySem.W.nsIn K mainGlobals "folded" = some (some (.ref f9))) (l9 : K.lookup f9 = some ⟨oc9, od9, .func (PySem.W.fnOf "folded" "folded" (defArgs s_folded) (defBody s_folded) (defScope s_folded) .none kV9 dc9 pm9 an9 cd9 ct9), sl9⟩) (c9 : PySem.W.codeIn K cd9 "folded" = true) (k9 : PySem.W.keepIn K (.ref f9) = true)
    (a10 : PySem.W.nsIn K mainGlobals "all_folded" = some (some (.ref f10))) (l10 : K.lookup f10 = some ⟨oc10, od10, .func (PySem.W.fnOf "all_folded" "all_folded" (defArgs s_all_folded) (defBody s_all_folded) (defScope s_all_folded) .none kV10 dc10 pm10 an10 cd10 ct10), sl10⟩) (c10 : PySem.W.codeIn K cd10 "all_folded" = true) (k10 : PySem.W.keepIn K (.ref f10) = true)
    (a11 : PySem.W.nsIn K mainGlobals "measured" = some (some (.ref f11))) (l11 : K.lookup f11 = some ⟨oc11, od11, .func (PySem.W.fnOf "measured" "measured" (defArgs s_measured) (defBody s_measured) (defScope s_measured) .none kV11 dc11 pm11 an11 cd11 ct11), sl11⟩) (c11 : PySem.W.codeIn K cd11 "measured" = true) (k11 : PySem.W.keepIn K (.ref f11) = true)
    (a12 : PySem.W.nsIn K mainGlobals "measure" = some (some (.ref f12))) (l12 : K.lookup f12 = some ⟨oc12, od12, .func (PySem.W.fnOf "measure" "measure" (defArgs s_measure) (defBody s_measure) (defScope s_measure) .none kV12 dc12 pm12 an12 cd12 ct12), sl12⟩) (c12 : PySem.W.codeIn K cd12 "measure" = true) (k12 : PySem.W.keepIn K (.ref f12) = true)
    (a13 : PySem.W.nsIn K mainGlobals "plain" = some (some (.ref f13))) (l13 : K.lookup f13 = some ⟨oc13, od13, .func (PySem.W.fnOf "plain" "plain" (defArgs s_plain) (defBody s_plain) (defScope s_plain) .none kV13 dc13 pm13 an13 cd13 ct13), sl13⟩) (c13 : PySem.W.codeIn K cd13 "plain" = true) (k13 : PySem.W.keepIn K (.ref f13) = true)
    (a14 : PySem.W.nsIn K mainGlobals "forms" = some (some (.ref f14))) (l14 : K.lookup f14 = some ⟨oc14, od14, .func (PySem.W.fnOf "forms" "forms" (defArgs s_forms) (defBody s_forms) (defScope s_forms) .none kV14 dc14 pm14 an14 cd14 ct14), sl14⟩) (c14 : PySem.W.codeIn K cd14 "forms" = true) (k14 : PySem.W.keepIn K (.ref f14) = true)
    (a15 : PySem.W.nsIn K mainGlobals "refuse_late" = some (some (.ref f15))) (l15 : K.lookup f15 = some ⟨oc15, od15, .func (PySem.W.fnOf "refuse_late" "refuse_late" (defArgs s_refuse_late) (defBody s_refuse_late) (defScope s_refuse_late) .none kV15 dc15 pm15 an15 cd15 ct15), sl15⟩) (c15 : PySem.W.codeIn K cd15 "refuse_late" = true) (k15 : PySem.W.keepIn K (.ref f15) = true)
    (a16 : PySem.W.nsIn K mainGlobals "form" = some (some (.ref f16))) (l16 : K.lookup f16 = some ⟨oc16, od16, .func (PySem.W.fnOf "form" "form" (defArgs s_form) (defBody s_form) (defScope s_form) .none kV16 dc16 pm16 an16 cd16 ct16), sl16⟩) (c16 : PySem.W.codeIn K cd16 "form" = true) (k16 : PySem.W.keepIn K (.ref f16) = true)
    (a17 : PySem.W.nsIn K mainGlobals "form_of_back" = some (some (.ref f17))) (l17 : K.lookup f17 = some ⟨oc17, od17, .func (PySem.W.fnOf "form_of_back" "form_of_back" (defArgs s_form_of_back) (defBody s_form_of_back) (defScope s_form_of_back) .none kV17 dc17 pm17 an17 cd17 ct17), sl17⟩) (c17 : PySem.W.codeIn K cd17 "form_of_back" = true) (k17 : PySem.W.keepIn K (.ref f17) = true)
    (a18 : PySem.W.nsIn K mainGlobals "form_of_beside" = some (some (.ref f18))) (l18 : K.lookup f18 = some ⟨oc18, od18, .func (PySem.W.fnOf "form_of_beside" "form_of_beside" (defArgs s_form_of_beside) (defBody s_form_of_beside) (defScope s_form_of_beside) .none kV18 dc18 pm18 an18 cd18 ct18), sl18⟩) (c18 : PySem.W.codeIn K cd18 "form_of_beside" = true) (k18 : PySem.W.keepIn K (.ref f18) = true)
    (a19 : PySem.W.nsIn K mainGlobals "form_of_then" = some (some (.ref f19))) (l19 : K.lookup f19 = some ⟨oc19, od19, .func (PySem.W.fnOf "form_of_then" "form_of_then" (defArgs s_form_of_then) (defBody s_form_of_then) (defScope s_form_of_then) .none kV19 dc19 pm19 an19 cd19 ct19), sl19⟩) (c19 : PySem.W.codeIn K cd19 "form_of_then" = true) (k19 : PySem.W.keepIn K (.ref f19) = true)
    (a20 : PySem.W.nsIn K mainGlobals "facing" = some (some (.ref f20))) (l20 : K.lookup f20 = some ⟨oc20, od20, .func (PySem.W.fnOf "facing" "facing" (defArgs s_facing) (defBody s_facing) (defScope s_facing) .none kV20 dc20 pm20 an20 cd20 ct20), sl20⟩) (c20 : PySem.W.codeIn K cd20 "facing" = true) (k20 : PySem.W.keepIn K (.ref f20) = true)
    (a21 : PySem.W.nsIn K mainGlobals "stands" = some (some (.ref f21))) (l21 : K.lookup f21 = some ⟨oc21, od21, .func (PySem.W.fnOf "stands" "stands" (defArgs s_stands) (defBody s_stands) (defScope s_stands) .none kV21 dc21 pm21 an21 cd21 ct21), sl21⟩) (c21 : PySem.W.codeIn K cd21 "stands" = true) (k21 : PySem.W.keepIn K (.ref f21) = true)
    (a22 : PySem.W.nsIn K mainGlobals "setting" = some (some (.ref f22))) (l22 : K.lookup f22 = some ⟨oc22, od22, .func (PySem.W.fnOf "setting" "setting" (defArgs s_setting) (defBody s_setting) (defScope s_setting) .none kV22 dc22 pm22 an22 cd22 ct22), sl22⟩) (c22 : PySem.W.codeIn K cd22 "setting" = true) (k22 : PySem.W.keepIn K (.ref f22) = true)
    (a23 : PySem.W.nsIn K mainGlobals "bar" = some (some (.ref f23))) (l23 : K.lookup f23 = some ⟨oc23, od23, .func (PySem.W.fnOf "bar" "bar" (defArgs s_bar) (defBody s_bar) (defScope s_bar) .none kV23 dc23 pm23 an23 cd23 ct23), sl23⟩) (c23 : PySem.W.codeIn K cd23 "bar" = true) (k23 : PySem.W.keepIn K (.ref f23) = true)
    (a24 : PySem.W.nsIn K mainGlobals "_law_hand" = some (some (.ref f24))) (l24 : K.lookup f24 = some ⟨oc24, od24, .func (PySem.W.fnOf "_law_hand" "_law_hand" (defArgs s_law_hand) (defBody s_law_hand) (defScope s_law_hand) .none kV24 dc24 pm24 an24 cd24 ct24), sl24⟩) (c24 : PySem.W.codeIn K cd24 "_law_hand" = true) (k24 : PySem.W.keepIn K (.ref f24) = true)
    (a25 : PySem.W.nsIn K mainGlobals "_law_draw" = some (some (.ref f25))) (l25 : K.lookup f25 = some ⟨oc25, od25, .func (PySem.W.fnOf "_law_draw" "_law_draw" (defArgs sDraw) (defBody sDraw) (defScope sDraw) .none kV25 dc25 pm25 an25 cd25 ct25), sl25⟩) (c25 : PySem.W.codeIn K cd25 "_law_draw" = true) (k25 : PySem.W.keepIn K (.ref f25) = true)
    (a26 : PySem.W.nsIn K mainGlobals "_law_box" = some (some (.ref f26))) (l26 : K.lookup f26 = some ⟨oc26, od26, .func (PySem.W.fnOf "_law_box" "_law_box" (defArgs s_law_box) (defBody s_law_box) (defScope s_law_box) .none kV26 dc26 pm26 an26 cd26 ct26), sl26⟩) (c26 : PySem.W.codeIn K cd26 "_law_box" = true) (k26 : PySem.W.keepIn K (.ref f26) = true)
    (a27 : PySem.W.nsIn K mainGlobals "_law_ids" = some (some (.ref f27))) (l27 : K.lookup f27 = some ⟨oc27, od27, .func (PySem.W.fnOf "_law_ids" "_law_ids" (defArgs s_law_ids) (defBody s_law_ids) (defScope s_law_ids) .none kV27 dc27 pm27 an27 cd27 ct27), sl27⟩) (c27 : PySem.W.codeIn K cd27 "_law_ids" = true) (k27 : PySem.W.keepIn K (.ref f27) = true)
    (a28 : PySem.W.nsIn K mainGlobals "_law_padded" = some (some (.ref f28))) (l28 : K.lookup f28 = some ⟨oc28, od28, .func (PySem.W.fnOf "_law_padded" "_law_padded" (defArgs s_law_padded) (defBody s_law_padded) (defScope s_law_padded) .none kV28 dc28 pm28 an28 cd28 ct28), sl28⟩) (c28 : PySem.W.codeIn K cd28 "_law_padded" = true) (k28 : PySem.W.keepIn K (.ref f28) = true)
    (a29 : PySem.W.nsIn K mainGlobals "_law_next" = some (some (.ref f29))) (l29 : K.lookup f29 = some ⟨oc29, od29, .func (PySem.W.fnOf "_law_next" "_law_next" (defArgs s_law_next) (defBody s_law_next) (defScope s_law_next) .none kV29 dc29 pm29 an29 cd29 ct29), sl29⟩) (c29 : PySem.W.codeIn K cd29 "_law_next" = true) (k29 : PySem.W.keepIn K (.ref f29) = true)
    (a30 : PySem.W.nsIn K mainGlobals "_law_joined" = some (some (.ref f30))) (l30 : K.lookup f30 = some ⟨oc30, od30, .func (PySem.W.fnOf "_law_joined" "_law_joined" (defArgs s_law_joined) (defBody s_law_joined) (defScope s_law_joined) .none kV30 dc30 pm30 an30 cd30 ct30), sl30⟩) (c30 : PySem.W.codeIn K cd30 "_law_joined" = true) (k30 : PySem.W.keepIn K (.ref f30) = true)
    (a31 : PySem.W.nsIn K mainGlobals "_law_fits" = some (some (.ref f31))) (l31 : K.lookup f31 = some ⟨oc31, od31, .func (PySem.W.fnOf "_law_fits" "_law_fits" (defArgs s_law_fits) (defBody s_law_fits) (defScope s_law_fits) .none kV31 dc31 pm31 an31 cd31 ct31), sl31⟩) (c31 : PySem.W.codeIn K cd31 "_law_fits" = true) (k31 : PySem.W.keepIn K (.ref f31) = true)
    (a32 : PySem.W.nsIn K mainGlobals "_law_grown" = some (some (.ref f32))) (l32 : K.lookup f32 = some ⟨oc32, od32, .func (PySem.W.fnOf "_law_grown" "_law_grown" (defArgs sGrown) (defBody sGrown) (defScope sGrown) .none kV32 dc32 pm32 an32 cd32 ct32), sl32⟩) (c32 : PySem.W.codeIn K cd32 "_law_grown" = true) (k32 : PySem.W.keepIn K (.ref f32) = true)
    (a33 : PySem.W.nsIn K mainGlobals "_law_prime" = some (some (.ref f33))) (l33 : K.lookup f33 = some ⟨oc33, od33, .func (PySem.W.fnOf "_law_prime" "_law_prime" (defArgs sPrime) (defBody sPrime) (defScope sPrime) .none kV33 dc33 pm33 an33 cd33 ct33), sl33⟩) (c33 : PySem.W.codeIn K cd33 "_law_prime" = true) (k33 : PySem.W.keepIn K (.ref f33) = true)
    (a34 : PySem.W.nsIn K mainGlobals "_law_delayed" = some (some (.ref f34))) (l34 : K.lookup f34 = some ⟨oc34, od34, .func (PySem.W.fnOf "_law_delayed" "_law_delayed" (defArgs s_law_delayed) (defBody s_law_delayed) (defScope s_law_delayed) .none kV34 dc34 pm34 an34 cd34 ct34), sl34⟩) (c34 : PySem.W.codeIn K cd34 "_law_delayed" = true) (k34 : PySem.W.keepIn K (.ref f34) = true)
    (a35 : PySem.W.nsIn K mainGlobals "_law_late" = some (some (.ref f35))) (l35 : K.lookup f35 = some ⟨oc35, od35, .func (PySem.W.fnOf "_law_late" "_law_late" (defArgs s_law_late) (defBody s_law_late) (defScope s_law_late) .none kV35 dc35 pm35 an35 cd35 ct35), sl35⟩) (c35 : PySem.W.codeIn K cd35 "_law_late" = true) (k35 : PySem.W.keepIn K (.ref f35) = true)
    (a36 : PySem.W.nsIn K mainGlobals "law" = some (some (.ref f36))) (l36 : K.lookup f36 = some ⟨oc36, od36, .func (PySem.W.fnOf "law" "law" (defArgs s_law) (defBody s_law) (defScope s_law) .none kV36 dc36 pm36 an36 cd36 ct36), sl36⟩) (c36 : PySem.W.codeIn K cd36 "law" = true) (k36 : PySem.W.keepIn K (.ref f36) = true)
    (z1 : PySem.W.nsIn K mainGlobals "range" = some none) (z2 : PySem.W.nsIn K mainGlobals "zip" = some none) (z3 : PySem.W.nsIn K mainGlobals "tuple" = some none) (z4 : PySem.W.nsIn K mainGlobals "list" = some none) (z5 : PySem.W.nsIn K mainGlobals "int" = some none) (z6 : PySem.W.nsIn K mainGlobals "bool" = some none) (z7 : PySem.W.nsIn K mainGlobals "isinstance" = some none) (z8 : PySem.W.nsIn K mainGlobals "len" = some none) (z9 : PySem.W.nsIn K mainGlobals "sum" = some none) (z10 : PySem.W.nsIn K mainGlobals "max" = some none) (z11 : PySem.W.nsIn K mainGlobals "min" = some none) (z12 : PySem.W.nsIn K mainGlobals "enumerate" = some none) (z13 : PySem.W.nsIn K mainGlobals "any" = some none) (z14 : PySem.W.nsIn K mainGlobals "all" = some none) (hs1 : (PySem.W.tabIn K "forms").isSome = true) (hx1 : tabs21 K = true) (hx2 : exc23 K = true) :
    ∃ fd : FuncData, (∀ (s : Shared) (v : Value), BindsTo s fd ⟨[v], []⟩ [("script", v)]) ∧ ∀ base : Heap, K.In base → base.Ns mainGlobals mg → BltAt mg base → (∀ q ∈ [tabOf K "forms"], PySem.W.CodeHd base q.1 q.2) → FnOk l.prog w K mg base CX0 11 fa fd ["script"] (spLaw23 K (tabOf K "forms").2) := by
  have e := hfa.symm.trans (PySem.W.mg_of X G a36)
  cases e
  have T : Txt mg := ⟨PySem.W.mg_none_of X G z1, PySem.W.mg_none_of X G z2, PySem.W.mg_none_of X G z3, PySem.W.mg_none_of X G z4, PySem.W.mg_none_of X G z5, PySem.W.mg_none_of X G z6, PySem.W.mg_none_of X G z7, PySem.W.mg_none_of X G z8, PySem.W.mg_none_of X G z9, PySem.W.mg_none_of X G z10, PySem.W.mg_none_of X G z11, PySem.W.mg_none_of X G z12, PySem.W.mg_none_of X G z13, PySem.W.mg_none_of X G z14⟩
  have F1 := fun_mk (st := sTurned) l1 c1 k1
  have F2 := fun_mk (st := sAdded) l2 c2 k2
  have F3 := fun_mk (st := sSummed) l3 c3 k3
  have F4 := fun_mk (st := sReduced) l4 c4 k4
  have F5 := fun_mk (st := sLed) l5 c5 k5
  have F6 := fun_mk (st := sCleared) l6 c6 k6
  have F7 := fun_mk (st := sBarred) l7 c7 k7
  have F8 := fun_mk (st := s_wires) l8 c8 k8
  have F9 := fun_mk (st := s_folded) l9 c9 k9
  have F10 := fun_mk (st := s_all_folded) l10 c10 k10
  have F11 := fun_mk (st := s_measured) l11 c11 k11
  have F12 := fun_mk (st := s_measure) l12 c12 k12
  have F13 := fun_mk (st := s_plain) l13 c13 k13
  have F14 := fun_mk (st := s_forms) l14 c14 k14
  have F15 := fun_mk (st := s_refuse_late) l15 c15 k15
  have F16 := fun_mk (st := s_form) l16 c16 k16
  have F17 := fun_mk (st := s_form_of_back) l17 c17 k17
  have F18 := fun_mk (st := s_form_of_beside) l18 c18 k18
  have F19 := fun_mk (st := s_form_of_then) l19 c19 k19
  have F20 := fun_mk (st := s_facing) l20 c20 k20
  have F21 := fun_mk (st := s_stands) l21 c21 k21
  have F22 := fun_mk (st := s_setting) l22 c22 k22
  have F23 := fun_mk (st := s_bar) l23 c23 k23
  have F24 := fun_mk (st := s_law_hand) l24 c24 k24
  have F25 := fun_mk (st := sDraw) l25 c25 k25
  have F26 := fun_mk (st := s_law_box) l26 c26 k26
  have F27 := fun_mk (st := s_law_ids) l27 c27 k27
  have F28 := fun_mk (st := s_law_padded) l28 c28 k28
  have F29 := fun_mk (st := s_law_next) l29 c29 k29
  have F30 := fun_mk (st := s_law_joined) l30 c30 k30
  have F31 := fun_mk (st := s_law_fits) l31 c31 k31
  have F32 := fun_mk (st := sGrown) l32 c32 k32
  have F33 := fun_mk (st := sPrime) l33 c33 k33
  have F34 := fun_mk (st := s_law_delayed) l34 c34 k34
  have F35 := fun_mk (st := s_law_late) l35 c35 k35
  have F36 := fun_mk (st := s_law) l36 c36 k36
  have b1 := F1.binds (ps := ["p", "number"]) fun _ _ _ _ _ _ us hl => us2 us hl fun _ _ => rfl
  have m1 := PySem.W.mg_of X G a1
  have b2 := F2.binds (ps := ["p", "row", "factor", "other"]) fun _ _ _ _ _ _ us hl => us4 us hl fun _ _ _ _ => rfl
  have m2 := PySem.W.mg_of X G a2
  have b3 := F3.binds (ps := ["p", "rows", "factors", "length"]) fun _ _ _ _ _ _ us hl => us4 us hl fun _ _ _ _ => rfl
  have m3 := PySem.W.mg_of X G a3
  have b4 := F4.binds (ps := ["p", "rows"]) fun _ _ _ _ _ _ us hl => us2 us hl fun _ _ => rfl
  have m4 := PySem.W.mg_of X G a4
  have b5 := F5.binds (ps := ["p", "row", "place"]) fun _ _ _ _ _ _ us hl => us3 us hl fun _ _ _ => rfl
  have m5 := PySem.W.mg_of X G a5
  have b6 := F6.binds (ps := ["p", "row", "lead", "place"]) fun _ _ _ _ _ _ us hl => us4 us hl fun _ _ _ _ => rfl
  have m6 := PySem.W.mg_of X G a6
  have b7 := F7.binds (ps := ["p", "rows", "length"]) fun _ _ _ _ _ _ us hl => us3 us hl fun _ _ _ => rfl
  have m7 := PySem.W.mg_of X G a7
  have b8 := F8.binds (ps := ["words"]) fun _ _ _ _ _ _ us hl => us1 us hl fun _ => rfl
  have m8 := PySem.W.mg_of X G a8
  have b9 := F9.binds (ps := ["words", "made"]) fun _ _ _ _ _ _ us hl => us2 us hl fun _ _ => rfl
  have m9 := PySem.W.mg_of X G a9
  have b10 := F10.binds (ps := ["words", "made"]) fun _ _ _ _ _ _ us hl => us2 us hl fun _ _ => rfl
  have m10 := PySem.W.mg_of X G a10
  have b11 := F11.binds (ps := ["words"]) fun _ _ _ _ _ _ us hl => us1 us hl fun _ => rfl
  have m11 := PySem.W.mg_of X G a11
  have b12 := F12.binds (ps := ["place", "word", "parts"]) fun _ _ _ _ _ _ us hl => us3 us hl fun _ _ _ => rfl
  have m12 := PySem.W.mg_of X G a12
  have b13 := F13.binds (ps := ["p", "words"]) fun _ _ _ _ _ _ us hl => us2 us hl fun _ _ => rfl
  have m13 := PySem.W.mg_of X G a13
  have b14 := F14.binds (ps := ["p", "words"]) fun _ _ _ _ _ _ us hl => us2 us hl fun _ _ => rfl
  have m14 := PySem.W.mg_of X G a14
  have b15 := F15.binds (ps := ["words"]) fun _ _ _ _ _ _ us hl => us1 us hl fun _ => rfl
  have m15 := PySem.W.mg_of X G a15
  have b16 := F16.binds (ps := ["p", "word", "parts"]) fun _ _ _ _ _ _ us hl => us3 us hl fun _ _ _ => rfl
  have m16 := PySem.W.mg_of X G a16
  have b17 := F17.binds (ps := ["p", "one"]) fun _ _ _ _ _ _ us hl => us2 us hl fun _ _ => rfl
  have m17 := PySem.W.mg_of X G a17
  have b18 := F18.binds (ps := ["p", "one", "other"]) fun _ _ _ _ _ _ us hl => us3 us hl fun _ _ _ => rfl
  have m18 := PySem.W.mg_of X G a18
  have b19 := F19.binds (ps := ["p", "one", "other"]) fun _ _ _ _ _ _ us hl => us3 us hl fun _ _ _ => rfl
  have m19 := PySem.W.mg_of X G a19
  have b20 := F20.binds (ps := ["p", "one", "other"]) fun _ _ _ _ _ _ us hl => us3 us hl fun _ _ _ => rfl
  have m20 := PySem.W.mg_of X G a20
  have b21 := F21.binds (ps := ["p", "words", "row", "setting"]) fun _ _ _ _ _ _ us hl => us4 us hl fun _ _ _ _ => rfl
  have m21 := PySem.W.mg_of X G a21
  have b22 := F22.binds (ps := ["p", "words", "row"]) fun _ _ _ _ _ _ us hl => us3 us hl fun _ _ _ => rfl
  have m22 := PySem.W.mg_of X G a22
  have b23 := F23.binds (ps := ["p", "words", "row"]) fun _ _ _ _ _ _ us hl => us3 us hl fun _ _ _ => rfl
  have m23 := PySem.W.mg_of X G a23
  have b24 := F24.binds (ps := ["cell", "k"]) fun _ _ _ _ _ _ us hl => us2 us hl fun _ _ => rfl
  have m24 := PySem.W.mg_of X G a24
  have b25 := F25.binds (ps := ["hand", "limit"]) fun _ _ _ _ _ _ us hl => us2 us hl fun _ _ => rfl
  have m25 := PySem.W.mg_of X G a25
  have b26 := F26.binds (ps := ["hand", "p"]) fun _ _ _ _ _ _ us hl => us2 us hl fun _ _ => rfl
  have m26 := PySem.W.mg_of X G a26
  have b27 := F27.binds (ps := ["many"]) fun _ _ _ _ _ _ us hl => us1 us hl fun _ => rfl
  have m27 := PySem.W.mg_of X G a27
  have b28 := F28.binds (ps := ["hand", "box", "many"]) fun _ _ _ _ _ _ us hl => us3 us hl fun _ _ _ => rfl
  have m28 := PySem.W.mg_of X G a28
  have b29 := F29.binds (ps := ["hand", "p", "here"]) fun _ _ _ _ _ _ us hl => us3 us hl fun _ _ _ => rfl
  have m29 := PySem.W.mg_of X G a29
  have b30 := F30.binds (ps := ["hand", "one", "other"]) fun _ _ _ _ _ _ us hl => us3 us hl fun _ _ _ => rfl
  have m30 := PySem.W.mg_of X G a30
  have b31 := F31.binds (ps := ["drawing", "most", "side"]) fun _ _ _ _ _ _ us hl => us3 us hl fun _ _ _ => rfl
  have m31 := PySem.W.mg_of X G a31
  have b32 := F32.binds (ps := ["script", "p", "most", "side"]) fun _ _ _ _ _ _ us hl => us4 us hl fun _ _ _ _ => rfl
  have m32 := PySem.W.mg_of X G a32
  have b33 := F33.binds (ps := ["hand"]) fun _ _ _ _ _ _ us hl => us1 us hl fun _ => rfl
  have m33 := PySem.W.mg_of X G a33
  have b34 := F34.binds (ps := ["hand", "drawing"]) fun _ _ _ _ _ _ us hl => us2 us hl fun _ _ => rfl
  have m34 := PySem.W.mg_of X G a34
  have b35 := F35.binds (ps := ["way", "p", "words", "row"]) fun _ _ _ _ _ _ us hl => us4 us hl fun _ _ _ _ => rfl
  have m35 := PySem.W.mg_of X G a35
  exact ⟨PySem.W.fnOf "law" "law" (defArgs s_law) (defBody s_law) (defScope s_law) .none kV36 dc36 pm36 an36 cd36 ct36, fun s v => .of_eq rfl, fun base _ _ bb cc => ok_law23 F36 T (ok_hand F24) k24 b24 m24 (ok_drw F25) k25 b25 m25 (ok_prm F33 (ok_drw F25) k25 b25 m25) k33 b33 m33 (ok_grown F32 T (ok_hand F24) k24 b24 m24 (ok_drw F25) k25 b25 m25 (ok_box F26 T (ok_drw F25) k25 b25 m25) k26 b26 m26 (ok_join F30 (ok_drw F25) k25 b25 m25) k30 b30 m30 (ok_fits F31 T) k31 b31 m31 (ok_next F29 (ok_drw F25) k25 b25 m25 (ok_box F26 T (ok_drw F25) k25 b25 m25) k26 b26 m26 (ok_pad F28 (ok_drw F25) k25 b25 m25 (ok_ids F27) k27 b27 m27) k28 b28 m28) k29 b29 m29) k32 b32 m32 (ok_del F34 T (ok_drw F25) k25 b25 m25) k34 b34 m34 (ok_LL F35 T (exc23_of X G hx2) (ok_plainX F13 (ok_formsX F14 (ok_lateX F15 (exc23_of X G hx2)) k15 b15 m15) k14 b14 m14) k13 b13 m13 (ok_setX F22 (ok_formsX F14 (ok_lateX F15 (exc23_of X G hx2)) k15 b15 m15) k14 b14 m14) k22 b22 m22 (ok_barX F23 T (ok_plainX F13 (ok_formsX F14 (ok_lateX F15 (exc23_of X G hx2)) k15 b15 m15) k14 b14 m14) k13 b13 m13 k7 b7 m7) k23 b23 m23 (ok_stX F21 (ok_lateX F15 (exc23_of X G hx2)) k15 b15 m15) k21 b21 m21) k35 b35 m35 (ok_plain2 F13 (ok_forms2 F14 (tab_code a14 l14 (tabOf_is hs1)) (cc _ List.mem_cons_self) bb (ok_late F15) k15 b15 m15 (ok_fold F10 T (parts21 X G hx1)) k10 b10 m10 (ok_form2 F16 (boxes21 X G hx1) (ok_back F17 (ok_reduced F4 T F2 b2 m2 F1 b1 m1 F3 b3 m3 F6 b6 m6 F5 b5 m5) k4 b4 m4) k17 b17 m17 (ok_bes F18 (ok_reduced F4 T F2 b2 m2 F1 b1 m1 F3 b3 m3 F6 b6 m6 F5 b5 m5) k4 b4 m4) k18 b18 m18 (ok_then F19 T (ok_reduced F4 T F2 b2 m2 F1 b1 m1 F3 b3 m3 F6 b6 m6 F5 b5 m5) k4 b4 m4 (ok_face F20 T) k20 b20 m20) k19 b19 m19 (ok_wires F8 (ok_measd F11 (ok_folded F9 (ok_fold F10 T (parts21 X G hx1)) k10 b10 m10) k9 b9 m9 (ok_meas F12 (boxes21 X G hx1)) F12 b12 m12) k11 b11 m11) k8 b8 m8) k16 b16 m16) k14 b14 m14) k13 b13 m13⟩
theorem walk {l : PySem.W.OpenLaw} {q : Program} {loose : List Str} {XP : (Str → Option Value) → Heap → Prop} {YP : World → Heap → Prop} {d : DefRec} {K : Params → PySem.W.Frag} (hn : l.most = some 63) (hdf : d.params.defaults = [])
    (hY : ∀ (w : World) (h : Heap), YP w h → (K w.params).In h) (noT : ∀ w : World, PySem.W.noTabs (K w.params) = true)
    (hT : ∀ (w : World) {mean : ExcName → Option Value} {lo : List Str} {mg mb : Str → Option Value} {h : Heap}, PyProof.Rows.Top q lo mean mg mb h → (K w.params).In h → PySem.W.TabsAt [tabOf (K w.params) "forms"] h)
    (F : ∀ (w : World) (mg : Str → Option Value) (fa : Addr) (h : Heap), (K w.params).In h → h.Ns mainGlobals mg → mg d.name = some (.ref fa) →
      ∃ fd : FuncData, (∀ (s : Shared) (u : Value), BindsTo s fd ⟨[u], []⟩ [("script", u)]) ∧ ∀ base : Heap, (K w.params).In base → base.Ns mainGlobals mg → BltAt mg base → (∀ q ∈ [tabOf (K w.params) "forms"], PySem.W.CodeHd base q.1 q.2) → FnOk l.prog w (K w.params) mg base CX0 11 fa fd ["script"] (spLaw23 (K w.params) (tabOf (K w.params) "forms").2)) :
    PySem.W.WalkO q loose XP YP l.row.toRowW d [] (fun f vs => PySem.call f vs) :=
  L2.walk_ofT (n := 63) (k := 11) (x := "script") (tabs := fun w => [tabOf (K w.params) "forms"]) (sp := fun w => spLaw23 (K w.params) (tabOf (K w.params) "forms").2) hn (by decide) hdf ⟨rfl, by decide, by decide⟩ hY noT hT F fun _ _ a ns hl hS hTH => ⟨a, ns, rfl, hS, hl, .inl (hTH _ List.mem_cons_self), fun _ => rfl⟩
end S21
def PySem.W.Fast.tw6602166475355350675 : Unit := ()
def PySem.W.Fast.tw10818747089933344447 : Unit := ()
def PySem.W.Fast.tw3927397261756423874 : Unit := ()
def PySem.W.Fast.tw5589381199129154778 : Unit := ()
def PySem.W.Fast.tw5102311005088473114 : Unit := ()
def PySem.W.Fast.tw14438038599051369976 : Unit := ()
def PySem.W.Fast.tw2508196363308917887 : Unit := ()
def PySem.W.Fast.tw9965156492828122615 : Unit := ()
def PySem.W.Fast.tw18120808998849470246 : Unit := ()
def PySem.W.Fast.tw11397131295703254714 : Unit := ()
def PySem.W.Fast.tw1244653524450303452 : Unit := ()
def PySem.W.Fast.tw9160167991239412700 : Unit := ()
def PySem.W.Fast.tw4641023065883788943 : Unit := ()
def PySem.W.Fast.tw2135752357122381101 : Unit := ()
def PySem.W.Fast.tw14443962005486111843 : Unit := ()
def PySem.W.Fast.tw11192085884641273478 : Unit := ()
open PySem PySem.W PyProof.Rows
set_option maxRecDepth 100000 in
set_option maxHeartbeats 0 in
theorem PySem.Challenge.cw_bentwires_k23_late_holds : PySem.Challenge.rw_bentwires_k23_late.Holds := by
  w_on; o_law; k_head; (case hw => w_witness2)
  k_fill
  refine S21.walk (l := PySem.Challenge.rw_bentwires_k23_late) rfl rfl (fun w h Y => PySem.W.km_in_of Y) ?noT ?hT ?F
  (case noT => exact fun w => by kernel_rfl)
  (case hT => exact fun w {_ _ _ _ _} T X => L2.tabs_cons T X rfl (by kernel_rfl) (L2.tabs_nil))
  case F =>
    intro w mg fa h KX G hmg
    refine' S21.all_mk KX G hmg ?a1 ?l1 ?c1 ?k1 ?a2 ?l2 ?c2 ?k2 ?a3 ?l3 ?c3 ?k3 ?a4 ?l4 ?c4 ?k4 ?a5 ?l5 ?c5 ?k5 ?a6 ?l6 ?c6 ?k6 ?a7 ?l7 ?c7 ?k7 ?a8 ?l8 ?c8 ?k8 ?a9 ?l9 ?c9 ?k9 ?a10 ?l10 ?c10 ?k10 ?a11 ?l11 ?c11 ?k11 ?a12 ?l12 ?c12 ?k12 ?a13 ?l13 ?c13 ?k13 ?a14 ?l14 ?c14 ?k14 ?a15 ?l15 ?c15 ?k15 ?a16 ?l16 ?c16 ?k16 ?a17 ?l17 ?c17 ?k17 ?a18 ?l18 ?c18 ?k18 ?a19 ?l19 ?c19 ?k19 ?a20 ?l20 ?c20 ?k20 ?a21 ?l21 ?c21 ?k21 ?a22 ?l22 ?c22 ?k22 ?a23 ?l23 ?c23 ?k23 ?a24 ?l24 ?c24 ?k24 ?a25 ?l25 ?c25 ?k25 ?a26 ?l26 ?c26 ?k26 ?a27 ?l27 ?c27 ?k27 ?a28 ?l28 ?c28 ?k28 ?a29 ?l29 ?c29 ?k29 ?a30 ?l30 ?c30 ?k30 ?a31 ?l31 ?c31 ?k31 ?a32 ?l32 ?c32 ?k32 ?a33 ?l33 ?c33 ?k33 ?a34 ?l34 ?c34 ?k34 ?a35 ?l35 ?c35 ?k35 ?a36 ?l36 ?c36 ?k36 ?z1 ?z2 ?z3 ?z4 ?z5 ?z6 ?z7 ?z8 ?z9 ?z10 ?z11 ?z12 ?z13 ?z14 ?hs1 ?hx1 ?hx2
    (case a1 => k_is)
    (case l1 => k_is)
    (case c1 => k_is)
    (case k1 => k_is)
    (case a2 => k_is)
    (case l2 => k_is)
    (case c2 => k_is)
    (case k2 => k_is)
    (case a3 => k_is)
    (case l3 => k_is)
    (case c3 => k_is)
    (case k3 => k_is)
    (case a4 => k_is)
    (case l4 => k_is)
    (case c4 => k_is)
    (case k4 => k_is)
    (case a5 => k_is)
    (case l5 => k_is)
    (case c5 => k_is)
    (case k5 => k_is)
    (case a6 => k_is)
    (case l6 => k_is)
    (case c6 => k_is)
    (case k6 => k_is)
    (case a7 => k_is)
    (case l7 => k_is)
    (case c7 => k_is)
    (case k7 => k_is)
    (case a8 => k_is)
    (case l8 => k_is)
    (case c8 => k_is)
    (case k8 => k_is)
    (case a9 => k_is)
    (case l9 => k_is)
    (case c9 => k_is)
    (case k9 => k_is)
    (case a10 => k_is)
    (case l10 => k_is)
    (case c10 => k_is)
    (case k10 => k_is)
    (case a11 => k_is)
    (case l11 => k_is)
    (case c11 => k_is)
    (case k11 => k_is)
    (case a12 => k_is)
    (case l12 => k_is)
    (case c12 => k_is)
    (case k12 => k_is)
    (case a13 => k_is)
    (case l13 => k_is)
    (case c13 => k_is)
    (case k13 => k_is)
    (case a14 => k_is)
    (case l14 => k_is)
    (case c14 => k_is)
    (case k14 => k_is)
    (case a15 => k_is)
    (case l15 => k_is)
    (case c15 => k_is)
    (case k15 => k_is)
    (case a16 => k_is)
    (case l16 => k_is)
    (case c16 => k_is)
    (case k16 => k_is)
    (case a17 => k_is)
    (case l17 => k_is)
    (case c17 => k_is)
    (case k17 => k_is)
    (case a18 => k_is)
    (case l18 => k_is)
    (case c18 => k_is)
    (case k18 => k_is)
    (case a19 => k_is)
    (case l19 => k_is)
    (case c19 => k_is)
    (case k19 => k_is)
    (case a20 => k_is)
    (case l20 => k_is)
    (case c20 => k_is)
    (case k20 => k_is)
    (case a21 => k_is)
    (case l21 => k_is)
    (case c21 => k_is)
    (case k21 => k_is)
    (case a22 => k_is)
    (case l22 => k_is)
    (case c22 => k_is)
    (case k22 => k_is)
    (case a23 => k_is)
    (case l23 => k_is)
    (case c23 => k_is)
    (case k23 => k_is)
    (case a24 => k_is)
    (case l24 => k_is)
    (case c24 => k_is)
    (case k24 => k_is)
    (case a25 => k_is)
    (case l25 => k_is)
    (case c25 => k_is)
    (case k25 => k_is)
    (case a26 => k_is)
    (case l26 => k_is)
    (case c26 => k_is)
    (case k26 => k_is)
    (case a27 => k_is)
    (case l27 => k_is)
    (case c27 => k_is)
    (case k27 => k_is)
    (case a28 => k_is)
    (case l28 => k_is)
    (case c28 => k_is)
    (case k28 => k_is)
    (case a29 => k_is)
    (case l29 => k_is)
    (case c29 => k_is)
    (case k29 => k_is)
    (case a30 => k_is)
    (case l30 => k_is)
    (case c30 => k_is)
    (case k30 => k_is)
    (case a31 => k_is)
    (case l31 => k_is)
    (case c31 => k_is)
    (case k31 => k_is)
    (case a32 => k_is)
    (case l32 => k_is)
    (case c32 => k_is)
    (case k32 => k_is)
    (case a33 => k_is)
    (case l33 => k_is)
    (case c33 => k_is)
    (case k33 => k_is)
    (case a34 => k_is)
    (case l34 => k_is)
    (case c34 => k_is)
    (case k34 => k_is)
    (case a35 => k_is)
    (case l35 => k_is)
    (case c35 => k_is)
    (case k35 => k_is)
    (case a36 => k_is)
    (case l36 => k_is)
    (case c36 => k_is)
    (case k36 => k_is)
    (case z1 => k_is)
    (case z2 => k_is)
    (case z3 => k_is)
    (case z4 => k_is)
    (case z5 => k_is)
    (case z6 => k_is)
    (case z7 => k_is)
    (case z8 => k_is)
    (case z9 => k_is)
    (case z10 => k_is)
    (case z11 => k_is)
    (case z12 => k_is)
    (case z13 => k_is)
    (case z14 => k_is)
    (case hs1 => kernel_rfl)
    (case hx1 => kernel_rfl)
    (case hx2 => kernel_rfl)
#print axioms PySem.Challenge.cw_bentwires_k23_late_holds
