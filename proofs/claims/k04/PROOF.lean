import PyProof.Rows.All
import Wide.All
import OpenK.AllK
import Wide.FinOn
import Lean
import PyProof.EqAt
import PyProof.EqKinds
import PyProof.TupleCall
import PySem.Challenge.RW_bentwires_k04_barred
set_option Elab.async false
-- CHANGE: your row's module here, as the last of these rows
set_option Elab.async false
set_option linter.all false
set_option maxRecDepth 100000
/-! THE HAND LAYER, for ints, bools, texts, own classes, LISTS and tuples (index, slices, in, append, pop ..), calls, loops. Paste it whole ahead of your own text; what your proof does not reach may be deleted. -/
namespace L2
open PySem PySem.Spec PyProof.Rows

/-- a key: an int or a str -/
abbrev Key := Sum Int Str
def keyIs : Key → Value → Bool
  | .inl k, v => Value.isInt k v
  | .inr x, v => Value.isStrOf x v
def keyH (w : World) : Key → Int
  | .inl k => hashInt k
  | .inr x => hashStr w x
theorem keyIs_shape : ∀ {k : Key} {v : Value}, keyIs k v = true → (∃ i t, k = Sum.inl i ∧ v = Value.int i t) ∨ (∃ x t, k = Sum.inr x ∧ v = Value.str x t)
  | .inl i, v, h => by
    obtain ⟨t, e⟩ := Value.isInt_shape (k := i) (v := v) h
    exact .inl ⟨i, t, rfl, e⟩
  | .inr x, v, h => by
    obtain ⟨t, e⟩ := Value.isStrOf_shape (x := x) (v := v) h
    exact .inr ⟨x, t, rfl, e⟩
theorem keyIs_int (i : Int) (t : Tok) : keyIs (.inl i) (.int i t) = true := by simp [keyIs, Value.isInt]
theorem keyIs_str (x : Str) (t : Tok) : keyIs (.inr x) (.str x t) = true := by simp [keyIs, Value.isStrOf]
theorem key_ll (a b : Int) : decide ((Sum.inl a : Key) = Sum.inl b) = (a == b) := by
  by_cases e : a = b
  · subst e; simp
  · have h : ¬ (Sum.inl a : Key) = Sum.inl b := fun q => e (Sum.inl.inj q)
    rw [decide_eq_false h]
    exact (beq_eq_false_iff_ne.mpr e).symm
theorem key_rr (a b : Str) : decide ((Sum.inr a : Key) = Sum.inr b) = decide (a = b) := by
  by_cases e : a = b
  · subst e; simp
  · have h : ¬ (Sum.inr a : Key) = Sum.inr b := fun q => e (Sum.inr.inj q)
    rw [decide_eq_false h, decide_eq_false e]
theorem key_lr (a : Int) (b : Str) : decide ((Sum.inl a : Key) = Sum.inr b) = false := decide_eq_false (fun q => nomatch q)
theorem key_rl (a : Str) (b : Int) : decide ((Sum.inr a : Key) = Sum.inl b) = false := decide_eq_false (fun q => nomatch q)

def mixKind (prog : Program) (w : World) : PySem.KeyKind prog w Key where
  is := keyIs
  hash := keyH w
  inj := fun v a b ha hb => by
    rcases keyIs_shape ha with ⟨i, t, rfl, rfl⟩ | ⟨x, t, rfl, rfl⟩
    · rcases keyIs_shape hb with ⟨j, u, rfl, e⟩ | ⟨y, u, rfl, e⟩
      · injection e with e1 _; rw [e1]
      · exact nomatch e
    · rcases keyIs_shape hb with ⟨j, u, rfl, e⟩ | ⟨y, u, rfl, e⟩
      · exact nomatch e
      · injection e with e1 _; rw [e1]
  byValue := fun k v h => by
    rcases keyIs_shape h with ⟨i, t, rfl, rfl⟩ | ⟨x, t, rfl, rfl⟩ <;> rfl
  pyHash := fun hv h => by
    rcases keyIs_shape hv with ⟨i, t, rfl, rfl⟩ | ⟨x, t, rfl, rfl⟩
    · exact wpAny_pyHash_int h
    · exact wpAny_pyHash_str h
  eqBool := fun hu hv h => by
    rcases keyIs_shape hu with ⟨i, t, rfl, rfl⟩ | ⟨x, t, rfl, rfl⟩
    · rcases keyIs_shape hv with ⟨j, u, rfl, rfl⟩ | ⟨y, u, rfl, rfl⟩
      · rw [key_ll] at h; exact wpAny_eqBool_int h
      · rw [key_lr] at h; exact SeqAt.EqAt.int_str i t y u _ _ _ _ h
    · rcases keyIs_shape hv with ⟨j, u, rfl, rfl⟩ | ⟨y, u, rfl, rfl⟩
      · rw [key_rl] at h; exact SeqAt.EqAt.str_int x t j u _ _ _ _ h
      · rw [key_rr] at h; exact wpAny_eqBool_str h
  «strs» := fun k x t v h => by
    rcases keyIs_shape h with ⟨i, u, rfl, e⟩ | ⟨y, u, rfl, e⟩
    · exact nomatch e
    · injection e with e1 _
      subst e1
      cases v <;> rfl

theorem mixKind_is (prog : Program) (w : World) (k : Key) (v : Value) : (mixKind prog w).is k v = keyIs k v := rfl
theorem mixKind_int (prog : Program) (w : World) (i : Int) (t : Tok) : (mixKind prog w).is (.inl i) (.int i t) = true := keyIs_int i t
theorem mixKind_str (prog : Program) (w : World) (x : Str) (t : Tok) : (mixKind prog w).is (.inr x) (.str x t) = true := keyIs_str x t
end L2

namespace L2
open PySem PySem.Spec PyProof.Rows

/-- a value, without the heap -/
inductive V where
  | non | bl (b : Bool) | int (i : Int) | str (x : Str) | byt (b : Array UInt8) | flt (b : UInt64) | ref (a : Addr) | ty (n : String)
  deriving DecidableEq

def RelV : V → Value → Prop
  | .non, u => u = Value.none
  | .bl b, u => u = Value.bool b
  | .int i, u => ∃ t, u = Value.int i t
  | .str x, u => ∃ t, u = Value.str x t
  | .byt b, u => ∃ t, u = Value.bytes b t
  | .flt b, u => ∃ t, u = Value.float b t
  | .ref a, u => u = Value.ref a
  | .ty n, u => u = Value.type n

abbrev Vals : List V → List Value → Prop := Paired RelV
theorem Vals.length {xs : List V} {us : List Value} (r : Vals xs us) : xs.length = us.length := Paired.length r
theorem Vals.get : ∀ {xs : List V} {us : List Value} {i : Nat} {x : V}, Vals xs us → xs[i]? = some x → ∃ u, us[i]? = some u ∧ RelV x u
  | _, _, _, _, .nil, e => by simp at e
  | _, _, 0, _, .cons r _, e => by simp at e; subst e; exact ⟨_, rfl, r⟩
  | _, _, i + 1, x, .cons _ t, e => by
    obtain ⟨u, h1, h2⟩ := Vals.get (i := i) (x := x) t (by simpa using e)
    exact ⟨u, by simpa using h1, h2⟩
theorem Vals.set {x : V} {u : Value} (r : RelV x u) : ∀ {xs : List V} {us : List Value} (i : Nat), Vals xs us → Vals (xs.set i x) (us.set i u)
  | _, _, _, .nil => .nil
  | _, _, 0, .cons _ t => .cons r t
  | _, _, i + 1, .cons q t => .cons q (Vals.set r i t)
theorem Vals.append : ∀ {xs ys : List V} {us ws : List Value}, Vals xs us → Vals ys ws → Vals (xs ++ ys) (us ++ ws)
  | _, _, _, _, .nil, s => s
  | _, _, _, _, .cons r t, s => .cons r (Vals.append t s)
theorem Vals.take : ∀ {xs : List V} {us : List Value} (n : Nat), Vals xs us → Vals (xs.take n) (us.take n)
  | _, _, 0, _ => .nil
  | _, _, _ + 1, .nil => .nil
  | _, _, n + 1, .cons r t => .cons r (Vals.take n t)
theorem Vals.drop : ∀ {xs : List V} {us : List Value} (n : Nat), Vals xs us → Vals (xs.drop n) (us.drop n)
  | _, _, 0, r => r
  | _, _, _ + 1, .nil => .nil
  | _, _, n + 1, .cons _ t => Vals.drop n t
theorem Vals.none_of : ∀ {xs : List V} {us : List Value} {i : Nat}, Vals xs us → xs[i]? = none → us[i]? = none := fun {xs us i} r e => by
  have h1 := r.length
  have h2 : xs.length ≤ i := List.getElem?_eq_none_iff.mp e
  exact List.getElem?_eq_none_iff.mpr (by omega)

def RelO : Option V → Option Value → Prop
  | some v, some u => RelV v u
  | none, none => True
  | _, _ => False
def KV {κ : Type} : List (κ × V) → List (κ × Value) → Prop := Paired fun (p : κ × V) (q : κ × Value) => p.1 = q.1 ∧ RelV p.2 q.2

/-- a key of a dict (00_mix): an int or a text -/
def kV : Key → V
  | .inl i => .int i
  | .inr x => .str x

/-- what stands at a tracked address -/
inductive HO where
  /-- a list -/
  | lst (xs : List V)
  /-- a tuple (never changes) -/
  | tup (xs : List V)
  /-- a dict whose keys are ints and texts; one whose keys are tuples of ints and texts (the empty one is both) -/
  | dK (kvs : List (Key × V)) | dT (kvs : List (List Key × V))
  /-- a set of ints: its members, its size -/
  | set (S : Int → Bool) (n : Nat)
  /-- an instance of the class at C, its dict at dx, its attributes -/
  | ins (C dx : Addr) (fs : List (Str × V))
  /-- the dict of the instance at x -/
  | own (x : Addr)
  /-- the dict of an exception -/
  | xd (fs : List (Str × V))
  /-- a bound method, f of x -/
  | met (f x : Addr)
  /-- a range object lo, lo + 1, .. below hi -/
  | rng (lo hi : Int)
  /-- a thing that is known to the object (the script; a dict while a loop walks it): read, never written while it is so -/
  | frz (o : Obj) (u : HO)
  /-- a code object's table -/
  | tbl (ps : Array Value)
  /-- any other thing, by what is true of its one object (a def of one's own: SetO a S n := HO.ext fun h => ..) -/
  | ext (φ : Heap → Prop)

abbrev Hp := Addr → Option HO
def upd (H : Hp) (a : Addr) (o : HO) : Hp := fun b => if b = a then some o else H b
theorem upd_same {H : Hp} {a : Addr} {o : HO} : upd H a o a = some o := by unfold upd; rw [if_pos rfl]
theorem upd_ne {H : Hp} {a b : Addr} {o : HO} (h : b ≠ a) : upd H a o b = H b := by unfold upd; rw [if_neg h]
theorem upd_upd {H : Hp} {a : Addr} {o u : HO} : upd (upd H a o) a u = upd H a u := by
  funext b; unfold upd; split <;> rfl
/-- two objects of different content stand apart -/
theorem ne_of {H : Hp} {a b : Addr} {o u : HO} (h : H a = some o) (h' : H b = some u) (d : o ≠ u) : a ≠ b := by
  intro e; subst e; rw [h] at h'; exact d (Option.some.inj h')
theorem ne_of_none {H : Hp} {a b : Addr} {o : HO} (h : H a = some o) (h' : H b = none) : a ≠ b := by
  intro e; subst e; rw [h] at h'; cases h'

section
variable (P : Program) (w : World)
def ObjOk (H : Hp) (h : Heap) (a : Addr) : HO → Prop
  | .lst xs => xs.length ≤ sizeLine ∧ ∃ (its : List Value) (n : Nat), Vals xs its ∧ h.get? a = some { cls := .type "list", data := .seq its.toArray n }
  | .tup xs => xs.length ≤ sizeLine ∧ ∃ its : List Value, Vals xs its ∧ IsTup h a its.toArray
  | .dK kvs => kvs.length ≤ sizeLine ∧ (a == sysModules) = false ∧ ∃ vs, KV kvs vs ∧ h.DictOf (mixKind P w) a vs
  | .dT kvs => kvs.length ≤ sizeLine ∧ (a == sysModules) = false ∧ ∃ xs : List (List Key × Addr × Value),
      Paired (fun (p : List Key × V) (q : List Key × Addr × Value) => p.1 = q.1 ∧ H q.2.1 = some (.tup (p.1.map kV)) ∧ RelV p.2 q.2.2) kvs xs ∧
      ∃ o es ep, h.get? a = some o ∧ o.ExactDict ∧ o.data = .dict es ep ∧ es.toList = xs.map (entryOfKey (tupleKind (mixKind P w))) ∧ (xs.map (·.1)).Nodup
  | .set S n => h.SetOf (intKind P w) a S n
  | .ins C dx fs => H dx = some (.own a) ∧ fs.length ≤ 1000 ∧ dx ≠ a ∧ h.get? a = some (PySem.W.instObj C dx) ∧
      ∃ mA, h.Ns1 dx mA ∧ (∀ f, RelO (fs.lookup f) (mA f)) ∧ PySem.Within mA (fs.map (·.1))
  | .own _ => ∃ o, h.get? a = some o
  | .xd fs => ∃ mA, h.Ns1 a mA ∧ ∀ f, RelO (fs.lookup f) (mA f)
  | .rng lo hi => ∃ t u v, h.get? a = some { cls := .type "range", data := .fields #[.int lo t, .int hi u, .int 1 v] }
  | .frz o u => h.get? a = some o ∧ ObjOk H h a u
  | .tbl ps => h.get? a = some { cls := .none, data := .fields ps }
  | .met f x => h.get? a = some (PySem.W.methodObj (.ref f) (.ref x))
  | .ext φ => φ h ∧ (∃ o, h.get? a = some o) ∧ ∀ h1 h2 : Heap, φ h1 → (∀ o, h1.get? a = some o → h2.get? a = some o) → φ h2
/-- the abstract heap is held -/
def HOk (H : Hp) (h : Heap) : Prop := ∀ a o, H a = some o → ObjOk P w H h a o
end

section
variable {P : Program} {w : World} {H H' : Hp} {h h' : Heap} {a : Addr} {o : HO}
theorem ObjOk.lt (x : ObjOk P w H h a o) : a < h.objs.size := by
  cases o with
  | lst xs => obtain ⟨_, _, _, _, e⟩ := x; exact Heap.lt_size e
  | tup xs => obtain ⟨_, _, _, p⟩ := x; exact p.lt
  | dK kvs => obtain ⟨_, _, _, _, o, _, _, e, _⟩ := x; exact Heap.lt_size e
  | dT kvs => obtain ⟨_, _, _, _, o, _, _, e, _⟩ := x; exact Heap.lt_size e
  | set S n => obtain ⟨o, _, _, _, e, _⟩ := x; exact Heap.lt_size e
  | ins C dx fs => obtain ⟨_, _, _, e, _⟩ := x; exact Heap.lt_size e
  | own y => obtain ⟨_, e⟩ := x; exact Heap.lt_size e
  | xd fs => obtain ⟨_, ⟨_, _, _, e, _⟩, _⟩ := x; exact Heap.lt_size e
  | rng lo hi => obtain ⟨_, _, _, e⟩ := x; exact Heap.lt_size e
  | frz ob u => obtain ⟨e, _⟩ := x; exact Heap.lt_size e
  | tbl ps => exact Heap.lt_size (show h.get? a = some _ from x)
  | met f y => exact Heap.lt_size (show h.get? a = some _ from x)
  | ext φ => obtain ⟨_, ⟨_, e⟩, _⟩ := x; exact Heap.lt_size e
theorem Paired.mapP {α β : Type} {F G : α → β → Prop} : ∀ {l₁ : List α} {l₂ : List β}, Paired F l₁ l₂ → (∀ a b, F a b → G a b) → Paired G l₁ l₂
  | _, _, .nil, _ => .nil
  | _, _, .cons r t, f => .cons (f _ _ r) (Paired.mapP t f)
theorem Paired.imp' {α β : Type} {F G : α → β → Prop} (f : ∀ a b, F a b → G a b) {l₁ : List α} {l₂ : List β} (r : Paired F l₁ l₂) : Paired G l₁ l₂ := Paired.mapP r f
/-- what an object's description leans on: its own object, its own dict, the tuples -/
theorem ObjOk.stay (x : ObjOk P w H h a o) (k : ∀ b u, (b = a ∨ H b = some (.own a)) → h.get? b = some u → h'.get? b = some u)
    (ho : ∀ b, H b = some (.own a) → H' b = some (.own a)) (ht : ∀ b xs, H b = some (.tup xs) → H' b = some (.tup xs)) : ObjOk P w H' h' a o := by
  induction o with
  | lst xs => obtain ⟨z, its, n, r, e⟩ := x; exact ⟨z, its, n, r, k _ _ (.inl rfl) e⟩
  | tup xs => obtain ⟨z, its, r, ob, e, c⟩ := x; exact ⟨z, its, r, ob, k _ _ (.inl rfl) e, c⟩
  | dK kvs => obtain ⟨z, y, vs, r, ob, es, ep, e, c⟩ := x; exact ⟨z, y, vs, r, ob, es, ep, k _ _ (.inl rfl) e, c⟩
  | dT kvs =>
    obtain ⟨z, y, xs, r, ob, es, ep, e, c⟩ := x
    exact ⟨z, y, xs, Paired.mapP r fun p q z => ⟨z.1, ht _ _ z.2.1, z.2.2⟩, ob, es, ep, k _ _ (.inl rfl) e, c⟩
  | set S n => obtain ⟨ob, es, ep, t, e, c⟩ := x; exact ⟨ob, es, ep, t, k _ _ (.inl rfl) e, c⟩
  | ins C dx fs =>
    obtain ⟨d, z, ne, e, mA, ⟨od, es, ep, e2, c⟩, r⟩ := x
    exact ⟨ho _ d, z, ne, k _ _ (.inl rfl) e, mA, ⟨od, es, ep, k _ _ (.inr d) e2, c⟩, r⟩
  | own y => obtain ⟨ob, e⟩ := x; exact ⟨ob, k _ _ (.inl rfl) e⟩
  | xd fs => obtain ⟨mA, ⟨od, es, ep, e, c⟩, r⟩ := x; exact ⟨mA, ⟨od, es, ep, k _ _ (.inl rfl) e, c⟩, r⟩
  | rng lo hi => obtain ⟨t, u, v, e⟩ := x; exact ⟨t, u, v, k _ _ (.inl rfl) e⟩
  | frz ob u ih => obtain ⟨e, q⟩ := x; exact ⟨k _ _ (.inl rfl) e, ih q⟩
  | tbl ps =>
    have e : h.get? a = some { cls := .none, data := .fields ps } := x
    show h'.get? a = some { cls := .none, data := .fields ps }
    exact k a _ (.inl rfl) e
  | met f y =>
    have e : h.get? a = some (PySem.W.methodObj (.ref f) (.ref y)) := x
    show h'.get? a = some (PySem.W.methodObj (.ref f) (.ref y))
    exact k a _ (.inl rfl) e
  | ext φ => obtain ⟨p, ⟨o, e⟩, st⟩ := x; exact ⟨st _ _ p fun o q => k _ _ (.inl rfl) q, ⟨o, k _ _ (.inl rfl) e⟩, st⟩
theorem HOk.lt (x : HOk P w H h) (e : H a = some o) : a < h.objs.size := (x a o e).lt
theorem HOk.fresh (x : HOk P w H h) (e : h.objs.size ≤ a) : H a = none := by
  cases q : H a with
  | none => rfl
  | some u => exact absurd (Nat.lt_of_lt_of_le (x.lt q) e) (Nat.lt_irrefl _)
/-- every object of the heap is kept -/
theorem HOk.kept (x : HOk P w H h) (k : ∀ b u, h.get? b = some u → h'.get? b = some u) : HOk P w H h' := fun a o e =>
  (x a o e).stay (fun b u _ q => k b u q) (fun _ q => q) fun _ _ q => q
/-- a new object is laid and tracked -/
theorem HOk.laid (x : HOk P w H h) (k : ∀ b u, h.get? b = some u → h'.get? b = some u) (hp : h.objs.size ≤ a) (new : ObjOk P w (upd H a o) h' a o) : HOk P w (upd H a o) h' := fun b u e => by
  have hn := x.fresh hp
  by_cases hb : b = a
  · subst hb; rw [upd_same] at e; cases e; exact new
  · rw [upd_ne hb] at e
    exact (x b u e).stay (fun c v _ q => k c v q) (fun c q => by rw [upd_ne (ne_of_none q hn)]; exact q) fun c xs q => by rw [upd_ne (ne_of_none q hn)]; exact q
end

/-- what may be read as u: it is u, or a known u -/
def Rd (H : Hp) (a : Addr) (u : HO) : Prop := H a = some u ∨ ∃ o, H a = some (.frz o u)
theorem Rd.of {H : Hp} {a : Addr} {u : HO} (h : H a = some u) : Rd H a u := .inl h
theorem Rd.ok {P : Program} {w : World} {H : Hp} {h : Heap} {a : Addr} {u : HO} (r : Rd H a u) (x : HOk P w H h) : ObjOk P w H h a u := by
  rcases r with r | ⟨o, r⟩
  · exact x a u r
  · obtain ⟨_, q⟩ := x a _ r
    exact q
/-- what may be written -/
def Mut : Option HO → Prop
  | some (.lst _) => True
  | some (.dK _) => True
  | some (.dT _) => True
  | some (.set _ _) => True
  | some (.ins _ _ _) => True
  | some (.ext _) => True
  | _ => False
section
variable {P : Program} {w : World} {H : Hp} {h h' : Heap} {x e : Addr} {o' : HO}
/-- the object at e is changed: x itself, or the dict of the instance x -/
theorem HOk.write (ok : HOk P w H h) (mu : Mut (H x)) (he : e = x ∨ H e = some (.own x)) (k : ∀ b u, b ≠ e → h.get? b = some u → h'.get? b = some u) (heo : ∃ u, h'.get? e = some u)
    (new : ObjOk P w (upd H x o') h' x o') : HOk P w (upd H x o') h' := fun b u q => by
  have nown : ∀ c y, H c = some (.own y) → c ≠ x := fun c y r z => by subst z; rw [r] at mu; exact mu
  have ntup : ∀ c xs, H c = some (.tup xs) → c ≠ x := fun c xs r z => by subst z; rw [r] at mu; exact mu
  by_cases hb : b = x
  · subst hb; rw [upd_same] at q; cases q; exact new
  · rw [upd_ne hb] at q
    by_cases hbe : b = e
    · have q' : H b = some (.own x) := by
        rcases he with z | z
        · exact absurd (hbe.trans z) hb
        · rw [hbe]; exact z
      rw [q] at q'; cases q'
      obtain ⟨v, hv⟩ := heo
      exact ⟨v, by rw [hbe]; exact hv⟩
    · refine (ok b u q).stay (fun c v hc r => k c v ?_ r) (fun c r => by rw [upd_ne (nown c b r)]; exact r) fun c xs r => by rw [upd_ne (ntup c xs r)]; exact r
      rcases hc with rfl | hc
      · exact hbe
      · rintro rfl
        rcases he with z | z
        · exact nown c b hc z
        · rw [hc] at z; cases z; exact hb rfl
end

/-! ### kept unless tracked; of the frames at fs (the callers') the slots may change (an exception that passes writes there); of the records at ex (iterators) nothing is said -/
structure Un (fs ex : List Addr) (H H' : Hp) (h h' : Heap) : Prop where
  keep : ∀ b o, h.get? b = some o → H b = none → b ∉ fs → b ∉ ex → h'.get? b = some o
  slot : ∀ b o, h.get? b = some o → H b = none → b ∈ fs → b ∉ ex → ∃ sl, h'.get? b = some { o with slots := sl }
  free : ∀ b o, h.get? b = some o → H b = none → b ∉ ex → H' b = none
  there : ∀ b o, h.get? b = some o → b ∉ ex → ∃ o', h'.get? b = some o'
  tups : ∀ b xs, H b = some (.tup xs) → H' b = some (.tup xs)
  frzs : ∀ b o u, H b = some (.frz o u) → H' b = some (.frz o u)
  tbls : ∀ b ps, H b = some (.tbl ps) → ∃ more, H' b = some (.tbl (ps ++ more))
section
variable {fs fs' ex ex' : List Addr} {H H1 H2 : Hp} {h h1 h2 h' : Heap} {a x e : Addr} {o : HO}
theorem Un.any (u : Un fs ex H H1 h h1) {b : Addr} {ob : Obj} (q : h.get? b = some ob) (n : H b = none) (hx : b ∉ ex) : ∃ sl, h1.get? b = some { ob with slots := sl } := by
  by_cases hb : b ∈ fs
  · exact u.slot b ob q n hb hx
  · exact ⟨ob.slots, u.keep b ob q n hb hx⟩
theorem Un.trans (a : Un fs ex H H1 h h1) (b : Un fs ex H1 H2 h1 h2) : Un fs ex H H2 h h2 where
  keep := fun c ob q n hc hx => b.keep c ob (a.keep c ob q n hc hx) (a.free c ob q n hx) hc hx
  slot := fun c ob q n hc hx => by
    obtain ⟨sl, e1⟩ := a.slot c ob q n hc hx
    obtain ⟨sl', e2⟩ := b.slot c _ e1 (a.free c ob q n hx) hc hx
    exact ⟨sl', e2⟩
  free := fun c ob q n hx => by
    obtain ⟨o', e1⟩ := a.there c ob q hx
    exact b.free c o' e1 (a.free c ob q n hx) hx
  there := fun c ob q hx => by
    obtain ⟨o', e1⟩ := a.there c ob q hx
    exact b.there c o' e1 hx
  tups := fun c xs q => b.tups c xs (a.tups c xs q)
  frzs := fun c ob xs q => b.frzs c ob xs (a.frzs c ob xs q)
  tbls := fun c ps q => by
    obtain ⟨m1, e1⟩ := a.tbls c ps q
    obtain ⟨m2, e2⟩ := b.tbls c _ e1
    exact ⟨m1 ++ m2, by rw [e2, Array.append_assoc]⟩
theorem Un.kept (k : ∀ b u, h.get? b = some u → h'.get? b = some u) : Un fs ex H H h h' :=
  ⟨fun b ob q _ _ _ => k b ob q, fun b ob q _ _ _ => ⟨ob.slots, k b ob q⟩, fun _ _ _ n _ => n, fun b ob q _ => ⟨ob, k b ob q⟩, fun _ _ q => q, fun _ _ _ q => q, fun _ ps q => ⟨#[], by rw [q]; simp⟩⟩
theorem Un.refl : Un fs ex H H h h := Un.kept fun _ _ q => q
theorem Un.laid (k : ∀ b u, h.get? b = some u → h'.get? b = some u) (hp : h.objs.size ≤ a) (hn : H a = none) : Un fs ex H (upd H a o) h h' where
  keep := fun b u q _ _ _ => k b u q
  slot := fun b u q _ _ _ => ⟨u.slots, k b u q⟩
  free := fun b u q n _ => by rw [upd_ne (Nat.ne_of_lt (Nat.lt_of_lt_of_le (Heap.lt_size q) hp))]; exact n
  there := fun b u q _ => ⟨u, k b u q⟩
  tups := fun b xs q => by rw [upd_ne (ne_of_none q hn)]; exact q
  frzs := fun b u xs q => by rw [upd_ne (ne_of_none q hn)]; exact q
  tbls := fun b ps q => ⟨#[], by rw [upd_ne (ne_of_none q hn), q]; simp⟩
theorem Un.write (mu : Mut (H x)) (he : e = x ∨ H e = some (.own x)) (k : ∀ b u, b ≠ e → h.get? b = some u → h'.get? b = some u) (heo : ∃ u, h'.get? e = some u) : Un fs ex H (upd H x o) h h' := by
  have hx : ∀ b, H b = none → b ≠ x := fun b n z => by subst z; rw [n] at mu; exact mu
  have hb : ∀ b, H b = none → b ≠ e := fun b n z => by
    subst z
    rcases he with r | r
    · exact hx b n r
    · rw [n] at r; cases r
  have hm : ∀ b u, H b = some u → ¬ Mut (some u) → b ≠ x := fun b u q nm z => by subst z; rw [q] at mu; exact nm mu
  refine ⟨fun b u q n _ _ => k b u (hb b n) q, fun b u q n _ _ => ⟨u.slots, k b u (hb b n) q⟩, fun b u q n _ => by rw [upd_ne (hx b n)]; exact n, fun b u q _ => ?_,
    fun b xs q => by rw [upd_ne (hm b _ q fun z => z)]; exact q, fun b u xs q => by rw [upd_ne (hm b _ q fun z => z)]; exact q, fun b ps q => ⟨#[], by rw [upd_ne (hm b _ q fun z => z), q]; simp⟩⟩
  by_cases hbe : b = e
  · subst hbe; exact heo
  · exact ⟨u, k b u hbe q⟩
theorem Un.mono (u : Un fs ex H H1 h h1) (hs : ∀ b ∈ fs, b ∈ fs') (hx : ∀ b ∈ ex, b ∈ ex') : Un fs' ex' H H1 h h1 :=
  ⟨fun b ob q n hb he => u.keep b ob q n (fun z => hb (hs b z)) fun z => he (hx b z), fun _ _ q n _ he => u.any q n fun z => he (hx _ z), fun b ob q n he => u.free b ob q n fun z => he (hx b z), fun b ob q he => u.there b ob q fun z => he (hx b z), u.tups, u.frzs, u.tbls⟩
end

/-! ### the heap without what is tracked -/
def trk (h : Heap) (H : Hp) : List Addr := (List.range h.objs.size).filter fun a => (H a).isSome
def hidT (h : Heap) (H : Hp) : Heap := PySem.W.hideAll h (trk h H)
theorem hidT_size (h : Heap) (H : Hp) : (hidT h H).objs.size = h.objs.size := PySem.W.hideAll_size _ _
theorem hidT_get {h : Heap} {H : Hp} {b : Addr} {o : Obj} (e : h.get? b = some o) (n : H b = none) : (hidT h H).get? b = some o :=
  PySem.W.hideAll_get _ e fun hm => by
    have q : (H b).isSome = true := (List.mem_filter.mp hm).2
    rw [n] at q; simp at q
theorem of_hidT {h : Heap} {H : Hp} {b : Addr} {o : Obj} (e : (hidT h H).get? b = some o) : h.get? b = some o ∧ H b = none := by
  have e' : h.get? b = some o := PySem.W.of_hideAll (trk h H) e
  refine ⟨e', ?_⟩
  cases q : H b with
  | none => rfl
  | some x =>
    have hm : b ∈ trk h H := List.mem_filter.mpr ⟨List.mem_range.mpr (Heap.lt_size e'), by simp [q]⟩
    have z : (hidT h H).get? b = none := PySem.W.hideAll_none (trk h H) hm
    rw [z] at e; cases e

/-! ### OpenK's ledger, filled with every new object but one -/
def allNews (g h : Heap) (L : Addr) : List (Addr × Obj) := (List.range h.objs.size).filterMap fun a => if a = L ∨ (g.get? a).isSome = true then none else (h.get? a).map fun o => (a, o)
theorem mem_allNews {g h : Heap} {L a : Addr} {o : Obj} (h1 : a ≠ L) (h2 : g.get? a = none) (h3 : h.get? a = some o) : (a, o) ∈ allNews g h L :=
  List.mem_filterMap.mpr ⟨a, List.mem_range.mpr (Heap.lt_size h3), by simp [h1, h2, h3]⟩
theorem of_mem_allNews {g h : Heap} {L : Addr} {p : Addr × Obj} (hp : p ∈ allNews g h L) : p.1 ≠ L ∧ g.get? p.1 = none ∧ h.get? p.1 = some p.2 := by
  obtain ⟨b, _, e⟩ := List.mem_filterMap.mp hp
  split at e
  · cases e
  · rename_i hn
    cases q : h.get? b with
    | none => rw [q] at e; simp at e
    | some u =>
      rw [q] at e
      simp only [Option.map_some, Option.some.injEq] at e
      subst e
      refine ⟨fun z => hn (.inl z), ?_, q⟩
      show g.get? b = none
      cases r : g.get? b with
      | none => rfl
      | some v => exact (hn (.inr (by simp [r]))).elim
def rest (g h : Heap) (L d : Addr) : List (Addr × Obj) := (allNews g h L).filter fun p => decide (p.1 ≠ d)
theorem rest_ne {g h : Heap} {L d : Addr} : ∀ p ∈ rest g h L d, p.1 ≠ d := fun p hp => of_decide_eq_true (List.mem_filter.mp hp).2
theorem mem_rest {g h : Heap} {L d a : Addr} {o : Obj} (h1 : a ≠ L) (h2 : g.get? a = none) (h3 : h.get? a = some o) (h4 : a ≠ d) : (a, o) ∈ rest g h L d :=
  List.mem_filter.mpr ⟨mem_allNews h1 h2 h3, decide_eq_true h4⟩
theorem news_all {g h : Heap} {L : Addr} : News g L h (allNews g h L) := fun p hp => let ⟨a, b, c⟩ := of_mem_allNews hp; ⟨c, a, b⟩
theorem news_at {g h : Heap} {L d : Addr} {o : Obj} (h1 : d ≠ L) (h2 : g.get? d = none) (h3 : h.get? d = some o) : News g L h ((d, o) :: rest g h L d) := fun p hp => by
  rcases List.mem_cons.mp hp with rfl | hp
  · exact ⟨h3, h1, h2⟩
  · exact news_all p (List.mem_filter.mp hp).1
/-- behind a rule that changed d alone: all else but the frame is kept -/
theorem kept_of_news {g h h' : Heap} {L d : Addr} {m : Str → Option Value} (k : ∀ b o, g.get? b = some o → h.get? b = some o) (F : Fr g L h' m) (N : News g L h' (rest g h L d)) :
    ∀ b o, b ≠ L → b ≠ d → h.get? b = some o → h'.get? b = some o := fun b o h1 h2 e => by
  cases q : g.get? b with
  | some u =>
    have := k b u q
    rw [e] at this; cases this
    exact F.keep b _ q
  | none => exact (N (b, o) (mem_rest h1 q e h2)).1
end L2

namespace L2
open PySem PySem.Spec PyProof.Rows

/-- the module's facts, over the base: the heap at the law's entry without what is tracked there -/
structure Mod (K : PySem.W.Frag) (mg : Str → Option Value) (base : Heap) : Prop where
  kin : K.In base
  glob : base.Ns mainGlobals mg
  blt : ∃ mb, base.Ns builtinsNs mb ∧ ∀ x : Str, x ≠ "__name__" → mb x = bootBuiltins x
  nolimit : base.NoLimit

/-- the context: a def's body (or a comprehension's block) running. base: fixed through the whole law; s₀, H₀: the entry; outer: the frames whose slots others may change (a def's callers); stack: all frames that run;
   ex: iterators that were made ahead of the entry and are walked here (a comprehension's); fn: the names whose cells were made at the entry (a def: all; a comprehension's block: its own); calm: not within an except suite; pn: pins that every state bears; xe: what is wanted of an exception that leaves the code -/
structure Cx where
  prog : Program
  w : World
  K : PySem.W.Frag
  mg : Str → Option Value
  base : Heap
  A : Around
  N : List Str
  s₀ : Shared
  H₀ : Hp
  env : Env
  outer : List Env
  stack : List Env
  ex : List Addr
  fn : Str → Bool
  calm : Bool
  pn : List (Addr × Obj)
  xe : Value → Shared → Prop
/-- the callers' frames -/
def frs (l : List Env) : List Addr := l.filterMap (·.frame)
abbrev Cx.fs (X : Cx) : List Addr := frs X.outer

def Vis (sc : Scope) (x : Str) : Prop := sc.names.lookup x = some .local ∨ sc.names.lookup x = some .cell ∨ sc.names.lookup x = some .free
def Loc (sc : Scope) (x : Str) : Prop := sc.names.lookup x = some .local ∨ sc.names.lookup x = some .cell
def Look (env : Env) (h : Heap) (m : Str → Option Value) (x : Str) (u : Value) : Prop :=
  (env.kindOf x = some .local ∧ m x = some u) ∨ ((env.kindOf x = some .cell ∨ env.kindOf x = some .free) ∧ ∃ c, env.cells.lookup x = some c ∧ h.IsCell c (some u))

structure Cx.Ok (X : Cx) : Prop where
  mod : Mod X.K X.mg X.base
  kind : X.env.scope.kind = .function
  glob : X.env.globals = mainGlobals
  blt : X.env.builtins = builtinsNs
  above : X.s₀.heap.objs.size ≤ X.env.locals
  inj : ∀ x y c, X.env.cells.lookup x = some c → X.env.cells.lookup y = some c → x = y
  has : ∀ x, (X.env.kindOf x = some .cell ∨ X.env.kindOf x = some .free) → ∃ c, X.env.cells.lookup x = some c
  cab : ∀ x c, X.fn x = true → X.env.cells.lookup x = some c → X.s₀.heap.objs.size ≤ c
  hd : X.calm = true → X.A.handled = none
  frames : X.A.frames = some X.stack
  stk : X.stack = X.outer ∨ (X.stack = X.env :: X.outer ∧ X.env.frame = some X.env.locals)
  exf : ∀ b ∈ X.ex, b ≠ X.env.locals ∧ ∀ x c, X.env.cells.lookup x = some c → c ≠ b
  bs : ∀ b o, X.base.get? b = some o → X.s₀.heap.get? b = some o ∧ X.H₀ b = none
  bsz : X.base.objs.size ≤ X.s₀.heap.objs.size
  noex : ∀ b o, X.base.get? b = some o → b ∉ X.ex
  exfs : ∀ b ∈ X.ex, b ∉ X.fs
  funs : X.s₀.heap.FunFrames X.base X.outer
  frf : ∀ b ∈ X.fs, X.H₀ b = none

structure Inv (X : Cx) (pins : List (Addr × Obj)) (σ : List (Option V)) (H : Hp) (s : Shared) : Prop where
  ok : X.Ok
  os : s.os = X.s₀.os
  bare : AllBare s.gens
  base : Un X.fs X.ex X.H₀ H X.s₀.heap s.heap
  loc : ∃ m, s.heap.Ns X.env.locals m ∧ ∀ (i : Nat) (x : Str) (v : V), X.N[i]? = some x → σ[i]? = some (some v) → Vis X.env.scope x → ∃ u, RelV v u ∧ Look X.env s.heap m x u
  cell : ∀ x c, X.env.cells.lookup x = some c → ∃ v, s.heap.IsCell c v
  free : H X.env.locals = none
  freeC : ∀ x c, X.env.cells.lookup x = some c → H c = none
  pin : ∀ p ∈ X.pn ++ pins, s.heap.get? p.1 = some p.2 ∧ H p.1 = none ∧ p.1 ≠ X.env.locals ∧ p.1 ∉ X.fs ∧ ∀ v, p.2.data ≠ .cell v
  hok : HOk X.prog X.w H s.heap
  len : σ.length = X.N.length

section
variable {X : Cx} {pins : List (Addr × Obj)} {σ : List (Option V)} {H H' : Hp} {s : Shared} {h' : Heap}

theorem Cx.Ok.nofr (ok : X.Ok) {b : Addr} {o : Obj} (e : X.base.get? b = some o) : b ∉ X.fs := fun hb => by
  have := (ok.funs.mem hb).1
  rw [e] at this; cases this
theorem Inv.bs (I : Inv X pins σ H s) : ∀ b o, X.base.get? b = some o → s.heap.get? b = some o ∧ H b = none := fun b o e =>
  ⟨I.base.keep b o (I.ok.bs b o e).1 (I.ok.bs b o e).2 (I.ok.nofr e) (I.ok.noex b o e), I.base.free b o (I.ok.bs b o e).1 (I.ok.bs b o e).2 (I.ok.noex b o e)⟩
theorem Inv.bk (I : Inv X pins σ H s) : ∀ b o, X.base.get? b = some o → s.heap.get? b = some o := fun b o e => (I.bs b o e).1
theorem Inv.mod (I : Inv X pins σ H s) : Mod X.K X.mg X.base := I.ok.mod
theorem Inv.kIn (I : Inv X pins σ H s) : X.K.In s.heap := I.ok.mod.kin.keeps I.bk
theorem Inv.nolimit (I : Inv X pins σ H s) : s.heap.NoLimit := I.ok.mod.nolimit.keeps I.bk
/-- the frame over the base: for OpenK's rules (K.In X.base is I.mod.kin) -/
theorem Inv.fr (I : Inv X pins σ H s) : ∃ m, Fr X.base X.env.locals s.heap m :=
  let ⟨m, hn, _⟩ := I.loc
  ⟨m, hn, I.bk, Nat.le_trans I.ok.bsz I.ok.above⟩
theorem Inv.lt (I : Inv X pins σ H s) : X.env.locals < s.heap.objs.size := let ⟨_, hn, _⟩ := I.loc; hn.lt
theorem Inv.sz (I : Inv X pins σ H s) : X.s₀.heap.objs.size ≤ s.heap.objs.size := Nat.le_trans I.ok.above (Nat.le_of_lt I.lt)
theorem Inv.nofs (I : Inv X pins σ H s) {a : Addr} (h : s.heap.objs.size ≤ a) : a ∉ X.fs := fun hb => by
  obtain ⟨_, o, ho, _⟩ := I.ok.funs.mem hb
  exact absurd (Nat.lt_of_lt_of_le (Heap.lt_size ho) (Nat.le_trans I.sz h)) (Nat.lt_irrefl _)
theorem Inv.cne (I : Inv X pins σ H s) : ∀ x c, X.env.cells.lookup x = some c → c ≠ X.env.locals := fun x c e z => by
  obtain ⟨v, o, ho, hd⟩ := I.cell x c e
  obtain ⟨m, ⟨o', es, ep, ho', hd', _⟩, _⟩ := I.loc
  rw [z, ho'] at ho; cases ho; rw [hd'] at hd; cases hd
theorem Inv.funs (I : Inv X pins σ H s) : s.heap.FunFrames X.base X.outer := by
  have all : ∀ (l : List Env), (∀ b ∈ frs l, b ∈ X.fs) → X.s₀.heap.FunFrames X.base l → s.heap.FunFrames X.base l := by
    intro l
    induction l with
    | nil => intro _ _; trivial
    | cons env r ih =>
      intro hs hl
      obtain ⟨hk, ⟨L, o, hf, hn, ho, hd⟩, hr⟩ := hl
      have hL : L ∈ X.fs := hs L (by unfold frs; rw [List.filterMap_cons, hf]; exact List.mem_cons_self)
      obtain ⟨sl, e⟩ := I.base.slot L o ho (I.ok.frf L hL) hL fun z => I.ok.exfs L z hL
      exact ⟨hk, ⟨L, _, hf, hn, e, hd⟩, ih (fun b hb => hs b (by unfold frs; rw [List.filterMap_cons, hf]; exact List.mem_cons_of_mem _ hb)) hr⟩
  exact all X.outer (fun _ hb => hb) I.ok.funs

/-- the frames that run, for a call -/
theorem Inv.stack (I : Inv X pins σ H s) : s.heap.FunFrames X.base X.stack := by
  rcases I.ok.stk with e | ⟨e, hf⟩
  · rw [e]; exact I.funs
  · rw [e]
    obtain ⟨m, hn, _⟩ := I.loc
    refine .cons (by rw [I.ok.kind]; decide) hf hn ?_ I.funs
    exact Heap.get?_none_of_le (Nat.le_trans I.ok.bsz I.ok.above)
theorem Inv.stkSub (I : Inv X pins σ H s) : ∀ b ∈ frs X.stack, b ∈ X.env.locals :: X.fs := fun b hb => by
  rcases I.ok.stk with e | ⟨e, hf⟩
  · rw [e] at hb; exact List.mem_cons_of_mem _ hb
  · rw [e] at hb
    unfold frs at hb
    rw [List.filterMap_cons, hf] at hb
    exact hb
theorem Inv.stkFree (I : Inv X pins σ H s) : ∀ b ∈ frs X.stack, H b = none := fun b hb => by
  rcases List.mem_cons.mp (I.stkSub b hb) with e | hb
  · rw [e]; exact I.free
  · obtain ⟨_, o, ho, _⟩ := I.ok.funs.mem hb
    exact I.base.free b o ho (I.ok.frf b hb) fun z => I.ok.exfs b z hb

/-- THE STEP: the untracked objects but the frame and the records at ch are kept (the callers' frames up to slots), the frame's map is kept, the new abstract heap is held -/
theorem Inv.step {g' : Array GenState} {t' : Nat} {d' : Drawn} {ch : List Addr} (I : Inv X pins σ H s)
    (hch : ∀ b ∈ ch, (b ∈ X.ex ∨ X.s₀.heap.objs.size ≤ b) ∧ b ≠ X.env.locals ∧ (∀ x c, X.env.cells.lookup x = some c → c ≠ b) ∧ ∀ p ∈ X.pn ++ pins, p.1 ≠ b)
    (keep : ∀ b o, b ≠ X.env.locals → b ∉ X.fs → b ∉ ch → s.heap.get? b = some o → H b = none → h'.get? b = some o)
    (slot : ∀ b o, b ≠ X.env.locals → b ∈ X.fs → b ∉ ch → s.heap.get? b = some o → H b = none → ∃ sl, h'.get? b = some { o with slots := sl }) (free : ∀ b o, b ∉ ch → s.heap.get? b = some o → H b = none → H' b = none)
    (there : ∀ b o, b ∉ ch → s.heap.get? b = some o → ∃ o', h'.get? b = some o')
    (tups : ∀ b xs, H b = some (.tup xs) → H' b = some (.tup xs)) (frzs : ∀ b o u, H b = some (.frz o u) → H' b = some (.frz o u)) (tbls : ∀ b ps, H b = some (.tbl ps) → ∃ more, H' b = some (.tbl (ps ++ more)))
    (ns : ∀ m, s.heap.Ns X.env.locals m → h'.Ns X.env.locals m) (hok : HOk X.prog X.w H' h') (hg : AllBare g') :
    Inv X pins σ H' { s with heap := h', gens := g', drawn := d', toks := t' } := by
  have neL : ∀ b o, X.s₀.heap.get? b = some o → b ≠ X.env.locals := fun b o e => Nat.ne_of_lt (Nat.lt_of_lt_of_le (Heap.lt_size e) I.ok.above)
  have neC : ∀ b o, X.s₀.heap.get? b = some o → b ∉ X.ex → b ∉ ch := fun b o e hx hb => by
    rcases (hch b hb).1 with z | z
    · exact hx z
    · exact absurd (Nat.lt_of_lt_of_le (Heap.lt_size e) z) (Nat.lt_irrefl _)
  have cellK : ∀ x c, X.env.cells.lookup x = some c → ∀ v, s.heap.IsCell c v → h'.IsCell c v := fun x c e v ⟨o, ho, hd⟩ => by
    have nch : c ∉ ch := fun z => (hch c z).2.2.1 x c e rfl
    by_cases hc : c ∈ X.fs
    · obtain ⟨sl, q⟩ := slot c o (I.cne x c e) hc nch ho (I.freeC x c e)
      exact ⟨_, q, hd⟩
    · exact ⟨o, keep c o (I.cne x c e) hc nch ho (I.freeC x c e), hd⟩
  refine ⟨I.ok, I.os, hg, ⟨fun b o e n hb hx => ?_, fun b o e n hb hx => ?_, fun b o e n hx => ?_, fun b o e hx => ?_, fun b xs e => tups b xs (I.base.tups b xs e), fun b o xs e => frzs b o xs (I.base.frzs b o xs e), fun b ps e => ?_⟩, ?_, fun x c e => ?_, ?_, fun x c e => ?_, fun p hp => ?_, hok, I.len⟩
  · exact keep b o (neL b o e) hb (neC b o e hx) (I.base.keep b o e n hb hx) (I.base.free b o e n hx)
  · obtain ⟨sl, e1⟩ := I.base.slot b o e n hb hx
    obtain ⟨sl', e2⟩ := slot b _ (neL b o e) hb (neC b o e hx) e1 (I.base.free b o e n hx)
    exact ⟨sl', e2⟩
  · obtain ⟨o', e1⟩ := I.base.there b o e hx
    exact free b o' (neC b o e hx) e1 (I.base.free b o e n hx)
  · obtain ⟨o', e1⟩ := I.base.there b o e hx
    exact there b o' (neC b o e hx) e1
  · obtain ⟨m1, e1⟩ := I.base.tbls b ps e
    obtain ⟨m2, e2⟩ := tbls b _ e1
    exact ⟨m1 ++ m2, by rw [e2, Array.append_assoc]⟩
  · obtain ⟨m, hn, hl⟩ := I.loc
    refine ⟨m, ns m hn, fun i x v e1 e2 e3 => ?_⟩
    obtain ⟨u, r, l⟩ := hl i x v e1 e2 e3
    refine ⟨u, r, ?_⟩
    rcases l with l | ⟨k, c, e, z⟩
    · exact .inl l
    · exact .inr ⟨k, c, e, cellK x c e _ z⟩
  · obtain ⟨v, z⟩ := I.cell x c e
    exact ⟨v, cellK x c e v z⟩
  · obtain ⟨m, ⟨o, _, _, ho, _⟩, _⟩ := I.loc
    exact free _ o (fun z => (hch _ z).2.1 rfl) ho I.free
  · obtain ⟨v, o, ho, hd⟩ := I.cell x c e
    exact free c o (fun z => (hch c z).2.2.1 x c e rfl) ho (I.freeC x c e)
  · obtain ⟨e, n, ne, nf, d⟩ := I.pin p hp
    have nch : p.1 ∉ ch := fun z => (hch p.1 z).2.2.2 p hp rfl
    exact ⟨keep p.1 p.2 ne nf nch e n, free p.1 p.2 nch e n, ne, nf, d⟩
/-- .. where the frame's own object is kept too -/
theorem Inv.un {t' : Nat} (I : Inv X pins σ H s) (u : Un X.fs [] H H' s.heap h') (hok : HOk X.prog X.w H' h') : Inv X pins σ H' { s with heap := h', toks := t' } := by
  obtain ⟨m, ⟨o, es, ep, ho, r⟩, _⟩ := id I.loc
  obtain ⟨sl, hL⟩ := u.any ho I.free (by simp)
  exact I.step (g' := s.gens) (d' := s.drawn) (ch := []) (fun _ z => nomatch z) (fun b o _ hb _ e n => u.keep b o e n hb (by simp)) (fun b o _ hb _ e n => u.slot b o e n hb (by simp)) (fun b o _ e n => u.free b o e n (by simp)) (fun b o _ e => u.there b o e (by simp)) u.tups u.frzs u.tbls (fun m' hm => by
    obtain ⟨o', es', ep', ho', r'⟩ := hm
    rw [ho] at ho'; cases ho'
    exact ⟨_, es', ep', hL, r'⟩) hok I.bare
/-- behind a call (or a comprehension's block): the slots of this frame may have changed too, the records at ch may have turned -/
theorem Inv.call {g' : Array GenState} {t' : Nat} {d' : Drawn} {ch : List Addr} (I : Inv X pins σ H s) (u : Un (frs X.stack) ch H H' s.heap h') (hok : HOk X.prog X.w H' h') (hg : AllBare g')
    (hch : ∀ b ∈ ch, (b ∈ X.ex ∨ X.s₀.heap.objs.size ≤ b) ∧ b ≠ X.env.locals ∧ (∀ x c, X.env.cells.lookup x = some c → c ≠ b) ∧ ∀ p ∈ X.pn ++ pins, p.1 ≠ b) :
    Inv X pins σ H' { s with heap := h', gens := g', drawn := d', toks := t' } := by
  obtain ⟨m, ⟨o, es, ep, ho, r⟩, _⟩ := id I.loc
  obtain ⟨sl, hL⟩ := u.any ho I.free fun z => (hch _ z).2.1 rfl
  exact I.step (ch := ch) hch (fun b o hL hb hc e n => u.keep b o e n (fun z => (List.mem_cons.mp (I.stkSub b z)).elim hL hb) hc) (fun b o _ _ hc e n => u.any e n hc) (fun b o hc e n => u.free b o e n hc) (fun b o hc e => u.there b o e hc) u.tups u.frzs u.tbls (fun m' hm => by
    obtain ⟨o', es', ep', ho', r'⟩ := hm
    rw [ho] at ho'; cases ho'
    exact ⟨_, es', ep', hL, r'⟩) hok hg
/-- an untracked record of ours (an iterator) has turned -/
theorem Inv.turned {t' : Nat} {it : Addr} (I : Inv X pins σ H s) (k : ∀ b o, b ≠ it → s.heap.get? b = some o → h'.get? b = some o) (hn : H it = none) (hL : it ≠ X.env.locals)
    (h1 : it ∈ X.ex ∨ X.s₀.heap.objs.size ≤ it) (h2 : ∀ x c, X.env.cells.lookup x = some c → c ≠ it) (h3 : ∀ p ∈ X.pn ++ pins, p.1 ≠ it) : Inv X pins σ H { s with heap := h', toks := t' } := by
  have nit : ∀ b u, H b = some u → b ≠ it := fun b u e z => by rw [z, hn] at e; cases e
  refine I.step (g' := s.gens) (d' := s.drawn) (ch := [it]) (fun b hb => ?_) (fun b o _ _ hc e _ => k b o (fun z => hc (by simp [z])) e) (fun b o _ _ hc e _ => ⟨o.slots, k b o (fun z => hc (by simp [z])) e⟩) (fun _ _ _ _ n => n)
    (fun b o hc e => ⟨o, k b o (fun z => hc (by simp [z])) e⟩) (fun _ _ e => e) (fun _ _ _ e => e) (fun b ps e => ⟨#[], by rw [e]; simp⟩) (fun m hm => ?_) (fun b u e => ?_) I.bare
  · have e : b = it := by simpa using hb
    subst e
    exact ⟨h1, hL, h2, h3⟩
  · obtain ⟨o, es, ep, ho, r⟩ := hm
    exact ⟨o, es, ep, k _ o (Ne.symm hL) ho, r⟩
  · refine (I.hok b u e).stay (fun c v hc q => k c v ?_ q) (fun _ q => q) fun _ _ q => q
    rcases hc with z | z
    · rw [z]; exact nit b u e
    · exact nit c _ z
theorem Inv.tok (I : Inv X pins σ H s) (t : Nat) : Inv X pins σ H { s with toks := t } := I.un (h' := s.heap) (t' := t) Un.refl I.hok
/-- all objects kept -/
theorem Inv.kept {t' : Nat} (I : Inv X pins σ H s) (k : ∀ b u, s.heap.get? b = some u → h'.get? b = some u) : Inv X pins σ H { s with heap := h', toks := t' } := I.un (Un.kept k) (I.hok.kept k)
/-- a new object laid and tracked -/
theorem Inv.laid {a : Addr} {o : HO} {t' : Nat} (I : Inv X pins σ H s) (k : ∀ b u, s.heap.get? b = some u → h'.get? b = some u) (hp : s.heap.objs.size ≤ a) (new : ObjOk X.prog X.w (upd H a o) h' a o) :
    Inv X pins σ (upd H a o) { s with heap := h', toks := t' } := I.un (Un.laid k hp (I.hok.fresh hp)) (I.hok.laid k hp new)
/-- an object written -/
theorem Inv.write {x e : Addr} {o : HO} {t' : Nat} (I : Inv X pins σ H s) (mu : Mut (H x)) (he : e = x ∨ H e = some (.own x)) (k : ∀ b u, b ≠ e → s.heap.get? b = some u → h'.get? b = some u) (heo : ∃ u, h'.get? e = some u)
    (new : ObjOk X.prog X.w (upd H x o) h' x o) : Inv X pins σ (upd H x o) { s with heap := h', toks := t' } := I.un (Un.write mu he k heo) (I.hok.write mu he k heo new)
/-- forgetting slots, pins -/
theorem Inv.weak {σ' : List (Option V)} (I : Inv X pins σ H s) (hl : σ'.length = σ.length) (w : ∀ (i : Nat) v, σ'[i]? = some (some v) → σ[i]? = some (some v)) : Inv X pins σ' H s :=
  ⟨I.ok, I.os, I.bare, I.base, let ⟨m, hn, hl'⟩ := I.loc; ⟨m, hn, fun i x v e1 e2 e3 => hl' i x v e1 (w i v e2) e3⟩, I.cell, I.free, I.freeC, I.pin, I.hok, hl.trans I.len⟩
theorem Inv.pins_of {pins' : List (Addr × Obj)} (I : Inv X pins σ H s) (h : ∀ p ∈ pins', s.heap.get? p.1 = some p.2 ∧ H p.1 = none ∧ p.1 ≠ X.env.locals ∧ p.1 ∉ X.fs ∧ ∀ v, p.2.data ≠ .cell v) : Inv X pins' σ H s :=
  ⟨I.ok, I.os, I.bare, I.base, I.loc, I.cell, I.free, I.freeC, fun p hp => (List.mem_append.mp hp).elim (fun z => I.pin p (List.mem_append_left _ z)) (h p), I.hok, I.len⟩

theorem nodup_ix {N : List Str} (hN : N.Nodup) {i j : Nat} {x : Str} (a : N[i]? = some x) (b : N[j]? = some x) : i = j := by
  obtain ⟨h1, e1⟩ := List.getElem?_eq_some_iff.mp a
  obtain ⟨h2, e2⟩ := List.getElem?_eq_some_iff.mp b
  exact (List.getElem_inj hN).mp (e1.trans e2.symm)

/-- a name is stored; what changed -/
theorem store_ok2 {M : Model} {A : Around} {E : Value → Shared → Prop} {i : Nat} {x : Str} {v : V} {u : Value} {Q : Unit → Shared → Prop} (I : Inv X pins σ H s) (hN : X.N.Nodup) (hi : X.N[i]? = some x) (hx : Loc X.env.scope x) (r : RelV v u)
    (h : ∀ s', Inv X pins (σ.set i (some v)) H s' → (∃ a, Heap.SameBut a s.heap s'.heap ∧ (a = X.env.locals ∨ X.env.cells.lookup x = some a)) → Q () s') (hf : X.fn x = true ∨ X.env.scope.names.lookup x = some .local := by first | exact .inl rfl | exact .inr rfl | assumption) : wpAny M A (storeName X.env x u) Q E s := by
  obtain ⟨m, hn, hl⟩ := id I.loc
  have hcls : (X.env.scope.kind == .class || (X.env.scope.kind == .module && X.env.locals != X.env.globals)) = false := by rw [I.ok.kind]; rfl
  have hiσ : i < σ.length := by rw [I.len]; exact (List.getElem?_eq_some_iff.mp hi).1
  have cne := I.cne
  have tracked : ∀ {a : Addr} {h' : Heap}, (∃ o, s.heap.get? a = some o ∧ H a = none) → Heap.SameBut a s.heap h' → HOk X.prog X.w H h' := fun {a h'} ha hs b ob e => by
    obtain ⟨_, _, hfree⟩ := ha
    refine (I.hok b ob e).stay (fun c w' hc q => (hs.2 c ?_).trans q) (fun _ q => q) fun _ _ q => q
    rintro rfl
    rcases hc with rfl | hc
    · rw [hfree] at e; cases e
    · rw [hfree] at hc; cases hc
  rcases hx with hk | hk
  · refine wpAny_storeName_local hk hn (fun h' hn' hs => ?_) hcls
    obtain ⟨oL, _, _, hoL, _⟩ := id hn
    refine h _ ⟨I.ok, I.os, I.bare, ⟨fun b o e n hb hx => ?_, fun b o e n hb hx => ?_, I.base.free, fun b o e hx => ?_, I.base.tups, I.base.frzs, I.base.tbls⟩, ⟨_, hn', fun j y v' e1 e2 e3 => ?_⟩, fun y c e => ?_, I.free, I.freeC, fun p hp => ?_, tracked ⟨oL, hoL, I.free⟩ hs, by simpa using I.len⟩ ⟨_, hs, .inl rfl⟩
    · exact (hs.2 b (Nat.ne_of_lt (Nat.lt_of_lt_of_le (Heap.lt_size e) I.ok.above))).trans (I.base.keep b o e n hb hx)
    · obtain ⟨sl, e1⟩ := I.base.slot b o e n hb hx
      exact ⟨sl, (hs.2 b (Nat.ne_of_lt (Nat.lt_of_lt_of_le (Heap.lt_size e) I.ok.above))).trans e1⟩
    · obtain ⟨o', e1⟩ := I.base.there b o e hx
      exact ⟨o', (hs.2 b (Nat.ne_of_lt (Nat.lt_of_lt_of_le (Heap.lt_size e) I.ok.above))).trans e1⟩
    · by_cases hj : j = i
      · subst hj
        rw [hi] at e1; cases e1
        rw [List.getElem?_set_self hiσ] at e2
        cases e2
        exact ⟨u, r, .inl ⟨hk, by simp⟩⟩
      · rw [List.getElem?_set_ne (Ne.symm hj)] at e2
        obtain ⟨u', r', q⟩ := hl j y v' e1 e2 e3
        refine ⟨u', r', ?_⟩
        rcases q with ⟨k, e⟩ | ⟨k, c, e, z⟩
        · refine .inl ⟨k, ?_⟩
          have : y ≠ x := fun e => hj (nodup_ix hN e1 (e ▸ hi))
          simp [this, e]
        · exact .inr ⟨k, c, e, z.sameBut hs (cne y c e)⟩
    · obtain ⟨w', z⟩ := I.cell y c e
      exact ⟨w', z.sameBut hs (cne y c e)⟩
    · obtain ⟨e, n, ne, nf, d⟩ := I.pin p hp
      exact ⟨(hs.2 p.1 ne).trans e, n, ne, nf, d⟩
  · have hfn : X.fn x = true := by
      rcases hf with z | z
      · exact z
      · rw [z] at hk; cases hk
    obtain ⟨c, hc⟩ := I.ok.has x (.inl hk)
    obtain ⟨w', z⟩ := I.cell x c hc
    refine wpAny_storeName_cell I.ok.kind hk hc z (fun h' hc' hs => ?_)
    obtain ⟨oc, hoc, hocd⟩ := id z
    refine h { s with heap := h' } ⟨I.ok, I.os, I.bare, ⟨fun b o e n hb hx => ?_, fun b o e n hb hx => ?_, I.base.free, fun b o e hx => ?_, I.base.tups, I.base.frzs, I.base.tbls⟩, ⟨m, hn.sameBut hs (Ne.symm (cne x c hc)), fun j y v' e1 e2 e3 => ?_⟩, fun y c' e => ?_, I.free, I.freeC, fun p hp => ?_, tracked ⟨oc, hoc, I.freeC x c hc⟩ hs, by simpa using I.len⟩ ⟨c, hs, .inr hc⟩
    · exact (hs.2 b (Nat.ne_of_lt (Nat.lt_of_lt_of_le (Heap.lt_size e) (I.ok.cab x c hfn hc)))).trans (I.base.keep b o e n hb hx)
    · obtain ⟨sl, e1⟩ := I.base.slot b o e n hb hx
      exact ⟨sl, (hs.2 b (Nat.ne_of_lt (Nat.lt_of_lt_of_le (Heap.lt_size e) (I.ok.cab x c hfn hc)))).trans e1⟩
    · obtain ⟨o', e1⟩ := I.base.there b o e hx
      exact ⟨o', (hs.2 b (Nat.ne_of_lt (Nat.lt_of_lt_of_le (Heap.lt_size e) (I.ok.cab x c hfn hc)))).trans e1⟩
    · by_cases hj : j = i
      · subst hj
        rw [hi] at e1; cases e1
        rw [List.getElem?_set_self hiσ] at e2
        cases e2
        exact ⟨u, r, .inr ⟨.inl hk, c, hc, hc'⟩⟩
      · rw [List.getElem?_set_ne (Ne.symm hj)] at e2
        obtain ⟨u', r', q⟩ := hl j y v' e1 e2 e3
        refine ⟨u', r', ?_⟩
        rcases q with q | ⟨k, c', e, z'⟩
        · exact .inl q
        · refine .inr ⟨k, c', e, z'.sameBut hs ?_⟩
          rintro rfl
          exact hj (nodup_ix hN e1 (I.ok.inj _ _ _ e hc ▸ hi))
    · by_cases hcc : c' = c
      · subst hcc; exact ⟨_, hc'⟩
      · obtain ⟨w2, z2⟩ := I.cell y c' e
        exact ⟨w2, z2.sameBut hs hcc⟩
    · obtain ⟨e, n, ne, nf, d⟩ := I.pin p hp
      refine ⟨(hs.2 p.1 ?_).trans e, n, ne, nf, d⟩
      intro q
      rw [q, hoc] at e
      have q' : oc = p.2 := Option.some.inj e
      exact d w' (by rw [← q']; exact hocd)
theorem store_ok {M : Model} {A : Around} {E : Value → Shared → Prop} {i : Nat} {x : Str} {v : V} {u : Value} {Q : Unit → Shared → Prop} (I : Inv X pins σ H s) (hN : X.N.Nodup) (hi : X.N[i]? = some x) (hx : Loc X.env.scope x) (r : RelV v u)
    (h : ∀ s', Inv X pins (σ.set i (some v)) H s' → Q () s') (hf : X.fn x = true ∨ X.env.scope.names.lookup x = some .local := by first | exact .inl rfl | exact .inr rfl | assumption) : wpAny M A (storeName X.env x u) Q E s :=
  store_ok2 I hN hi hx r (fun s' I' _ => h s' I') hf
/-- behind a call or a block, the state as it is -/
theorem Inv.call' {s' : Shared} {ch : List Addr} (I : Inv X pins σ H s) (ho : s'.os = s.os) (u : Un (frs X.stack) ch H H' s.heap s'.heap) (hok : HOk X.prog X.w H' s'.heap) (hg : AllBare s'.gens)
    (hch : ∀ b ∈ ch, (b ∈ X.ex ∨ X.s₀.heap.objs.size ≤ b) ∧ b ≠ X.env.locals ∧ (∀ x c, X.env.cells.lookup x = some c → c ≠ b) ∧ ∀ p ∈ X.pn ++ pins, p.1 ≠ b) : Inv X pins σ H' s' := by
  obtain ⟨h', g', d', t', o'⟩ := s'
  have e : o' = s.os := ho
  subst e
  exact I.call (g' := g') (t' := t') (d' := d') u hok hg hch
end

/-! ### the judgements -/
/-- an exception: its class, its own dict's address (where it has one), the abstract heap behind it -/
abbrev XK := Value → Option Addr → Hp → Prop
abbrev St := List (Option V)
abbrev VK := V → Hp → Prop
/-- an expression's reading; a test's; an argument list's -/
abbrev TE := St → Hp → VK → Prop
abbrev TT := St → Hp → (Bool → Hp → Prop) → Prop
abbrev TA := St → Hp → (List V → Hp → Prop) → Prop
/-- what is wanted behind a statement -/
structure Ends where
  nx : St → Hp → Prop
  rt : VK
  bk : St → Hp → Prop := fun _ _ => False
  ct : St → Hp → Prop := fun _ _ => False
abbrev TS := Ends → St → Hp → Prop

def EP (X : Cx) (pins : List (Addr × Obj)) (σ : St) (Q : VK) (u : Value) (s' : Shared) : Prop := ∃ v H', Inv X pins σ H' s' ∧ RelV v u ∧ Q v H'
def TP (X : Cx) (pins : List (Addr × Obj)) (σ : St) (Q : Bool → Hp → Prop) (b : Bool) (s' : Shared) : Prop := ∃ H', Inv X pins σ H' s' ∧ Q b H'
def AP (X : Cx) (pins : List (Addr × Obj)) (σ : St) (Q : List V → Hp → Prop) (us : List Value) (s' : Shared) : Prop := ∃ vs H', Inv X pins σ H' s' ∧ Vals vs us ∧ Q vs H'
def SP (X : Cx) (pins : List (Addr × Obj)) (D : Ends) (f : Flow) (s' : Shared) : Prop :=
  match f with
  | .next => ∃ σ' H', Inv X pins σ' H' s' ∧ D.nx σ' H'
  | .brk => ∃ σ' H', Inv X pins σ' H' s' ∧ D.bk σ' H'
  | .cont => ∃ σ' H', Inv X pins σ' H' s' ∧ D.ct σ' H'
  | .ret u => ∃ v σ' H', Inv X pins σ' H' s' ∧ RelV v u ∧ D.rt v H'

def PE (X : Cx) (e : Expr) (t : TE) : Prop :=
  ∀ (pins : List (Addr × Obj)) (s : Shared) (σ : St) (H : Hp) (Q : VK), Inv X pins σ H s → t σ H Q → wpAny (model X.prog X.w) X.A (eval e X.env) (EP X pins σ Q) X.xe s
def PT (X : Cx) (e : Expr) (t : TT) : Prop :=
  ∀ (pins : List (Addr × Obj)) (s : Shared) (σ : St) (H : Hp) (Q : Bool → Hp → Prop), Inv X pins σ H s → t σ H Q → wpAny (model X.prog X.w) X.A (isTrue e X.env (eval e X.env)) (TP X pins σ Q) X.xe s
/-- a test whatever its 'whole' is (and, or) -/
def PW (X : Cx) (e : Expr) (t : TT) : Prop :=
  ∀ (whole : Sem Value) (pins : List (Addr × Obj)) (s : Shared) (σ : St) (H : Hp) (Q : Bool → Hp → Prop), Inv X pins σ H s → t σ H Q → wpAny (model X.prog X.w) X.A (isTrue e X.env whole) (TP X pins σ Q) X.xe s
theorem PW.pt {X : Cx} {e : Expr} {t : TT} (h : PW X e t) : PT X e t := h _
/-- an argument list (no star), from the left -/
def PA (X : Cx) (es : List Expr) (t : TA) : Prop :=
  ∀ (pos : Pos) (pins : List (Addr × Obj)) (s : Shared) (σ : St) (H : Hp) (Q : List V → Hp → Prop), Inv X pins σ H s → t σ H Q → wpAny (model X.prog X.w) X.A (spliced (backTo pos (starEach es X.env))) (AP X pins σ Q) X.xe s
def PS (X : Cx) (st : Stmt) (t : TS) : Prop :=
  ∀ (pins : List (Addr × Obj)) (s : Shared) (σ : St) (H : Hp) (D : Ends), Inv X pins σ H s → t D σ H → wpAny (model X.prog X.w) X.A (exec st X.env) (SP X pins D) X.xe s
def PSs (X : Cx) (st : List Stmt) (t : TS) : Prop :=
  ∀ (pins : List (Addr × Obj)) (s : Shared) (σ : St) (H : Hp) (D : Ends), Inv X pins σ H s → t D σ H → wpAny (model X.prog X.w) X.A (execs st X.env) (SP X pins D) X.xe s
/-- weaken the end -/
theorem thn {α : Type} {t : Sem α} {Q Q' : α → Shared → Prop} {M : Model} {A : Around} {E : Value → Shared → Prop} {s : Shared} (h : wpAny M A t Q E s) (hQ : ∀ a s, Q a s → Q' a s) : wpAny M A t Q' E s := wpAny_mono h hQ fun _ _ x => x
end L2

namespace L2
open PySem PySem.Spec PyProof.Rows
section
variable {X : Cx}

/-- two expressions in a row -/
theorem bin {a b : Expr} {ta tb : TE} (ha : PE X a ta) (hb : PE X b tb) {pins : List (Addr × Obj)} {s : Shared} {σ : St} {H : Hp} {R : V → V → Hp → Prop} (I : Inv X pins σ H s) (h : ta σ H fun x H1 => tb σ H1 fun y H2 => R x y H2)
    {α : Type} {Q : α → Shared → Prop} {f : Value → Value → Sem α}
    (hf : ∀ v u s2 x y H2, Inv X pins σ H2 s2 → RelV x v → RelV y u → R x y H2 → wpAny (model X.prog X.w) X.A (f v u) Q X.xe s2) :
    wpAny (model X.prog X.w) X.A (eval a X.env) (fun v s₁ => wpAny (model X.prog X.w) X.A (eval b X.env) (fun u s₂ => wpAny (model X.prog X.w) X.A (f v u) Q X.xe s₂) X.xe s₁) X.xe s := by
  refine thn (ha pins s σ H _ I h) fun v s1 ⟨x, H1, I1, r1, q1⟩ => ?_
  refine thn (hb pins s1 σ H1 _ I1 q1) fun u s2 ⟨y, H2, I2, r2, q2⟩ => ?_
  exact hf v u s2 x y H2 I2 r1 r2 q2

/-! ### names and constants -/
def tVar (i : Nat) : TE := fun σ H Q => ∃ v, σ[i]? = some (some v) ∧ Q v H
def tC (v : V) : TE := fun _ H Q => Q v H
theorem pe_var {i : Nat} {x : Str} {pos : Pos} (hN : X.N[i]? = some x) (hv : Vis X.env.scope x) (hd : (x == ("__debug__" : Str)) = false := by decide) (hcd : (x == ("__classdict__" : Str)) = false := by decide) : PE X (.Name x pos) (tVar i) := by
  intro pins s σ H Q I h
  obtain ⟨v, e, h⟩ := h
  obtain ⟨m, hn, hl⟩ := I.loc
  obtain ⟨u, r, l⟩ := hl i x v hN e hv
  have fin : EP X pins σ Q u s := ⟨v, H, I, r, h⟩
  rcases l with ⟨hk, hm⟩ | ⟨hk, c, hc, hcell⟩
  · exact wpAny_Name (wpAny_loadName_local I.ok.kind hk hn hm fin) hd
  · rcases hk with hk | hk
    · exact wpAny_Name (wpAny_loadName_cell I.ok.kind hk hc hcell fin) hd
    · exact wpAny_Name (wpAny_loadName_free I.ok.kind hk hc hcell fin hcd) hd
theorem pe_int {i j pos} : PE X (.Constant (.int i) j pos) (tC (.int i)) := fun _ _ _ H _ I h => wpAny_Constant_int ⟨.int i, H, I.tok _, ⟨_, rfl⟩, h⟩
theorem pe_bl {b j pos} : PE X (.Constant (.bool b) j pos) (tC (.bl b)) := fun _ _ _ H _ I h => Constant_bool ⟨.bl b, H, I, rfl, h⟩
theorem pe_non {j pos} : PE X (.Constant .none j pos) (tC .non) := fun _ _ _ H _ I h => Constant_none ⟨.non, H, I, rfl, h⟩
theorem pe_str {x j pos} : PE X (.Constant (.str x) j pos) (tC (.str x)) := fun _ _ _ H _ I h => Calls.Constant_str ⟨.str x, H, I.tok _, ⟨_, rfl⟩, h⟩

/-- a global name of the def -/
def Gl (X : Cx) (x : Str) : Prop := X.env.kindOf x = some .globalImplicit
theorem ld_glob {E : Value → Shared → Prop} {pins : List (Addr × Obj)} {s : Shared} {σ : St} {H : Hp} {x : Str} {u : Value} {pos : Pos} {Q : Value → Shared → Prop} (I : Inv X pins σ H s) (hg : Gl X x) (hm : X.mg x = some u) (h : Q u s)
    (hd : (x == ("__debug__" : Str)) = false := by decide) : wpAny (model X.prog X.w) X.A (eval (.Name x pos) X.env) Q E s :=
  Calls.Name_function_global I.ok.kind hg (Calls.loadGlobal_global (by rw [I.ok.glob]; exact I.mod.glob.keeps I.bk) hm h) hd
theorem ld_blt {E : Value → Shared → Prop} {pins : List (Addr × Obj)} {s : Shared} {σ : St} {H : Hp} {x : Str} {u : Value} {pos : Pos} {Q : Value → Shared → Prop} (I : Inv X pins σ H s) (hg : Gl X x) (hm : X.mg x = none) (hv : bootBuiltins x = some u) (h : Q u s)
    (hn : x ≠ "__name__" := by decide) (hd : (x == ("__debug__" : Str)) = false := by decide) : wpAny (model X.prog X.w) X.A (eval (.Name x pos) X.env) Q E s := by
  obtain ⟨mb, h1, h2⟩ := I.mod.blt
  exact Calls.Name_function_global I.ok.kind hg (Calls.loadGlobal_builtin (by rw [I.ok.glob]; exact I.mod.glob.keeps I.bk) hm (by rw [I.ok.blt]; exact h1.keeps I.bk) ((h2 x hn).trans hv) h) hd
/-- a module's constant, a class, a function, as a value -/
theorem pe_glob {x : Str} {v : V} {u : Value} {pos : Pos} (hg : Gl X x) (hm : X.mg x = some u) (r : RelV v u) (hd : (x == ("__debug__" : Str)) = false := by decide) : PE X (.Name x pos) (tC v) :=
  fun _ _ _ H _ I h => ld_glob I hg hm ⟨v, H, I, r, h⟩ hd
theorem pe_bltn {x : Str} {v : V} {u : Value} {pos : Pos} (hg : Gl X x) (hm : X.mg x = none) (hv : bootBuiltins x = some u) (r : RelV v u) (hn : x ≠ "__name__" := by decide) (hd : (x == ("__debug__" : Str)) = false := by decide) : PE X (.Name x pos) (tC v) :=
  fun _ _ _ H _ I h => ld_blt I hg hm hv ⟨v, H, I, r, h⟩ hn hd

/-! ### arithmetic -/
/-- two ints -/
def t2I (ta tb : TE) (k : Int → Int → Hp → Prop) : St → Hp → Prop := fun σ H => ta σ H fun x H1 => tb σ H1 fun y H2 => ∃ i j, x = .int i ∧ y = .int j ∧ k i j H2
def tAdd (ta tb : TE) : TE := fun σ H Q => t2I ta tb (fun i j H2 => Q (.int (i + j)) H2) σ H
def tSub (ta tb : TE) : TE := fun σ H Q => t2I ta tb (fun i j H2 => Q (.int (i - j)) H2) σ H
/-- the left factor below 2^64 -/
def tMul (ta tb : TE) : TE := fun σ H Q => t2I ta tb (fun i j H2 => (-(2 ^ 64) < i ∧ i < 2 ^ 64) ∧ Q (.int (i * j)) H2) σ H
variable {a b : Expr} {ta tb : TE} {pos : Pos}
theorem pe_add (ha : PE X a ta) (hb : PE X b tb) : PE X (.BinOp a .Add b pos) (tAdd ta tb) := by
  intro pins s σ H Q I h
  refine wpAny_BinOp (bin ha hb I h fun v u s2 x y H2 I2 rx ry q => ?_)
  obtain ⟨i, j, rfl, rfl, q⟩ := q
  obtain ⟨t, rfl⟩ := rx
  obtain ⟨t', rfl⟩ := ry
  exact add_int ⟨.int _, H2, I2.tok _, ⟨_, rfl⟩, q⟩
theorem pe_sub (ha : PE X a ta) (hb : PE X b tb) : PE X (.BinOp a .Sub b pos) (tSub ta tb) := by
  intro pins s σ H Q I h
  refine wpAny_BinOp (bin ha hb I h fun v u s2 x y H2 I2 rx ry q => ?_)
  obtain ⟨i, j, rfl, rfl, q⟩ := q
  obtain ⟨t, rfl⟩ := rx
  obtain ⟨t', rfl⟩ := ry
  exact sub_int ⟨.int _, H2, I2.tok _, ⟨_, rfl⟩, q⟩
theorem pe_mul (ha : PE X a ta) (hb : PE X b tb) : PE X (.BinOp a .Mult b pos) (tMul ta tb) := by
  intro pins s σ H Q I h
  refine wpAny_BinOp (bin ha hb I h fun v u s2 x y H2 I2 rx ry q => ?_)
  obtain ⟨i, j, rfl, rfl, ⟨q1, q2⟩, q⟩ := q
  obtain ⟨t, rfl⟩ := rx
  obtain ⟨t', rfl⟩ := ry
  exact mul_int ⟨.int _, H2, I2.tok _, ⟨_, rfl⟩, q⟩ (.of_left (intBits_le_64 q1 q2))

/-! ### comparisons -/
def PC (X : Cx) (op : CmpOp) (a b : Expr) (t : TE) : Prop :=
  ∀ (pins : List (Addr × Obj)) (s : Shared) (σ : St) (H : Hp) (Q : VK), Inv X pins σ H s → t σ H Q →
    wpAny (model X.prog X.w) X.A (eval a X.env) (fun v s₁ => wpAny (model X.prog X.w) X.A (eval b X.env) (fun u s₂ => wpAny (model X.prog X.w) X.A (compareOp op v u) (EP X pins σ Q) X.xe s₂) X.xe s₁) X.xe s
theorem nobehind (b : Expr) {op : CmpOp} (h : op ≠ .In) (h2 : op ≠ .NotIn) : behindInMarks op b = false := by
  have e1 : (op == CmpOp.In) = false := by cases op <;> first | rfl | exact absurd rfl h
  have e2 : (op == CmpOp.NotIn) = false := by cases op <;> first | rfl | exact absurd rfl h2
  cases b <;> simp [behindInMarks, e1, e2]
def tCmp (p : Int → Int → Bool) (ta tb : TE) : TE := fun σ H Q => t2I ta tb (fun i j H2 => Q (.bl (p i j)) H2) σ H
abbrev tLt : TE → TE → TE := tCmp fun i j => decide (i < j)
abbrev tLe : TE → TE → TE := tCmp fun i j => decide (i ≤ j)
abbrev tGt : TE → TE → TE := tCmp fun i j => decide (j < i)
abbrev tGe : TE → TE → TE := tCmp fun i j => decide (j ≤ i)
abbrev tEqI : TE → TE → TE := tCmp fun i j => decide (i = j)
abbrev tNeI : TE → TE → TE := tCmp fun i j => !decide (i = j)
/-- a comparison of two ints, by its rule -/
theorem pc_int {op : CmpOp} {p : Int → Int → Bool} (ha : PE X a ta) (hb : PE X b tb)
    (rule : ∀ (i j : Int) (t u : Tok) (Q : Value → Shared → Prop) (s : Shared), Q (.bool (p i j)) s → wpAny (model X.prog X.w) X.A (compareOp op (.int i t) (.int j u)) Q X.xe s) : PC X op a b (tCmp p ta tb) := by
  intro pins s σ H Q I h
  refine bin ha hb I h fun v u s2 x y H2 I2 rx ry q => ?_
  obtain ⟨i, j, rfl, rfl, q⟩ := q
  obtain ⟨t, rfl⟩ := rx
  obtain ⟨t', rfl⟩ := ry
  exact rule i j t t' _ s2 ⟨.bl _, H2, I2, rfl, q⟩
theorem pc_lt (ha : PE X a ta) (hb : PE X b tb) : PC X .Lt a b (tLt ta tb) := pc_int ha hb fun _ _ _ _ _ _ h => lt_int h
theorem pc_le (ha : PE X a ta) (hb : PE X b tb) : PC X .LtE a b (tLe ta tb) := pc_int ha hb fun _ _ _ _ _ _ h => le_int h
theorem pc_gt (ha : PE X a ta) (hb : PE X b tb) : PC X .Gt a b (tGt ta tb) := pc_int ha hb fun _ _ _ _ _ _ h => gt_int h
theorem pc_ge (ha : PE X a ta) (hb : PE X b tb) : PC X .GtE a b (tGe ta tb) := pc_int ha hb fun _ _ _ _ _ _ h => ge_int h
theorem pc_eqI (ha : PE X a ta) (hb : PE X b tb) : PC X .Eq a b (tEqI ta tb) := pc_int ha hb fun _ _ _ _ _ _ h => eq_int (by rw [Bool.beq_eq_decide_eq]; exact h)
theorem pc_neI (ha : PE X a ta) (hb : PE X b tb) : PC X .NotEq a b (tNeI ta tb) := pc_int ha hb fun _ _ _ _ _ _ h => ne_int (by rw [bne, Bool.beq_eq_decide_eq]; exact h)
/-- is None -/
def tIsN (ta : TE) : TE := fun σ H Q => ta σ H fun x H1 => Q (.bl (decide (x = .non))) H1
def tNotN (ta : TE) : TE := fun σ H Q => ta σ H fun x H1 => Q (.bl (!decide (x = .non))) H1
theorem RelV.none_iff {x : V} {v : Value} (r : RelV x v) : (v == Value.none) = decide (x = .non) := by
  cases x with
  | non => cases r; rfl
  | bl _ => cases r; rfl
  | int _ => obtain ⟨t, rfl⟩ := r; rfl
  | str _ => obtain ⟨t, rfl⟩ := r; rfl
  | byt _ => obtain ⟨t, rfl⟩ := r; rfl
  | flt _ => obtain ⟨t, rfl⟩ := r; rfl
  | ref _ => cases r; rfl
  | ty _ => cases r; rfl
theorem pc_isN {j pos'} (ha : PE X a ta) : PC X .Is a (.Constant .none j pos') (tIsN ta) := by
  intro pins s σ H Q I h
  refine thn (ha pins s σ H _ I h) fun v s1 ⟨x, H1, I1, r1, q1⟩ => ?_
  exact Constant_none (is_none_gen ⟨.bl _, H1, I1, by rw [r1.none_iff]; rfl, q1⟩)
theorem pc_notN {j pos'} (ha : PE X a ta) : PC X .IsNot a (.Constant .none j pos') (tNotN ta) := by
  intro pins s σ H Q I h
  refine thn (ha pins s σ H _ I h) fun v s1 ⟨x, H1, I1, r1, q1⟩ => ?_
  exact Constant_none (isnot_none_gen ⟨.bl _, H1, I1, by rw [r1.none_iff]; rfl, q1⟩)
/-- a comparison as a value, as a test -/
def tB (t : TE) : TT := fun σ H Q => t σ H fun x H1 => ∃ c, x = .bl c ∧ Q c H1
theorem pe_cmp {op : CmpOp} {t : TE} (h : PC X op a b t) (h1 : behindInMarks op b = false := by first | exact nobehind _ (by decide) (by decide) | rfl) : PE X (.Compare a [op] [b] pos) t := fun pins s σ H Q I hw => wpAny_Compare1 (h pins s σ H Q I hw) h1
theorem pt_cmp {op : CmpOp} {t : TE} (h : PC X op a b t) (h1 : behindInMarks op b = false := by first | exact nobehind _ (by decide) (by decide) | rfl) : PT X (.Compare a [op] [b] pos) (tB t) := by
  intro pins s σ H Q I hw
  refine wpAny_isTrue_Compare1 (thn (h pins s σ H _ I hw) fun v s1 h1 => thn h1 fun u s2 h2 => thn h2 fun c s3 ⟨x, H1, I1, r1, q1⟩ => ?_) h1
  obtain ⟨d, rfl, q⟩ := q1
  cases r1
  exact wpAny_truthy_bool ⟨H1, I1, q⟩
/-- an expression whose value is a bool, as a test -/
theorem pt_val {e : Expr} {t : TE} (h : PE X e t) (he : ∀ whole, isTrue e X.env whole = (do let v ← whole; standAt e.pos; holding [v] (truthy v)) := by intro _; rfl) : PT X e (tB t) := by
  intro pins s σ H Q I hw
  refine isTrue_plain (thn (h pins s σ H _ I hw) fun v s1 ⟨x, H1, I1, r1, q1⟩ => ?_) (he _)
  obtain ⟨d, rfl, q⟩ := q1
  cases r1
  exact wpAny_truthy_bool ⟨H1, I1, q⟩

/-! ### and, or, not -/
variable {tA tB' : TT} {rest : List Expr}
def tAnd (t u : TT) : TT := fun σ H Q => t σ H fun c H1 => if c = true then u σ H1 Q else Q false H1
def tOr (t u : TT) : TT := fun σ H Q => t σ H fun c H1 => if c = true then Q true H1 else u σ H1 Q
def tNot (t : TT) : TT := fun σ H Q => t σ H fun c H1 => Q (!c) H1
theorem pw_and1 (ha : PT X a tA) : PW X (.BoolOp .And [a] pos) tA := by
  intro wh pins s σ H Q I h
  refine isTrue_and (thn (ha pins s σ H Q I h) fun c s1 e => ?_)
  cases c with
  | true => exact isTrue_and_nil e
  | false => exact e
theorem pw_or1 (ha : PT X a tA) : PW X (.BoolOp .Or [a] pos) tA := by
  intro wh pins s σ H Q I h
  refine isTrue_or (thn (ha pins s σ H Q I h) fun c s1 e => ?_)
  cases c with
  | false => exact isTrue_or_nil e
  | true => exact e
theorem pw_and (ha : PT X a tA) (hb : PW X (.BoolOp .And (b :: rest) pos) tB') : PW X (.BoolOp .And (a :: b :: rest) pos) (tAnd tA tB') := by
  intro wh pins s σ H Q I h
  refine isTrue_and (thn (ha pins s σ H _ I h) fun c s1 ⟨H1, I1, q1⟩ => ?_)
  cases c with
  | true => exact hb wh pins s1 σ H1 Q I1 q1
  | false => exact ⟨H1, I1, q1⟩
theorem pw_or (ha : PT X a tA) (hb : PW X (.BoolOp .Or (b :: rest) pos) tB') : PW X (.BoolOp .Or (a :: b :: rest) pos) (tOr tA tB') := by
  intro wh pins s σ H Q I h
  refine isTrue_or (thn (ha pins s σ H _ I h) fun c s1 ⟨H1, I1, q1⟩ => ?_)
  cases c with
  | true => exact ⟨H1, I1, q1⟩
  | false => exact hb wh pins s1 σ H1 Q I1 q1
theorem pt_not (ha : PT X a tA) : PT X (.UnaryOp .Not a pos) (tNot tA) := by
  intro pins s σ H Q I h
  exact isTrue_not (ha pins s σ H (fun c H1 => Q (!c) H1) I h)
/-- .. as values (bools) -/
def tAndV (ta tb : TE) : TE := fun σ H Q => ta σ H fun x H1 => ∃ c, x = .bl c ∧ if c = true then tb σ H1 Q else Q (.bl false) H1
def tOrV (ta tb : TE) : TE := fun σ H Q => ta σ H fun x H1 => ∃ c, x = .bl c ∧ if c = true then Q (.bl true) H1 else tb σ H1 Q
def tNotV (ta : TE) : TE := fun σ H Q => ta σ H fun x H1 => ∃ c, x = .bl c ∧ Q (.bl (!c)) H1
theorem pe_one {op} {t : TE} (h : PE X a t) : PE X (.BoolOp op [a] pos) t := fun pins s σ H Q I hw => BoolOp_one (h pins s σ H Q I hw)
theorem pe_and (ha : PE X a ta) (hb : PE X (.BoolOp .And (b :: rest) pos) tb) : PE X (.BoolOp .And (a :: b :: rest) pos) (tAndV ta tb) := by
  intro pins s σ H Q I h
  refine BoolOp_and (thn (ha pins s σ H _ I h) fun v s1 ⟨x, H1, I1, r1, q1⟩ => ?_)
  obtain ⟨c, rfl, q1⟩ := q1
  cases r1
  refine wpAny_truthy_bool ?_
  cases c with
  | true => exact hb pins s1 σ H1 Q I1 q1
  | false => exact ⟨.bl false, H1, I1, rfl, q1⟩
theorem pe_or (ha : PE X a ta) (hb : PE X (.BoolOp .Or (b :: rest) pos) tb) : PE X (.BoolOp .Or (a :: b :: rest) pos) (tOrV ta tb) := by
  intro pins s σ H Q I h
  refine BoolOp_or (thn (ha pins s σ H _ I h) fun v s1 ⟨x, H1, I1, r1, q1⟩ => ?_)
  obtain ⟨c, rfl, q1⟩ := q1
  cases r1
  refine wpAny_truthy_bool ?_
  cases c with
  | false => exact hb pins s1 σ H1 Q I1 q1
  | true => exact ⟨.bl true, H1, I1, rfl, q1⟩
theorem pe_not (ha : PE X a ta) : PE X (.UnaryOp .Not a pos) (tNotV ta) := by
  intro pins s σ H Q I h
  refine UnaryOp_ (thn (ha pins s σ H _ I h) fun v s1 ⟨x, H1, I1, r1, q1⟩ => ?_)
  obtain ⟨c, rfl, q1⟩ := q1
  cases r1
  exact not_of (wpAny_truthy_bool ⟨.bl (!c), H1, I1, rfl, q1⟩)
/-- a if t else b -/
def tIf (t : TT) (ta tb : TE) : TE := fun σ H Q => t σ H fun c H1 => if c = true then ta σ H1 Q else tb σ H1 Q
theorem pe_ifExp {c : Expr} (hc : PT X c tA) (ha : PE X a ta) (hb : PE X b tb) : PE X (.IfExp c a b pos) (tIf tA ta tb) := by
  intro pins s σ H Q I h
  refine wpAny_IfExp (thn (hc pins s σ H _ I h) fun d s1 ⟨H1, I1, q1⟩ => ?_)
  cases d with
  | true => exact ha pins s1 σ H1 Q I1 q1
  | false => exact hb pins s1 σ H1 Q I1 q1
end
end L2

namespace L2
open PySem PySem.Spec PyProof.Rows

/-! ### a list, a tuple that is read: tracked, frozen, or an object of the module -/
def SqL (K : PySem.W.Frag) (H : Hp) (a : Addr) (xs : List V) : Prop :=
  Rd H a (.lst xs) ∨
    ∃ (o : Obj) (its : Array Value) (n : Nat), K.lookup a = some o ∧ o.cls = .type "list" ∧ o.dict = none ∧ o.data = .seq its n ∧ its.size ≤ sizeLine ∧ Vals xs its.toList
def SqT (K : PySem.W.Frag) (H : Hp) (a : Addr) (xs : List V) : Prop :=
  Rd H a (.tup xs) ∨
    ∃ (o : Obj) (its : Array Value) (n : Nat), K.lookup a = some o ∧ o.cls = .type "tuple" ∧ o.data = .seq its n ∧ its.size ≤ sizeLine ∧ Vals xs its.toList
def absV : Value → Option V
  | .none => some .non
  | .bool b => some (.bl b)
  | .int i _ => some (.int i)
  | .str x _ => some (.str x)
  | .bytes b _ => some (.byt b)
  | .float b _ => some (.flt b)
  | .ref a => some (.ref a)
  | .type n => some (.ty n)
  | _ => none
theorem RelV.abs {x : V} {u : Value} (r : RelV x u) : absV u = some x := by
  cases x with
  | non => cases r; rfl
  | bl _ => cases r; rfl
  | int _ => obtain ⟨t, rfl⟩ := r; rfl
  | str _ => obtain ⟨t, rfl⟩ := r; rfl
  | byt _ => obtain ⟨t, rfl⟩ := r; rfl
  | flt _ => obtain ⟨t, rfl⟩ := r; rfl
  | ref _ => cases r; rfl
  | ty _ => cases r; rfl
theorem RelV.inj {x y : V} {u : Value} (r : RelV x u) (q : RelV y u) : x = y := Option.some.inj (r.abs.symm.trans q.abs)
theorem Vals.inj : ∀ {xs ys : List V} {us : List Value}, Vals xs us → Vals ys us → xs = ys
  | _, _, _, .nil, .nil => rfl
  | _, _, _, .cons r t, .cons r' t' => by rw [r.inj r', Vals.inj t t']
section
variable {X : Cx} {pins : List (Addr × Obj)} {σ : St} {H : Hp} {s : Shared} {a : Addr} {xs ys : List V}
theorem SqL.of {K : PySem.W.Frag} (h : H a = some (.lst xs)) : SqL K H a xs := .inl (.inl h)
theorem SqT.of {K : PySem.W.Frag} (h : H a = some (.tup xs)) : SqT K H a xs := .inl (.inl h)
theorem Inv.list (I : Inv X pins σ H s) (h : SqL X.K H a xs) : ∃ its : List Value, Vals xs its ∧ PlainL s.heap a its.toArray ∧ xs.length ≤ sizeLine := by
  rcases h with h | ⟨o, its, n, hk, hc, hd, hs, hz, r⟩
  · obtain ⟨z, its, n, r, e⟩ := h.ok I.hok
    exact ⟨its, r, ⟨_, n, e, rfl, rfl, rfl⟩, z⟩
  · refine ⟨its.toList, r, ⟨o, n, I.kIn a o hk, hc, hd, by simpa using hs⟩, ?_⟩
    have e := r.length
    simp only [Array.length_toList] at e
    omega
theorem Inv.tuple (I : Inv X pins σ H s) (h : SqT X.K H a xs) : ∃ its : List Value, Vals xs its ∧ IsTup s.heap a its.toArray ∧ xs.length ≤ sizeLine := by
  rcases h with h | ⟨o, its, n, hk, hc, hs, hz, r⟩
  · obtain ⟨z, its, r, p⟩ := h.ok I.hok
    exact ⟨its, r, p, z⟩
  · refine ⟨its.toList, r, ⟨o, I.kIn a o hk, hc, n, by simpa using hs⟩, ?_⟩
    have e := r.length
    simp only [Array.length_toList] at e
    omega
theorem Inv.list_inj (I : Inv X pins σ H s) (h : SqL X.K H a xs) (h' : SqL X.K H a ys) : xs = ys := by
  obtain ⟨its, r, ⟨o, n, e, _, _, d⟩, _⟩ := I.list h
  obtain ⟨its', r', ⟨o', n', e', _, _, d'⟩, _⟩ := I.list h'
  rw [e] at e'; cases e'
  rw [d] at d'
  injection d' with d1 _
  have : its = its' := by simpa using congrArg Array.toList d1
  subst this
  exact r.inj r'
theorem Inv.tuple_inj (I : Inv X pins σ H s) (h : SqT X.K H a xs) (h' : SqT X.K H a ys) : xs = ys := by
  obtain ⟨its, r, ⟨o, e, _, n, d⟩, _⟩ := I.tuple h
  obtain ⟨its', r', ⟨o', e', _, n', d'⟩, _⟩ := I.tuple h'
  rw [e] at e'; cases e'
  rw [d] at d'
  injection d' with d1 _
  have : its = its' := by simpa using congrArg Array.toList d1
  subst this
  exact r.inj r'
end

/-! ### another wish about exceptions -/
abbrev Cx.wish (X : Cx) (E : Value → Shared → Prop) : Cx := { X with xe := E }
/-- no exception leaves -/
abbrev Cx.nox (X : Cx) : Cx := X.wish fun _ _ => False
theorem Cx.Ok.wish {X : Cx} (ok : X.Ok) (E : Value → Shared → Prop) : (X.wish E).Ok :=
  ⟨ok.mod, ok.kind, ok.glob, ok.blt, ok.above, ok.inj, ok.has, ok.cab, ok.hd, ok.frames, ok.stk, ok.exf, ok.bs, ok.bsz, ok.noex, ok.exfs, ok.funs, ok.frf⟩
theorem Cx.Ok.unwish {X : Cx} {E : Value → Shared → Prop} (ok : (X.wish E).Ok) : X.Ok :=
  ⟨ok.mod, ok.kind, ok.glob, ok.blt, ok.above, ok.inj, ok.has, ok.cab, ok.hd, ok.frames, ok.stk, ok.exf, ok.bs, ok.bsz, ok.noex, ok.exfs, ok.funs, ok.frf⟩
section
variable {X : Cx} {pins : List (Addr × Obj)} {σ : St} {H : Hp} {s : Shared} {E : Value → Shared → Prop}
theorem Inv.wish (I : Inv X pins σ H s) (E : Value → Shared → Prop) : Inv (X.wish E) pins σ H s := ⟨I.ok.wish E, I.os, I.bare, I.base, I.loc, I.cell, I.free, I.freeC, I.pin, I.hok, I.len⟩
theorem Inv.unwish (I : Inv (X.wish E) pins σ H s) : Inv X pins σ H s := ⟨I.ok.unwish, I.os, I.bare, I.base, I.loc, I.cell, I.free, I.freeC, I.pin, I.hok, I.len⟩
theorem SP.unwish {D : Ends} {f : Flow} {s' : Shared} (h : SP (X.wish E) pins D f s') : SP X pins D f s' := by
  cases f with
  | next => obtain ⟨σ', H', I, q⟩ := h; exact ⟨σ', H', I.unwish, q⟩
  | brk => obtain ⟨σ', H', I, q⟩ := h; exact ⟨σ', H', I.unwish, q⟩
  | cont => obtain ⟨σ', H', I, q⟩ := h; exact ⟨σ', H', I.unwish, q⟩
  | ret u => obtain ⟨v, σ', H', I, r, q⟩ := h; exact ⟨v, σ', H', I.unwish, r, q⟩
theorem PE.nox {e : Expr} {t : TE} (h : PE X.nox e t) : PE X e t := fun pins s σ H Q I hw =>
  wpAny_mono (h pins s σ H Q (I.wish _) hw) (fun _ _ ⟨v, H', I', r, q⟩ => ⟨v, H', I'.unwish, r, q⟩) fun _ _ z => False.elim z
theorem PT.nox {e : Expr} {t : TT} (h : PT X.nox e t) : PT X e t := fun pins s σ H Q I hw =>
  wpAny_mono (h pins s σ H Q (I.wish _) hw) (fun _ _ ⟨H', I', q⟩ => ⟨H', I'.unwish, q⟩) fun _ _ z => False.elim z
theorem PSs.nox {st : List Stmt} {t : TS} (h : PSs X.nox st t) : PSs X st t := fun pins s σ H D I hw =>
  wpAny_mono (h pins s σ H D (I.wish _) hw) (fun _ _ q => q.unwish) fun _ _ z => False.elim z
end

/-! ### blocks and small statements -/
section
variable {X : Cx} {st : Stmt} {rest : List Stmt} {t u : TS} {e : Expr} {te : TE} {pos : Pos}
def tNext : TS := fun D σ H => D.nx σ H
def tSeq (t u : TS) : TS := fun D σ H => t { D with nx := u D } σ H
theorem pss_nil : PSs X [] tNext := fun _ _ σ H _ I h => wpAny_execs_nil ⟨σ, H, I, h⟩
theorem pss_cons (h1 : PS X st t) (h2 : PSs X rest u) : PSs X (st :: rest) (tSeq t u) := by
  intro pins s σ H D I h
  refine wpAny_execs_cons (thn (h1 pins s σ H { D with nx := u D } I h) fun f s1 q => ?_)
  cases f with
  | next =>
    obtain ⟨σ', H', I', q⟩ := q
    exact h2 pins s1 σ' H' D I' q
  | ret v => exact q
  | brk => exact q
  | cont => exact q
theorem pss_one (h1 : PS X st t) : PSs X [st] t := by
  intro pins s σ H D I h
  refine wpAny_execs_cons (thn (h1 pins s σ H D I h) fun f s1 q => ?_)
  cases f with
  | next => exact wpAny_execs_nil q
  | ret v => exact q
  | brk => exact q
  | cont => exact q
def tBreak : TS := fun D σ H => D.bk σ H
def tCont : TS := fun D σ H => D.ct σ H
theorem ps_pass : PS X (.Pass pos) tNext := fun _ _ σ H _ I h => wpAny_Pass ⟨σ, H, I, h⟩
theorem ps_break : PS X (.Break pos) tBreak := fun _ _ σ H _ I h => wpAny_Break ⟨σ, H, I, h⟩
theorem ps_continue : PS X (.Continue pos) tCont := fun _ _ σ H _ I h => wpAny_Continue ⟨σ, H, I, h⟩
/-- in a def's body nothing is shown -/
theorem Inv.quiet {pins : List (Addr × Obj)} {σ : St} {H : Hp} {s : Shared} (I : Inv X pins σ H s) : interactive X.env = false := by simp [interactive, I.ok.kind]
/-- a docstring -/
theorem ps_doc {x j pos pos'} : PS X (.Expr (.Constant (.str x) j pos) pos') tNext := fun _ s σ H _ I h => wpAny_Expr (Calls.Constant_str (show SP X _ _ .next { s with toks := s.toks + 1 } from ⟨σ, H, I.tok _, h⟩)) I.quiet
/-- an expression whose value is dropped -/
def tDrop (te : TE) : TS := fun D σ H => te σ H fun _ H1 => D.nx σ H1
theorem ps_expr (he : PE X e te) (hs : swapsWith e none pos.line X.env = pure false := by rfl) : PS X (.Expr e pos) (tDrop te) := by
  intro pins s σ H D I h
  exact wpAny_Expr_any (thn (he pins s σ H _ I h) fun v s1 ⟨x, H1, I1, r1, q1⟩ => ⟨σ, H1, I1, q1⟩) I.quiet hs
def tRet (te : TE) : TS := fun D σ H => te σ H D.rt
theorem ps_ret (he : PE X e te) : PS X (.Return (some e) pos) (tRet te) := by
  intro pins s σ H D I h
  exact wpAny_Return_some (thn (he pins s σ H _ I h) fun v s1 ⟨x, H1, I1, r1, q1⟩ => ⟨x, σ, H1, I1, r1, q1⟩)
def tRetN : TS := fun D _ H => D.rt .non H
theorem ps_retN : PS X (.Return none pos) tRetN := fun _ _ σ H _ I h => wpAny_Return_none ⟨.non, σ, H, I, rfl, h⟩
def tIfS (c : TT) (t u : TS) : TS := fun D σ H => c σ H fun b H1 => if b = true then t D σ H1 else u D σ H1
theorem ps_if {c : Expr} {a b : List Stmt} {tc : TT} (hc : PT X c tc) (ha : PSs X a t) (hb : PSs X b u) : PS X (.If c a b pos) (tIfS tc t u) := by
  intro pins s σ H D I h
  refine wpAny_If (thn (hc pins s σ H _ I h) fun d s1 ⟨H1, I1, q1⟩ => ?_)
  cases d with
  | true => exact ha pins s1 σ H1 D I1 q1
  | false => exact hb pins s1 σ H1 D I1 q1
/-- code that the proof never comes to -/
def tNever : TS := fun _ _ _ => False
theorem ps_never : PS X st tNever := fun _ _ _ _ _ _ h => h.elim
theorem pss_never {sts : List Stmt} : PSs X sts tNever := fun _ _ _ _ _ _ h => h.elim
end

/-! ### targets -/
abbrev TG := V → St → Hp → (St → Hp → Prop) → Prop
abbrev TGs := List V → St → Hp → (St → Hp → Prop) → Prop
def PG (X : Cx) (target : Expr) (t : TG) : Prop :=
  ∀ (pins : List (Addr × Obj)) (s : Shared) (σ : St) (H : Hp) (v : V) (u : Value) (Q : St → Hp → Prop), Inv X pins σ H s → RelV v u → t v σ H Q →
    wpAny (model X.prog X.w) X.A (assign target X.env u) (fun _ s' => ∃ σ' H', Inv X pins σ' H' s' ∧ Q σ' H') X.xe s
/-- several targets, one after another -/
def PGs (X : Cx) (ts : List Expr) (t : TGs) : Prop :=
  ∀ (pins : List (Addr × Obj)) (s : Shared) (σ : St) (H : Hp) (vs : List V) (us : List Value) (Q : St → Hp → Prop), Inv X pins σ H s → Vals vs us → t vs σ H Q →
    wpAny (model X.prog X.w) X.A (assignInOrder ((assignEach ts X.env).map (·.2)) us) (fun _ s' => ∃ σ' H', Inv X pins σ' H' s' ∧ Q σ' H') X.xe s
/-- o[i] = v, by values -/
abbrev TSet := V → V → V → Hp → (Hp → Prop) → Prop
def PSet (X : Cx) (t : TSet) : Prop :=
  ∀ (pins : List (Addr × Obj)) (s : Shared) (σ : St) (H : Hp) (o i v : V) (ov iv u : Value) (Q : Hp → Prop), Inv X pins σ H s → RelV o ov → RelV i iv → RelV v u → t o i v H Q →
    wpAny (model X.prog X.w) X.A (setItem ov iv u) (fun _ s' => ∃ H', Inv X pins σ H' s' ∧ Q H') X.xe s
/-- a op= b, by values -/
abbrev TIp := V → V → Hp → VK → Prop
def PIp (X : Cx) (op : Operator) (t : TIp) : Prop :=
  ∀ (pins : List (Addr × Obj)) (s : Shared) (σ : St) (H : Hp) (x y : V) (v u : Value) (Q : VK), Inv X pins σ H s → RelV x v → RelV y u → t x y H Q →
    wpAny (model X.prog X.w) X.A (inplaceOp op v u) (EP X pins σ Q) X.xe s
section
variable {X : Cx} {pos : Pos}
def gName (i : Nat) : TG := fun v σ H Q => Q (σ.set i (some v)) H
theorem pg_name {i : Nat} {x : Str} (hN : X.N.Nodup) (hi : X.N[i]? = some x) (hx : Loc X.env.scope x) (hf : X.fn x = true ∨ X.env.scope.names.lookup x = some .local := by first | exact .inl rfl | exact .inr rfl | assumption) : PG X (.Name x pos) (gName i) := by
  intro pins s σ H v u Q I r h
  exact wpAny_assign_Name (store_ok I hN hi hx r (fun s' I' => ⟨_, H, I', h⟩) hf)
def gNil : TGs := fun vs σ H Q => vs = [] ∧ Q σ H
def gCons (t : TG) (u : TGs) : TGs := fun vs σ H Q => ∃ v r, vs = v :: r ∧ t v σ H fun σ' H' => u r σ' H' Q
theorem pgs_nil : PGs X [] gNil := by
  intro pins s σ H vs us Q I r h
  obtain ⟨e, h⟩ := h
  subst e
  cases r
  exact assignInOrder_nil ⟨σ, H, I, h⟩
theorem pgs_cons {e : Expr} {es : List Expr} {t : TG} {u : TGs} (h1 : PG X e t) (h2 : PGs X es u)
    (hs : (assignEach (e :: es) X.env).map (·.2) = assign e X.env :: (assignEach es X.env).map (·.2) := by rfl) : PGs X (e :: es) (gCons t u) := by
  intro pins s σ H vs us Q I r h
  obtain ⟨v, vr, e1, h⟩ := h
  subst e1
  cases r with
  | cons r rr =>
    rw [hs]
    refine assignInOrder_cons (thn (h1 pins s σ H _ _ _ I r h) fun _ s1 ⟨σ1, H1, I1, q1⟩ => ?_)
    exact h2 pins s1 σ1 H1 _ _ Q I1 rr q1
/-- (a, b, ..) = a tuple of that length -/
def gTup (K : PySem.W.Frag) (n : Nat) (t : TGs) : TG := fun v σ H Q => ∃ a xs, v = .ref a ∧ SqT K H a xs ∧ xs.length = n ∧ t xs σ H Q
theorem pg_tup {es : List Expr} {k : Nat} {t : TGs} {n : Nat} (hc : X.calm = true) (h : PGs X es t)
    (hn : (assignEach es X.env).length = n := by rfl) (hst : (assignEach es X.env).findIdx? (·.1) = none := by rfl) : PG X (.Tuple es k pos) (gTup X.K n t) := by
  intro pins s σ H v u Q I r hw
  obtain ⟨a, xs, e1, hq, hl, hw⟩ := hw
  subst e1
  cases r
  obtain ⟨its, rv, ht, hz⟩ := I.tuple hq
  refine assign_Tuple_tuple (I.ok.hd hc) ht (by simp [hn, ← hl, rv.length]) hst fun h' hx => ?_
  have I1 : Inv X pins σ H { s with heap := h' } := I.kept (t' := s.toks) fun b o e => hx b o (Nat.ne_of_lt (Heap.lt_size e)) e
  exact h pins _ σ H xs _ Q I1 (by simpa using rv) hw
/-- o[i] = .. -/
def gSub (to ti : TE) (t : TSet) : TG := fun v σ H Q => to σ H fun o H1 => ti σ H1 fun i H2 => t o i v H2 fun H3 => Q σ H3
theorem pg_sub {o i : Expr} {to ti : TE} {t : TSet} (ho : PE X o to) (hi : PE X i ti) (hs : PSet X t)
    (ha : ∀ v, assign (.Subscript o i pos) X.env v = (do
      let ov ← holding [v] (eval o X.env)
      let iv ← holding [v, ov] (eval i X.env)
      standAt pos
      holding [v, ov, iv] (setItem ov iv v)
      release [v, ov, iv] []) := by intro _; rfl) : PG X (.Subscript o i pos) (gSub to ti t) := by
  intro pins s σ H v u Q I r h
  rw [ha]
  refine wpAny_bind (wpAny_holding (thn (ho pins s σ H _ I h) fun ov s1 ⟨x, H1, I1, r1, q1⟩ => ?_))
  refine wpAny_bind (wpAny_holding (thn (hi pins s1 σ H1 _ I1 q1) fun iv s2 ⟨y, H2, I2, r2, q2⟩ => ?_))
  refine wpAny_bind (wpAny_standAt (wpAny_bind (wpAny_holding (thn (hs pins s2 σ H2 x y v ov iv u _ I2 r1 r2 r q2) fun _ s3 ⟨H3, I3, q3⟩ => ?_))))
  exact wpAny_release ⟨σ, H3, I3, q3⟩
/-- target = value -/
def tAsg (te : TE) (g : TG) : TS := fun D σ H => te σ H fun x H1 => g x σ H1 D.nx
theorem ps_asg {tg e : Expr} {te : TE} {g : TG} (he : PE X e te) (hg : PG X tg g) (hs : swapsWithSole [tg] e pos.line X.env = pure false := by rfl) (hw : swappedStores [tg] e X.env = pure none := by rfl)
    (h1 : (assignEach [tg] X.env).map (·.2) = [assign tg X.env] := by rfl) : PS X (.Assign [tg] e pos) (tAsg te g) := by
  intro pins s σ H D I h
  refine wpAny_Assign_stores (thn (he pins s σ H _ I h) fun v s1 ⟨x, H1, I1, r1, q1⟩ => ?_) hs hw
  rw [h1]
  exact thn (hg pins s1 σ H1 x v _ I1 r1 q1) fun _ s2 q => q
/-- name = value -/
theorem ps_set {i : Nat} {x : Str} {e : Expr} {te : TE} {pos' : Pos} (hN : X.N.Nodup) (hi : X.N[i]? = some x) (hx : Loc X.env.scope x) (he : PE X e te) (hs : swapsWith e (some (.Name x pos')) pos.line X.env = pure false := by rfl) (hf : X.fn x = true ∨ X.env.scope.names.lookup x = some .local := by first | exact .inl rfl | exact .inr rfl | assumption) :
    PS X (.Assign [.Name x pos'] e pos) (tAsg te (gName i)) := by
  intro pins s σ H D I h
  refine wpAny_Assign_Name (thn (he pins s σ H _ I h) fun v s1 ⟨y, H1, I1, r1, q1⟩ => ?_) hs
  exact store_ok I1 hN hi hx r1 (fun s2 I2 => ⟨_, H1, I2, q1⟩) hf
/-- a, b = x, y with plain local names: stored from the right; the pair itself is not tracked (the opening rows as in PyProof/Rows/TupAssign.lean:23) -/
def tPar (i j : Nat) (ta : TA) : TS := fun D σ H => ta σ H fun vs H1 => ∃ v w, vs = [v, w] ∧ D.nx ((σ.set i (some v)).set j (some w)) H1
theorem ps_par {i j : Nat} {x y : Str} {a b : Expr} {ta : TA} {px py pt : Pos} {kt k2 pt2} (hc : X.calm = true) (hN : X.N.Nodup) (hi : X.N[i]? = some x) (hj : X.N[j]? = some y) (hij : i ≠ j)
    (hx : X.env.scope.names.lookup x = some .local) (hy : X.env.scope.names.lookup y = some .local) (ha : PA X [a, b] ta)
    (hw : swappedStores [.Tuple [.Name x px, .Name y py] kt pt] (.Tuple [a, b] k2 pt2) X.env = pure (some [x, y]))
    (hs : swapsWithSole [.Tuple [.Name x px, .Name y py] kt pt] (.Tuple [a, b] k2 pt2) pos.line X.env = pure false := by rfl) :
    PS X (.Assign [.Tuple [.Name x px, .Name y py] kt pt] (.Tuple [a, b] k2 pt2) pos) (tPar i j ta) := by
  intro pins s σ H D I h
  rw [exec_Assign_arm]
  refine wpAny_bind (wpAny_standAt ?_)
  rw [hs]
  refine wpAny_bind (wpAny_pure ?_)
  rw [if_neg (by decide)]
  refine wpAny_bind (Tuple_ (thn (ha _ pins s σ H _ I h) fun us s1 ⟨vs, H1, I1, r1, q1⟩ => ?_))
  obtain ⟨v, w, e1, q1⟩ := q1
  subst e1
  obtain ⟨u1, u2, rfl, rv, rw'⟩ : ∃ u1 u2, us = [u1, u2] ∧ RelV v u1 ∧ RelV w u2 := by
    cases r1 with
    | cons p q =>
      cases q with
      | cons p' q' =>
        cases q'
        exact ⟨_, _, rfl, p, p'⟩
  refine wpAny_newObj_type ?_ (by show 2 ≤ sizeLine; decide)
  have I2 : Inv X pins σ H1 { s1 with heap := s1.heap.push { cls := .type "tuple", data := .seq [u1, u2].toArray } } := I1.kept (t' := s1.toks) fun b o e => Heap.get?_push_of_some _ e
  rw [hw]
  refine wpAny_bind (wpAny_pure ?_)
  show wpAny (model X.prog X.w) X.A (do rule "assign.swapped-stores"; let items ← unpackItems (.ref s1.heap.objs.size) 2 none; assignInOrder [fun v => bindName X.env y v, fun v => bindName X.env x v] items.reverse; pure Flow.next) _ _ _
  refine wpAny_bind (wpAny_rule (wpAny_bind (unpackItems_tuple (items := #[u1, u2]) (I.ok.hd hc) (IsTup.new s1.heap _) fun h' hx' => ?_)))
  have I3 := I2.kept (h' := h') (t' := s1.toks) fun b o e => hx' b o (Nat.ne_of_lt (Heap.lt_size e)) e
  show wpAny _ _ (assignInOrder [fun v => bindName X.env y v, fun v => bindName X.env x v] [u2, u1] >>= fun _ => pure Flow.next) _ _ _
  refine wpAny_bind (assignInOrder_cons (wpAny_bindName (store_ok I3 hN hj (.inl hy) rw' (fun s2 I4 => ?_) (.inr hy))))
  refine assignInOrder_cons (wpAny_bindName (store_ok I4 hN hi (.inl hx) rv (fun s3 I5 => assignInOrder_nil (wpAny_pure ?_)) (.inr hx)))
  rw [List.set_comm _ _ (Ne.symm hij)] at I5
  exact ⟨_, H1, I5, q1⟩
/-- name op= e -/
def tAug (i : Nat) (te : TE) (ti : TIp) : TS := fun D σ H => ∃ x, σ[i]? = some (some x) ∧ te σ H fun y H1 => ti x y H1 fun z H2 => D.nx (σ.set i (some z)) H2
theorem ps_aug {i : Nat} {x : Str} {e : Expr} {te : TE} {op : Operator} {ti : TIp} {pos' : Pos} (hN : X.N.Nodup) (hi : X.N[i]? = some x) (hx : Loc X.env.scope x) (he : PE X e te) (ho : PIp X op ti) (hf : X.fn x = true ∨ X.env.scope.names.lookup x = some .local := by first | exact .inl rfl | exact .inr rfl | assumption) :
    PS X (.AugAssign (.Name x pos') op e pos) (tAug i te ti) := by
  intro pins s σ H D I h
  obtain ⟨v, e1, h⟩ := h
  obtain ⟨m, hn, hl⟩ := I.loc
  have vis : Vis X.env.scope x := by rcases hx with k | k; exact .inl k; exact .inr (.inl k)
  obtain ⟨u, r, l⟩ := hl i x v hi e1 vis
  refine wpAny_AugAssign_Name ?_
  have go : wpAny (model X.prog X.w) X.A (eval e X.env) (fun w s₂ => wpAny (model X.prog X.w) X.A (inplaceOp op u w) (fun r s₃ => wpAny (model X.prog X.w) X.A (storeName X.env x r) (fun _ => SP X pins D .next) X.xe s₃) X.xe s₂) X.xe s := by
    refine thn (he pins s σ H _ I h) fun w s1 ⟨y, H1, I1, r1, q1⟩ => ?_
    refine thn (ho pins s1 σ H1 v y u w _ I1 r r1 q1) fun z s2 ⟨zv, H2, I2, r2, q2⟩ => ?_
    exact store_ok I2 hN hi hx r2 (fun s3 I3 => ⟨_, H2, I3, q2⟩) hf
  rcases l with ⟨hk, hm⟩ | ⟨hk, c, hc, hcell⟩
  · exact wpAny_loadName_local I.ok.kind hk hn hm go
  · rcases hk with hk | hk
    · exact wpAny_loadName_cell I.ok.kind hk hc hcell go
    · rcases hx with k | k
      · have : X.env.scope.names.lookup x = some .free := hk
        rw [k] at this; cases this
      · have : X.env.scope.names.lookup x = some .free := hk
        rw [k] at this; cases this
/-- o[i] op= e -/
def tAugS (to ti te : TE) (tget : V → V → Hp → VK → Prop) (tip : TIp) (tset : TSet) : TS := fun D σ H => to σ H fun o H1 => ti σ H1 fun i H2 => tget o i H2 fun x H3 => te σ H3 fun y H4 => tip x y H4 fun z H5 => tset o i z H5 fun H6 => D.nx σ H6
/-- o[i], by values -/
def PGet (X : Cx) (t : V → V → Hp → VK → Prop) : Prop :=
  ∀ (pins : List (Addr × Obj)) (s : Shared) (σ : St) (H : Hp) (o i : V) (ov iv : Value) (Q : VK), Inv X pins σ H s → RelV o ov → RelV i iv → t o i H Q →
    wpAny (model X.prog X.w) X.A (getItem ov iv) (EP X pins σ Q) X.xe s
theorem ps_augS {o i e : Expr} {to ti te : TE} {tget : V → V → Hp → VK → Prop} {tip : TIp} {tset : TSet} {op : Operator} {tpos : Pos} (ho : PE X o to) (hi : PE X i ti) (hg : PGet X tget) (he : PE X e te) (hp : PIp X op tip) (hs : PSet X tset)
    (ha : ∀ ov iv new, augStore i ov iv new = (do holding [new, ov, iv] (setItem ov iv new); release [new, ov, iv] []; pure .next) := by intros; rfl) : PS X (.AugAssign (.Subscript o i tpos) op e pos) (tAugS to ti te tget tip tset) := by
  intro pins s σ H D I h
  refine wpAny_AugAssign_SubscriptAny (thn (ho pins s σ H _ I h) fun ov s1 ⟨x1, H1, I1, r1, q1⟩ => ?_) ha
  refine thn (hi pins s1 σ H1 _ I1 q1) fun iv s2 ⟨x2, H2, I2, r2, q2⟩ => ?_
  refine thn (hg pins s2 σ H2 x1 x2 ov iv _ I2 r1 r2 q2) fun old s3 ⟨x3, H3, I3, r3, q3⟩ => ?_
  refine thn (he pins s3 σ H3 _ I3 q3) fun v s4 ⟨x4, H4, I4, r4, q4⟩ => ?_
  refine thn (hp pins s4 σ H4 x3 x4 old v _ I4 r3 r4 q4) fun new s5 ⟨x5, H5, I5, r5, q5⟩ => ?_
  exact thn (hs pins s5 σ H5 x1 x2 x5 ov iv new _ I5 r1 r2 r5 q5) fun _ s6 ⟨H6, I6, q6⟩ => ⟨σ, H6, I6, q6⟩
/-- ints -/
def ipI (f : Int → Int → Int) : TIp := fun x y H Q => ∃ i j, x = .int i ∧ y = .int j ∧ Q (.int (f i j)) H
theorem ip_add : PIp X .Add (ipI fun i j => i + j) := by
  intro pins s σ H x y v u Q I r1 r2 h
  obtain ⟨i, j, e1, e2, q⟩ := h
  subst e1; subst e2
  obtain ⟨t, rfl⟩ := r1
  obtain ⟨t', rfl⟩ := r2
  exact iadd_int ⟨.int _, H, I.tok _, ⟨_, rfl⟩, q⟩
theorem ip_sub : PIp X .Sub (ipI fun i j => i - j) := by
  intro pins s σ H x y v u Q I r1 r2 h
  obtain ⟨i, j, e1, e2, q⟩ := h
  subst e1; subst e2
  obtain ⟨t, rfl⟩ := r1
  obtain ⟨t', rfl⟩ := r2
  exact isub_int ⟨.int _, H, I.tok _, ⟨_, rfl⟩, q⟩
end

/-! ### while -/
section
variable {X : Cx} {pos : Pos}
/-- the invariant W with its measure -/
def tWhile (c : TT) (tb : TS) : TS := fun D σ H => ∃ W : Nat → St → Hp → Prop, (∃ m, W m σ H) ∧ ∀ m σ H, W m σ H →
  c σ H fun b H1 => if b = true then ∃ N : St → Hp → Prop, (∀ σ' H', N σ' H' → ∃ m', m' < m ∧ W m' σ' H') ∧ tb { D with nx := N, ct := N, bk := D.nx } σ H1 else D.nx σ H1
theorem ps_while {c : Expr} {body : List Stmt} {tc : TT} {tb : TS} (hp : PassesOwn (model X.prog X.w) X.A X.env X.xe) (hc : PT X c tc) (hb : PSs X body tb) : PS X (.While c body [] pos) (tWhile tc tb) := by
  intro pins s σ H D I h
  obtain ⟨W, ⟨m0, w0⟩, turn⟩ := h
  refine wpAny_While (codeAny_whileLoop (fun n s' => ∃ σ' H', Inv X pins σ' H' s' ∧ W n σ' H') ?_ m0 ⟨σ, H, I, w0⟩)
  rintro n s1 ⟨σ1, H1, I1, w1⟩
  refine wpAny_passesOwn hp (thn (hc pins s1 σ1 H1 _ I1 (turn n σ1 H1 w1)) fun b s2 ⟨H2, I2, q2⟩ => ?_)
  cases b with
  | true =>
    obtain ⟨N, hN, q2⟩ := q2
    rw [if_pos rfl]
    refine wpAny_passesOwn hp (thn (hb pins s2 σ1 H2 _ I2 q2) fun f s3 q3 => ?_)
    cases f with
    | next =>
      obtain ⟨σ3, H3, I3, n3⟩ := q3
      obtain ⟨m', hm, w3⟩ := hN σ3 H3 n3
      exact ⟨m', hm, σ3, H3, I3, w3⟩
    | cont =>
      obtain ⟨σ3, H3, I3, n3⟩ := q3
      obtain ⟨m', hm, w3⟩ := hN σ3 H3 n3
      exact ⟨m', hm, σ3, H3, I3, w3⟩
    | brk => exact q3
    | ret v => exact q3
  | false =>
    rw [if_neg Bool.false_ne_true]
    exact wpAny_execs_nil ⟨σ1, H2, I2, q2⟩
end

/-! ### what a loop or a comprehension walks -/
/-- at turn i: it yields x (the heap may grow), or it stops -/
structure It where
  go : Nat → Hp → Prop
  yld : Nat → Hp → V → Hp → Prop
  stop : Nat → Hp → Prop
/-- the iterator's own objects may turn: they are not the frame's, not pinned, younger than the entry (or a comprehension's own) -/
def FpOk (X : Cx) (pins : List (Addr × Obj)) (H : Hp) (b : Addr) : Prop :=
  H b = none ∧ b ≠ X.env.locals ∧ b ∉ X.fs ∧ (b ∈ X.ex ∨ X.s₀.heap.objs.size ≤ b) ∧ (∀ x c, X.env.cells.lookup x = some c → c ≠ b) ∧ ∀ p ∈ X.pn ++ pins, p.1 ≠ b
theorem Inv.fpOk {X : Cx} {pins : List (Addr × Obj)} {σ : St} {H H' : Hp} {s : Shared} {b : Addr} (I : Inv X pins σ H s) (hb : s.heap.objs.size ≤ b) (hn : H' b = none) : FpOk X pins H' b := by
  refine ⟨hn, Nat.ne_of_gt (Nat.lt_of_lt_of_le I.lt hb), I.nofs hb, .inr (Nat.le_trans I.sz hb), fun x c e z => ?_, fun p hp z => ?_⟩
  · obtain ⟨v, q⟩ := I.cell x c e
    exact absurd (Nat.lt_of_lt_of_le q.lt (by rw [z]; exact hb)) (Nat.lt_irrefl _)
  · exact absurd (Nat.lt_of_lt_of_le (Heap.lt_size (I.pin p hp).1) (by rw [z]; exact hb)) (Nat.lt_irrefl _)
structure Turn (P : Program) (w : World) (K : PySem.W.Frag) (tg : Expr) (J : It) (fp : List Addr) (it : Addr) (tn : Nat → Heap → Prop) : Prop where
  mem : it ∈ fp
  obj : ∀ i h, tn i h → ∀ b ∈ fp, ∃ o, h.get? b = some o ∧ ∀ v, o.data ≠ .cell v
  keep : ∀ i h h', tn i h → (∀ b ∈ fp, ∀ o, h.get? b = some o → h'.get? b = some o) → tn i h'
  item : ∀ (X : Cx), X.prog = P → X.w = w → X.K = K → X.calm = true → ∀ (i : Nat) (pins : List (Addr × Obj)) (s : Shared) (σ : St) (H : Hp) (E : Value → Shared → Prop), Inv X pins σ H s → (∀ b ∈ fp, FpOk X pins H b) → tn i s.heap → J.go i H →
    wpAny (model P w) X.A (pyNext (.ref it)) (fun r s1 => ∃ u, r = some u ∧
      wpAny (model P w) X.A (letOwnedTupleGo tg (.ref it) u) (fun _ s2 => ∃ x H', Inv X pins σ H' s2 ∧ RelV x u ∧ J.yld i H x H' ∧ tn (i + 1) s2.heap ∧ ∀ b ∈ fp, H' b = none) E s1) E s
  done : ∀ (X : Cx), X.prog = P → X.w = w → X.K = K → X.calm = true → ∀ (i : Nat) (pins : List (Addr × Obj)) (s : Shared) (σ : St) (H : Hp) (E : Value → Shared → Prop), Inv X pins σ H s → (∀ b ∈ fp, FpOk X pins H b) → tn i s.heap → J.stop i H →
    wpAny (model P w) X.A (pyNext (.ref it)) (fun r s1 => r = none ∧ Inv X pins σ H s1) E s
  self : ∀ (A : Around) (i : Nat) (s : Shared) (Q : Value → Shared → Prop) (E : Value → Shared → Prop), tn i s.heap → Q (.ref it) s → wpAny (model P w) A (pyIter (.ref it)) Q E s
abbrev TI := St → Hp → (It → Hp → Prop) → Prop
/-- an iterator has come -/
def PIE (X : Cx) (pins : List (Addr × Obj)) (σ : St) (tg : Expr) (R : It → Hp → Prop) (itv : Value) (s2 : Shared) : Prop :=
  ∃ (it : Addr) (fp : List Addr) (tn : Nat → Heap → Prop) (J : It) (H' : Hp), itv = .ref it ∧ Inv X pins σ H' s2 ∧ Turn X.prog X.w X.K tg J fp it tn ∧ tn 0 s2.heap ∧ (∀ b ∈ fp, FpOk X pins H' b) ∧ R J H'
def PI (X : Cx) (tg iter : Expr) (wi : TI) : Prop :=
  ∀ (pins : List (Addr × Obj)) (s : Shared) (σ : St) (H : Hp) (R : It → Hp → Prop), Inv X pins σ H s → wi σ H R →
    wpAny (model X.prog X.w) X.A (eval iter X.env) (fun v s1 => wpAny (model X.prog X.w) X.A (pyIter v) (PIE X pins σ tg R) X.xe s1) X.xe s

/-- the step ahead of the store is nothing for an iterator that keeps no tuple -/
theorem go_of {M : Model} {A : Around} {E : Value → Shared → Prop} {s : Shared} {tg : Expr} {it : Addr} {u : Value} {o : Obj} {n : String} {vs : Array Value} {Q : Unit → Shared → Prop} (ho : s.heap.get? it = some o) (hc : o.cls = .type n) (hd : o.data = .fields vs)
    (hn : ["enumerate", "zip", "dict_itemiterator", "dict_reverseitemiterator", "odict_iterator", "itertools.zip_longest", "itertools.pairwise"].contains n = false) (hQ : Q () s) : wpAny M A (letOwnedTupleGo tg (.ref it) u) Q E s := by
  unfold letOwnedTupleGo
  cases tg <;> first
    | exact wpAny_pure hQ
    | (cases u <;> first
        | exact wpAny_pure hQ
        | (refine wpAny_bind (wpAny_load ho ?_)
           rw [hc, hd]
           show wpAny M A (if (["enumerate", "zip", "dict_itemiterator", "dict_reverseitemiterator", "odict_iterator", "itertools.zip_longest", "itertools.pairwise"].contains n && vs[0]? == some (rawInt _)) = true then _ else _) Q E s
           rw [if_neg (by intro h; rw [hn, Bool.false_and] at h; cases h)]
           exact wpAny_pure hQ))

/-- the list at a, as it stands at each turn (a loop may append to it) -/
def Itl (K : PySem.W.Frag) (a : Addr) : It :=
  ⟨fun i H => ∃ xs x, SqL K H a xs ∧ xs[i]? = some x, fun i H x H' => H' = H ∧ ∀ xs, SqL K H a xs → xs[i]? = some x, fun i H => ∃ xs, SqL K H a xs ∧ xs.length ≤ i⟩
def Itt (K : PySem.W.Frag) (a : Addr) : It :=
  ⟨fun i H => ∃ xs x, SqT K H a xs ∧ xs[i]? = some x, fun i H x H' => H' = H ∧ ∀ xs, SqT K H a xs → xs[i]? = some x, fun i H => ∃ xs, SqT K H a xs ∧ xs.length ≤ i⟩
/-- lo, lo + 1, .. (n of them) -/
def Itr (lo : Int) (n : Nat) : It := ⟨fun i _ => i < n, fun i H x H' => H' = H ∧ x = .int (lo + i), fun i _ => n ≤ i⟩
theorem turn_list {P : Program} {w : World} {K : PySem.W.Frag} {tg : Expr} (a it : Addr) : Turn P w K tg (Itl K a) [it] it (fun i h => h.IsListIter it a i) where
  mem := by simp
  obj := fun i h st b hb => by
    have e : b = it := by simpa using hb
    subst e
    obtain ⟨o, e, c, d⟩ := st
    exact ⟨o, e, fun v z => by rw [d] at z; cases z⟩
  keep := fun i h h' st k => st.at fun o e => k it (by simp) o e
  item := by
    intro X hP hw hK hc i pins s σ H E I hf st hg
    subst hP hw hK
    obtain ⟨xs, x, hq, hx⟩ := hg
    obtain ⟨its, rv, p, hz⟩ := I.list hq
    obtain ⟨u, hu, ru⟩ := rv.get hx
    obtain ⟨f0, f1, f2, f3, f4, f5⟩ := hf it (by simp)
    refine wpAny_pyNext_list_item st p.isList (x := u) (by simpa using hu) fun h' st' sb => ?_
    have I1 : Inv X pins σ H { s with heap := h' } := I.turned (t' := s.toks) (fun b o hb e => (sb.2 b hb).trans e) f0 f1 f3 f4 f5
    obtain ⟨o, e, c, d⟩ := id st'
    exact ⟨u, rfl, go_of (s := { s with heap := h' }) e c d (by decide) ⟨x, H, I1, ru, ⟨rfl, fun ys hy => by rw [I.list_inj hy hq]; exact hx⟩, st', fun b hb => (hf b hb).1⟩⟩
  done := by
    intro X hP hw hK hc i pins s σ H E I hf st hg
    subst hP hw hK
    obtain ⟨xs, hq, hx⟩ := hg
    obtain ⟨its, rv, p, hz⟩ := I.list hq
    obtain ⟨f0, f1, f2, f3, f4, f5⟩ := hf it (by simp)
    have hl := rv.length
    exact wpAny_pyNext_list_end (I.ok.hd hc) st p.isList (by simp; omega) fun h' eb => ⟨rfl, I.turned (t' := s.toks) (fun b o hb e => eb b o hb e) f0 f1 f3 f4 f5⟩
  self := fun _ _ _ _ _ st h => wpAny_pyIter_listiter st h
theorem turn_tuple {P : Program} {w : World} {K : PySem.W.Frag} {tg : Expr} (a it : Addr) : Turn P w K tg (Itt K a) [it] it (fun i h => h.IsTupleIter it a i) where
  mem := by simp
  obj := fun i h st b hb => by
    have e : b = it := by simpa using hb
    subst e
    obtain ⟨o, e, c, d⟩ := st
    exact ⟨o, e, fun v z => by rw [d] at z; cases z⟩
  keep := fun i h h' st k => st.at fun o e => k it (by simp) o e
  item := by
    intro X hP hw hK hc i pins s σ H E I hf st hg
    subst hP hw hK
    obtain ⟨xs, x, hq, hx⟩ := hg
    obtain ⟨its, rv, p, hz⟩ := I.tuple hq
    obtain ⟨u, hu, ru⟩ := rv.get hx
    obtain ⟨f0, f1, f2, f3, f4, f5⟩ := hf it (by simp)
    refine wpAny_pyNext_tuple_item st (show s.heap.IsTuple a its.toArray from p) (x := u) (by simpa using hu) fun h' st' sb => ?_
    have I1 : Inv X pins σ H { s with heap := h' } := I.turned (t' := s.toks) (fun b o hb e => (sb.2 b hb).trans e) f0 f1 f3 f4 f5
    obtain ⟨o, e, c, d⟩ := id st'
    exact ⟨u, rfl, go_of (s := { s with heap := h' }) e c d (by decide) ⟨x, H, I1, ru, ⟨rfl, fun ys hy => by rw [I.tuple_inj hy hq]; exact hx⟩, st', fun b hb => (hf b hb).1⟩⟩
  done := by
    intro X hP hw hK hc i pins s σ H E I hf st hg
    subst hP hw hK
    obtain ⟨xs, hq, hx⟩ := hg
    obtain ⟨its, rv, p, hz⟩ := I.tuple hq
    obtain ⟨f0, f1, f2, f3, f4, f5⟩ := hf it (by simp)
    have hl := rv.length
    exact wpAny_pyNext_tuple_end (I.ok.hd hc) st (show s.heap.IsTuple a its.toArray from p) (by simp; omega) fun h' eb => ⟨rfl, I.turned (t' := s.toks) (fun b o hb e => eb b o hb e) f0 f1 f3 f4 f5⟩
  self := fun _ _ _ _ _ st h => wpAny_pyIter_tupleiter st h
theorem turn_range {P : Program} {w : World} {K : PySem.W.Frag} {tg : Expr} (it : Addr) (lo : Int) (n : Nat) : Turn P w K tg (Itr lo n) [it] it (fun i h => IsRangeIter h it (lo + (i : Nat) * 1) ((n : Int) - (i : Nat)) 1) where
  mem := by simp
  obj := fun i h st b hb => by
    have e : b = it := by simpa using hb
    subst e
    exact ⟨_, st, fun v z => by
      have z' : Data.fields _ = Data.cell v := z
      cases z'⟩
  keep := fun i h h' st k => k it (by simp) _ st
  item := by
    intro X hP hw hK hc i pins s σ H E I hf st hg
    subst hP hw hK
    obtain ⟨f0, f1, f2, f3, f4, f5⟩ := hf it (by simp)
    have W := Walks.range (prog := X.prog) (w := X.w) (I.ok.hd hc) it lo 1 n
    refine W.item i s _ _ hg st fun v h' tk hv st' kk => ?_
    obtain ⟨t, rfl⟩ := hv
    have I1 : Inv X pins σ H { s with heap := h', toks := tk } := I.turned (fun b o hb e => kk b o (by simpa using hb) e) f0 f1 f3 f4 f5
    refine ⟨_, rfl, go_of (s := { s with heap := h', toks := tk }) (n := "range_iterator") st' rfl rfl (by decide) ⟨.int (lo + i), H, I1, ⟨t, ?_⟩, ⟨rfl, rfl⟩, st', fun b hb => (hf b hb).1⟩⟩
    rw [Int.mul_one]
  done := by
    intro X hP hw hK hc i pins s σ H E I hf st hg
    subst hP hw hK
    obtain ⟨f0, f1, f2, f3, f4, f5⟩ := hf it (by simp)
    exact wpAny_pyNext_range_end (I.ok.hd hc) st (by have : n ≤ i := hg; omega) fun h' eb => ⟨rfl, I.turned (t' := s.toks) (fun b o hb e => eb b o hb e) f0 f1 f3 f4 f5⟩
  self := fun _ _ _ _ _ st h => wpAny_pyIter_rangeiter st h
end L2

namespace L2
open PySem PySem.Spec PyProof.Rows
section
variable {X : Cx} {tg : Expr}
def iList (K : PySem.W.Frag) (tl : TE) : TI := fun σ H R => tl σ H fun x H1 => ∃ a, x = .ref a ∧ (∃ xs, SqL K H1 a xs) ∧ R (Itl K a) H1
def iTup (K : PySem.W.Frag) (tl : TE) : TI := fun σ H R => tl σ H fun x H1 => ∃ a, x = .ref a ∧ (∃ xs, SqT K H1 a xs) ∧ R (Itt K a) H1
theorem pi_list {l : Expr} {tl : TE} (hl : PE X l tl) : PI X tg l (iList X.K tl) := by
  intro pins s σ H R I h
  refine thn (hl pins s σ H _ I h) fun v s1 ⟨x, H1, I1, r1, q1⟩ => ?_
  obtain ⟨a, e, ⟨xs, hq⟩, q⟩ := q1
  subst e
  cases r1
  obtain ⟨its, rv, p, hz⟩ := I1.list hq
  refine wpAny_pyIter_list p.isList ?_
  refine ⟨s1.heap.objs.size, [s1.heap.objs.size], _, _, H1, rfl, I1.kept (t' := s1.toks) fun b o e => Heap.get?_push_of_some _ e, turn_list a _, ⟨_, Heap.get?_push_size _ rfl, rfl, rfl⟩, fun b hb => ?_, q⟩
  have e : b = s1.heap.objs.size := by simpa using hb
  subst e
  exact I1.fpOk (Nat.le_refl _) (I1.hok.fresh (Nat.le_refl _))
theorem pi_tup {l : Expr} {tl : TE} (hl : PE X l tl) : PI X tg l (iTup X.K tl) := by
  intro pins s σ H R I h
  refine thn (hl pins s σ H _ I h) fun v s1 ⟨x, H1, I1, r1, q1⟩ => ?_
  obtain ⟨a, e, ⟨xs, hq⟩, q⟩ := q1
  subst e
  cases r1
  obtain ⟨its, rv, p, hz⟩ := I1.tuple hq
  refine wpAny_pyIter_tuple (show s1.heap.IsTuple a its.toArray from p) ?_
  refine ⟨s1.heap.objs.size, [s1.heap.objs.size], _, _, H1, rfl, I1.kept (t' := s1.toks) fun b o e => Heap.get?_push_of_some _ e, turn_tuple a _, ⟨_, Heap.get?_push_size _ rfl, rfl, rfl⟩, fun b hb => ?_, q⟩
  have e : b = s1.heap.objs.size := by simpa using hb
  subst e
  exact I1.fpOk (Nat.le_refl _) (I1.hok.fresh (Nat.le_refl _))
/-- a range object just made, walked -/
theorem range_it {pins : List (Addr × Obj)} {σ : St} {H : Hp} {s : Shared} {R : It → Hp → Prop} {E : Value → Shared → Prop} {lo hi : Int} {t u v : Tok} {tk : Nat} (I : Inv X pins σ H s) (h1 : -(2 ^ 62) ≤ lo) (h2 : lo < 2 ^ 62) (h3 : -(2 ^ 62) ≤ hi) (h4 : hi < 2 ^ 62)
    (q : R (Itr lo (hi - lo).toNat) H) : wpAny (model X.prog X.w) X.A (pyIter (.ref s.heap.objs.size)) (PIE X pins σ tg R) E { s with heap := s.heap.push { cls := .type "range", data := .fields #[.int lo t, .int hi u, .int 1 v] }, toks := tk } := by
  refine wpAny_pyIter_range (IsRange.new ..) (small_one h1 h2 h3 h4) ?_
  have I1 : Inv X pins σ H { s with heap := s.heap.push { cls := .type "range", data := .fields #[.int lo t, .int hi u, .int 1 v] }, toks := tk } := I.kept fun b o e => Heap.get?_push_of_some _ e
  refine ⟨(s.heap.push { cls := .type "range", data := .fields #[.int lo t, .int hi u, .int 1 v] }).objs.size, [(s.heap.push { cls := .type "range", data := .fields #[.int lo t, .int hi u, .int 1 v] }).objs.size], _, _, H, rfl,
    I1.kept (t' := tk) fun b o e => Heap.get?_push_of_some _ e, turn_range _ lo (hi - lo).toNat, ?_, fun b hb => ?_, q⟩
  · have e1 : lo + ((0 : Nat) : Int) * 1 = lo := by simp
    have e2 : (((hi - lo).toNat : Nat) : Int) - ((0 : Nat) : Int) = Builtin.Range.rangeSize lo hi 1 := by rw [rangeSize_one]; split <;> omega
    show IsRangeIter _ _ (lo + ((0 : Nat) : Int) * 1) ((((hi - lo).toNat : Nat) : Int) - ((0 : Nat) : Int)) 1
    rw [e1, e2]
    exact Heap.get?_push_size _ rfl
  · have e : b = (s.heap.push { cls := .type "range", data := .fields #[.int lo t, .int hi u, .int 1 v] }).objs.size := by simpa using hb
    subst e
    exact I1.fpOk (Nat.le_refl _) (I1.hok.fresh (Nat.le_refl _))
def iRng1 (ta : TA) : TI := fun σ H R => ta σ H fun vs H1 => ∃ j : Int, vs = [.int j] ∧ -(2 ^ 62) ≤ j ∧ j < 2 ^ 62 ∧ R (Itr 0 j.toNat) H1
def iRng2 (ta : TA) : TI := fun σ H R => ta σ H fun vs H1 => ∃ i j : Int, vs = [.int i, .int j] ∧ (-(2 ^ 62) ≤ i ∧ i < 2 ^ 62 ∧ -(2 ^ 62) ≤ j ∧ j < 2 ^ 62) ∧ R (Itr i (j - i).toNat) H1
theorem pi_range1 {a : Expr} {ta : TA} {p pos : Pos} (hg : Gl X "range") (hm : X.mg "range" = none) (ha : PA X [a] ta) (hs : starEach [a] X.env = [(false, eval a X.env)] := by rfl) : PI X tg (.Call (.Name "range" p) [a] [] pos) (iRng1 ta) := by
  intro pins s σ H R I h
  refine Call_ (ld_blt I hg hm boot_range (PyProof.Rows.callWith_type1 (thn (ha pos pins s σ H _ I h) fun us s1 ⟨vs, H1, I1, r1, q1⟩ => ?_) hs rfl))
  obtain ⟨j, e, q1, q2, q⟩ := q1
  subst e
  cases r1 with
  | cons r rr =>
    cases rr
    obtain ⟨t, rfl⟩ := r
    exact call_range_1 (range_it I1 (by omega) (by omega) q1 q2 (by simpa using q))
theorem pi_range2 {a b : Expr} {ta : TA} {p pos : Pos} (hg : Gl X "range") (hm : X.mg "range" = none) (ha : PA X [a, b] ta) (hs : starEach [a, b] X.env = [(false, eval a X.env), (false, eval b X.env)] := by rfl) (hs2 : starEach [b] X.env = [(false, eval b X.env)] := by rfl) :
    PI X tg (.Call (.Name "range" p) [a, b] [] pos) (iRng2 ta) := by
  intro pins s σ H R I h
  refine Call_ (ld_blt I hg hm boot_range (PyProof.Rows.callWith_type1 (thn (ha pos pins s σ H _ I h) fun us s1 ⟨vs, H1, I1, r1, q1⟩ => ?_) (by rw [hs, hs2]) (by rw [hs2]; rfl)))
  obtain ⟨i, j, e, ⟨q1, q2, q3, q4⟩, q⟩ := q1
  subst e
  cases r1 with
  | cons r rr =>
    cases rr with
    | cons r' rr =>
      cases rr
      obtain ⟨t, rfl⟩ := r
      obtain ⟨t', rfl⟩ := r'
      exact call_range_2 (range_it I1 q1 q2 q3 q4 q)

/-! ### for -/
/-- W: the invariant by the turn and a measure; N: what the body is to reach -/
def tFor (wi : TI) (g : TG) (tb : TS) : TS := fun D σ H => wi σ H fun J H1 => ∃ W : Nat → Nat → St → Hp → Prop, (∃ m, W 0 m σ H1) ∧ ∀ i m σ H, W i m σ H →
  (J.stop i H ∧ D.nx σ H) ∨ (J.go i H ∧ ∃ N : St → Hp → Prop, (∀ σ' H', N σ' H' → ∃ m', m' < m ∧ W (i + 1) m' σ' H') ∧ ∀ x H', J.yld i H x H' → g x σ H' fun σ2 H2 => tb { D with nx := N, ct := N, bk := D.nx } σ2 H2)
/-- the records at fp as they stand -/
def pinsAt (fp : List Addr) (h : Heap) : List (Addr × Obj) := fp.filterMap fun b => (h.get? b).map fun o => (b, o)
theorem mem_pinsAt {fp : List Addr} {h : Heap} {b : Addr} {o : Obj} (hb : b ∈ fp) (e : h.get? b = some o) : (b, o) ∈ pinsAt fp h := List.mem_filterMap.mpr ⟨b, hb, by rw [e]; rfl⟩
theorem of_pinsAt {fp : List Addr} {h : Heap} {p : Addr × Obj} (hp : p ∈ pinsAt fp h) : p.1 ∈ fp ∧ h.get? p.1 = some p.2 := by
  obtain ⟨b, hb, e⟩ := List.mem_filterMap.mp hp
  cases q : h.get? b with
  | none => rw [q] at e; cases e
  | some o =>
    rw [q] at e
    have e' : (b, o) = p := Option.some.inj e
    subst e'
    exact ⟨hb, q⟩
theorem Inv.pinned {pins : List (Addr × Obj)} {σ : St} {H : Hp} {s : Shared} {fp : List Addr} (I : Inv X pins σ H s) (hf : ∀ b ∈ fp, FpOk X pins H b) (ho : ∀ b ∈ fp, ∃ o, s.heap.get? b = some o ∧ ∀ v, o.data ≠ .cell v) : Inv X (pins ++ pinsAt fp s.heap) σ H s :=
  I.pins_of fun p hp => (List.mem_append.mp hp).elim (fun z => I.pin p (List.mem_append_right _ z)) fun z => by
    obtain ⟨hb, e⟩ := of_pinsAt z
    obtain ⟨f0, f1, f2, _⟩ := hf p.1 hb
    obtain ⟨o, e', d⟩ := ho p.1 hb
    rw [e] at e'; cases e'
    exact ⟨e, f0, f1, f2, d⟩
theorem Inv.unpinned {pins pl : List (Addr × Obj)} {σ : St} {H : Hp} {s : Shared} (I : Inv X (pins ++ pl) σ H s) : Inv X pins σ H s := I.pins_of fun p hp => I.pin p (List.mem_append_right _ (List.mem_append_left _ hp))
theorem ps_for {iter : Expr} {body : List Stmt} {wi : TI} {g : TG} {tb : TS} {pos : Pos} (hp : PassesOwn (model X.prog X.w) X.A X.env X.xe) (hc : X.calm = true) (hi : PI X tg iter wi) (hg : PG X tg g) (hb : PSs X body tb)
    (hs : ∀ x, foldedSetIterable iter X.env x = pure x := by intro _; rfl) : PS X (.For tg iter body [] pos) (tFor wi g tb) := by
  intro pins s σ H D I h
  refine wpAny_For (thn (hi pins s σ H _ I h) fun v s1 h1 => thn h1 fun itv s2 h2 => ?_) hs
  obtain ⟨it, fp, tn, J, H2, e, I2, T, st2, f2, W, ⟨m0, w0⟩, turn⟩ := h2
  subst e
  -- what stays true of the iterator's objects through the loop
  have stat : ∀ {H' : Hp}, (∀ b ∈ fp, H' b = none) → ∀ b ∈ fp, FpOk X pins H' b := fun hn b hb => ⟨hn b hb, (f2 b hb).2⟩
  refine codeAny_forLoop_any (fun n s' => ∃ i σ' H', Inv X pins σ' H' s' ∧ tn i s'.heap ∧ (∀ b ∈ fp, H' b = none) ∧ W i n σ' H') ?_ m0 ⟨0, σ, H2, I2, st2, fun b hb => (f2 b hb).1, w0⟩
  rintro n s3 ⟨i, σ3, H3, I3, st3, fr3, w3⟩
  rcases turn i n σ3 H3 w3 with ⟨stop, qn⟩ | ⟨go, N, hN, step⟩
  · refine wpAny_passesOwn hp (thn (T.done X rfl rfl rfl hc i pins s3 σ3 H3 X.xe I3 (stat fr3) st3 stop) fun r s4 ⟨hr, I4⟩ => ?_)
    subst hr
    exact wpAny_execs_nil ⟨σ3, H3, I4, qn⟩
  · refine wpAny_passesOwn hp (thn (T.item X rfl rfl rfl hc i pins s3 σ3 H3 X.xe I3 (stat fr3) st3 go) fun r s4 ⟨u, hr, h4⟩ => ?_)
    subst hr
    refine wpAny_passesOwn hp (thn h4 fun _ s5 ⟨x, H5, I5, r5, y5, st5, fr5⟩ => ?_)
    have I5' := I5.pinned (stat fr5) (T.obj _ _ st5)
    refine wpAny_passesOwn hp (thn (hg _ s5 σ3 H5 x u _ I5' r5 (step x H5 y5)) fun _ s6 ⟨σ6, H6, I6, q6⟩ => ?_)
    refine wpAny_passesOwn hp (thn (hb _ s6 σ6 H6 _ I6 q6) fun f s7 q7 => ?_)
    have again : ∀ {σ7 : St} {H7 : Hp}, Inv X (pins ++ pinsAt fp s5.heap) σ7 H7 s7 → N σ7 H7 → ∃ m, m < n ∧ ∃ i σ' H', Inv X pins σ' H' s7 ∧ tn i s7.heap ∧ (∀ b ∈ fp, H' b = none) ∧ W i m σ' H' := fun {σ7 H7} I7 n7 => by
      obtain ⟨m', hm, w7⟩ := hN σ7 H7 n7
      refine ⟨m', hm, i + 1, σ7, H7, I7.unpinned, T.keep _ _ _ st5 fun b hb o e => (I7.pin (b, o) (List.mem_append_right _ (List.mem_append_right _ (mem_pinsAt hb e)))).1, fun b hb => ?_, w7⟩
      obtain ⟨o, e, d⟩ := T.obj _ _ st5 b hb
      exact (I7.pin (b, o) (List.mem_append_right _ (List.mem_append_right _ (mem_pinsAt hb e)))).2.1
    cases f with
    | next => obtain ⟨σ7, H7, I7, n7⟩ := q7; exact again I7 n7
    | cont => obtain ⟨σ7, H7, I7, n7⟩ := q7; exact again I7 n7
    | brk => obtain ⟨σ7, H7, I7, q7⟩ := q7; exact ⟨σ7, H7, I7.unpinned, q7⟩
    | ret v => obtain ⟨x7, σ7, H7, I7, r7, q7⟩ := q7; exact ⟨x7, σ7, H7, I7.unpinned, r7, q7⟩
end

/-! ### the forms one uses -/
/-- over a list that the body leaves as it is -/
theorem for_list {K : PySem.W.Frag} {a : Addr} {xs : List V} {g : TG} {tb : TS} {D : Ends} {σ : St} {H : Hp} (Pv : Nat → St → Hp → Prop) (h0 : Pv 0 σ H) (hl : ∀ i σ H, i ≤ xs.length → Pv i σ H → SqL K H a xs)
    (hs : ∀ i x σ H, xs[i]? = some x → Pv i σ H → g x σ H fun σ2 H2 => tb { D with nx := Pv (i + 1), ct := Pv (i + 1), bk := D.nx } σ2 H2) (hd : ∀ σ H, Pv xs.length σ H → D.nx σ H) :
    ∃ W : Nat → Nat → St → Hp → Prop, (∃ m, W 0 m σ H) ∧ ∀ i m σ H, W i m σ H →
      ((Itl K a).stop i H ∧ D.nx σ H) ∨ ((Itl K a).go i H ∧ ∃ N : St → Hp → Prop, (∀ σ' H', N σ' H' → ∃ m', m' < m ∧ W (i + 1) m' σ' H') ∧ ∀ x H', (Itl K a).yld i H x H' → g x σ H' fun σ2 H2 => tb { D with nx := N, ct := N, bk := D.nx } σ2 H2) := by
  refine ⟨fun i m σ H => m = xs.length - i ∧ i ≤ xs.length ∧ Pv i σ H, ⟨xs.length, by simp, Nat.zero_le _, h0⟩, ?_⟩
  rintro i m σ H ⟨rfl, hi, p⟩
  have q := hl i σ H hi p
  by_cases hlt : i < xs.length
  · refine .inr ⟨⟨xs, xs[i], q, by simp [hlt]⟩, Pv (i + 1), fun σ' H' p' => ⟨xs.length - (i + 1), by omega, rfl, hlt, p'⟩, fun x H' y => ?_⟩
    obtain ⟨e, y⟩ := y
    subst e
    exact hs i x σ _ (y xs q) p
  · have e : i = xs.length := by omega
    subst e
    exact .inl ⟨⟨xs, q, Nat.le_refl _⟩, hd σ H p⟩
theorem for_tup {K : PySem.W.Frag} {a : Addr} {xs : List V} {g : TG} {tb : TS} {D : Ends} {σ : St} {H : Hp} (Pv : Nat → St → Hp → Prop) (h0 : Pv 0 σ H) (hl : ∀ i σ H, i ≤ xs.length → Pv i σ H → SqT K H a xs)
    (hs : ∀ i x σ H, xs[i]? = some x → Pv i σ H → g x σ H fun σ2 H2 => tb { D with nx := Pv (i + 1), ct := Pv (i + 1), bk := D.nx } σ2 H2) (hd : ∀ σ H, Pv xs.length σ H → D.nx σ H) :
    ∃ W : Nat → Nat → St → Hp → Prop, (∃ m, W 0 m σ H) ∧ ∀ i m σ H, W i m σ H →
      ((Itt K a).stop i H ∧ D.nx σ H) ∨ ((Itt K a).go i H ∧ ∃ N : St → Hp → Prop, (∀ σ' H', N σ' H' → ∃ m', m' < m ∧ W (i + 1) m' σ' H') ∧ ∀ x H', (Itt K a).yld i H x H' → g x σ H' fun σ2 H2 => tb { D with nx := N, ct := N, bk := D.nx } σ2 H2) := by
  refine ⟨fun i m σ H => m = xs.length - i ∧ i ≤ xs.length ∧ Pv i σ H, ⟨xs.length, by simp, Nat.zero_le _, h0⟩, ?_⟩
  rintro i m σ H ⟨rfl, hi, p⟩
  have q := hl i σ H hi p
  by_cases hlt : i < xs.length
  · refine .inr ⟨⟨xs, xs[i], q, by simp [hlt]⟩, Pv (i + 1), fun σ' H' p' => ⟨xs.length - (i + 1), by omega, rfl, hlt, p'⟩, fun x H' y => ?_⟩
    obtain ⟨e, y⟩ := y
    subst e
    exact hs i x σ _ (y xs q) p
  · have e : i = xs.length := by omega
    subst e
    exact .inl ⟨⟨xs, q, Nat.le_refl _⟩, hd σ H p⟩
theorem for_range {lo : Int} {n : Nat} {g : TG} {tb : TS} {D : Ends} {σ : St} {H : Hp} (Pv : Nat → St → Hp → Prop) (h0 : Pv 0 σ H)
    (hs : ∀ i σ H, i < n → Pv i σ H → g (.int (lo + i)) σ H fun σ2 H2 => tb { D with nx := Pv (i + 1), ct := Pv (i + 1), bk := D.nx } σ2 H2) (hd : ∀ σ H, Pv n σ H → D.nx σ H) :
    ∃ W : Nat → Nat → St → Hp → Prop, (∃ m, W 0 m σ H) ∧ ∀ i m σ H, W i m σ H →
      ((Itr lo n).stop i H ∧ D.nx σ H) ∨ ((Itr lo n).go i H ∧ ∃ N : St → Hp → Prop, (∀ σ' H', N σ' H' → ∃ m', m' < m ∧ W (i + 1) m' σ' H') ∧ ∀ x H', (Itr lo n).yld i H x H' → g x σ H' fun σ2 H2 => tb { D with nx := N, ct := N, bk := D.nx } σ2 H2) := by
  refine ⟨fun i m σ H => m = n - i ∧ i ≤ n ∧ Pv i σ H, ⟨n, by simp, Nat.zero_le _, h0⟩, ?_⟩
  rintro i m σ H ⟨rfl, hi, p⟩
  by_cases hlt : i < n
  · refine .inr ⟨hlt, Pv (i + 1), fun σ' H' p' => ⟨n - (i + 1), by omega, rfl, hlt, p'⟩, fun x H' y => ?_⟩
    obtain ⟨e, y⟩ := y
    subst e y
    exact hs i σ _ hlt p
  · have e : i = n := by omega
    subst e
    exact .inl ⟨Nat.le_refl _, hd σ H p⟩
/-- while, by a word and a measure of the state -/
theorem while_by {c : TT} {tb : TS} {D : Ends} {σ : St} {H : Hp} (Pv : St → Hp → Prop) (μ : St → Hp → Nat) (h0 : Pv σ H)
    (hs : ∀ σ H, Pv σ H → c σ H fun b H1 => if b = true then tb { D with nx := fun σ' H' => Pv σ' H' ∧ μ σ' H' < μ σ H, ct := fun σ' H' => Pv σ' H' ∧ μ σ' H' < μ σ H, bk := D.nx } σ H1 else D.nx σ H1)
    (mono : ∀ σ H Q Q', (∀ b H1, Q b H1 → Q' b H1) → c σ H Q → c σ H Q') : tWhile c tb D σ H := by
  refine ⟨fun m σ H => m = μ σ H ∧ Pv σ H, ⟨_, rfl, h0⟩, ?_⟩
  rintro m σ H ⟨rfl, p⟩
  refine mono σ H _ _ (fun b H1 q => ?_) (hs σ H p)
  cases b with
  | true => exact ⟨_, fun σ' H' ⟨p', l⟩ => ⟨_, l, rfl, p'⟩, q⟩
  | false => exact q
end L2

namespace L2
open PySem PySem.Spec PyProof.Rows

abbrev R2 := V → V → Hp → VK → Prop
/-- a two-place operation on values: f is binaryOp op, inplaceOp op or compareOp op -/
def OpR (X : Cx) (f : Value → Value → Sem Value) (r : R2) : Prop :=
  ∀ (pins : List (Addr × Obj)) (s : Shared) (σ : St) (H : Hp) (x y : V) (v u : Value) (Q : VK), Inv X pins σ H s → RelV x v → RelV y u → r x y H Q →
    wpAny (model X.prog X.w) X.A (f v u) (EP X pins σ Q) X.xe s
/-- a one-place operation -/
def UnR (X : Cx) (f : Value → Sem Value) (r : V → Hp → VK → Prop) : Prop :=
  ∀ (pins : List (Addr × Obj)) (s : Shared) (σ : St) (H : Hp) (x : V) (v : Value) (Q : VK), Inv X pins σ H s → RelV x v → r x H Q →
    wpAny (model X.prog X.w) X.A (f v) (EP X pins σ Q) X.xe s
/-- a call of a value that is known (a builtin, a type) with values -/
def CallR (X : Cx) (f : Value) (r : List V → Hp → VK → Prop) : Prop :=
  ∀ (pins : List (Addr × Obj)) (s : Shared) (σ : St) (H : Hp) (xs : List V) (us : List Value) (Q : VK), Inv X pins σ H s → Vals xs us → r xs H Q →
    wpAny (model X.prog X.w) X.A (call f us) (EP X pins σ Q) X.xe s
/-- a value's truth -/
def TruR (X : Cx) (r : V → Hp → (Bool → Hp → Prop) → Prop) : Prop :=
  ∀ (pins : List (Addr × Obj)) (s : Shared) (σ : St) (H : Hp) (x : V) (v : Value) (Q : Bool → Hp → Prop), Inv X pins σ H s → RelV x v → r x H Q →
    wpAny (model X.prog X.w) X.A (truthy v) (TP X pins σ Q) X.xe s

def tOp (r : R2) (ta tb : TE) : TE := fun σ H Q => ta σ H fun x H1 => tb σ H1 fun y H2 => r x y H2 Q
def tUn (r : V → Hp → VK → Prop) (ta : TE) : TE := fun σ H Q => ta σ H fun x H1 => r x H1 Q
/-- ints in, under C, and a value out -/
def rI (C : Int → Int → Prop) (g : Int → Int → V) : R2 := fun x y H Q => ∃ i j, x = .int i ∧ y = .int j ∧ C i j ∧ Q (g i j) H
def rI0 (g : Int → Int → V) : R2 := fun x y H Q => ∃ i j, x = .int i ∧ y = .int j ∧ Q (g i j) H
def rU (g : Int → V) : V → Hp → VK → Prop := fun x H Q => ∃ i, x = .int i ∧ Q (g i) H

section
variable {X : Cx} {a b c : Expr} {ta tb tc : TE} {pos : Pos}

theorem binT (ha : PE X a ta) (hb : PE X b tb) {pins : List (Addr × Obj)} {s : Shared} {σ : St} {H : Hp} {R : V → V → Hp → Prop} (I : Inv X pins σ H s)
    (h : ta σ H fun x H1 => tb σ H1 fun y H2 => R x y H2) {Q : Value → Shared → Prop} {f : Value → Value → Sem Value}
    (hf : ∀ v u s2 x y H2, Inv X pins σ H2 s2 → RelV x v → RelV y u → R x y H2 → wpAny (model X.prog X.w) X.A (f v u) Q X.xe s2) :
    wpAny (model X.prog X.w) X.A (eval a X.env) (fun v s₁ => wpAny (model X.prog X.w) X.A (eval b X.env) (fun u s₂ => wpAny (model X.prog X.w) X.A (f v u) Q X.xe s₂) X.xe s₁) X.xe s := by
  refine thn (ha pins s σ H _ I h) fun v s1 ⟨x, H1, I1, r1, q1⟩ => ?_
  refine thn (hb pins s1 σ H1 _ I1 q1) fun u s2 ⟨y, H2, I2, r2, q2⟩ => ?_
  exact hf v u s2 x y H2 I2 r1 r2 q2

theorem pe_op {op : Operator} {r : R2} (ho : OpR X (binaryOp op) r) (ha : PE X a ta) (hb : PE X b tb) : PE X (.BinOp a op b pos) (tOp r ta tb) := by
  intro pins s σ H Q I h
  exact wpAny_BinOp (binT ha hb I h fun v u s2 x y H2 I2 rx ry q => ho pins s2 σ H2 x y v u Q I2 rx ry q)
theorem pe_un {op : UnaryOp} {r : V → Hp → VK → Prop} (ho : UnR X (unaryOp op) r) (ha : PE X a ta) : PE X (.UnaryOp op a pos) (tUn r ta) := by
  intro pins s σ H Q I h
  exact UnaryOp_ (thn (ha pins s σ H _ I h) fun v s1 ⟨x, H1, I1, r1, q1⟩ => ho pins s1 σ H1 x v Q I1 r1 q1)
/-- a op= e at a name: the name's slot i -/
theorem augR {op : Operator} {r : R2} (ho : OpR X (inplaceOp op) r) {pins : List (Addr × Obj)} {s : Shared} {σ : St} {H : Hp} {x y : V} {v u : Value} {Q : VK} (I : Inv X pins σ H s)
    (rx : RelV x v) (ry : RelV y u) (q : r x y H Q) : wpAny (model X.prog X.w) X.A (inplaceOp op v u) (EP X pins σ Q) X.xe s := ho pins s σ H x y v u Q I rx ry q

/-! ### ints -/
theorem opI {f : Value → Value → Sem Value} {C : Int → Int → Prop} {g : Int → Int → Int}
    (rule : ∀ (i j : Int) (t u : Tok) (s : Shared) (Q : Value → Shared → Prop) (E : Value → Shared → Prop), C i j → Q (.int (g i j) s.toks) { s with toks := s.toks + 1 } → wpAny (model X.prog X.w) X.A (f (.int i t) (.int j u)) Q E s) :
    OpR X f (rI C fun i j => .int (g i j)) := by
  intro pins s σ H x y v u Q I rx ry h
  obtain ⟨i, j, rfl, rfl, hc, q⟩ := h
  obtain ⟨t, rfl⟩ := rx
  obtain ⟨t', rfl⟩ := ry
  exact rule i j t t' s _ _ hc ⟨.int (g i j), H, I.tok _, ⟨_, rfl⟩, q⟩
theorem opI0 {f : Value → Value → Sem Value} {g : Int → Int → Int}
    (rule : ∀ (i j : Int) (t u : Tok) (s : Shared) (Q : Value → Shared → Prop) (E : Value → Shared → Prop), Q (.int (g i j) s.toks) { s with toks := s.toks + 1 } → wpAny (model X.prog X.w) X.A (f (.int i t) (.int j u)) Q E s) :
    OpR X f (rI0 fun i j => .int (g i j)) := by
  intro pins s σ H x y v u Q I rx ry h
  obtain ⟨i, j, rfl, rfl, q⟩ := h
  obtain ⟨t, rfl⟩ := rx
  obtain ⟨t', rfl⟩ := ry
  exact rule i j t t' s _ _ ⟨.int (g i j), H, I.tok _, ⟨_, rfl⟩, q⟩
theorem opB0 {f : Value → Value → Sem Value} {g : Int → Int → Bool}
    (rule : ∀ (i j : Int) (t u : Tok) (s : Shared) (Q : Value → Shared → Prop) (E : Value → Shared → Prop), Q (.bool (g i j)) s → wpAny (model X.prog X.w) X.A (f (.int i t) (.int j u)) Q E s) :
    OpR X f (rI0 fun i j => .bl (g i j)) := by
  intro pins s σ H x y v u Q I rx ry h
  obtain ⟨i, j, rfl, rfl, q⟩ := h
  obtain ⟨t, rfl⟩ := rx
  obtain ⟨t', rfl⟩ := ry
  exact rule i j t t' s _ _ ⟨.bl (g i j), H, I, rfl, q⟩

def CDiv (i j : Int) : Prop := 0 < j ∧ j < 1073741824
def CDivN (i j : Int) : Prop := j ≠ 0 ∧ j.natAbs < 1073741824
def CPow (i j : Int) : Prop := 0 ≤ j ∧ j ≤ 1000000 ∧ i.natAbs < 2 ^ 64
def CMul (i j : Int) : Prop := (-(2 ^ 64) < i ∧ i < 2 ^ 64) ∨ (-(2 ^ 64) < j ∧ j < 2 ^ 64)
theorem CMul.ok {i j : Int} (h : CMul i j) : IntMulOk i j := by
  rcases h with ⟨h1, h2⟩ | ⟨h1, h2⟩
  · exact .of_left (intBits_le_64 h1 h2)
  · exact .of_right (intBits_le_64 h1 h2)
theorem two_pow_nn (k : Nat) : (0 : Int) ≤ 2 ^ k := by
  rw [two_pow_cast]
  exact Int.natCast_nonneg _

theorem op_add : OpR X (binaryOp .Add) (rI0 fun i j => .int (i + j)) := opI0 fun _ _ _ _ _ _ _ q => add_int q
theorem op_sub : OpR X (binaryOp .Sub) (rI0 fun i j => .int (i - j)) := opI0 fun _ _ _ _ _ _ _ q => sub_int q
theorem op_mul : OpR X (binaryOp .Mult) (rI CMul fun i j => .int (i * j)) := opI fun _ _ _ _ _ _ _ hc q => mul_int q hc.ok
/-- // by a positive divisor -/
theorem op_fdiv : OpR X (binaryOp .FloorDiv) (rI CDiv fun i j => .int (i / j)) := opI fun i j _ _ _ _ _ hc q => by
  have h1 : (0 : Int) < j := hc.1
  have h2 : j < 1073741824 := hc.2
  exact floordiv_int (by omega) (by rw [Int.fdiv_eq_ediv_of_nonneg i (by omega)]; exact q) (.inl (PyProof.noPylong_small (by omega)))
theorem op_fdivN : OpR X (binaryOp .FloorDiv) (rI CDivN fun i j => .int (i.fdiv j)) := opI fun _ _ _ _ _ _ _ hc q => floordiv_int hc.1 q (.inl (PyProof.noPylong_small hc.2))
/-- % by a positive divisor of any size -/
theorem op_mod : OpR X (binaryOp .Mod) (rI (fun _ j => 0 < j) fun i j => .int (i % j)) := opI fun i j _ _ _ _ _ hc q => by
  have h1 : (0 : Int) < j := hc
  exact mod_int' (by omega) (by rw [Int.fmod_eq_emod_of_nonneg i (by omega)]; exact q)
theorem op_modN : OpR X (binaryOp .Mod) (rI (fun _ j => j ≠ 0) fun i j => .int (i.fmod j)) := opI fun _ _ _ _ _ _ _ hc q => mod_int' hc q
theorem op_pow : OpR X (binaryOp .Pow) (rI CPow fun i j => .int (i ^ j.toNat)) := opI fun _ _ _ _ _ _ _ hc q => pow_int_small hc.1 hc.2.1 hc.2.2 q
theorem op_shl : OpR X (binaryOp .LShift) (rI CPow fun i j => .int (i * 2 ^ j.toNat)) := opI fun _ _ _ _ _ _ _ hc q => lshift_int_small hc.1 hc.2.1 hc.2.2 q
theorem op_shr : OpR X (binaryOp .RShift) (rI (fun _ j => 0 ≤ j) fun i j => .int (i / 2 ^ j.toNat)) := opI fun i j _ _ _ _ _ hc q =>
  rshift_int hc (by rw [Int.fdiv_eq_ediv_of_nonneg i (two_pow_nn _)]; exact q)
theorem op_and : OpR X (binaryOp .BitAnd) (rI0 fun i j => .int (Builtin.bitAnd i j)) := opI0 fun _ _ _ _ _ _ _ q => and_int q
theorem op_or : OpR X (binaryOp .BitOr) (rI0 fun i j => .int (Builtin.bitOr i j)) := opI0 fun _ _ _ _ _ _ _ q => or_int q
theorem op_xor : OpR X (binaryOp .BitXor) (rI0 fun i j => .int (Builtin.bitXor i j)) := opI0 fun _ _ _ _ _ _ _ q => xor_int q

theorem iop_add : OpR X (inplaceOp .Add) (rI0 fun i j => .int (i + j)) := opI0 fun _ _ _ _ _ _ _ q => iadd_int q
theorem iop_sub : OpR X (inplaceOp .Sub) (rI0 fun i j => .int (i - j)) := opI0 fun _ _ _ _ _ _ _ q => isub_int q
theorem iop_mul : OpR X (inplaceOp .Mult) (rI CMul fun i j => .int (i * j)) := opI fun _ _ _ _ _ _ _ hc q => imul_int q hc.ok
theorem iop_fdiv : OpR X (inplaceOp .FloorDiv) (rI CDiv fun i j => .int (i / j)) := opI fun i j _ _ _ _ _ hc q => by
  have h1 : (0 : Int) < j := hc.1
  have h2 : j < 1073741824 := hc.2
  exact ifloordiv_int (by omega) (by rw [Int.fdiv_eq_ediv_of_nonneg i (by omega)]; exact q) (.inl (PyProof.noPylong_small (by omega)))
theorem iop_mod : OpR X (inplaceOp .Mod) (rI (fun _ j => 0 < j) fun i j => .int (i % j)) := opI fun i j _ _ _ _ _ hc q => by
  have h1 : (0 : Int) < j := hc
  exact imod_int (by omega) (by rw [Int.fmod_eq_emod_of_nonneg i (by omega)]; exact q)
theorem iop_shl : OpR X (inplaceOp .LShift) (rI CPow fun i j => .int (i * 2 ^ j.toNat)) := opI fun _ _ _ _ _ _ _ hc q => ilshift_int_small hc.1 hc.2.1 hc.2.2 q
theorem iop_shr : OpR X (inplaceOp .RShift) (rI (fun _ j => 0 ≤ j) fun i j => .int (i / 2 ^ j.toNat)) := opI fun i j _ _ _ _ _ hc q =>
  irshift_int hc (by rw [Int.fdiv_eq_ediv_of_nonneg i (two_pow_nn _)]; exact q)
theorem iop_and : OpR X (inplaceOp .BitAnd) (rI0 fun i j => .int (Builtin.bitAnd i j)) := opI0 fun _ _ _ _ _ _ _ q => iand_int q
theorem iop_or : OpR X (inplaceOp .BitOr) (rI0 fun i j => .int (Builtin.bitOr i j)) := opI0 fun _ _ _ _ _ _ _ q => ior_int q
theorem iop_xor : OpR X (inplaceOp .BitXor) (rI0 fun i j => .int (Builtin.bitXor i j)) := opI0 fun _ _ _ _ _ _ _ q => ixor_int q

theorem unI {f : Value → Sem Value} {g : Int → Int}
    (rule : ∀ (i : Int) (t : Tok) (s : Shared) (Q : Value → Shared → Prop) (E : Value → Shared → Prop), Q (.int (g i) s.toks) { s with toks := s.toks + 1 } → wpAny (model X.prog X.w) X.A (f (.int i t)) Q E s) :
    UnR X f (rU fun i => .int (g i)) := by
  intro pins s σ H x v Q I rx h
  obtain ⟨i, rfl, q⟩ := h
  obtain ⟨t, rfl⟩ := rx
  exact rule i t s _ _ ⟨.int (g i), H, I.tok _, ⟨_, rfl⟩, q⟩
theorem un_neg : UnR X (unaryOp .USub) (rU fun i => .int (-i)) := unI fun _ _ _ _ _ q => neg_int q
theorem un_inv : UnR X (unaryOp .Invert) (rU fun i => .int (Builtin.bitNot i)) := unI fun _ _ _ _ _ q => invert_int q

/-! ### bools among ints: n += (a < b) -/
theorem op_add_ib : OpR X (binaryOp .Add) (fun x y H Q => ∃ i k, x = .int i ∧ y = .bl k ∧ Q (.int (i + b2i k)) H) := by
  intro pins s σ H x y v u Q I rx ry h
  obtain ⟨i, k, rfl, rfl, q⟩ := h
  obtain ⟨t, rfl⟩ := rx
  cases ry
  exact add_int_bool ⟨.int (i + b2i k), H, I.tok _, ⟨_, rfl⟩, q⟩
end

/-! ### comparisons -/
/-- the scalars that == tells apart as data does -/
def scal : V → V → Bool
  | .non, .non => true | .non, .int _ => true | .int _, .non => true | .non, .bl _ => true | .bl _, .non => true | .non, .str _ => true | .str _, .non => true
  | .int _, .int _ => true | .bl _, .bl _ => true | .str _, .str _ => true | .byt _, .byt _ => true
  | .int _, .str _ => true | .str _, .int _ => true | .bl _, .str _ => true | .str _, .bl _ => true
  | _, _ => false
def rEq : R2 := fun x y H Q => scal x y = true ∧ Q (.bl (decide (x = y))) H
def rNe : R2 := fun x y H Q => scal x y = true ∧ Q (.bl (!decide (x = y))) H

theorem dec_int {i j : Int} : decide (V.int i = V.int j) = (i == j) := by
  rw [Bool.eq_iff_iff]
  simp
theorem dec_bl {i j : Bool} : decide (V.bl i = V.bl j) = (i == j) := by
  rw [Bool.eq_iff_iff]
  simp
theorem dec_str {i j : Str} : decide (V.str i = V.str j) = (i == j) := by
  rw [Bool.eq_iff_iff]
  simp
theorem dec_byt {i j : Array UInt8} : decide (V.byt i = V.byt j) = (i.toList == j.toList) := by
  rw [Bool.eq_iff_iff]
  cases i
  cases j
  simp

section
variable {X : Cx} {a b c : Expr} {ta tb tc : TE} {pos : Pos}
theorem fin_bl {pins : List (Addr × Obj)} {σ : St} {H : Hp} {s : Shared} {Q : VK} {k k' : Bool} (I : Inv X pins σ H s) (q : Q (.bl k) H) (e : k = k') : EP X pins σ Q (.bool k') s := by
  subst e
  exact ⟨.bl k, H, I, rfl, q⟩
theorem op_eq : OpR X (compareOp .Eq) rEq := by
  intro pins s σ H x y v u Q I rx ry h
  obtain ⟨hs, q⟩ := h
  cases x with
  | non =>
    cases rx
    cases y with
    | non => cases ry; exact PySem.EqNone.eq_none_none (fin_bl I q (by simp))
    | bl j => cases ry; exact PySem.EqNone.eq_none_bool (fin_bl I q (by simp))
    | int j => obtain ⟨t', rfl⟩ := ry; exact PySem.EqNone.eq_none_int (fin_bl I q (by simp))
    | str j => obtain ⟨t', rfl⟩ := ry; exact PySem.EqNone.eq_none_str (fin_bl I q (by simp))
    | _ => exact absurd (show false = true from hs) Bool.false_ne_true
  | bl i =>
    cases rx
    cases y with
    | non => cases ry; exact PySem.EqNone.eq_bool_none (fin_bl I q (by simp))
    | bl j => cases ry; exact eq_bool (fin_bl I q dec_bl)
    | str j => obtain ⟨t', rfl⟩ := ry; exact PySem.EqMixed.eq_bool_str (fin_bl I q (by simp))
    | _ => exact absurd (show false = true from hs) Bool.false_ne_true
  | int i =>
    obtain ⟨t, rfl⟩ := rx
    cases y with
    | non => cases ry; exact PySem.EqNone.eq_int_none (fin_bl I q (by simp))
    | int j => obtain ⟨t', rfl⟩ := ry; exact eq_int (fin_bl I q dec_int)
    | str j => obtain ⟨t', rfl⟩ := ry; exact PySem.EqMixed.eq_int_str (fin_bl I q (by simp))
    | _ => exact absurd (show false = true from hs) Bool.false_ne_true
  | str i =>
    obtain ⟨t, rfl⟩ := rx
    cases y with
    | non => cases ry; exact PySem.EqNone.eq_str_none (fin_bl I q (by simp))
    | bl j => cases ry; exact PySem.EqMixed.eq_str_bool (fin_bl I q (by simp))
    | int j => obtain ⟨t', rfl⟩ := ry; exact PySem.EqMixed.eq_str_int (fin_bl I q (by simp))
    | str j => obtain ⟨t', rfl⟩ := ry; exact eq_str (fin_bl I q dec_str)
    | _ => exact absurd (show false = true from hs) Bool.false_ne_true
  | byt i =>
    obtain ⟨t, rfl⟩ := rx
    cases y with
    | byt j => obtain ⟨t', rfl⟩ := ry; exact PySem.W.eq_bytes (fin_bl I q dec_byt)
    | _ => exact absurd (show false = true from hs) Bool.false_ne_true
  | _ => cases y <;> exact absurd (show false = true from hs) Bool.false_ne_true
theorem op_ne : OpR X (compareOp .NotEq) rNe := by
  intro pins s σ H x y v u Q I rx ry h
  obtain ⟨hs, q⟩ := h
  cases x with
  | non =>
    cases rx
    cases y with
    | non => cases ry; exact PySem.EqNone.ne_none_none (fin_bl I q (by simp))
    | bl j => cases ry; exact PySem.EqNone.ne_none_bool (fin_bl I q (by simp))
    | int j => obtain ⟨t', rfl⟩ := ry; exact PySem.EqNone.ne_none_int (fin_bl I q (by simp))
    | str j => obtain ⟨t', rfl⟩ := ry; exact PySem.EqNone.ne_none_str (fin_bl I q (by simp))
    | _ => exact absurd (show false = true from hs) Bool.false_ne_true
  | bl i =>
    cases rx
    cases y with
    | non => cases ry; exact PySem.EqNone.ne_bool_none (fin_bl I q (by simp))
    | bl j => cases ry; exact ne_bool (fin_bl I q (congrArg not dec_bl))
    | str j => obtain ⟨t', rfl⟩ := ry; exact PySem.EqMixed.ne_bool_str (fin_bl I q (by simp))
    | _ => exact absurd (show false = true from hs) Bool.false_ne_true
  | int i =>
    obtain ⟨t, rfl⟩ := rx
    cases y with
    | non => cases ry; exact PySem.EqNone.ne_int_none (fin_bl I q (by simp))
    | int j => obtain ⟨t', rfl⟩ := ry; exact ne_int (fin_bl I q (congrArg not dec_int))
    | str j => obtain ⟨t', rfl⟩ := ry; exact PySem.EqMixed.ne_int_str (fin_bl I q (by simp))
    | _ => exact absurd (show false = true from hs) Bool.false_ne_true
  | str i =>
    obtain ⟨t, rfl⟩ := rx
    cases y with
    | non => cases ry; exact PySem.EqNone.ne_str_none (fin_bl I q (by simp))
    | bl j => cases ry; exact PySem.EqMixed.ne_str_bool (fin_bl I q (by simp))
    | int j => obtain ⟨t', rfl⟩ := ry; exact PySem.EqMixed.ne_str_int (fin_bl I q (by simp))
    | str j => obtain ⟨t', rfl⟩ := ry; exact ne_str (fin_bl I q (congrArg not dec_str))
    | _ => exact absurd (show false = true from hs) Bool.false_ne_true
  | byt i =>
    obtain ⟨t, rfl⟩ := rx
    cases y with
    | byt j => obtain ⟨t', rfl⟩ := ry; exact PySem.W.ne_bytes (fin_bl I q (congrArg not dec_byt))
    | _ => exact absurd (show false = true from hs) Bool.false_ne_true
  | _ => cases y <;> exact absurd (show false = true from hs) Bool.false_ne_true

theorem op_lt : OpR X (compareOp .Lt) (rI0 fun i j => .bl (decide (i < j))) := opB0 fun _ _ _ _ _ _ _ q => lt_int q
theorem op_le : OpR X (compareOp .LtE) (rI0 fun i j => .bl (decide (i ≤ j))) := opB0 fun _ _ _ _ _ _ _ q => le_int q
theorem op_gt : OpR X (compareOp .Gt) (rI0 fun i j => .bl (decide (j < i))) := opB0 fun _ _ _ _ _ _ _ q => gt_int q
theorem op_ge : OpR X (compareOp .GtE) (rI0 fun i j => .bl (decide (j ≤ i))) := opB0 fun _ _ _ _ _ _ _ q => ge_int q
theorem op_lt_str : OpR X (compareOp .Lt) (fun x y H Q => ∃ i j, x = .str i ∧ y = .str j ∧ Q (.bl (decide (i.cps.toList < j.cps.toList))) H) := by
  intro pins s σ H x y v u Q I rx ry h
  obtain ⟨i, j, rfl, rfl, q⟩ := h
  obtain ⟨t, rfl⟩ := rx
  obtain ⟨t', rfl⟩ := ry
  exact lt_str (fin_bl I q rfl)
/-- the one string within the other -/
theorem op_in_str : OpR X (compareOp .In) (fun x y H Q => ∃ i j, x = .str i ∧ y = .str j ∧ Q (.bl (!(Builtin.Str.occurrences j i 0 j.length 1).isEmpty)) H) := by
  intro pins s σ H x y v u Q I rx ry h
  obtain ⟨i, j, rfl, rfl, q⟩ := h
  obtain ⟨t, rfl⟩ := rx
  obtain ⟨t', rfl⟩ := ry
  exact in_str (fin_bl I q rfl)

/-- is None, is not None: the right side a value none -/
theorem op_isN : OpR X (compareOp .Is) (fun x y H Q => y = .non ∧ Q (.bl (decide (x = .non))) H) := by
  intro pins s σ H x y v u Q I rx ry h
  obtain ⟨rfl, q⟩ := h
  cases ry
  refine is_none_gen (fin_bl I q ?_)
  cases x <;> first
    | (cases rx; rfl)
    | (obtain ⟨t, rfl⟩ := rx; rfl)
theorem op_notN : OpR X (compareOp .IsNot) (fun x y H Q => y = .non ∧ Q (.bl (!decide (x = .non))) H) := by
  intro pins s σ H x y v u Q I rx ry h
  obtain ⟨rfl, q⟩ := h
  cases ry
  refine isnot_none_gen (fin_bl I q ?_)
  cases x <;> first
    | (cases rx; rfl)
    | (obtain ⟨t, rfl⟩ := rx; rfl)

theorem op_notin_str : OpR X (compareOp .NotIn) (fun x y H Q => ∃ i j, x = .str i ∧ y = .str j ∧ Q (.bl (!(!(Builtin.Str.occurrences j i 0 j.length 1).isEmpty))) H) := by
  intro pins s σ H x y v u Q I rx ry h
  obtain ⟨i, j, rfl, rfl, q⟩ := h
  obtain ⟨t, rfl⟩ := rx
  obtain ⟨t', rfl⟩ := ry
  exact notIn_str (fin_bl I q rfl)
/-- is, is not of two objects that are tracked lists or instances -/
def isObj : HO → Bool
  | .lst _ => true
  | .ins _ _ _ => true
  | _ => false
theorem obj_there {pins : List (Addr × Obj)} {s : Shared} {σ : St} {H : Hp} {a : Addr} {o : HO} (I : Inv X pins σ H s) (h : H a = some o) (p : isObj o = true) : ∃ ob, s.heap.get? a = some ob ∧ ob.cls ≠ .type "tuple" := by
  cases o with
  | lst xs =>
    obtain ⟨_, its, n, _, e⟩ : xs.length ≤ sizeLine ∧ ∃ (its : List Value) (n : Nat), Vals xs its ∧ s.heap.get? a = some { cls := .type "list", data := .seq its.toArray n } := I.hok a _ h
    exact ⟨_, e, (by show Value.type "list" ≠ .type "tuple"; decide +kernel)⟩
  | ins C dx fs =>
    have x := I.hok a _ h
    obtain ⟨_, _, _, e, _⟩ := x
    exact ⟨_, e, (by show Value.ref C ≠ .type "tuple"; exact fun z => by cases z)⟩
  | _ => exact absurd (show false = true from p) Bool.false_ne_true
theorem op_is_ref : OpR X (compareOp .Is) (fun x y H Q => ∃ a b oa ob, x = .ref a ∧ y = .ref b ∧ H a = some oa ∧ isObj oa = true ∧ H b = some ob ∧ isObj ob = true ∧ Q (.bl (decide (a = b))) H) := by
  intro pins s σ H x y v u Q I rx ry h
  obtain ⟨a, b, oa, ob, rfl, rfl, ha, pa, hb, pb, q⟩ := h
  cases rx
  cases ry
  obtain ⟨o1, e1, n1⟩ := obj_there I ha pa
  obtain ⟨o2, e2, _⟩ := obj_there I hb pb
  by_cases z : a = b
  · subst z
    exact wpAny_is_ref_self (fin_bl I q (by simp))
  · exact wpAny_is_ref_other z e1 e2 n1 (fin_bl I q (by simp [z]))
theorem op_isnot_ref : OpR X (compareOp .IsNot) (fun x y H Q => ∃ a b oa ob, x = .ref a ∧ y = .ref b ∧ H a = some oa ∧ isObj oa = true ∧ H b = some ob ∧ isObj ob = true ∧ Q (.bl (!decide (a = b))) H) := by
  intro pins s σ H x y v u Q I rx ry h
  obtain ⟨a, b, oa, ob, rfl, rfl, ha, pa, hb, pb, q⟩ := h
  cases rx
  cases ry
  obtain ⟨o1, e1, n1⟩ := obj_there I ha pa
  obtain ⟨o2, e2, _⟩ := obj_there I hb pb
  by_cases z : a = b
  · subst z
    exact wpAny_isNot_ref_self (fin_bl I q (by simp))
  · exact wpAny_isNot_ref_other z e1 e2 n1 (fin_bl I q (by simp [z]))

/-- two rules for one operation: by cases -/
theorem OpR.or {f : Value → Value → Sem Value} {r r' : R2} (h : OpR X f r) (h' : OpR X f r') : OpR X f (fun x y H Q => r x y H Q ∨ r' x y H Q) := by
  intro pins s σ H x y v u Q I rx ry q
  rcases q with q | q
  · exact h pins s σ H x y v u Q I rx ry q
  · exact h' pins s σ H x y v u Q I rx ry q

theorem nomark (b : Expr) {op : CmpOp} (h : op ≠ .In := by decide) (h2 : op ≠ .NotIn := by decide) : behindInMarks op b = false := by
  have e1 : (op == CmpOp.In) = false := by cases op <;> first | rfl | exact absurd rfl h
  have e2 : (op == CmpOp.NotIn) = false := by cases op <;> first | rfl | exact absurd rfl h2
  cases b <;> simp [behindInMarks, e1, e2]
/-- a comparison as a value; hm: nomark b, or (for in, not in) by with_unfolding_all rfl -/
theorem pe_cmpR {op : CmpOp} {r : R2} (ho : OpR X (compareOp op) r) (ha : PE X a ta) (hb : PE X b tb) (hm : behindInMarks op b = false) : PE X (.Compare a [op] [b] pos) (tOp r ta tb) := by
  intro pins s σ H Q I h
  exact wpAny_Compare1 (binT ha hb I h fun v u s2 x y H2 I2 rx ry q => ho pins s2 σ H2 x y v u Q I2 rx ry q) hm
/-- a reading of a value as a test -/
def tTest (t : TE) : TT := fun σ H Q => t σ H fun x H' => ∃ k, x = .bl k ∧ Q k H'
theorem pt_cmpR {op : CmpOp} {r : R2} (ho : OpR X (compareOp op) r) (ha : PE X a ta) (hb : PE X b tb) (hm : behindInMarks op b = false) : PT X (.Compare a [op] [b] pos) (tTest (tOp r ta tb)) := by
  intro pins s σ H Q I h
  refine wpAny_isTrue_Compare1 (thn (ha pins s σ H _ I h) fun v s1 ⟨x, H1, I1, r1, q1⟩ => thn (hb pins s1 σ H1 _ I1 q1) fun u s2 ⟨y, H2, I2, r2, q2⟩ =>
    thn (ho pins s2 σ H2 x y v u _ I2 r1 r2 q2) fun c s3 ⟨z, H3, I3, r3, k, e, q3⟩ => ?_) hm
  subst e
  cases r3
  exact wpAny_truthy_bool ⟨H3, I3, q3⟩
/-- a op1 b op2 c -/
def tChain (r r' : R2) (ta tb tc : TE) : TE := fun σ H Q => ta σ H fun x H1 => tb σ H1 fun y H2 => r x y H2 fun z H3 => ∃ k, z = .bl k ∧
  (if k = true then tc σ H3 fun w' H4 => r' y w' H4 Q else Q (.bl false) H3)
theorem pe_chain {op op' : CmpOp} {r r' : R2} (ho : OpR X (compareOp op) r) (ho' : OpR X (compareOp op') r') (ha : PE X a ta) (hb : PE X b tb) (hc : PE X c tc)
    (hm : lastMarks [op, op'] [b, c] = false := by with_unfolding_all rfl) : PE X (.Compare a [op, op'] [b, c] pos) (tChain r r' ta tb tc) := by
  intro pins s σ H Q I h
  refine Compare_chain (thn (ha pins s σ H _ I h) fun v s1 ⟨x, H1, I1, r1, q1⟩ => chain_link (thn (hb pins s1 σ H1 _ I1 q1) fun u s2 ⟨y, H2, I2, r2, q2⟩ =>
    thn (ho pins s2 σ H2 x y v u _ I2 r1 r2 q2) fun d s3 ⟨z, H3, I3, r3, k, e, q3⟩ => ?_)) hm
  subst e
  cases r3
  refine wpAny_truthy_bool ?_
  cases k with
  | false => exact ite_ff ⟨.bl false, H3, I3, rfl, q3⟩
  | true => exact ite_tt (chain_last (thn (hc pins s3 σ H3 _ I3 q3) fun w' s4 ⟨z', H4, I4, r4, q4⟩ => ho' pins s4 σ H4 y z' u w' Q I4 r2 r4 q4))
theorem pt_chain {op op' : CmpOp} {r r' : R2} (ho : OpR X (compareOp op) r) (ho' : OpR X (compareOp op') r') (ha : PE X a ta) (hb : PE X b tb) (hc : PE X c tc)
    (hm : lastMarks [op, op'] [b, c] = false := by with_unfolding_all rfl) : PT X (.Compare a [op, op'] [b, c] pos) (tTest (tChain r r' ta tb tc)) := by
  intro pins s σ H Q I h
  refine isTrue_chain (thn (ha pins s σ H _ I h) fun v s1 ⟨x, H1, I1, r1, q1⟩ => test_link (thn (hb pins s1 σ H1 _ I1 q1) fun u s2 ⟨y, H2, I2, r2, q2⟩ =>
    thn (ho pins s2 σ H2 x y v u _ I2 r1 r2 q2) fun d s3 ⟨z, H3, I3, r3, k, e, q3⟩ => ?_)) hm
  subst e
  cases r3
  refine wpAny_truthy_bool ?_
  cases k with
  | false =>
    obtain ⟨k', e', q'⟩ := q3
    cases e'
    exact ite_ff ⟨H3, I3, q'⟩
  | true =>
    refine ite_tt (test_last (thn (hc pins s3 σ H3 _ I3 q3) fun w' s4 ⟨z', H4, I4, r4, q4⟩ => thn (ho' pins s4 σ H4 y z' u w' _ I4 r2 r4 q4) fun d' s5 ⟨z2, H5, I5, r5, k2, e2, q5⟩ => ?_))
    subst e2
    cases r5
    exact wpAny_truthy_bool ⟨H5, I5, q5⟩

/-! ### truth -/
/-- a value's truth by the abstract heap -/
def TruV (K : PySem.W.Frag) (x : V) (H : Hp) (k : Bool) : Prop :=
  match x with
  | .non => k = false
  | .bl b => k = b
  | .int i => k = (i != 0)
  | .str y => y.length ≤ sizeLine ∧ k = ((y.length : Int) != 0)
  | .byt y => y.size ≤ sizeLine ∧ k = ((y.size : Int) != 0)
  | .ref p => (∃ xs, SqL K H p xs ∧ k = !xs.isEmpty) ∨ (∃ xs, SqT K H p xs ∧ k = !xs.isEmpty) ∨ ∃ kvs, H p = some (.dK kvs) ∧ k = !kvs.isEmpty
  | _ => False
theorem isEmpty_kv {κ : Type} {kvs : List (κ × V)} {vs : List (κ × Value)} (r : KV kvs vs) : (!vs.isEmpty) = !kvs.isEmpty := by
  cases r <;> rfl
theorem isEmpty_of {xs : List V} {its : List Value} (r : Vals xs its) : (!its.toArray.isEmpty) = !xs.isEmpty := by
  cases r <;> simp
theorem line63 : (sizeLine : Nat) < 2 ^ 63 := by rw [sizeLine_eq]; decide
theorem tru_ok : TruR X (fun x H Q => ∃ k, TruV X.K x H k ∧ Q k H) := by
  intro pins s σ H x v Q I rx h
  obtain ⟨k, e, q⟩ := h
  have hl := line63
  have hs : sizeLine = 16777216 := sizeLine_eq
  cases x with
  | non =>
    cases rx
    have e' : k = false := e
    subst e'
    exact truthy_none ⟨H, I, q⟩
  | bl b =>
    cases rx
    have e' : k = b := e
    subst e'
    exact wpAny_truthy_bool ⟨H, I, q⟩
  | int i =>
    obtain ⟨t, rfl⟩ := rx
    have e' : k = (i != 0) := e
    subst e'
    exact PySem.P.truthy_int ⟨H, I, q⟩
  | str y =>
    obtain ⟨t, rfl⟩ := rx
    obtain ⟨hy, e'⟩ : y.length ≤ sizeLine ∧ k = ((y.length : Int) != 0) := e
    subst e'
    exact PySem.P.truthy_str (by omega) ⟨H, I.tok _, q⟩
  | byt y =>
    obtain ⟨t, rfl⟩ := rx
    obtain ⟨hy, e'⟩ : y.size ≤ sizeLine ∧ k = ((y.size : Int) != 0) := e
    subst e'
    exact PySem.W.truthy_bytes (by omega) ⟨H, I.tok _, q⟩
  | ref p =>
    cases rx
    have e' : (∃ xs, SqL X.K H p xs ∧ k = !xs.isEmpty) ∨ (∃ xs, SqT X.K H p xs ∧ k = !xs.isEmpty) ∨ ∃ kvs, H p = some (.dK kvs) ∧ k = !kvs.isEmpty := e
    rcases e' with ⟨xs, hx, e'⟩ | ⟨xs, hx, e'⟩ | ⟨kvs, hx, e'⟩
    · subst e'
      obtain ⟨its, r, pl, hz⟩ := I.list hx
      have hlen := r.length
      exact wpAny_truthy_list pl.isList (by simp only [List.size_toArray]; omega) ⟨H, I.tok _, by rw [isEmpty_of r]; exact q⟩
    · subst e'
      obtain ⟨its, r, pl, hz⟩ := I.tuple hx
      have hlen := r.length
      exact truthy_tuple pl (by simp only [List.size_toArray]; omega) ⟨H, I.tok _, by rw [isEmpty_of r]; exact q⟩
    · subst e'
      obtain ⟨hz, hS, vs, r, m⟩ : kvs.length ≤ sizeLine ∧ (p == sysModules) = false ∧ ∃ vs, KV kvs vs ∧ s.heap.DictOf (mixKind X.prog X.w) p vs := I.hok p _ hx
      have hlen : kvs.length = vs.length := Paired.length r
      exact wpAny_truthy_dict hS m (by omega) ⟨H, I.tok _, by rw [isEmpty_kv r]; exact q⟩
  | _ => exact (show False from e).elim
/-- any expression whose test is its value's truth (a name, a call, a subscript, a field ..: he by fun _ => rfl) -/
theorem pt_truth (ha : PE X a ta) (he : ∀ whole, isTrue a X.env whole = (do let v ← whole; standAt a.pos; holding [v] (truthy v))) :
    PT X a (fun σ H Q => ta σ H fun x H' => ∃ k, TruV X.K x H' k ∧ Q k H') := by
  intro pins s σ H Q I h
  exact isTrue_plain (thn (ha pins s σ H _ I h) fun v s1 ⟨x, H1, I1, r1, q1⟩ => tru_ok pins s1 σ H1 x v Q I1 r1 q1) (he _)

/-! ### strs and bytes -/
theorem pe_byt {x : List UInt8} {k : Nat} : PE X (.Constant (.bytes x) k pos) (fun _ H Q => Q (.byt x.toArray) H) := fun _ _ _ H _ I h => PySem.W.Constant_bytes ⟨.byt x.toArray, H, I.tok _, ⟨_, rfl⟩, h⟩
theorem op_add_str : OpR X (binaryOp .Add) (fun x y H Q => ∃ i j, x = .str i ∧ y = .str j ∧ i.length + j.length ≤ sizeLine ∧ Q (.str (i ++ j)) H) := by
  intro pins s σ H x y v u Q I rx ry h
  obtain ⟨i, j, rfl, rfl, hz, q⟩ := h
  obtain ⟨t, rfl⟩ := rx
  obtain ⟨t', rfl⟩ := ry
  exact add_str (fun t' tk => ⟨.str (i ++ j), H, I.tok _, ⟨_, rfl⟩, q⟩) hz
theorem iop_add_str : OpR X (inplaceOp .Add) (fun x y H Q => ∃ i j, x = .str i ∧ y = .str j ∧ i.length + j.length ≤ sizeLine ∧ Q (.str (i ++ j)) H) := by
  intro pins s σ H x y v u Q I rx ry h
  obtain ⟨i, j, rfl, rfl, hz, q⟩ := h
  obtain ⟨t, rfl⟩ := rx
  obtain ⟨t', rfl⟩ := ry
  exact iadd_str (fun t' tk => ⟨.str (i ++ j), H, I.tok _, ⟨_, rfl⟩, q⟩) hz
theorem op_add_byt : OpR X (binaryOp .Add) (fun x y H Q => ∃ i j, x = .byt i ∧ y = .byt j ∧ i.size + j.size ≤ 16777216 ∧ Q (.byt (i ++ j)) H) := by
  intro pins s σ H x y v u Q I rx ry h
  obtain ⟨i, j, rfl, rfl, hz, q⟩ := h
  obtain ⟨t, rfl⟩ := rx
  obtain ⟨t', rfl⟩ := ry
  exact PySem.W.KBy.add_bytes hz (fun t' tk => ⟨.byt (i ++ j), H, I.tok _, ⟨_, rfl⟩, q⟩)

def PlainIxT (b : Expr) : Prop := ∀ o i, subscripted b false o i = operate [o, i] (getItem o i)
/-- s[i], 0 ≤ i < len -/
theorem pe_item_str (ha : PE X a ta) (hb : PE X b tb) (hs : PlainIxT b) :
    PE X (.Subscript a b pos) (tOp (fun x y H Q => ∃ z i c, x = .str z ∧ y = .int i ∧ 0 ≤ i ∧ i < 2 ^ 63 ∧ i < z.length ∧ z.cps[i.toNat]? = some c ∧ Q (.str ⟨#[c]⟩) H) ta tb) := by
  intro pins s σ H Q I h
  refine Subscript_ (binT ha hb I h fun v u s2 x y H2 I2 rx ry q => ?_)
  obtain ⟨z, i, c, rfl, rfl, h0, h63, h1, hc, q⟩ := q
  obtain ⟨t, rfl⟩ := rx
  obtain ⟨t', rfl⟩ := ry
  have e : seqIndex? i z.length = some i.toNat := PySem.StrLaws.seqIndex_nonneg h0 h1
  exact tail_any (typeIs_str s2 z t) slot_str_getitem.lookup (getItem_str (c := c) (by
    have e1 : decide (i < -(2 ^ 63 : Int)) = false := decide_eq_false (by omega)
    have e2 : decide (i ≥ 2 ^ 63) = false := decide_eq_false (by omega)
    rw [e1, e2] <;> rfl) (by rw [e]; exact hc) ⟨.str ⟨#[c]⟩, H2, I2.tok _, ⟨_, rfl⟩, q⟩) (hs _ _)
/-- b[i], 0 ≤ i < len -/
theorem pe_item_byt (ha : PE X a ta) (hb : PE X b tb) (hs : PlainIxT b) :
    PE X (.Subscript a b pos) (tOp (fun x y H Q => ∃ (z : List UInt8) (i : Int), x = .byt z.toArray ∧ y = .int i ∧ z.length ≤ sizeLine ∧ 0 ≤ i ∧ i < z.length ∧ Q (.int ((z.getD i.toNat 0).toNat : Nat)) H) ta tb) := by
  intro pins s σ H Q I h
  refine Subscript_ (binT ha hb I h fun v u s2 x y H2 I2 rx ry q => ?_)
  obtain ⟨z, i, rfl, rfl, hz, h0, h1, q⟩ := q
  obtain ⟨t, rfl⟩ := rx
  obtain ⟨t', rfl⟩ := ry
  have hl : sizeLine = 16777216 := sizeLine_eq
  exact tail_any (PySem.W.typeIs_bytes s2 z.toArray t) PySem.W.FB.slot_bytes_getitem.lookup (PySem.W.getItem_bytes (by omega) h0 h1 ⟨.int ((z.getD i.toNat 0).toNat : Nat), H2, I2.tok _, ⟨_, rfl⟩, q⟩) (hs _ _)

/-! ### scalar builtins, by CallR -/
theorem vals1 {x : V} {us : List Value} (r : Vals [x] us) : ∃ u, us = [u] ∧ RelV x u := by
  cases r with
  | cons r1 r2 => cases r2; exact ⟨_, rfl, r1⟩
theorem vals2 {x y : V} {us : List Value} (r : Vals [x, y] us) : ∃ u w', us = [u, w'] ∧ RelV x u ∧ RelV y w' := by
  cases r with
  | cons r1 r2 =>
    cases r2 with
    | cons r3 r4 => cases r4; exact ⟨_, _, rfl, r1, r3⟩
theorem call_abs : CallR X (.builtin "abs") (fun xs H Q => ∃ i, xs = [.int i] ∧ Q (.int (if i < 0 then -i else i)) H) := by
  intro pins s σ H xs us Q I r h
  obtain ⟨i, rfl, q⟩ := h
  obtain ⟨u, rfl, t, rfl⟩ := vals1 r
  exact call_abs_int fun u tk => ⟨.int (if i < 0 then -i else i), H, I.tok _, ⟨_, rfl⟩, q⟩
theorem call_max2 (hc : X.calm = true) : CallR X (.builtin "max") (fun xs H Q => ∃ i j, xs = [.int i, .int j] ∧ Q (.int (if j > i then j else i)) H) := by
  intro pins s σ H xs us Q I r h
  obtain ⟨i, j, rfl, q⟩ := h
  obtain ⟨u, w', rfl, ⟨t, rfl⟩, ⟨t', rfl⟩⟩ := vals2 r
  refine max_two_ints (I.ok.hd hc) fun h' tk k => ⟨_, H, I.kept k, ?_, q⟩
  by_cases hj : j > i
  · rw [if_pos hj, if_pos hj]; exact ⟨_, rfl⟩
  · rw [if_neg hj, if_neg hj]; exact ⟨_, rfl⟩
theorem call_min2 (hc : X.calm = true) : CallR X (.builtin "min") (fun xs H Q => ∃ i j, xs = [.int i, .int j] ∧ Q (.int (if j < i then j else i)) H) := by
  intro pins s σ H xs us Q I r h
  obtain ⟨i, j, rfl, q⟩ := h
  obtain ⟨u, w', rfl, ⟨t, rfl⟩, ⟨t', rfl⟩⟩ := vals2 r
  refine min_two_ints (I.ok.hd hc) fun h' tk k => ⟨_, H, I.kept k, ?_, q⟩
  by_cases hj : j < i
  · rw [if_pos hj, if_pos hj]; exact ⟨_, rfl⟩
  · rw [if_neg hj, if_neg hj]; exact ⟨_, rfl⟩
theorem call_int1 : CallR X (.type "int") (fun xs H Q => (∃ i, xs = [.int i] ∧ Q (.int i) H) ∨ ∃ k, xs = [.bl k] ∧ Q (.int (if k then 1 else 0)) H) := by
  intro pins s σ H xs us Q I r h
  rcases h with ⟨i, rfl, q⟩ | ⟨k, rfl, q⟩
  · obtain ⟨u, rfl, t, rfl⟩ := vals1 r
    exact call_int_int ⟨.int i, H, I, ⟨_, rfl⟩, q⟩
  · obtain ⟨u, rfl, r1⟩ := vals1 r
    cases r1
    exact call_int_bool ⟨.int (if k then 1 else 0), H, I.tok _, ⟨_, rfl⟩, q⟩
theorem call_bool1 : CallR X (.type "bool") (fun xs H Q => (∃ i, xs = [.int i] ∧ Q (.bl (i != 0)) H) ∨ ∃ k, xs = [.bl k] ∧ Q (.bl k) H) := by
  intro pins s σ H xs us Q I r h
  rcases h with ⟨i, rfl, q⟩ | ⟨k, rfl, q⟩
  · obtain ⟨u, rfl, t, rfl⟩ := vals1 r
    exact call_bool_int ⟨.bl (i != 0), H, I, rfl, q⟩
  · obtain ⟨u, rfl, r1⟩ := vals1 r
    cases r1
    exact call_bool_bool ⟨.bl k, H, I, rfl, q⟩
theorem call_str_int : CallR X (.type "str") (fun xs H Q => ∃ i, xs = [.int i] ∧ i.natAbs.log2 < 1920 ∧ Q (.str (toString i)) H) := by
  intro pins s σ H xs us Q I r h
  obtain ⟨i, rfl, hz, q⟩ := h
  obtain ⟨u, rfl, t, rfl⟩ := vals1 r
  exact PySem.P.str_of_int hz ⟨.str _, H, I.tok _, ⟨_, rfl⟩, q⟩
theorem call_ord : CallR X (.builtin "ord") (fun xs H Q => ∃ x, xs = [.str x] ∧ x.length = 1 ∧ Q (.int (x.cps.getD 0 0 : Nat)) H) := by
  intro pins s σ H xs us Q I r h
  obtain ⟨x, rfl, hz, q⟩ := h
  obtain ⟨u, rfl, t, rfl⟩ := vals1 r
  exact ord_of_one hz ⟨.int _, H, I.tok _, ⟨_, rfl⟩, q⟩
theorem call_chr : CallR X (.builtin "chr") (fun xs H Q => ∃ i, xs = [.int i] ∧ 0 ≤ i ∧ i ≤ 1114111 ∧ Q (.str ⟨#[i.toNat]⟩) H) := by
  intro pins s σ H xs us Q I r h
  obtain ⟨i, rfl, h0, h1, q⟩ := h
  obtain ⟨u, rfl, t, rfl⟩ := vals1 r
  exact chr_of_range h0 h1 ⟨.str _, H, I.tok _, ⟨_, rfl⟩, q⟩
/-- len of a str, a bytes, a list, a tuple -/
def LenV (K : PySem.W.Frag) (x : V) (H : Hp) (n : Nat) : Prop :=
  match x with
  | .str y => y.length ≤ sizeLine ∧ n = y.length
  | .byt y => y.size ≤ sizeLine ∧ n = y.size
  | .ref p => (∃ xs, SqL K H p xs ∧ n = xs.length) ∨ ∃ xs, SqT K H p xs ∧ n = xs.length
  | _ => False
theorem call_len : CallR X (.builtin "len") (fun xs H Q => ∃ x n, xs = [x] ∧ LenV X.K x H n ∧ Q (.int n) H) := by
  intro pins s σ H xs us Q I r h
  obtain ⟨x, n, rfl, e, q⟩ := h
  obtain ⟨u, rfl, rx⟩ := vals1 r
  have hl := line63
  have hs : sizeLine = 16777216 := sizeLine_eq
  cases x with
  | str y =>
    obtain ⟨t, rfl⟩ := rx
    obtain ⟨hy, e'⟩ : y.length ≤ sizeLine ∧ n = y.length := e
    subst e'
    exact len_str (by omega) ⟨.int _, H, I.tok _, ⟨_, rfl⟩, q⟩
  | byt y =>
    obtain ⟨t, rfl⟩ := rx
    obtain ⟨hy, e'⟩ : y.size ≤ sizeLine ∧ n = y.size := e
    subst e'
    exact PySem.W.len_bytes (by omega) ⟨.int _, H, I.tok _, ⟨_, rfl⟩, q⟩
  | ref p =>
    cases rx
    have e' : (∃ xs, SqL X.K H p xs ∧ n = xs.length) ∨ ∃ xs, SqT X.K H p xs ∧ n = xs.length := e
    rcases e' with ⟨xs, hx, e'⟩ | ⟨xs, hx, e'⟩
    · subst e'
      obtain ⟨its, r', pl, hz⟩ := I.list hx
      have hlen := r'.length
      exact Calls.call_len_list pl.isList (by simp only [List.size_toArray]; omega) ⟨.int xs.length, H, I.tok _, ⟨_, by simp only [List.size_toArray]; rw [hlen]⟩, q⟩
    · subst e'
      obtain ⟨its, r', pl, hz⟩ := I.tuple hx
      have hlen := r'.length
      exact len_tuple pl (by simp only [List.size_toArray]; omega) ⟨.int xs.length, H, I.tok _, ⟨_, by simp only [List.size_toArray]; rw [hlen]⟩, q⟩
  | _ => exact (show False from e).elim
/-- divmod: a new tuple -/
theorem call_divmod : CallR X (.builtin "divmod") (fun xs H Q => ∃ i j, xs = [.int i, .int j] ∧ CDiv i j ∧ ∀ p, H p = none → Q (.ref p) (upd H p (.tup [.int (i / j), .int (i % j)]))) := by
  intro pins s σ H xs us Q I r h
  obtain ⟨i, j, rfl, ⟨h1, h2⟩, q⟩ := h
  obtain ⟨u, w', rfl, ⟨t, rfl⟩, ⟨t', rfl⟩⟩ := vals2 r
  refine divmod_int (by omega) ?_ (.inl (PyProof.noPylong_small (by omega)))
  rw [Int.fdiv_eq_ediv_of_nonneg i (by omega), Int.fmod_eq_emod_of_nonneg i (by omega)]
  have hn : H s.heap.objs.size = none := I.hok.fresh (Nat.le_refl _)
  refine ⟨.ref s.heap.objs.size, _, ?_, rfl, q _ hn⟩
  refine I.laid (fun b o e => Heap.get?_push_of_some _ e) (Nat.le_refl _) ⟨by simp only [List.length_cons, List.length_nil]; rw [sizeLine_eq]; decide, [.int (i / j) s.toks, .int (i % j) (s.toks + 1)], .cons ⟨_, rfl⟩ (.cons ⟨_, rfl⟩ .nil), ?_⟩
  exact ⟨_, Heap.get?_push_size s.heap rfl, rfl, 0, rfl⟩
end
end L2

namespace L2
open PySem PySem.Spec PyProof.Rows

/-! ### an instance, its attributes a map -/
structure ObjM (h : Heap) (x dx C : Addr) (mA : Str → Option Value) : Prop where
  obj : h.get? x = some (PySem.W.instObj C dx)
  ns : h.Ns1 dx mA
  ne : dx ≠ x

theorem lookIn_ns {h : Heap} {dx : Addr} {mA : Str → Option Value} (n : h.Ns1 dx mA) : ∃ od, h.get? dx = some od ∧ ∀ name, PySem.W.lookIn name od = some (mA name) := by
  obtain ⟨o, es, ep, ho, hd, hk, _, hm⟩ := n
  refine ⟨o, ho, fun name => ?_⟩
  have e := hm name
  unfold nsFind findBy at e
  rw [← Array.find?_toList] at e
  unfold PySem.W.lookIn
  rw [hd]
  dsimp only
  split
  · rename_i y q
    rw [q] at e
    exact congrArg some e
  · rename_i q
    rw [q] at e
    have a : es.toList.any (·.refKey) = false := by
      rw [List.any_eq_false]
      intro y hy
      obtain ⟨z, t, hkey⟩ := hk y (Array.mem_toList_iff.mp hy)
      simp [DictEntry.refKey, hkey]
    have a' : ¬ es.toList.any (·.refKey) = true := by rw [a]; exact Bool.false_ne_true
    rw [if_neg a']
    exact congrArg some e

theorem ObjM.look {h : Heap} {x dx C : Addr} {mA : Str → Option Value} (I : ObjM h x dx C mA) : ∃ od, PySem.W.InstAt h x (PySem.W.instObj C dx) C (some od) ∧ ∀ name, PySem.W.lookIn name od = some (mA name) :=
  let ⟨od, ho, hl⟩ := lookIn_ns I.ns
  ⟨od, ⟨I.obj, rfl, rfl, ho⟩, hl⟩

section
variable {prog : Program} {w : World} {A : Around} {E : Value → Shared → Prop} {s : Shared} {K : PySem.W.Frag} {x dx C f : Addr} {mA : Str → Option Value} {name : Str} {v : Value}

theorem get_map {expr : Bool} {Q : Value → Shared → Prop} (X : K.In s.heap) (I : ObjM s.heap x dx C mA) (hg : PySem.W.plainGet K C name = true) (hh : PySem.W.hasDictIn K C = true)
    (ha : PySem.W.findIn K (.ref C) name = some none) (hv : mA name = some v) (hv' : PySem.W.handedIn v = true) (h : Q v { s with toks := s.toks + 1 }) :
    wpAny (model prog w) A (getAttr (.ref x) name expr) Q E s := by
  obtain ⟨od, J, hl⟩ := I.look
  exact PySem.W.get_value X J (PySem.W.plainGet_of hg).1 (PySem.W.findObj_own hh ha rfl (by rw [hl, hv])) hv' h

theorem get_const {expr : Bool} {a : Value} {Q : Value → Shared → Prop} (X : K.In s.heap) (I : ObjM s.heap x dx C mA) (hg : PySem.W.plainGet K C name = true) (hh : PySem.W.hasDictIn K C = true)
    (ha : PySem.W.findIn K (.ref C) name = some (some a)) (hn : PySem.W.specialIn K a "__get__" = some none) (hc : PySem.W.copiedNames.contains name = false) (hv : mA name = none) (hv' : PySem.W.handedIn a = true)
    (h : Q a { s with toks := s.toks + 1 }) : wpAny (model prog w) A (getAttr (.ref x) name expr) Q E s := by
  obtain ⟨od, J, hl⟩ := I.look
  exact PySem.W.get_value X J (PySem.W.plainGet_of hg).1 (PySem.W.findObj_cls hh ha hn hv' hc (by rw [hl, hv])) hv' h

theorem get_meth {pl : Sem Bool} {Q : Value × List Value → Shared → Prop} (X : K.In s.heap) (I : ObjM s.heap x dx C mA) (hg : PySem.W.plainGet K C name = true)
    (hf : PySem.W.findIn K (.ref C) name = some (some (.ref f))) (ht : PySem.W.isFn K (.ref f) = true) (hv : mA name = none) (h : Q (.ref f, [.ref x]) s) :
    wpAny (model prog w) A (getMethod (.ref x) name pl) Q E s := by
  obtain ⟨od, J, hl⟩ := I.look
  exact PySem.W.method_fn X J (PySem.W.plainGet_of hg).1 (PySem.W.plainGet_of hg).2 hf (beq_iff_eq.mp ht) (by show (PySem.W.lookIn name od).map (·.isSome) = some false; rw [hl, hv]; rfl) h

theorem set_map {ns : List Str} {Q : Unit → Shared → Prop} (X : K.In s.heap) (I : ObjM s.heap x dx C mA)
    (hs : PySem.W.findIn K (.ref C) "__setattr__" = some (some (.builtin "object.__setattr__"))) (hp : PySem.W.plainOver K C = true) (ht : PySem.W.takerIn K C name = some none) (hh : PySem.W.hasDictIn K C = true)
    (hw : PySem.Within mA ns) (hsz : ns.length ≤ sizeLine)
    (h : ∀ h', ObjM h' x dx C (fun y => if y = name then some v else mA y) → Heap.SameBut dx s.heap h' → Q () { s with heap := h', toks := s.toks + 2 }) :
    wpAny (model prog w) A (setAttr (.ref x) name v) Q E s := by
  obtain ⟨od, J, hl⟩ := I.look
  refine PySem.W.set_plain X J hs (PySem.W.osa_open (s := { s with toks := s.toks + 1 }) (r := none) X J hp ht fun b => ?_)
  obtain ⟨cd, hc, hd'⟩ := PySem.W.any_some hh
  have hx : s.heap.get? x = some ⟨.ref C, some dx, .plain, #[]⟩ := I.obj
  refine wpAny_bind (wpAny_pure (wpAny_bind (wpAny_bind (wpAny_loadPart hx (wpAny_bind (PySem.W.Looks.here (s := { s with toks := s.toks + 1 }) (PySem.W.looks_clsIn X hc) ?_))))))
  rw [hd']
  refine wpAny_pure (a := some dx) (wpAny_bind (wpAny_pure (wpAny_bind ?_)))
  refine wpAny_nsSet1 (s := { s with toks := s.toks + 1 }) I.ns fun h' hn2 hs2 => ?_
  obtain ⟨oD, esD, epD, hoD, hdD, hcD⟩ := hn2.count (PySem.Within.cons name v hw)
  refine wpAny_bind (wpAny_lookBehind hoD (by rw [hdD]; exact pastItsLine_dict (Nat.le_trans hcD (by rw [List.length_cons]; omega))) ?_)
  exact wpAny_pure (h _ ⟨(hs2.2 _ (Ne.symm I.ne)).trans I.obj, hn2, I.ne⟩ hs2)

/-- C(..): the dict at the heap's end, the instance behind it; then its __init__ -/
theorem make_map {R : Result → Shared → Prop} {vs : List Value} {kw : List (Str × Value)} (X : K.In s.heap) (hm : PySem.W.makesIn K C = true)
    (hi : PySem.W.findIn K (.ref C) "__init__" = some (some (.ref f))) (hf : PySem.W.typeIn K (.ref f) = some (.type "function"))
    (h : codeAny (model prog w) (A.under (.builtin "type.__call__" ⟨.ref C :: vs, kw⟩)) (.call (.ref f) ⟨.ref (s.heap.objs.size + 1) :: vs, kw⟩) (PySem.W.InitBack (s.heap.objs.size + 1) R)
      { s with heap := (s.heap.push PySem.W.emptyDict).push (PySem.W.instObj C s.heap.objs.size) }) :
    codeAny (model prog w) A (.call (.ref C) ⟨vs, kw⟩) R s := by
  obtain ⟨hh, g, d, t, os⟩ := s
  exact PySem.W.make_core (PySem.W.makes_of X hm) (PySem.W.looks_findIn X hi) (fun self => PySem.W.bind_fn X self hf) (.inl rfl) h
/-- C() where there is no __init__ but object's -/
theorem make_map0 {R : Result → Shared → Prop} (X : K.In s.heap) (hm : PySem.W.makesIn K C = true)
    (hi : PySem.W.findIn K (.ref C) "__init__" = some (some (.builtin "object.__init__")))
    (hb : ∀ self, PySem.W.Looks (model prog w) s.heap (bindSpecial (.builtin "object.__init__") self) (.builtin "object.__init__", [self]))
    (h : codeAny (model prog w) (A.under (.builtin "type.__call__" ⟨[.ref C], []⟩)) (.call (.builtin "object.__init__") ⟨[.ref (s.heap.objs.size + 1)], []⟩) (PySem.W.InitBack (s.heap.objs.size + 1) R)
      { s with heap := (s.heap.push PySem.W.emptyDict).push (PySem.W.instObj C s.heap.objs.size) }) :
    codeAny (model prog w) A (.call (.ref C) ⟨[], []⟩) R s := by
  obtain ⟨hh, g, d, t, os⟩ := s
  exact PySem.W.make_core (PySem.W.makes_of X hm) (PySem.W.looks_findIn X hi) hb (.inr ⟨rfl, rfl⟩) h
end

/-! ### the attributes as a list of pairs -/
def putF (f : Str) (v : V) : List (Str × V) → List (Str × V)
  | [] => [(f, v)]
  | (g, x) :: r => if g = f then (g, v) :: r else (g, x) :: putF f v r
theorem lookup_putF (f g : Str) (v : V) : ∀ fs : List (Str × V), (putF f v fs).lookup g = if g = f then some v else fs.lookup g
  | [] => by
    show List.lookup g [(f, v)] = _
    by_cases h : g = f
    · have hb : (g == f) = true := beq_iff_eq.mpr h
      simp only [List.lookup, hb, if_pos h]
    · have hb : (g == f) = false := beq_eq_false_iff_ne.mpr h
      simp only [List.lookup, hb, if_neg h]
  | (k, x) :: r => by
    have ih := lookup_putF f g v r
    rw [show putF f v ((k, x) :: r) = (if k = f then (k, v) :: r else (k, x) :: putF f v r) from rfl]
    by_cases hk : k = f
    · rw [if_pos hk]
      by_cases h : g = k
      · have hb : (g == k) = true := beq_iff_eq.mpr h
        simp only [List.lookup, hb, if_pos (h.trans hk)]
      · have hb : (g == k) = false := beq_eq_false_iff_ne.mpr h
        simp only [List.lookup, hb, if_neg (fun e : g = f => h (e.trans hk.symm))]
    · rw [if_neg hk]
      by_cases h : g = k
      · have hb : (g == k) = true := beq_iff_eq.mpr h
        simp only [List.lookup, hb, if_neg (fun e : g = f => hk (h.symm.trans e))]
      · have hb : (g == k) = false := beq_eq_false_iff_ne.mpr h
        simp only [List.lookup, hb]
        exact ih
theorem keys_putF (f : Str) (v : V) : ∀ fs : List (Str × V), f ∈ (putF f v fs).map (·.1) ∧ ∀ g, g ∈ fs.map (·.1) → g ∈ (putF f v fs).map (·.1)
  | [] => ⟨by simp [putF], fun g h => by simp at h⟩
  | (k, x) :: r => by
    obtain ⟨i1, i2⟩ := keys_putF f v r
    rw [show putF f v ((k, x) :: r) = (if k = f then (k, v) :: r else (k, x) :: putF f v r) from rfl]
    by_cases hk : k = f
    · rw [if_pos hk]
      subst hk
      exact ⟨by simp, fun g h => by simpa using h⟩
    · rw [if_neg hk]
      refine ⟨?_, fun g h => ?_⟩
      · rw [List.map_cons]
        exact List.mem_cons_of_mem _ i1
      · rw [List.map_cons] at h ⊢
        rcases List.mem_cons.mp h with e | e
        · exact List.mem_cons.mpr (.inl e)
        · exact List.mem_cons_of_mem _ (i2 g e)
theorem length_putF (f : Str) (v : V) : ∀ fs : List (Str × V), (putF f v fs).length ≤ fs.length + 1
  | [] => by simp [putF]
  | (k, x) :: r => by
    have ih := length_putF f v r
    rw [show putF f v ((k, x) :: r) = (if k = f then (k, v) :: r else (k, x) :: putF f v r) from rfl]
    by_cases hk : k = f
    · rw [if_pos hk, List.length_cons, List.length_cons]; omega
    · rw [if_neg hk, List.length_cons, List.length_cons]; omega

theorem RelO.some_of {v : V} {o : Option Value} (r : RelO (some v) o) : ∃ u, o = some u ∧ RelV v u := by
  cases o with
  | none => exact (show False from r).elim
  | some u => exact ⟨u, rfl, r⟩
theorem RelO.none_of {o : Option Value} (r : RelO none o) : o = none := by
  cases o with
  | none => rfl
  | some u => exact (show False from r).elim
theorem handed_of {v : V} {u : Value} (r : RelV v u) : PySem.W.handedIn u = true := by
  cases v with
  | non => cases (show u = Value.none from r); rfl
  | bl b => cases (show u = Value.bool b from r); rfl
  | int i => obtain ⟨t, e⟩ := (show ∃ t, u = Value.int i t from r); cases e; rfl
  | str x => obtain ⟨t, e⟩ := (show ∃ t, u = Value.str x t from r); cases e; rfl
  | byt b => obtain ⟨t, e⟩ := (show ∃ t, u = Value.bytes b t from r); cases e; rfl
  | flt b => obtain ⟨t, e⟩ := (show ∃ t, u = Value.float b t from r); cases e; rfl
  | ref a => cases (show u = Value.ref a from r); rfl
  | ty n => cases (show u = Value.type n from r); rfl

section
variable {P : Program} {w : World} {H H' : Hp} {h h' : Heap} {a C dx : Addr} {fs fs' : List (Str × V)}
theorem ins_get (hok : HOk P w H h) (e : H a = some (.ins C dx fs)) : ∃ mA, ObjM h a dx C mA ∧ (∀ f, RelO (fs.lookup f) (mA f)) ∧ PySem.Within mA (fs.map (·.1)) ∧ fs.length ≤ 1000 ∧ H dx = some (.own a) := by
  obtain ⟨d, z, ne, ob, mA, n, r, q⟩ := (show ObjOk P w H h a (.ins C dx fs) from hok a _ e)
  exact ⟨mA, ⟨ob, n, ne⟩, r, q, z, d⟩
end

/-! ### what of the text a class must have -/
structure Cls (K : PySem.W.Frag) (C : Addr) : Prop where
  pg : PySem.W.plainGet K C Str.empty = true
  hd : PySem.W.hasDictIn K C = true
  po : PySem.W.plainOver K C = true
  sa : PySem.W.findIn K (.ref C) "__setattr__" = some (some (.builtin "object.__setattr__"))
theorem Cls.get {K : PySem.W.Frag} {C : Addr} (c : Cls K C) (f : Str) : PySem.W.plainGet K C f = true := c.pg
/-- no class of it has the name -/
def NoAttr (K : PySem.W.Frag) (C : Addr) (f : Str) : Prop := PySem.W.findIn K (.ref C) f = some none
theorem NoAttr.taker {K : PySem.W.Frag} {C : Addr} {f : Str} (n : NoAttr K C f) : PySem.W.takerIn K C f = some none := by
  unfold PySem.W.takerIn
  rw [show PySem.W.findIn K (.ref C) f = some none from n]
  rfl
/-- a constant of the class -/
structure Con (K : PySem.W.Frag) (C : Addr) (f : Str) (v : V) (u : Value) : Prop where
  at_ : PySem.W.findIn K (.ref C) f = some (some u)
  rel : RelV v u
  get : PySem.W.specialIn K u "__get__" = some none
  cp : PySem.W.copiedNames.contains f = false
/-- a method: a plain def of the class or of one above it -/
structure Meth (K : PySem.W.Frag) (C : Addr) (m : Str) (f : Addr) : Prop where
  at_ : PySem.W.findIn K (.ref C) m = some (some (.ref f))
  fn : PySem.W.isFn K (.ref f) = true
  kp : PySem.W.keepIn K (.ref f) = true

section
variable {X : Cx} {pins : List (Addr × Obj)} {σ : St} {H : Hp} {s : Shared} {a C dx : Addr} {fs : List (Str × V)} {f : Str} {v : V} {A : Around} {E : Value → Shared → Prop}

theorem getattr_ok {b : Bool} {Q : Value → Shared → Prop} (I : Inv X pins σ H s) (e : H a = some (.ins C dx fs)) (c : Cls X.K C) (n : NoAttr X.K C f) (l : fs.lookup f = some v)
    (h : ∀ u s', Inv X pins σ H s' → RelV v u → Q u s') : wpAny (model X.prog X.w) A (getAttr (.ref a) f b) Q E s := by
  obtain ⟨mA, O, r, _, _, _⟩ := ins_get I.hok e
  obtain ⟨u, hu, ru⟩ := RelO.some_of (v := v) (o := mA f) (by rw [← l]; exact r f)
  exact get_map I.kIn O (c.get f) c.hd n hu (handed_of ru) (h u _ (I.tok _) ru)

theorem getcon_ok {b : Bool} {u : Value} {Q : Value → Shared → Prop} (I : Inv X pins σ H s) (e : H a = some (.ins C dx fs)) (c : Cls X.K C) (k : Con X.K C f v u) (l : fs.lookup f = none)
    (h : ∀ s', Inv X pins σ H s' → Q u s') : wpAny (model X.prog X.w) A (getAttr (.ref a) f b) Q E s := by
  obtain ⟨mA, O, r, _, _, _⟩ := ins_get I.hok e
  have hn : mA f = none := RelO.none_of (by rw [← l]; exact r f)
  exact get_const I.kIn O (c.get f) c.hd k.at_ k.get k.cp hn (handed_of k.rel) (h _ (I.tok _))

theorem getmeth_ok {m : Str} {g : Addr} {pl : Sem Bool} {Q : Value × List Value → Shared → Prop} (I : Inv X pins σ H s) (e : H a = some (.ins C dx fs)) (c : Cls X.K C) (k : Meth X.K C m g) (l : fs.lookup m = none)
    (h : Q (.ref g, [.ref a]) s) : wpAny (model X.prog X.w) A (getMethod (.ref a) m pl) Q E s := by
  obtain ⟨mA, O, r, _, _, _⟩ := ins_get I.hok e
  have hn : mA m = none := RelO.none_of (by rw [← l]; exact r m)
  exact get_meth I.kIn O (c.get m) k.at_ k.fn hn h

theorem setattr_ok {y : V} {u : Value} {Q : Unit → Shared → Prop} (I : Inv X pins σ H s) (e : H a = some (.ins C dx fs)) (c : Cls X.K C) (n : NoAttr X.K C f) (hl : fs.length < 1000) (ry : RelV y u)
    (h : ∀ s', Inv X pins σ (upd H a (.ins C dx (putF f y fs))) s' → Q () s') : wpAny (model X.prog X.w) A (setAttr (.ref a) f u) Q E s := by
  obtain ⟨mA, O, r, wi, _, ho⟩ := ins_get I.hok e
  have hz : (fs.map (·.1)).length ≤ sizeLine := by rw [List.length_map, sizeLine_eq]; omega
  refine set_map I.kIn O c.sa c.po n.taker c.hd wi hz fun h' O' sb => h _ ?_
  have hd : ∃ o, h'.get? dx = some o := let ⟨o, _, _, e', _⟩ := O'.ns; ⟨o, e'⟩
  refine I.write (x := a) (e := dx) (by rw [e]; exact True.intro) (.inr ho) (fun b q hb z => (sb.2 b hb).trans z) hd ?_
  refine ⟨by rw [upd_ne O.ne]; exact ho, ?_, O.ne, O'.obj, _, O'.ns, fun g => ?_, fun g hg => ?_⟩
  · have := length_putF f y fs; omega
  · show RelO ((putF f y fs).lookup g) (if g = f then some u else mA g)
    rw [lookup_putF]
    by_cases q : g = f
    · rw [if_pos q, if_pos q]; exact ry
    · rw [if_neg q, if_neg q]; exact r g
  · by_cases q : g = f
    · rw [q]; exact (keys_putF f y fs).1
    · refine (keys_putF f y fs).2 g (wi g fun z => hg ?_)
      show (if g = f then some u else mA g) = none
      rw [if_neg q]; exact z

/-- a new instance, tracked, without attributes -/
theorem Inv.made (I : Inv X pins σ H s) : Inv X pins σ (upd (upd H s.heap.objs.size (.own (s.heap.objs.size + 1))) (s.heap.objs.size + 1) (.ins C s.heap.objs.size []))
    { s with heap := (s.heap.push PySem.W.emptyDict).push (PySem.W.instObj C s.heap.objs.size) } := by
  have e1 : (s.heap.push PySem.W.emptyDict).get? s.heap.objs.size = some PySem.W.emptyDict := Heap.get?_push_size s.heap rfl
  have e2 : ((s.heap.push PySem.W.emptyDict).push (PySem.W.instObj C s.heap.objs.size)).get? (s.heap.objs.size + 1) = some (PySem.W.instObj C s.heap.objs.size) := by
    have := Heap.get?_push_size (s.heap.push PySem.W.emptyDict) (o := PySem.W.instObj C s.heap.objs.size) rfl
    rwa [Heap.size_push] at this
  have e3 : (s.heap.push PySem.W.emptyDict).Ns s.heap.objs.size (fun _ => none) := ⟨PySem.W.emptyDict, #[], _, e1, rfl, (fun e he => absurd he (by simp)), fun _ => rfl⟩
  have I1 := I.laid (a := s.heap.objs.size) (o := .own (s.heap.objs.size + 1)) (h' := s.heap.push PySem.W.emptyDict) (t' := s.toks) (fun b u q => Heap.get?_push_of_some _ q) (Nat.le_refl _) ⟨_, e1⟩
  refine I1.laid (a := s.heap.objs.size + 1) (o := .ins C s.heap.objs.size []) (t' := s.toks) (fun b u q => Heap.get?_push_of_some _ q) (Nat.le_of_eq (Heap.size_push _ _)) ?_
  have ne : s.heap.objs.size ≠ s.heap.objs.size + 1 := Nat.ne_of_lt (Nat.lt_succ_self _)
  refine ⟨by rw [upd_ne ne, upd_same], Nat.zero_le _, ne, e2, fun _ => none, (Heap.Ns1.of_empty e3).at fun o q => Heap.get?_push_of_some _ q, fun _ => True.intro, fun y hy => absurd rfl hy⟩

/-- e.f where nothing but the object is asked: through attributeBase (super) and the last hold -/
theorem attr_of {prog : Program} {w : World} {env : Env} {e : Expr} {f : Str} {pos : Pos} {s : Shared} {Q : Value → Shared → Prop} (hb : attributeBase e f env (eval e env) = eval e env)
    (h : wpAny (model prog w) A (eval e env) (fun o s₁ => wpAny (model prog w) A (getAttr o f true) Q E s₁) E s) : wpAny (model prog w) A (eval (.Attribute e f pos) env) Q E s :=
  Attribute_any_ h (by rw [arm_eval_Attribute, hb])
end

/-! ### readings and rules -/
/-- e.f, an attribute of the instance -/
def tFld (K : PySem.W.Frag) (ta : TE) (f : Str) : TE := fun σ H Q => ta σ H fun x H1 => ∃ a C dx fs v, x = .ref a ∧ H1 a = some (.ins C dx fs) ∧ Cls K C ∧ NoAttr K C f ∧ fs.lookup f = some v ∧ Q v H1
/-- e.f, a constant of the class -/
def tCon (K : PySem.W.Frag) (ta : TE) (f : Str) : TE := fun σ H Q => ta σ H fun x H1 => ∃ a C dx fs v u, x = .ref a ∧ H1 a = some (.ins C dx fs) ∧ Cls K C ∧ Con K C f v u ∧ fs.lookup f = none ∧ Q v H1
/-- e.f = value -/
def sFld (K : PySem.W.Frag) (ta tv : TE) (f : Str) : TS := fun D σ H => tv σ H fun y H1 => ta σ H1 fun x H2 => ∃ a C dx fs, x = .ref a ∧ H2 a = some (.ins C dx fs) ∧ Cls K C ∧ NoAttr K C f ∧ fs.length < 1000 ∧
  D.nx σ (upd H2 a (.ins C dx (putF f y fs)))
/-- an augmented operator on two values -/
def InOp (X : Cx) (op : Operator) (rd : V → V → Hp → VK → Prop) : Prop :=
  ∀ (pins : List (Addr × Obj)) (s : Shared) (σ : St) (H : Hp) (x y : V) (u v : Value) (Q : VK), Inv X pins σ H s → RelV x u → RelV y v → rd x y H Q → wpAny (model X.prog X.w) X.A (inplaceOp op u v) (EP X pins σ Q) X.xe s
/-- e.f op= value -/
def sFldAug (K : PySem.W.Frag) (ta tv : TE) (rd : V → V → Hp → VK → Prop) (f : Str) : TS := fun D σ H => ta σ H fun x H1 => ∃ a C dx fs v, x = .ref a ∧ H1 a = some (.ins C dx fs) ∧ Cls K C ∧ NoAttr K C f ∧ fs.lookup f = some v ∧
  tv σ H1 fun y H2 => rd v y H2 fun z H3 => ∃ dx' fs', H3 a = some (.ins C dx' fs') ∧ fs'.length < 1000 ∧ D.nx σ (upd H3 a (.ins C dx' (putF f z fs')))

section
variable {X : Cx} {o e value : Expr} {f : Str} {pos pos' tpos : Pos} {ta tv : TE}
theorem pe_fld (he : PE X e ta) (hb : attributeBase e f X.env (eval e X.env) = eval e X.env) : PE X (.Attribute e f pos) (tFld X.K ta f) := by
  intro pins s σ H Q I h
  refine attr_of hb (thn (he pins s σ H _ I h) fun u s1 ⟨x, H1, I1, rx, a, C, dx, fs, v, ex, ea, c, n, l, q⟩ => ?_)
  subst ex
  obtain rfl : u = Value.ref a := rx
  exact getattr_ok I1 ea c n l fun u' s2 I2 ru => ⟨v, H1, I2, ru, q⟩
theorem pe_con (he : PE X e ta) (hb : attributeBase e f X.env (eval e X.env) = eval e X.env) : PE X (.Attribute e f pos) (tCon X.K ta f) := by
  intro pins s σ H Q I h
  refine attr_of hb (thn (he pins s σ H _ I h) fun u s1 ⟨x, H1, I1, rx, a, C, dx, fs, v, u0, ex, ea, c, k, l, q⟩ => ?_)
  subst ex
  obtain rfl : u = Value.ref a := rx
  exact getcon_ok I1 ea c k l fun s2 I2 => ⟨v, H1, I2, k.rel, q⟩
theorem ps_fld (ha : PE X o ta) (hv : PE X value tv) (hs : swapsWith value (some (.Attribute o f pos')) pos.line X.env = pure false) : PS X (.Assign [.Attribute o f pos'] value pos) (sFld X.K ta tv f) := by
  intro pins s σ H D I h
  refine plainObj_wpAny_Assign_Attribute (thn (hv pins s σ H _ I h) fun u s1 ⟨y, H1, I1, ry, q⟩ => thn (ha pins s1 σ H1 _ I1 q) fun ov s2 ⟨x, H2, I2, rx, a, C, dx, fs, ex, ea, c, n, l, q2⟩ => ?_) hs
  subst ex
  obtain rfl : ov = Value.ref a := rx
  exact setattr_ok I2 ea c n l ry fun s3 I3 => ⟨σ, _, I3, q2⟩
theorem ps_fldaug {op : Operator} {rd : V → V → Hp → VK → Prop} (ha : PE X o ta) (hv : PE X value tv) (hop : InOp X op rd) : PS X (.AugAssign (.Attribute o f tpos) op value pos) (sFldAug X.K ta tv rd f) := by
  intro pins s σ H D I h
  refine wpAny_AugAssign_AttributeAny (thn (ha pins s σ H _ I h) fun ov s1 ⟨x, H1, I1, rx, a, C, dx, fs, v, ex, ea, c, n, l, q⟩ => ?_)
  subst ex
  obtain rfl : ov = Value.ref a := rx
  refine getattr_ok I1 ea c n l fun u s2 I2 ru => thn (hv pins s2 σ H1 _ I2 q) fun w3 s3 ⟨y, H2, I3, ry, q3⟩ => thn (hop pins s3 σ H2 v y u w3 _ I3 ru ry q3) fun w4 s4 ⟨z, H3, I4, rz, dx', fs', ea', l', q4⟩ => ?_
  exact setattr_ok I4 ea' c n l' rz fun s5 I5 => ⟨σ, _, I5, q4⟩
def rAdd : V → V → Hp → VK → Prop := fun x y H Q => ∃ i j, x = .int i ∧ y = .int j ∧ Q (.int (i + j)) H
def rSub : V → V → Hp → VK → Prop := fun x y H Q => ∃ i j, x = .int i ∧ y = .int j ∧ Q (.int (i - j)) H
theorem in_add : InOp X .Add rAdd := by
  rintro pins s σ H x y u v Q I rx ry ⟨i, j, rfl, rfl, q⟩
  obtain ⟨t, rfl⟩ := (show ∃ t, u = Value.int i t from rx)
  obtain ⟨t', rfl⟩ := (show ∃ t', v = Value.int j t' from ry)
  exact PyProof.Rows.iadd_int ⟨.int (i + j), H, I.tok _, ⟨_, rfl⟩, q⟩
theorem in_sub : InOp X .Sub rSub := by
  rintro pins s σ H x y u v Q I rx ry ⟨i, j, rfl, rfl, q⟩
  obtain ⟨t, rfl⟩ := (show ∃ t, u = Value.int i t from rx)
  obtain ⟨t', rfl⟩ := (show ∃ t', v = Value.int j t' from ry)
  exact PyProof.Rows.isub_int ⟨.int (i - j), H, I.tok _, ⟨_, rfl⟩, q⟩

/-- what is between an instance and its method: the tree of a method call -/
theorem methcall_of {pl : Sem Bool} {m : Str} {apos : Pos} {args : List Expr} {pins : List (Addr × Obj)} {s : Shared} {σ : St} {H : Hp} {Q : Value → Shared → Prop} {te : TE} (he : PE X e te) (I : Inv X pins σ H s)
    (h : te σ H fun x H1 => ∃ a C dx fs g, x = .ref a ∧ H1 a = some (.ins C dx fs) ∧ Cls X.K C ∧ Meth X.K C m g ∧ fs.lookup m = none ∧
      ∀ s1, Inv X pins σ H1 s1 → wpAny (model X.prog X.w) X.A (callWith pos (.ref g) [.ref a] (backTo pos (starEach args X.env)) (backToKw pos (keywordEach [] X.env))) Q X.xe s1)
    (ht : eval (.Call (.Attribute e m apos) args [] pos) X.env = (do
      let ov ← eval e X.env
      standAt apos.atName
      let (f, first) ← holding [ov] (getMethod ov m pl)
      callWith pos f first (backTo pos (starEach args X.env)) (backToKw pos (keywordEach [] X.env)))) :
    wpAny (model X.prog X.w) X.A (eval (.Call (.Attribute e m apos) args [] pos) X.env) Q X.xe s := by
  refine PySem.W.methodCall_KW (pl := pl) (thn (he pins s σ H _ I h) fun u s1 ⟨x, H1, I1, rx, a, C, dx, fs, g, ex, ea, c, k, l, q⟩ => ?_) ht
  subst ex
  obtain rfl : u = Value.ref a := rx
  exact getmeth_ok I1 ea c k l (q s1 I1)
end

/-! ### isinstance -/
section
variable {X : Cx} {pins : List (Addr × Obj)} {σ : St} {H : Hp} {s : Shared} {A : Around} {E : Value → Shared → Prop} {Q : Value → Shared → Prop} {c : Value} {b : Bool}
/-- the type of a value, as the fragment's deciders take it; for an instance its class -/
inductive TyOf (K : PySem.W.Frag) (H : Hp) : V → Value → Prop where
  | non : TyOf K H .non (.type "NoneType")
  | bl (x : Bool) : TyOf K H (.bl x) (.type "bool")
  | int (i : Int) : TyOf K H (.int i) (.type "int")
  | str (x : Str) : TyOf K H (.str x) (.type "str")
  | flt (x : UInt64) : TyOf K H (.flt x) (.type "float")
  | lst {a : Addr} {xs : List V} (e : H a = some (.lst xs)) : TyOf K H (.ref a) (.type "list")
  | frz {a : Addr} {o : Obj} {xs : List V} (e : H a = some (.frz o (.lst xs))) : TyOf K H (.ref a) (.type "list")
  | tup {a : Addr} {xs : List V} (e : H a = some (.tup xs)) : TyOf K H (.ref a) (.type "tuple")
  | dK {a : Addr} {kvs : List (Key × V)} (e : H a = some (.dK kvs)) : TyOf K H (.ref a) (.type "dict")
  | dT {a : Addr} {kvs : List (List Key × V)} (e : H a = some (.dT kvs)) : TyOf K H (.ref a) (.type "dict")
  | ins {a C dx : Addr} {fs : List (Str × V)} (e : H a = some (.ins C dx fs)) (cl : Cls K C) (ha : PySem.W.findIn K (.ref C) "__class__" = some (some (.builtin "object.__class__")))
      (hn : PySem.W.specialIn K (.builtin "object.__class__") "__get__" = some (some (.builtin "getset_descriptor.__get__"))) (htk : PySem.W.takesIn K (.builtin "object.__class__") = some true)
      (hm : PySem.W.mroIn K C (.type "object") = some true) : TyOf K H (.ref a) (.ref C)
/-- isinstance(x, c) for one class c, a built-in or an own one: kitOne's answer -/
theorem isinst_ok {x : V} {u t : Value} (I : Inv X pins σ H s) (rx : RelV x u) (ty : TyOf X.K H x t) (e : PySem.W.kitOne X.K t c = some b) (h : ∀ tk, Q (.bool b) { s with toks := tk }) :
    wpAny (model X.prog X.w) A (call (.builtin "isinstance") [u, c]) Q E s := by
  cases ty with
  | non => cases (show u = Value.none from rx); exact PySem.W.kia_one PySem.W.kitx_none I.kIn True.intro e (fun z => nomatch z) h
  | bl y => cases (show u = Value.bool y from rx); exact PySem.W.kia_one PySem.W.kitx_bool I.kIn True.intro e (fun z => nomatch z) h
  | int i => obtain ⟨t, q⟩ := (show ∃ t, u = Value.int i t from rx); cases q; exact PySem.W.kia_one PySem.W.kitx_int I.kIn True.intro e (fun z => nomatch z) h
  | str y => obtain ⟨t, q⟩ := (show ∃ t, u = Value.str y t from rx); cases q; exact PySem.W.kia_one PySem.W.kitx_str I.kIn True.intro e (fun z => nomatch z) h
  | flt y => obtain ⟨t, q⟩ := (show ∃ t, u = Value.float y t from rx); cases q; exact PySem.W.kia_one PySem.W.kitx_float I.kIn True.intro e (fun z => nomatch z) h
  | @lst a xs ea =>
    cases (show u = Value.ref a from rx)
    obtain ⟨_, _, n, _, h1⟩ := (show ObjOk X.prog X.w H s.heap a (.lst xs) from I.hok a _ ea)
    exact PySem.W.kia_one PySem.W.kitx_list I.kIn ⟨_, h1, rfl⟩ e (fun z => nomatch z) h
  | @frz a ob xs ea =>
    cases (show u = Value.ref a from rx)
    obtain ⟨_, _, _, n, _, h1⟩ := (show ObjOk X.prog X.w H s.heap a (.frz ob (.lst xs)) from I.hok a _ ea)
    exact PySem.W.kia_one PySem.W.kitx_list I.kIn ⟨_, h1, rfl⟩ e (fun z => nomatch z) h
  | @tup a xs ea =>
    cases (show u = Value.ref a from rx)
    obtain ⟨_, _, _, p⟩ := (show ObjOk X.prog X.w H s.heap a (.tup xs) from I.hok a _ ea)
    obtain ⟨o, h1, h2, _⟩ := p
    exact PySem.W.kia_one PySem.W.kitx_tuple I.kIn ⟨o, h1, h2⟩ e (fun z => nomatch z) h
  | @dK a kvs ea =>
    cases (show u = Value.ref a from rx)
    obtain ⟨_, _, vs, _, p⟩ := (show ObjOk X.prog X.w H s.heap a (.dK kvs) from I.hok a _ ea)
    obtain ⟨o, es, ep, h1, h2, _⟩ := p
    exact PySem.W.kia_one PySem.W.kitx_dict I.kIn ⟨o, h1, h2.1⟩ e (fun z => nomatch z) h
  | @dT a kvs ea =>
    cases (show u = Value.ref a from rx)
    obtain ⟨_, _, xs, _, o, es, ep, h1, h2, _⟩ := (show ObjOk X.prog X.w H s.heap a (.dT kvs) from I.hok a _ ea)
    exact PySem.W.kia_one PySem.W.kitx_dict I.kIn ⟨o, h1, h2.1⟩ e (fun z => nomatch z) h
  | @ins a C dx fs ea cl ha hn htk hm =>
    cases (show u = Value.ref a from rx)
    obtain ⟨mA, O, _⟩ := ins_get I.hok ea
    obtain ⟨od, J, _⟩ := O.look
    exact PySem.W.kia_one (PySem.W.kitx_own (cl.get _) cl.hd ha hn htk hm) I.kIn J e (fun z => nomatch z) h
end
end L2

namespace L2
open PySem PySem.Spec PyProof.Rows

/-! ### room -/
structure Room (k : Nat) (A : Around) : Prop where
  hd : A.handled = none
  dp : A.depth + 3 * k + 5 < recursionLimit
  un : A.units + 16 * k + 200 < cLine
theorem Room.mono {j k : Nat} {A : Around} (r : Room k A) (h : j ≤ k) : Room j A := ⟨r.hd, by have := r.dp; omega, by have := r.un; omega⟩
theorem Room.deeper {k : Nat} {A : Around} (r : Room (k + 1) A) (env : Env) : Room k (A.deeper env) :=
  ⟨r.hd, by have := r.dp; show A.depth + 1 + 3 * k + 5 < _; omega, by have := r.un; show A.units + 3 + 16 * k + 200 < _; omega⟩
theorem Room.in1 {k : Nat} {A : Around} (r : Room (k + 1) A) : Room k A.in1 :=
  ⟨r.hd, by have := r.dp; show A.depth + 3 * k + 5 < _; omega, by have := r.un; show A.units + 1 + 16 * k + 200 < _; omega⟩
theorem make_depth {A : Around} {C : Addr} {us : List Value} {kw : List (Str × Value)} : (A.under (.builtin "type.__call__" ⟨.ref C :: us, kw⟩)).depth = A.depth + 1 := by
  first | rfl | simp [Around.under, Code.weight, Code.isCreation, Code.isGuard, Code.isCaller, Code.frames, Code.isFrame, guardIds]
theorem make_units {A : Around} {C : Addr} {us : List Value} {kw : List (Str × Value)} : (A.under (.builtin "type.__call__" ⟨.ref C :: us, kw⟩)).units = A.units + 1 := by
  first | rfl | simp [Around.under, Code.cUnits, Code.frames, Code.isFrame]
theorem Room.make {k : Nat} {A : Around} (r : Room (k + 1) A) (C : Addr) (us : List Value) (kw : List (Str × Value)) : Room k (A.under (.builtin "type.__call__" ⟨.ref C :: us, kw⟩)) :=
  ⟨r.hd, by have := r.dp; rw [make_depth]; omega, by have := r.un; rw [make_units]; omega⟩
theorem Room.depth {k : Nat} {A : Around} (r : Room k A) : A.depth < recursionLimit := by have := r.dp; omega
theorem Room.units {k : Nat} {A : Around} (r : Room k A) : A.units + 64 < cLine := by have := r.un; omega
theorem Room.units0 {k : Nat} {A : Around} (r : Room k A) : A.units < cLine := by have := r.un; omega

/-! ### argument lists and displays -/
def tNil : TA := fun _ H Q => Q [] H
def tCons (ta : TE) (tr : TA) : TA := fun σ H Q => ta σ H fun x H1 => tr σ H1 fun xs H2 => Q (x :: xs) H2
section
variable {X : Cx} {e : Expr} {es : List Expr} {te : TE} {t : TA} {pos : Pos}
theorem pa_nil : PA X [] tNil := fun _ _ _ _ H Q I h => Calls.spliced_nil ⟨[], H, I, .nil, h⟩
theorem pa_cons (ha : PE X e te) (hr : PA X es t) (hs : starEach (e :: es) X.env = (false, eval e X.env) :: starEach es X.env := by rfl) : PA X (e :: es) (tCons te t) := by
  intro pos pins s σ H Q I h
  rw [hs]
  show wpAny _ _ (spliced ((false, eval e X.env) :: backTo pos (starEach es X.env))) _ _ s
  refine Calls.spliced_cons (thn (ha pins s σ H _ I h) fun u s1 ⟨x, H1, I1, r1, q1⟩ => ?_)
  exact thn (hr pos pins s1 σ H1 _ I1 q1) fun us s2 ⟨xs, H2, I2, r2, q2⟩ => ⟨x :: xs, H2, I2, .cons r1 r2, q2⟩

/-- a tuple, a list of written items -/
def tTup (t : TA) : TE := fun σ H Q => t σ H fun xs H1 => xs.length ≤ sizeLine ∧ ∀ p, H1 p = none → Q (.ref p) (upd H1 p (.tup xs))
def tLst (t : TA) : TE := fun σ H Q => t σ H fun xs H1 => xs.length ≤ sizeLine ∧ ∀ p, H1 p = none → Q (.ref p) (upd H1 p (.lst xs))
theorem pe_tup {x1} (h : PA X es t) : PE X (.Tuple es x1 pos) (tTup t) := by
  intro pins s σ H Q I hq
  refine wpAny_Tuple_spliced (thn (h pos pins s σ H _ I hq) fun us s1 ⟨xs, H1, I1, r, z, q⟩ => ⟨by rw [← r.length]; exact z, ?_⟩)
  have hf : H1 s1.heap.objs.size = none := I1.hok.fresh (Nat.le_refl _)
  refine ⟨.ref s1.heap.objs.size, upd H1 s1.heap.objs.size (.tup xs), I1.laid (t' := s1.toks) (fun b u e => Heap.get?_push_of_some _ e) (Nat.le_refl _) ?_, rfl, q _ hf⟩
  exact ⟨z, us, r, ⟨_, Heap.get?_push_size _ rfl, rfl, _, rfl⟩⟩
theorem pe_lst (h : PA X es t) : PE X (.List es pos) (tLst t) := by
  intro pins s σ H Q I hq
  refine wpAny_List_spliced (thn (h pos pins s σ H _ I hq) fun us s1 ⟨xs, H1, I1, r, z, q⟩ => ⟨by rw [← r.length]; exact z, ?_⟩)
  have hf : H1 s1.heap.objs.size = none := I1.hok.fresh (Nat.le_refl _)
  refine ⟨.ref s1.heap.objs.size, upd H1 s1.heap.objs.size (.lst xs), I1.laid (t' := s1.toks) (fun b u e => Heap.get?_push_of_some _ e) (Nat.le_refl _) ?_, rfl, q _ hf⟩
  exact ⟨z, us, 0, r, Heap.get?_push_size _ rfl⟩
end

/-! ### what a def promises -/
/-- a def's promise: the bound arguments in the parameters' order, the heap, the wanted end, the wanted exception -/
abbrev Sp := List V → Hp → VK → XK → Prop
/-- how an exception lies behind a call (file 08 gives it): the callers' frames, abstract heap and state ahead of the call, the wish, the exception, the state -/
abbrev CXT := List Env → Hp → Shared → XK → Value → Shared → Prop

/-- the state at a call -/
structure Env0 (P : Program) (w : World) (K : PySem.W.Frag) (mg : Str → Option Value) (base : Heap) (A : Around) (outer : List Env) (s : Shared) (H : Hp) : Prop where
  frames : A.frames = some outer
  mod : Mod K mg base
  bs : ∀ b o, base.get? b = some o → s.heap.get? b = some o ∧ H b = none
  bsz : base.objs.size ≤ s.heap.objs.size
  funs : s.heap.FunFrames base outer
  frf : ∀ b ∈ frs outer, H b = none
  hok : HOk P w H s.heap
  bare : AllBare s.gens
/-- a call's end -/
def CE (outer : List Env) (P : Program) (w : World) (H : Hp) (s : Shared) (Q : VK) (u : Value) (s' : Shared) : Prop :=
  ∃ v H', s'.os = s.os ∧ AllBare s'.gens ∧ Un (frs outer) [] H H' s.heap s'.heap ∧ HOk P w H' s'.heap ∧ RelV v u ∧ Q v H'
def CR (CX : CXT) (outer : List Env) (P : Program) (w : World) (H : Hp) (s : Shared) (Q : VK) (E : XK) (r : Result) (s' : Shared) : Prop :=
  match r with
  | .ok (.ret u) => CE outer P w H s Q u s'
  | .ok _ => False
  | .error e => CX outer H s E e s'
structure FnOk (P : Program) (w : World) (K : PySem.W.Frag) (mg : Str → Option Value) (base : Heap) (CX : CXT) (k : Nat) (f : Addr) (fd : FuncData) (ps : List Str) (sp : Sp) : Prop where
  len : ∀ vs H Q E, sp vs H Q E → vs.length = ps.length
  run : ∀ (A : Around) (outer : List Env) (s : Shared) (H : Hp) (args : Args) (us : List Value) (vs : List V) (Q : VK) (E : XK), Room k A → Env0 P w K mg base A outer s H → BindsTo s fd args (ps.zip us) → Vals vs us → sp vs H Q E →
    codeAny (model P w) A (.call (.ref f) args) (CR CX outer P w H s Q E) s
theorem FnOk.mono {P : Program} {w : World} {K : PySem.W.Frag} {mg : Str → Option Value} {base : Heap} {CX : CXT} {j k : Nat} {f : Addr} {fd : FuncData} {ps : List Str} {sp : Sp} (F : FnOk P w K mg base CX j f fd ps sp) (h : j ≤ k) :
    FnOk P w K mg base CX k f fd ps sp := ⟨F.len, fun A outer s H args us vs Q E hr => F.run A outer s H args us vs Q E (hr.mono h)⟩
/-- a weaker promise -/
theorem FnOk.imp {P : Program} {w : World} {K : PySem.W.Frag} {mg : Str → Option Value} {base : Heap} {CX : CXT} {k : Nat} {f : Addr} {fd : FuncData} {ps : List Str} {sp sp' : Sp} (F : FnOk P w K mg base CX k f fd ps sp)
    (h : ∀ vs H Q E, sp' vs H Q E → sp vs H Q E) : FnOk P w K mg base CX k f fd ps sp' :=
  ⟨fun vs H Q E q => F.len vs H Q E (h _ _ _ _ q), fun A outer s H args us vs Q E hr he hb hv hs => F.run A outer s H args us vs Q E hr he hb hv (h _ _ _ _ hs)⟩

theorem Env0.make {P : Program} {w : World} {K : PySem.W.Frag} {mg : Str → Option Value} {base : Heap} {A : Around} {outer : List Env} {s : Shared} {H : Hp} (e : Env0 P w K mg base A outer s H) (C : Addr) (us : List Value) (kw : List (Str × Value)) :
    Env0 P w K mg base (A.under (.builtin "type.__call__" ⟨.ref C :: us, kw⟩)) outer s H := ⟨by first | exact e.frames | (simpa [Around.under, Code.envs, Code.isFrame, pushEnvs] using e.frames), e.mod, e.bs, e.bsz, e.funs, e.frf, e.hok, e.bare⟩
theorem Env0.in1 {P : Program} {w : World} {K : PySem.W.Frag} {mg : Str → Option Value} {base : Heap} {A : Around} {outer : List Env} {s : Shared} {H : Hp} (e : Env0 P w K mg base A outer s H) :
    Env0 P w K mg base A.in1 outer s H := ⟨e.frames, e.mod, e.bs, e.bsz, e.funs, e.frf, e.hok, e.bare⟩

section
variable {X : Cx} {pins : List (Addr × Obj)} {σ : St} {H : Hp} {s s' : Shared}
/-- from a body: what a callee wants -/
theorem Inv.env0 (I : Inv X pins σ H s) : Env0 X.prog X.w X.K X.mg X.base X.A X.stack s H :=
  ⟨I.ok.frames, I.ok.mod, I.bs, Nat.le_trans I.ok.bsz I.sz, I.stack, I.stkFree, I.hok, I.bare⟩
/-- behind a call -/
theorem Inv.after {Q : VK} {u : Value} (I : Inv X pins σ H s) (h : CE X.stack X.prog X.w H s Q u s') : EP X pins σ Q u s' := by
  obtain ⟨v, H', os, bare, un, hok, r, q⟩ := h
  obtain ⟨hh, g, d, t, os'⟩ := s'
  obtain rfl : os' = s.os := os
  exact ⟨v, H', I.call (h' := hh) (g' := g) (d' := d) (t' := t) (ch := []) un hok bare (fun b z => absurd z (by simp)), r, q⟩
end

/-! ### calls -/
/-- f(..): the written arguments, then the defaults dvs; E: what is wanted of an exception -/
def tCall (sp : Sp) (dvs : List V) (E : XK) (t : TA) : TE := fun σ H Q => t σ H fun vs H1 => sp (vs ++ dvs) H1 Q E
/-- o.m(..) of an instance of the class at C -/
def tMeth (C : Addr) (m : Str) (sp : Sp) (dvs : List V) (E : XK) (ta : TE) (t : TA) : TE := fun σ H Q => ta σ H fun x H1 => ∃ a dx fs, x = .ref a ∧ H1 a = some (.ins C dx fs) ∧ fs.lookup m = none ∧
  t σ H1 fun vs H2 => sp (x :: (vs ++ dvs)) H2 Q E
/-- C(..): a new instance and its dict, then __init__ -/
def tMake (C : Addr) (sp : Sp) (dvs : List V) (E : XK) (t : TA) : TE := fun σ H Q => t σ H fun vs H1 => ∀ x dx, H1 x = none → H1 dx = none → dx ≠ x →
  sp (.ref x :: (vs ++ dvs)) (upd (upd H1 dx (.own x)) x (.ins C dx [])) (fun v H2 => v = .non ∧ Q (.ref x) H2) E

/-- how the parameters are bound: us the positional arguments, kw the keywords' values by name, ds the defaults that fill up -/
def Binds (K : PySem.W.Frag) (fd : FuncData) (ps : List Str) (ds : List Value) : Prop :=
  ∀ (s : Shared) (us : List Value), K.In s.heap → (us ++ ds).length = ps.length → BindsTo s fd ⟨us, []⟩ (ps.zip (us ++ ds))
/-- every parameter is given -/
theorem Binds.all {K : PySem.W.Frag} {fd : FuncData} {ps : List Str} (h : ∀ us : List Value, us.length = ps.length → bindArgs fd ⟨us, []⟩ = pure (ps.zip us)) : Binds K fd ps [] := fun s us _ hl => by
  rw [List.append_nil] at hl ⊢
  exact .of_eq (h us hl)

/-- an exception of a callee reaches what this body wants of exceptions -/
def Passes (CX : CXT) (X : Cx) (E : XK) : Prop := ∀ (pins : List (Addr × Obj)) (σ : St) (H : Hp) (s : Shared) (e : Value) (s' : Shared), Inv X pins σ H s → CX X.stack H s E e s' → X.xe e s'

section
variable {X : Cx} {CX : CXT} {k : Nat} {f C : Addr} {fd : FuncData} {ps : List Str} {sp : Sp} {dvs : List V} {ds : List Value} {E : XK} {x m : Str} {p pos apos : Pos} {e o : Expr} {es : List Expr} {ta : TE} {t : TA}

/-- the callee runs -/
theorem run_fn {pins : List (Addr × Obj)} {σ : St} {H : Hp} {s : Shared} {Q : VK} {us : List Value} {vs : List V} (F : FnOk X.prog X.w X.K X.mg X.base CX k f fd ps sp) (hr : Room k X.A) (hb : Binds X.K fd ps ds) (hd : Vals dvs ds) (hx : Passes CX X E)
    (I : Inv X pins σ H s) (r : Vals vs us) (h : sp (vs ++ dvs) H Q E) : wpAny (model X.prog X.w) X.A (call (.ref f) us) (EP X pins σ Q) X.xe s := by
  have r2 : Vals (vs ++ dvs) (us ++ ds) := r.append hd
  have hl : (us ++ ds).length = ps.length := by rw [← r2.length]; exact F.len _ _ _ _ h
  refine wpAny_call (codeAny_mono (F.run X.A X.stack s H ⟨us, []⟩ (us ++ ds) (vs ++ dvs) Q E hr I.env0 (hb s us I.kIn hl) r2 h) fun r s' hq => ?_)
  cases r with
  | error e => exact hx pins σ H s e s' I hq
  | ok fl =>
    cases fl with
    | ret u => exact I.after hq
    | next => exact False.elim hq
    | brk => exact False.elim hq
    | cont => exact False.elim hq

theorem pe_call (F : FnOk X.prog X.w X.K X.mg X.base CX k f fd ps sp) (hr : Room k X.A) (hg : Gl X x) (hm : X.mg x = some (.ref f)) (hk : PySem.W.keepIn X.K (.ref f) = true) (hb : Binds X.K fd ps ds) (hd : Vals dvs ds) (hx : Passes CX X E)
    (ha : PA X (e :: es) t) (hdb : (x == ("__debug__" : Str)) = false := by decide) (he : starEach (e :: es) X.env = (false, eval e X.env) :: starEach es X.env := by rfl) (hpl : (backTo pos (starEach es X.env)).any (·.1) = false := by rfl) :
    PE X (.Call (.Name x p) (e :: es) [] pos) (tCall sp dvs E t) := by
  intro pins s σ H Q I h
  refine wpAny_Call_Name_kw (ld_glob I hg hm ?_ hdb)
  refine PySem.W.callWith_K (h₀ := X.base) I.ok.mod.kin hk (thn (ha pos pins s σ H _ I h) fun us s1 ⟨vs, H1, I1, r, q⟩ => ⟨I1.kIn, ?_⟩) he hpl
  exact run_fn F hr hb hd hx I1 r q
theorem pe_call0 (F : FnOk X.prog X.w X.K X.mg X.base CX k f fd ps sp) (hr : Room k X.A) (hg : Gl X x) (hm : X.mg x = some (.ref f)) (hk : PySem.W.keepIn X.K (.ref f) = true) (hb : Binds X.K fd ps ds) (hd : Vals dvs ds) (hx : Passes CX X E)
    (hdb : (x == ("__debug__" : Str)) = false := by decide) : PE X (.Call (.Name x p) [] [] pos) (tCall sp dvs E tNil) := by
  intro pins s σ H Q I h
  refine wpAny_Call_Name_kw (ld_glob I hg hm ?_ hdb)
  exact PySem.W.callWith_K0 I.kIn hk (run_fn (us := []) F hr hb hd hx I .nil h)

/-- o.m(e, ..) -/
theorem pe_meth {pl : Sem Bool} (he : PE X o ta) (c : Cls X.K C) (hm : Meth X.K C m f) (F : FnOk X.prog X.w X.K X.mg X.base CX k f fd ps sp) (hr : Room k X.A) (hb : Binds X.K fd ps ds) (hd : Vals dvs ds) (hx : Passes CX X E) (ha : PA X (e :: es) t)
    (hst : starEach (e :: es) X.env = (false, eval e X.env) :: starEach es X.env := by rfl) (hpl : (backTo pos (starEach es X.env)).any (·.1) = false := by rfl)
    (ht : eval (.Call (.Attribute o m apos) (e :: es) [] pos) X.env = (do
      let ov ← eval o X.env
      standAt apos.atName
      let (f, first) ← holding [ov] (getMethod ov m pl)
      callWith pos f first (backTo pos (starEach (e :: es) X.env)) (backToKw pos (keywordEach [] X.env))) := by rfl) :
    PE X (.Call (.Attribute o m apos) (e :: es) [] pos) (tMeth C m sp dvs E ta t) := by
  intro pins s σ H Q I h
  refine PySem.W.methodCall_KW (pl := pl) (thn (he pins s σ H _ I h) fun u s1 ⟨x, H1, I1, rx, a, dx, fs, ex, ea, l, q⟩ => ?_) ht
  subst ex
  obtain rfl : u = Value.ref a := rx
  refine getmeth_ok I1 ea c hm l ?_
  refine PySem.W.callWith_K (first := [.ref a]) (h₀ := X.base) I.ok.mod.kin hm.kp (thn (ha pos pins s1 σ H1 _ I1 q) fun us s2 ⟨vs, H2, I2, r, q2⟩ => ⟨I2.kIn, ?_⟩) hst hpl
  exact run_fn (us := .ref a :: us) (vs := .ref a :: vs) F hr hb hd hx I2 (.cons rfl r) q2
/-- o.m() -/
theorem pe_meth0 {pl : Sem Bool} (he : PE X o ta) (c : Cls X.K C) (hm : Meth X.K C m f) (F : FnOk X.prog X.w X.K X.mg X.base CX k f fd ps sp) (hr : Room k X.A) (hb : Binds X.K fd ps ds) (hd : Vals dvs ds) (hx : Passes CX X E)
    (ht : eval (.Call (.Attribute o m apos) [] [] pos) X.env = (do
      let ov ← eval o X.env
      standAt apos.atName
      let (f, first) ← holding [ov] (getMethod ov m pl)
      callWith pos f first (backTo pos (starEach [] X.env)) (backToKw pos (keywordEach [] X.env))) := by rfl) :
    PE X (.Call (.Attribute o m apos) [] [] pos) (tMeth C m sp dvs E ta tNil) := by
  intro pins s σ H Q I h
  refine PySem.W.methodCall_KW (pl := pl) (thn (he pins s σ H _ I h) fun u s1 ⟨x, H1, I1, rx, a, dx, fs, ex, ea, l, q⟩ => ?_) ht
  subst ex
  obtain rfl : u = Value.ref a := rx
  refine getmeth_ok I1 ea c hm l ?_
  exact PySem.W.callWith_K0 (first := [.ref a]) I1.kIn hm.kp (run_fn (us := [.ref a]) (vs := [.ref a]) F hr hb hd hx I1 (.cons rfl .nil) q)

/-- what a class must have to be made -/
structure Mk (K : PySem.W.Frag) (C f : Addr) : Prop where
  makes : PySem.W.makesIn K C = true
  init : PySem.W.findIn K (.ref C) "__init__" = some (some (.ref f))
  fn : PySem.W.isFn K (.ref f) = true
  kp : PySem.W.keepIn K (.ref C) = true

theorem run_make {pins : List (Addr × Obj)} {σ : St} {H : Hp} {s : Shared} {Q : VK} {us : List Value} {vs : List V} (M : Mk X.K C f) (F : FnOk X.prog X.w X.K X.mg X.base CX k f fd ps sp) (hr : Room (k + 1) X.A) (hb : Binds X.K fd ps ds) (hd : Vals dvs ds)
    (hx : Passes CX X E) (I : Inv X pins σ H s) (r : Vals vs us)
    (h : ∀ x dx, H x = none → H dx = none → dx ≠ x → sp (.ref x :: (vs ++ dvs)) (upd (upd H dx (.own x)) x (.ins C dx [])) (fun v H2 => v = .non ∧ Q (.ref x) H2) E) :
    wpAny (model X.prog X.w) X.A (call (.ref C) us) (EP X pins σ Q) X.xe s := by
  have hq := h (s.heap.objs.size + 1) s.heap.objs.size (I.hok.fresh (Nat.le_succ _)) (I.hok.fresh (Nat.le_refl _)) (Nat.ne_of_lt (Nat.lt_succ_self _))
  have I2 := Inv.made (C := C) I
  have r2 : Vals (V.ref (s.heap.objs.size + 1) :: (vs ++ dvs)) (Value.ref (s.heap.objs.size + 1) :: (us ++ ds)) := .cons rfl (r.append hd)
  have hl : (Value.ref (s.heap.objs.size + 1) :: us ++ ds).length = ps.length := by
    have e := r2.length
    rw [F.len _ _ _ _ hq] at e
    exact e.symm
  refine wpAny_call (make_map (f := f) I.kIn M.makes M.init (beq_iff_eq.mp M.fn) (codeAny_mono (F.run _ X.stack _ _ ⟨Value.ref (s.heap.objs.size + 1) :: us, []⟩ (Value.ref (s.heap.objs.size + 1) :: (us ++ ds)) _ _ E (hr.make C us [])
    (I2.env0.make C us []) (hb _ (Value.ref (s.heap.objs.size + 1) :: us) I2.kIn hl) r2 hq) fun r s' hq' => ?_))
  cases r with
  | error e => exact hx pins σ _ _ e s' I2 hq'
  | ok fl =>
    cases fl with
    | ret u =>
      obtain ⟨v, H', I3, rv, ev, q3⟩ := I2.after hq'
      subst ev
      exact ⟨rv, ⟨V.ref (s.heap.objs.size + 1), H', I3, rfl, q3⟩⟩
    | next => exact False.elim hq'
    | brk => exact False.elim hq'
    | cont => exact False.elim hq'
theorem pe_make (M : Mk X.K C f) (F : FnOk X.prog X.w X.K X.mg X.base CX k f fd ps sp) (hr : Room (k + 1) X.A) (hg : Gl X x) (hm : X.mg x = some (.ref C)) (hb : Binds X.K fd ps ds) (hd : Vals dvs ds) (hx : Passes CX X E)
    (ha : PA X (e :: es) t) (hdb : (x == ("__debug__" : Str)) = false := by decide) (he : starEach (e :: es) X.env = (false, eval e X.env) :: starEach es X.env := by rfl) (hpl : (backTo pos (starEach es X.env)).any (·.1) = false := by rfl) :
    PE X (.Call (.Name x p) (e :: es) [] pos) (tMake C sp dvs E t) := by
  intro pins s σ H Q I h
  refine wpAny_Call_Name_kw (ld_glob I hg hm ?_ hdb)
  refine PySem.W.callWith_K (h₀ := X.base) I.ok.mod.kin M.kp (thn (ha pos pins s σ H _ I h) fun us s1 ⟨vs, H1, I1, r, q⟩ => ⟨I1.kIn, ?_⟩) he hpl
  exact run_make M F hr hb hd hx I1 r q
theorem pe_make0 (M : Mk X.K C f) (F : FnOk X.prog X.w X.K X.mg X.base CX k f fd ps sp) (hr : Room (k + 1) X.A) (hg : Gl X x) (hm : X.mg x = some (.ref C)) (hb : Binds X.K fd ps ds) (hd : Vals dvs ds) (hx : Passes CX X E)
    (hdb : (x == ("__debug__" : Str)) = false := by decide) : PE X (.Call (.Name x p) [] [] pos) (tMake C sp dvs E tNil) := by
  intro pins s σ H Q I h
  refine wpAny_Call_Name_kw (ld_glob I hg hm ?_ hdb)
  exact PySem.W.callWith_K0 I.kIn M.kp (run_make (us := []) M F hr hb hd hx I .nil h)
end

/-! ### keywords -/
/-- the values of the keywords, from the left -/
def PK (X : Cx) (kws : List Keyword) (t : TA) : Prop :=
  ∀ (pos : Pos) (pins : List (Addr × Obj)) (s : Shared) (σ : St) (H : Hp) (Q : List V → Hp → Prop), Inv X pins σ H s → t σ H Q → wpAny (model X.prog X.w) X.A (evalAll ((backToKw pos (keywordEach kws X.env)).map (·.2))) (AP X pins σ Q) X.xe s
section
variable {X : Cx} {CX : CXT} {k : Nat} {f C : Addr} {fd : FuncData} {ps ks : List Str} {sp : Sp} {E : XK} {x m : Str} {p pos apos kpos : Pos} {e o : Expr} {es : List Expr} {kws : List Keyword} {te ta : TE} {t tk : TA} {nm : Option Str}
theorem pk_nil : PK X [] tNil := fun _ _ _ _ H Q I h => wpAny_evalAll_nil ⟨[], H, I, .nil, h⟩
theorem pk_cons (ha : PE X e te) (hr : PK X kws t) : PK X (⟨nm, e, kpos⟩ :: kws) (tCons te t) := by
  intro pos pins s σ H Q I h
  show wpAny _ _ (evalAll ((do let v ← eval e X.env; standAt pos; pure v) :: (backToKw pos (keywordEach kws X.env)).map (·.2))) _ _ s
  refine wpAny_evalAll_cons (wpAny_bind (thn (ha pins s σ H _ I h) fun u s1 ⟨x, H1, I1, r1, q1⟩ => wpAny_bind (wpAny_standAt (wpAny_pure ?_))))
  exact thn (hr pos pins s1 σ H1 _ I1 q1) fun us s2 ⟨xs, H2, I2, r2, q2⟩ => ⟨x :: xs, H2, I2, .cons r1 r2, q2⟩

/-- how a call with keywords binds: g puts the positional values us and the keywords' values ws (names ks) in the parameters' order, defaults among them -/
structure KBinds (K : PySem.W.Frag) (fd : FuncData) (ps ks : List Str) (g : List Value → List Value → List Value) (gV : List V → List V → List V) : Prop where
  to : ∀ (s : Shared) (us ws : List Value), K.In s.heap → (g us ws).length = ps.length → BindsTo s fd ⟨us, ks.zip ws⟩ (ps.zip (g us ws))
  rel : ∀ {vs : List V} {us : List Value} {zs : List V} {ws : List Value}, Vals vs us → Vals zs ws → Vals (gV vs zs) (g us ws)
def tCallK (sp : Sp) (gV : List V → List V → List V) (E : XK) (t tk : TA) : TE := fun σ H Q => t σ H fun vs H1 => tk σ H1 fun zs H2 => sp (gV vs zs) H2 Q E
variable {g : List Value → List Value → List Value} {gV : List V → List V → List V}
theorem run_fnk {pins : List (Addr × Obj)} {σ : St} {H : Hp} {s : Shared} {Q : VK} {us ws : List Value} {vs zs : List V} (F : FnOk X.prog X.w X.K X.mg X.base CX k f fd ps sp) (hr : Room k X.A) (hb : KBinds X.K fd ps ks g gV) (hx : Passes CX X E)
    (I : Inv X pins σ H s) (r : Vals vs us) (rz : Vals zs ws) (h : sp (gV vs zs) H Q E) : wpAny (model X.prog X.w) X.A (call (.ref f) us (ks.zip ws)) (EP X pins σ Q) X.xe s := by
  have r2 := hb.rel r rz
  have hl : (g us ws).length = ps.length := by rw [← r2.length]; exact F.len _ _ _ _ h
  refine wpAny_call (codeAny_mono (F.run X.A X.stack s H ⟨us, ks.zip ws⟩ (g us ws) (gV vs zs) Q E hr I.env0 (hb.to s us ws I.kIn hl) r2 h) fun r s' hq => ?_)
  cases r with
  | error e => exact hx pins σ H s e s' I hq
  | ok fl =>
    cases fl with
    | ret u => exact I.after hq
    | next => exact False.elim hq
    | brk => exact False.elim hq
    | cont => exact False.elim hq
/-- f(e, .., k = v, ..) -/
theorem pe_callK (F : FnOk X.prog X.w X.K X.mg X.base CX k f fd ps sp) (hr : Room k X.A) (hg : Gl X x) (hm : X.mg x = some (.ref f)) (hk : PySem.W.keepIn X.K (.ref f) = true) (hb : KBinds X.K fd ps ks g gV) (hx : Passes CX X E)
    (ha : PA X (e :: es) t) (hkw : PK X kws tk) (hall : (backToKw pos (keywordEach kws X.env)).all (·.1.isSome) = true := by rfl) (hks : (backToKw pos (keywordEach kws X.env)).filterMap (·.1) = ks := by rfl)
    (hdb : (x == ("__debug__" : Str)) = false := by decide) (he : starEach (e :: es) X.env = (false, eval e X.env) :: starEach es X.env := by rfl)
    (hpl : ((backTo pos (starEach (e :: es) X.env)).any (·.1) || (backToKw pos (keywordEach kws X.env)).any (·.1.isNone)) = false := by rfl) :
    PE X (.Call (.Name x p) (e :: es) kws pos) (tCallK sp gV E t tk) := by
  intro pins s σ H Q I h
  refine wpAny_Call_Name_kw (ld_glob I hg hm ?_ hdb)
  refine PySem.W.callWith_KW (h₀ := X.base) I.ok.mod.kin hk hall (thn (ha pos pins s σ H _ I h) fun us s1 ⟨vs, H1, I1, r, q⟩ => ?_) hpl he
  refine thn (hkw pos pins s1 σ H1 _ I1 q) fun ws s2 ⟨zs, H2, I2, rz, q2⟩ => ⟨I2.kIn, ?_⟩
  rw [hks]
  exact run_fnk F hr hb hx I2 r rz q2
end

/-! ### a def's body keeps its promise -/
/-- names: the parameters first -/
structure FnScope (N P : List Str) (sc : Scope) : Prop where
  kind : sc.kind = .function
  co : sc.isCoroutine = false
  gen : sc.isGenerator = false
  nd : N.Nodup
  pre : N.take P.length = P
  par : ∀ x ∈ P, sc.names.lookup x = some .local ∨ sc.names.lookup x = some .cell
  nofree : ∀ y ∈ sc.names, y.2 ≠ .free

theorem bindL_out {kindOf : Str → Option NameKind} {x : Str} : ∀ {binds : List (Str × Value)} {m : Str → Option Value}, (∀ v, (x, v) ∉ binds) → bindL kindOf binds m x = m x
  | [], _, _ => rfl
  | (n, v) :: r, m, h => by
    unfold bindL
    rw [bindL_out fun w hw => h w (List.mem_cons_of_mem _ hw)]
    split
    · have : x ≠ n := by rintro rfl; exact h v List.mem_cons_self
      simp [this]
    · rfl
theorem bindC_out {kindOf : Str → Option NameKind} {x : Str} : ∀ {binds : List (Str × Value)} {m : Str → Option Value}, (∀ v, (x, v) ∉ binds) → bindC kindOf binds m x = m x
  | [], _, _ => rfl
  | (n, v) :: r, m, h => by
    unfold bindC
    rw [bindC_out fun w hw => h w (List.mem_cons_of_mem _ hw)]
    split
    · rfl
    · have : x ≠ n := by rintro rfl; exact h v List.mem_cons_self
      simp [this]
theorem bindL_get {kindOf : Str → Option NameKind} {x : Str} {v : Value} : ∀ {P : List Str} {vs : List Value} {i : Nat} {m : Str → Option Value}, P.Nodup → P[i]? = some x → vs[i]? = some v → kindOf x = some .local →
    bindL kindOf (P.zip vs) m x = some v
  | [], _, _, _, _, h, _, _ => by simp at h
  | _ :: _, [], _, _, _, _, h, _ => by simp at h
  | p :: P, w :: vs, 0, m, nd, h1, h2, hk => by
    simp at h1 h2; subst h1; subst h2
    show bindL kindOf ((p, w) :: P.zip vs) m p = _
    unfold bindL
    rw [bindL_out fun v hv => (List.nodup_cons.mp nd).1 (List.of_mem_zip hv).1, if_pos hk]
    simp
  | p :: P, w :: vs, i + 1, m, nd, h1, h2, hk => by
    show bindL kindOf ((p, w) :: P.zip vs) m x = _
    unfold bindL
    exact bindL_get (i := i) (List.nodup_cons.mp nd).2 (by simpa using h1) (by simpa using h2) hk
theorem bindC_get {kindOf : Str → Option NameKind} {x : Str} {v : Value} : ∀ {P : List Str} {vs : List Value} {i : Nat} {m : Str → Option Value}, P.Nodup → P[i]? = some x → vs[i]? = some v → kindOf x ≠ some .local →
    bindC kindOf (P.zip vs) m x = some v
  | [], _, _, _, _, h, _, _ => by simp at h
  | _ :: _, [], _, _, _, _, h, _ => by simp at h
  | p :: P, w :: vs, 0, m, nd, h1, h2, hk => by
    simp at h1 h2; subst h1; subst h2
    show bindC kindOf ((p, w) :: P.zip vs) m p = _
    unfold bindC
    rw [bindC_out fun v hv => (List.nodup_cons.mp nd).1 (List.of_mem_zip hv).1, if_neg hk]
    simp
  | p :: P, w :: vs, i + 1, m, nd, h1, h2, hk => by
    show bindC kindOf ((p, w) :: P.zip vs) m x = _
    unfold bindC
    exact bindC_get (i := i) (List.nodup_cons.mp nd).2 (by simpa using h1) (by simpa using h2) hk

/-- the names' values at the entry -/
def start (N : List Str) (vs : List V) : St := vs.map some ++ List.replicate (N.length - vs.length) none

/-- the context of a def's body, at its entry; an exception leaves the frame, then lies as CX says -/
def cxOf (CX : CXT) (P : Program) (w : World) (K : PySem.W.Frag) (mg : Str → Option Value) (base : Heap) (N : List Str) (qual : Str) (scope : Scope) (f : Addr) (cd : Value) (A : Around) (outer : List Env) (s : Shared) (H : Hp) (E : XK) : Cx where
  prog := P
  w := w
  K := K
  mg := mg
  base := base
  A := A.deeper (envOfC qual scope s.heap.objs.size f cd)
  N := N
  s₀ := s
  H₀ := H
  env := envOfC qual scope s.heap.objs.size f cd
  outer := outer
  stack := envOfC qual scope s.heap.objs.size f cd :: outer
  ex := []
  calm := true
  fn := fun _ => true
  pn := []
  xe := fun e s' => wpAny (model P w) (A.deeper (envOfC qual scope s.heap.objs.size f cd)) (leaving (envOfC qual scope s.heap.objs.size f cd) e) (fun _ s'' => CX outer H s E e s'') (fun e' s'' => CX outer H s E e' s'') s'

theorem cell_has {sc : Scope} {n : Nat} {x : Str} (h : sc.names.lookup x = some .cell) : ∃ c, (cellsFrom n sc.names []).lookup x = some c := by
  have q := PySem.W.cellsFrom_some sc.names n [] (.inl h)
  exact Option.isSome_iff_exists.mp q

theorem inv_start {CX : CXT} {P : Program} {w : World} {K : PySem.W.Frag} {mg : Str → Option Value} {base : Heap} {N ps : List Str} {qual : Str} {scope : Scope} {f : Addr} {cd : Value} {A : Around} {outer : List Env} {s s1 : Shared} {H : Hp} {E : XK} {us : List Value} {vs : List V}
    (S : FnScope N ps scope) (hd : A.handled = none) (e0 : Env0 P w K mg base A outer s H) (hl : vs.length = ps.length) (r : Vals vs us)
    (x : InCallC s s.heap.objs.size (bindL (envOfC qual scope s.heap.objs.size f cd).kindOf (ps.zip us) fun _ => none) (cellsFrom (s.heap.objs.size + 1) scope.names []) (bindC (envOfC qual scope s.heap.objs.size f cd).kindOf (ps.zip us) fun _ => none) s1) :
    Inv (cxOf CX P w K mg base N qual scope f cd A outer s H E) [] (start N vs) H s1 := by
  have hpl : ps.length ≤ N.length := by have := congrArg List.length S.pre; rw [List.length_take] at this; omega
  obtain ⟨h1, tk, rfl, hk⟩ := x.done
  have noA : ∀ b : Addr, b ∉ (cxOf CX P w K mg base N qual scope f cd A outer s H E).ex := fun b z => absurd (show b ∈ ([] : List Addr) from z) (by simp)
  refine ⟨⟨e0.mod, S.kind, rfl, rfl, Nat.le_refl _, fun y z c h1 h2 => ?_, fun y hy => ?_, fun y c _ h => ?_, fun _ => hd, Around.frames_deeper e0.frames, .inr ⟨rfl, rfl⟩, fun b z => absurd z (noA b), e0.bs, e0.bsz, fun b _ _ => noA b, fun b z => absurd z (noA b), e0.funs, e0.frf⟩,
    rfl, e0.bare, Un.kept hk, ⟨_, x.toInCall.ns, fun i y v h1 h2 h3 => ?_⟩, fun y c h => ⟨_, x.cell y c h⟩, e0.hok.fresh (Nat.le_refl _), fun y c h => ?_, fun p hp => absurd (show p ∈ ([] : List (Addr × Obj)) from hp) (by simp), e0.hok.kept hk, ?_⟩
  · exact name_of_addr x.apart (PySem.mem_of_lookup h1) (PySem.mem_of_lookup h2)
  · have hy : scope.names.lookup y = some .cell ∨ scope.names.lookup y = some .free := hy
    rcases hy with hy | hy
    · exact cell_has hy
    · exact absurd rfl (S.nofree _ (PySem.mem_of_lookup hy))
  · exact Nat.le_of_lt (x.above y c (PySem.mem_of_lookup h))
  · have hi : i < vs.length := by
      unfold start at h2
      by_cases hi : i < vs.length
      · exact hi
      · rw [List.getElem?_append_right (by simpa using hi)] at h2
        rw [List.getElem?_replicate] at h2
        split at h2 <;> cases h2
    have ha : vs[i]? = some v := by
      unfold start at h2
      rw [List.getElem?_append_left (by simpa using hi), List.getElem?_map] at h2
      cases e : vs[i]? with
      | none => rw [e] at h2; cases h2
      | some a => rw [e] at h2; cases h2; rfl
    obtain ⟨u, hu, rv⟩ := r.get ha
    have hp : ps[i]? = some y := by
      rw [← S.pre, List.getElem?_take_of_lt (by omega)]; exact h1
    have ndP : ps.Nodup := by rw [← S.pre]; exact S.nd.sublist (List.take_sublist _ _)
    refine ⟨u, rv, ?_⟩
    rcases S.par y (List.mem_of_getElem? hp) with k | k
    · exact .inl ⟨k, bindL_get ndP hp hu k⟩
    · obtain ⟨c, e⟩ := cell_has (n := s.heap.objs.size + 1) k
      refine .inr ⟨.inl k, c, e, ?_⟩
      have q := x.cell y c e
      rw [bindC_get ndP hp hu (by show scope.names.lookup y ≠ _; rw [k]; decide)] at q
      exact q
  · exact e0.hok.fresh (Nat.le_of_lt (x.above y c (PySem.mem_of_lookup h)))
  · unfold start
    show _ = N.length
    rw [List.length_append, List.length_map, List.length_replicate]
    omega

/-- THE RULE: a def (or a method) of the text, by its body. The body's reading t is chosen for each entry; it is run at the parameters' values -/
theorem fn_of {CX : CXT} {P : Program} {w : World} {K : PySem.W.Frag} {mg : Str → Option Value} {base : Heap} {k : Nat} {f : Addr} {name qual : Str} {params : Arguments} {body : List Stmt} {scope : Scope} {dV kV doc pm cdv ct oc : Value} {an od : Option Addr}
    {osl : Array (Option Value)} {N ps : List Str} {sp : Sp} (lk : K.lookup f = some ⟨oc, od, .func (PySem.W.fnOf name qual params body scope dV kV doc pm an cdv ct), osl⟩) (hcd : PySem.W.codeIn K cdv qual = true) (S : FnScope N ps scope)
    (len : ∀ vs H Q E, sp vs H Q E → vs.length = ps.length)
    (hbody : ∀ (A : Around) (outer : List Env) (s : Shared) (H : Hp) (vs : List V) (Q : VK) (E : XK), Room k (A.deeper (envOfC qual scope s.heap.objs.size f cdv)) → sp vs H Q E →
      ∃ t, PSs (cxOf CX P w K mg base N qual scope f cdv A outer s H E) body t ∧ t { nx := fun _ H' => Q .non H', rt := Q } (start N vs) H) :
    FnOk P w K mg base CX (k + 1) f (PySem.W.fnOf name qual params body scope dV kV doc pm an cdv ct) ps sp := by
  refine ⟨len, fun A outer s H args us vs Q E hr e0 hb r hsp => ?_⟩
  have hl := len _ _ _ _ hsp
  have KX : K.In s.heap := e0.mod.kin.keeps fun b o e => (e0.bs b o e).1
  have lim : s.heap.NoLimit := e0.mod.nolimit.keeps fun b o e => (e0.bs b o e).1
  have hkind : ∀ y ∈ ps.zip us, scope.names.lookup y.1 = some .local ∨ (scope.names.lookup y.1 = some .cell ∧ ((cellsFrom (s.heap.objs.size + 1) scope.names []).lookup y.1).isSome = true) := fun ⟨n, v⟩ hy => by
    rcases S.par n (List.of_mem_zip hy).1 with q | q
    · exact .inl q
    · exact .inr ⟨q, PySem.W.cellsFrom_some _ _ _ (.inl q)⟩
  refine codeAny_call_function hr.depth (KX _ _ lk) rfl S.co S.gen rfl (PySem.W.codeRec_of KX hcd) (hb _ _ _ _ ?_)
  refine wpAny_newFunctionEnv_cells S.kind hkind fun env he s1 x => ?_
  subst he
  refine ⟨lim.keeps x.toInCall.keep, codeAny_func ?_⟩
  obtain ⟨t, ht, hq⟩ := hbody A outer s H vs Q E (hr.deeper _) hsp
  have I : Inv (cxOf CX P w K mg base N qual scope f cdv A outer s H E) [] (start N vs) H s1 := inv_start S hr.hd e0 hl r x
  refine wpAny_mono (ht [] s1 (start N vs) H _ I hq) (fun fl s' hs => ?_) fun e s' hs => hs
  have fin : ∀ {σ' : St} {H' : Hp} {v : V} {u : Value}, Inv (cxOf CX P w K mg base N qual scope f cdv A outer s H E) [] σ' H' s' → RelV v u → Q v H' → CE outer P w H s Q u s' :=
    fun {σ' H' v u} J rv q => ⟨v, H', J.os, J.bare, J.base, J.hok, rv, q⟩
  cases fl with
  | ret u =>
    obtain ⟨v, σ', H', J, rv, q⟩ := hs
    exact fin J rv q
  | next =>
    obtain ⟨σ', H', J, q⟩ := hs
    exact fin (v := V.non) (u := Value.none) J rfl q
  | brk =>
    obtain ⟨_, _, _, q⟩ := hs
    exact False.elim q
  | cont =>
    obtain ⟨_, _, _, q⟩ := hs
    exact False.elim q
end L2

namespace L2
open PySem PySem.Spec PyProof.Rows
section
variable {X : Cx} {x : Str} {p pos : Pos} {e : Expr} {es : List Expr} {t : TA} {id T : String} {r : List V → Hp → VK → Prop}

def tCB (r : List V → Hp → VK → Prop) (t : TA) : TE := fun σ H Q => t σ H fun vs H1 => r vs H1 Q
/-- f(e, ..), f a built-in function -/
theorem pe_callB (hc : CallR X (.builtin id) r) (hg : Gl X x) (hm : X.mg x = none) (hv : bootBuiltins x = some (.builtin id)) (ha : PA X (e :: es) t) (hn : x ≠ "__name__" := by decide) (hdb : (x == ("__debug__" : Str)) = false := by decide)
    (he : starEach (e :: es) X.env = (false, eval e X.env) :: starEach es X.env := by rfl) (hpl : (backTo pos (starEach es X.env)).any (·.1) = false := by rfl) : PE X (.Call (.Name x p) (e :: es) [] pos) (tCB r t) := by
  intro pins s σ H Q I h
  refine wpAny_Call_Name_kw (ld_blt I hg hm hv ?_ hn hdb)
  exact PyProof.Rows.callWith_builtin1 (thn (ha pos pins s σ H _ I h) fun us s1 ⟨vs, H1, I1, r1, q1⟩ => hc pins s1 σ H1 vs us Q I1 r1 q1) he hpl
/-- T(e, ..), T a built-in type -/
theorem pe_callTy (hc : CallR X (.type T) r) (hg : Gl X x) (hm : X.mg x = none) (hv : bootBuiltins x = some (.type T)) (ha : PA X (e :: es) t) (hn : x ≠ "__name__" := by decide) (hdb : (x == ("__debug__" : Str)) = false := by decide)
    (he : starEach (e :: es) X.env = (false, eval e X.env) :: starEach es X.env := by rfl) (hpl : (backTo pos (starEach es X.env)).any (·.1) = false := by rfl) : PE X (.Call (.Name x p) (e :: es) [] pos) (tCB r t) := by
  intro pins s σ H Q I h
  refine wpAny_Call_Name_kw (ld_blt I hg hm hv ?_ hn hdb)
  exact PyProof.Rows.callWith_type1 (thn (ha pos pins s σ H _ I h) fun us s1 ⟨vs, H1, I1, r1, q1⟩ => hc pins s1 σ H1 vs us Q I1 r1 q1) he hpl
/-- T() -/
theorem pe_callTy0 (hc : CallR X (.type T) r) (hg : Gl X x) (hm : X.mg x = none) (hv : bootBuiltins x = some (.type T)) (hn : x ≠ "__name__" := by decide) (hdb : (x == ("__debug__" : Str)) = false := by decide) :
    PE X (.Call (.Name x p) [] [] pos) (tCB r tNil) := by
  intro pins s σ H Q I h
  refine wpAny_Call_Name_kw (ld_blt I hg hm hv ?_ hn hdb)
  exact PyProof.Rows.callWith_type0 (hc pins s σ H [] [] Q I .nil h)
end
end L2

namespace HT
open PySem PyProof.Rows

/-- t < u of tuples of ints -/
def lexLt : List Int → List Int → Bool
  | [], [] => false
  | [], _ :: _ => true
  | _ :: _, [] => false
  | x :: xs, y :: ys => if x = y then lexLt xs ys else decide (x < y)
theorem lexLt_cons (x y : Int) (xs ys : List Int) : lexLt (x :: xs) (y :: ys) = if x = y then lexLt xs ys else decide (x < y) := rfl
theorem lexLt_nil_nil : lexLt [] [] = false := rfl
theorem lexLt_nil_cons (y : Int) (ys : List Int) : lexLt [] (y :: ys) = true := rfl
theorem lexLt_cons_nil (x : Int) (xs : List Int) : lexLt (x :: xs) [] = false := rfl

theorem eqAt_int (A : Around) (s : Shared) (a : Int) (t : Tok) (c : Int) (u : Tok) : ∃ e, SeqAt.EqAt A s (.int a t) (.int c u) e ∧ (e = true ↔ a = c) :=
  ⟨(a == c), SeqAt.EqAt.int_int a t c u, by simp⟩
theorem rcLt_int (A : Around) (s : Shared) (a : Int) (t : Tok) (c : Int) (u : Tok) (prog : Program) (w : World) (E : Value → Shared → Prop) (Q : Value → Shared → Prop) (h : Q (.bool (decide (a < c))) s) :
    wpAny (model prog w) A (richCompare .Lt (.int a t) (.int c u)) Q E s :=
  (PyProof.Rows.lt_int h : wpAny (model prog w) A (compareOp .Lt (.int a t) (.int c u)) Q E s)

section
open PySem.SeqAt
open PySem.AutoSeq1 (wpAny_loadPart')
open PySem.MeetsSeq PySem.MeetsSeq2 PySem.MeetsSeq3

theorem tuple_lt_ints (l b : Addr) (items items2 : Array Value) (n n2 : Nat) (dd dd2 : Option Addr) (sl sl2 : Array (Option Value)) (ns ms : List Int) (hi : IntsAre items.toList ns) (hj : IntsAre items2.toList ms) :
    Meets (Builtin.«tuple.__lt__» ⟨[.ref l, .ref b], []⟩)
      (fun _ R s => s.heap.get? l = some { cls := .type "tuple", dict := dd, data := .seq items n, slots := sl } ∧ s.heap.get? b = some { cls := .type "tuple", dict := dd2, data := .seq items2 n2, slots := sl2 } ∧
        R (.ok (.ret (.bool (lexLt ns ms)))) s) :=
  .of_wp fun prog w A R s h => by
    obtain ⟨hp, g, d, tk, os⟩ := s; obtain ⟨hl, hb, h⟩ := h
    have f2 := AutoSeq1.sub_tuple_tuple
    have z1 : items.size = ns.length := by rw [← hi.length]; simp
    have z2 : items2.size = ms.length := by rw [← hj.length]; simp
    wp_walk using wpAny_loadPart' hl, wpAny_loadPart' hb, wpAny_forIn_list _ (fun rest b s' => b.1 = none ∧ s' = ⟨hp, g, d, tk, os⟩ ∧ ∃ (vs ws : List Value) (ns' ms' : List Int), rest = vs.zip ws ∧
      IntsAre vs ns' ∧ IntsAre ws ms' ∧ ns'.length + items2.size = ms'.length + items.size ∧ R (.ok (.ret (.bool (lexLt ns' ms')))) ⟨hp, g, d, tk, os⟩) _
    case turn =>
      rintro ⟨y, x⟩ rest b s' ⟨hb', rfl, vs, ws, ns', ms', hz, hvi, hwi, hlen, hR⟩
      cases hvi with
      | nil => rw [List.zip_nil_left] at hz; cases hz
      | cons a t hvi' =>
        cases hwi with
        | nil => rw [List.zip_nil_right] at hz; cases hz
        | cons c u hwi' =>
          rw [List.zip_cons_cons] at hz
          injection hz with hyx hrest
          injection hyx with hy hx
          subst hy hx
          rw [lexLt_cons] at hR
          simp only [List.length_cons] at hlen
          obtain ⟨e, he, hiff⟩ := eqAt_int A.in1 ⟨hp, g, d, tk, os⟩ a t c u
          refine wpAny_bind (he prog w _ _ ?_)
          cases e with
          | true =>
            rw [if_pos (hiff.mp rfl)] at hR
            wp_walk
            exact ⟨rfl, rfl, _, _, _, _, hrest, hvi', hwi', by omega, hR⟩
          | false =>
            rw [if_neg (fun q => absurd (hiff.mpr q) Bool.false_ne_true)] at hR
            have hri := rcLt_int A.in1 ⟨hp, g, d, tk, os⟩ a t c u prog w
            wp_walk using hri
            exact ⟨_, rfl, by simpa using hR⟩
    case fin =>
      rintro ⟨b1, b2⟩ s' ⟨hb', rfl, vs, ws, ns', ms', hz, hvi, hwi, hlen, hR⟩
      simp only at hb'
      subst hb'
      have hv : lexLt ns' ms' = decide (items.size < items2.size) := by
        cases hvi with
        | nil =>
          cases hwi with
          | nil =>
            simp only [List.length_nil] at hlen
            rw [lexLt_nil_nil]
            exact (decide_eq_false (by omega)).symm
          | cons c u hw =>
            simp only [List.length_nil, List.length_cons] at hlen
            rw [lexLt_nil_cons]
            exact (decide_eq_true (by omega)).symm
        | cons a t hv =>
          cases hwi with
          | nil =>
            simp only [List.length_nil, List.length_cons] at hlen
            rw [lexLt_cons_nil]
            exact (decide_eq_false (by omega)).symm
          | cons c u hw =>
            rw [List.zip_cons_cons] at hz
            cases hz
      rw [hv] at hR
      wp_walk
      exact ⟨_, rfl, by simpa [Builtin.Tuple.tupleCompareSizes] using hR⟩
    case h =>
      exact ⟨rfl, rfl, items.toList, items2.toList, ns, ms, rfl, hi, hj, by omega, h⟩
end

section
variable {prog : Program} {w : World} {A : Around} {E : Value → Shared → Prop} {s : Shared}

theorem lt_tupInts {l b : Addr} {items items2 : Array Value} {ns ms : List Int} {Q : Value → Shared → Prop} (hl : IsTup s.heap l items) (hb : IsTup s.heap b items2) (hi : IntsAre items.toList ns) (hj : IntsAre items2.toList ms)
    (hu : A.units < cLine) (h : Q (.bool (lexLt ns ms)) s) : wpAny (model prog w) A (compareOp .Lt (.ref l) (.ref b)) Q E s := by
  obtain ⟨⟨cls, dd, data, sl⟩, ho, hc, n, hd⟩ := id hl
  obtain ⟨⟨cls2, dd2, data2, sl2⟩, ho2, hc2, n2, hd2⟩ := id hb
  simp only at hc hd hc2 hd2
  subst hc hd hc2 hd2
  exact richCompare_meets_room (op := .Lt) ⟨_, ho, rfl⟩ ⟨_, ho2, rfl⟩ PySem.F.slot_tuple_lt PySem.F.entry_tuple_lt (PySem.F.args_tuple_lt_2 _ _) (tuple_lt_ints l b items items2 n n2 dd dd2 sl sl2 ns ms hi hj)
    ⟨ho, ho2, show Value.bool (lexLt ns ms) ≠ Value.notImplemented ∧ Q (.bool (lexLt ns ms)) s from ⟨(fun x => nomatch x), h⟩⟩ hu

/-- t + u, t not empty -/
theorem cat_tup {t b : Addr} {vs ws : List Value} {Q : Value → Shared → Prop} (ht : IsTup s.heap t vs.toArray) (hb : IsTup s.heap b ws.toArray) (hv : vs ≠ [])
    (h1 : ws = [] → Q (.ref t) s) (h2 : ws ≠ [] → Q (.ref s.heap.objs.size) { s with heap := s.heap.push { cls := .type "tuple", data := .seq (vs ++ ws).toArray } })
    (hsz : vs.length + ws.length ≤ sizeLine) : wpAny (model prog w) A (binaryOp .Add (.ref t) (.ref b)) Q E s := by
  obtain ⟨⟨cls, dd, data, sl⟩, ho, hc, n, hd⟩ := id ht
  obtain ⟨⟨cls2, dd2, data2, sl2⟩, ho2, hc2, n2, hd2⟩ := id hb
  simp only at hc hd hc2 hd2
  subst hc hd hc2 hd2
  have e : vs.toArray ++ ws.toArray = (vs ++ ws).toArray := by simp
  by_cases hw : ws = []
  · exact concat_meets ⟨_, ho, rfl⟩ ⟨_, ho2, rfl⟩ noFill_tuple_add seq_tuple_add PySem.F.slot_tuple_add PySem.F.entry_tuple_add (PySem.F.args_tuple_add_2 _ _)
      (tuple_addW1 t b vs.toArray ws.toArray n n2 dd dd2 sl sl2 (by simpa using hv) (by simp [hw])) ⟨ho, ho2, h1 hw⟩
  · refine concat_meets ⟨_, ho, rfl⟩ ⟨_, ho2, rfl⟩ noFill_tuple_add seq_tuple_add PySem.F.slot_tuple_add PySem.F.entry_tuple_add (PySem.F.args_tuple_add_2 _ _)
      (tuple_addW2 t b vs.toArray ws.toArray n n2 dd dd2 sl sl2 (by simpa using hv) (by simpa using hw) (by rw [List.size_toArray, List.size_toArray]; exact hsz)) ⟨ho, ho2, ?_⟩
    rw [e]
    exact h2 hw

/-! ### t[a:b], not the whole -/
/-- a slice's bound as a place among n (d where it is left out) -/
def sIx (n d : Nat) : Option Int → Nat
  | none => d
  | some v => if v < 0 then (v + (n : Int)).toNat else min v.toNat n
theorem sIx_none (n d : Nat) : sIx n d none = d := rfl
theorem sIx_nat (n d k : Nat) : sIx n d (some (k : Int)) = min k n := by
  show (if (k : Int) < 0 then ((k : Int) + (n : Int)).toNat else min (k : Int).toNat n) = min k n
  rw [if_neg (by omega), Int.toNat_natCast]
theorem sIx_le (n d : Nat) (hd : d ≤ n) (o : Option Int) : sIx n d o ≤ n := by
  cases o with
  | none => exact hd
  | some v =>
    show (if v < 0 then (v + (n : Int)).toNat else min v.toNat n) ≤ n
    by_cases hv : v < 0
    · rw [if_pos hv]; omega
    · rw [if_neg hv]; exact Nat.min_le_right _ _
theorem clip_eq (v : Int) (n d : Nat) : (if v < 0 then max (v + (n : Int)) 0 else min v (n : Int)) = ((sIx n d (some v) : Nat) : Int) := by
  show (if v < 0 then max (v + (n : Int)) 0 else min v (n : Int)) = (((if v < 0 then (v + (n : Int)).toNat else min v.toNat n) : Nat) : Int)
  by_cases hv : v < 0
  · simp only [if_pos hv]; omega
  · simp only [if_neg hv]; omega
theorem adjust_gen (lo hi : Option Int) (n : Nat) : Builtin.Slice.sliceAdjust lo hi 1 (n : Int) = (((sIx n 0 lo : Nat) : Int), ((sIx n n hi : Nat) : Int)) := by
  have h1 : ¬ ((1 : Int) < 0) := by omega
  unfold Builtin.Slice.sliceAdjust
  simp only [h1, if_false]
  refine Prod.ext ?_ ?_
  · cases lo with
    | none => rfl
    | some v => exact clip_eq v n 0
  · cases hi with
    | none => rfl
    | some v => exact clip_eq v n n
theorem places_gen (i j : Nat) : Builtin.Slice.slicePlaces (i : Int) (j : Int) 1 = j - i := by
  unfold Builtin.Slice.slicePlaces
  have h1 : (1 : Int) > 0 := by omega
  simp only [h1, if_true, Int.ediv_one]
  split <;> omega
theorem slicePart_ {v : Value} {o : Option Int} {Q : Option Int → Shared → Prop} (p : IsPart v o) (h : Q o s) : wpAny (model prog w) A (Builtin.Slice.slicePartIndex v) Q E s := by
  cases p with
  | none => exact slicePart_none h
  | int i t => exact slicePart_int h
theorem sliceApplied_gen {sl : Addr} {vl vu : Value} {lo hi : Option Int} {n : Nat} {Q : Int × Int × Nat → Shared → Prop} (hs : s.heap.IsSliceOf sl vl vu .none) (pl : IsPart vl lo) (pu : IsPart vu hi)
    (h : Q (((sIx n 0 lo : Nat) : Int), 1, sIx n n hi - sIx n 0 lo) s) : wpAny (model prog w) A (Builtin.Slice.sliceApplied (.ref sl) (pure (n : Int))) Q E s := by
  obtain ⟨os, hos, hcs, hds⟩ := id hs
  unfold Builtin.Slice.sliceApplied Builtin.Slice.sliceFields
  refine wpAny_bind (wpAny_bind (wpAny_field hos hds (x := vl) rfl (wpAny_bind (wpAny_field hos hds (x := vu) rfl (wpAny_bind (wpAny_field hos hds (x := .none) rfl (wpAny_pure ?_)))))))
  refine wpAny_bind (slicePart_none ?_)
  show wpAny _ _ (if ((1 : Int) == 0) = true then _ else _) _ _ s
  rw [if_neg (by decide)]
  refine wpAny_bind (slicePart_ pl (wpAny_bind (slicePart_ pu (wpAny_bind (wpAny_pure ?_)))))
  show wpAny _ _ (match Builtin.Slice.sliceAdjust lo hi 1 (n : Int) with | (lo, hi) => pure (lo, (1 : Int), Builtin.Slice.slicePlaces lo hi 1)) _ _ s
  rw [adjust_gen lo hi n]
  show wpAny _ _ (pure (((sIx n 0 lo : Nat) : Int), (1 : Int), Builtin.Slice.slicePlaces ((sIx n 0 lo : Nat) : Int) ((sIx n n hi : Nat) : Int) 1)) _ _ s
  rw [places_gen]
  exact wpAny_pure h
theorem pick_gen (xs : Array Value) (i k : Nat) : ((List.range k).filterMap fun (m : Nat) => xs[((i : Int) + (m : Int) * 1).toNat]?).toArray = ((xs.toList.drop i).take k).toArray := by
  have e : (fun (m : Nat) => xs[((i : Int) + (m : Int) * 1).toNat]?) = fun m => xs[i + m]? := by
    funext m
    have : ((i : Int) + (m : Int) * 1).toNat = i + m := by omega
    rw [this]
  rw [e]
  have := pick_run xs i k
  rw [List.filterMap_map] at this
  have e2 : ((fun x => xs[x]?) ∘ fun x => i + x) = fun m => xs[i + m]? := rfl
  rw [e2] at this
  rw [this]

theorem getItem_tuple_cut {t sl : Addr} {items : Array Value} {vl vu : Value} {lo hi : Option Int} {Q : Value → Shared → Prop} (ht : IsTup s.heap t items) (hs : s.heap.IsSliceOf sl vl vu .none) (pl : IsPart vl lo) (pu : IsPart vu hi)
    (hw : ¬ (sIx items.size 0 lo = 0 ∧ sIx items.size items.size hi = items.size))
    (h : Q (.ref s.heap.objs.size) { s with heap := s.heap.push { cls := .type "tuple", data := .seq ((items.toList.drop (sIx items.size 0 lo)).take (sIx items.size items.size hi - sIx items.size 0 lo)).toArray } })
    (hsz : items.size ≤ sizeLine) : wpAny (model prog w) A (getItem (.ref t) (.ref sl)) Q E s := by
  have htake : sizeOk (.seq ((items.toList.drop (sIx items.size 0 lo)).take (sIx items.size items.size hi - sIx items.size 0 lo)).toArray) := by
    show ((items.toList.drop (sIx items.size 0 lo)).take (sIx items.size items.size hi - sIx items.size 0 lo)).toArray.size ≤ sizeLine
    rw [List.size_toArray, List.length_take, List.length_drop, Array.length_toList]
    omega
  have hj : sIx items.size items.size hi ≤ items.size := sIx_le _ _ (Nat.le_refl _) hi
  obtain ⟨os, hos, hcs, hds⟩ := id hs
  have hTs : s.TypeIs (.ref sl) "slice" := ⟨os, hos, hcs⟩
  unfold getItem
  try with_reducible refine wpAny_holding ?_
  first | refine wpAny_bind (wpAny_pure ?_) | skip
  refine wpAny_bind (wpAny_sequenceKey ht.typeIs (by decide) ?_)
  refine wpAny_bind (wpAny_callSpecial?_slot (name := Str.ofString "__getitem__") ht.typeIs PyProof.Rows.slot_tuple_getitem
    (wpAny_call_entry PyProof.Rows.slot_tuple_getitem ht.typeIs entry_tuple_getitem ?_ (args_tuple_getitem _ _)))
  show wpAny _ _ (Builtin.Tuple.tupleItemsOf (.ref t) >>= _) _ _ s
  refine wpAny_bind (tupleItemsOf_ ht ?_)
  refine wpAny_bind (wpAny_typeOf hTs ?_)
  rw [if_pos (by decide)]
  refine wpAny_bind (sliceApplied_gen hs pl pu ?_)
  have hno : ¬ ((((sIx items.size 0 lo : Nat) : Int) == 0 && (1 : Int) == 1 && (sIx items.size items.size hi - sIx items.size 0 lo) == items.size) = true) := by
    intro q
    rw [Bool.and_eq_true, Bool.and_eq_true] at q
    have q1 : ((sIx items.size 0 lo : Nat) : Int) = 0 := eq_of_beq q.1.1
    have q2 : sIx items.size items.size hi - sIx items.size 0 lo = items.size := eq_of_beq q.2
    exact hw ⟨by omega, by omega⟩
  show wpAny _ _ (if (((sIx items.size 0 lo : Nat) : Int) == 0 && (1 : Int) == 1 && (sIx items.size items.size hi - sIx items.size 0 lo) == items.size) = true then _ else _) _ _ s
  rw [if_neg hno, pick_gen]
  first
    | exact wpAny_bind (m := Builtin.Tuple.tupleExact _) (wpAny_newObj_type (wpAny_pure ⟨_, rfl, wpAny_pure h⟩) htake)
    | exact wpAny_bind (m := Builtin.Tuple.tupleExact _) (wpAny_newObj_type (wpAny_bind (wpAny_pure (wpAny_pure ⟨_, rfl, wpAny_pure h⟩))) htake)
    | exact wpAny_bind (wpAny_bind (m := Builtin.Tuple.tupleExact _) (wpAny_newObj_type (wpAny_pure (wpAny_pure ⟨_, rfl, wpAny_pure h⟩)) htake))
    | exact wpAny_bind (wpAny_bind (m := Builtin.Tuple.tupleExact _) (wpAny_newObj_type (wpAny_pure ⟨_, rfl, wpAny_pure h⟩) htake))
end
end HT

namespace L2
open PySem PySem.Spec PyProof.Rows

/-! ### the parts of a slice -/
abbrev TO := St → Hp → (Option Int → Hp → Prop) → Prop
/-- a slice's part (left out, or an int) -/
def PO (X : Cx) (e : Option Expr) (t : TO) : Prop :=
  ∀ (pins : List (Addr × Obj)) (s : Shared) (σ : St) (H : Hp) (Q : Option Int → Hp → Prop), Inv X pins σ H s → t σ H Q →
    wpAny (model X.prog X.w) X.A (evalPart e X.env) (fun u s' => ∃ o H', Inv X pins σ H' s' ∧ IsPart u o ∧ Q o H') X.xe s
def tNoPart : TO := fun _ H Q => Q none H
def tPart (t : TE) : TO := fun σ H Q => t σ H fun x H1 => ∃ i, x = .int i ∧ Q (some i) H1

theorem intsAre_of {ns : List Int} : ∀ {us : List Value}, Vals (ns.map V.int) us → IntsAre us ns := by
  induction ns with
  | nil => intro us r; rw [List.map_nil] at r; cases r; exact .nil
  | cons n ns ih =>
    intro us r
    rw [List.map_cons] at r
    cases r with
    | cons r1 r2 =>
      obtain ⟨t, e⟩ := r1
      subst e
      exact .cons n t (ih r2)

section
variable {X : Cx} {e : Expr} {te : TE} {lo hi : Option Expr} {tl th : TO} {pos p2 : Pos}

theorem po_none : PO X none tNoPart := by
  intro pins s σ H Q I h
  rw [evalPart_none]
  exact wpAny_pure ⟨none, H, I, .none, h⟩
theorem po_some (h : PE X e te) : PO X (some e) (tPart te) := by
  intro pins s σ H Q I hw
  rw [evalPart_some]
  refine thn (h pins s σ H _ I hw) fun u s1 ⟨x, H1, I1, r1, q1⟩ => ?_
  obtain ⟨i, rfl, q⟩ := q1
  obtain ⟨t, rfl⟩ := r1
  exact ⟨some i, H1, I1, .int i t, q⟩

/-- what a slice of a value is, by values: the slice object stands at sl -/
def SlR (X : Cx) (r : V → Option Int → Option Int → Hp → VK → Prop) : Prop :=
  ∀ (pins : List (Addr × Obj)) (s : Shared) (σ : St) (H : Hp) (x : V) (v vl vu : Value) (lo hi : Option Int) (sl : Addr) (Q : VK), Inv X pins σ H s → RelV x v → s.heap.IsSliceOf sl vl vu .none → IsPart vl lo → IsPart vu hi → r x lo hi H Q →
    ∃ T id, typeLookup (.type T) "__getitem__" = pure (some (.builtin id)) ∧ s.TypeIs v T ∧ wpAny (model X.prog X.w) X.A (getItem v (.ref sl)) (EP X pins σ Q) X.xe s
theorem SlR.or {r r' : V → Option Int → Option Int → Hp → VK → Prop} (h : SlR X r) (h' : SlR X r') : SlR X (fun x lo hi H Q => r x lo hi H Q ∨ r' x lo hi H Q) := by
  intro pins s σ H x v vl vu lo hi sl Q I rx hs pl pu q
  rcases q with q | q
  · exact h pins s σ H x v vl vu lo hi sl Q I rx hs pl pu q
  · exact h' pins s σ H x v vl vu lo hi sl Q I rx hs pl pu q
def tSl (r : V → Option Int → Option Int → Hp → VK → Prop) (te : TE) (tl th : TO) : TE := fun σ H Q => te σ H fun x H1 => tl σ H1 fun l H2 => th σ H2 fun u H3 => r x l u H3 Q
/-- a[lo:hi], any a -/
theorem pe_slice {r : V → Option Int → Option Int → Hp → VK → Prop} (hr : SlR X r) (he : PE X e te) (hl : PO X lo tl) (hu : PO X hi th) : PE X (.Subscript e (.Slice lo hi none p2) pos) (tSl r te tl th) := by
  intro pins s σ H Q I h
  refine Subscript_ (thn (he pins s σ H _ I h) fun v s1 ⟨x, H1, I1, r1, q1⟩ => ?_)
  refine wpAny_Slice (thn (hl pins s1 σ H1 _ I1 q1) fun vl s2 ⟨l, H2, I2, pl, q2⟩ => thn (hu pins s2 σ H2 _ I2 q2) fun vu s3 ⟨u, H3, I3, pu, q3⟩ => ?_)
  rw [evalPart_none]
  refine wpAny_pure ?_
  have I4 : Inv X pins σ H3 { s3 with heap := s3.heap.push { cls := .type "slice", data := .fields #[vl, vu, .none] } } := I3.kept (t' := s3.toks) fun b ob q => Heap.get?_push_of_some _ q
  obtain ⟨T, id, hT, ht, hg⟩ := hr pins { s3 with heap := s3.heap.push { cls := .type "slice", data := .fields #[vl, vu, .none] } } σ H3 x v vl vu l u s3.heap.objs.size Q I4 r1 (Heap.IsSliceOf.new ..) pl pu q3
  show wpAny (model X.prog X.w) X.A (subscriptTail e (.Slice lo hi none p2) v (.ref s3.heap.objs.size)) (EP X pins σ Q) X.xe { s3 with heap := s3.heap.push { cls := .type "slice", data := .fields #[vl, vu, .none] } }
  exact tail_any (ops := [.ref s3.heap.objs.size, v]) ht hT hg (by with_unfolding_all rfl)

/-- the items of xs[lo:hi] -/
def cutV (xs : List V) (lo hi : Option Int) : List V := (xs.drop (HT.sIx xs.length 0 lo)).take (HT.sIx xs.length xs.length hi - HT.sIx xs.length 0 lo)
theorem cutV_length (xs : List V) (lo hi : Option Int) : (cutV xs lo hi).length ≤ xs.length := by
  unfold cutV
  rw [List.length_take, List.length_drop]
  omega
/-- t[lo:hi], not the whole of it (the whole would be t itself) -/
def rSlT (K : PySem.W.Frag) : V → Option Int → Option Int → Hp → VK → Prop := fun x lo hi H Q => ∃ a xs, x = .ref a ∧ SqT K H a xs ∧
  ¬ (HT.sIx xs.length 0 lo = 0 ∧ HT.sIx xs.length xs.length hi = xs.length) ∧ ∀ p, H p = none → Q (.ref p) (upd H p (.tup (cutV xs lo hi)))
theorem sl_tup : SlR X (rSlT X.K) := by
  intro pins s σ H x v vl vu lo hi sl Q I rx hs pl pu h
  obtain ⟨a, xs, rfl, hx, hw, q⟩ := h
  cases rx
  obtain ⟨its, r, ht, hz⟩ := I.tuple hx
  have hlen : its.toArray.size = xs.length := by rw [List.size_toArray]; exact r.length.symm
  refine ⟨"tuple", _, PyProof.Rows.slot_tuple_getitem.lookup, ht.typeIs, ?_⟩
  refine HT.getItem_tuple_cut ht hs pl pu (by rw [hlen]; exact hw) ?_ (by rw [hlen]; exact hz)
  rw [hlen]
  refine ⟨.ref s.heap.objs.size, _, I.laid (t' := s.toks) (o := .tup (cutV xs lo hi)) (fun b ob q => Heap.get?_push_of_some _ q) (Nat.le_refl _) ?_, rfl, q _ (I.hok.fresh (Nat.le_refl _))⟩
  exact ⟨Nat.le_trans (cutV_length xs lo hi) hz, _, (r.drop (HT.sIx xs.length 0 lo)).take (HT.sIx xs.length xs.length hi - HT.sIx xs.length 0 lo), IsTup.new _ _⟩

/-! ### t < u, t + u -/
def rLtT (K : PySem.W.Frag) : R2 := fun x y H Q => ∃ a b ns ms, x = .ref a ∧ y = .ref b ∧ SqT K H a (ns.map V.int) ∧ SqT K H b (ms.map V.int) ∧ Q (.bl (HT.lexLt ns ms)) H
theorem op_ltT (hu : X.A.units < cLine) : OpR X (compareOp .Lt) (rLtT X.K) := by
  intro pins s σ H x y v u Q I rx ry h
  obtain ⟨a, b, ns, ms, rfl, rfl, ha, hb, q⟩ := h
  cases rx
  cases ry
  obtain ⟨its, r1, p1, _⟩ := I.tuple ha
  obtain ⟨its2, r2, p2, _⟩ := I.tuple hb
  have i1 : IntsAre its.toArray.toList ns := intsAre_of r1
  have i2 : IntsAre its2.toArray.toList ms := intsAre_of r2
  exact HT.lt_tupInts p1 p2 i1 i2 hu ⟨.bl (HT.lexLt ns ms), H, I, rfl, q⟩
/-- t + u, t not empty: u empty gives t itself -/
def rCatT (K : PySem.W.Frag) : R2 := fun x y H Q => ∃ a b xs ys, x = .ref a ∧ y = .ref b ∧ SqT K H a xs ∧ SqT K H b ys ∧ xs ≠ [] ∧ xs.length + ys.length ≤ sizeLine ∧
  (ys = [] → Q (.ref a) H) ∧ (ys ≠ [] → ∀ p, H p = none → Q (.ref p) (upd H p (.tup (xs ++ ys))))
theorem Vals.nil_iff {xs : List V} {us : List Value} (r : Vals xs us) : us = [] ↔ xs = [] := by
  cases r with
  | nil => simp
  | cons _ _ => simp
theorem op_catT : OpR X (binaryOp .Add) (rCatT X.K) := by
  intro pins s σ H x y v u Q I rx ry h
  obtain ⟨a, b, xs, ys, rfl, rfl, ha, hb, hx, hz, q1, q2⟩ := h
  cases rx
  cases ry
  obtain ⟨its, r1, p1, _⟩ := I.tuple ha
  obtain ⟨its2, r2, p2, _⟩ := I.tuple hb
  refine HT.cat_tup p1 p2 (fun z => hx (r1.nil_iff.mp z)) (fun z => ⟨.ref a, H, I, rfl, q1 (r2.nil_iff.mp z)⟩) (fun z => ?_) (by rw [← r1.length, ← r2.length]; exact hz)
  refine ⟨.ref s.heap.objs.size, _, I.laid (t' := s.toks) (o := .tup (xs ++ ys)) (fun b ob q => Heap.get?_push_of_some _ q) (Nat.le_refl _) ?_, rfl, q2 (fun w => z (r2.nil_iff.mpr w)) _ (I.hok.fresh (Nat.le_refl _))⟩
  exact ⟨by rw [List.length_append]; exact hz, _, r1.append r2, IsTup.new _ _⟩
/-- tuple(t) -/
theorem call_tupleT : CallR X (.type "tuple") (fun xs H Q => ∃ a ys, xs = [.ref a] ∧ SqT X.K H a ys ∧ Q (.ref a) H) := by
  intro pins s σ H xs us Q I r h
  obtain ⟨a, ys, rfl, ha, q⟩ := h
  obtain ⟨u, rfl, ru⟩ := vals1 r
  cases ru
  obtain ⟨its, _, p1, _⟩ := I.tuple ha
  exact call_tuple_same (items := its.toArray) p1 ⟨.ref a, H, I, rfl, q⟩
end
end L2

namespace L2
open PySem PySem.Spec PyProof.Rows

/-! ### places -/
/-- the place that an index of any sign means -/
def ixN (n : Nat) (i : Int) : Option Nat := if 0 ≤ i then (if i < n then some i.toNat else none) else if -(n : Int) ≤ i then some (i + n).toNat else none
def atI {α : Type} (xs : List α) (i : Int) : Option α := (ixN xs.length i).bind fun j => xs[j]?
theorem ixN_seq {n : Nat} {i : Int} {j : Nat} (h : ixN n i = some j) : seqIndex? i n = some j ∧ j < n ∧ -(n : Int) ≤ i ∧ i < n := by
  unfold ixN at h
  by_cases h0 : 0 ≤ i
  · rw [if_pos h0] at h
    by_cases h1 : i < n
    · rw [if_pos h1] at h
      have e : i.toNat = j := Option.some.inj h
      exact ⟨by rw [seqIndex_of h0 h1, e], by omega, by omega, h1⟩
    · rw [if_neg h1] at h; cases h
  · rw [if_neg h0] at h
    by_cases h1 : -(n : Int) ≤ i
    · rw [if_pos h1] at h
      have e : (i + n).toNat = j := Option.some.inj h
      exact ⟨by rw [seqIndex_neg (by omega) h1, e], by omega, h1, by omega⟩
    · rw [if_neg h1] at h; cases h
theorem atI_get {α : Type} {xs : List α} {i : Int} {v : α} (h : atI xs i = some v) : ∃ j, seqIndex? i xs.length = some j ∧ xs[j]? = some v ∧ j < xs.length ∧ -(xs.length : Int) ≤ i ∧ i < xs.length := by
  unfold atI at h
  cases e : ixN xs.length i with
  | none => rw [e] at h; cases h
  | some j =>
    rw [e] at h
    obtain ⟨h1, h2, h3, h4⟩ := ixN_seq e
    exact ⟨j, h1, h, h2, h3, h4⟩
theorem atI_nat {α : Type} {xs : List α} {j : Nat} {v : α} (h : xs[j]? = some v) : atI xs (j : Int) = some v := by
  have hj : j < xs.length := (List.getElem?_eq_some_iff.mp h).1
  have e : ixN xs.length (j : Int) = some j := by
    unfold ixN
    rw [if_pos (by omega), if_pos (by omega)]; simp
  unfold atI; rw [e]; exact h
theorem atI_last {α : Type} (xs : List α) (v : α) : atI (xs ++ [v]) (-1) = some v := by
  have hl : (xs ++ [v]).length = xs.length + 1 := by simp
  have e : ixN (xs ++ [v]).length (-1) = some xs.length := by
    unfold ixN
    rw [hl, if_neg (by decide), if_pos (by omega)]
    congr 1
    omega
  unfold atI
  rw [e]
  show (xs ++ [v])[xs.length]? = some v
  simp

/-! ### what may be subscripted -/
/-- what stands as an index of a plain subscript -/
def PlainIx (b : Expr) : Prop := ∀ o i, subscripted b false o i = operate [o, i] (getItem o i)
/-- a subscript by values -/
def IxR (X : Cx) (r : R2) : Prop :=
  ∀ (value slice : Expr) (pins : List (Addr × Obj)) (s : Shared) (σ : St) (H : Hp) (x y : V) (v u : Value) (Q : VK), Inv X pins σ H s → RelV x v → RelV y u → r x y H Q →
    subscripted slice false v u = operate [v, u] (getItem v u) → wpAny (model X.prog X.w) X.A (subscriptTail value slice v u) (EP X pins σ Q) X.xe s
/-- a call of a builtin's method by values: the receiver, the arguments -/
def MtR (X : Cx) (id : String) (r : V → List V → Hp → VK → Prop) : Prop :=
  ∀ (pins : List (Addr × Obj)) (s : Shared) (σ : St) (H : Hp) (x : V) (xs : List V) (v : Value) (us : List Value) (Q : VK), Inv X pins σ H s → RelV x v → Vals xs us → r x xs H Q →
    wpAny (model X.prog X.w) X.A (call (.builtin id) (v :: us)) (EP X pins σ Q) X.xe s
section
variable {X : Cx} {a b : Expr} {ta tb : TE} {pos : Pos}
theorem IxR.or {r r' : R2} (h : IxR X r) (h' : IxR X r') : IxR X (fun x y H Q => r x y H Q ∨ r' x y H Q) := by
  intro value slice pins s σ H x y v u Q I rx ry q hs
  rcases q with q | q
  · exact h value slice pins s σ H x y v u Q I rx ry q hs
  · exact h' value slice pins s σ H x y v u Q I rx ry q hs
theorem MtR.or {id : String} {r r' : V → List V → Hp → VK → Prop} (h : MtR X id r) (h' : MtR X id r') : MtR X id (fun x xs H Q => r x xs H Q ∨ r' x xs H Q) := by
  intro pins s σ H x xs v us Q I rx rs q
  rcases q with q | q
  · exact h pins s σ H x xs v us Q I rx rs q
  · exact h' pins s σ H x xs v us Q I rx rs q
/-- a[b] -/
theorem pe_ix {r : R2} (hr : IxR X r) (ha : PE X a ta) (hb : PE X b tb) (hs : PlainIx b) : PE X (.Subscript a b pos) (tOp r ta tb) := by
  intro pins s σ H Q I h
  exact Subscript_ (binT ha hb I h fun v u s2 x y H2 I2 rx ry q => hr a b pins s2 σ H2 x y v u Q I2 rx ry q (hs _ _))

def rIxL (K : PySem.W.Frag) : R2 := fun x y H Q => ∃ p xs i v, x = .ref p ∧ y = .int i ∧ SqL K H p xs ∧ atI xs i = some v ∧ Q v H
def rIxT (K : PySem.W.Frag) : R2 := fun x y H Q => ∃ p xs i v, x = .ref p ∧ y = .int i ∧ SqT K H p xs ∧ atI xs i = some v ∧ Q v H
def rIxS : R2 := fun x y H Q => ∃ z i c, x = .str z ∧ y = .int i ∧ z.length ≤ sizeLine ∧ atI z.cps.toList i = some c ∧ Q (.str ⟨#[c]⟩) H
theorem ix_list : IxR X (rIxL X.K) := by
  intro value slice pins s σ H x y v u Q I rx ry h hs
  obtain ⟨p, xs, i, z, rfl, rfl, hq, he, q⟩ := h
  cases rx
  obtain ⟨t, rfl⟩ := ry
  obtain ⟨its, r, pl, hz⟩ := I.list hq
  obtain ⟨j, h1, h2, h3, h4, h5⟩ := atI_get he
  obtain ⟨w, ew, rw'⟩ := r.get h2
  have hl := r.length
  have hn := line63
  have fin : EP X pins σ Q w s := ⟨z, H, I, rw', q⟩
  by_cases h0 : 0 ≤ i
  · have hj : i.toNat = j := by
      rw [seqIndex_of h0 h5] at h1
      exact Option.some.inj h1
    exact item_listR pl.isList h0 (by omega) (by rw [hj]; simpa using ew) fin hs
  · have hj : (i + (its.toArray.size : Int)).toNat = j := by
      rw [seqIndex_neg (by omega) h4] at h1
      rw [List.size_toArray, ← hl]
      exact Option.some.inj h1
    exact subscriptTail_builtinR (x := w) pl.isList.typeIs slot_list_getitem.lookup
      (wpAny_getItem_list_neg (Q := fun r s' => r = w ∧ EP X pins σ Q r s') pl.isList (by omega) (by rw [List.size_toArray] <;> omega) (by omega) (by rw [hj]; simpa using ew) ⟨rfl, fin⟩) hs
theorem ix_tup : IxR X (rIxT X.K) := by
  intro value slice pins s σ H x y v u Q I rx ry h hs
  obtain ⟨p, xs, i, z, rfl, rfl, hq, he, q⟩ := h
  cases rx
  obtain ⟨t, rfl⟩ := ry
  obtain ⟨its, r, pl, hz⟩ := I.tuple hq
  obtain ⟨j, h1, h2, h3, h4, h5⟩ := atI_get he
  obtain ⟨w, ew, rw'⟩ := r.get h2
  have hl := r.length
  have hn := line63
  have fin : EP X pins σ Q w s := ⟨z, H, I, rw', q⟩
  exact subscriptTail_builtinR (x := w) pl.typeIs slot_tuple_getitem.lookup
    (getItem_tuple (j := j) (Q := fun r s' => r = w ∧ EP X pins σ Q r s') pl (by omega) (by omega) (by rw [List.size_toArray, ← hl]; exact h1) (by simpa using ew) ⟨rfl, fin⟩) hs
theorem ix_str : IxR X rIxS := by
  intro value slice pins s σ H x y v u Q I rx ry h hs
  obtain ⟨z, i, c, rfl, rfl, hz, he, q⟩ := h
  obtain ⟨t, rfl⟩ := rx
  obtain ⟨t', rfl⟩ := ry
  obtain ⟨j, h1, h2, h3, h4, h5⟩ := atI_get he
  have hl : z.cps.toList.length = z.length := by simp [Str.length]
  rw [hl] at h1 h4 h5
  have hn := line63
  exact tail_any (typeIs_str s z t) slot_str_getitem.lookup (getItem_str (c := c) (by
    have e1 : decide (i < -(2 ^ 63 : Int)) = false := decide_eq_false (by omega)
    have e2 : decide (i ≥ 2 ^ 63) = false := decide_eq_false (by omega)
    rw [e1, e2, Bool.or_false]) (by rw [h1]; simpa using h2) ⟨.str ⟨#[c]⟩, H, I.tok _, ⟨_, rfl⟩, q⟩) hs
/-- list, tuple or str -/
def rIx (K : PySem.W.Frag) : R2 := fun x y H Q => rIxL K x y H Q ∨ rIxT K x y H Q ∨ rIxS x y H Q
theorem ix_seq : IxR X (rIx X.K) := ix_list.or (ix_tup.or ix_str)

/-! ### xs[i] = v, any sign -/
/-- the list's object behind a store -/
theorem mapSeq_set (its : List Value) (n j : Nat) (u : Value) : Obj.mapSeq (·.setIfInBounds j u) { cls := .type "list", data := .seq its.toArray n } = { cls := .type "list", data := .seq (its.set j u).toArray n } := by
  simp [Obj.mapSeq]
theorem Inv.lst {pins : List (Addr × Obj)} {σ : St} {H : Hp} {s : Shared} {p : Addr} {xs : List V} (I : Inv X pins σ H s) (h : H p = some (.lst xs)) :
    ∃ (its : List Value) (n : Nat), Vals xs its ∧ s.heap.get? p = some { cls := .type "list", data := .seq its.toArray n } ∧ xs.length ≤ sizeLine := by
  obtain ⟨z, its, n, r, e⟩ := I.hok p _ h
  exact ⟨its, n, r, e, z⟩
/-- the list at p is written by an update of its object -/
theorem Inv.lstUpd {pins : List (Addr × Obj)} {σ : St} {H : Hp} {s : Shared} {p : Addr} {xs ys : List V} {its its' : List Value} {n n' : Nat} {f : Obj → Obj} (I : Inv X pins σ H s) (h : H p = some (.lst xs))
    (ho : s.heap.get? p = some { cls := .type "list", data := .seq its.toArray n }) (hf : f { cls := .type "list", data := .seq its.toArray n } = { cls := .type "list", data := .seq its'.toArray n' }) (r : Vals ys its') (hz : ys.length ≤ sizeLine) (t : Nat) :
    Inv X pins σ (upd H p (.lst ys)) { s with heap := s.heap.update p f, toks := t } := by
  have e : (s.heap.update p f).get? p = some { cls := .type "list", data := .seq its'.toArray n' } := by
    rw [Heap.get?_update_self f ho (by rw [hf] <;> rfl), hf]
  refine I.write (x := p) (e := p) (by rw [h]; trivial) (.inl rfl) (fun b u hb q => (Heap.get?_update_other _ _ (Ne.symm hb)).trans q) ⟨_, e⟩ ?_
  exact ⟨hz, its', n', r, e⟩
def rSetL : V → V → V → Hp → (Hp → Prop) → Prop := fun o i v H Q => ∃ p xs k j, o = .ref p ∧ i = .int k ∧ H p = some (.lst xs) ∧ ixN xs.length k = some j ∧ Q (upd H p (.lst (xs.set j v)))
theorem set_list : PSet X rSetL := by
  intro pins s σ H o i v ov iv u Q I ro ri rv h
  obtain ⟨p, xs, k, j, rfl, rfl, hp, hj, q⟩ := h
  cases ro
  obtain ⟨t, rfl⟩ := ri
  obtain ⟨its, n, r, ho, hz⟩ := I.lst hp
  obtain ⟨h1, h2, h3, h4⟩ := ixN_seq hj
  have hl := r.length
  have hn := line63
  have I' : Inv X pins σ (upd H p (.lst (xs.set j v))) { s with heap := s.heap.update p (Obj.mapSeq (·.setIfInBounds j u)) } :=
    I.lstUpd hp ho (mapSeq_set its n j u) (r.set rv j) (by rw [List.length_set]; exact hz) s.toks
  by_cases h0 : 0 ≤ k
  · have hk : k.toNat = j := by
      rw [seqIndex_of h0 h4] at h1
      exact Option.some.inj h1
    exact PySem.W.ki_setAt ho h0 (by omega) (by rw [List.size_toArray, ← hl]; exact h4) (by rw [hk]; exact ⟨_, I', q⟩)
  · have hk : (k + (its.toArray.size : Int)).toNat = j := by
      rw [seqIndex_neg (by omega) h3] at h1
      rw [List.size_toArray, ← hl]
      exact Option.some.inj h1
    exact PySem.W.ki_setBack ho (by omega) (by rw [List.size_toArray, ← hl]; exact h3) (by omega) (by rw [hk]; exact ⟨_, I', q⟩)

/-! ### slices -/
theorem slice_bounds (lo hi : Option Int) (n : Nat) : (sliceBounds lo hi none n).1 = ((HT.sIx n 0 lo : Nat) : Int) ∧ (sliceBounds lo hi none n).2.1 = ((HT.sIx n n hi : Nat) : Int) ∧ (sliceBounds lo hi none n).2.2 = 1 := by
  refine ⟨?_, ?_, rfl⟩
  · cases lo with
    | none => simp [sliceBounds, HT.sIx]
    | some i =>
      simp only [sliceBounds, HT.sIx, Option.getD_none, show (1 : Int) > 0 by decide, if_true]
      by_cases h : i < 0
      · simp only [h, if_true] <;> omega
      · simp only [h, if_false] <;> omega
  · cases hi with
    | none => simp [sliceBounds, HT.sIx]
    | some i =>
      simp only [sliceBounds, HT.sIx, Option.getD_none, show (1 : Int) > 0 by decide, if_true]
      by_cases h : i < 0
      · simp only [h, if_true] <;> omega
      · simp only [h, if_false] <;> omega
theorem slicePick_cut (its : List Value) (lo hi : Option Int) : slicePick its.toArray lo hi none = ((its.drop (HT.sIx its.length 0 lo)).take (HT.sIx its.length its.length hi - HT.sIx its.length 0 lo)).toArray := by
  obtain ⟨h1, h2, h3⟩ := slice_bounds lo hi its.toArray.size
  unfold slicePick
  rw [h1, h2, h3]
  simp only [sliceRange_one, pick_run, List.size_toArray] <;> rfl
/-- xs[lo:hi] of a list: a new list -/
def rSlL (K : PySem.W.Frag) : V → Option Int → Option Int → Hp → VK → Prop := fun x lo hi H Q => ∃ a xs, x = .ref a ∧ SqL K H a xs ∧ ∀ p, H p = none → Q (.ref p) (upd H p (.lst (cutV xs lo hi)))
theorem sl_list : SlR X (rSlL X.K) := by
  intro pins s σ H x v vl vu lo hi sl Q I rx hs pl pu h
  obtain ⟨a, xs, rfl, hx, q⟩ := h
  cases rx
  obtain ⟨its, r, ht, hz⟩ := I.list hx
  have hlen := r.length
  refine ⟨"list", _, slot_list_getitem.lookup, ht.isList.typeIs, ?_⟩
  refine wpAny_getItem_list_slice ht.isList hs pl pu .none (by simp) ?_ (by rw [List.size_toArray] <;> omega)
  rw [slicePick_cut, ← hlen]
  refine ⟨.ref s.heap.objs.size, _, I.laid (t' := s.toks) (o := .lst (cutV xs lo hi)) (fun b ob q => Heap.get?_push_of_some _ q) (Nat.le_refl _) ?_, rfl, q _ (I.hok.fresh (Nat.le_refl _))⟩
  exact ⟨Nat.le_trans (cutV_length xs lo hi) hz, _, 0, (r.drop (HT.sIx xs.length 0 lo)).take (HT.sIx xs.length xs.length hi - HT.sIx xs.length 0 lo), Heap.get?_push_size _ rfl⟩

/-! ### in, not in: flat items -/
def flatV : V → Bool
  | .non => true
  | .bl _ => true
  | .int _ => true
  | .str _ => true
  | _ => false
/-- == of flat values -/
def eqV : V → V → Bool
  | .non, .non => true
  | .bl a, .bl b => a == b
  | .bl a, .int b => (if a then 1 else 0) == b
  | .int a, .bl b => a == (if b then 1 else 0)
  | .int a, .int b => a == b
  | .str a, .str b => a == b
  | _, _ => false
theorem eqAt_V {A : Around} {s : Shared} {y x : V} {u v : Value} (ry : RelV y u) (rx : RelV x v) (fy : flatV y = true) (fx : flatV x = true) : SeqAt.EqAt A s u v (eqV y x) := by
  cases y with
  | non =>
    cases ry
    cases x with
    | non => cases rx; exact SeqAt.EqAt.same _
    | bl b => cases rx; exact SeqAt.EqAt.none_bool b
    | int b => obtain ⟨t, rfl⟩ := rx; exact SeqAt.EqAt.none_int b t
    | str b => obtain ⟨t, rfl⟩ := rx; exact SeqAt.EqAt.none_str b t
    | _ => exact absurd (show false = true from fx) Bool.false_ne_true
  | bl a =>
    cases ry
    cases x with
    | non => cases rx; exact SeqAt.EqAt.bool_none a
    | bl b => cases rx; exact SeqAt.EqAt.bool_bool a b
    | int b => obtain ⟨t, rfl⟩ := rx; exact SeqAt.EqAt.bool_int a b t
    | str b => obtain ⟨t, rfl⟩ := rx; exact SeqAt.EqAt.bool_str a b t
    | _ => exact absurd (show false = true from fx) Bool.false_ne_true
  | int a =>
    obtain ⟨t', rfl⟩ := ry
    cases x with
    | non => cases rx; exact SeqAt.EqAt.int_none a t'
    | bl b => cases rx; exact SeqAt.EqAt.int_bool a t' b
    | int b => obtain ⟨t, rfl⟩ := rx; exact SeqAt.EqAt.int_int a t' b t
    | str b => obtain ⟨t, rfl⟩ := rx; exact SeqAt.EqAt.int_str a t' b t
    | _ => exact absurd (show false = true from fx) Bool.false_ne_true
  | str a =>
    obtain ⟨t', rfl⟩ := ry
    cases x with
    | non => cases rx; exact SeqAt.EqAt.str_none a t'
    | bl b => cases rx; exact SeqAt.EqAt.str_bool a t' b
    | int b => obtain ⟨t, rfl⟩ := rx; exact SeqAt.EqAt.str_int a t' b t
    | str b => obtain ⟨t, rfl⟩ := rx; exact SeqAt.EqAt.str_str a t' b t
    | _ => exact absurd (show false = true from fx) Bool.false_ne_true
  | _ => exact absurd (show false = true from fy) Bool.false_ne_true
/-- the items' answers, read off the values (a value's own answer does not lean on its token) -/
def eqU (x : V) (u : Value) : Bool := match u with
  | .none => eqV .non x
  | .bool b => eqV (.bl b) x
  | .int i _ => eqV (.int i) x
  | .str z _ => eqV (.str z) x
  | _ => false
theorem eqU_of {x y : V} {u : Value} (r : RelV y u) (f : flatV y = true) : eqU x u = eqV y x := by
  cases y with
  | non => cases r; rfl
  | bl b => cases r; rfl
  | int i => obtain ⟨t, rfl⟩ := r; rfl
  | str z => obtain ⟨t, rfl⟩ := r; rfl
  | _ => exact absurd (show false = true from f) Bool.false_ne_true
theorem any_eqU {x : V} : ∀ {xs : List V} {us : List Value}, Vals xs us → xs.all flatV = true → us.any (eqU x) = xs.any fun y => eqV y x
  | _, _, .nil, _ => rfl
  | y :: xs, u :: us, .cons r t, f => by
    rw [List.all_cons, Bool.and_eq_true] at f
    rw [List.any_cons, List.any_cons, eqU_of r f.1, any_eqU t f.2]
theorem mem_eqAt {A : Around} {s : Shared} {x : V} {v : Value} (rx : RelV x v) (fx : flatV x = true) : ∀ {xs : List V} {us : List Value}, Vals xs us → xs.all flatV = true → ∀ u ∈ us, SeqAt.EqAt A s u v (eqU x u)
  | _, _, .nil, _ => fun u hu => by cases hu
  | y :: xs, u :: us, .cons r t, f => fun u' hu => by
    rw [List.all_cons, Bool.and_eq_true] at f
    rcases List.mem_cons.mp hu with rfl | hu
    · rw [eqU_of r f.1]; exact eqAt_V r rx f.1 fx
    · exact mem_eqAt rx fx t f.2 u' hu
def inV (x : V) (xs : List V) : Bool := xs.any fun y => eqV y x
/-- x in a list or tuple of flat items -/
def rIn (K : PySem.W.Frag) (neg : Bool) : R2 := fun x y H Q => ∃ p xs, y = .ref p ∧ (SqL K H p xs ∨ SqT K H p xs) ∧ flatV x = true ∧ xs.all flatV = true ∧ Q (.bl (if neg then !inV x xs else inV x xs)) H
theorem op_in_seq : OpR X (compareOp .In) (rIn X.K false) := by
  intro pins s σ H x y v u Q I rx ry h
  obtain ⟨p, xs, rfl, hq, fx, fs, q⟩ := h
  cases ry
  rcases hq with hq | hq
  · obtain ⟨its, r, pl, hz⟩ := I.list hq
    refine SeqAt.in_listAt (eqU x) pl.isList (fun w hw => mem_eqAt rx fx r fs w (by simpa using hw)) ⟨.bl _, H, I, rfl, ?_⟩
    rw [show its.toArray.any (eqU x) = its.any (eqU x) by simp, any_eqU r fs]
    exact q
  · obtain ⟨its, r, pl, hz⟩ := I.tuple hq
    refine SeqAt.in_tupleAt (eqU x) pl (fun w hw => mem_eqAt rx fx r fs w (by simpa using hw)) ⟨.bl _, H, I, rfl, ?_⟩
    rw [show its.toArray.any (eqU x) = its.any (eqU x) by simp, any_eqU r fs]
    exact q
theorem op_notIn_seq : OpR X (compareOp .NotIn) (rIn X.K true) := by
  intro pins s σ H x y v u Q I rx ry h
  obtain ⟨p, xs, rfl, hq, fx, fs, q⟩ := h
  cases ry
  rcases hq with hq | hq
  · obtain ⟨its, r, pl, hz⟩ := I.list hq
    refine SeqAt.notIn_listAt (eqU x) pl.isList (fun w hw => mem_eqAt rx fx r fs w (by simpa using hw)) ⟨.bl _, H, I, rfl, ?_⟩
    rw [show its.toArray.any (eqU x) = its.any (eqU x) by simp, any_eqU r fs]
    exact q
  · obtain ⟨its, r, pl, hz⟩ := I.tuple hq
    refine SeqAt.notIn_tupleAt (eqU x) pl (fun w hw => mem_eqAt rx fx r fs w (by simpa using hw)) ⟨.bl _, H, I, rfl, ?_⟩
    rw [show its.toArray.any (eqU x) = its.any (eqU x) by simp, any_eqU r fs]
    exact q
theorem op_notIn_str : OpR X (compareOp .NotIn) (fun x y H Q => ∃ i j, x = .str i ∧ y = .str j ∧ Q (.bl (!(!(Builtin.Str.occurrences j i 0 j.length 1).isEmpty))) H) := by
  intro pins s σ H x y v u Q I rx ry h
  obtain ⟨i, j, rfl, rfl, q⟩ := h
  obtain ⟨t, rfl⟩ := rx
  obtain ⟨t', rfl⟩ := ry
  exact notIn_str ⟨.bl _, H, I, rfl, q⟩

/-! ### len, list(x), tuple(x) of any list or tuple that is read -/
theorem call_len_seq : CallR X (.builtin "len") (fun xs H Q => ∃ p ys, xs = [.ref p] ∧ (SqL X.K H p ys ∨ SqT X.K H p ys) ∧ Q (.int ys.length) H) := by
  intro pins s σ H xs us Q I r h
  obtain ⟨p, ys, rfl, hq, q⟩ := h
  obtain ⟨u, rfl, rx⟩ := vals1 r
  cases rx
  have hn := line63
  rcases hq with hq | hq
  · obtain ⟨its, r', pl, hz⟩ := I.list hq
    have hlen := r'.length
    exact Calls.call_len_list pl.isList (by simp only [List.size_toArray] <;> omega) ⟨.int ys.length, H, I.tok _, ⟨s.toks + 1, by rw [List.size_toArray, hlen]⟩, q⟩
  · obtain ⟨its, r', pl, hz⟩ := I.tuple hq
    have hlen := r'.length
    exact len_tuple pl (by simp only [List.size_toArray] <;> omega) ⟨.int ys.length, H, I.tok _, ⟨s.toks + 1, by rw [List.size_toArray, hlen]⟩, q⟩
theorem call_len_str : CallR X (.builtin "len") (fun xs H Q => ∃ z, xs = [.str z] ∧ z.length ≤ sizeLine ∧ Q (.int z.length) H) := by
  intro pins s σ H xs us Q I r h
  obtain ⟨z, rfl, hz, q⟩ := h
  obtain ⟨u, rfl, t, rfl⟩ := vals1 r
  have hn := line63
  exact len_str (by omega) ⟨.int z.length, H, I.tok _, ⟨_, rfl⟩, q⟩
theorem CallR.or {f : Value} {r r' : List V → Hp → VK → Prop} (h : CallR X f r) (h' : CallR X f r') : CallR X f (fun xs H Q => r xs H Q ∨ r' xs H Q) := by
  intro pins s σ H xs us Q I rs q
  rcases q with q | q
  · exact h pins s σ H xs us Q I rs q
  · exact h' pins s σ H xs us Q I rs q
theorem call_list_of : CallR X (.type "list") (fun xs H Q => ∃ p ys, xs = [.ref p] ∧ (SqL X.K H p ys ∨ SqT X.K H p ys) ∧ ∀ l, H l = none → Q (.ref l) (upd H l (.lst ys))) := by
  intro pins s σ H xs us Q I r h
  obtain ⟨p, ys, rfl, hq, q⟩ := h
  obtain ⟨u, rfl, rx⟩ := vals1 r
  cases rx
  have fin : ∀ (its : List Value), Vals ys its → ys.length ≤ sizeLine → ∀ (h' : Heap) (c' : Nat), (∀ b o', s.heap.get? b = some o' → h'.get? b = some o') →
      h'.get? s.heap.objs.size = some { cls := .type "list", dict := none, data := .seq its.toArray c', slots := #[] } → EP X pins σ Q (.ref s.heap.objs.size) { s with heap := h' } := fun its r' hz h' c' kp e =>
    ⟨.ref s.heap.objs.size, _, I.laid (t' := s.toks) kp (Nat.le_refl _) (show ObjOk X.prog X.w _ h' _ (.lst ys) from ⟨hz, its, c', r', e⟩), rfl, q _ (I.hok.fresh (Nat.le_refl _))⟩
  rcases hq with hq | hq
  · obtain ⟨its, r', pl, hz⟩ := I.list hq
    have hlen := r'.length
    obtain ⟨o, ho, hc, n, hd⟩ := pl.isList
    exact call_list_seq p (.inl rfl) ho hc hd (fun h' c' kp e => fin its r' hz h' c' kp e) (by simp only [List.size_toArray] <;> omega)
  · obtain ⟨its, r', pl, hz⟩ := I.tuple hq
    have hlen := r'.length
    obtain ⟨o, ho, hc, n, hd⟩ := pl
    exact call_list_seq p (.inr rfl) ho hc hd (fun h' c' kp e => fin its r' hz h' c' kp e) (by simp only [List.size_toArray] <;> omega)
theorem call_tuple_of : CallR X (.type "tuple") (fun xs H Q => ∃ p ys, xs = [.ref p] ∧ ((SqL X.K H p ys ∧ ∀ l, H l = none → Q (.ref l) (upd H l (.tup ys))) ∨ (SqT X.K H p ys ∧ Q (.ref p) H))) := by
  intro pins s σ H xs us Q I r h
  obtain ⟨p, ys, rfl, h⟩ := h
  obtain ⟨u, rfl, rx⟩ := vals1 r
  cases rx
  rcases h with ⟨hq, q⟩ | ⟨hq, q⟩
  · obtain ⟨its, r', pl, hz⟩ := I.list hq
    have hlen := r'.length
    refine call_tuple_list pl.isList (fun h' kp => ?_) (by simp only [List.size_toArray] <;> omega)
    have I1 : Inv X pins σ H { s with heap := h' } := I.kept (t' := s.toks) kp
    have I2 : Inv X pins σ (upd H h'.objs.size (.tup ys)) { s with heap := h'.push { cls := .type "tuple", data := .seq its.toArray } } :=
      I1.laid (t' := s.toks) (fun b o e => Heap.get?_push_of_some _ e) (Nat.le_refl _) (show ObjOk X.prog X.w _ _ _ (.tup ys) from ⟨hz, its, r', IsTup.new _ _⟩)
    exact ⟨.ref h'.objs.size, _, I2, rfl, q _ (I1.hok.fresh (Nat.le_refl _))⟩
  · obtain ⟨its, r', pl, hz⟩ := I.tuple hq
    exact call_tuple_same pl ⟨.ref p, H, I, rfl, q⟩

/-! ### the call of a builtin's method: o.m(..) -/
/-- the value is of that builtin type -/
def tyV (K : PySem.W.Frag) (T : String) (x : V) (H : Hp) : Prop := match x with
  | .str _ => T = "str"
  | .int _ => T = "int"
  | .ref p => (T = "list" ∧ ∃ xs, SqL K H p xs) ∨ (T = "tuple" ∧ ∃ o, K.lookup p = some o ∧ o.cls = .type "tuple" ∧ o.dict = none) ∨
      (T = "dict" ∧ ((∃ kvs, H p = some (.dK kvs)) ∨ ∃ kvs, H p = some (.dT kvs))) ∨ (T = "set" ∧ ∃ S n, H p = some (.set S n))
  | _ => False
theorem tyV_is {pins : List (Addr × Obj)} {σ : St} {H : Hp} {s : Shared} {T : String} {x : V} {v : Value} (I : Inv X pins σ H s) (r : RelV x v) (ty : tyV X.K T x H) :
    s.TypeIs v T ∧ ∀ a, v = .ref a → ∃ ob, s.heap.get? a = some ob ∧ ob.dict = none := by
  cases x with
  | str z =>
    obtain ⟨t, rfl⟩ := r
    cases (show T = "str" from ty)
    exact ⟨typeIs_str s z t, fun _ e => nomatch e⟩
  | int i =>
    obtain ⟨t, rfl⟩ := r
    cases (show T = "int" from ty)
    exact ⟨typeIs_int s i t, fun _ e => nomatch e⟩
  | ref p =>
    cases r
    rcases ty with ⟨rfl, xs, hq⟩ | ⟨rfl, o, hk, hc, hd⟩ | ⟨rfl, hk⟩ | ⟨rfl, S, n, hk⟩
    · obtain ⟨its, _, pl, _⟩ := I.list hq
      refine ⟨pl.isList.typeIs, fun a e => ?_⟩
      cases e
      obtain ⟨o, n, e, c, hd, _⟩ := pl
      exact ⟨o, e, hd⟩
    · refine ⟨⟨o, I.kIn p o hk, hc⟩, fun a e => ?_⟩
      cases e
      exact ⟨o, I.kIn _ o hk, hd⟩
    · have z : ∃ o, s.heap.get? p = some o ∧ o.ExactDict := by
        rcases hk with ⟨kvs, hk⟩ | ⟨kvs, hk⟩
        · obtain ⟨_, _, _, _, o, _, _, e, ex, _⟩ := I.hok p _ hk
          exact ⟨o, e, ex⟩
        · obtain ⟨_, _, _, _, o, _, _, e, ex, _⟩ := I.hok p _ hk
          exact ⟨o, e, ex⟩
      obtain ⟨o, e, ex⟩ := z
      refine ⟨⟨o, e, ex.1⟩, fun a e2 => ?_⟩
      cases e2
      exact ⟨o, e, ex.2.1⟩
    · obtain ⟨o, _, _, _, e, ex, _⟩ := I.hok p _ hk
      refine ⟨⟨o, e, ex.1⟩, fun a e2 => ?_⟩
      cases e2
      exact ⟨o, e, ex.2.1⟩
  | _ => exact False.elim ty
def tBM0 (K : PySem.W.Frag) (T : String) (r : V → List V → Hp → VK → Prop) (to : TE) : TE := fun σ H Q => to σ H fun x H1 => tyV K T x H1 ∧ r x [] H1 Q
def tBM (K : PySem.W.Frag) (T : String) (r : V → List V → Hp → VK → Prop) (to : TE) (t : TA) : TE := fun σ H Q => to σ H fun x H1 => tyV K T x H1 ∧ t σ H1 fun xs H2 => r x xs H2 Q
variable {o e : Expr} {es : List Expr} {to : TE} {t : TA} {name : Str} {apos cpos : Pos} {T id : String} {r : V → List V → Hp → VK → Prop}
theorem pe_bm0 (pa : PlainAttrs T) (slot : Slot T name id) (hty : typeOf (.builtin id) = pure (.type "method_descriptor")) (hm : MtR X id r) (ho : PE X o to)
    (hbase : attributeBase o name X.env (eval o X.env) = eval o X.env := by rfl) (hline : (apos.endLine == cpos.line) = true := by rfl) : PE X (.Call (.Attribute o name apos) [] [] cpos) (tBM0 X.K T r to) := by
  intro pins s σ H Q I h
  refine wpAny_Call_method0_late hbase hline (thn (ho pins s σ H _ I h) fun v s1 ⟨x, H1, I1, r1, ty, q1⟩ => ?_)
  obtain ⟨h1, h2⟩ := tyV_is I1 r1 ty
  exact ⟨T, id, pa, slot, hty, h1, h2, Calls.callWith_builtin rfl (PySem.evalArgs_none (hm pins s1 σ H1 x [] v [] Q I1 r1 .nil q1))⟩
theorem pe_bm (pa : PlainAttrs T) (slot : Slot T name id) (hty : typeOf (.builtin id) = pure (.type "method_descriptor")) (hm : MtR X id r) (ho : PE X o to) (ha : PA X (e :: es) t)
    (hbase : attributeBase o name X.env (eval o X.env) = eval o X.env := by rfl)
    (hfew : ((backTo cpos (starEach (e :: es) X.env)).all (fun x => !x.1) && (backToKw cpos (keywordEach [] X.env)).all (fun x => x.1.isSome)
      && decide ((e :: es).length + ([] : List Keyword).length + (if ([] : List Keyword).isEmpty then 0 else 1) < 30)) = true := by rfl)
    (hline : (apos.endLine == cpos.line) = true := by rfl) (hs : starEach (e :: es) X.env = (false, eval e X.env) :: starEach es X.env := by rfl) (hplain : (backTo cpos (starEach es X.env)).any (·.1) = false := by rfl) :
    PE X (.Call (.Attribute o name apos) (e :: es) [] cpos) (tBM X.K T r to t) := by
  intro pins s σ H Q I h
  refine wpAny_Call_method_late hbase hfew hline rfl (thn (ho pins s σ H _ I h) fun v s1 ⟨x, H1, I1, r1, ty, q1⟩ => ?_)
  obtain ⟨h1, h2⟩ := tyV_is I1 r1 ty
  refine ⟨T, id, pa, slot, hty, h1, h2, ?_⟩
  have hA := ha cpos pins s1 σ H1 _ I1 q1
  rw [hs] at hA ⊢
  refine Calls.callWith_builtin (by show (false || (backTo cpos (starEach es X.env)).any (·.1)) = false; rw [hplain] <;> rfl) (Calls.evalArgs_plain ?_)
  exact thn hA fun us s2 ⟨vs, H2, I2, r2, q2⟩ => hm pins s2 σ H2 x vs v us Q I2 r1 r2 q2
/- xs.append(e), list.index on a module's tuple .. are MtR facts of 06m -/
end
end L2

namespace L2
open PySem PySem.Spec PyProof.Rows

def MtM (X : Cx) (id : String) (r : V → List V → Hp → VK → Prop) : Prop :=
  ∀ (pins : List (Addr × Obj)) (s : Shared) (σ : St) (H : Hp) (x : V) (xs : List V) (v : Value) (us : List Value) (Q : VK), Inv X pins σ H s → RelV x v → Vals xs us → r x xs H Q →
    wpAny (model X.prog X.w) X.A (call (.builtin id) (v :: us)) (EP X pins σ Q) X.xe s

/-! ### lists of values -/
theorem Vals.one : ∀ {x : V} {us : List Value}, Vals [x] us → ∃ u, us = [u] ∧ RelV x u
  | _, _, .cons r .nil => ⟨_, rfl, r⟩
theorem Vals.two : ∀ {x y : V} {us : List Value}, Vals [x, y] us → ∃ u v, us = [u, v] ∧ RelV x u ∧ RelV y v
  | _, _, _, .cons r (.cons q .nil) => ⟨_, _, rfl, r, q⟩
theorem Vals.zero : ∀ {us : List Value}, Vals [] us → us = []
  | _, .nil => rfl
theorem Vals.dropLast {xs : List V} {us : List Value} (h : Vals xs us) : Vals xs.dropLast us.dropLast := by
  induction h with
  | nil => exact .nil
  | cons r t ih =>
    cases t with
    | nil => exact .nil
    | cons q t' => exact .cons r ih
theorem Vals.eraseIdx : ∀ {xs : List V} {us : List Value} (i : Nat), Vals xs us → Vals (xs.eraseIdx i) (us.eraseIdx i)
  | _, _, _, .nil => .nil
  | _, _, 0, .cons _ t => t
  | _, _, i + 1, .cons r t => .cons r (Vals.eraseIdx i t)
theorem Vals.reverse {xs : List V} {us : List Value} (h : Vals xs us) : Vals xs.reverse us.reverse := by
  induction h with
  | nil => exact .nil
  | cons r t ih => rw [List.reverse_cons, List.reverse_cons]; exact Vals.append ih (.cons r .nil)
theorem Vals.rep {xs : List V} {us : List Value} (h : Vals xs us) : ∀ k : Nat, Vals (List.replicate k xs).flatten (List.replicate k us).flatten
  | 0 => .nil
  | k + 1 => by
    rw [List.replicate_succ, List.replicate_succ, List.flatten_cons, List.flatten_cons]
    exact Vals.append h (Vals.rep h k)
theorem erase_last {α : Type} (l : List α) : l.eraseIdx (l.length - 1) = l.dropLast := by
  induction l with
  | nil => rfl
  | cons a r ih =>
    cases r with
    | nil => rfl
    | cons b r =>
      have e : (a :: b :: r).length - 1 = ((b :: r).length - 1) + 1 := by
        have h1 : (a :: b :: r).length = r.length + 2 := rfl
        have h2 : (b :: r).length = r.length + 1 := rfl
        omega
      rw [e, List.eraseIdx_cons_succ, ih]
      all_goals rfl
theorem len_erase {α : Type} : ∀ (l : List α) (i : Nat), (l.eraseIdx i).length ≤ l.length
  | [], _ => Nat.le_refl _
  | _ :: _, 0 => Nat.le_succ _
  | _ :: r, i + 1 => Nat.succ_le_succ (len_erase r i)
theorem foldl_rep (its : List Value) : ∀ (k : Nat) (acc : List Value),
    List.foldl (fun x1 x2 => x1 ++ x2) acc.toArray (List.replicate k its.toArray) = (acc ++ (List.replicate k its).flatten).toArray
  | 0, acc => by simp
  | k + 1, acc => by
    have e : acc.toArray ++ its.toArray = (acc ++ its).toArray := by simp
    have e2 : (acc ++ its) ++ (List.replicate k its).flatten = acc ++ (List.replicate (k + 1) its).flatten := by
      rw [List.replicate_succ, List.flatten_cons, List.append_assoc]
    rw [← e2, ← foldl_rep its k (acc ++ its), ← e, List.replicate_succ, List.foldl_cons]

section
variable {X : Cx} {pins : List (Addr × Obj)} {σ : St} {H : Hp} {s : Shared} {l b : Addr} {xs ys zs : List V}

/-! ### the two steps: a tracked list is rewritten, a new list is laid -/
theorem Inv.lset {its its' : List Value} {n : Nat} {f : Array Value → Array Value} {t' : Nat} (I : Inv X pins σ H s) (hH : H l = some (.lst xs))
    (e : s.heap.get? l = some { cls := .type "list", data := .seq its.toArray n }) (hf : f its.toArray = its'.toArray) (hv : Vals ys its') (hz : ys.length ≤ sizeLine) :
    Inv X pins σ (upd H l (.lst ys)) { s with heap := s.heap.update l (Obj.mapSeq f), toks := t' } := by
  have q := PySem.IsL.update e f
  rw [hf] at q
  refine I.write (x := l) (e := l) (by rw [hH]; exact trivial) (.inl rfl) (fun b' u hb hu => (Heap.get?_update_other s.heap (Obj.mapSeq f) (Ne.symm hb)).trans hu) ⟨_, q⟩ ?_
  exact ⟨hz, its', _, hv, q⟩
theorem Inv.lnew {its : List Value} {t' : Nat} (I : Inv X pins σ H s) (hv : Vals ys its) (hz : ys.length ≤ sizeLine) :
    Inv X pins σ (upd H s.heap.objs.size (.lst ys)) { s with heap := s.heap.push { cls := .type "list", data := .seq its.toArray }, toks := t' } :=
  I.laid (fun _ _ q => Heap.get?_push_of_some _ q) (Nat.le_refl _) ⟨hz, its, 0, hv, Heap.get?_push_size _ rfl⟩
theorem Inv.fresh (I : Inv X pins σ H s) : H s.heap.objs.size = none := I.hok.fresh (Nat.le_refl _)
theorem Inv.lstM (I : Inv X pins σ H s) (hH : H l = some (.lst xs)) : xs.length ≤ sizeLine ∧ ∃ (its : List Value) (n : Nat), Vals xs its ∧ xs.length = its.length ∧ s.heap.get? l = some { cls := .type "list", data := .seq its.toArray n } := by
  obtain ⟨z, its, n, r, e⟩ := I.hok l _ hH
  exact ⟨z, its, n, r, r.length, e⟩

theorem notLongL {n : Nat} (h : n ≤ sizeLine) : Builtin.List.listTooLong n = false := by
  unfold Builtin.List.listTooLong
  exact decide_eq_false (by omega)
end

section
variable {X : Cx}

/-! ### methods -/
def rAppend : V → List V → Hp → VK → Prop := fun x vs H Q => ∃ l xs y, x = .ref l ∧ vs = [y] ∧ H l = some (.lst xs) ∧ xs.length < sizeLine ∧ Q .non (upd H l (.lst (xs ++ [y])))
theorem mt_append : MtM X "list.append" rAppend := by
  intro pins s σ H x vs v us Q I rx rv h
  obtain ⟨l, xs, y, rfl, rfl, hH, hz, q⟩ := h
  cases rx
  obtain ⟨u, rfl, ru⟩ := rv.one
  obtain ⟨z, its, n, r, hl, e⟩ := I.lstM hH
  refine call_meets F.slot_list_append ⟨_, e, rfl⟩ F.entry_list_append (F.args_list_append_2 _ _) (PySem.list_append l its.toArray n u (by rw [List.size_toArray]; omega)) ⟨e, ?_⟩
  refine ⟨.non, _, I.lset (its' := its ++ [u]) hH e (by simp) (r.append (.cons ru .nil)) ?_, rfl, q⟩
  rw [List.length_append, List.length_singleton]
  omega

def rExtend : V → List V → Hp → VK → Prop := fun x vs H Q => ∃ l b xs zs, x = .ref l ∧ vs = [.ref b] ∧ H l = some (.lst xs) ∧ H b = some (.lst zs) ∧ xs.length + zs.length ≤ sizeLine ∧ Q .non (upd H l (.lst (xs ++ zs)))
theorem mt_extend : MtM X "list.extend" rExtend := by
  intro pins s σ H x vs v us Q I rx rv h
  obtain ⟨l, b, xs, zs, rfl, rfl, hH, hB, hz, q⟩ := h
  cases rx
  obtain ⟨u, rfl, ru⟩ := rv.one
  cases ru
  obtain ⟨z, its, n, r, hl, e⟩ := I.lstM hH
  obtain ⟨z2, its2, n2, r2, hl2, e2⟩ := I.lstM hB
  have hsz : its.toArray.size + its2.toArray.size ≤ sizeLine := by rw [List.size_toArray, List.size_toArray]; omega
  have hlong : ¬ (!its.toArray.isEmpty && Builtin.List.listTooLong (its.toArray.size + its2.toArray.size)) = true := by
    rw [notLongL hsz, Bool.and_false]
    exact Bool.false_ne_true
  refine call_meets F.slot_list_extend ⟨_, e, rfl⟩ F.entry_list_extend (F.args_list_extend_2 _ _)
    (AutoSeq1.list_extend_list_list_0 l its.toArray n b its2.toArray n2 hlong (by rw [List.size_toArray]; omega) (by omega)) ⟨e, e2, ?_⟩
  refine ⟨.non, _, I.lset (its' := its ++ its2) hH e (by simp) (r.append r2) ?_, rfl, q⟩
  rw [List.length_append]
  omega

def rPop : V → List V → Hp → VK → Prop := fun x vs H Q => ∃ l xs y, x = .ref l ∧ vs = [] ∧ H l = some (.lst xs) ∧ xs[xs.length - 1]? = some y ∧ Q y (upd H l (.lst xs.dropLast))
theorem mt_pop : MtM X "list.pop" rPop := by
  intro pins s σ H x vs v us Q I rx rv h
  obtain ⟨l, xs, y, rfl, rfl, hH, hy, q⟩ := h
  cases rx
  have hus := rv.zero
  subst hus
  obtain ⟨z, its, n, r, hl, e⟩ := I.lstM hH
  obtain ⟨u, hu, ru⟩ := r.get hy
  have hy' : its.toArray[its.toArray.size - 1]? = some u := by
    show its.toArray[its.length - 1]? = some u
    rw [← Array.getElem?_toList, ← hl]
    exact hu
  refine call_meets F.slot_list_pop ⟨_, e, rfl⟩ F.entry_list_pop (F.args_list_pop_1 _) (MeetsSeq.list_pop_last l its.toArray n u hy' (by rw [List.size_toArray]; omega)) ⟨e, ?_⟩
  refine ⟨y, _, I.lset (its' := its.dropLast) hH e ?_ r.dropLast ?_, ru, q⟩
  · show its.toArray.eraseIdxIfInBounds (its.toArray.size - 1) = its.dropLast.toArray
    rw [List.size_toArray, List.eraseIdxIfInBounds_toArray, erase_last]
  · rw [List.length_dropLast]
    omega

def rPopAt : V → List V → Hp → VK → Prop := fun x vs H Q => ∃ l xs i k y, x = .ref l ∧ vs = [.int i] ∧ H l = some (.lst xs) ∧ -(2 ^ 63) ≤ i ∧ i < 2 ^ 63 ∧ seqIndex? i xs.length = some k ∧ xs[k]? = some y ∧ Q y (upd H l (.lst (xs.eraseIdx k)))
theorem mt_popAt : MtM X "list.pop" rPopAt := by
  intro pins s σ H x vs v us Q I rx rv h
  obtain ⟨l, xs, i, k, y, rfl, rfl, hH, h1, h2, hk, hy, q⟩ := h
  cases rx
  obtain ⟨u, rfl, ru⟩ := rv.one
  obtain ⟨t, rfl⟩ := ru
  obtain ⟨z, its, n, r, hl, e⟩ := I.lstM hH
  obtain ⟨w, hw, rw'⟩ := r.get hy
  refine call_meets F.slot_list_pop ⟨_, e, rfl⟩ F.entry_list_pop (F.args_list_pop_2 _ _)
    (MeetsSeq.list_pop_at l its.toArray n i t k w (fitsIndex_both h1 h2) (by rw [List.size_toArray, ← hl]; exact hk) (by rw [← Array.getElem?_toList]; exact hw) (by rw [List.size_toArray]; omega)) ⟨e, ?_⟩
  refine ⟨y, _, I.lset (its' := its.eraseIdx k) hH e ?_ (r.eraseIdx k) ?_, rw', q⟩
  · show its.toArray.eraseIdxIfInBounds k = (its.eraseIdx k).toArray
    rw [List.eraseIdxIfInBounds_toArray]
  · have := len_erase xs k
    omega

def rReverse : V → List V → Hp → VK → Prop := fun x vs H Q => ∃ l xs, x = .ref l ∧ vs = [] ∧ H l = some (.lst xs) ∧ Q .non (upd H l (.lst xs.reverse))
theorem mt_reverse : MtM X "list.reverse" rReverse := by
  intro pins s σ H x vs v us Q I rx rv h
  obtain ⟨l, xs, rfl, rfl, hH, q⟩ := h
  cases rx
  have hus := rv.zero
  subst hus
  obtain ⟨z, its, n, r, hl, e⟩ := I.lstM hH
  refine call_meets F.slot_list_reverse ⟨_, e, rfl⟩ F.entry_list_reverse (F.args_list_reverse_1 _) (AutoSeq1.list_reverse_list_0 l its.toArray n (by rw [List.size_toArray]; omega)) ⟨e, ?_⟩
  refine ⟨.non, _, I.lset (its' := its.reverse) hH e (by simp) r.reverse ?_, rfl, q⟩
  rw [List.length_reverse]
  omega

def rClear : V → List V → Hp → VK → Prop := fun x vs H Q => ∃ l xs, x = .ref l ∧ vs = [] ∧ H l = some (.lst xs) ∧ Q .non (upd H l (.lst []))
theorem mt_clear : MtM X "list.clear" rClear := by
  intro pins s σ H x vs v us Q I rx rv h
  obtain ⟨l, xs, rfl, rfl, hH, q⟩ := h
  cases rx
  have hus := rv.zero
  subst hus
  obtain ⟨z, its, n, r, hl, e⟩ := I.lstM hH
  refine call_meets F.slot_list_clear ⟨_, e, rfl⟩ F.entry_list_clear (F.args_list_clear_1 _) (AutoSeq1.list_clear_list_0 l its.toArray n (by rw [List.size_toArray]; omega)) ⟨e, ?_⟩
  exact ⟨.non, _, I.lset (its' := []) (ys := []) hH e rfl .nil (Nat.zero_le _), rfl, q⟩

/-! ### list + list, list += list, list * int -/
def rCat : R2 := fun x y H Q => ∃ l b xs zs, x = .ref l ∧ y = .ref b ∧ H l = some (.lst xs) ∧ H b = some (.lst zs) ∧ xs.length + zs.length ≤ sizeLine ∧ ∀ p, H p = none → Q (.ref p) (upd H p (.lst (xs ++ zs)))
theorem op_cat : OpR X (binaryOp .Add) rCat := by
  intro pins s σ H x y v u Q I rx ry h
  obtain ⟨l, b, xs, zs, rfl, rfl, hH, hB, hz, q⟩ := h
  cases rx
  cases ry
  obtain ⟨z, its, n, r, hl, e⟩ := I.lstM hH
  obtain ⟨z2, its2, n2, r2, hl2, e2⟩ := I.lstM hB
  refine PySem.P.add_list e e2 ?_ (by rw [List.size_toArray, List.size_toArray]; omega)
  have ea : its.toArray ++ its2.toArray = (its ++ its2).toArray := by simp
  rw [ea]
  exact ⟨.ref _, _, I.lnew (t' := s.toks) (r.append r2) (by rw [List.length_append]; omega), rfl, q _ I.fresh⟩
/-- a list times an int (a negative one is nothing) -/
def rRep : R2 := fun x y H Q => ∃ l k xs, x = .ref l ∧ y = .int k ∧ H l = some (.lst xs) ∧ -(2 ^ 63) ≤ k ∧ k < 2 ^ 63 ∧ xs.length * k.toNat ≤ sizeLine ∧
  ∀ p, H p = none → Q (.ref p) (upd H p (.lst (List.replicate k.toNat xs).flatten))
theorem len_rep {α : Type} (xs : List α) (k : Nat) : (List.replicate k xs).flatten.length = k * xs.length := by
  induction k with
  | zero => simp
  | succ k ih => rw [List.replicate_succ, List.flatten_cons, List.length_append, ih, Nat.succ_mul, Nat.add_comm]
theorem op_rep : OpR X (binaryOp .Mult) rRep := by
  intro pins s σ H x y v u Q I rx ry h
  obtain ⟨l, k, xs, rfl, rfl, hH, h1, h2, hz, q⟩ := h
  cases rx
  obtain ⟨t, rfl⟩ := ry
  obtain ⟨z, its, n, r, hl, e⟩ := I.lstM hH
  have hlen : its.toArray.size * k.toNat ≤ sizeLine := by rw [List.size_toArray, ← hl]; exact hz
  have hcap : ¬ its.toArray.size * k.toNat > (2 ^ 63 - 1) / 8 := by
    have : (sizeLine : Nat) ≤ (2 ^ 63 - 1) / 8 := by decide
    omega
  have hfit : ¬ (!Builtin.List.listFitsIndex k) = true := by
    rw [fitsIndex_both h1 h2]
    exact Bool.false_ne_true
  have hlong : ¬ Builtin.List.listTooLong (its.toArray.size * k.toNat) = true := by
    rw [notLongL hlen]
    exact Bool.false_ne_true
  have hnew : List.foldl (fun x1 x2 => x1 ++ x2) #[] (List.replicate (if its.toArray.isEmpty = true then 0 else k.toNat) its.toArray) = (List.replicate k.toNat its).flatten.toArray := by
    have f0 : ∀ m : Nat, List.foldl (fun x1 x2 => x1 ++ x2) #[] (List.replicate m its.toArray) = (List.replicate m its).flatten.toArray := fun m => by
      have := foldl_rep its m []
      rw [List.nil_append] at this
      exact this
    rw [f0]
    cases its with
    | nil => simp
    | cons a r' => rw [if_neg (by simp)]
  refine wpAny_binaryOp_repeat_ref (T := "list") (U := "int") (by decide) ⟨_, e, rfl⟩ (fun s' => typeIs_int s' k t) noFill_list_mul F.fills_int_mul F.slot_int_rmul repeat_list F.slot_int_index.lookup
    (call_meets F.slot_int_rmul (typeIs_int s k t) F.entry_int_rmul (F.args_int_rmul_2 _ _) (int___rmul___int_list k t l its.toArray n)
      ⟨e, rfl, ⟨_, e, rfl⟩, call_meets F.slot_list_mul ⟨_, e, rfl⟩ F.entry_list_mul (F.args_list_mul_2 _ _) (AutoListH.list___mul___list_int_3 l its.toArray n k t hfit hcap hlong) ⟨e, ?_⟩⟩)
  rw [hnew]
  exact ⟨.ref _, _, I.lnew (t' := s.toks) (r.rep k.toNat) (by rw [len_rep, Nat.mul_comm]; exact hz), rfl, q _ I.fresh⟩

/-! ### del xs[i] -/
theorem del_list {pins : List (Addr × Obj)} {s : Shared} {σ : St} {H : Hp} {l : Addr} {xs : List V} {i : Int} {t : Tok} {k : Nat} {Q : Unit → Shared → Prop} (I : Inv X pins σ H s) (hH : H l = some (.lst xs))
    (h1 : -(2 ^ 63) ≤ i) (h2 : i < 2 ^ 63) (hk : seqIndex? i xs.length = some k) (h : ∀ s', Inv X pins σ (upd H l (.lst (xs.eraseIdx k))) s' → Q () s') :
    wpAny (model X.prog X.w) X.A (delItem (.ref l) (.int i t)) Q X.xe s := by
  obtain ⟨z, its, n, r, hl, e⟩ := I.lstM hH
  refine PySem.P.delItem_list (k := k) e (fitsIndex_both h1 h2) (by rw [List.size_toArray, ← hl]; exact hk) (h _ ?_) (by rw [List.size_toArray]; omega)
  refine I.lset (its' := its.eraseIdx k) (t' := s.toks) hH e ?_ (r.eraseIdx k) ?_
  · show its.toArray.eraseIdxIfInBounds k = (its.eraseIdx k).toArray
    rw [List.eraseIdxIfInBounds_toArray]
  · have := len_erase xs k
    omega
end

/-! ### xs[a:b] = ys -/
section
variable {prog : Program} {w : World} {A : Around} {E : Value → Shared → Prop} {s : Shared}
theorem splice_eq (its its2 : List Value) (a c : Nat) : its.toArray.extract 0 a ++ its2.toArray ++ its.toArray.extract c its.toArray.size = (its.take a ++ its2 ++ its.drop c).toArray := by
  apply Array.toList_inj.mp
  first
    | (simp
       exact List.take_of_length_le (by simp))
    | simp [List.take_of_length_le]
    | simp
theorem bounds_run {a c n : Nat} (hac : a ≤ c) (hc : c ≤ n) : sliceBounds (some (a : Int)) (some (c : Int)) none n = ((a : Int), (c : Int), 1) := by
  simp only [sliceBounds, Option.getD_none]
  have h1 : ¬ ((a : Int) < 0) := by omega
  have h2 : ¬ ((c : Int) < 0) := by omega
  simp only [h1, h2, if_false, show (1 : Int) > 0 by decide, if_true]
  congr 1
  · omega
  · congr 1; omega
set_option maxRecDepth 100000 in
/-- list.__setitem__ with a slice of step one and another list -/
theorem setItem_slice {l b sl : Addr} {items new : Array Value} {n n2 : Nat} {vl vu : Value} {a c : Nat} {Q : Unit → Shared → Prop}
    (e : s.heap.get? l = some { cls := .type "list", data := .seq items n }) (e2 : s.heap.get? b = some { cls := .type "list", data := .seq new n2 }) (hne : l ≠ b)
    (hs : s.heap.IsSliceOf sl vl vu .none) (pl : IsPart vl (some (a : Int))) (pu : IsPart vu (some (c : Int))) (hac : a ≤ c) (hc : c ≤ items.size)
    (hsz : items.size + new.size ≤ sizeLine) (h : Q () { s with heap := s.heap.update l (Obj.mapSeq fun xs => xs.extract 0 a ++ new ++ xs.extract c xs.size) }) :
    wpAny (model prog w) A (setItem (.ref l) (.ref sl) (.ref b)) Q E s := by
  have hl : s.heap.IsList l items := PySem.IsL.isList e
  have hb : s.heap.IsList b new := PySem.IsL.isList e2
  obtain ⟨os, hos, hcs, hds⟩ := id hs
  have hTs : s.TypeIs (.ref sl) "slice" := ⟨os, hos, hcs⟩
  have hstep : ¬ ((rawPart none == rawInt 0) = true) := Bool.false_ne_true
  have hsame : Builtin.List.listSameRef (.ref l) (.ref b) = false := by
    unfold Builtin.List.listSameRef
    exact beq_eq_false_iff_ne.mpr hne
  have hmax : (max (a : Int) (c : Int)).toNat = c := by omega
  have hz' : ((fun xs : Array Value => xs.extract 0 a ++ new ++ xs.extract c xs.size) items).size ≤ sizeLine + 1 := by
    simp only [Array.size_append, Array.size_extract]
    omega
  unfold setItem
  try with_reducible refine wpAny_holding ?_
  first | refine wpAny_bind (wpAny_pure ?_) | skip
  refine wpAny_bind (wpAny_sequenceKey hl.typeIs (by decide) ?_)
  refine wpAny_bind (wpAny_callSpecial?_slot (name := Str.ofString "__setitem__") hl.typeIs slot_list_setitem
    (wpAny_call_entry slot_list_setitem hl.typeIs entry_list_setitem ?_ (args_list_setitem _ _ _)))
  show wpAny _ _ (Builtin.List.listSubscript? (.ref sl) >>= _) _ _ s
  refine wpAny_bind ?_
  unfold Builtin.List.listSubscript?
  refine wpAny_bind (wpAny_specialOf hTs slice_no_index ?_)
  simp only [Option.isNone_none, if_true]
  refine wpAny_pure ?_
  show wpAny _ _ (typeOf (.ref sl) >>= _) _ _ s
  refine wpAny_bind (wpAny_typeOf hTs ?_)
  first
    | rw [if_neg (by decide)]
    | refine PySem.W.KFB.if_not (by decide) ?_
  rw [listSliceParts_eq]
  refine wpAny_bind (wpAny_bind (wpAny_field hos hds (x := .none) rfl (wpAny_bind (wpAny_listPart .none ?_))))
  rw [if_neg hstep]
  refine wpAny_bind (wpAny_field hos hds (x := vl) rfl (wpAny_bind (wpAny_listPart pl ?_)))
  refine wpAny_bind (wpAny_field hos hds (x := vu) rfl (wpAny_bind (wpAny_listPart pu (wpAny_pure ?_))))
  first
    | simp only [hsame, Bool.false_eq_true, if_false]
    | refine PySem.W.KFB.if_not hsame ?_
    | (dsimp only
       rw [if_neg (by rw [hsame]; exact Bool.false_ne_true)])
  refine wpAny_bind (m := Builtin.List.listAllItems (.ref b) "must assign iterable to extended slice") ?_
  unfold Builtin.List.listAllItems
  refine wpAny_bind (wpAny_typeOf hb.typeIs ?_)
  first
    | refine PySem.W.KFB.if_so (by decide) ?_
    | rw [if_pos (by decide)]
    | simp only [beq_self_eq_true, Bool.true_or, if_true]
  unfold Builtin.List.listItems
  refine wpAny_bind (wpAny_seqItems e2 rfl (wpAny_pure ?_))
  refine wpAny_bind (wpAny_bind (wpAny_seqItems e rfl (wpAny_pure ?_)))
  refine wpAny_bind (wpAny_of_eq ((sliceIndices_raw (some (a : Int)) (some (c : Int)) none items.size (by simp)).trans (congrArg (pure : Int × Int × Int → Sem (Int × Int × Int)) (bounds_run hac hc))) ?_)
  show wpAny _ _ (if ((1 : Int) == 1) = true then _ else _) _ _ s
  rw [if_pos (by decide)]
  refine wpAny_bind (wpAny_rule ?_)
  first
    | simp only [notLongL hsz, Bool.false_eq_true, if_false]
    | refine PySem.W.KFB.if_not (notLongL hsz) ?_
  first | refine wpAny_bind (wpAny_pure ?_) | skip
  show wpAny _ _ (updateSeq l (fun xs => xs.extract 0 ((a : Int)).toNat ++ new ++ xs.extract (max (a : Int) (c : Int)).toNat xs.size) >>= _) _ _ s
  rw [hmax, Int.toNat_natCast]
  refine wpAny_bind (wpAny_updateSeq (hz := Nat.le_trans (Nat.le_add_right _ _) hsz) (_hz' := hz') e rfl ?_)
  refine wpAny_bind (wpAny_letGo ?_)
  first
    | exact wpAny_bind (wpAny_pure (wpAny_pure ⟨.none, rfl, wpAny_pure h⟩))
    | exact wpAny_pure ⟨.none, rfl, wpAny_pure h⟩
end

section
variable {X : Cx}
/-- xs[a:c] = ys of another list, at the value level: sl is the slice object that was just made -/
theorem set_slice {pins : List (Addr × Obj)} {s : Shared} {σ : St} {H : Hp} {l b sl : Addr} {xs ys : List V} {a c : Int} {vl vu : Value} {Q : Unit → Shared → Prop} (I : Inv X pins σ H s)
    (hH : H l = some (.lst xs)) (hB : H b = some (.lst ys)) (hne : l ≠ b) (hs : s.heap.IsSliceOf sl vl vu .none) (ra : RelV (.int a) vl) (rc : RelV (.int c) vu) (h0 : 0 ≤ a) (hac : a ≤ c) (hc : c ≤ xs.length)
    (hz : xs.length + ys.length ≤ sizeLine) (h : ∀ s', Inv X pins σ (upd H l (.lst (xs.take a.toNat ++ ys ++ xs.drop c.toNat))) s' → Q () s') :
    wpAny (model X.prog X.w) X.A (setItem (.ref l) (.ref sl) (.ref b)) Q X.xe s := by
  obtain ⟨ta, rfl⟩ := ra
  obtain ⟨tc, rfl⟩ := rc
  obtain ⟨z, its, n, r, hl, e⟩ := I.lstM hH
  obtain ⟨z2, its2, n2, r2, hl2, e2⟩ := I.lstM hB
  obtain ⟨a', rfl⟩ := Int.eq_ofNat_of_zero_le h0
  obtain ⟨c', rfl⟩ := Int.eq_ofNat_of_zero_le (Int.le_trans h0 hac)
  simp only [Int.toNat_natCast] at h
  refine setItem_slice (a := a') (c := c') e e2 hne hs (.int _ _) (.int _ _) (by omega) (by rw [List.size_toArray]; omega) (by rw [List.size_toArray, List.size_toArray]; omega) (h _ ?_)
  refine I.lset (its' := its.take a' ++ its2 ++ its.drop c') (t' := s.toks) hH e ?_ (Vals.append (Vals.append (r.take _) r2) (r.drop _)) ?_
  · exact splice_eq its its2 a' c'
  · rw [List.length_append, List.length_append, List.length_take, List.length_drop]
    omega
end
end L2

namespace Att
open PySem PySem.W PySem.Calls PyProof.Rows

/-! ### the script -/
theorem ints_of_wellAll {P : Params} {h : Heap} : ∀ (ns : List Int) (vs : List Value), WellAll P h vs (ns.map WData.int) → IntsAre vs ns := by
  intro ns
  induction ns with
  | nil =>
    intro vs w
    rw [List.map_nil] at w
    cases w
    exact .nil
  | cons n ns ih =>
    intro vs w
    rw [List.map_cons] at w
    cases w with
    | cons a b =>
      cases a
      exact .cons _ _ (ih _ b)

theorem script_of {l : OpenLaw} {n : Nat} (hn : l.most = some n) {P : Params} {h : Heap} {args : List WData} {vals : List Value}
    (hpre : l.row.toRowW.claim.pre args = true) (hwl : WellAll P h vals args) :
    ∃ a vs ns, vals = [Value.ref a] ∧ args = [WData.list (ns.map WData.int)] ∧ h.get? a = some { cls := .type "list", data := .seq vs.toArray } ∧ IntsAre vs ns ∧ ns.length ≤ n := by
  have hsh : WShape.hasAll [] args [.list .int] = true := (pre_splitW hpre).1
  have hc : l.pre.holds [] { args := args } = true := (pre_splitW hpre).2
  obtain ⟨d, r, rfl, h1, h2⟩ := hasAllW_cons hsh
  obtain rfl := hasAllW_nil h2
  obtain ⟨xs, rfl, h3⟩ := hasW_list h1
  obtain ⟨ns, rfl⟩ := items_int h3
  have hlen : ns.length ≤ n := by
    unfold OpenLaw.pre at hc
    have h4 : (WTm.not (.lt (.lit (.int (n : Int))) (.len (.arg 0)))).holds [] { args := [.list (ns.map .int)] } = true := by
      have h4 := (holds_andW hc).1
      rw [hn] at h4
      exact h4
    have h5 := condW_of h4 (w_not (w_lt w_lit (w_len_list (w_arg rfl))))
    rw [List.length_map] at h5
    refine Nat.le_of_not_lt fun q => ?_
    have q' : (n : Int) < ((ns.length : Nat) : Int) := by omega
    first
      | (rw [decide_eq_true q'] at h5; exact absurd h5 (by decide))
      | (simp at h5; omega)
  cases hwl with
  | cons w1 w2 =>
    cases w2
    cases w1 with
    | list ho hall => exact ⟨_, _, ns, rfl, rfl, ho, ints_of_wellAll ns _ hall, hlen⟩

theorem post_true (l : OpenLaw) (args : List WData) : l.row.toRowW.claim.post args (.bool true) args = true :=
  postW_of (r := l.row.toRowW) (X := (true == true))
    (show WShape.has [] (.bool true) .bool = true by first | rfl | decide | simp [WShape.has, WShape.arms, WShape.armsAll])
    (show (WTm.eq .res (.lit (.bool true))).value [] { args := args, res := some (.bool true), after := args } = some (.bool (true == true)) from w_eq_bool (w_res rfl) w_lit) rfl

/-! ### the attachment: holds_open's last premise (the goal 'hc' behind k_head) from a wpAny of the law's body -/
theorem attach {l : OpenLaw} {n : Nat} {q : Program} {loose : List Str} {XP : (Str → Option Value) → Heap → Prop} {YP : World → Heap → Prop} {d : DefRec} {x : Str}
    (hn : l.most = some n) (hdf : d.params.defaults = [])
    (hbind : ∀ pm cd doc v : Value, bindArgs (docDef d.name d.params d.body d.scope pm cd doc) ⟨[v], []⟩ = pure [(x, v)])
    (hx : d.scope.names.lookup x = some .local ∨ d.scope.names.lookup x = some .cell)
    (hk : d.scope.kind = .function) (hco : d.scope.isCoroutine = false) (hgen : d.scope.isGenerator = false)
    (body : ∀ (w : World) (s₀ s₁ s : Shared) (mg mb : Str → Option Value) (fa : Addr) (o : Obj) (pm cd doc : Value) (a : Addr) (vs : List Value) (ns : List Int),
      Ground q loose [] XP w s₀ mg mb s₁.heap → YP w s₁.heap →
      s₁.heap.get? fa = some o → o.data = .func (docDef d.name d.params d.body d.scope pm cd doc) → s₁.heap.CodeRec cd d.name → mg d.name = some (.ref fa) →
      s₁.heap.get? a = some { cls := .type "list", data := .seq vs.toArray } → IntsAre vs ns → ns.length ≤ n →
      s.gens = #[] → s.os = s₁.os →
      Fr s₁.heap s₁.heap.objs.size s.heap (bindL (envOfC d.name d.scope s₁.heap.objs.size fa cd).kindOf [(x, .ref a)] fun _ => none) →
      Cl s₁.heap.objs.size (cellsFrom (s₁.heap.objs.size + 1) d.scope.names []) s.heap (bindC (envOfC d.name d.scope s₁.heap.objs.size fa cd).kindOf [(x, .ref a)] fun _ => none) →
      wpAny (model l.prog w) (callerA.deeper (envOfC d.name d.scope s₁.heap.objs.size fa cd)) (execs d.body (envOfC d.name d.scope s₁.heap.objs.size fa cd))
        (fun f s' => f = .ret (.bool true) ∧ OldK s₁.heap s'.heap ∧ s'.os = s₁.os ∧ AllBare s'.gens) (fun _ _ => False) s) :
    WalkO q loose XP YP l.row.toRowW d [] (fun f vs => PySem.call f vs) := by
  intro w s₀ s₁ mg mb G Y fa o pm cd doc dV kV ho hd hcd hD hmg hg args vals as hpre hlay hrd hwl hlo
  obtain rfl : dV = .none := Dflts.none hD hdf
  obtain rfl : kV = .none := Dflts.noKw hD
  obtain ⟨a, vs, ns, rfl, rfl, hobj, hints, hlen⟩ := script_of hn hpre hwl
  refine enter_call ?_
  refine call_cells_ret (o := o) (by rw [depth_caller]; decide) ho (fd_plain hd) G.T.nolimit hcd (hbind pm cd doc (.ref a)) (fun y hy => ?_) (fun h₁ tk F X => ?_) hco hgen hk
  · obtain rfl : y = (x, Value.ref a) := List.mem_singleton.mp hy
    rcases hx with e | e
    · exact .inl e
    · exact .inr ⟨e, cellsFrom_some _ _ _ (.inl e)⟩
  · refine wpAny_mono (body w s₀ s₁ { s₁ with heap := h₁, toks := tk } mg mb fa o pm cd doc a vs ns G Y ho (fd_plain hd) hcd hmg hobj hints hlen hg rfl F X) (fun f s' hq => ?_) (fun _ _ hq => hq)
    obtain ⟨rfl, h2, h3, h4⟩ := hq
    exact ⟨.inl ⟨.bool true, .bool true, [], rfl, fun _ => rfl, .bool true, post_true l _, fun _ => ⟨List.Pairwise.nil, fun _ hm => (nomatch hm)⟩⟩, h2, h3, h4⟩

/-- the same from a codeAny of the CALL (for a layer whose function contracts speak of calls) -/
theorem attach_call {l : OpenLaw} {n : Nat} {q : Program} {loose : List Str} {XP : (Str → Option Value) → Heap → Prop} {YP : World → Heap → Prop} {d : DefRec}
    (hn : l.most = some n) (hdf : d.params.defaults = [])
    (call : ∀ (w : World) (s₀ s₁ : Shared) (mg mb : Str → Option Value) (fa : Addr) (o : Obj) (pm cd doc : Value) (a : Addr) (vs : List Value) (ns : List Int),
      Ground q loose [] XP w s₀ mg mb s₁.heap → YP w s₁.heap →
      s₁.heap.get? fa = some o → o.data = .func (docDef d.name d.params d.body d.scope pm cd doc) → s₁.heap.CodeRec cd d.name → mg d.name = some (.ref fa) →
      s₁.heap.get? a = some { cls := .type "list", data := .seq vs.toArray } → IntsAre vs ns → ns.length ≤ n → s₁.gens = #[] →
      codeAny (model l.prog w) callerA (.call (.ref fa) ⟨[.ref a], []⟩) (fun r s' => r = .ok (.ret (.bool true)) ∧ OldK s₁.heap s'.heap ∧ s'.os = s₁.os ∧ AllBare s'.gens) s₁) :
    WalkO q loose XP YP l.row.toRowW d [] (fun f vs => PySem.call f vs) := by
  intro w s₀ s₁ mg mb G Y fa o pm cd doc dV kV ho hd hcd hD hmg hg args vals as hpre hlay hrd hwl hlo
  obtain rfl : dV = .none := Dflts.none hD hdf
  obtain rfl : kV = .none := Dflts.noKw hD
  obtain ⟨a, vs, ns, rfl, rfl, hobj, hints, hlen⟩ := script_of hn hpre hwl
  refine enter_call (codeAny_mono (call w s₀ s₁ mg mb fa o pm cd doc a vs ns G Y ho (fd_plain hd) hcd hmg hobj hints hlen hg) fun r s' hq => ?_)
  obtain ⟨rfl, h2, h3, h4⟩ := hq
  exact ⟨.inl ⟨.bool true, .bool true, [], rfl, fun _ => rfl, .bool true, post_true l _, fun _ => ⟨List.Pairwise.nil, fun _ hm => (nomatch hm)⟩⟩, h2, h3, h4⟩

/-- the same where the top left finished generators (o_head chose holds_openN): nothing may have changed at all and no generator may be left -/
theorem attachN {l : OpenLaw} {n : Nat} {q : Program} {loose : List Str} {XP : (Str → Option Value) → Heap → Prop} {YP : World → Heap → Prop} {d : DefRec} {x : Str}
    (hn : l.most = some n) (hdf : d.params.defaults = [])
    (hbind : ∀ pm cd doc v : Value, bindArgs (docDef d.name d.params d.body d.scope pm cd doc) ⟨[v], []⟩ = pure [(x, v)])
    (hx : d.scope.names.lookup x = some .local ∨ d.scope.names.lookup x = some .cell)
    (hk : d.scope.kind = .function) (hco : d.scope.isCoroutine = false) (hgen : d.scope.isGenerator = false)
    (body : ∀ (w : World) (s₀ s₁ s : Shared) (mg mb : Str → Option Value) (fa : Addr) (o : Obj) (pm cd doc : Value) (a : Addr) (vs : List Value) (ns : List Int),
      Ground q loose [] XP w s₀ mg mb s₁.heap → YP w s₁.heap →
      s₁.heap.get? fa = some o → o.data = .func (docDef d.name d.params d.body d.scope pm cd doc) → s₁.heap.CodeRec cd d.name → mg d.name = some (.ref fa) →
      s₁.heap.get? a = some { cls := .type "list", data := .seq vs.toArray } → IntsAre vs ns → ns.length ≤ n →
      s.gens = #[] → s.os = s₁.os →
      Fr s₁.heap s₁.heap.objs.size s.heap (bindL (envOfC d.name d.scope s₁.heap.objs.size fa cd).kindOf [(x, .ref a)] fun _ => none) →
      Cl s₁.heap.objs.size (cellsFrom (s₁.heap.objs.size + 1) d.scope.names []) s.heap (bindC (envOfC d.name d.scope s₁.heap.objs.size fa cd).kindOf [(x, .ref a)] fun _ => none) →
      wpAny (model l.prog w) (callerA.deeper (envOfC d.name d.scope s₁.heap.objs.size fa cd)) (execs d.body (envOfC d.name d.scope s₁.heap.objs.size fa cd))
        (fun f s' => f = .ret (.bool true) ∧ (∀ b o, s₁.heap.get? b = some o → s'.heap.get? b = some o) ∧ s'.os = s₁.os ∧ s'.gens = #[]) (fun _ _ => False) s) :
    WalkN q loose XP YP l.row.toRowW d [] (fun f vs => PySem.call f vs) := by
  intro w s₀ s₁ mg mb G Y fa o pm cd doc dV kV ho hd hcd hD hmg hg args vals as hpre hlay hrd hwl hlo
  obtain rfl : dV = .none := Dflts.none hD hdf
  obtain rfl : kV = .none := Dflts.noKw hD
  obtain ⟨a, vs, ns, rfl, rfl, hobj, hints, hlen⟩ := script_of hn hpre hwl
  refine enter_callW ?_
  refine call_cells_ret (o := o) (by rw [depth_caller]; decide) ho (fd_plain hd) G.T.nolimit hcd (hbind pm cd doc (.ref a)) (fun y hy => ?_) (fun h₁ tk F X => ?_) hco hgen hk
  · obtain rfl : y = (x, Value.ref a) := List.mem_singleton.mp hy
    rcases hx with e | e
    · exact .inl e
    · exact .inr ⟨e, cellsFrom_some _ _ _ (.inl e)⟩
  · refine wpAny_mono (body w s₀ s₁ { s₁ with heap := h₁, toks := tk } mg mb fa o pm cd doc a vs ns G Y ho (fd_plain hd) hcd hmg hobj hints hlen hg rfl F X) (fun f s' hq => ?_) (fun _ _ hq => hq)
    obtain ⟨rfl, h2, h3, h4⟩ := hq
    exact ⟨.inl ⟨.bool true, .bool true, [], rfl, fun _ => rfl, .bool true, post_true l _, fun _ => ⟨List.Pairwise.nil, fun _ hm => (nomatch hm)⟩⟩, h2, h3, h4⟩

/-! ### rules over ANY heap (no ledger) from facts about the written part K: the library's own take a ledger (News) for what they write -/
section
variable {prog : Program} {w : World} {A : Around} {E : Value → Shared → Prop} {s : Shared} {K : Frag}

/-- a def of the module, or a method (qual 'C.m'), entered: the frame is the next address; cells behind it -/
theorem call_fn {R : Result → Shared → Prop} {name qual : Str} {params : Arguments} {body : List Stmt} {scope : Scope} {dV kV doc pm cdv ct oc : Value} {an od : Option Addr} {osl : Array (Option Value)} {f : Addr} {args : Args} {binds : List (Str × Value)}
    (X : K.In s.heap) (hlim : s.heap.NoLimit) (ho : K.lookup f = some ⟨oc, od, .func (fnOf name qual params body scope dV kV doc pm an cdv ct), osl⟩) (hcd : codeIn K cdv qual = true) (hroom : A.depth < recursionLimit)
    (hbind : BindsTo s (fnOf name qual params body scope dV kV doc pm an cdv ct) args binds)
    (hkind : (binds.all fun y => scope.names.lookup y.1 == some .local || scope.names.lookup y.1 == some .cell) = true)
    (h : ∀ s₁, InCallC s s.heap.objs.size (bindL (envOfC qual scope s.heap.objs.size f cdv).kindOf binds fun _ => none) (cellsFrom (s.heap.objs.size + 1) scope.names [])
        (bindC (envOfC qual scope s.heap.objs.size f cdv).kindOf binds fun _ => none) s₁ →
      wpAny (model prog w) (A.deeper (envOfC qual scope s.heap.objs.size f cdv)) (execs body (envOfC qual scope s.heap.objs.size f cdv))
        (fun fl s' => R (.ok (.ret (match fl with | .ret v => v | _ => .none))) s')
        (fun e s' => wpAny (model prog w) (A.deeper (envOfC qual scope s.heap.objs.size f cdv)) (leaving (envOfC qual scope s.heap.objs.size f cdv) e) (fun _ s'' => R (.error e) s'') (fun e' s'' => R (.error e') s'') s') s₁)
    (hco : scope.isCoroutine = false) (hgen : scope.isGenerator = false) (hk : scope.kind = .function) : codeAny (model prog w) A (.call (.ref f) args) R s := by
  refine codeAny_call_function hroom (X _ _ ho) rfl hco hgen rfl (codeRec_of X hcd) (hbind _ _ _ _ ?_)
  refine wpAny_newFunctionEnv_cells hk (kindsX hkind _) fun env he s₁ x => ?_
  subst he
  exact ⟨hlim.keeps x.toInCall.keep, codeAny_func (h s₁ x)⟩

/-- C(..): dict at size, instance at size + 1, then __init__ -/
theorem make_obj {R : Result → Shared → Prop} {C fI : Addr} {rest : List Value} {kw : List (Str × Value)}
    (X : K.In s.heap) (hm : makesIn K C = true) (hi : findIn K (.ref C) "__init__" = some (some (.ref fI))) (hf : isFn K (.ref fI) = true)
    (h : codeAny (model prog w) (A.under (.builtin "type.__call__" ⟨.ref C :: rest, kw⟩)) (.call (.ref fI) ⟨.ref (s.heap.objs.size + 1) :: rest, kw⟩) (InitBack (s.heap.objs.size + 1) R)
      { s with heap := (s.heap.push emptyDict).push (instObj C s.heap.objs.size) }) : codeAny (model prog w) A (.call (.ref C) ⟨rest, kw⟩) R s := by
  obtain ⟨hh, g, d, t, os⟩ := s
  exact make_core (makes_of X hm) (looks_findIn X hi) (fun self => bind_fn X self (beq_iff_eq.mp hf)) (.inl rfl) h

/-- x.name where the instance's dict holds the name and the class does not -/
theorem get_field {x C : Addr} {ox : Obj} {es : List DictEntry} {n : Nat} {name : Str} {expr : Bool} {v : Value} {Q : Value → Shared → Prop}
    (X : K.In s.heap) (I : PySem.W.InstAt s.heap x ox C (some (dictOf es n))) (hg : plainGet K C name = true) (hh : hasDictIn K C = true) (ha : findIn K (.ref C) name = some none)
    (hl : getL name es = some (some v)) (hv : handedIn v = true) (h : Q v { s with toks := s.toks + 1 }) : wpAny (model prog w) A (getAttr (.ref x) name expr) Q E s :=
  get_value X I (plainGet_of hg).1 (findObj_own hh ha rfl hl) hv h

/-- x.m(..): the method found in the class -/
theorem get_method {x C f : Addr} {ox : Obj} {es : List DictEntry} {n : Nat} {name : Str} {pl : Sem Bool} {Q : Value × List Value → Shared → Prop}
    (X : K.In s.heap) (I : PySem.W.InstAt s.heap x ox C (some (dictOf es n))) (hg : plainGet K C name = true) (hf : findIn K (.ref C) name = some (some (.ref f))) (ht : isFn K (.ref f) = true)
    (hl : getL name es = some none) (h : Q (.ref f, [.ref x]) s) : wpAny (model prog w) A (getMethod (.ref x) name pl) Q E s :=
  method_fn X I (plainGet_of hg).1 (plainGet_of hg).2 hf (beq_iff_eq.mp ht) (by show (lookIn name (dictOf es n)).map _ = _; rw [lookIn_dict, hl]; rfl) h

/-! the whole heap as the ledger: makes every rule that writes through a ledger a rule over any heap -/
def noObjs (h : Heap) : Heap := { h with objs := #[] }
theorem noObjs_get (h : Heap) (b : Addr) : (noObjs h).get? b = none := by
  cases e : (noObjs h).get? b with
  | none => rfl
  | some o => exact absurd (Heap.lt_size e) (Nat.not_lt_zero _)
def ledger (h : Heap) (L d : Addr) : List (Addr × Obj) := (List.range h.objs.size).filterMap fun a => if a = L ∨ a = d then none else (h.get? a).map fun o => (a, o)
theorem mem_ledger {h : Heap} {L d a : Addr} {o : Obj} : (a, o) ∈ ledger h L d ↔ a ≠ L ∧ a ≠ d ∧ h.get? a = some o := by
  unfold ledger
  rw [List.mem_filterMap]
  constructor
  · rintro ⟨b, _, e⟩
    split at e
    · cases e
    · rename_i hb
      obtain ⟨o', ho, e'⟩ := Option.map_eq_some_iff.mp e
      cases e'
      exact ⟨fun q => hb (.inl q), fun q => hb (.inr q), ho⟩
  · rintro ⟨n1, n2, ho⟩
    refine ⟨a, List.mem_range.mpr (Heap.lt_size ho), ?_⟩
    rw [if_neg (show ¬ (a = L ∨ a = d) from fun q => q.elim n1 n2), ho] <;> rfl
theorem news_ledger {h : Heap} {L d : Addr} {od : Obj} (hne : d ≠ L) (ho : h.get? d = some od) : News (noObjs h) L h ([] ++ (d, od) :: ledger h L d) := by
  rintro ⟨a, o⟩ hp
  rcases List.mem_cons.mp hp with e | hp
  · cases e
    exact ⟨ho, hne, noObjs_get _ _⟩
  · obtain ⟨n1, n2, e⟩ := mem_ledger.mp hp
    exact ⟨e, n1, noObjs_get _ _⟩
theorem fr_all {h : Heap} {L : Addr} {m : Str → Option Value} (n : h.Ns L m) : Fr (noObjs h) L h m :=
  ⟨n, fun b o e => (by rw [noObjs_get] at e; cases e), Nat.zero_le _⟩
/-- Upd of the head entry (for append_K, setItem_K ..) -/
theorem upd_ledger {h : Heap} {L d : Addr} {o o' : Obj} : Upd d o o' ((d, o) :: ledger h L d) ((d, o') :: ledger h L d) :=
  .head fun ⟨_, _⟩ hp => (mem_ledger.mp hp).2.1

/-- x.name = v over any heap: L is any namespace of the heap (the frame's, say): its map stays, its object is not told; all else but the dict stays -/
theorem set_field {x C dx L : Addr} {ox : Obj} {m : Str → Option Value} {es es' : List DictEntry} {n n' : Nat} {name : Str} {v : Value} {Q : Unit → Shared → Prop}
    (X : K.In s.heap) (I : PySem.W.InstAt s.heap x ox C (some (dictOf es n))) (hd : ox.dict = some dx) (hL : s.heap.Ns L m) (hne : dx ≠ L)
    (hs : findIn K (.ref C) "__setattr__" = some (some (.builtin "object.__setattr__"))) (hp : plainOver K C = true) (ht : takerIn K C name = some none) (hh : hasDictIn K C = true) (hl : (getL name es).isSome = true)
    (e : (putL name (PyData.keyHash w.params name) (.str name (s.toks + 1)) v es, putN name es n) = (es', n')) (hz : es'.length ≤ 1000)
    (h : ∀ h' : Heap, h'.Ns L m → h'.get? dx = some (dictOf es' n') → (∀ b o, b ≠ dx → b ≠ L → s.heap.get? b = some o → h'.get? b = some o) → Q () { s with heap := h', toks := s.toks + 2 }) :
    wpAny (model prog w) A (setAttr (.ref x) name v) Q E s := by
  obtain ⟨e1, e2⟩ := Prod.mk.inj e
  have hdx : s.heap.get? dx = some (dictOf es n) := by
    have := I.dict
    rw [hd] at this
    exact this
  refine set_plain X I hs (osa_dict (s := { s with toks := s.toks + 1 }) (h₀ := noObjs s.heap) (L := L) (m := m) (od := dictOf es n) (od' := dictOf es' n') (es := es') (n := n') (pre := []) (post := ledger s.heap L dx)
    (fr_all hL) (news_ledger hne hdx) X I hd hp ht hh hl (fun _ q => nomatch q) (fun ⟨_, _⟩ q => (mem_ledger.mp q).2.1) (by rw [putName_dict, e1, e2]) rfl hz fun h' F' N' => ?_)
  exact h h' F'.ns (N'.get (List.Mem.head _)) fun b o n1 n2 ho => N'.get (List.Mem.tail _ (mem_ledger.mpr ⟨n2, n1, ho⟩))
end
end Att

namespace L2
open PySem PySem.Spec PyProof.Rows

theorem vals_ints : ∀ {vs : List Value} {ns : List Int}, IntsAre vs ns → Vals (ns.map V.int) vs
  | _, _, .nil => .nil
  | _, _, .cons n t h => .cons ⟨t, rfl⟩ (vals_ints h)

/-- nothing is tracked but the script, known to the object (or it is an object of the module) -/
def Only (H : Hp) : Prop := ∀ b, H b = none ∨ ∃ o xs, H b = some (.frz o (.lst xs))

/-- THE HEAD: the law's promise, at the heap behind the top. F, the promise of the law's def, may use that base is part of the heap (so K.In base, base.Ns mainGlobals mg stand in Mod) -/
theorem law_call {P : Program} {w : World} {K : PySem.W.Frag} {mg mb : Str → Option Value} {CX : CXT} {k : Nat} {fa a : Addr} {fd : FuncData} {x : Str} {sp : Sp} {s₁ : Shared} {vs : List Value} {ns : List Int}
    (KX : K.In s₁.heap) (hns : s₁.heap.Ns mainGlobals mg) (hb : s₁.heap.Ns builtinsNs mb) (hbb : ∀ x : Str, x ≠ "__name__" → mb x = bootBuiltins x) (hlim : s₁.heap.NoLimit) (hg : s₁.gens = #[])
    (ha : s₁.heap.get? a = some { cls := .type "list", data := .seq vs.toArray }) (hi : IntsAre vs ns) (hl : ns.length ≤ sizeLine) (hr : Room k callerA)
    (F : ∀ base : Heap, K.In base → base.Ns mainGlobals mg → FnOk P w K mg base CX k fa fd [x] sp) (hbind : ∀ (s : Shared) (u : Value), BindsTo s fd ⟨[u], []⟩ [(x, u)])
    (hsp : ∀ H : Hp, Only H → SqL K H a (ns.map V.int) → sp [.ref a] H (fun v _ => v = .bl true) fun _ _ _ => False)
    (hCX : ∀ H e s', CX [] H s₁ (fun _ _ _ => False) e s' → False) :
    codeAny (model P w) callerA (.call (.ref fa) ⟨[.ref a], []⟩) (fun r s' => r = .ok (.ret (.bool true)) ∧ OldK s₁.heap s'.heap ∧ s'.os = s₁.os ∧ AllBare s'.gens) s₁ := by
  have rv := vals_ints hi
  have lenV := hi.length
  -- from an abstract heap in which nothing but the script may be tracked
  have core : ∀ H : Hp, Only H → SqL K H a (ns.map V.int) → HOk P w H s₁.heap → (∀ b, H b ≠ none → b = a) → (H a ≠ none → K.lookup a = none) →
      codeAny (model P w) callerA (.call (.ref fa) ⟨[.ref a], []⟩) (fun r s' => r = .ok (.ret (.bool true)) ∧ OldK s₁.heap s'.heap ∧ s'.os = s₁.os ∧ AllBare s'.gens) s₁ := by
    intro H hO hS hok hA hK
    have base_of : ∀ {b : Addr} {o : Obj}, s₁.heap.get? b = some o → H b = none → (hidT s₁.heap H).get? b = some o := fun e n => hidT_get e n
    have noA : ∀ {b : Addr} {o : Obj} {es : Array DictEntry} {ep : Nat}, s₁.heap.get? b = some o → o.data = .dict es ep → H b = none := fun {b o es ep} e d => by
      cases q : H b with
      | none => rfl
      | some u =>
        have e' : b = a := hA b (by rw [q]; simp)
        subst e'
        rw [ha] at e; cases e
        have d' : Data.seq vs.toArray _ = Data.dict es ep := d
        cases d'
    have nsK : ∀ {b : Addr} {m : Str → Option Value}, s₁.heap.Ns b m → (hidT s₁.heap H).Ns b m := fun {b m} ⟨o, es, ep, e, d, r⟩ => ⟨o, es, ep, base_of e (noA e d), d, r⟩
    have hKb : K.In (hidT s₁.heap H) := fun b o e => base_of (KX b o e) (by
      cases q : H b with
      | none => rfl
      | some u =>
        have e' : b = a := hA b (by rw [q]; simp)
        subst e'
        rw [hK (by rw [q]; simp)] at e; cases e)
    have hM : Mod K mg (hidT s₁.heap H) := ⟨hKb, nsK hns, ⟨mb, nsK hb, hbb⟩, let ⟨mc, h1, h2⟩ := hlim; ⟨mc, nsK h1, h2⟩⟩
    have e0 : Env0 P w K mg (hidT s₁.heap H) callerA [] s₁ H := ⟨rfl, hM, fun b o e => of_hidT e, Nat.le_of_eq (hidT_size _ _), trivial, fun b hb => absurd (show b ∈ ([] : List Addr) from hb) (by simp), hok, .of_eq hg⟩
    refine codeAny_mono ((F _ hKb (nsK hns)).run callerA [] s₁ H ⟨[.ref a], []⟩ [.ref a] [.ref a] _ _ hr e0 (hbind s₁ (.ref a)) (.cons rfl .nil) (hsp H hO hS)) fun r s' h => ?_
    cases r with
    | error e => exact (hCX H e s' h).elim
    | ok fl =>
      cases fl with
      | next => exact False.elim h
      | brk => exact False.elim h
      | cont => exact False.elim h
      | ret u =>
        obtain ⟨v, H', os, bare, un, hok', r', q⟩ := h
        have q' : v = .bl true := q
        subst q'
        obtain rfl : u = Value.bool true := r'
        refine ⟨rfl, OldK.of_keep fun b o e => ?_, os, bare⟩
        cases q : H b with
        | none => exact un.keep b o e q (by intro z; exact absurd (show b ∈ ([] : List Addr) from z) (by simp)) (by simp)
        | some u =>
          rcases hO b with z | ⟨ob, xs, z⟩
          · rw [q] at z; cases z
          · have z2 := un.frzs b ob _ z
            obtain ⟨e1, _⟩ := hok b _ z
            obtain ⟨e2, _⟩ := hok' b _ z2
            rw [e] at e1; cases e1
            exact e2
  cases hk : K.lookup a with
  | some o =>
    -- the script is one of the module's own objects
    have e := KX a o hk
    rw [ha] at e
    cases e
    refine core (fun _ => none) (fun _ => .inl rfl) (.inr ⟨_, vs.toArray, _, hk, rfl, rfl, rfl, by rw [List.size_toArray, lenV]; exact hl, by simpa using rv⟩) (fun b u z => by have z' : (none : Option HO) = some u := z; cases z') (fun b z => absurd rfl z) fun z => absurd rfl z
  | none =>
    refine core (fun b => if b = a then some (.frz { cls := .type "list", data := .seq vs.toArray } (.lst (ns.map V.int))) else none) (fun b => ?_) (.inl (.inr ⟨{ cls := .type "list", data := .seq vs.toArray }, if_pos rfl⟩)) (fun b u z => ?_) (fun b z => ?_) fun _ => hk
    · by_cases hb : b = a
      · exact .inr ⟨_, _, if_pos hb⟩
      · exact .inl (if_neg hb)
    · by_cases hb : b = a
      · have z' := (if_pos hb).symm.trans z
        cases z'
        subst hb
        exact ⟨ha, by rw [List.length_map]; exact hl, vs, _, rv, ha⟩
      · have z' := (if_neg hb).symm.trans z
        cases z'
    · by_cases hb : b = a
      · exact hb
      · exact absurd (if_neg hb) z
end L2

namespace L2
open PySem PySem.Spec PyProof.Rows

abbrev KOf {K : PySem.W.Frag} {h : Heap} (_ : K.In h) : PySem.W.Frag := K

/-- the goal that k_head leaves (case hc), from the law's promise. F gives the function object fd (K's own) once, then the promise over every base -/
theorem walk_of {l : PySem.W.OpenLaw} {n k : Nat} {q : Program} {loose : List Str} {XP : (Str → Option Value) → Heap → Prop} {YP : World → Heap → Prop} {d : DefRec} {K : Params → PySem.W.Frag} {CX : World → CXT} {sp : World → Sp} {x : Str}
    (hn : l.most = some n) (hn2 : n ≤ sizeLine) (hdf : d.params.defaults = []) (hr : Room k callerA)
    (hY : ∀ (w : World) (h : Heap), YP w h → (K w.params).In h)
    (F : ∀ (w : World) (mg : Str → Option Value) (fa : Addr) (h : Heap), (K w.params).In h → h.Ns mainGlobals mg → mg d.name = some (.ref fa) →
      ∃ fd : FuncData, (∀ (s : Shared) (u : Value), BindsTo s fd ⟨[u], []⟩ [(x, u)]) ∧
        ∀ base : Heap, (K w.params).In base → base.Ns mainGlobals mg → FnOk l.prog w (K w.params) mg base (CX w) k fa fd [x] (sp w))
    (hsp : ∀ (w : World) (H : Hp) (a : Addr) (ns : List Int), ns.length ≤ n → Only H → SqL (K w.params) H a (ns.map V.int) → sp w [.ref a] H (fun v _ => v = .bl true) fun _ _ _ => False)
    (hCX : ∀ (w : World) (H : Hp) (s : Shared) (e : Value) (s' : Shared), CX w [] H s (fun _ _ _ => False) e s' → False) :
    PySem.W.WalkO q loose XP YP l.row.toRowW d [] (fun f vs => PySem.call f vs) := by
  refine Att.attach_call hn hdf fun w s₀ s₁ mg mb fa o pm cd doc a vs ns G Y ho hd hcd hmg hobj hints hlen hg => ?_
  have KX := hY w _ Y
  obtain ⟨fd, hb, hF⟩ := F w mg fa _ KX G.T.g hmg
  exact law_call KX G.T.g G.T.b G.T.builtins G.T.nolimit hg hobj hints (Nat.le_trans hlen hn2) hr hF hb (fun H hO hS => hsp w H a ns hlen hO hS) fun H e s' => hCX w H s₁ e s'
/-- the same where the promise hangs on the written part alone: (sp := My.sp_law), no hole under a binder -/
theorem walk_ofK {l : PySem.W.OpenLaw} {n k : Nat} {q : Program} {loose : List Str} {XP : (Str → Option Value) → Heap → Prop} {YP : World → Heap → Prop} {d : DefRec} {K : Params → PySem.W.Frag} {CX : CXT} {sp : PySem.W.Frag → Sp} {x : Str}
    (hn : l.most = some n) (hn2 : n ≤ sizeLine) (hdf : d.params.defaults = []) (hr : Room k callerA)
    (hY : ∀ (w : World) (h : Heap), YP w h → (K w.params).In h)
    (F : ∀ (w : World) (mg : Str → Option Value) (fa : Addr) (h : Heap), (K w.params).In h → h.Ns mainGlobals mg → mg d.name = some (.ref fa) →
      ∃ fd : FuncData, (∀ (s : Shared) (u : Value), BindsTo s fd ⟨[u], []⟩ [(x, u)]) ∧
        ∀ base : Heap, (K w.params).In base → base.Ns mainGlobals mg → FnOk l.prog w (K w.params) mg base CX k fa fd [x] (sp (K w.params)))
    (hsp : ∀ (K : PySem.W.Frag) (H : Hp) (a : Addr) (ns : List Int), ns.length ≤ n → Only H → SqL K H a (ns.map V.int) → sp K [.ref a] H (fun v _ => v = .bl true) fun _ _ _ => False)
    (hCX : ∀ (H : Hp) (s : Shared) (e : Value) (s' : Shared), CX [] H s (fun _ _ _ => False) e s' → False) :
    PySem.W.WalkO q loose XP YP l.row.toRowW d [] (fun f vs => PySem.call f vs) :=
  walk_of (K := K) (CX := fun _ => CX) (sp := fun w => sp (K w.params)) hn hn2 hdf hr hY F (fun w H a ns h1 h2 h3 => hsp (K w.params) H a ns h1 h2 h3) fun _ H s e s' => hCX H s e s'
end L2

/- THE LAST THEOREM (shape; LID, My.* are yours):
   My.Adr: a structure of the addresses that your layer names (classes, functions); My.Txt K t: a structure (Prop) of the equations over K;
   My.txt_mk : {K} {implicit addresses ..} (e1 : nsIn K mainGlobals "law" = some (some (.ref f))) (e2 : K.lookup f = some ⟨oc, od, .func (fnOf "law" "law" params body scope dV kV doc pm an cdv ct), sl⟩) (e3 : codeIn K cdv "law" = true) .. : ∃ t, My.Txt K t

set_option maxRecDepth 100000 in
set_option maxHeartbeats 0 in
theorem PySem.Challenge.cw_LID_holds : PySem.Challenge.rw_LID.Holds := by
  w_on; o_law; k_head; (case hw => w_witness2)
  k_fill
  refine L2.walk_of (l := PySem.Challenge.rw_LID) (n := 63) (k := 40) (x := "script") (CX := fun w => ..) (sp := fun _ => My.sp_law) rfl (by decide) rfl ⟨rfl, by decide, by decide⟩ (fun w h Y => PySem.W.kIn_of Y) ?F ?S ?C
  case F =>
    intro w mg fa h KX G hmg
    have T : ∃ t, My.Txt (L2.KOf KX) t := by
      dsimp only [L2.KOf]                          -- K must stand as «<heap const> w.params» for k_is
      refine' My.txt_mk ?e1 ?e2 ?e3 ..
      (case e1 => PySem.W.k_is)                    -- in the order: a name -> its address -> its object -> its parts
      (case e2 => PySem.W.k_is)
      ..
    obtain ⟨t, T⟩ := T
    have e0 := hmg.symm.trans (PySem.W.mg_of KX G T.law)
    cases e0                                       -- fa is the law's own address
    exact ⟨_, fun s u => .of_eq rfl, fun base kb nb => My.law_fn T kb nb⟩     -- if «.of_eq rfl» comes too early: refine' ⟨_, ?b, fun base kb nb => My.law_fn T kb nb⟩; exact fun s u => .of_eq rfl
  case S => exact fun w H a ns hl hO hS => ..
  case C => exact ..
(the tactic k_is has no namespace: write k_is) -/

/-! SHORT WORDS over the layer: a def of the text, its body, what a loop and a test want. -/
namespace L2
open PySem PySem.Spec PyProof.Rows

/-! ### the text by places -/
/-- the j-th statement of a class's body -/
def inClass (s : Stmt) (j : Nat) : Stmt := match s with
  | .ClassDef _ _ _ body _ _ _ _ _ _ _ => body.getD j (.Pass ⟨0, 0, 0, 0⟩)
  | _ => .Pass ⟨0, 0, 0, 0⟩
def defArgs (s : Stmt) : Arguments := match s with
  | .FunctionDef _ a _ _ _ _ _ _ _ _ => a
  | _ => { posonlyargs := [], args := [], vararg := none, kwonlyargs := [], kw_defaults := [], kwarg := none, defaults := [] }
def defBody (s : Stmt) : List Stmt := match s with
  | .FunctionDef _ _ b _ _ _ _ _ _ _ => b
  | _ => []
def defScope (s : Stmt) : Scope := match s with
  | .FunctionDef _ _ _ _ _ _ sc _ _ _ => sc
  | _ => { kind := .function, names := [], isGenerator := false, isCoroutine := false }

/-! ### no exception leaves a def -/
abbrev CX0 : CXT := fun _ _ _ _ _ _ => False
abbrev E0 : XK := fun _ _ _ => False
theorem pass0 {X : Cx} : Passes CX0 X E0 := fun _ _ _ _ _ _ _ h => h.elim

/-! ### a def (or method) of the text as it stands behind the top -/
structure Fun (K : PySem.W.Frag) (x qual : Str) (st : Stmt) (f : Addr) (fd : FuncData) : Prop where
  ex : ∃ (oc : Value) (od : Option Addr) (kV doc pm : Value) (an : Option Addr) (cdv ct : Value) (osl : Array (Option Value)),
    fd = PySem.W.fnOf x qual (defArgs st) (defBody st) (defScope st) .none kV doc pm an cdv ct ∧ K.lookup f = some ⟨oc, od, .func fd, osl⟩ ∧ PySem.W.codeIn K cdv qual = true
  kp : PySem.W.keepIn K (.ref f) = true
section
variable {P : Program} {w : World} {K : PySem.W.Frag} {mg : Str → Option Value} {base : Heap}
/-- THE RULE for a def: its body as a term of rules, and the reading of that term -/
theorem Fun.ok {x qual : Str} {st : Stmt} {f : Addr} {fd : FuncData} {N ps : List Str} {k : Nat} {sp : Sp} (F : Fun K x qual st f fd) (S : FnScope N ps (defScope st)) (len : ∀ vs H Q E, sp vs H Q E → vs.length = ps.length)
    (hbody : ∀ (cdv : Value) (A : Around) (outer : List Env) (s : Shared) (H : Hp) (vs : List V) (Q : VK) (E : XK), Room k (A.deeper (envOfC qual (defScope st) s.heap.objs.size f cdv)) → sp vs H Q E →
      ∃ t, PSs (cxOf CX0 P w K mg base N qual (defScope st) f cdv A outer s H E).nox (defBody st) t ∧ t { nx := fun _ H' => Q .non H', rt := Q } (start N vs) H) : FnOk P w K mg base CX0 (k + 1) f fd ps sp := by
  obtain ⟨oc, od, kV, doc, pm, an, cdv, ct, osl, rfl, lk, hcd⟩ := F.ex
  refine fn_of lk hcd S len fun A outer s H vs Q E hr hsp => ?_
  obtain ⟨t, h, q⟩ := hbody cdv A outer s H vs Q E hr hsp
  exact ⟨t, h.nox, q⟩
/-- how its arguments bind (no defaults): h is «fun _ _ _ _ _ _ us hl => match us, hl with | [_, _], _ => rfl», one _ a parameter -/
theorem Fun.binds {x qual : Str} {st : Stmt} {f : Addr} {fd : FuncData} {ps : List Str} (F : Fun K x qual st f fd)
    (h : ∀ (kV doc pm : Value) (an : Option Addr) (cdv ct : Value) (us : List Value), us.length = ps.length → bindArgs (PySem.W.fnOf x qual (defArgs st) (defBody st) (defScope st) .none kV doc pm an cdv ct) ⟨us, []⟩ = pure (ps.zip us)) : Binds K fd ps [] := by
  obtain ⟨oc, od, kV, doc, pm, an, cdv, ct, osl, rfl, lk, hcd⟩ := F.ex
  exact .all (h kV doc pm an cdv ct)
theorem fun_mk {x qual : Str} {st : Stmt} {f : Addr} {oc : Value} {od an : Option Addr} {osl : Array (Option Value)} {kV doc pm cdv ct : Value} (l : K.lookup f = some ⟨oc, od, .func (PySem.W.fnOf x qual (defArgs st) (defBody st) (defScope st) .none kV doc pm an cdv ct), osl⟩)
    (c : PySem.W.codeIn K cdv qual = true) (k : PySem.W.keepIn K (.ref f) = true) : Fun K x qual st f (PySem.W.fnOf x qual (defArgs st) (defBody st) (defScope st) .none kV doc pm an cdv ct) := ⟨⟨oc, od, kV, doc, pm, an, cdv, ct, osl, rfl, l, c⟩, k⟩
end
theorem hu_of {A : Around} {k : Nat} (hr : Room k A) : A.units + 1 < cLine := Nat.lt_of_le_of_lt (Nat.add_le_add_left (by decide : 1 ≤ 64) _) hr.units
theorem small1000 {n : Nat} (h : n ≤ 1000) : n < sizeLine := Nat.lt_of_le_of_lt h (by decide)

/-! ### expressions in short: the name that stands in the i-th slot -/
section
variable {X : Cx}
theorem pv (i : Nat) {x : Str} {pos : Pos} (hN : X.N[i]? = some x := by rfl) (hv : Vis X.env.scope x := by first | exact Or.inl rfl | exact Or.inr (Or.inl rfl) | exact Or.inr (Or.inr rfl)) (hd : (x == ("__debug__" : Str)) = false := by decide)
    (hcd : (x == ("__classdict__" : Str)) = false := by decide) : PE X (.Name x pos) (tVar i) := pe_var hN hv hd hcd
end

/-! ### tests -/
theorem iteF {A B : Prop} (h : B) : if false = true then A else B := by
  rw [if_neg Bool.false_ne_true]
  exact h
theorem iteT {A B : Prop} (h : A) : if true = true then A else B := by
  rw [if_pos rfl]
  exact h
theorem ite2 {c A B : Prop} [Decidable c] (h1 : c → A) (h2 : ¬ c → B) : if c then A else B := by
  by_cases h : c
  · rw [if_pos h]
    exact h1 h
  · rw [if_neg h]
    exact h2 h
theorem iteNS {c A B : Prop} [Decidable c] (hc : c) (h : B) : if (!decide c) = true then A else B := by
  rw [decide_eq_true hc]
  exact iteF h

/-! ### heaps -/
/-- all that was tracked is as it was -/
def Same (H H' : Hp) : Prop := ∀ b o, H b = some o → H' b = some o
theorem Same.refl (H : Hp) : Same H H := fun _ _ h => h
theorem Same.trans {H H1 H2 : Hp} (a : Same H H1) (b : Same H1 H2) : Same H H2 := fun c o h => b c o (a c o h)
theorem Same.free {H H' : Hp} (e : Same H H') {l : Addr} (h : H' l = Option.none) : H l = Option.none := by
  cases q : H l with
  | none => rfl
  | some o =>
    rw [e l o q] at h
    cases h
theorem Same.seq {K : PySem.W.Frag} {H H' : Hp} {a : Addr} {xs : List V} (e : Same H H') (h : SqL K H a xs) : SqL K H' a xs := by
  rcases h with (h | ⟨o, h⟩) | h
  · exact .inl (.inl (e _ _ h))
  · exact .inl (.inr ⟨o, e _ _ h⟩)
  · exact .inr h

end L2
/-! A COMPREHENSION, over the hand layer: [elt for target in iter if test] -/
namespace L2
open PySem PySem.Spec PyProof.Rows

/-! ### the block's cells -/
def clOf (cells : List (Str × Addr)) : List (Str × NameKind) → List (Str × Addr) → List (Str × Addr)
  | [], acc => acc
  | (n, k) :: r, acc => if k == .free then clOf cells r ((n, (cells.lookup n).getD 0) :: acc) else clOf cells r acc

theorem closureFor_eq {scope : Scope} {env : Env} (h : ∀ x ∈ scope.names, x.2 = .free → ∃ c, env.cells.lookup x.1 = some c) : closureFor scope env = pure (clOf env.cells scope.names []) := by
  unfold closureFor
  have key : ∀ (names : List (Str × NameKind)) (acc : List (Str × Addr)), (∀ x ∈ names, x.2 = .free → ∃ c, env.cells.lookup x.1 = some c) →
      (forIn names acc (fun (x : Str × NameKind) (r : List (Str × Addr)) => (if (x.2 == NameKind.free) = true then do let c ← cellOf env x.1; pure (ForInStep.yield ((x.1, c) :: r)) else pure (ForInStep.yield r) : Sem (ForInStep (List (Str × Addr)))))) = pure (clOf env.cells names acc) := by
    intro names
    induction names with
    | nil => intro acc _; rfl
    | cons x r ih =>
      intro acc hx
      obtain ⟨n, k⟩ := x
      rw [List.forIn_cons]
      unfold clOf
      by_cases hk : (k == NameKind.free) = true
      · have hk' : k = .free := by simpa using hk
        obtain ⟨c, hc⟩ := hx (n, k) List.mem_cons_self hk'
        have hc' : env.cells.lookup n = some c := hc
        simp only [hk, if_true]
        have e1 : cellOf env n = pure c := by unfold cellOf; rw [hc']
        rw [e1, hc']
        exact ih ((n, c) :: acc) fun y hy => hx y (List.mem_cons_of_mem _ hy)
      · simp only [hk, if_false, Bool.false_eq_true]
        exact ih acc fun y hy => hx y (List.mem_cons_of_mem _ hy)
  have e := key scope.names [] h
  first
    | exact e
    | (simp only [bind_pure]; exact e)

theorem clOf_some {cells : List (Str × Addr)} {x : Str} {c : Addr} : ∀ (names : List (Str × NameKind)) (acc : List (Str × Addr)), (clOf cells names acc).lookup x = some c → acc.lookup x = some c ∨ ((x, NameKind.free) ∈ names ∧ c = (cells.lookup x).getD 0)
  | [], _, h => .inl h
  | (n, k) :: r, acc, h => by
    unfold clOf at h
    by_cases hk : (k == NameKind.free) = true
    · have hk' : k = .free := by simpa using hk
      rw [if_pos hk] at h
      rcases clOf_some r _ h with z | ⟨z, e⟩
      · rw [List.lookup_cons] at z
        cases hb : x == n with
        | true =>
          rw [hb] at z
          have e' : x = n := by simpa using hb
          subst e'
          subst hk'
          exact .inr ⟨List.mem_cons_self, (Option.some.inj z).symm⟩
        | false => rw [hb] at z; exact .inl z
      · exact .inr ⟨List.mem_cons_of_mem _ z, e⟩
    · rw [if_neg hk] at h
      rcases clOf_some r _ h with z | ⟨z, e⟩
      · exact .inl z
      · exact .inr ⟨List.mem_cons_of_mem _ z, e⟩
theorem clOf_has {cells : List (Str × Addr)} {x : Str} : ∀ (names : List (Str × NameKind)) (acc : List (Str × Addr)), ((x, NameKind.free) ∈ names ∨ (acc.lookup x).isSome = true) → ((clOf cells names acc).lookup x).isSome = true
  | [], _, h => by
    rcases h with h | h
    · cases h
    · exact h
  | (n, k) :: r, acc, h => by
    unfold clOf
    by_cases hk : (k == NameKind.free) = true
    · rw [if_pos hk]
      refine clOf_has r _ ?_
      rcases h with h | h
      · rcases List.mem_cons.mp h with e | h
        · cases e
          exact .inr (by rw [List.lookup_cons]; simp)
        · exact .inl h
      · refine .inr ?_
        rw [List.lookup_cons]
        cases hb : x == n <;> simp [h]
    · rw [if_neg hk]
      refine clOf_has r _ ?_
      rcases h with h | h
      · rcases List.mem_cons.mp h with e | h
        · cases e
          exact absurd rfl hk
        · exact .inl h
      · exact .inr h
theorem cellsFrom_app : ∀ (names : List (Str × NameKind)) (n : Nat) (acc : List (Str × Addr)), cellsFrom n names acc = cellsFrom n names [] ++ acc
  | [], _, _ => rfl
  | (x, k) :: r, n, acc => by
    unfold cellsFrom
    by_cases hk : (k == NameKind.cell) = true
    · rw [if_pos hk, if_pos hk, cellsFrom_app r (n + 1) ((x, n) :: acc), cellsFrom_app r (n + 1) [(x, n)], List.append_assoc]
      rfl
    · rw [if_neg hk, if_neg hk]
      exact cellsFrom_app r n acc
theorem cellsFrom_mem : ∀ (names : List (Str × NameKind)) (n : Nat) (x : Str) (c : Addr), (x, c) ∈ cellsFrom n names [] → (x, NameKind.cell) ∈ names
  | [], _, _, _, h => nomatch h
  | (y, k) :: r, n, x, c, h => by
    unfold cellsFrom at h
    by_cases hk : (k == NameKind.cell) = true
    · have hk' : k = .cell := by simpa using hk
      rw [if_pos hk, cellsFrom_app] at h
      refine (List.mem_append.mp h).elim (fun h => ?_) fun h => ?_
      · exact List.mem_cons_of_mem _ (cellsFrom_mem r _ x c h)
      · have e : (x, c) = (y, n) := by simpa using h
        cases e
        subst hk'
        exact List.mem_cons_self
    · rw [if_neg hk] at h
      exact List.mem_cons_of_mem _ (cellsFrom_mem r n x c h)
theorem lookup_app {α : Type} {x : Str} : ∀ (a b : List (Str × α)), (a ++ b).lookup x = (a.lookup x).or (b.lookup x)
  | [], _ => by simp
  | (y, v) :: r, b => by
    rw [List.cons_append, List.lookup_cons, List.lookup_cons]
    cases hb : x == y with
    | true => simp
    | false => exact lookup_app r b
theorem lookup_of_mem {α : Type} {x : Str} {v : α} : ∀ {l : List (Str × α)}, (l.map (·.1)).Nodup → (x, v) ∈ l → l.lookup x = some v
  | [], _, h => by cases h
  | (y, w) :: r, nd, h => by
    rw [List.map_cons, List.nodup_cons] at nd
    rw [List.lookup_cons]
    cases h with
    | head => simp
    | tail _ h =>
      have hne : (x == y) = false := by
        apply beq_false_of_ne
        intro hxy
        exact nd.1 (List.mem_map.mpr ⟨(x, v), h, hxy⟩)
      rw [hne]
      exact lookup_of_mem nd.2 h

/-- a map that keeps every key -/
theorem lookup_keyed {α β : Type} {x : Str} (f : Str × α → Str × β) (hf : ∀ p, (f p).1 = p.1) : ∀ (l : List (Str × α)), (l.map f).lookup x = (l.lookup x).map fun k => (f (x, k)).2
  | [] => rfl
  | (n, k) :: r => by
    obtain ⟨m, z⟩ : ∃ z, f (n, k) = (n, z) := ⟨(f (n, k)).2, Prod.ext (hf _) rfl⟩
    rw [List.map_cons, z, List.lookup_cons, List.lookup_cons]
    cases hx : x == n with
    | false => exact lookup_keyed f hf r
    | true => cases (beq_iff_eq.mp hx); simp [z]
/-- the names of a block that are relabelled -/
theorem relabel_lookup {env : Env} {x : Str} (names : List (Str × NameKind)) : (names.map fun (n, k) => if (k == NameKind.free && env.scope.kind == .function && env.kindOf n == some .cell) then (n, NameKind.cell) else (n, k)).lookup x =
    (names.lookup x).map fun k => if (k == NameKind.free && env.scope.kind == .function && env.kindOf x == some .cell) = true then NameKind.cell else k := by
  rw [lookup_keyed _ (fun p => by dsimp only; split <;> rfl)]
  congr 1
  funext k
  dsimp only
  split <;> rfl

/-- the block's own namespace and cells -/
theorem newEnv_blk {M : Model} {A : Around} {E : Value → Shared → Prop} {s : Shared} {scope : Scope} {env : Env} {cl : List (Str × Addr)} {Q : Env → Shared → Prop}
    (q : Q (newEnv scope s.heap.objs.size env.globals (cellsFrom (s.heap.objs.size + 1) scope.names cl) env.qual none .none (some env) builtinsNs)
      { s with heap := pushCells (s.heap.push { cls := .type "dict", data := .dict #[] }) scope.names }) :
    wpAny M A (newFunctionEnv scope env.globals cl [] env.qual none .none (some env)) Q E s := by
  have z : (s.heap.push { cls := .type "dict", data := .dict #[] }).objs.size = s.heap.objs.size + 1 := Heap.size_push ..
  rw [← z] at q
  unfold newFunctionEnv
  have cells := wpAny_layCells (M := M) (A := A) (E := E) (fun x r => if (x.2 == NameKind.cell) = true then (do let c ← alloc { cls := .type "cell", data := .cell none }; pure (ForInStep.yield ((x.1, c) :: r))) else pure (ForInStep.yield r)) (fun _ _ _ => rfl) scope.names cl { s with heap := s.heap.push { cls := .type "dict", data := .dict #[] } }
  exact wpAny_bind (wpAny_alloc (wpAny_bind (cells _ (wpAny_bind (wpAny_pure (wpAny_pure q))))))
end L2
namespace L2
open PySem PySem.Spec PyProof.Rows

/-- the context of a comprehension's block within X: no exception leaves it -/
def blk (X : Cx) (N : List Str) (scope : Scope) (cs : List (Str × Addr)) (C : Addr) (s₀ : Shared) (H₀ : Hp) (ex : List Addr) : Cx where
  prog := X.prog
  w := X.w
  K := X.K
  mg := X.mg
  base := X.base
  A := X.A
  N := N
  s₀ := s₀
  H₀ := H₀
  env := compEnvC scope cs C X.env
  outer := X.stack
  stack := X.stack
  ex := ex
  fn := fun x => scope.names.lookup x == some .cell
  calm := X.calm
  pn := []
  xe := fun _ _ => False

/-- what of the block's scope is read off the text: oN, osc the names and the scope around; own names first, then the captured ones -/
structure BlkScope (oN : List Str) (osc : Scope) (N : List Str) (own : Nat) (caps : List Nat) (scope : Scope) : Prop where
  kind : scope.kind = .function
  nd : N.Nodup
  ndn : (scope.names.map (·.1)).Nodup
  free : ∀ x ∈ scope.names, x.2 = .free → osc.names.lookup x.1 = some .cell ∨ osc.names.lookup x.1 = some .free
  len : N.length = own + caps.length
  cap : caps.map (fun i => oN[i]?) = (N.drop own).map some
  capf : ∀ x ∈ N.drop own, scope.names.lookup x = some .free

def blkStart (own : Nat) (caps : List Nat) (σ : St) : St := List.replicate own none ++ caps.map fun i => (σ[i]?).join
abbrev blkCells (X : Cx) (scope : Scope) (C : Addr) : List (Str × Addr) := cellsFrom (C + 1) scope.names (clOf X.env.cells scope.names [])
abbrev blkHeap (h : Heap) (scope : Scope) : Heap := pushCells (h.push { cls := .type "dict", data := .dict #[] }) scope.names

section
variable {X : Cx} {pins : List (Addr × Obj)} {σ : St} {H : Hp} {s : Shared} {N : List Str} {own : Nat} {caps : List Nat} {scope : Scope} {ex : List Addr}

theorem blk_look (S : BlkScope X.N X.env.scope N own caps scope) (I : Inv X pins σ H s) (n : Nat) {x : Str} {c : Addr} (h : (cellsFrom n scope.names (clOf X.env.cells scope.names [])).lookup x = some c) :
    (x, c) ∈ cellsFrom n scope.names [] ∨ ((x, NameKind.free) ∈ scope.names ∧ X.env.cells.lookup x = some c) := by
  rw [cellsFrom_app, lookup_app] at h
  cases q : (cellsFrom n scope.names []).lookup x with
  | some c' =>
    rw [q] at h
    have e : c' = c := by simpa using h
    subst e
    exact .inl (PySem.mem_of_lookup q)
  | none =>
    rw [q] at h
    have h' : (clOf X.env.cells scope.names []).lookup x = some c := by simpa using h
    rcases clOf_some _ _ h' with z | ⟨z, e⟩
    · cases z
    · refine .inr ⟨z, ?_⟩
      obtain ⟨c', hc'⟩ := I.ok.has x (S.free (x, .free) z rfl)
      rw [hc'] at e ⊢
      rw [e]; rfl
theorem blk_capt (S : BlkScope X.N X.env.scope N own caps scope) (I : Inv X pins σ H s) (n : Nat) {x : Str} (hx : scope.names.lookup x = some .free) :
    ∃ c, X.env.cells.lookup x = some c ∧ (cellsFrom n scope.names (clOf X.env.cells scope.names [])).lookup x = some c := by
  have hm : (x, NameKind.free) ∈ scope.names := PySem.mem_of_lookup hx
  obtain ⟨c, hc⟩ := I.ok.has x (S.free (x, .free) hm rfl)
  refine ⟨c, hc, ?_⟩
  obtain ⟨c', hc'⟩ := Option.isSome_iff_exists.mp (clOf_has (cells := X.env.cells) (x := x) scope.names [] (.inl hm))
  have e0 : (cellsFrom n scope.names []).lookup x = none := by
    cases q : (cellsFrom n scope.names []).lookup x with
    | none => rfl
    | some d =>
      have := lookup_of_mem S.ndn (cellsFrom_mem _ _ _ _ (PySem.mem_of_lookup q))
      rw [hx] at this
      cases this
  rw [cellsFrom_app, lookup_app, e0, hc']
  rcases clOf_some _ _ hc' with z | ⟨_, e⟩
  · cases z
  · rw [hc] at e
    rw [e]; rfl

theorem inv_blk (S : BlkScope X.N X.env.scope N own caps scope) (I : Inv X pins σ H s) (hex : ∀ b ∈ ex, FpOk X pins H b ∧ b < s.heap.objs.size) :
    Inv (blk X N scope (blkCells X scope s.heap.objs.size) s.heap.objs.size s H ex) [] (blkStart own caps σ) H { s with heap := blkHeap s.heap scope } := by
  have k1 : ∀ b o, s.heap.get? b = some o → (blkHeap s.heap scope).get? b = some o := fun b o e => pushCells_keeps _ _ b o (Heap.get?_push_of_some _ e)
  have ok := cellsFrom_ok scope.names (s.heap.push { cls := .type "dict", data := .dict #[] }) (s.heap.objs.size + 1) [] ⟨fun _ _ hm => (nomatch hm), List.Pairwise.nil⟩ (by rw [Heap.size_push]; exact Nat.le_refl _)
  rw [Heap.size_push] at ok
  have oldc : ∀ x c, X.env.cells.lookup x = some c → c < s.heap.objs.size := fun x c e => by
    obtain ⟨v, q⟩ := I.cell x c e
    exact q.lt
  have kof : ∀ x, (compEnvC scope (blkCells X scope s.heap.objs.size) s.heap.objs.size X.env).kindOf x = (scope.names.lookup x).map fun k => if (k == NameKind.free && X.env.scope.kind == .function && X.env.kindOf x == some .cell) = true then NameKind.cell else k :=
    fun x => relabel_lookup (env := X.env) scope.names
  have kk : ∀ x, (compEnvC scope (blkCells X scope s.heap.objs.size) s.heap.objs.size X.env).kindOf x = some .cell ∨ (compEnvC scope (blkCells X scope s.heap.objs.size) s.heap.objs.size X.env).kindOf x = some .free →
      scope.names.lookup x = some .cell ∨ scope.names.lookup x = some .free := fun x h => by
    rw [kof] at h
    cases q : scope.names.lookup x with
    | none => rw [q] at h; rcases h with h | h <;> cases h
    | some k =>
      rw [q] at h
      by_cases hf : k = .free
      · exact .inr (by rw [hf])
      · have hb : (k == NameKind.free) = false := by simpa using hf
        have e : (some k).map (fun k => if (k == NameKind.free && X.env.scope.kind == .function && X.env.kindOf x == some .cell) = true then NameKind.cell else k) = some k := by
          simp [hf]
        rw [e] at h
        exact h
  refine ⟨⟨I.ok.mod, S.kind, I.ok.glob, I.ok.blt, Nat.le_refl _, fun x y c h1 h2 => ?_, fun x hx => ?_, fun x c hf h => ?_, I.ok.hd, I.ok.frames, .inl rfl, fun b hb => ⟨?_, fun x c h => ?_⟩, fun b o e => ?_, Nat.le_trans I.ok.bsz I.sz, fun b o e hb => ?_, fun b hb hf => ?_, I.stack, I.stkFree⟩,
    rfl, I.bare, Un.kept k1, ⟨fun _ => none, ?_, fun i x v h1 h2 h3 => ?_⟩, fun x c h => ?_, I.hok.fresh (Nat.le_refl _), fun x c h => ?_, fun p hp => absurd (show p ∈ ([] : List (Addr × Obj)) from hp) (by simp), I.hok.kept k1, ?_⟩
  · -- inj
    rcases blk_look S I _ h1 with a1 | ⟨_, a1⟩ <;> rcases blk_look S I _ h2 with a2 | ⟨_, a2⟩
    · exact name_of_addr ok.apart a1 a2
    · exact absurd (oldc _ _ a2) (Nat.not_lt.mpr (Nat.le_of_succ_le (ok.empty _ _ a1).2))
    · exact absurd (oldc _ _ a1) (Nat.not_lt.mpr (Nat.le_of_succ_le (ok.empty _ _ a2).2))
    · exact I.ok.inj _ _ _ a1 a2
  · -- has
    rcases kk x hx with q | q
    · exact Option.isSome_iff_exists.mp (PySem.W.cellsFrom_some scope.names _ _ (.inl q))
    · obtain ⟨c, _, hc⟩ := blk_capt S I (s.heap.objs.size + 1) q
      exact ⟨c, hc⟩
  · -- cab
    have hf' : scope.names.lookup x = some .cell := by simpa [blk] using hf
    rcases blk_look S I _ h with a | ⟨a, _⟩
    · exact Nat.le_of_succ_le (ok.empty _ _ a).2
    · rw [lookup_of_mem S.ndn a] at hf'
      cases hf'
  · exact Nat.ne_of_lt (hex b hb).2
  · rcases blk_look S I _ h with a | ⟨_, a⟩
    · exact Nat.ne_of_gt (Nat.lt_of_lt_of_le (hex b hb).2 (Nat.le_of_succ_le (ok.empty _ _ a).2))
    · exact (hex b hb).1.2.2.2.2.1 x c a
  · exact I.bs b o e
  · rcases (hex b hb).1.2.2.2.1 with z | z
    · exact I.ok.noex b o e z
    · exact absurd (Nat.lt_of_lt_of_le (Heap.lt_size e) (Nat.le_trans I.ok.bsz z)) (Nat.lt_irrefl _)
  · rcases List.mem_cons.mp (I.stkSub b hf) with z | z
    · exact (hex b hb).1.2.1 z
    · exact (hex b hb).1.2.2.1 z
  · exact (Heap.Ns.new s.heap (.type "dict")).keeps (pushCells_keeps _ _)
  · -- the captured names
    have hi : own ≤ i := by
      refine Nat.le_of_not_lt fun hlt => ?_
      unfold blkStart at h2
      rw [List.getElem?_append_left (by simpa using hlt), List.getElem?_replicate] at h2
      split at h2 <;> cases h2
    obtain ⟨j, rfl⟩ : ∃ j, i = own + j := ⟨i - own, by omega⟩
    unfold blkStart at h2
    rw [List.getElem?_append_right (by simp), List.length_replicate, Nat.add_sub_cancel_left, List.getElem?_map] at h2
    cases hc : caps[j]? with
    | none => rw [hc] at h2; cases h2
    | some ci =>
      rw [hc] at h2
      have hσ : σ[ci]? = some (some v) := by
        have z : (σ[ci]?).join = some v := by simpa using h2
        cases q : σ[ci]? with
        | none => rw [q] at z; cases z
        | some o => rw [q] at z; have z' : o = some v := z; rw [z']
      have hNx : (N.drop own)[j]? = some x := by rw [List.getElem?_drop]; exact h1
      have hX : X.N[ci]? = some x := by
        have e := congrArg (fun l => l[j]?) S.cap
        simp only [List.getElem?_map, hc, hNx, Option.map_some] at e
        exact Option.some.inj e
      have hfr := S.capf x (List.mem_of_getElem? hNx)
      obtain ⟨c, hc1, hc2⟩ := blk_capt S I (s.heap.objs.size + 1) hfr
      obtain ⟨m, hn, hl⟩ := I.loc
      have hk := S.free (x, .free) (PySem.mem_of_lookup hfr) rfl
      have hvis : Vis X.env.scope x := .inr hk
      obtain ⟨u, ru, lk⟩ := hl ci x v hX hσ hvis
      refine ⟨u, ru, ?_⟩
      rcases lk with ⟨z, _⟩ | ⟨_, c', e', z⟩
      · have z' : X.env.scope.names.lookup x = some .local := z
        rcases hk with hk | hk
        · have hk' : X.env.scope.names.lookup x = some .cell := hk
          rw [z'] at hk'; cases hk'
        · have hk' : X.env.scope.names.lookup x = some .free := hk
          rw [z'] at hk'; cases hk'
      · rw [hc1] at e'
        cases e'
        refine .inr ⟨?_, c, hc2, z.keeps k1⟩
        show (compEnvC scope _ _ X.env).kindOf x = _ ∨ (compEnvC scope _ _ X.env).kindOf x = _
        rw [kof, hfr]
        show some (if _ then NameKind.cell else NameKind.free) = _ ∨ some (if _ then NameKind.cell else NameKind.free) = _
        split
        · exact .inl rfl
        · exact .inr rfl
  · rcases blk_look S I _ h with a | ⟨_, a⟩
    · exact ⟨_, (ok.empty _ _ a).1⟩
    · obtain ⟨v, q⟩ := I.cell x c a
      exact ⟨v, q.keeps k1⟩
  · rcases blk_look S I _ h with a | ⟨_, a⟩
    · exact I.hok.fresh (Nat.le_of_succ_le (ok.empty _ _ a).2)
    · exact I.freeC x c a
  · unfold blkStart
    show _ = N.length
    rw [S.len, List.length_append, List.length_replicate, List.length_map]
end
end L2
namespace L2
open PySem PySem.Spec PyProof.Rows

/-- the tests of a comprehension -/
def PTs (X : Cx) (ifs : List Expr) (t : TT) : Prop :=
  ∀ (pins : List (Addr × Obj)) (s : Shared) (σ : St) (H : Hp) (Q : Bool → Hp → Prop), Inv X pins σ H s → t σ H Q →
    wpAny (model X.prog X.w) X.A (forIn ifs true fun c r => if r = true then do let ok ← isTrue c X.env (eval c X.env); pure (ForInStep.yield ok) else pure (ForInStep.yield r)) (TP X pins σ Q) X.xe s
def tTrue : TT := fun _ H Q => Q true H
theorem pts_nil {X : Cx} : PTs X [] tTrue := fun _ _ _ H _ I h => wpAny_tests_nil ⟨H, I, h⟩
theorem pts_one {X : Cx} {c : Expr} {t : TT} (h : PT X c t) : PTs X [c] t := fun pins s σ H Q I q => wpAny_tests_one (h pins s σ H Q I q)

/-- one turn of a comprehension's loop: the draw, the hand-over, the store, the tests, the element, the append; at the end 'fin', behind a turn 'more' -/
def TurnWp (M : Model) (A : Around) (env : Env) (it acc : Value) (tg elt : Expr) (ifs : List Expr) (E : Value → Shared → Prop) (fin more : Shared → Prop) : Shared → Prop :=
  let kept : Shared → Prop := fun u => wpAny M A (eval elt env) (fun x u5 => wpAny M A (call (.builtin "list.append") [acc, x]) (fun _ u6 => more u6) E u5) E u
  let tested : Shared → Prop := fun u => wpAny M A (forIn ifs true fun c r => if r = true then (do let ok ← isTrue c env (eval c env); pure (ForInStep.yield ok)) else pure (ForInStep.yield r)) (fun ok u4 => if ok = true then kept u4 else more u4) E u
  let taken : Value → Shared → Prop := fun v u => wpAny M A (letOwnedTupleGo tg it v) (fun _ u2 => wpAny M A (assign tg env v) (fun _ u3 => tested u3) E u2) E u
  fun u => wpAny M A (pyNext it) (fun o u1 => match o with | none => fin u1 | some v => taken v u1) E u
theorem loop_by {prog : Program} {w : World} {A : Around} {R : Result → Shared → Prop} {s : Shared} {elt tg iter : Expr} {ifs : List Expr} {scope : Scope} {pos : Pos} {it acc : Value} {env : Env} (I : Nat → Shared → Prop) (n : Nat) (start : I n s)
    (turn : ∀ m u, I m u → TurnWp (model prog w) A env it acc tg elt ifs (notedBy (model prog w) A env fun e v => R (.error e) v) (R (.ok .next)) (fun v => ∃ j, j < m ∧ I j v) u) :
    codeAny (model prog w) A (.compLoop (.ListComp elt [⟨tg, iter, ifs, 0⟩] scope pos) 0 it acc env) R s := by
  refine codeAny_loop rfl I (fun m u hu => wpAny_noted (m := compTurn (.ListComp elt [⟨tg, iter, ifs, 0⟩] scope pos) 0 it acc env) ?_) n start
  have go := turn m u hu
  unfold TurnWp at go
  rw [compTurn_list]
  refine wpAny_bind (wpAny_standAt (wpAny_bind (thn go fun o u1 b1 => ?_)))
  match o, b1 with
  | none, b1 => exact wpAny_pure b1
  | some v, b1 =>
    refine wpAny_bind (thn b1 fun _ u2 b2 => wpAny_bind (thn b2 fun _ u3 b3 => wpAny_bind (thn b3 fun ok u4 b4 => ?_)))
    match ok, b4 with
    | false, b4 => exact wpAny_pure ⟨rfl, b4⟩
    | true, b4 => exact wpAny_bind (wpAny_bind (thn b4 fun x u5 b5 => wpAny_bind (thn b5 fun _ u6 b6 => wpAny_pure (wpAny_pure ⟨rfl, b6⟩))))

/-- a comprehension's reading: own names first, then the captured slots; W: the invariant by the turn, a measure, the block's names, the heap, the items so far -/
def CompW (J : It) (g : TG) (tt : TT) (te : TE) (Q : VK) (W : Nat → Nat → St → Hp → List V → Prop) : Prop :=
  ∀ i m σ' H' ys, W i m σ' H' ys →
    (J.stop i H' ∧ ys.length ≤ sizeLine ∧ ∀ p, H' p = none → Q (.ref p) (upd H' p (.lst ys))) ∨
    (J.go i H' ∧ ys.length < sizeLine ∧ ∃ N : St → Hp → List V → Prop, (∀ σ2 H2 zs, N σ2 H2 zs → ∃ m', m' < m ∧ W (i + 1) m' σ2 H2 zs) ∧
      ∀ x H2, J.yld i H' x H2 → g x σ' H2 fun σ3 H3 => tt σ3 H3 fun b H4 => if b = true then te σ3 H4 fun v H5 => N σ3 H5 (ys ++ [v]) else N σ3 H4 ys)
def tComp (wi : TI) (own : Nat) (caps : List Nat) (g : TG) (tt : TT) (te : TE) : TE := fun σ H Q => wi σ H fun J H1 =>
  ∃ W : Nat → Nat → St → Hp → List V → Prop, (∃ m, W 0 m (blkStart own caps σ) H1 []) ∧ CompW J g tt te Q W

section
variable {X : Cx} {tg elt iter : Expr} {ifs : List Expr} {scope : Scope} {pos : Pos} {N : List Str} {own : Nat} {caps : List Nat} {wi : TI} {g : TG} {tt : TT} {te : TE}

theorem comp_run {pins : List (Addr × Obj)} {σ : St} {H2 : Hp} {s2 : Shared} {J : It} {fp : List Addr} {it : Addr} {tn : Nat → Heap → Prop} {Q : VK} {W : Nat → Nat → St → Hp → List V → Prop} {m0 : Nat}
    {E : Value → Shared → Prop} {R : Value → Addr → Result → Shared → Prop} (hc : X.calm = true) (S : BlkScope X.N X.env.scope N own caps scope)
    (hg : ∀ cs C s₀ H₀ ex, PG (blk X N scope cs C s₀ H₀ ex) tg g) (ht : ∀ cs C s₀ H₀ ex, PTs (blk X N scope cs C s₀ H₀ ex) ifs tt) (he : ∀ cs C s₀ H₀ ex, PE (blk X N scope cs C s₀ H₀ ex) elt te)
    (I2 : Inv X pins σ H2 s2) (T : Turn X.prog X.w X.K tg J fp it tn) (st2 : tn 0 s2.heap) (f2 : ∀ b ∈ fp, FpOk X pins H2 b)
    (w0 : W 0 m0 (blkStart own caps σ) H2 []) (turn : CompW J g tt te Q W)
    (hpost : ∀ D C s' H' ys, Inv X pins σ (upd H' D (.lst ys)) s' → FpOk X pins (upd H' D (.lst ys)) C → (∃ m, s'.heap.Ns C m) → Q (.ref D) (upd H' D (.lst ys)) → R (.ref D) C (.ok .next) s') :
    wpAny (model X.prog X.w) X.A (newList []) (fun acc s₃ => wpAny (model X.prog X.w) X.A (newFunctionEnv scope X.env.globals (clOf X.env.cells scope.names []) [] X.env.qual none .none (some X.env)) (fun cenv s₄ =>
      codeAny (model X.prog X.w) X.A (.compStart (.ListComp elt [⟨tg, iter, ifs, 0⟩] scope pos) 0 (.ref it) acc { cenv with scope := relabel scope X.env }) (R acc cenv.locals) s₄) E s₃) E s2 := by
  refine wpAny_newObj_type (newEnv_blk ?_)
  dsimp only
  generalize hh3 : s2.heap.push { cls := .type "list", dict := none, data := .seq ([] : List Value).toArray } = h3
  have hC : h3.objs.size = s2.heap.objs.size + 1 := by rw [← hh3, Heap.size_push]
  have up3 : ∀ b o, s2.heap.get? b = some o → h3.get? b = some o := fun b o e => hh3 ▸ Heap.get?_push_of_some _ e
  have I3 : Inv X pins σ H2 { s2 with heap := h3 } := I2.kept (t' := s2.toks) up3
  have gD : h3.get? s2.heap.objs.size = some { cls := .type "list", data := .seq ([] : List Value).toArray } := hh3 ▸ Heap.get?_push_size _ rfl
  have fD : FpOk X pins H2 s2.heap.objs.size := I2.fpOk (Nat.le_refl _) (I2.hok.fresh (Nat.le_refl _))
  have fplt : ∀ b ∈ fp, b < s2.heap.objs.size := fun b hb => by
    obtain ⟨o, e, _⟩ := T.obj 0 _ st2 b hb
    exact Heap.lt_size e
  have hex : ∀ b ∈ s2.heap.objs.size :: fp, FpOk X pins H2 b ∧ b < ({ s2 with heap := h3 } : Shared).heap.objs.size := fun b hb => by
    show _ ∧ b < h3.objs.size
    rw [hC]
    cases hb with
    | head => exact ⟨fD, Nat.lt_succ_self _⟩
    | tail _ hb => exact ⟨f2 b hb, Nat.lt_succ_of_lt (fplt b hb)⟩
  have IB := inv_blk S I3 hex
  -- the block's context
  generalize hY : blk X N scope (blkCells X scope h3.objs.size) h3.objs.size { s2 with heap := h3 } H2 (s2.heap.objs.size :: fp) = Y at IB
  have yP : Y.prog = X.prog := by rw [← hY]; rfl
  have yW : Y.w = X.w := by rw [← hY]; rfl
  have yK : Y.K = X.K := by rw [← hY]; rfl
  have yc : Y.calm = true := by rw [← hY]; exact hc
  have yA : Y.A = X.A := by rw [← hY]; rfl
  have yx : Y.xe = fun _ _ => False := by rw [← hY]; rfl
  have yL : Y.env.locals = h3.objs.size := by rw [← hY]; rfl
  have yex : Y.ex = s2.heap.objs.size :: fp := by rw [← hY]; rfl
  have yfs : Y.fs = frs X.stack := by rw [← hY]; rfl
  have ypn : Y.pn = [] := by rw [← hY]; rfl
  have yenv : Y.env = compEnvC scope (blkCells X scope h3.objs.size) h3.objs.size X.env := by rw [← hY]; rfl
  have yg : PG Y tg g := by rw [← hY]; exact hg _ _ _ _ _
  have yt : PTs Y ifs tt := by rw [← hY]; exact ht _ _ _ _ _
  have ye : PE Y elt te := by rw [← hY]; exact he _ _ _ _ _
  have yb : ∀ {σ' : St} {H' : Hp} {s' : Shared} {pn : List (Addr × Obj)}, Inv Y pn σ' H' s' → Un (frs X.stack) (s2.heap.objs.size :: fp) H2 H' h3 s'.heap := fun {σ' H' s' pn} J => by
    have b := J.base
    rw [yfs, yex] at b
    have e1 : Y.H₀ = H2 := by rw [← hY]; rfl
    have e2 : Y.s₀.heap = h3 := by rw [← hY]; rfl
    rw [e1, e2] at b
    exact b
  have yos : ∀ {σ' : St} {H' : Hp} {s' : Shared} {pn : List (Addr × Obj)}, Inv Y pn σ' H' s' → s'.os = s2.os := fun {σ' H' s' pn} J => by
    have e : Y.s₀.os = s2.os := by rw [← hY]; rfl
    exact J.os.trans e
  have DL : s2.heap.objs.size ≠ Y.env.locals := by rw [yL, hC]; exact Nat.ne_of_lt (Nat.lt_succ_self _)
  have Dfp : s2.heap.objs.size ∉ fp := fun z => Nat.lt_irrefl _ (fplt _ z)
  have exY : ∀ b ∈ s2.heap.objs.size :: fp, b ∈ Y.ex := fun b hb => by rw [yex]; exact hb
  have fpY : ∀ {pn : List (Addr × Obj)} {H' : Hp}, (∀ p ∈ pn, p.1 ∉ fp) → (∀ b ∈ fp, H' b = none) → ∀ b ∈ fp, FpOk Y pn H' b := fun {pn H'} hp hn b hb => by
    have hb' := exY b (List.mem_cons_of_mem _ hb)
    refine ⟨hn b hb, (IB.ok.exf b hb').1, IB.ok.exfs b hb', .inl hb', (IB.ok.exf b hb').2, fun p hp' z => ?_⟩
    rw [ypn, List.nil_append] at hp'
    exact hp p hp' (z ▸ hb)
  have up4 : ∀ b o, h3.get? b = some o → (blkHeap h3 scope).get? b = some o := fun b o e => pushCells_keeps _ _ b o (Heap.get?_push_of_some _ e)
  have st4 : tn 0 (blkHeap h3 scope) := T.keep 0 s2.heap _ st2 fun b _ o e => up4 b o (up3 b o e)
  have gD4 := up4 _ _ gD
  have loop : codeAny (model X.prog X.w) X.A (.compLoop (.ListComp elt [⟨tg, iter, ifs, 0⟩] scope pos) 0 (.ref it) (.ref s2.heap.objs.size) (compEnvC scope (blkCells X scope h3.objs.size) h3.objs.size X.env)) (R (.ref s2.heap.objs.size) h3.objs.size)
      { s2 with heap := blkHeap h3 scope } := by
    refine loop_by (fun n s' => ∃ i σ' H' ys its cap, Inv Y [] σ' H' s' ∧ tn i s'.heap ∧ (∀ b ∈ fp, H' b = none) ∧ H' s2.heap.objs.size = none ∧
      s'.heap.get? s2.heap.objs.size = some { cls := .type "list", data := .seq (its : List Value).toArray cap } ∧ Vals ys its ∧ W i n σ' H' ys) m0
      ⟨0, _, H2, [], [], _, IB, st4, fun b hb => (f2 b hb).1, fD.1, gD4, .nil, w0⟩ ?_
    rintro n s5 ⟨i, σ5, H5, ys, its, cap, I5, t5, fr5, nD5, gD5, rv5, w5⟩
    unfold TurnWp
    dsimp only
    have pin5 : Inv Y [(s2.heap.objs.size, { cls := .type "list", data := .seq its.toArray cap })] σ5 H5 s5 := I5.pins_of fun p hp => by
      have e := List.mem_singleton.mp hp
      subst e
      exact ⟨gD5, nD5, DL, IB.ok.exfs _ (exY _ List.mem_cons_self), fun v z => by cases z⟩
    have pno : ∀ p ∈ [((s2.heap.objs.size : Addr), ({ cls := .type "list", data := .seq its.toArray cap } : Obj))], p.1 ∉ fp := fun p hp => by
      have e := List.mem_singleton.mp hp
      subst e
      exact Dfp
    have fpo : ∀ {H' : Hp}, (∀ b ∈ fp, H' b = none) → ∀ b ∈ fp, FpOk Y [((s2.heap.objs.size : Addr), ({ cls := .type "list", data := .seq its.toArray cap } : Obj))] H' b := fun hn => fpY pno hn
    rcases turn i n σ5 H5 ys w5 with ⟨stop, hz, qn⟩ | ⟨go, hz, NN, hNN, step⟩
    · rw [← yA]
      refine wpAny_mono (T.done Y yP yW yK yc i _ s5 σ5 H5 (fun _ _ => False) pin5 (fpo fr5) t5 stop) (fun r s6 h6 => ?_) fun _ _ f => f.elim
      obtain ⟨hr, I6⟩ := h6
      subst hr
      have hp6 := I6.pin (s2.heap.objs.size, _) (List.mem_append_right _ (List.mem_singleton.mpr rfl))
      have nD : H2 s2.heap.objs.size = none := fD.1
      have base := yb I6
      have un : Un (frs X.stack) (s2.heap.objs.size :: fp) H2 (upd H5 s2.heap.objs.size (.lst ys)) h3 s6.heap := ⟨base.keep, base.slot, fun b o e n hx => by
          rw [upd_ne (fun z => hx (by rw [z]; exact List.mem_cons_self))]; exact base.free b o e n hx, base.there,
        fun b xs e => by rw [upd_ne (ne_of_none e nD)]; exact base.tups b xs e, fun b o u e => by rw [upd_ne (ne_of_none e nD)]; exact base.frzs b o u e, fun b ps e => by
          obtain ⟨more, q⟩ := base.tbls b ps e
          exact ⟨more, by rw [upd_ne (ne_of_none e nD)]; exact q⟩⟩
      have hok : HOk X.prog X.w (upd H5 s2.heap.objs.size (.lst ys)) s6.heap := fun b u e => by
        have hok6 := I6.hok
        rw [yP, yW] at hok6
        by_cases hb : b = s2.heap.objs.size
        · subst hb
          rw [upd_same] at e
          cases e
          exact ⟨hz, its, cap, rv5, hp6.1⟩
        · rw [upd_ne hb] at e
          exact (hok6 b u e).stay (fun c v _ q => q) (fun c q => by rw [upd_ne (ne_of_none q hp6.2.1)]; exact q) fun c xs q => by rw [upd_ne (ne_of_none q hp6.2.1)]; exact q
      have I7 : Inv X pins σ (upd H5 s2.heap.objs.size (.lst ys)) s6 := I3.call' (yos I6) un hok I6.bare fun b hb => by
        have z := (hex b hb).1
        exact ⟨z.2.2.2.1, z.2.1, z.2.2.2.2.1, z.2.2.2.2.2⟩
      have hCn : H5 h3.objs.size = none := by rw [← yL]; exact I6.free
      have CD : h3.objs.size ≠ s2.heap.objs.size := by rw [hC]; exact Nat.succ_ne_self _
      refine hpost _ _ s6 H5 ys I7 (I3.fpOk (Nat.le_refl _) (by rw [upd_ne CD]; exact hCn)) ?_ (qn _ nD5)
      obtain ⟨m, hn, _⟩ := I6.loc
      rw [yL] at hn
      exact ⟨m, hn⟩
    · rw [← yA]
      have lift : ∀ {α : Type} {t : Sem α} {Q1 Q2 : α → Shared → Prop} {s' : Shared}, wpAny (model X.prog X.w) Y.A t Q1 Y.xe s' → (∀ a s'', Q1 a s'' → Q2 a s'') →
          wpAny (model X.prog X.w) Y.A t Q2 (notedBy (model X.prog X.w) Y.A (compEnvC scope (blkCells X scope h3.objs.size) h3.objs.size X.env) fun e s' => R (.ref s2.heap.objs.size) h3.objs.size (.error e) s') s' := fun h k =>
        wpAny_mono h k fun _ _ f => by rw [yx] at f; exact f.elim
      refine lift (T.item Y yP yW yK yc i _ s5 σ5 H5 Y.xe pin5 (fpo fr5) t5 go) fun r s6 h6 => ?_
      obtain ⟨u, hr, h6⟩ := h6
      subst hr
      refine lift h6 fun _ s7 h7 => ?_
      obtain ⟨x, H7, I7, r7, y7, t7, fr7⟩ := h7
      have I7' := I7.pinned (fpo fr7) (T.obj _ _ t7)
      have ha := yg _ s7 σ5 H7 x u _ I7' r7 (step x H7 y7)
      rw [yP, yW, yenv] at ha
      refine lift ha fun _ s8 h8 => ?_
      obtain ⟨σ8, H8, I8, q8⟩ := h8
      have hb := yt _ s8 σ8 H8 _ I8 q8
      rw [yP, yW, yenv] at hb
      refine lift hb fun ok s9 h9 => ?_
      obtain ⟨H9, I9, q9⟩ := h9
      -- what the pins tell
      have after : ∀ {σ' : St} {H' : Hp} {s' : Shared}, Inv Y ([((s2.heap.objs.size : Addr), ({ cls := .type "list", data := .seq its.toArray cap } : Obj))] ++ pinsAt fp s7.heap) σ' H' s' →
          Inv Y [] σ' H' s' ∧ tn (i + 1) s'.heap ∧ (∀ b ∈ fp, H' b = none) ∧ H' s2.heap.objs.size = none ∧ s'.heap.get? s2.heap.objs.size = some { cls := .type "list", data := .seq its.toArray cap } := fun {σ' H' s'} J => by
        have pD := J.pin (s2.heap.objs.size, _) (List.mem_append_right _ (List.mem_append_left _ (List.mem_singleton.mpr rfl)))
        refine ⟨J.pins_of (fun p hp => by cases hp), T.keep _ _ _ t7 fun b hb o e => (J.pin (b, o) (List.mem_append_right _ (List.mem_append_right _ (mem_pinsAt hb e)))).1, fun b hb => ?_, pD.2.1, pD.1⟩
        obtain ⟨o, e, d⟩ := T.obj _ _ t7 b hb
        exact (J.pin (b, o) (List.mem_append_right _ (List.mem_append_right _ (mem_pinsAt hb e)))).2.1
      cases ok with
      | false =>
        rw [if_neg (by decide)] at q9
        rw [if_neg (by decide)]
        obtain ⟨m', hm, w9⟩ := hNN _ _ _ q9
        obtain ⟨a1, a2, a3, a4, a5⟩ := after I9
        exact ⟨m', hm, i + 1, σ8, H9, ys, its, cap, a1, a2, a3, a4, a5, rv5, w9⟩
      | true =>
        rw [if_pos rfl] at q9
        rw [if_pos rfl]
        have hd := ye _ s9 σ8 H9 _ I9 q9
        rw [yP, yW, yenv] at hd
        refine lift hd fun v s10 h10 => ?_
        obtain ⟨y, H10, I10, r10, n10⟩ := h10
        obtain ⟨m', hm, w10⟩ := hNN _ _ _ n10
        obtain ⟨a1, a2, a3, a4, a5⟩ := after I10
        have hlen := rv5.length
        refine append_at (hsz := by rw [List.size_toArray]; omega) a5 fun h' sb g' => ?_
        have hDx := exY _ (List.mem_cons_self (a := s2.heap.objs.size) (l := fp))
        have I11 : Inv Y [] σ8 H10 { s10 with heap := h' } := a1.turned (t' := s10.toks) (it := s2.heap.objs.size) (fun b o hb e => (sb.2 b hb).trans e) a4 DL (.inl hDx) (IB.ok.exf _ hDx).2 (by rw [ypn]; intro p hp; cases hp)
        refine ⟨m', hm, i + 1, σ8, H10, ys ++ [y], its ++ [v], cap + 1, I11, T.keep _ _ _ a2 fun b hb o e => (sb.2 b (fun z => Dfp (z ▸ hb))).trans e, a3, a4, ?_, rv5.snoc r10, w10⟩
        rw [g', List.push_toArray]
  exact codeAny_compStart_list loop (T.self X.A 0 _ _ _ st4 loop)

theorem comp_clos (S : BlkScope X.N X.env.scope N own caps scope) {pins : List (Addr × Obj)} {σ : St} {H : Hp} {s : Shared} (I : Inv X pins σ H s) : closureFor scope X.env = pure (clOf X.env.cells scope.names []) :=
  closureFor_eq fun x hx hk => I.ok.has x.1 (S.free x hx hk)

theorem pe_comp (hc : X.calm = true) (hi : PI X tg iter wi) (S : BlkScope X.N X.env.scope N own caps scope)
    (hg : ∀ cs C s₀ H₀ ex, PG (blk X N scope cs C s₀ H₀ ex) tg g) (ht : ∀ cs C s₀ H₀ ex, PTs (blk X N scope cs C s₀ H₀ ex) ifs tt) (he : ∀ cs C s₀ H₀ ex, PE (blk X N scope cs C s₀ H₀ ex) elt te)
    (hs : ∀ x, foldedSetIterable iter X.env x = pure x := by intro _; rfl) : PE X (.ListComp elt [⟨tg, iter, ifs, 0⟩] scope pos) (tComp wi own caps g tt te) := by
  intro pins s σ H Q I h
  rw [eval_ListComp]
  refine wpAny_comprehension_free (use := none) rfl hs (comp_clos S I) S.kind (fun x hx hl => lookup_of_mem S.ndn (by rw [← hl]; exact hx)) ?_
  refine thn (hi pins s σ H _ I h) fun v s1 h1 => thn h1 fun itv s2 h2 => ?_
  obtain ⟨it, fp, tn, J, H2, e, I2, T, st2, f2, W, ⟨m0, w0⟩, turn⟩ := h2
  subst e
  refine comp_run hc S hg ht he I2 T st2 f2 w0 turn fun D C s' H' ys I' F' hn q => ?_
  obtain ⟨m, hn⟩ := hn
  refine ⟨m, hn, fun h' sb => ⟨.ref D, _, I'.turned (t' := s'.toks) (fun b o hb e => (sb.2 b hb).trans e) F'.1 F'.2.1 F'.2.2.2.1 F'.2.2.2.2.1 F'.2.2.2.2.2, rfl, q⟩⟩

theorem ps_setComp {i : Nat} {x : Str} {pos' spos : Pos} (hc : X.calm = true) (hN : X.N.Nodup) (hix : X.N[i]? = some x) (hx : X.env.scope.names.lookup x = some .local) (hi : PI X tg iter wi) (S : BlkScope X.N X.env.scope N own caps scope)
    (hg : ∀ cs C s₀ H₀ ex, PG (blk X N scope cs C s₀ H₀ ex) tg g) (ht : ∀ cs C s₀ H₀ ex, PTs (blk X N scope cs C s₀ H₀ ex) ifs tt) (he : ∀ cs C s₀ H₀ ex, PE (blk X N scope cs C s₀ H₀ ex) elt te)
    (hsw : swapsWith (.ListComp elt [⟨tg, iter, ifs, 0⟩] scope pos) (some (.Name x pos')) spos.line X.env = pure true := by rfl)
    (hs : ∀ x, foldedSetIterable iter X.env x = pure x := by intro _; rfl) : PS X (.Assign [.Name x pos'] (.ListComp elt [⟨tg, iter, ifs, 0⟩] scope pos) spos) (tAsg (tComp wi own caps g tt te) (gName i)) := by
  intro pins s σ H D I h
  rw [exec_Assign_Name_used _ _ _ _ hsw]; refine wpAny_bind (wpAny_standAt (wpAny_bind ?_))
  show wpAny _ X.A (do let _ ← comprehension (.ListComp elt [⟨tg, iter, ifs, 0⟩] scope pos) scope X.env _ (newList []) false (eval iter X.env) (some (assign (.Name x pos') X.env))) _ _ s
  refine wpAny_bind (wpAny_mono (wpAny_comprehension_free (use := some (assign (.Name x pos') X.env)) (Q := fun _ s' => SP X pins D .next s') rfl hs (comp_clos S I) S.kind (fun x hx hl => lookup_of_mem S.ndn (by rw [← hl]; exact hx)) ?_) (fun _ s' hq => wpAny_pure (wpAny_pure hq)) fun _ _ e => e)
  refine thn (hi pins s σ H _ I h) fun v s1 h1 => thn h1 fun itv s2 h2 => ?_
  obtain ⟨it, fp, tn, J, H2, e, I2, T, st2, f2, W, ⟨m0, w0⟩, turn⟩ := h2
  subst e
  refine comp_run hc S hg ht he I2 T st2 f2 w0 turn fun D' C s' H' ys I' F' hn q => ?_
  obtain ⟨m, hn⟩ := hn
  refine wpAny_assign_Name (store_ok2 (v := .ref D') I' hN hix (.inl hx) rfl (fun s'' I'' h'' => ?_) (.inr hx))
  obtain ⟨a, sb, ha⟩ := h''
  have hCa : C ≠ a := by
    rcases ha with ha | ha
    · rw [ha]; exact F'.2.1
    · exact (F'.2.2.2.2.1 x a ha).symm
  exact ⟨m, hn.sameBut sb hCa, fun h' sb' => ⟨_, _, I''.turned (t' := s''.toks) (fun b o hb e => (sb'.2 b hb).trans e) F'.1 F'.2.1 F'.2.2.2.1 F'.2.2.2.2.1 F'.2.2.2.2.2, q⟩⟩
end
end L2
namespace L2
open PySem PySem.Spec PyProof.Rows
set_option maxRecDepth 100000
/-! ### iterators of lists and tuples, and zip over them: by walking the builtins -/
def itKind (b : Bool) : String := match b with
  | true => "list_iterator"
  | false => "tuple_iterator"
def sqKind (b : Bool) : String := match b with
  | true => "list"
  | false => "tuple"
/-- an iterator's record -/
abbrev itRec (b : Bool) (a : Addr) (i : Nat) : Obj := { cls := .type (itKind b), data := .fields #[.ref a, .int i 0] }
def itOf (b : Bool) (h : Heap) (it a : Addr) (i : Nat) : Prop := h.get? it = some (itRec b a i)
def isSq (b : Bool) (h : Heap) (a : Addr) (its : Array Value) : Prop := ∃ o n, h.get? a = some o ∧ o.cls = .type (sqKind b) ∧ o.data = .seq its n


section
variable (it a : Addr) (i : Nat) (its : Array Value) (o : Obj) (n : Nat) (ed : o.data = .seq its n)
include ed
theorem step_tup (x : Value) (hx : its[i]? = some x) :
    Meets (Builtin.«tuple_iterator.__next__» ⟨[.ref it], []⟩) (fun _ R s => (s.heap.get? it = some (itRec false a i) ∧ s.heap.get? a = some o) ∧
      R (.ok (.ret x)) { s with heap := s.heap.update it (Obj.mapFields fun vs => vs.setIfInBounds 1 (rawInt ((i : Int) + 1))) }) :=
  .of_wp fun prog w A R s hyp => by
    obtain ⟨h, g, dr, tk, os⟩ := s
    obtain ⟨⟨e1, e2⟩, fin⟩ := hyp
    have hx' : its[((i : Nat) : Int).toNat]? = some x := by simpa using hx
    wp_walk
    rw [ed]
    wp_walk
    rw [hx']
    wp_walk
    exact ⟨_, rfl, fin⟩
theorem step_lst (x : Value) (hx : its[i]? = some x) :
    Meets (Builtin.«list_iterator.__next__» ⟨[.ref it], []⟩) (fun _ R s => (s.heap.get? it = some (itRec true a i) ∧ s.heap.get? a = some o) ∧
      R (.ok (.ret x)) { s with heap := s.heap.update it (Obj.mapFields fun vs => vs.setIfInBounds 1 (rawInt ((i : Int) + 1))) }) :=
  .of_wp fun prog w A R s hyp => by
    obtain ⟨h, g, dr, tk, os⟩ := s
    obtain ⟨⟨e1, e2⟩, fin⟩ := hyp
    have hx' : its[((i : Nat) : Int).toNat]? = some x := by simpa using hx
    wp_walk
    rw [ed]
    wp_walk
    rw [hx']
    wp_walk
    exact ⟨_, rfl, fin⟩
theorem stop_tup (hx : its[i]? = none) :
    Meets (Builtin.«tuple_iterator.__next__» ⟨[.ref it], []⟩) (fun A R s => A.handled = none ∧ (s.heap.get? it = some (itRec false a i) ∧ s.heap.get? a = some o) ∧
      ∀ h' e, (∀ b u, b ≠ it → s.heap.get? b = some u → h'.get? b = some u) → (∃ u, h'.get? e = some u ∧ u.cls = .type "StopIteration") → R (.error (.ref e)) { s with heap := h' }) :=
  .of_wp fun prog w A R s hyp => by
    obtain ⟨h, g, dr, tk, os⟩ := s
    obtain ⟨hh, ⟨e1, e2⟩, fin⟩ := hyp
    have hh' : A.in1.handled = none := hh
    have hx' : its[((i : Nat) : Int).toNat]? = none := by simpa using hx
    wp_walk
    rw [ed]
    wp_walk
    rw [hx']
    wp_walk
    unfold raiseNew
    wp_walk
    refine fin _ _ (fun b u hb q => ?_) ⟨_, Heap.get?_push_size _ rfl, rfl⟩
    exact Heap.get?_push_of_some _ (Heap.get?_push_of_some _ ((Heap.get?_update_other _ _ (Ne.symm hb)).trans q))
theorem stop_lst (hx : its[i]? = none) :
    Meets (Builtin.«list_iterator.__next__» ⟨[.ref it], []⟩) (fun A R s => A.handled = none ∧ (s.heap.get? it = some (itRec true a i) ∧ s.heap.get? a = some o) ∧
      ∀ h' e, (∀ b u, b ≠ it → s.heap.get? b = some u → h'.get? b = some u) → (∃ u, h'.get? e = some u ∧ u.cls = .type "StopIteration") → R (.error (.ref e)) { s with heap := h' }) :=
  .of_wp fun prog w A R s hyp => by
    obtain ⟨h, g, dr, tk, os⟩ := s
    obtain ⟨hh, ⟨e1, e2⟩, fin⟩ := hyp
    have hh' : A.in1.handled = none := hh
    have hx' : its[((i : Nat) : Int).toNat]? = none := by simpa using hx
    wp_walk
    rw [ed]
    wp_walk
    rw [hx']
    wp_walk
    unfold raiseNew
    wp_walk
    refine fin _ _ (fun b u hb q => ?_) ⟨_, Heap.get?_push_size _ rfl, rfl⟩
    exact Heap.get?_push_of_some _ (Heap.get?_push_of_some _ ((Heap.get?_update_other _ _ (Ne.symm hb)).trans q))
end
section
variable {prog : Program} {w : World} {A : Around} {E : Value → Shared → Prop} {s : Shared} {b : Bool} {it a : Addr} {i : Nat} {its : Array Value}
theorem itOf.moved (h : Heap) (e : itOf b h it a i) : itOf b (h.update it (Obj.mapFields fun vs => vs.setIfInBounds 1 (rawInt ((i : Int) + 1)))) it a (i + 1) := Heap.get?_update_self _ e rfl
theorem sq_next {x : Value} {Q : Value → Shared → Prop} (e1 : itOf b s.heap it a i) (e2 : isSq b s.heap a its) (hx : its[i]? = some x)
    (q : ∀ h', itOf b h' it a (i + 1) → Heap.SameBut it s.heap h' → Q x { s with heap := h' }) : wpAny (model prog w) A (Builtin.SmallTypes.nextOf (.ref it)) Q E s := by
  obtain ⟨o, n, eo, ec, ed⟩ := e2
  cases b <;> unfold Builtin.SmallTypes.nextOf
  · exact wpAny_bind (wpAny_callSpecial?_slot (T := "tuple_iterator") ⟨_, e1, rfl⟩ F.slot_tuple_iterator_next (call_meets F.slot_tuple_iterator_next ⟨_, e1, rfl⟩ F.entry_tuple_iterator_next (F.args_tuple_iterator_next_1 _) (step_tup it a i its o n ed x hx)
      ⟨⟨e1, eo⟩, wpAny_pure (q _ (itOf.moved _ e1) (Heap.SameBut.update ..))⟩))
  · exact wpAny_bind (wpAny_callSpecial?_slot (T := "list_iterator") ⟨_, e1, rfl⟩ slot_listiter_next (call_meets slot_listiter_next ⟨_, e1, rfl⟩ entry_listiter_next (args_listiter_next _) (step_lst it a i its o n ed x hx)
      ⟨⟨e1, eo⟩, wpAny_pure (q _ (itOf.moved _ e1) (Heap.SameBut.update ..))⟩))
theorem sq_stop {Q : Value → Shared → Prop} (hh : A.handled = none) (e1 : itOf b s.heap it a i) (e2 : isSq b s.heap a its) (hx : its[i]? = none)
    (q : ∀ h' e, Heap.ExtBut it s.heap h' → (∃ u, h'.get? e = some u ∧ u.cls = .type "StopIteration") → E (.ref e) { s with heap := h' }) : wpAny (model prog w) A (Builtin.SmallTypes.nextOf (.ref it)) Q E s := by
  obtain ⟨o, n, eo, ec, ed⟩ := e2
  cases b <;> unfold Builtin.SmallTypes.nextOf
  · exact wpAny_bind (wpAny_callSpecial?_slot (T := "tuple_iterator") ⟨_, e1, rfl⟩ F.slot_tuple_iterator_next (call_meets F.slot_tuple_iterator_next ⟨_, e1, rfl⟩ F.entry_tuple_iterator_next (F.args_tuple_iterator_next_1 _) (stop_tup it a i its o n ed hx)
      ⟨hh, ⟨e1, eo⟩, fun h' e k z => q h' e (fun c u hc y => k c u hc y) z⟩))
  · exact wpAny_bind (wpAny_callSpecial?_slot (T := "list_iterator") ⟨_, e1, rfl⟩ slot_listiter_next (call_meets slot_listiter_next ⟨_, e1, rfl⟩ entry_listiter_next (args_listiter_next _) (stop_lst it a i its o n ed hx)
      ⟨hh, ⟨e1, eo⟩, fun h' e k z => q h' e (fun c u hc y => k c u hc y) z⟩))
end
/-- the draws of a list's or a tuple's iterator -/
theorem draws_sq {prog : Program} {w : World} {A : Around} (b : Bool) (hh : A.handled = none) (it l : Addr) (hne : l ≠ it) (items : Array Value) :
    Draws prog w A it [it, l] items.size (fun i v => items[i]? = some v) (fun i h => itOf b h it l i ∧ isSq b h l items) := by
  refine ⟨fun i h st => ⟨_, st.1⟩, fun i h h' st k => ⟨k it (by simp) _ st.1, ?_⟩, fun i s Q E hi st q => ?_, fun s Q E st q => sq_stop hh st.1 st.2 (by simp) q⟩
  · obtain ⟨o, n, eo, r⟩ := st.2
    exact ⟨o, n, k l (by simp) o eo, r⟩
  · have hx : items[i]? = some items[i] := by simp [hi]
    refine sq_next st.1 st.2 hx fun h' e1 sb => q _ h' s.toks hx ⟨e1, ?_⟩ sb
    obtain ⟨o, n, eo, r⟩ := st.2
    exact ⟨o, n, (sb.2 l hne).trans eo, r⟩
structure ZipSep (z TI TO i1 i2 : Addr) (fp1 fp2 : List Addr) : Prop where
  dTz : TI ≠ z
  dOz : TO ≠ z
  d1z : i1 ≠ z
  d2z : i2 ≠ z
  dTO : TI ≠ TO
  dT1 : TI ≠ i1
  dT2 : TI ≠ i2
  dO1 : TO ≠ i1
  dO2 : TO ≠ i2
  d12 : i1 ≠ i2
  fz : z ∉ fp1 ∧ z ∉ fp2
  fO : TO ∉ fp1 ∧ TO ∉ fp2
  f2 : i2 ∉ fp1
  f1 : i1 ∉ fp2
section
variable {prog : Program} {w : World} {A : Around} {E : Value → Shared → Prop} {z TI TO i1 i2 : Addr} {fp1 fp2 : List Addr} {n1 n2 k : Nat} {P1 P2 : Nat → Value → Prop} {S1 S2 : Nat → Heap → Prop} {a b : Value}
theorem Draws.but {it : Addr} {fp : List Addr} {n : Nat} {P : Nat → Value → Prop} {St : Nat → Heap → Prop} (D : PySem.Draws prog w A it fp n P St) {c : Addr} {h h' : Heap} {k : Nat} (x : St k h) (hc : c ∉ fp) (sb : Heap.SameBut c h h') : St k h' :=
  D.frame _ _ _ x fun b hb o e => (sb.2 b fun z => hc (z ▸ hb)).trans e
/-- what is left of a heap that changed at the zip's own objects -/
def ZKeep (z TO i1 i2 : Addr) (h h' : Heap) : Prop := ∀ c o, c ≠ z → c ≠ TO → c ≠ i1 → c ≠ i2 → h.get? c = some o → h'.get? c = some o
set_option maxHeartbeats 2000000 in
theorem zip_go {s : Shared} {Q : Value → Shared → Prop} (D1 : PySem.Draws prog w A i1 fp1 n1 P1 S1) (D2 : PySem.Draws prog w A i2 fp2 n2 P2 S2) (D : ZipSep z TI TO i1 i2 fp1 fp2)
    (hz : IsZip s.heap z TI TO .none) (hT : IsPair s.heap TI (.ref i1) (.ref i2)) (hO : IsPair s.heap TO a b) (h1 : S1 k s.heap) (h2 : S2 k s.heap) (l1 : k < n1) (l2 : k < n2)
    (q : ∀ x y h' t, P1 k x → P2 k y → IsZip h' z TI TO (rawInt s.heap.objs.size) → IsPair h' TO x y → S1 (k + 1) h' → S2 (k + 1) h' → IsPair h' s.heap.objs.size x y → h'.objs.size = s.heap.objs.size + 1 → ZKeep z TO i1 i2 s.heap h' →
      Q (.ref s.heap.objs.size) { s with heap := h', toks := t }) : wpAny (model prog w) A (Builtin.«zip.__next__» ⟨[.ref z], []⟩) (fun fin s' => ∃ v, fin = .done (.ret v) ∧ Q v s') E s := by
  obtain ⟨h, g, dr, tk, os⟩ := s
  have hz' : h.get? z = some _ := hz
  have hT' : h.get? TI = some _ := hT
  wp_walk using wpAny_onRaise, D1.item k _ _ _ l1
  · exact Draws.but D1 h1 D.fz.1 (Heap.SameBut.update ..)
  intro x ha ta p1 sa ka
  replace ka : Heap.SameBut i1 (h.update z _) ha := ka
  have zz := Heap.SameBut.update h z (Obj.mapFields fun vs => vs.setIfInBounds 0 Value.ellipsis)
  have hOa : ha.get? TO = some _ := ((ka.2 TO D.dO1).trans (zz.2 TO D.dOz)).trans hO
  have tt := Heap.SameBut.update ha TO (Obj.mapSeq fun vs => vs.setIfInBounds 0 x)
  wp_walk using wpAny_onRaise, wpAny_updateSeq hOa rfl, D2.item k _ _ _ l2
  all_goals try exact Draws.but D2 (Draws.but D2 (Draws.but D2 h2 D.fz.2 zz) D.f1 ka) D.fO.2 tt
  intro y hb tb p2 sb kb
  replace kb : Heap.SameBut i2 (ha.update TO _) hb := kb
  have hOb : hb.get? TO = some { cls := .type "tuple", data := .seq #[x, b] } := by
    rw [kb.2 TO D.dO2, Heap.get?_update_self _ hOa rfl]
    simp [Obj.mapSeq]
  have hzb : hb.get? z = some { cls := .type "zip", dict := none, data := .fields #[.ellipsis, .bool false, .bool false, .ref TI, .ref TO], slots := #[] } := by
    rw [kb.2 z D.d2z.symm, tt.2 z D.dOz.symm, ka.2 z D.d1z.symm, Heap.get?_update_self _ hz' rfl]
    simp [Obj.mapFields]
  have nz : TO ≠ z := D.dOz
  wp_walk using wpAny_updateSeq hOb rfl
  refine ⟨_, rfl, ?_⟩
  dsimp only
  have sz : hb.objs.size = h.objs.size := by rw [kb.1, tt.1, ka.1, zz.1]
  have uu := Heap.SameBut.update hb TO (Obj.mapSeq fun vs => vs.setIfInBounds (0 + 1) y)
  have hOc : (hb.update TO (Obj.mapSeq fun vs => vs.setIfInBounds (0 + 1) y)).get? TO = some { cls := .type "tuple", data := .seq #[x, y] } := by
    rw [Heap.get?_update_self _ hOb rfl]
    simp [Obj.mapSeq]
  have ex : (#[x, b].setIfInBounds (0 + 1) y).toList.toArray = #[x, y] := by simp
  rw [ex]
  generalize hb.update TO (Obj.mapSeq fun vs => vs.setIfInBounds (0 + 1) y) = hc at uu hOc ⊢
  have szc : hc.objs.size = h.objs.size := uu.1.trans sz
  have new := Heap.get?_push_size hc (o := { cls := .type "tuple", data := .seq #[x, y] }) rfl
  have szp := Heap.size_push hc { cls := .type "tuple", data := .seq #[x, y] }
  have old : ∀ c o, hc.get? c = some o → (hc.push { cls := .type "tuple", data := .seq #[x, y] }).get? c = some o := fun c o e => Heap.get?_push_of_some _ e
  rw [szc] at new szp ⊢
  generalize hc.push { cls := .type "tuple", data := .seq #[x, y] } = hp at new szp old ⊢
  have hzp := old z _ ((uu.2 z D.dOz.symm).trans hzb)
  have v1 := Heap.SameBut.update hp z (Obj.mapFields fun vs => vs.setIfInBounds 0 (rawInt h.objs.size))
  have v2 := Heap.SameBut.update (hp.update z (Obj.mapFields fun vs => vs.setIfInBounds 0 (rawInt h.objs.size))) z (Obj.mapFields fun vs => vs.setIfInBounds 1 (Value.bool false))
  have hzF : ((hp.update z (Obj.mapFields fun vs => vs.setIfInBounds 0 (rawInt h.objs.size))).update z (Obj.mapFields fun vs => vs.setIfInBounds 1 (Value.bool false))).get? z = some { cls := .type "zip", dict := none, data := .fields #[rawInt h.objs.size, .bool false, .bool false, .ref TI, .ref TO], slots := #[] } := by
    rw [Heap.get?_update_self _ (Heap.get?_update_self _ hzp rfl) rfl]
    simp [Obj.mapFields]
  have fwd : ∀ c o, c ≠ z → hc.get? c = some o → ((hp.update z (Obj.mapFields fun vs => vs.setIfInBounds 0 (rawInt h.objs.size))).update z (Obj.mapFields fun vs => vs.setIfInBounds 1 (Value.bool false))).get? c = some o := fun c o ne e => ((v2.2 c ne).trans (v1.2 c ne)).trans (old c o e)
  have szF := (v2.1.trans v1.1).trans szp
  have newF := ((v2.2 h.objs.size (Nat.ne_of_gt (Heap.lt_size hz'))).trans (v1.2 h.objs.size (Nat.ne_of_gt (Heap.lt_size hz')))).trans new
  generalize (hp.update z (Obj.mapFields fun vs => vs.setIfInBounds 0 (rawInt h.objs.size))).update z (Obj.mapFields fun vs => vs.setIfInBounds 1 (Value.bool false)) = hF at hzF fwd szF newF ⊢
  refine q x y hF tb p1 p2 hzF (fwd TO _ D.dOz hOc) (D1.frame _ _ _ (Draws.but D1 (Draws.but D1 (Draws.but D1 sa D.fO.1 tt) D.f2 kb) D.fO.1 uu) fun c hm o e => fwd c o (fun j => D.fz.1 (j ▸ hm)) e)
    (D2.frame _ _ _ (Draws.but D2 sb D.fO.2 uu) fun c hm o e => fwd c o (fun j => D.fz.2 (j ▸ hm)) e) newF szF fun c o n1 n2 n3 n4 e => fwd c o n1 ?_
  rw [uu.2 c n2, kb.2 c n4, tt.2 c n2, ka.2 c n3, zz.2 c n1]
  exact e
end
section
variable {prog : Program} {w : World} {A : Around} {E : Value → Shared → Prop} {z TI TO i1 i2 : Addr} {fp1 fp2 : List Addr} {n1 n2 k : Nat} {P1 P2 : Nat → Value → Prop} {S1 S2 : Nat → Heap → Prop} {a b : Value}
set_option maxHeartbeats 2000000 in
theorem zip_end {s : Shared} {Q : Fin → Shared → Prop} (D1 : PySem.Draws prog w A i1 fp1 n1 P1 S1) (D2 : PySem.Draws prog w A i2 fp2 n2 P2 S2) (D : ZipSep z TI TO i1 i2 fp1 fp2)
    (hz : IsZip s.heap z TI TO .none) (hT : IsPair s.heap TI (.ref i1) (.ref i2)) (hO : IsPair s.heap TO a b) (h1 : S1 k s.heap) (h2 : S2 k s.heap) (hend : k = n1 ∨ (k < n1 ∧ k = n2))
    (q : ∀ h' e t, ZKeep z TO i1 i2 s.heap h' → (∃ o, h'.get? e = some o ∧ o.cls = .type "StopIteration") → E (.ref e) { s with heap := h', toks := t }) : wpAny (model prog w) A (Builtin.«zip.__next__» ⟨[.ref z], []⟩) Q E s := by
  obtain ⟨h, g, dr, tk, os⟩ := s
  have hz' : h.get? z = some _ := hz
  have hT' : h.get? TI = some _ := hT
  have zz := Heap.SameBut.update h z (Obj.mapFields fun vs => vs.setIfInBounds 0 Value.ellipsis)
  have hzz : (h.update z (Obj.mapFields fun vs => vs.setIfInBounds 0 Value.ellipsis)).get? z = some { cls := .type "zip", dict := none, data := .fields #[.ellipsis, .bool false, .bool false, .ref TI, .ref TO], slots := #[] } := by
    rw [Heap.get?_update_self _ hz' rfl]
    simp [Obj.mapFields]
  rcases hend with rfl | ⟨l1, rfl⟩
  · wp_walk using wpAny_onRaise, D1.done
    all_goals try exact Draws.but D1 h1 D.fz.1 zz
    intro hx e kx ⟨oe, xe, xc⟩
    have hzx : hx.get? z = some _ := kx z _ D.d1z.symm hzz
    have nez : e ≠ z := fun y => by
      subst y
      rw [hzx] at xe
      cases xe
      simp at xc
    wp_walk
    have vv := Heap.SameBut.update hx z (Obj.mapFields fun vs => vs.setIfInBounds 0 Value.none)
    exact q _ e _ (fun c o m1 m2 m3 m4 y => (vv.2 c m1).trans (kx c o m3 ((zz.2 c m1).trans y))) ⟨oe, (vv.2 e nez).trans xe, xc⟩
  · wp_walk using wpAny_onRaise, D1.item k _ _ _ l1
    all_goals try exact Draws.but D1 h1 D.fz.1 zz
    intro x ha ta p1 sa ka
    replace ka : Heap.SameBut i1 (h.update z _) ha := ka
    have hOa : ha.get? TO = some _ := ((ka.2 TO D.dO1).trans (zz.2 TO D.dOz)).trans hO
    have tt := Heap.SameBut.update ha TO (Obj.mapSeq fun vs => vs.setIfInBounds 0 x)
    wp_walk using wpAny_onRaise, wpAny_updateSeq hOa rfl, D2.done
    all_goals try exact Draws.but D2 (Draws.but D2 (Draws.but D2 h2 D.fz.2 zz) D.f1 ka) D.fO.2 tt
    intro hx e kx ⟨oe, xe, xc⟩
    replace kx : Heap.ExtBut i2 (ha.update TO _) hx := kx
    have hzx : hx.get? z = some _ := kx z _ D.d2z.symm ((tt.2 z D.dOz.symm).trans ((ka.2 z D.d1z.symm).trans hzz))
    have nez : e ≠ z := fun y => by
      subst y
      rw [hzx] at xe
      cases xe
      simp at xc
    wp_walk
    have vv := Heap.SameBut.update hx z (Obj.mapFields fun vs => vs.setIfInBounds 0 Value.none)
    exact q _ e _ (fun c o m1 m2 m3 m4 y => (vv.2 c m1).trans (kx c o m4 ((tt.2 c m2).trans ((ka.2 c m3).trans ((zz.2 c m1).trans y))))) ⟨oe, (vv.2 e nez).trans xe, xc⟩
end
/-! ### a list (true) or a tuple (false) that is walked -/
def Sq (b : Bool) (K : PySem.W.Frag) (H : Hp) (a : Addr) (xs : List V) : Prop := match b with
  | true => SqL K H a xs
  | false => SqT K H a xs
theorem Inv.sq {X : Cx} {pins : List (Addr × Obj)} {σ : St} {H : Hp} {s : Shared} {b : Bool} {a : Addr} {xs : List V} (I : Inv X pins σ H s) (h : Sq b X.K H a xs) : ∃ its : List Value, Vals xs its ∧ isSq b s.heap a its.toArray ∧ xs.length ≤ sizeLine := by
  cases b with
  | true =>
    obtain ⟨its, rv, p, hz⟩ := I.list h
    obtain ⟨o, eo, ec, n, ed⟩ := p.isList
    exact ⟨its, rv, ⟨o, n, eo, ec, ed⟩, hz⟩
  | false =>
    obtain ⟨its, rv, ⟨o, eo, ec, n, ed⟩, hz⟩ := I.tuple h
    exact ⟨its, rv, ⟨o, n, eo, ec, ed⟩, hz⟩
theorem Inv.sq_inj {X : Cx} {pins : List (Addr × Obj)} {σ : St} {H : Hp} {s : Shared} {b : Bool} {a : Addr} {xs ys : List V} (I : Inv X pins σ H s) (h : Sq b X.K H a xs) (h' : Sq b X.K H a ys) : xs = ys := by
  cases b with
  | true => exact I.list_inj h h'
  | false => exact I.tuple_inj h h'
theorem itOf.up {b : Bool} {h h' : Heap} {it a : Addr} {i : Nat} (x : itOf b h it a i) (k : ∀ o, h.get? it = some o → h'.get? it = some o) : itOf b h' it a i := k _ x
theorem itOf.obj {b : Bool} {h : Heap} {it a : Addr} {i : Nat} (x : itOf b h it a i) : ∃ o, h.get? it = some o ∧ ∀ v, o.data ≠ .cell v := ⟨_, x, fun v z => by cases z⟩
theorem isSq.obj {b : Bool} {h : Heap} {a : Addr} {its : Array Value} (x : isSq b h a its) : ∃ o, h.get? a = some o := let ⟨o, _, e, _⟩ := x; ⟨o, e⟩
/-! ### several records have turned; an untracked object is tracked -/
section
variable {X : Cx} {pins : List (Addr × Obj)} {σ : St} {H : Hp} {s : Shared} {h' : Heap}
theorem Inv.turnedL {t' : Nat} {ch : List Addr} (I : Inv X pins σ H s) (k : ∀ b o, b ∉ ch → s.heap.get? b = some o → h'.get? b = some o) (hf : ∀ b ∈ ch, FpOk X pins H b) : Inv X pins σ H { s with heap := h', toks := t' } := by
  have nit : ∀ b u, H b = some u → b ∉ ch := fun b u e z => by rw [(hf b z).1] at e; cases e
  refine I.step (g' := s.gens) (d' := s.drawn) (ch := ch) (fun b hb => ⟨(hf b hb).2.2.2.1, (hf b hb).2.1, (hf b hb).2.2.2.2.1, (hf b hb).2.2.2.2.2⟩) (fun b o _ _ hc e _ => k b o hc e) (fun b o _ _ hc e _ => ⟨o.slots, k b o hc e⟩) (fun _ _ _ _ n => n)
    (fun b o hc e => ⟨o, k b o hc e⟩) (fun _ _ e => e) (fun _ _ _ e => e) (fun b ps e => ⟨#[], by rw [e]; simp⟩) (fun m hm => ?_) (fun b u e => ?_) I.bare
  · obtain ⟨o, es, ep, ho, r⟩ := hm
    exact ⟨o, es, ep, k _ o (fun z => (hf _ z).2.1 rfl) ho, r⟩
  · refine (I.hok b u e).stay (fun c v hc q => k c v ?_ q) (fun _ q => q) fun _ _ q => q
    rcases hc with z | z
    · rw [z]; exact nit b u e
    · exact nit c _ z
theorem Inv.track {p : Addr} {o : HO} (I : Inv X pins σ H s) (f : FpOk X pins H p) (new : ObjOk X.prog X.w (upd H p o) s.heap p o) : Inv X pins σ (upd H p o) s := by
  have hp := f.1
  refine I.step (g' := s.gens) (d' := s.drawn) (t' := s.toks) (h' := s.heap) (ch := [p]) (fun b hb => ?_) (fun b o _ _ _ e _ => e) (fun b o _ _ _ e _ => ⟨o.slots, e⟩) (fun b o hc e n => ?_)
    (fun b o _ e => ⟨o, e⟩) (fun b xs e => by rw [upd_ne (ne_of_none e hp)]; exact e) (fun b o u e => by rw [upd_ne (ne_of_none e hp)]; exact e) (fun b ps e => ⟨#[], by rw [upd_ne (ne_of_none e hp), e]; simp⟩) (fun m hm => hm) (fun b u e => ?_) I.bare
  · have e := List.mem_singleton.mp hb
    subst e
    exact ⟨f.2.2.2.1, f.2.1, f.2.2.2.2.1, f.2.2.2.2.2⟩
  · rw [upd_ne (fun z => hc (by rw [z]; exact List.mem_singleton.mpr rfl))]; exact n
  · by_cases hb : b = p
    · subst hb
      rw [upd_same] at e
      cases e
      exact new
    · rw [upd_ne hb] at e
      exact (I.hok b u e).stay (fun c v _ q => q) (fun c q => by rw [upd_ne (ne_of_none q hp)]; exact q) fun c xs q => by rw [upd_ne (ne_of_none q hp)]; exact q
end
end L2
namespace L2
open PySem PySem.Spec PyProof.Rows
set_option maxRecDepth 100000
section
variable {prog : Program} {w : World} {A : Around} {E : Value → Shared → Prop} {s : Shared}
/-- an iterator's turn by what its __next__ does -/
theorem pyNext_of {T id : String} {v : Value} {Q : Option Value → Shared → Prop} (ty : s.TypeIs v T) (sl : Slot T (Str.ofString "__next__") id)
    (h : wpAny (model prog w) A (call (.builtin id) [v]) (fun x s' => Q (some x) s') (fun e s' => ∃ c o, e = .ref c ∧ s'.heap.get? c = some o ∧ o.cls = .type "StopIteration" ∧ Q none s') s) : wpAny (model prog w) A (pyNext v) Q E s := by
  unfold pyNext
  refine wpAny_bind (wpAny_attempt (wpAny_callSpecial?_slot ty sl (wpAny_mono h (fun x s' y => wpAny_pure y) fun e s' y => ?_)))
  obtain ⟨c, o, rfl, e1, e2, y⟩ := y
  exact wpAny_bind (wpAny_isInstance (b := true) ⟨o, e1, e2⟩ isSubtype_stop (wpAny_pure y))
theorem pyIter_sq (b : Bool) {a : Addr} {its : Array Value} {Q : Value → Shared → Prop} (e : isSq b s.heap a its) (q : Q (.ref s.heap.objs.size) { s with heap := s.heap.push (itRec b a 0) }) : wpAny (model prog w) A (pyIter (.ref a)) Q E s := by
  obtain ⟨o, n, eo, ec, ed⟩ := e
  cases b
  · exact wpAny_pyIter_tuple ⟨o, eo, ec, n, ed⟩ q
  · exact wpAny_pyIter_list ⟨o, eo, ec, n, ed⟩ q
end
/-- a zip just made -/
structure ZipNew (b1 b2 : Bool) (l1 l2 : Addr) (h h' : Heap) : Prop where
  zip : IsZip h' (h.objs.size + 4) (h.objs.size + 2) (h.objs.size + 3) .none
  tin : IsPair h' (h.objs.size + 2) (.ref h.objs.size) (.ref (h.objs.size + 1))
  out : IsPair h' (h.objs.size + 3) .none .none
  one : itOf b1 h' h.objs.size l1 0
  two : itOf b2 h' (h.objs.size + 1) l2 0
  old : ∀ c o, h.get? c = some o → h'.get? c = some o
theorem isSq.up {b : Bool} {h h' : Heap} {a : Addr} {its : Array Value} (x : isSq b h a its) (k : ∀ o, h.get? a = some o → h'.get? a = some o) : isSq b h' a its := by
  obtain ⟨o, n, eo, r⟩ := x
  exact ⟨o, n, k o eo, r⟩
theorem mk_zip (b1 b2 : Bool) (l1 l2 : Addr) (xs ys : Array Value) :
    Meets (Builtin.«zip.__new__» ⟨[.type "zip", .ref l1, .ref l2], []⟩) (fun _ R s => (isSq b1 s.heap l1 xs ∧ isSq b2 s.heap l2 ys) ∧
      ∀ h', ZipNew b1 b2 l1 l2 s.heap h' → R (.ok (.ret (.ref (s.heap.objs.size + 4)))) { s with heap := h' }) :=
  .of_wp fun prog w A R s hyp => by
    obtain ⟨h, g, dr, tk, os⟩ := s
    obtain ⟨⟨q1, q2⟩, fin⟩ := hyp
    have sub := sub_zip
    have q2' : isSq b2 (Shared.mk (h.push (itRec b1 l1 0)) g dr tk os).heap l2 ys := q2.up fun o e => Heap.get?_push_of_some _ e
    wp_walk using pyIter_sq b1 q1, pyIter_sq b2 q2'
    dsimp only
    have z1 := Heap.size_push h (itRec b1 l1 0)
    generalize e1 : h.push (itRec b1 l1 0) = ha at *
    have z2 := Heap.size_push ha (itRec b2 l2 0)
    generalize e2 : ha.push (itRec b2 l2 0) = hb at *
    generalize e3 : hb.push _ = hc
    have z3 : hc.objs.size = hb.objs.size + 1 := by rw [← e3]; exact Heap.size_push ..
    generalize e4 : hc.push _ = hd
    have z4 : hd.objs.size = hc.objs.size + 1 := by rw [← e4]; exact Heap.size_push ..
    rw [z1] at z2
    rw [z2] at z3
    rw [z3] at z4
    have a1 : ha.get? h.objs.size = some (itRec b1 l1 0) := by rw [← e1]; exact Heap.get?_push_size _ rfl
    have a2 : hb.get? (h.objs.size + 1) = some (itRec b2 l2 0) := by rw [← e2, ← z1]; exact Heap.get?_push_size _ rfl
    have a3 : hc.get? (h.objs.size + 2) = some { cls := .type "tuple", data := .seq #[.ref h.objs.size, .ref (h.objs.size + 1)] } := by
      rw [← e3, ← z2, ← z1]
      exact Heap.get?_push_size _ rfl
    have a4 : hd.get? (h.objs.size + 3) = some { cls := .type "tuple", data := .seq #[.none, .none] } := by
      rw [← e4, ← z3]
      exact Heap.get?_push_size _ rfl
    have u1 : ∀ c o, h.get? c = some o → ha.get? c = some o := fun c o y => by rw [← e1]; exact Heap.get?_push_of_some _ y
    have u2 : ∀ c o, ha.get? c = some o → hb.get? c = some o := fun c o y => by rw [← e2]; exact Heap.get?_push_of_some _ y
    have u3 : ∀ c o, hb.get? c = some o → hc.get? c = some o := fun c o y => by rw [← e3]; exact Heap.get?_push_of_some _ y
    have u4 : ∀ c o, hc.get? c = some o → hd.get? c = some o := fun c o y => by rw [← e4]; exact Heap.get?_push_of_some _ y
    have u5 : ∀ (r : Obj) c o, hd.get? c = some o → (hd.push r).get? c = some o := fun r c o y => Heap.get?_push_of_some _ y
    rw [z2, z3, z4]
    refine ⟨_, rfl, fin _ ⟨?_, u5 _ _ _ (u4 _ _ a3), u5 _ _ _ a4, u5 _ _ _ (u4 _ _ (u3 _ _ (u2 _ _ a1))), u5 _ _ _ (u4 _ _ (u3 _ _ a2)), fun c o y => u5 _ _ _ (u4 _ _ (u3 _ _ (u2 _ _ (u1 _ _ y))))⟩⟩
    rw [← z4]
    exact Heap.get?_push_size _ rfl
theorem mk_enum (b : Bool) (l : Addr) (xs : Array Value) (o : Obj) (n : Nat) (ec : o.cls = .type (sqKind b)) (ed : o.data = .seq xs n) :
    Meets (Builtin.«enumerate.__new__» ⟨[.type "enumerate", .ref l], []⟩) (fun _ R s => s.heap.get? l = some o ∧
      ∀ h', IsEnum h' (s.heap.objs.size + 1) s.heap.objs.size 0 .none → itOf b h' s.heap.objs.size l 0 → (∀ c o, s.heap.get? c = some o → h'.get? c = some o) → R (.ok (.ret (.ref (s.heap.objs.size + 1)))) { s with heap := h' }) :=
  .of_wp fun prog w A R s hyp => by
    obtain ⟨h, g, dr, tk, os⟩ := s
    obtain ⟨e1, fin⟩ := hyp
    have sub := sub_enumerate
    have q1 : isSq b (Shared.mk h g dr tk os).heap l xs := ⟨o, n, e1, ec, ed⟩
    have done : ∀ (e : Addr) (r : Obj), r = { cls := .type "enumerate", data := .fields #[.none, .bool false, .ref h.objs.size, rawInt 0, .none, .none] } → e = h.objs.size + 1 → R (.ok (.ret (.ref e))) (Shared.mk ((h.push (itRec b l 0)).push r) g dr tk os) := by
      rintro e r rfl rfl
      refine fin _ ?_ (Heap.get?_push_of_some _ (Heap.get?_push_size _ rfl)) fun c o y => Heap.get?_push_of_some _ (Heap.get?_push_of_some _ y)
      have z1 := Heap.size_push h (itRec b l 0)
      show Heap.get? _ (h.objs.size + 1) = _
      rw [← z1]
      exact Heap.get?_push_size _ rfl
    wp_walk using pyIter_sq b q1
    refine wpAny_stack_any fun st => ?_
    wp_walk
    split
    · rename_i c _ _ _ _ _
      rcases Bool.eq_false_or_eq_true (c == Value.type "enumerate") with y | y
      · rw [y]
        wp_walk using pyIter_sq b q1
        exact ⟨_, rfl, done _ _ rfl (Heap.size_push ..)⟩
      · rw [y]
        wp_walk using pyIter_sq b q1
        exact ⟨_, rfl, done _ _ rfl (Heap.size_push ..)⟩
    · wp_walk using pyIter_sq b q1
      exact ⟨_, rfl, done _ _ rfl (Heap.size_push ..)⟩
section
variable {prog : Program} {w : World} {A : Around} {E : Value → Shared → Prop} {s : Shared}
theorem call_zip (b1 b2 : Bool) {l1 l2 : Addr} {xs ys : Array Value} {Q : Value → Shared → Prop} (q1 : isSq b1 s.heap l1 xs) (q2 : isSq b2 s.heap l2 ys)
    (q : ∀ h', ZipNew b1 b2 l1 l2 s.heap h' → Q (.ref (s.heap.objs.size + 4)) { s with heap := h' }) : wpAny (model prog w) A (call (.type "zip") [.ref l1, .ref l2]) Q E s :=
  callType_new F.called_zip (by decide) (F.typeCall_zip_2 _ _) (F.newCall_zip_2 _ _) (fun v => F.args_object_init_3 v _ _) F.entry_zip_new (mk_zip b1 b2 l1 l2 xs ys) ⟨⟨q1, q2⟩, fun h' N => ⟨⟨_, N.zip, rfl⟩, q h' N⟩⟩
theorem call_enum (b : Bool) {l : Addr} {xs : Array Value} {Q : Value → Shared → Prop} (q1 : isSq b s.heap l xs)
    (q : ∀ h', IsEnum h' (s.heap.objs.size + 1) s.heap.objs.size 0 .none → itOf b h' s.heap.objs.size l 0 → (∀ c o, s.heap.get? c = some o → h'.get? c = some o) → Q (.ref (s.heap.objs.size + 1)) { s with heap := h' }) : wpAny (model prog w) A (call (.type "enumerate") [.ref l]) Q E s := by
  obtain ⟨o, n, eo, ec, ed⟩ := q1
  exact callType_new F.called_enumerate (by decide) (F.typeCall_enumerate_1 _) (F.newCall_enumerate_1 _) (fun v => F.args_object_init_2 v _) F.entry_enumerate_new (mk_enum b l xs o n ec ed) ⟨eo, fun h' a1 a2 a3 => ⟨⟨_, a1, rfl⟩, q h' a1 a2 a3⟩⟩
end
/-! ### the turns -/
/-- a pair is handed out, a new tuple -/
def Itz (K : PySem.W.Frag) (b1 b2 : Bool) (l1 l2 : Addr) : It :=
  ⟨fun i H => ∃ xs ys x y, Sq b1 K H l1 xs ∧ Sq b2 K H l2 ys ∧ xs[i]? = some x ∧ ys[i]? = some y,
   fun i H v H' => ∃ p x y, v = .ref p ∧ H p = none ∧ H' = upd H p (.tup [x, y]) ∧ (∀ xs, Sq b1 K H l1 xs → xs[i]? = some x) ∧ ∀ ys, Sq b2 K H l2 ys → ys[i]? = some y,
   fun i H => ∃ xs ys, Sq b1 K H l1 xs ∧ Sq b2 K H l2 ys ∧ (i = xs.length ∨ (i < xs.length ∧ i = ys.length))⟩
def Ite (K : PySem.W.Frag) (b : Bool) (l : Addr) : It :=
  ⟨fun i H => ∃ xs x, Sq b K H l xs ∧ xs[i]? = some x,
   fun i H v H' => ∃ p x, v = .ref p ∧ H p = none ∧ H' = upd H p (.tup [.int i, x]) ∧ ∀ xs, Sq b K H l xs → xs[i]? = some x,
   fun i H => ∃ xs, Sq b K H l xs ∧ i = xs.length⟩

theorem pair_ok {P : Program} {w : World} {H : Hp} {h : Heap} {p : Addr} {x y : V} {u v : Value} (hp : IsPair h p u v) (rx : RelV x u) (ry : RelV y v) : ObjOk P w H h p (.tup [x, y]) :=
  ⟨by show 2 ≤ sizeLine; decide, [u, v], .cons rx (.cons ry .nil), _, hp, rfl, _, rfl⟩

structure ZipAt (z TI TO i1 i2 l1 l2 : Addr) : Prop where
  sep : ZipSep z TI TO i1 i2 [i1, l1] [i2, l2]
  n1 : l1 ≠ i1
  n2 : l2 ≠ i2

theorem turn_zip {P : Program} {w : World} {K : PySem.W.Frag} {es : List Expr} {kt : Nat} {pt : Pos} (b1 b2 : Bool) {z TI TO i1 i2 l1 l2 : Addr} (D : ZipAt z TI TO i1 i2 l1 l2) :
    Turn P w K (.Tuple es kt pt) (Itz K b1 b2 l1 l2) [z, TI, TO, i1, i2] z (fun i h => IsZip h z TI TO .none ∧ IsPair h TI (.ref i1) (.ref i2) ∧ (∃ a b, IsPair h TO a b) ∧ itOf b1 h i1 l1 i ∧ itOf b2 h i2 l2 i) where
  mem := by simp
  obj := fun i h st b hb => by
    obtain ⟨hz, hTI, ⟨a, c, hTO⟩, h1, h2⟩ := st
    simp only [List.mem_cons, or_false, List.not_mem_nil] at hb
    rcases hb with rfl | rfl | rfl | rfl | rfl
    · exact ⟨_, hz, fun v q => by cases q⟩
    · exact ⟨_, hTI, fun v q => by cases q⟩
    · exact ⟨_, hTO, fun v q => by cases q⟩
    · exact h1.obj
    · exact h2.obj
  keep := fun i h h' st k => by
    obtain ⟨hz, hTI, ⟨a, c, hTO⟩, h1, h2⟩ := st
    exact ⟨k z (by simp) _ hz, k TI (by simp) _ hTI, ⟨a, c, k TO (by simp) _ hTO⟩, h1.up fun o e => k i1 (by simp) o e, h2.up fun o e => k i2 (by simp) o e⟩
  item := by
    intro X hP hw hK hc i pins s σ H E I hf st hg
    subst hP hw hK
    obtain ⟨hz, hTI, ⟨ta, tb, hTO⟩, h1, h2⟩ := st
    obtain ⟨xs, ys, x, y, hq1, hq2, hx, hy⟩ := hg
    obtain ⟨is1, rv1, p1, hz1⟩ := I.sq hq1
    obtain ⟨is2, rv2, p2, hz2⟩ := I.sq hq2
    obtain ⟨u, hu, ru⟩ := rv1.get hx
    obtain ⟨v, hv, rv⟩ := rv2.get hy
    have lx : i < is1.toArray.size := by rw [List.size_toArray]; exact (List.getElem?_eq_some_iff.mp hu).1
    have ly : i < is2.toArray.size := by rw [List.size_toArray]; exact (List.getElem?_eq_some_iff.mp hv).1
    have hh : X.A.in1.handled = none := I.ok.hd hc
    have hzlt : z < s.heap.objs.size := Heap.lt_size hz
    refine pyNext_of ⟨_, hz, rfl⟩ F.slot_zip_next (wpAny_call_entry F.slot_zip_next ⟨_, hz, rfl⟩ F.entry_zip_next (zip_go (draws_sq b1 hh i1 l1 D.n1 is1.toArray) (draws_sq b2 hh i2 l2 D.n2 is2.toArray) D.sep hz hTI hTO ⟨h1, p1⟩ ⟨h2, p2⟩ lx ly fun u' v' h' tk e1 e2 a1 a2 a3 a4 a5 a6 hk => ?_) (F.args_zip_next_1 _))
    have eu : u' = u := by
      have e1' : is1.toArray[i]? = some u' := e1
      rw [List.getElem?_toArray, hu] at e1'
      exact (Option.some.inj e1').symm
    have ev : v' = v := by
      have e2' : is2.toArray[i]? = some v' := e2
      rw [List.getElem?_toArray, hv] at e2'
      exact (Option.some.inj e2').symm
    subst eu ev
    refine ⟨_, rfl, wpAny_letOwnedTupleGo_zip a1 fun h'' hz'' sb => ?_⟩
    have hk' : ∀ b o, b ∉ [z, TI, TO, i1, i2] → s.heap.get? b = some o → h''.get? b = some o := fun b o hb e => by
      have : b ≠ z ∧ b ≠ TI ∧ b ≠ TO ∧ b ≠ i1 ∧ b ≠ i2 := by simpa using hb
      exact (sb.2 b this.1).trans (hk b o this.1 this.2.2.1 this.2.2.2.1 this.2.2.2.2 e)
    have I1 : Inv X pins σ H { s with heap := h'', toks := tk } := I.turnedL hk' hf
    have hpz : s.heap.objs.size ≠ z := Nat.ne_of_gt hzlt
    have hp2 : IsPair h'' s.heap.objs.size u' v' := (sb.2 _ hpz).trans a5
    have fp : FpOk X pins H s.heap.objs.size := I.fpOk (Nat.le_refl _) (I.hok.fresh (Nat.le_refl _))
    have I2 := I1.track (o := .tup [x, y]) fp (pair_ok hp2 ru rv)
    have up : ∀ b, b ≠ z → ∀ o, h'.get? b = some o → h''.get? b = some o := fun b hb o e => (sb.2 b hb).trans e
    refine ⟨.ref s.heap.objs.size, _, I2, rfl, ⟨_, x, y, rfl, fp.1, rfl, fun xs' q => by rw [I.sq_inj q hq1]; exact hx, fun ys' q => by rw [I.sq_inj q hq2]; exact hy⟩, ⟨hz'', up _ D.sep.dTz _ (hk _ _ D.sep.dTz D.sep.dTO D.sep.dT1 D.sep.dT2 hTI), ⟨_, _, up _ D.sep.dOz _ a2⟩, a3.1.up fun o e => up _ D.sep.d1z o e, a4.1.up fun o e => up _ D.sep.d2z o e⟩, fun b hb => ?_⟩
    rw [upd_ne]
    · exact (hf b hb).1
    · obtain ⟨o, e⟩ : ∃ o, s.heap.get? b = some o := by
        simp only [List.mem_cons, or_false, List.not_mem_nil] at hb
        rcases hb with rfl | rfl | rfl | rfl | rfl
        · exact ⟨_, hz⟩
        · exact ⟨_, hTI⟩
        · exact ⟨_, hTO⟩
        · exact ⟨_, h1.obj.choose_spec.1⟩
        · exact ⟨_, h2.obj.choose_spec.1⟩
      exact Nat.ne_of_lt (Heap.lt_size e)
  done := by
    intro X hP hw hK hc i pins s σ H E I hf st hg
    subst hP hw hK
    obtain ⟨hz, hTI, ⟨ta, tb, hTO⟩, h1, h2⟩ := st
    obtain ⟨xs, ys, hq1, hq2, hx⟩ := hg
    obtain ⟨is1, rv1, p1, hz1⟩ := I.sq hq1
    obtain ⟨is2, rv2, p2, hz2⟩ := I.sq hq2
    have hh : X.A.in1.handled = none := I.ok.hd hc
    have ll1 := rv1.length
    have ll2 := rv2.length
    refine pyNext_of ⟨_, hz, rfl⟩ F.slot_zip_next (wpAny_call_entry F.slot_zip_next ⟨_, hz, rfl⟩ F.entry_zip_next (zip_end (draws_sq b1 hh i1 l1 D.n1 is1.toArray) (draws_sq b2 hh i2 l2 D.n2 is2.toArray) D.sep hz hTI hTO ⟨h1, p1⟩ ⟨h2, p2⟩ ?_ fun h' e tk hk ⟨o, e1, e2⟩ => ⟨e, o, rfl, e1, e2, ?_⟩) (F.args_zip_next_1 _))
    · rw [List.size_toArray, List.size_toArray]
      omega
    · refine ⟨rfl, I.turnedL (fun b o hb y => ?_) hf⟩
      have : b ≠ z ∧ b ≠ TI ∧ b ≠ TO ∧ b ≠ i1 ∧ b ≠ i2 := by simpa using hb
      exact hk b o this.1 this.2.2.1 this.2.2.2.1 this.2.2.2.2 y
  self := fun _ _ _ _ _ st h => wpAny_pyIter_zip st.1 h

theorem enum_succ {h : Heap} {e it : Addr} {i : Nat} {v : Value} (x : IsEnum h e it ((i : Int) + 1) v) : IsEnum h e it (((i + 1 : Nat)) : Int) v := x
theorem addr_ne {n : Nat} (i j : Nat) (h : i ≠ j := by decide) : @Ne Addr (n + i) (n + j) := fun z => h (Nat.add_left_cancel z)
theorem addr_gt {n : Nat} {l : Addr} (i : Nat) (h : l < n) : @Ne Addr (n + i) l := Nat.ne_of_gt (Nat.lt_of_lt_of_le h (Nat.le_add_right n i))
theorem notin2 {a b c : Addr} (h1 : a ≠ b) (h2 : a ≠ c) : a ∉ [b, c] := by simp [h1, h2]
theorem turn_enum {P : Program} {w : World} {K : PySem.W.Frag} {es : List Expr} {kt : Nat} {pt : Pos} (b : Bool) {e it l : Addr} (hei : e ≠ it) (hle : l ≠ e) (hli : l ≠ it) :
    Turn P w K (.Tuple es kt pt) (Ite K b l) [e, it] e (fun i h => (∃ old, IsEnum h e it i old) ∧ itOf b h it l i) where
  mem := by simp
  obj := fun i h st c hc => by
    obtain ⟨⟨old, he⟩, h1⟩ := st
    simp only [List.mem_cons, List.not_mem_nil, or_false] at hc
    rcases hc with rfl | rfl
    · exact ⟨_, he, fun v q => by cases q⟩
    · exact h1.obj
  keep := fun i h h' st k => by
    obtain ⟨⟨old, he⟩, h1⟩ := st
    exact ⟨⟨old, k e (by simp) _ he⟩, h1.up fun o q => k it (by simp) o q⟩
  item := by
    intro X hP hw hK hc i pins s σ H E I hf st hg
    subst hP hw hK
    obtain ⟨⟨old, he⟩, h1⟩ := st
    obtain ⟨xs, x, hq, hx⟩ := hg
    obtain ⟨is1, rv1, p1, hz1⟩ := I.sq hq
    obtain ⟨u, hu, ru⟩ := rv1.get hx
    have lx : i < is1.toArray.size := by rw [List.size_toArray]; exact (List.getElem?_eq_some_iff.mp hu).1
    have hh : X.A.in1.handled = none := I.ok.hd hc
    have eIn : e < s.heap.objs.size := Heap.lt_size he
    refine wpAny_pyNext_enum_itemD (draws_sq b hh it l hli is1.toArray) he ⟨h1, p1⟩ lx hei (by simp; exact ⟨hei, hle.symm⟩) fun u' h' tk e1 a1 a2 a3 a4 hk => ?_
    have eu : u' = u := by
      have e1' : is1.toArray[i]? = some u' := e1
      rw [List.getElem?_toArray, hu] at e1'
      exact (Option.some.inj e1').symm
    subst eu
    refine ⟨_, rfl, wpAny_letOwnedTupleGo_enum a1 fun h'' he'' sb => ?_⟩
    have hk' : ∀ c o, c ∉ [e, it] → s.heap.get? c = some o → h''.get? c = some o := fun c o hc q => by
      have : c ≠ e ∧ c ≠ it := by simpa using hc
      exact (sb.2 c this.1).trans (hk c o this.1 this.2 q)
    have I1 : Inv X pins σ H { s with heap := h'', toks := tk + 1 } := I.turnedL hk' hf
    have hpe : s.heap.objs.size ≠ e := Nat.ne_of_gt eIn
    have hp2 : IsPair h'' s.heap.objs.size (.int i tk) u' := (sb.2 _ hpe).trans a3
    have fp : FpOk X pins H s.heap.objs.size := I.fpOk (Nat.le_refl _) (I.hok.fresh (Nat.le_refl _))
    have I2 := I1.track (o := .tup [.int i, x]) fp (pair_ok hp2 ⟨tk, rfl⟩ ru)
    refine ⟨.ref s.heap.objs.size, _, I2, rfl, ⟨_, x, rfl, fp.1, rfl, fun xs' q => by rw [I.sq_inj q hq]; exact hx⟩, ⟨⟨u', enum_succ he''⟩, a2.1.up fun o q => (sb.2 it hei.symm).trans q⟩, fun c hc => ?_⟩
    rw [upd_ne]
    · exact (hf c hc).1
    · obtain ⟨o, q⟩ : ∃ o, s.heap.get? c = some o := by
        simp only [List.mem_cons, List.not_mem_nil, or_false] at hc
        rcases hc with rfl | rfl
        · exact ⟨_, he⟩
        · exact ⟨_, h1.obj.choose_spec.1⟩
      exact Nat.ne_of_lt (Heap.lt_size q)
  done := by
    intro X hP hw hK hc i pins s σ H E I hf st hg
    subst hP hw hK
    obtain ⟨⟨old, he⟩, h1⟩ := st
    obtain ⟨xs, hq, hx⟩ := hg
    obtain ⟨is1, rv1, p1, hz1⟩ := I.sq hq
    have hh : X.A.in1.handled = none := I.ok.hd hc
    have ll1 := rv1.length
    have hn : i = is1.toArray.size := by rw [List.size_toArray]; omega
    refine wpAny_pyNext_enum_endD (draws_sq b hh it l hli is1.toArray) he (hn ▸ ⟨h1, p1⟩) fun h' hk => ?_
    refine ⟨rfl, I.turnedL (t' := s.toks) (fun c o hc q => ?_) hf⟩
    have : c ≠ e ∧ c ≠ it := by simpa using hc
    exact hk c o this.2 q
  self := fun _ _ _ _ _ st h => wpAny_pyIter_enum st.1.choose_spec h

theorem bt_zip : bootBuiltins "zip" = some (.type "zip") := by decide +kernel

section
variable {X : Cx}
def iZip (K : PySem.W.Frag) (b1 b2 : Bool) (t : TA) : TI := fun σ H R => t σ H fun vs H1 => ∃ l1 l2, vs = [.ref l1, .ref l2] ∧ (∃ xs, Sq b1 K H1 l1 xs) ∧ (∃ ys, Sq b2 K H1 l2 ys) ∧ R (Itz K b1 b2 l1 l2) H1
def iEnum (K : PySem.W.Frag) (b : Bool) (t : TA) : TI := fun σ H R => t σ H fun vs H1 => ∃ l, vs = [.ref l] ∧ (∃ xs, Sq b K H1 l xs) ∧ R (Ite K b l) H1
theorem pi_zip (b1 b2 : Bool) {a b : Expr} {ta : TA} {p pos pt : Pos} {es : List Expr} {kt : Nat} (hg : Gl X "zip") (hm : X.mg "zip" = none) (ha : PA X [a, b] ta) (hs : starEach [a, b] X.env = [(false, eval a X.env), (false, eval b X.env)] := by rfl) (hs2 : starEach [b] X.env = [(false, eval b X.env)] := by rfl) :
    PI X (.Tuple es kt pt) (.Call (.Name "zip" p) [a, b] [] pos) (iZip X.K b1 b2 ta) := by
  intro pins s σ H R I h
  refine Call_ (ld_blt I hg hm bt_zip (PyProof.Rows.callWith_type1 (thn (ha pos pins s σ H _ I h) fun us s1 ⟨vs, H1, I1, r1, q1⟩ => ?_) (by rw [hs, hs2]) (by rw [hs2]; rfl)))
  obtain ⟨l1, l2, e, ⟨xs, hq1⟩, ⟨ys, hq2⟩, q⟩ := q1
  subst e
  cases r1 with
  | cons r rr =>
    cases rr with
    | cons r' rr =>
      cases rr
      cases r
      cases r'
      obtain ⟨is1, rv1, p1, hz1⟩ := I1.sq hq1
      obtain ⟨is2, rv2, p2, hz2⟩ := I1.sq hq2
      have a1 : l1 < s1.heap.objs.size := by obtain ⟨_, e⟩ := p1.obj; exact Heap.lt_size e
      have a2 : l2 < s1.heap.objs.size := by obtain ⟨_, e⟩ := p2.obj; exact Heap.lt_size e
      refine call_zip b1 b2 p1 p2 fun h' N => wpAny_pyIter_zip N.zip ?_
      refine ⟨_, _, _, _, H1, rfl, I1.kept (t' := s1.toks) N.old, turn_zip b1 b2 (z := s1.heap.objs.size + 4) (TI := s1.heap.objs.size + 2) (TO := s1.heap.objs.size + 3) (i1 := s1.heap.objs.size) (i2 := s1.heap.objs.size + 1) ⟨?_, Nat.ne_of_lt a1, Nat.ne_of_lt (Nat.lt_succ_of_lt a2)⟩, ⟨N.zip, N.tin, ⟨_, _, N.out⟩, N.one, N.two⟩, fun b hb => ?_, q⟩
      · exact ⟨addr_ne 2 4, addr_ne 3 4, addr_ne 0 4, addr_ne 1 4, addr_ne 2 3, addr_ne 2 0, addr_ne 2 1, addr_ne 3 0, addr_ne 3 1, addr_ne 0 1, ⟨notin2 (addr_ne 4 0) (addr_gt 4 a1), notin2 (addr_ne 4 1) (addr_gt 4 a2)⟩,
          ⟨notin2 (addr_ne 3 0) (addr_gt 3 a1), notin2 (addr_ne 3 1) (addr_gt 3 a2)⟩, notin2 (addr_ne 1 0) (addr_gt 1 a1), notin2 (addr_ne 0 1) (addr_gt 0 a2)⟩
      · have hb' : s1.heap.objs.size ≤ b := by
          simp only [List.mem_cons, or_false, List.not_mem_nil] at hb
          rcases hb with rfl | rfl | rfl | rfl | rfl
          · exact Nat.le_add_right _ 4
          · exact Nat.le_add_right _ 2
          · exact Nat.le_add_right _ 3
          · exact Nat.le_refl _
          · exact Nat.le_add_right _ 1
        exact I1.fpOk hb' (I1.hok.fresh hb')
theorem pi_enum (b : Bool) {a : Expr} {ta : TA} {p pos pt : Pos} {es : List Expr} {kt : Nat} (hg : Gl X "enumerate") (hm : X.mg "enumerate" = none) (ha : PA X [a] ta) (hs : starEach [a] X.env = [(false, eval a X.env)] := by rfl) :
    PI X (.Tuple es kt pt) (.Call (.Name "enumerate" p) [a] [] pos) (iEnum X.K b ta) := by
  intro pins s σ H R I h
  refine Call_ (ld_blt I hg hm boot_enumerate (PyProof.Rows.callWith_type1 (thn (ha pos pins s σ H _ I h) fun us s1 ⟨vs, H1, I1, r1, q1⟩ => ?_) hs rfl))
  obtain ⟨l, e, ⟨xs, hq⟩, q⟩ := q1
  subst e
  cases r1 with
  | cons r rr =>
    cases rr
    cases r
    obtain ⟨is1, rv1, p1, hz1⟩ := I1.sq hq
    have a1 : l < s1.heap.objs.size := by obtain ⟨_, e⟩ := p1.obj; exact Heap.lt_size e
    refine call_enum b p1 fun h' z1 z2 hk => wpAny_pyIter_enum z1 ?_
    refine ⟨_, _, _, _, H1, rfl, I1.kept (t' := s1.toks) hk, turn_enum b (e := s1.heap.objs.size + 1) (it := s1.heap.objs.size) (addr_ne 1 0) (addr_gt 1 a1).symm (addr_gt 0 a1).symm, ⟨⟨_, z1⟩, z2⟩, fun c hc => ?_, q⟩
    have hb' : s1.heap.objs.size ≤ c := by
      simp only [List.mem_cons, List.not_mem_nil, or_false] at hc
      rcases hc with rfl | rfl
      · exact Nat.le_add_right _ 1
      · exact Nat.le_refl _
    exact I1.fpOk hb' (I1.hok.fresh hb')
end
end L2
namespace L2
open PySem PySem.Spec PyProof.Rows
set_option maxRecDepth 100000

theorem Same.sq {K : PySem.W.Frag} {H H' : Hp} {a : Addr} {xs : List V} {b : Bool} (e : Same H H') (h : Sq b K H a xs) : Sq b K H' a xs := by
  cases b with
  | true => exact e.seq h
  | false =>
    rcases h with h | h
    · refine .inl ?_
      rcases h with h | ⟨o, h⟩
      · exact .inl (e _ _ h)
      · exact .inr ⟨o, e _ _ h⟩
    · exact .inr h
theorem Same.seqT {K : PySem.W.Frag} {H H' : Hp} {a : Addr} {xs : List V} (e : Same H H') (h : SqT K H a xs) : SqT K H' a xs := e.sq (b := false) h
theorem Same.upd {H : Hp} {p : Addr} {o : HO} (h : H p = none) : Same H (upd H p o) := fun b u e => by rw [upd_ne (ne_of_none e h)]; exact e

/-! ### t * n, t + u, t[a:b] of tuples: a tuple with these items, new or not -/
def AnyT (K : PySem.W.Frag) (H : Hp) (xs : List V) (Q : VK) : Prop := ∀ p H', Same H H' → SqT K H' p xs → Q (.ref p) H'
theorem AnyT.old {K : PySem.W.Frag} {H : Hp} {xs : List V} {Q : VK} {p : Addr} (h : AnyT K H xs Q) (q : SqT K H p xs) : Q (.ref p) H := h p H (.refl H) q
theorem AnyT.new {K : PySem.W.Frag} {H : Hp} {xs : List V} {Q : VK} {p : Addr} (h : AnyT K H xs Q) (n : H p = none) : Q (.ref p) (upd H p (.tup xs)) := h p _ (.upd n) (.of upd_same)

theorem noFill_tuple_mul : fillsNumberSlot (.type "tuple") "mul" = pure false :=
  PySem.fillsNumberSlot_seq (id := "tuple.__mul__") (r := some (.builtin "tuple.__rmul__")) F.slot_tuple_mul.lookup (by decide +kernel) F.slot_tuple_rmul.lookup (by decide +kernel)
theorem repeat_tuple : seqRepeat? (.type "tuple") = pure (some (.builtin "tuple.__mul__")) := by
  unfold seqRepeat?
  rw [PySem.seqSlot_of (T := "tuple") (name := "__mul__") (id := "tuple.__mul__") F.slot_tuple_mul.lookup (by decide +kernel), PySem.seqSlot_of (T := "tuple") (name := "__rmul__") (id := "tuple.__rmul__") F.slot_tuple_rmul.lookup (by decide +kernel)]
  rfl
theorem rmul_int_tuple (a : Int) (t : Tok) (l : Addr) (items : Array Value) (n : Nat) (dd : Option Addr) (sl : Array (Option Value)) :
    Meets (Builtin.«int.__rmul__» ⟨[.int a t, .ref l], []⟩) (fun _ R s => s.heap.get? l = some { cls := .type "tuple", dict := dd, data := .seq items n, slots := sl } ∧ R (.ok (.ret Value.notImplemented)) s) :=
  .of_wp fun prog w A R s h => by
    obtain ⟨hp_a, g_a, d_a, tk_a, os_a⟩ := s
    have at0 := h.1
    wp_walk
    exact ⟨_, rfl, h.2⟩

/-! ### list(range(..)) -/
section
variable {X : Cx}
/-- range(a, b) as a value, just made: told as a tracked range -/
theorem call_range2 : CallR X (.type "range") (fun xs H Q => ∃ i j : Int, xs = [.int i, .int j] ∧ ∀ p, H p = none → Q (.ref p) (upd H p (.rng i j))) := by
  intro pins s σ H vs us Q I r h
  obtain ⟨i, j, rfl, q⟩ := h
  obtain ⟨u, v, rfl, ru, rv⟩ := vals2 r
  obtain ⟨t, rfl⟩ := ru
  obtain ⟨t', rfl⟩ := rv
  refine call_range_2 ?_
  exact ⟨.ref _, _, I.laid (t' := _) (o := .rng i j) (fun b o e => Heap.get?_push_of_some _ e) (Nat.le_refl _) ⟨_, _, _, Heap.get?_push_size _ rfl⟩, rfl, q _ I.fresh⟩
theorem itemsOf_vals {a : Int} : ∀ (n : Nat) (acc : Array Value), ItemsOf (fun i v => ∃ t, v = .int (a + i * 1) t) acc n → Vals ((List.range n).map fun (i : Nat) => V.int (a + i)) acc.toList := by
  intro n acc h
  have hsz : acc.size = n := h.1
  have key : ∀ (k : Nat), k ≤ n → Vals (((List.range n).map fun (i : Nat) => V.int (a + i)).take k) (acc.toList.take k) := by
    intro k
    induction k with
    | zero => intro _; exact .nil
    | succ k ih =>
      intro hk
      have hk' : k < acc.size := by omega
      rw [List.take_add_one, List.take_add_one]
      refine Vals.append (ih (by omega)) ?_
      have e1 : ((List.range n).map fun (i : Nat) => V.int (a + i))[k]? = some (V.int (a + k)) := by
        rw [List.getElem?_map, List.getElem?_range (by omega)]; rfl
      have e2 : acc.toList[k]? = some acc[k] := by simp [hk']
      rw [e1, e2]
      obtain ⟨t, e⟩ := h.2 k acc[k] (by simp [hk'])
      refine .cons ⟨t, ?_⟩ .nil
      rw [e, Int.mul_one]
  have := key n (Nat.le_refl _)
  rw [List.take_of_length_le (by simp), List.take_of_length_le (by simp [hsz])] at this
  exact this
theorem call_list_rng (hc : X.calm = true) : CallR X (.type "list") (fun xs H Q => ∃ p i j, xs = [.ref p] ∧ H p = some (.rng i j) ∧ (-(2 ^ 62) ≤ i ∧ i < 2 ^ 62 ∧ -(2 ^ 62) ≤ j ∧ j < 2 ^ 62) ∧ j - i ≤ 16777216 ∧
    ∀ l, H l = none → Q (.ref l) (upd H l (.lst ((List.range (j - i).toNat).map fun (k : Nat) => V.int (i + k))))) := by
  intro pins s σ H vs us Q I r h
  obtain ⟨p, i, j, rfl, hp, ⟨h1, h2, h3, h4⟩, hz, q⟩ := h
  obtain ⟨u, rfl, ru⟩ := vals1 r
  cases ru
  obtain ⟨t, u, v, e⟩ := I.hok p _ hp
  have hn : Builtin.Range.rangeSize i j 1 = (((j - i).toNat : Nat) : Int) := by rw [rangeSize_one]; split <;> omega
  refine call_list_range (I.ok.hd hc) (show IsRange s.heap p i j 1 t u v from e) (small_one h1 h2 h3 h4) hn (by omega) fun h' tk acc c hk hS hI => ?_
  have rv := itemsOf_vals (a := i) _ _ hI
  have I1 : Inv X pins σ H { s with heap := h', toks := tk } := I.kept hk
  have f : FpOk X pins H s.heap.objs.size := I.fpOk (Nat.le_refl _) I.fresh
  have I2 := I1.track (o := .lst ((List.range (j - i).toNat).map fun (k : Nat) => V.int (i + k))) f ⟨?_, acc.toList, c, rv, hS⟩
  · exact ⟨.ref _, _, I2, rfl, q _ f.1⟩
  · rw [List.length_map, List.length_range]
    have : (16777216 : Nat) ≤ sizeLine := by decide
    omega

/-! ### sum(a list of ints) -/
theorem ints_as : ∀ {ns : List Int} {its : List Value}, Vals (ns.map V.int) its → ∃ ps : List (Int × Tok), its = ps.map (fun p => Value.int p.1 p.2) ∧ ps.map (·.1) = ns
  | [], _, .nil => ⟨[], rfl, rfl⟩
  | n :: ns, _, .cons r rr => by
    obtain ⟨t, rfl⟩ := r
    obtain ⟨ps, rfl, rfl⟩ := ints_as rr
    exact ⟨(n, t) :: ps, rfl, rfl⟩
theorem call_sum (hc : X.calm = true) : CallR X (.builtin "sum") (fun xs H Q => ∃ p ns, xs = [.ref p] ∧ SqL X.K H p (List.map V.int ns) ∧ Q (.int ns.sum) H) := by
  intro pins s σ H vs us Q I r h
  obtain ⟨p, ns, rfl, hq, q⟩ := h
  obtain ⟨u, rfl, ru⟩ := vals1 r
  cases ru
  obtain ⟨its, rv, pl, hz⟩ := I.list hq
  obtain ⟨ps, rfl, rfl⟩ := ints_as rv
  have hl' : s.heap.IsList p (intItems ps.toArray) := by
    have z := pl.isList
    rwa [show (ps.map fun p => Value.int p.1 p.2).toArray = intItems ps.toArray by simp [intItems]] at z
  refine sum_intListG (I.ok.hd hc) hl' fun h' tk t' hk => ⟨.int _, H, I.kept hk, ⟨t', ?_⟩, q⟩
  have := preSum_eq ps.toArray ps.toArray.size
  simp only [List.size_toArray] at this
  rw [List.take_of_length_le (Nat.le_of_eq (List.length_map _))] at this
  simp [this]

/-! ### isinstance(x, T) of a builtin T -/
theorem call_isinst {T : String} : CallR X (.builtin "isinstance") (fun xs H Q => ∃ x t b, xs = [x, .ty T] ∧ TyOf X.K H x t ∧ PySem.W.kitOne X.K t (.type T) = some b ∧ Q (.bl b) H) := by
  intro pins s σ H vs us Q I r h
  obtain ⟨x, t, b, rfl, ty, e, q⟩ := h
  obtain ⟨u, v, rfl, ru, rv⟩ := vals2 r
  cases rv
  exact isinst_ok I ru ty e fun tk => ⟨.bl b, H, I.tok tk, rfl, q⟩
end

/-! ### what a value is, to its end -/
mutual
inductive HasD (K : PySem.W.Frag) (H : Hp) : V → PySem.W.Dat → Prop
  | none : HasD K H .non .none
  | bool (b : Bool) : HasD K H (.bl b) (.bool b)
  | int (i : Int) : HasD K H (.int i) (.int i)
  | str (x : Str) : HasD K H (.str x) (.str x)
  | tuple {a : Addr} {xs : List V} {ds : List PySem.W.Dat} : SqT K H a xs → HasA K H xs ds → HasD K H (.ref a) (.tuple ds)
  | list {a : Addr} {xs : List V} {ds : List PySem.W.Dat} : SqL K H a xs → HasA K H xs ds → HasD K H (.ref a) (.list ds)
inductive HasA (K : PySem.W.Frag) (H : Hp) : List V → List PySem.W.Dat → Prop
  | nil : HasA K H [] []
  | cons {v : V} {vs : List V} {d : PySem.W.Dat} {ds : List PySem.W.Dat} : HasD K H v d → HasA K H vs ds → HasA K H (v :: vs) (d :: ds)
end
mutual
theorem HasD.mono {K : PySem.W.Frag} {H H' : Hp} (e : Same H H') : ∀ {v : V} {d : PySem.W.Dat}, HasD K H v d → HasD K H' v d
  | _, _, .none => .none
  | _, _, .bool b => .bool b
  | _, _, .int i => .int i
  | _, _, .str x => .str x
  | _, _, .tuple h r => .tuple (e.seqT h) (HasA.mono e r)
  | _, _, .list h r => .list (e.seq h) (HasA.mono e r)
theorem HasA.mono {K : PySem.W.Frag} {H H' : Hp} (e : Same H H') : ∀ {vs : List V} {ds : List PySem.W.Dat}, HasA K H vs ds → HasA K H' vs ds
  | _, _, .nil => .nil
  | _, _, .cons h r => .cons (HasD.mono e h) (HasA.mono e r)
end
theorem HasA.length {K : PySem.W.Frag} {H : Hp} : ∀ {vs : List V} {ds : List PySem.W.Dat}, HasA K H vs ds → vs.length = ds.length
  | _, _, .nil => rfl
  | _, _, .cons _ r => by rw [List.length_cons, List.length_cons, HasA.length r]
theorem HasA.append {K : PySem.W.Frag} {H : Hp} : ∀ {vs ws : List V} {ds es : List PySem.W.Dat}, HasA K H vs ds → HasA K H ws es → HasA K H (vs ++ ws) (ds ++ es)
  | _, _, _, _, .nil, k => k
  | _, _, _, _, .cons h r, k => .cons h (HasA.append r k)
theorem HasA.get {K : PySem.W.Frag} {H : Hp} : ∀ {vs : List V} {ds : List PySem.W.Dat} {i : Nat} {v : V}, HasA K H vs ds → vs[i]? = some v → ∃ d, ds[i]? = some d ∧ HasD K H v d
  | _, _, 0, _, .cons h _, e => by
    have e' : _ = _ := Option.some.inj e
    subst e'
    exact ⟨_, rfl, h⟩
  | _, _, i + 1, v, .cons _ r, e => HasA.get (i := i) (v := v) r e
theorem HasA.ints {K : PySem.W.Frag} {H : Hp} : ∀ (ns : List Int), HasA K H (ns.map V.int) (ns.map PySem.W.Dat.int)
  | [] => .nil
  | n :: ns => .cons (.int n) (HasA.ints ns)
theorem HasA.intsV {K : PySem.W.Frag} {H : Hp} : ∀ {xs : List V} {ns : List Int}, HasA K H xs (ns.map PySem.W.Dat.int) → xs = ns.map V.int
  | _, [], h => by cases h; rfl
  | _, n :: ns, h => by
    cases h with
    | cons h r =>
      cases h
      rw [HasA.intsV r]; rfl
mutual
theorem HasD.reads {X : Cx} {pins : List (Addr × Obj)} {σ : St} {H : Hp} {s : Shared} (I : Inv X pins σ H s) : ∀ {v : V} {d : PySem.W.Dat} {u : Value}, HasD X.K H v d → RelV v u → ∃ as, Reads s.heap u (PySem.W.kqdP d) as
  | _, _, u, .none, r => by cases (show u = Value.none from r); exact ⟨_, .none⟩
  | _, _, u, .bool b, r => by cases (show u = Value.bool b from r); exact ⟨_, .bool b⟩
  | _, _, u, .int i, r => by obtain ⟨t, rfl⟩ := r; exact ⟨_, .int i t⟩
  | _, _, u, .str x, r => by obtain ⟨t, rfl⟩ := r; exact ⟨_, .str x t⟩
  | _, _, u, .tuple (a := a) h q, r => by
    cases (show u = Value.ref a from r)
    obtain ⟨its, rv, ⟨o, ho, hc, n, hd⟩, _⟩ := I.tuple h
    obtain ⟨as, z⟩ := HasA.reads I q rv
    rw [PySem.W.kqdP]
    exact ⟨as, .tuple ho hc hd (by simpa using z)⟩
  | _, _, u, .list (a := a) h q, r => by
    cases (show u = Value.ref a from r)
    obtain ⟨its, rv, p, _⟩ := I.list h
    obtain ⟨o, ho, hc, n, hd⟩ := p.isList
    obtain ⟨as, z⟩ := HasA.reads I q rv
    rw [PySem.W.kqdP]
    exact ⟨_, .list ho hc hd (by simpa using z)⟩
theorem HasA.reads {X : Cx} {pins : List (Addr × Obj)} {σ : St} {H : Hp} {s : Shared} (I : Inv X pins σ H s) : ∀ {vs : List V} {ds : List PySem.W.Dat} {us : List Value}, HasA X.K H vs ds → Vals vs us → ∃ as, ReadsAll s.heap us (PySem.W.kqdPs ds) as
  | _, _, _, .nil, .nil => ⟨_, .nil⟩
  | _, _, _, .cons h q, .cons r rr => by
    obtain ⟨as, z⟩ := HasD.reads I h r
    obtain ⟨bs, y⟩ := HasA.reads I q rr
    rw [PySem.W.kqdPs]
    exact ⟨_, .cons z y⟩
end
section
variable {X : Cx}
open Classical in
def rEqD (K : PySem.W.Frag) (neg : Bool) : R2 := fun x y H Q => ∃ d e, HasD K H x d ∧ HasD K H y e ∧ PySem.W.kqdOk 8 d = true ∧ PySem.W.kqdOk 8 e = true ∧ Q (.bl (if neg then !decide (d = e) else decide (d = e))) H
open Classical in
theorem eqv_dec {d e : PySem.W.Dat} (hd : PySem.W.kqdOk 8 d = true) (he : PySem.W.kqdOk 8 e = true) : PyData.eqv (PySem.W.kqdP d) (PySem.W.kqdP e) = decide (d = e) := by
  exact Bool.eq_iff_iff.mpr ((PySem.W.kqd_eqv 8 d e 8 hd he).trans decide_eq_true_iff.symm)
theorem shaped_of {d : PySem.W.Dat} (hd : PySem.W.kqdOk 8 d = true) : SeqAt.shaped (PySem.W.kqdP d) = true := by
  have l := PySem.W.kqd_lay 8 d hd
  unfold SeqAt.shaped
  rw [l.1, Bool.true_and]
  exact decide_eq_true (Nat.le_trans l.2 (by decide))
theorem op_eqD (hu : X.A.units + 64 < cLine) : OpR X (compareOp .Eq) (rEqD X.K false) := by
  intro pins s σ H x y v u Q I rx ry h
  obtain ⟨d, e, hx, hy, hd, he, q⟩ := h
  obtain ⟨as, ra⟩ := hx.reads I rx
  obtain ⟨bs, rb⟩ := hy.reads I ry
  refine eq_dataH ra rb (shaped_of hd) (shaped_of he) hu ?_
  rw [eqv_dec hd he]
  exact ⟨.bl _, H, I, rfl, q⟩
theorem op_neD (hu : X.A.units + 64 < cLine) : OpR X (compareOp .NotEq) (rEqD X.K true) := by
  intro pins s σ H x y v u Q I rx ry h
  obtain ⟨d, e, hx, hy, hd, he, q⟩ := h
  obtain ⟨as, ra⟩ := hx.reads I rx
  obtain ⟨bs, rb⟩ := hy.reads I ry
  refine ne_dataH ra rb (shaped_of hd) (shaped_of he) hu ?_
  rw [eqv_dec hd he]
  exact ⟨.bl _, H, I, rfl, q⟩
end

/-! ### data of ints -/
def intsT (ns : List Int) : PySem.W.Dat := .tuple (ns.map .int)
theorem kqd_intsT (n : Nat) (ns : List Int) : PySem.W.kqdOk (n + 1) (intsT ns) = true := by
  unfold intsT PySem.W.kqdOk
  rw [List.all_map]
  exact List.all_eq_true.mpr fun _ _ => by cases n <;> rfl
theorem intsT_inj {a b : List Int} (h : intsT a = intsT b) : a = b := by
  unfold intsT at h
  have h' := PySem.W.Dat.tuple.inj h
  exact (List.map_inj_right fun x y e => PySem.W.Dat.int.inj e).mp h'
end L2
namespace L2
open PySem PySem.Spec PyProof.Rows
set_option maxRecDepth 100000

theorem tuple_mul1 (l : Addr) (items : Array Value) (n : Nat) (dd : Option Addr) (sl : Array (Option Value)) (u : Tok) :
    Meets (Builtin.«tuple.__mul__» ⟨[.ref l, .int 1 u], []⟩) (fun _ R s => s.heap.get? l = some { cls := .type "tuple", dict := dd, data := .seq items n, slots := sl } ∧ R (.ok (.ret (.ref l))) s) :=
  .of_wp fun prog w A R s h => by
    obtain ⟨hp_a, g_a, d_a, tk_a, os_a⟩ := s
    have at0 := h.1
    have f1 := AutoSeq1.idx_int
    wp_walk using AutoSeq1.wpAny_loadPart' at0
    exact ⟨_, rfl, h.2⟩
theorem tuple_mul0 (l : Addr) (items : Array Value) (n : Nat) (dd : Option Addr) (sl : Array (Option Value)) (x : Int) (u : Tok) (hx : x ≤ 0) (hx2 : -(2 ^ 63) ≤ x) (hne : items.isEmpty = false) :
    Meets (Builtin.«tuple.__mul__» ⟨[.ref l, .int x u], []⟩) (fun _ R s => s.heap.get? l = some { cls := .type "tuple", dict := dd, data := .seq items n, slots := sl } ∧
      R (.ok (.ret (Value.ref s.heap.objs.size))) { s with heap := s.heap.push { cls := Value.type "tuple", data := Data.seq #[] } }) :=
  .of_wp fun prog w A R s h => by
    obtain ⟨hp_a, g_a, d_a, tk_a, os_a⟩ := s
    have at0 := h.1
    have f1 := AutoSeq1.idx_int
    have c1 : (decide (x < -2 ^ 63) || decide (x ≥ 2 ^ 63)) = false := by simp; omega
    have c2 : (items.isEmpty || x == 1) = false := by rw [hne]; simp; omega
    have c3 : (decide (x ≤ 0) || items.isEmpty) = true := by simp [hx]
    wp_walk using AutoSeq1.wpAny_loadPart' at0
    refine wpAny_ite_false (by rw [c1]; rfl) ?_
    wp_walk using AutoSeq1.wpAny_loadPart' at0
    refine wpAny_ite_false (by rw [c2]; rfl) ?_
    wp_walk using AutoSeq1.wpAny_loadPart' at0
    exact ⟨_, rfl, h.2⟩
theorem size_rep (items : Array Value) : ∀ (k : Nat) (acc : Array Value), (List.foldl (fun x1 x2 => x1 ++ x2) acc (List.replicate k items)).size = acc.size + k * items.size
  | 0, acc => by simp
  | k + 1, acc => by rw [List.replicate_succ, List.foldl_cons, size_rep items k, Array.size_append, Nat.succ_mul]; omega
theorem tuple_mulN (l : Addr) (items : Array Value) (n : Nat) (dd : Option Addr) (sl : Array (Option Value)) (x : Int) (u : Tok) (hx : 2 ≤ x) (hx2 : x < 2 ^ 63) (hne : items.isEmpty = false) (hz : items.size * x.toNat ≤ sizeLine) :
    Meets (Builtin.«tuple.__mul__» ⟨[.ref l, .int x u], []⟩) (fun _ R s => s.heap.get? l = some { cls := .type "tuple", dict := dd, data := .seq items n, slots := sl } ∧
      R (.ok (.ret (Value.ref s.heap.objs.size))) { s with heap := s.heap.push { cls := Value.type "tuple", data := Data.seq (List.foldl (fun x1 x2 => x1 ++ x2) #[] (List.replicate x.toNat items)) } }) :=
  .of_wp fun prog w A R s h => by
    obtain ⟨hp_a, g_a, d_a, tk_a, os_a⟩ := s
    have at0 := h.1
    have f1 := AutoSeq1.idx_int
    have c1 : (decide (x < -2 ^ 63) || decide (x ≥ 2 ^ 63)) = false := by simp; omega
    have c2 : (items.isEmpty || x == 1) = false := by rw [hne]; simp; omega
    have c3 : (decide (x ≤ 0) || items.isEmpty) = false := by rw [hne]; simp; omega
    have e : (items.size : Int) * x = ((items.size * x.toNat : Nat) : Int) := by
      rw [Int.natCast_mul]; congr 1; omega
    have hl2 : (sizeLine : Nat) ≤ (2 ^ 63 - 1) / 8 := by decide
    have c4 : decide ((items.size : Int) * x > (2 ^ 63 - 1) / 8) = false := by rw [e]; simp only [decide_eq_false_iff_not]; omega
    have c5 : Builtin.Tuple.tupleTooMany ((items.size : Int) * x) = false := by rw [e]; unfold Builtin.Tuple.tupleTooMany; simp only [decide_eq_false_iff_not]; omega
    have c6 : (List.foldl (fun x1 x2 => x1 ++ x2) #[] (List.replicate x.toNat items)).size ≤ sizeLine := by rw [size_rep, Array.size_empty, Nat.zero_add, Nat.mul_comm]; exact hz
    wp_walk using AutoSeq1.wpAny_loadPart' at0
    refine wpAny_ite_false (by rw [c1]; rfl) ?_
    wp_walk using AutoSeq1.wpAny_loadPart' at0
    refine wpAny_ite_false (by rw [c2]; rfl) ?_
    wp_walk using AutoSeq1.wpAny_loadPart' at0
    refine wpAny_ite_false (by rw [c3]; rfl) ?_
    wp_walk
    refine wpAny_ite_false c4 ?_
    wp_walk
    refine wpAny_ite_false (by rw [c5]; rfl) ?_
    wp_walk
    exact ⟨_, rfl, h.2⟩

/-- t * k, t not empty -/
def rRepT (K : PySem.W.Frag) : R2 := fun x y H Q => ∃ a k xs, x = .ref a ∧ y = .int k ∧ SqT K H a xs ∧ xs ≠ [] ∧ -(2 ^ 63) ≤ k ∧ k < 2 ^ 63 ∧ xs.length * k.toNat ≤ sizeLine ∧ AnyT K H (List.replicate k.toNat xs).flatten Q
theorem op_repT {X : Cx} : OpR X (binaryOp .Mult) (rRepT X.K) := by
  intro pins s σ H x y v u Q I rx ry h
  obtain ⟨l, k, xs, rfl, rfl, hH, hne, h1, h2, hz, q⟩ := h
  cases rx
  obtain ⟨t, rfl⟩ := ry
  obtain ⟨its, r, ht, _⟩ := I.tuple hH
  obtain ⟨⟨cls, dd, data, sl⟩, ho, hc, n, hd⟩ := id ht
  simp only at hc hd
  subst hc hd
  have hi : its.toArray.isEmpty = false := by
    have : its ≠ [] := fun z => hne (r.nil_iff.mp z)
    cases its with
    | nil => exact absurd rfl this
    | cons a b => rfl
  have hlen : its.toArray.size * k.toNat ≤ sizeLine := by rw [List.size_toArray, ← r.length]; exact hz
  have f0 : ∀ m : Nat, List.foldl (fun x1 x2 => x1 ++ x2) #[] (List.replicate m its.toArray) = (List.replicate m its).flatten.toArray := fun m => by
    have := foldl_rep its m []
    rw [List.nil_append] at this
    exact this
  refine wpAny_binaryOp_repeat_ref (T := "tuple") (U := "int") (by decide) ⟨_, ho, rfl⟩ (fun s' => typeIs_int s' k t) noFill_tuple_mul F.fills_int_mul F.slot_int_rmul repeat_tuple F.slot_int_index.lookup
    (call_meets F.slot_int_rmul (typeIs_int s k t) F.entry_int_rmul (F.args_int_rmul_2 _ _) (rmul_int_tuple k t l its.toArray n dd sl) ⟨ho, rfl, ⟨_, ho, rfl⟩, ?_⟩)
  by_cases hk1 : k = 1
  · subst hk1
    refine call_meets F.slot_tuple_mul ⟨_, ho, rfl⟩ F.entry_tuple_mul (F.args_tuple_mul_2 _ _) (tuple_mul1 l its.toArray n dd sl t) ⟨ho, ?_⟩
    exact ⟨.ref l, H, I, rfl, q.old (by simpa using hH)⟩
  · by_cases hk0 : k ≤ 0
    · refine call_meets F.slot_tuple_mul ⟨_, ho, rfl⟩ F.entry_tuple_mul (F.args_tuple_mul_2 _ _) (tuple_mul0 l its.toArray n dd sl k t hk0 h1 hi) ⟨ho, ?_⟩
      have e : k.toNat = 0 := by omega
      rw [e] at q
      exact ⟨.ref _, _, I.laid (t' := s.toks) (o := .tup []) (fun b ob q => Heap.get?_push_of_some _ q) (Nat.le_refl _) ⟨Nat.zero_le _, [], .nil, IsTup.new _ _⟩, rfl, q.new I.fresh⟩
    · refine call_meets F.slot_tuple_mul ⟨_, ho, rfl⟩ F.entry_tuple_mul (F.args_tuple_mul_2 _ _) (tuple_mulN l its.toArray n dd sl k t (by omega) h2 hi hlen) ⟨ho, ?_⟩
      rw [f0]
      exact ⟨.ref _, _, I.laid (t' := s.toks) (o := .tup (List.replicate k.toNat xs).flatten) (fun b ob q => Heap.get?_push_of_some _ q) (Nat.le_refl _) ⟨by rw [len_rep, Nat.mul_comm]; exact hz, _, r.rep k.toNat, IsTup.new _ _⟩, rfl, q.new I.fresh⟩
end L2
namespace L2
open PySem PySem.Spec PyProof.Rows

/-! ### the block's scope, checked -/
def blkCheck (oN : List Str) (osc : Scope) (N : List Str) (own : Nat) (caps : List Nat) (scope : Scope) : Bool :=
  decide (scope.kind = .function) && decide N.Nodup && decide (scope.names.map (·.1)).Nodup &&
  scope.names.all (fun x => x.2 != .free || (decide (osc.names.lookup x.1 = some .cell) || decide (osc.names.lookup x.1 = some .free))) &&
  decide (N.length = own + caps.length) && decide (caps.map (fun i => oN[i]?) = (N.drop own).map some) && (N.drop own).all (fun x => decide (scope.names.lookup x = some .free))
theorem BlkScope.mk' {oN : List Str} {osc : Scope} {N : List Str} {own : Nat} {caps : List Nat} {scope : Scope} (h : blkCheck oN osc N own caps scope = true) : BlkScope oN osc N own caps scope := by
  unfold blkCheck at h
  simp only [Bool.and_eq_true, decide_eq_true_eq, List.all_eq_true, Bool.or_eq_true, bne_iff_ne, ne_eq] at h
  obtain ⟨⟨⟨⟨⟨⟨h1, h2⟩, h3⟩, h4⟩, h5⟩, h6⟩, h7⟩ := h
  exact ⟨h1, h2, h3, fun x hx hk => (h4 x hx).elim (fun z => absurd hk z) id, h5, h6, h7⟩

/-! ### comprehensions, in the forms one uses: the heap grows, the captured names cp stay -/
/-- behind a turn with n own names -/
def CpN (n : Nat) (cp : St) (H1 : Hp) (P : Hp → List V → Prop) : St → Hp → List V → Prop := fun σ H zs => (∃ o : St, o.length = n ∧ σ = o ++ cp) ∧ Same H1 H ∧ P H zs
section
variable {K : PySem.W.Frag} {H1 : Hp} {cp : St} {g : TG} {tt : TT} {te : TE} {Q : VK} {xs ys : List V} {l1 l2 a : Addr} {b1 b2 b : Bool} {n own : Nat} {J : It}
/-- any iterator that goes n turns over whatever grows out of H1 -/
theorem comp_any (Pv : Nat → Hp → List V → Prop) (hn : n ≤ sizeLine) (h0 : Pv 0 H1 []) (hlen : ∀ i H zs, Pv i H zs → zs.length ≤ i)
    (hgo : ∀ i H, Same H1 H → i < n → J.go i H) (hstop : ∀ H, Same H1 H → J.stop n H)
    (step : ∀ i o H zs, i < n → o.length = own → Same H1 H → Pv i H zs → ∀ x H2, J.yld i H x H2 → g x (o ++ cp) H2 fun σ3 H3 => tt σ3 H3 fun c H4 => if c = true then te σ3 H4 fun v H5 => CpN own cp H1 (Pv (i + 1)) σ3 H5 (zs ++ [v]) else CpN own cp H1 (Pv (i + 1)) σ3 H4 zs)
    (done : ∀ H zs, Same H1 H → Pv n H zs → ∀ p, H p = none → Q (.ref p) (upd H p (.lst zs))) :
    ∃ W : Nat → Nat → St → Hp → List V → Prop, (∃ m, W 0 m (List.replicate own none ++ cp) H1 []) ∧ CompW J g tt te Q W := by
  refine ⟨fun i m σ H zs => m = n - i ∧ i ≤ n ∧ CpN own cp H1 (Pv i) σ H zs, ⟨n, by simp, Nat.zero_le _, ⟨_, by simp, rfl⟩, .refl _, h0⟩, ?_⟩
  rintro i m σ H zs ⟨rfl, hi, ⟨o, ho, rfl⟩, sm, pv⟩
  have hl := hlen _ _ _ pv
  by_cases hlt : i < n
  · exact .inr ⟨hgo i H sm hlt, by omega, CpN own cp H1 (Pv (i + 1)), fun σ2 H2 zs2 q => ⟨n - (i + 1), by omega, rfl, hlt, q⟩, step i o H zs hlt ho sm pv⟩
  · have e : i = n := by omega
    subst e
    exact .inl ⟨hstop H sm, by omega, done H zs sm pv⟩
theorem one_of {o : St} (h : o.length = 1) : ∃ x, o = [x] := by
  match o, h with
  | [x], _ => exact ⟨x, rfl⟩
theorem two_of {o : St} (h : o.length = 2) : ∃ x y, o = [x, y] := by
  match o, h with
  | [x, y], _ => exact ⟨x, y, rfl⟩
/-- .. for x in a list or tuple -/
theorem comp_list (Pv : Nat → Hp → List V → Prop) (hq : SqL K H1 a xs) (hz : xs.length ≤ sizeLine) (h0 : Pv 0 H1 []) (hlen : ∀ i H zs, Pv i H zs → zs.length ≤ i)
    (step : ∀ i x H zs, xs[i]? = some x → Same H1 H → Pv i H zs → tt (some x :: cp) H fun c H4 => if c = true then te (some x :: cp) H4 fun v H5 => CpN 1 cp H1 (Pv (i + 1)) (some x :: cp) H5 (zs ++ [v]) else CpN 1 cp H1 (Pv (i + 1)) (some x :: cp) H4 zs)
    (done : ∀ H zs, Same H1 H → Pv xs.length H zs → ∀ p, H p = none → Q (.ref p) (upd H p (.lst zs))) :
    ∃ W : Nat → Nat → St → Hp → List V → Prop, (∃ m, W 0 m (List.replicate 1 none ++ cp) H1 []) ∧ CompW (Itl K a) (gName 0) tt te Q W := by
  refine comp_any (n := xs.length) Pv hz h0 hlen (fun i H sm hi => ⟨xs, xs[i], sm.seq hq, by simp [hi]⟩) (fun H sm => ⟨xs, sm.seq hq, Nat.le_refl _⟩) (fun i o H zs hi ho sm pv x H2 y => ?_) done
  obtain ⟨w, rfl⟩ := one_of ho
  obtain ⟨rfl, y⟩ := y
  exact step i x _ zs (y xs (sm.seq hq)) sm pv
theorem comp_tup (Pv : Nat → Hp → List V → Prop) (hq : SqT K H1 a xs) (hz : xs.length ≤ sizeLine) (h0 : Pv 0 H1 []) (hlen : ∀ i H zs, Pv i H zs → zs.length ≤ i)
    (step : ∀ i x H zs, xs[i]? = some x → Same H1 H → Pv i H zs → tt (some x :: cp) H fun c H4 => if c = true then te (some x :: cp) H4 fun v H5 => CpN 1 cp H1 (Pv (i + 1)) (some x :: cp) H5 (zs ++ [v]) else CpN 1 cp H1 (Pv (i + 1)) (some x :: cp) H4 zs)
    (done : ∀ H zs, Same H1 H → Pv xs.length H zs → ∀ p, H p = none → Q (.ref p) (upd H p (.lst zs))) :
    ∃ W : Nat → Nat → St → Hp → List V → Prop, (∃ m, W 0 m (List.replicate 1 none ++ cp) H1 []) ∧ CompW (Itt K a) (gName 0) tt te Q W := by
  refine comp_any (n := xs.length) Pv hz h0 hlen (fun i H sm hi => ⟨xs, xs[i], sm.seqT hq, by simp [hi]⟩) (fun H sm => ⟨xs, sm.seqT hq, Nat.le_refl _⟩) (fun i o H zs hi ho sm pv x H2 y => ?_) done
  obtain ⟨w, rfl⟩ := one_of ho
  obtain ⟨rfl, y⟩ := y
  exact step i x _ zs (y xs (sm.seqT hq)) sm pv
/-- .. for k in range(..) -/
theorem comp_rng {lo : Int} (Pv : Nat → Hp → List V → Prop) (hz : n ≤ sizeLine) (h0 : Pv 0 H1 []) (hlen : ∀ i H zs, Pv i H zs → zs.length ≤ i)
    (step : ∀ i H zs, i < n → Same H1 H → Pv i H zs → tt (some (.int (lo + (i : Nat))) :: cp) H fun c H4 => if c = true then te (some (.int (lo + (i : Nat))) :: cp) H4 fun v H5 => CpN 1 cp H1 (Pv (i + 1)) (some (.int (lo + (i : Nat))) :: cp) H5 (zs ++ [v]) else CpN 1 cp H1 (Pv (i + 1)) (some (.int (lo + (i : Nat))) :: cp) H4 zs)
    (done : ∀ H zs, Same H1 H → Pv n H zs → ∀ p, H p = none → Q (.ref p) (upd H p (.lst zs))) :
    ∃ W : Nat → Nat → St → Hp → List V → Prop, (∃ m, W 0 m (List.replicate 1 none ++ cp) H1 []) ∧ CompW (Itr lo n) (gName 0) tt te Q W := by
  refine comp_any (n := n) Pv hz h0 hlen (fun i H sm hi => hi) (fun H sm => Nat.le_refl _) (fun i o H zs hi ho sm pv x H2 y => ?_) done
  obtain ⟨w, rfl⟩ := one_of ho
  obtain ⟨rfl, rfl⟩ := y
  exact step i _ zs hi sm pv
/-- two names out of a pair -/
abbrev gPair (K : PySem.W.Frag) (i j : Nat) : TG := gTup K 2 (gCons (gName i) (gCons (gName j) gNil))
theorem gPair_at {p : Addr} {x y : V} {i j : Nat} {σ : St} {H : Hp} {R : St → Hp → Prop} (h : SqT K H p [x, y]) (q : R ((σ.set i (some x)).set j (some y)) H) : gPair K i j (.ref p) σ H R :=
  ⟨p, [x, y], rfl, h, rfl, x, [y], rfl, y, [], rfl, rfl, q⟩
theorem comp_zip (Pv : Nat → Hp → List V → Prop) (hq1 : Sq b1 K H1 l1 xs) (hq2 : Sq b2 K H1 l2 ys) (hl : xs.length = ys.length) (hz : xs.length ≤ sizeLine) (h0 : Pv 0 H1 []) (hlen : ∀ i H zs, Pv i H zs → zs.length ≤ i) (mono : ∀ i H H' zs, Same H H' → Pv i H zs → Pv i H' zs)
    (step : ∀ i x y H zs, xs[i]? = some x → ys[i]? = some y → Same H1 H → Pv i H zs → tt (some x :: some y :: cp) H fun c H4 => if c = true then te (some x :: some y :: cp) H4 fun v H5 => CpN 2 cp H1 (Pv (i + 1)) (some x :: some y :: cp) H5 (zs ++ [v]) else CpN 2 cp H1 (Pv (i + 1)) (some x :: some y :: cp) H4 zs)
    (done : ∀ H zs, Same H1 H → Pv xs.length H zs → ∀ p, H p = none → Q (.ref p) (upd H p (.lst zs))) :
    ∃ W : Nat → Nat → St → Hp → List V → Prop, (∃ m, W 0 m (List.replicate 2 none ++ cp) H1 []) ∧ CompW (Itz K b1 b2 l1 l2) (gPair K 0 1) tt te Q W := by
  refine comp_any (n := xs.length) Pv hz h0 hlen (fun i H sm hi => ⟨xs, ys, xs[i], ys[i], sm.sq hq1, sm.sq hq2, by simp [hi], by simp [hl ▸ hi]⟩) (fun H sm => ⟨xs, ys, sm.sq hq1, sm.sq hq2, .inl rfl⟩) (fun i o H zs hi ho sm pv v H2 yl => ?_) done
  obtain ⟨w1, w2, rfl⟩ := two_of ho
  obtain ⟨p, x, y, rfl, hp, rfl, hx, hy⟩ := yl
  refine gPair_at (.of upd_same) ?_
  have s2 : Same H (upd H p (.tup [x, y])) := .upd hp
  exact step i x y _ zs (hx xs (sm.sq hq1)) (hy ys (sm.sq hq2)) (sm.trans s2) (mono _ _ _ _ s2 pv)
theorem comp_enum (Pv : Nat → Hp → List V → Prop) (hq : Sq b K H1 a xs) (hz : xs.length ≤ sizeLine) (h0 : Pv 0 H1 []) (hlen : ∀ i H zs, Pv i H zs → zs.length ≤ i) (mono : ∀ i H H' zs, Same H H' → Pv i H zs → Pv i H' zs)
    (step : ∀ i x H zs, xs[i]? = some x → Same H1 H → Pv i H zs → tt (some (.int (i : Nat)) :: some x :: cp) H fun c H4 => if c = true then te (some (.int (i : Nat)) :: some x :: cp) H4 fun v H5 => CpN 2 cp H1 (Pv (i + 1)) (some (.int (i : Nat)) :: some x :: cp) H5 (zs ++ [v]) else CpN 2 cp H1 (Pv (i + 1)) (some (.int (i : Nat)) :: some x :: cp) H4 zs)
    (done : ∀ H zs, Same H1 H → Pv xs.length H zs → ∀ p, H p = none → Q (.ref p) (upd H p (.lst zs))) :
    ∃ W : Nat → Nat → St → Hp → List V → Prop, (∃ m, W 0 m (List.replicate 2 none ++ cp) H1 []) ∧ CompW (Ite K b a) (gPair K 0 1) tt te Q W := by
  refine comp_any (n := xs.length) Pv hz h0 hlen (fun i H sm hi => ⟨xs, xs[i], sm.sq hq, by simp [hi]⟩) (fun H sm => ⟨xs, sm.sq hq, rfl⟩) (fun i o H zs hi ho sm pv v H2 yl => ?_) done
  obtain ⟨w1, w2, rfl⟩ := two_of ho
  obtain ⟨p, x, rfl, hp, rfl, hx⟩ := yl
  refine gPair_at (.of upd_same) ?_
  have s2 : Same H (upd H p (.tup [.int i, x])) := .upd hp
  exact step i x _ zs (hx xs (sm.sq hq)) (sm.trans s2) (mono _ _ _ _ s2 pv)
end

/-! ### for over zip, enumerate -/
section
variable {K : PySem.W.Frag} {a l1 l2 : Addr} {xs ys : List V} {b b1 b2 : Bool} {tb : TS} {D : Ends} {σ : St} {H : Hp} {i j : Nat}
theorem for_zip (Pv : Nat → St → Hp → Prop) (hl : xs.length = ys.length) (h0 : Pv 0 σ H) (hq : ∀ k σ H, Pv k σ H → Sq b1 K H l1 xs ∧ Sq b2 K H l2 ys) (mono : ∀ k σ H H', Same H H' → Pv k σ H → Pv k σ H')
    (hs : ∀ k x y σ H, xs[k]? = some x → ys[k]? = some y → Pv k σ H → tb { D with nx := Pv (k + 1), ct := Pv (k + 1), bk := D.nx } ((σ.set i (some x)).set j (some y)) H) (hd : ∀ σ H, Pv xs.length σ H → D.nx σ H) :
    ∃ W : Nat → Nat → St → Hp → Prop, (∃ m, W 0 m σ H) ∧ ∀ k m σ H, W k m σ H →
      ((Itz K b1 b2 l1 l2).stop k H ∧ D.nx σ H) ∨ ((Itz K b1 b2 l1 l2).go k H ∧ ∃ N : St → Hp → Prop, (∀ σ' H', N σ' H' → ∃ m', m' < m ∧ W (k + 1) m' σ' H') ∧ ∀ x H', (Itz K b1 b2 l1 l2).yld k H x H' → gPair K i j x σ H' fun σ2 H2 => tb { D with nx := N, ct := N, bk := D.nx } σ2 H2) := by
  refine ⟨fun k m σ H => m = xs.length - k ∧ k ≤ xs.length ∧ Pv k σ H, ⟨xs.length, by simp, Nat.zero_le _, h0⟩, ?_⟩
  rintro k m σ H ⟨rfl, hk, p⟩
  obtain ⟨q1, q2⟩ := hq k σ H p
  by_cases hlt : k < xs.length
  · refine .inr ⟨⟨xs, ys, xs[k], ys[k], q1, q2, by simp [hlt], by simp [hl ▸ hlt]⟩, Pv (k + 1), fun σ' H' p' => ⟨xs.length - (k + 1), by omega, rfl, hlt, p'⟩, fun v H' yl => ?_⟩
    obtain ⟨pp, x, y, rfl, hp, rfl, hx, hy⟩ := yl
    exact gPair_at (.of upd_same) (hs k x y σ _ (hx xs q1) (hy ys q2) (mono _ _ _ _ (.upd hp) p))
  · have e : k = xs.length := by omega
    subst e
    exact .inl ⟨⟨xs, ys, q1, q2, .inl rfl⟩, hd σ H p⟩
theorem for_enum (Pv : Nat → St → Hp → Prop) (h0 : Pv 0 σ H) (hq : ∀ k σ H, Pv k σ H → Sq b K H a xs) (mono : ∀ k σ H H', Same H H' → Pv k σ H → Pv k σ H')
    (hs : ∀ k x σ H, xs[k]? = some x → Pv k σ H → tb { D with nx := Pv (k + 1), ct := Pv (k + 1), bk := D.nx } ((σ.set i (some (.int (k : Nat)))).set j (some x)) H) (hd : ∀ σ H, Pv xs.length σ H → D.nx σ H) :
    ∃ W : Nat → Nat → St → Hp → Prop, (∃ m, W 0 m σ H) ∧ ∀ k m σ H, W k m σ H →
      ((Ite K b a).stop k H ∧ D.nx σ H) ∨ ((Ite K b a).go k H ∧ ∃ N : St → Hp → Prop, (∀ σ' H', N σ' H' → ∃ m', m' < m ∧ W (k + 1) m' σ' H') ∧ ∀ x H', (Ite K b a).yld k H x H' → gPair K i j x σ H' fun σ2 H2 => tb { D with nx := N, ct := N, bk := D.nx } σ2 H2) := by
  refine ⟨fun k m σ H => m = xs.length - k ∧ k ≤ xs.length ∧ Pv k σ H, ⟨xs.length, by simp, Nat.zero_le _, h0⟩, ?_⟩
  rintro k m σ H ⟨rfl, hk, p⟩
  have q := hq k σ H p
  by_cases hlt : k < xs.length
  · refine .inr ⟨⟨xs, xs[k], q, by simp [hlt]⟩, Pv (k + 1), fun σ' H' p' => ⟨xs.length - (k + 1), by omega, rfl, hlt, p'⟩, fun v H' yl => ?_⟩
    obtain ⟨pp, x, rfl, hp, rfl, hx⟩ := yl
    exact gPair_at (.of upd_same) (hs k x σ _ (hx xs q) (mono _ _ _ _ (.upd hp) p))
  · have e : k = xs.length := by omega
    subst e
    exact .inl ⟨⟨xs, q, rfl⟩, hd σ H p⟩
end
end L2
namespace L2
open PySem PySem.Spec PyProof.Rows
/-! ### isinstance of what is read -/
theorem kit_int_int (K : PySem.W.Frag) : PySem.W.kitOne K (.type "int") (.type "int") = some true := by kernel_rfl
theorem kit_int_bool (K : PySem.W.Frag) : PySem.W.kitOne K (.type "int") (.type "bool") = some false := by kernel_rfl
theorem kit_int_tuple (K : PySem.W.Frag) : PySem.W.kitOne K (.type "int") (.type "tuple") = some false := by kernel_rfl
theorem kit_tuple_tuple (K : PySem.W.Frag) : PySem.W.kitOne K (.type "tuple") (.type "tuple") = some true := by kernel_rfl
theorem kit_tuple_int (K : PySem.W.Frag) : PySem.W.kitOne K (.type "tuple") (.type "int") = some false := by kernel_rfl
theorem kit_str_int (K : PySem.W.Frag) : PySem.W.kitOne K (.type "str") (.type "int") = some false := by kernel_rfl
section
variable {X : Cx}
theorem call_isinstT {T : String} : CallR X (.builtin "isinstance") (fun xs H Q => ∃ a ys b, xs = [.ref a, .ty T] ∧ SqT X.K H a ys ∧ PySem.W.kitOne X.K (.type "tuple") (.type T) = some b ∧ Q (.bl b) H) := by
  intro pins s σ H vs us Q I r h
  obtain ⟨a, ys, b, rfl, hq, e, q⟩ := h
  obtain ⟨u, v, rfl, ru, rv⟩ := vals2 r
  cases ru
  cases rv
  obtain ⟨its, rr, ⟨o, h1, h2, _⟩, _⟩ := I.tuple hq
  exact PySem.W.kia_one PySem.W.kitx_tuple I.kIn ⟨o, h1, h2⟩ e (fun z => nomatch z) fun tk => ⟨.bl b, H, I.tok tk, rfl, q⟩
theorem call_isinstI {T : String} : CallR X (.builtin "isinstance") (fun xs H Q => ∃ i b, xs = [.int i, .ty T] ∧ PySem.W.kitOne X.K (.type "int") (.type T) = some b ∧ Q (.bl b) H) := by
  intro pins s σ H vs us Q I r h
  obtain ⟨i, b, rfl, e, q⟩ := h
  exact call_isinst pins s σ H _ us Q I r ⟨.int i, _, b, rfl, .int i, e, q⟩
end
/-! ### values -/
theorem relTy (n : String) : RelV (.ty n) (.type n) := rfl
/-- a name of a builtin type as a value -/
theorem pe_ty {X : Cx} {x : Str} {T : String} {pos : Pos} (hg : Gl X x) (hm : X.mg x = none) (hv : bootBuiltins x = some (.type T)) (hn : x ≠ "__name__" := by decide) (hd : (x == ("__debug__" : Str)) = false := by decide) : PE X (.Name x pos) (tC (.ty T)) := pe_bltn hg hm hv (relTy T) hn hd
end L2
namespace L2
open PySem PySem.Spec PyProof.Rows
/-! ### a display of written ints -/
def constInts : List Expr → Option (List Int)
  | [] => some []
  | .Constant (.int i) _ _ :: es => (constInts es).map (i :: ·)
  | _ => none
theorem pa_ints {X : Cx} : ∀ (es : List Expr) (ns : List Int), constInts es = some ns → PA X es (fun _ H Q => Q (ns.map V.int) H)
  | [], ns, h => by
    cases h
    exact pa_nil
  | .Constant (.int i) j pos :: es, ns, h => by
    unfold constInts at h
    cases e : constInts es with
    | none => rw [e] at h; cases h
    | some ms =>
      rw [e] at h
      have h' : i :: ms = ns := Option.some.inj h
      subst h'
      exact pa_cons pe_int (pa_ints es ms e) rfl
  | .Constant .none _ _ :: _, _, h => by cases h
  | .Constant (.bool _) _ _ :: _, _, h => by cases h
  | .Constant (.str _) _ _ :: _, _, h => by cases h
  | .Constant (.bytes _) _ _ :: _, _, h => by cases h
  | .Constant .ellipsis _ _ :: _, _, h => by cases h
  | .Name .. :: _, _, h => by cases h
theorem hasT {K : PySem.W.Frag} {H : Hp} {x : V} {r : List Int} (h : HasD K H x (intsT r)) : ∃ a, x = .ref a ∧ SqT K H a (r.map V.int) := by
  unfold intsT at h
  cases h with
  | tuple hq ha => exact ⟨_, rfl, by rw [← ha.intsV]; exact hq⟩
theorem hasT_of {K : PySem.W.Frag} {H : Hp} {a : Addr} {r : List Int} (h : SqT K H a (r.map V.int)) : HasD K H (.ref a) (intsT r) := .tuple h (HasA.ints r)
/-- a fresh object is written again -/
theorem Same.write {H H' : Hp} {l : Addr} {o : HO} (sm : Same H H') (h : H l = none) : Same H (L2.upd H' l o) := fun b u e => by rw [upd_ne (ne_of_none e h)]; exact sm b u e
end L2

namespace L2
open PySem PySem.Spec PyProof.Rows
open Classical in
theorem iteNeD {d e : PySem.W.Dat} {A B : Prop} (h : d = e) (b : B) : if (if true = true then !decide (d = e) else decide (d = e)) = true then A else B := by
  subst h
  simp only [decide_true, Bool.not_true, if_true, Bool.false_eq_true, if_false]
  exact b
open Classical in
theorem eqD_same {d e : PySem.W.Dat} (h : d = e) : (if false = true then !decide (d = e) else decide (d = e)) = true := by
  subst h
  simp only [decide_true, Bool.false_eq_true, if_false]
theorem kqd_ints (n : Nat) (ns : List Int) : (ns.map PySem.W.Dat.int).all (PySem.W.kqdOk n) = true := by
  rw [List.all_map]
  exact List.all_eq_true.mpr fun _ _ => by cases n <;> rfl
theorem kqd_rows (n : Nat) (rs : List (List Int)) : (rs.map intsT).all (PySem.W.kqdOk (n + 1)) = true := by
  rw [List.all_map]
  exact List.all_eq_true.mpr fun r _ => kqd_intsT n r
theorem kqd_two (rs : List (List Int)) (fs : List Int) : PySem.W.kqdOk 8 (.list [.list (rs.map intsT), .list (fs.map .int)]) = true := by
  show ([PySem.W.Dat.list (rs.map intsT), PySem.W.Dat.list (fs.map .int)]).all (PySem.W.kqdOk 7) = true
  rw [List.all_cons, List.all_cons, List.all_nil, Bool.and_true]
  show ((rs.map intsT).all (PySem.W.kqdOk 6) && (fs.map PySem.W.Dat.int).all (PySem.W.kqdOk 6)) = true
  rw [kqd_rows 5, kqd_ints]
  rfl
end L2

namespace L2
theorem iteD {c A B : Prop} [Decidable c] (hc : ¬ c) (h : B) : if decide c = true then A else B := by
  rw [decide_eq_false hc]
  exact iteF h
end L2
namespace L2
open PySem PySem.Spec PyProof.Rows
/-! ### the rules that name the written part, with it named: for a comprehension's block -/
section
variable {X : Cx} (K : PySem.W.Frag) (hK : X.K = K)
include hK
theorem ixL : IxR X (rIxL K) := hK ▸ ix_list
theorem ixT : IxR X (rIxT K) := hK ▸ ix_tup
theorem slL : SlR X (rSlL K) := hK ▸ sl_list
theorem cLen : CallR X (.builtin "len") (fun xs H Q => ∃ p ys, xs = [.ref p] ∧ (SqL K H p ys ∨ SqT K H p ys) ∧ Q (.int ys.length) H) := hK ▸ call_len_seq
theorem cList : CallR X (.type "list") (fun xs H Q => ∃ p ys, xs = [.ref p] ∧ (SqL K H p ys ∨ SqT K H p ys) ∧ ∀ l, H l = none → Q (.ref l) (upd H l (.lst ys))) := hK ▸ call_list_of
theorem cTuple : CallR X (.type "tuple") (fun xs H Q => ∃ p ys, xs = [.ref p] ∧ ((SqL K H p ys ∧ ∀ l, H l = none → Q (.ref l) (upd H l (.tup ys))) ∨ (SqT K H p ys ∧ Q (.ref p) H))) := hK ▸ call_tuple_of
theorem cIsT {T : String} : CallR X (.builtin "isinstance") (fun xs H Q => ∃ a ys b, xs = [.ref a, .ty T] ∧ SqT K H a ys ∧ PySem.W.kitOne K (.type "tuple") (.type T) = some b ∧ Q (.bl b) H) := hK ▸ call_isinstT
theorem cIsI {T : String} : CallR X (.builtin "isinstance") (fun xs H Q => ∃ i b, xs = [.int i, .ty T] ∧ PySem.W.kitOne K (.type "int") (.type T) = some b ∧ Q (.bl b) H) := hK ▸ call_isinstI
theorem cSum (hc : X.calm = true) : CallR X (.builtin "sum") (fun xs H Q => ∃ p ns, xs = [.ref p] ∧ SqL K H p (List.map V.int ns) ∧ Q (.int ns.sum) H) := hK ▸ call_sum hc
theorem opEqD (hu : X.A.units + 64 < cLine) : OpR X (compareOp .Eq) (rEqD K false) := hK ▸ op_eqD hu
theorem opNeD (hu : X.A.units + 64 < cLine) : OpR X (compareOp .NotEq) (rEqD K true) := hK ▸ op_neD hu
theorem opRepT : OpR X (binaryOp .Mult) (rRepT K) := hK ▸ op_repT
theorem opIn : OpR X (compareOp .In) (rIn K false) := hK ▸ op_in_seq
theorem opNotIn : OpR X (compareOp .NotIn) (rIn K true) := hK ▸ op_notIn_seq
theorem piList {tg l : Expr} {tl : TE} (hl : PE X l tl) : PI X tg l (iList K tl) := hK ▸ pi_list hl
theorem piTup {tg l : Expr} {tl : TE} (hl : PE X l tl) : PI X tg l (iTup K tl) := hK ▸ pi_tup hl
theorem piZip (b1 b2 : Bool) {a b : Expr} {ta : TA} {p pos pt : Pos} {es : List Expr} {kt : Nat} (hg : Gl X "zip") (hm : X.mg "zip" = none) (ha : PA X [a, b] ta) (hs : starEach [a, b] X.env = [(false, eval a X.env), (false, eval b X.env)] := by rfl) (hs2 : starEach [b] X.env = [(false, eval b X.env)] := by rfl) :
    PI X (.Tuple es kt pt) (.Call (.Name "zip" p) [a, b] [] pos) (iZip K b1 b2 ta) := hK ▸ pi_zip b1 b2 hg hm ha hs hs2
theorem piEnum (b : Bool) {a : Expr} {ta : TA} {p pos pt : Pos} {es : List Expr} {kt : Nat} (hg : Gl X "enumerate") (hm : X.mg "enumerate" = none) (ha : PA X [a] ta) (hs : starEach [a] X.env = [(false, eval a X.env)] := by rfl) :
    PI X (.Tuple es kt pt) (.Call (.Name "enumerate" p) [a] [] pos) (iEnum K b ta) := hK ▸ pi_enum b hg hm ha hs
theorem pgTup {es : List Expr} {k : Nat} {t : TGs} {n : Nat} {pos : Pos} (hc : X.calm = true) (h : PGs X es t)
    (hn : (assignEach es X.env).length = n := by rfl) (hst : (assignEach es X.env).findIdx? (·.1) = none := by rfl) : PG X (.Tuple es k pos) (gTup K n t) := hK ▸ pg_tup hc h hn hst
end
theorem bt_tuple : bootBuiltins "tuple" = some (.type "tuple") := by decide +kernel
theorem bt_list : bootBuiltins "list" = some (.type "list") := by decide +kernel
theorem bt_int : bootBuiltins "int" = some (.type "int") := by decide +kernel
theorem bt_str : bootBuiltins "str" = some (.type "str") := by decide +kernel
theorem bt_bool : bootBuiltins "bool" = some (.type "bool") := by decide +kernel
theorem bt_range : bootBuiltins "range" = some (.type "range") := by decide +kernel
theorem bt_isinstance : bootBuiltins "isinstance" = some (.builtin "isinstance") := by decide +kernel
theorem bt_sum : bootBuiltins "sum" = some (.builtin "sum") := by decide +kernel
theorem bt_len : bootBuiltins "len" = some (.builtin "len") := by decide +kernel
end L2
namespace L2
/-- a comprehension without a test -/
theorem tgo {σ : St} {H : Hp} {Y N : Hp → Prop} (h : Y H) : tTrue σ H (fun c H4 => if c = true then Y H4 else N H4) := by
  show if true = true then Y H else N H
  exact iteT h
end L2

namespace L2
open PySem
/-- a display of written ints, behind a wall (so that nobody runs it) -/
structure PAI (X : Cx) (es : List Expr) (ns : List Int) : Prop where
  get : PA X es (fun _ H Q => Q (ns.map V.int) H)
theorem pai {X : Cx} {es : List Expr} {ns : List Int} (h : constInts es = some ns) : PAI X es ns := ⟨pa_ints es ns h⟩
def tInts (ns : List Int) : TE := tLst (fun _ H Q => Q (ns.map V.int) H)
theorem pe_ints {X : Cx} {es : List Expr} {ns : List Int} {pos : Pos} (h : PAI X es ns) : PE X (.List es pos) (tInts ns) := pe_lst h.get
end L2
namespace L2
open PySem PySem.Spec PyProof.Rows
set_option maxRecDepth 100000
/-! ### a, b = a list -/
section
variable {X : Cx} {pos : Pos}
def gLst (K : PySem.W.Frag) (n : Nat) (t : TGs) : TG := fun v σ H Q => ∃ a xs, v = .ref a ∧ SqL K H a xs ∧ xs.length = n ∧ t xs σ H Q
theorem pg_lst {es : List Expr} {k n : Nat} {t : TGs} (hc : X.calm = true) (h : PGs X es t) (hn : (assignEach es X.env).length = n := by rfl) (hst : (assignEach es X.env).findIdx? (·.1) = none := by rfl) : PG X (.Tuple es k pos) (gLst X.K n t) := by
  rintro pins s σ H v u Q I r ⟨a, xs, rfl, hq, hl, hw⟩
  cases r
  obtain ⟨its, rv, pl, _⟩ := I.list hq
  have sz : its.toArray.size = n := by rw [List.size_toArray, ← rv.length, hl]
  rw [assign_Tuple]
  refine wpAny_bind (wpAny_standAt ?_)
  unfold unpack
  rw [hst, hn, ← sz]
  refine wpAny_bind (wpAny_holding (PySem.W.kun_itemsOf (I.ok.hd hc) pl.isList fun h' ex => ?_))
  exact h pins _ σ H xs _ Q (I.kept (t' := s.toks) fun b o e => ex b o (Nat.ne_of_lt (Heap.lt_size e)) e) (by simpa using rv) hw
end
/-! ### range(0, j, 2) -/
def Itc (c : Int) (n : Nat) : It := ⟨fun i _ => i < n, fun i H x H' => H' = H ∧ x = .int (i * c), fun i _ => n ≤ i⟩
theorem turn_step {P : Program} {w : World} {K : PySem.W.Frag} {tg : Expr} (it : Addr) (c : Int) (n : Nat) : Turn P w K tg (Itc c n) [it] it (fun i h => IsRangeIter h it (0 + (i : Nat) * c) ((n : Int) - (i : Nat)) c) := by
  refine ⟨List.mem_singleton.mpr rfl, fun i h st b hb => ?_, fun i h h' st q => q it (List.mem_singleton.mpr rfl) _ st, ?_, ?_, fun _ _ _ _ _ st q => wpAny_pyIter_rangeiter st q⟩
  · cases List.mem_singleton.mp hb
    refine ⟨_, st, fun v q => ?_⟩
    have q' : Data.fields _ = Data.cell v := q
    cases q'
  · rintro X rfl rfl rfl hc i pins s σ H E I hf st hg
    obtain ⟨f0, f1, _, f3, f4, f5⟩ := hf it (List.mem_singleton.mpr rfl)
    refine (Walks.range (I.ok.hd hc) it 0 c n).item i s _ _ hg st fun v h' tk hv st' kk => ?_
    obtain ⟨t, rfl⟩ := hv
    have I1 := I.turned (h' := h') (t' := tk) (it := it) (fun b o hb e => kk b o (fun z => hb (List.mem_singleton.mp z)) e) f0 f1 f3 f4 f5
    exact ⟨_, rfl, go_of (s := { s with heap := h', toks := tk }) (n := "range_iterator") st' rfl rfl (by decide) ⟨.int (i * c), H, I1, ⟨t, by rw [Int.zero_add]⟩, ⟨rfl, rfl⟩, st', fun b hb => (hf b hb).1⟩⟩
  · rintro X rfl rfl rfl hc i pins s σ H E I hf st hg
    obtain ⟨f0, f1, _, f3, f4, f5⟩ := hf it (List.mem_singleton.mpr rfl)
    have hg : n ≤ i := hg
    exact wpAny_pyNext_range_end (I.ok.hd hc) st (by omega) fun h' eb => ⟨rfl, I.turned (t' := s.toks) (fun b o hb e => eb b o hb e) f0 f1 f3 f4 f5⟩
def iStep2 (ta : TA) : TI := fun σ H R => ta σ H fun vs H1 => ∃ j : Int, vs = [.int 0, .int j, .int 2] ∧ 0 ≤ j ∧ j < 1000000 ∧ R (Itc 2 ((j + 1) / 2).toNat) H1
theorem size2 {j : Int} (h : 0 ≤ j) : Builtin.Range.rangeSize 0 j 2 = (((j + 1) / 2).toNat : Int) := by
  unfold Builtin.Range.rangeSize; rw [if_pos (by decide)]
  split <;> omega
theorem small2 {j : Int} (h : 0 ≤ j) (h2 : j < 1000000) : Builtin.Range.small 0 j 2 = true := by
  unfold Builtin.Range.small
  rw [size2 h]
  have fl : ∀ i : Int, -1000000 ≤ i → i ≤ 1000001 → Builtin.Range.rangeFitsLong i = true := fun i a b => by
    unfold Builtin.Range.rangeFitsLong
    rw [Bool.and_eq_true, decide_eq_true_eq, decide_eq_true_eq]
    omega
  have m0 : (0 : Int) ≤ (((j + 1) / 2).toNat : Int) := Int.natCast_nonneg _
  have m1 : (((j + 1) / 2).toNat : Int) ≤ 1000001 := by omega
  generalize (((j + 1) / 2).toNat : Int) = m at m0 m1 ⊢
  have e5 : j + (2 - 1) = j + 1 := rfl
  rw [e5]
  have h5 := fl (j + 1) (by omega) (by omega)
  generalize j + 1 = j' at h5 ⊢
  rw [fl j (by omega) (by omega), fl m (by omega) (by omega), h5]
  have h0 := fl 0 (by decide) (by decide)
  have h2 := fl 2 (by decide) (by decide)
  generalize Builtin.Range.rangeFitsLong 0 = b0 at h0 ⊢
  generalize Builtin.Range.rangeFitsLong 2 = b2 at h2 ⊢
  subst h0 h2
  cases m == 0 <;> rfl
theorem vals_cons {x : V} {xs : List V} {us : List Value} (r : Vals (x :: xs) us) : ∃ u us', us = u :: us' ∧ RelV x u ∧ Vals xs us' := by
  cases r with
  | cons a b => exact ⟨_, _, rfl, a, b⟩
theorem pi_step2 {X : Cx} {tg : Expr} {a b c : Expr} {ta : TA} {p pos : Pos} (hg : Gl X "range") (hm : X.mg "range" = none) (ha : PA X [a, b, c] ta) (hs : starEach [a, b, c] X.env = [(false, eval a X.env), (false, eval b X.env), (false, eval c X.env)] := by rfl)
    (hs2 : starEach [b, c] X.env = [(false, eval b X.env), (false, eval c X.env)] := by rfl) : PI X tg (.Call (.Name "range" p) [a, b, c] [] pos) (iStep2 ta) := by
  intro pins s σ H R I h
  refine Call_ (ld_blt I hg hm boot_range (PyProof.Rows.callWith_type1 (thn (ha pos pins s σ H _ I h) fun us s1 ⟨vs, H1, I1, r1, q1⟩ => ?_) (by rw [hs, hs2]) (by rw [hs2]; rfl)))
  obtain ⟨j, rfl, j0, j1, q⟩ := q1
  obtain ⟨u1, us1, rfl, ⟨t, rfl⟩, r2⟩ := vals_cons r1
  obtain ⟨u2, us2, rfl, ⟨t', rfl⟩, r3⟩ := vals_cons r2
  obtain ⟨u3, us3, rfl, ⟨t2, rfl⟩, r4⟩ := vals_cons r3
  cases r4
  refine call_range_3 (by decide) ?_ (Or.inl (PyProof.noPylong_small (by omega)))
  refine wpAny_pyIter_range (IsRange.new ..) (small2 j0 j1) ?_
  have up : ∀ b o, s1.heap.get? b = some o → (s1.heap.push { cls := .type "range", data := .fields #[.int 0 t, .int j t', .int 2 t2] }).get? b = some o := fun b o e => Heap.get?_push_of_some _ e
  have I2 := I1.kept (t' := s1.toks) up
  generalize s1.heap.push { cls := .type "range", data := .fields #[.int 0 t, .int j t', .int 2 t2] } = h2 at I2 ⊢
  have I3 : Inv X pins σ H1 { s1 with heap := h2.push { cls := .type "range_iterator", data := .fields #[rawInt 0, rawInt (Builtin.Range.rangeSize 0 j 2), rawInt 2] }, toks := s1.toks } := I2.kept (t' := s1.toks) fun b o e => Heap.get?_push_of_some _ e
  refine ⟨h2.objs.size, [h2.objs.size], _, _, H1, rfl, I3, turn_step _ 2 ((j + 1) / 2).toNat, ?_, fun b hb => ?_, q⟩
  · have e2 : ((((j + 1) / 2).toNat : Nat) : Int) - ((0 : Nat) : Int) = Builtin.Range.rangeSize 0 j 2 := by rw [size2 j0]; simp
    show IsRangeIter _ _ (0 + ((0 : Nat) : Int) * 2) _ 2
    rw [e2]
    exact Heap.get?_push_size _ rfl
  · cases List.mem_singleton.mp hb
    exact I2.fpOk (Nat.le_refl _) (I2.hok.fresh (Nat.le_refl _))
theorem for_step {c : Int} {n : Nat} {g : TG} {tb : TS} {D : Ends} {σ : St} {H : Hp} (Pv : Nat → St → Hp → Prop) (h0 : Pv 0 σ H)
    (hs : ∀ i σ H, i < n → Pv i σ H → g (.int (i * c)) σ H fun σ2 H2 => tb { D with nx := Pv (i + 1), ct := Pv (i + 1), bk := D.nx } σ2 H2) (hd : ∀ σ H, Pv n σ H → D.nx σ H) :
    ∃ W : Nat → Nat → St → Hp → Prop, (∃ m, W 0 m σ H) ∧ ∀ i m σ H, W i m σ H →
      ((Itc c n).stop i H ∧ D.nx σ H) ∨ ((Itc c n).go i H ∧ ∃ N : St → Hp → Prop, (∀ σ' H', N σ' H' → ∃ m', m' < m ∧ W (i + 1) m' σ' H') ∧ ∀ x H', (Itc c n).yld i H x H' → g x σ H' fun σ2 H2 => tb { D with nx := N, ct := N, bk := D.nx } σ2 H2) := by
  refine ⟨fun i m σ H => m + i = n ∧ Pv i σ H, ⟨n, rfl, h0⟩, ?_⟩
  rintro i m σ H ⟨e, p⟩
  cases m with
  | zero =>
    have : i = n := by omega
    subst this
    exact .inl ⟨Nat.le_refl _, hd σ H p⟩
  | succ m =>
    refine .inr ⟨show i < n by omega, Pv (i + 1), fun σ' H' p' => ⟨m, Nat.lt_succ_self _, by omega, p'⟩, ?_⟩
    rintro x H' ⟨rfl, rfl⟩
    exact hs i σ _ (by omega) p
end L2
namespace L2
open PySem PySem.Spec PyProof.Rows
set_option maxRecDepth 100000
/-! ### t + u of any two tuples -/
theorem add_none (l b : Addr) (its its2 : Array Value) (n n2 : Nat) (dd dd2 : Option Addr) (sl sl2 : Array (Option Value)) (he : its.isEmpty = true) :
    Meets (Builtin.«tuple.__add__» ⟨[.ref l, .ref b], []⟩) (fun _ R s => s.heap.get? l = some { cls := .type "tuple", dict := dd, data := .seq its n, slots := sl } ∧ s.heap.get? b = some { cls := .type "tuple", dict := dd2, data := .seq its2 n2, slots := sl2 } ∧ R (.ok (.ret (.ref b))) s) :=
  .of_wp fun _ _ _ _ s h => by
    obtain ⟨hpA, gA, dA, tkA, osA⟩ := s
    have at0 := h.1
    have at1 := h.2.1
    have f2 := AutoSeq1.sub_tuple_tuple
    wp_walk using AutoSeq1.wpAny_loadPart' at0, AutoSeq1.wpAny_loadPart' at1
    exact ⟨_, rfl, h.2.2⟩
def rCatA (K : PySem.W.Frag) : R2 := fun x y H Q => ∃ a b xs ys, x = .ref a ∧ y = .ref b ∧ SqT K H a xs ∧ SqT K H b ys ∧ xs.length + ys.length ≤ sizeLine ∧ AnyT K H (xs ++ ys) Q
theorem op_catA {X : Cx} : OpR X (binaryOp .Add) (rCatA X.K) := by
  rintro pins s σ H x y v u Q I rx ry ⟨a, b, xs, ys, rfl, rfl, ha, hb, hz, q⟩
  by_cases hx : xs = []
  · subst hx
    cases rx
    cases ry
    obtain ⟨its, r1, ⟨⟨c1, d1, t1, s1⟩, o1, e1, n1, f1⟩, _⟩ := I.tuple ha
    obtain ⟨its2, r2, ⟨⟨c2, d2, t2, s2⟩, o2, e2, n2, f2⟩, _⟩ := I.tuple hb
    simp only at e1 f1 e2 f2
    subst e1 f1 e2 f2
    cases r1
    refine concat_meets ⟨_, o1, rfl⟩ ⟨_, o2, rfl⟩ noFill_tuple_add seq_tuple_add PySem.F.slot_tuple_add PySem.F.entry_tuple_add (PySem.F.args_tuple_add_2 _ _) (add_none a b _ _ _ _ d1 d2 s1 s2 rfl) ⟨o1, o2, ?_⟩
    exact ⟨.ref b, H, I, rfl, q.old hb⟩
  · refine op_catT pins s σ H _ _ v u Q I rx ry ⟨a, b, xs, ys, rfl, rfl, ha, hb, hx, hz, fun hy => ?_, fun _ p hp => q.new hp⟩
    subst hy
    exact q.old (by rw [List.append_nil]; exact ha)
theorem opCatA {X : Cx} (K : PySem.W.Frag) (hK : X.K = K) : OpR X (binaryOp .Add) (rCatA K) := hK ▸ op_catA
theorem slT {X : Cx} (K : PySem.W.Frag) (hK : X.K = K) : SlR X (rSlT K) := hK ▸ sl_tup
end L2
namespace L2
open PySem PySem.Spec PyProof.Rows
set_option maxRecDepth 100000
/-! ### all(a list of truths), any(..) -/
theorem bools_as : ∀ {bs : List Bool} {its : List Value}, Vals (bs.map V.bl) its → its = bs.map Value.bool
  | [], _, .nil => rfl
  | b :: bs, _, .cons r rr => by
    cases r
    rw [bools_as rr]; rfl
theorem rng_map (d : Bool) (bs : List Bool) : (List.range bs.length).map (fun i => (bs[i]?).getD d) = bs := by
  apply List.ext_getElem
  · simp
  · intro i h1 h2
    simp [List.getElem?_eq_getElem h2]
theorem rng_all (bs : List Bool) : ((List.range bs.length).all fun i => (bs[i]?).getD true) = bs.all id := by
  have e := congrArg (fun l => List.all l id) (rng_map true bs)
  rw [← e]
  simp only [List.all_map]; rfl
theorem rng_any (bs : List Bool) : ((List.range bs.length).any fun i => (bs[i]?).getD false) = bs.any id := by
  have e := congrArg (fun l => List.any l id) (rng_map false bs)
  rw [← e]
  simp only [List.any_map]; rfl
section
variable {X : Cx}
theorem call_all (hc : X.calm = true) : CallR X (.builtin "all") (fun xs H Q => ∃ p bs, xs = [.ref p] ∧ SqL X.K H p (List.map V.bl bs) ∧ Q (.bl (bs.all id)) H) := by
  intro pins s σ H vs us Q I r h
  obtain ⟨p, bs, rfl, hq, q⟩ := h
  obtain ⟨u, rfl, ru⟩ := vals1 r
  cases ru
  obtain ⟨its, rv, pl, hz⟩ := I.list hq
  have e := bools_as rv
  subst e
  have hl := pl.isList
  have hlt : p < s.heap.objs.size := by obtain ⟨_, e, _⟩ := hl; exact Heap.lt_size e
  apply call_all_walk
  apply wpAny_pyIter_list hl
  refine ⟨s.heap.objs.size, [s.heap.objs.size, p], [s.heap.objs.size], (bs.map Value.bool).toArray.size, _, _, fun i => (bs[i]?).getD true, rfl, Walks.list (A := X.A.in1) (I.ok.hd hc) _ p (Nat.ne_of_lt hlt) (bs.map Value.bool).toArray,
    ⟨⟨_, Heap.get?_push_size _ rfl, rfl, rfl⟩, hl.push _⟩, fun i v s1 Q1 E1 hP hQ => ?_, fun h1 tk1 hk => ?_⟩
  · have hP : (bs.map Value.bool)[i]? = some v := by simpa using hP
    rw [List.getElem?_map] at hP
    cases e : bs[i]? with
    | none => rw [e] at hP; cases hP
    | some b =>
      rw [e] at hP
      cases hP
      dsimp only at hQ
      rw [e, Option.getD_some] at hQ
      exact wpAny_truthy_bool hQ
  · have e : ((List.range (bs.map Value.bool).toArray.size).all fun i => (bs[i]?).getD true) = bs.all id := by
      rw [List.size_toArray, List.length_map]; exact rng_all bs
    rw [e]
    refine ⟨.bl _, H, I.kept (fun b x e => hk b x (fun hm => by rw [List.mem_singleton.mp hm] at e; exact Nat.lt_irrefl _ (Heap.lt_size e)) (Heap.get?_push_of_some _ e)), rfl, q⟩
theorem call_any (hc : X.calm = true) : CallR X (.builtin "any") (fun xs H Q => ∃ p bs, xs = [.ref p] ∧ SqL X.K H p (List.map V.bl bs) ∧ Q (.bl (bs.any id)) H) := by
  intro pins s σ H vs us Q I r h
  obtain ⟨p, bs, rfl, hq, q⟩ := h
  obtain ⟨u, rfl, ru⟩ := vals1 r
  cases ru
  obtain ⟨its, rv, pl, hz⟩ := I.list hq
  have e := bools_as rv
  subst e
  have hl := pl.isList
  have hlt : p < s.heap.objs.size := by obtain ⟨_, e, _⟩ := hl; exact Heap.lt_size e
  apply call_any_walk
  apply wpAny_pyIter_list hl
  refine ⟨s.heap.objs.size, [s.heap.objs.size, p], [s.heap.objs.size], (bs.map Value.bool).toArray.size, _, _, fun i => (bs[i]?).getD false, rfl, Walks.list (A := X.A.in1) (I.ok.hd hc) _ p (Nat.ne_of_lt hlt) (bs.map Value.bool).toArray,
    ⟨⟨_, Heap.get?_push_size _ rfl, rfl, rfl⟩, hl.push _⟩, fun i v s1 Q1 E1 hP hQ => ?_, fun h1 tk1 hk => ?_⟩
  · have hP : (bs.map Value.bool)[i]? = some v := by simpa using hP
    rw [List.getElem?_map] at hP
    cases e : bs[i]? with
    | none => rw [e] at hP; cases hP
    | some b =>
      rw [e] at hP
      cases hP
      dsimp only at hQ
      rw [e, Option.getD_some] at hQ
      exact wpAny_truthy_bool hQ
  · have e : ((List.range (bs.map Value.bool).toArray.size).any fun i => (bs[i]?).getD false) = bs.any id := by
      rw [List.size_toArray, List.length_map]; exact rng_any bs
    rw [e]
    refine ⟨.bl _, H, I.kept (fun b x e => hk b x (fun hm => by rw [List.mem_singleton.mp hm] at e; exact Nat.lt_irrefl _ (Heap.lt_size e)) (Heap.get?_push_of_some _ e)), rfl, q⟩
theorem cAll (K : PySem.W.Frag) (hK : X.K = K) (hc : X.calm = true) : CallR X (.builtin "all") (fun xs H Q => ∃ p bs, xs = [.ref p] ∧ SqL K H p (List.map V.bl bs) ∧ Q (.bl (bs.all id)) H) := hK ▸ call_all hc
theorem cAny (K : PySem.W.Frag) (hK : X.K = K) (hc : X.calm = true) : CallR X (.builtin "any") (fun xs H Q => ∃ p bs, xs = [.ref p] ∧ SqL K H p (List.map V.bl bs) ∧ Q (.bl (bs.any id)) H) := hK ▸ call_any hc
theorem bt_all : bootBuiltins "all" = some (.builtin "all") := by decide +kernel
theorem bt_any : bootBuiltins "any" = some (.builtin "any") := by decide +kernel
end
end L2
namespace L2
open PySem PySem.Spec PyProof.Rows
set_option maxHeartbeats 3900000
section
variable {P : Program} {w : World} {K : PySem.W.Frag} {mg : Str → Option Value} {base : Heap}
/-- a def that calls none of the text's: it wants no room -/
theorem ok_flat {x qual : Str} {st : Stmt} {f : Addr} {fd : FuncData} {N ps : List Str} {sp : Sp} (F : Fun K x qual st f fd) (S : FnScope N ps (defScope st)) (len : ∀ vs H Q E, sp vs H Q E → vs.length = ps.length)
    (hbody : ∀ (cdv : Value) (A : Around) (outer : List Env) (s : Shared) (H : Hp) (vs : List V) (Q : VK) (E : XK), sp vs H Q E →
      ∃ t, PSs (cxOf CX0 P w K mg base N qual (defScope st) f cdv A outer s H E).nox (defBody st) t ∧ t { nx := fun _ H' => Q .non H', rt := Q } (start N vs) H) : FnOk P w K mg base CX0 0 f fd ps sp := by
  obtain ⟨oc, od, kV, doc, pm, an, cdv, ct, osl, rfl, lk, hcd⟩ := F.ex
  refine ⟨len, fun A outer s H args us vs Q E hr e0 hb r hsp => ?_⟩
  have hl := len _ _ _ _ hsp
  have KX : K.In s.heap := e0.mod.kin.keeps fun b o e => (e0.bs b o e).1
  have lim : s.heap.NoLimit := e0.mod.nolimit.keeps fun b o e => (e0.bs b o e).1
  have hkind : ∀ y ∈ ps.zip us, (defScope st).names.lookup y.1 = some .local ∨ ((defScope st).names.lookup y.1 = some .cell ∧ ((cellsFrom (s.heap.objs.size + 1) (defScope st).names []).lookup y.1).isSome = true) := fun ⟨n, v⟩ hy => by
    rcases S.par n (List.of_mem_zip hy).1 with q | q
    · exact .inl q
    · exact .inr ⟨q, PySem.W.cellsFrom_some _ _ _ (.inl q)⟩
  refine codeAny_call_function hr.depth (KX _ _ lk) rfl S.co S.gen rfl (PySem.W.codeRec_of KX hcd) (hb _ _ _ _ ?_)
  refine wpAny_newFunctionEnv_cells S.kind hkind fun env he s1 x => ?_
  subst he
  refine ⟨lim.keeps x.toInCall.keep, codeAny_func ?_⟩
  obtain ⟨t, ht, hq⟩ := hbody cdv A outer s H vs Q E hsp
  have I : Inv (cxOf CX0 P w K mg base N qual (defScope st) f cdv A outer s H E) [] (start N vs) H s1 := inv_start S hr.hd e0 hl r x
  refine wpAny_mono (ht.nox [] s1 (start N vs) H _ I hq) (fun fl s' hs => ?_) fun e s' hs => hs
  have fin : ∀ {σ' : St} {H' : Hp} {v : V} {u : Value}, Inv (cxOf CX0 P w K mg base N qual (defScope st) f cdv A outer s H E) [] σ' H' s' → RelV v u → Q v H' → CE outer P w H s Q u s' :=
    fun {σ' H' v u} J rv q => ⟨v, H', J.os, J.bare, J.base, J.hok, rv, q⟩
  cases fl with
  | ret u =>
    obtain ⟨v, σ', H', J, rv, q⟩ := hs
    exact fin J rv q
  | next =>
    obtain ⟨σ', H', J, q⟩ := hs
    exact fin (v := V.non) (u := Value.none) J rfl q
  | brk =>
    obtain ⟨_, _, _, q⟩ := hs
    exact False.elim q
  | cont =>
    obtain ⟨_, _, _, q⟩ := hs
    exact False.elim q
end
end L2
/-! THE MATHEMATICS of rows of numbers (plain Lean). -/
namespace Bw
def primesL : List Int := [2, 3, 5, 7, 11, 13, 17, 19, 23, 29, 31, 37, 41, 43, 47, 53, 59, 61, 67, 71, 73, 79, 83, 89, 97]
/-- the program's turned -/
def turnI (p n : Int) : Nat → Int
  | 0 => 1
  | k + 1 => turnI p n k * n % p
def turnM (p n : Int) : Int := turnI p n (p - 2).toNat
def turnOk (p n : Int) : Bool := decide (1 ≤ turnM p n) && decide (turnM p n < p) && decide (turnM p n * n % p = 1)
theorem turn_all : (primesL.all fun p => (List.range p.toNat).all fun n => n == 0 || turnOk p n) = true := by decide +kernel
theorem prime_pos : ∀ p ∈ primesL, 2 ≤ p ∧ p ≤ 97 := by decide +kernel
theorem turn_ok {p n : Int} (hp : p ∈ primesL) (h1 : 1 ≤ n) (h2 : n < p) : 1 ≤ turnM p n ∧ turnM p n < p ∧ turnM p n * n % p = 1 := by
  have h := List.all_eq_true.mp turn_all p hp
  have h' := List.all_eq_true.mp h n.toNat (List.mem_range.mpr (by omega))
  have en : ((n.toNat : Nat) : Int) = n := by omega
  have n0 : (n.toNat == 0) = false := by simp; omega
  rw [n0, Bool.false_or, en] at h'
  unfold turnOk at h'
  simp only [decide_eq_true_eq, Bool.and_eq_true] at h'
  exact ⟨h'.1.1, h'.1.2, h'.2⟩
theorem turnI_bound {p n : Int} (hp : 2 ≤ p) : ∀ k, 0 ≤ turnI p n k ∧ turnI p n k < p
  | 0 => by unfold turnI; omega
  | k + 1 => by
    unfold turnI
    exact ⟨Int.emod_nonneg _ (by omega), Int.emod_lt_of_pos _ (by omega)⟩
/-- the program's added, summed -/
def addM (p : Int) (row : List Int) (f : Int) (other : List Int) : List Int := List.zipWith (fun a b => (a + f * b) % p) row other
def sumM (p : Int) : List (List Int × Int) → List Int → List Int
  | [], t => t
  | (r, f) :: L, t => sumM p L (addM p t f r)
/-- a column's sum -/
def colS (L : List (List Int × Int)) (j : Nat) : Int := (L.map fun q => q.1.getD j 0 * q.2).sum
theorem colS_cons (r : List Int) (f : Int) (L : List (List Int × Int)) (j : Nat) : colS ((r, f) :: L) j = r.getD j 0 * f + colS L j := by simp [colS]
theorem addM_map {p f : Int} {n : Nat} {r : List Int} (c : Nat → Int) (hr : r.length = n) : addM p ((List.range n).map fun j => c j % p) f r = (List.range n).map fun j => (c j + r.getD j 0 * f) % p := by
  apply List.ext_getElem
  · simp [addM, hr]
  · intro i h1 h2
    have hi : i < r.length := by simp [addM, hr] at h1; omega
    simp only [addM, List.getElem_zipWith, List.getElem_map, List.getElem_range]
    rw [List.getD_eq_getElem?_getD, List.getElem?_eq_getElem hi, Option.getD_some, Int.mul_comm f, Int.emod_add_emod]
theorem sumM_eq {p : Int} {n : Nat} : ∀ (L : List (List Int × Int)) (c : Nat → Int), (∀ q ∈ L, q.1.length = n) → sumM p L ((List.range n).map fun j => c j % p) = (List.range n).map fun j => (c j + colS L j) % p
  | [], c, _ => by simp [sumM, colS]
  | (r, f) :: L, c, h => by
    rw [sumM, addM_map c (h (r, f) List.mem_cons_self), sumM_eq L (fun j => c j + r.getD j 0 * f) fun q hq => h q (List.mem_cons_of_mem _ hq)]
    apply List.map_congr_left
    intro j _
    rw [colS_cons, Int.add_assoc]
theorem sumM_zero {p : Int} {n : Nat} (L : List (List Int × Int)) (h : ∀ q ∈ L, q.1.length = n) : sumM p L (List.replicate n 0) = (List.range n).map fun j => colS L j % p := by
  have e : List.replicate n (0 : Int) = (List.range n).map fun j => (fun _ => (0 : Int)) j % p := by
    apply List.ext_getElem
    · simp
    · intro i _ _; simp
  rw [e, sumM_eq L (fun _ => 0) h]
  apply List.map_congr_left
  intro j _
  rw [Int.zero_add]
end Bw
/-! THE MATHEMATICS 2: spans over a prime, echelons (plain Lean). -/
namespace Bw
abbrev Fn := Nat → Int
def eqm (p : Int) (u v : Fn) : Prop := ∀ j, p ∣ u j - v j
theorem dvd_mod (p a : Int) : p ∣ a % p - a := ⟨-(a / p), by
  have := Int.emod_add_mul_ediv a p
  rw [Int.mul_neg]
  omega⟩
theorem eqm.refl (p : Int) (u : Fn) : eqm p u u := fun j => ⟨0, by omega⟩
theorem eqm.symm {p : Int} {u v : Fn} (h : eqm p u v) : eqm p v u := fun j => by
  have := Int.dvd_neg.mpr (h j)
  rwa [show -(u j - v j) = v j - u j by omega] at this
theorem eqm.trans {p : Int} {u v w : Fn} (h : eqm p u v) (k : eqm p v w) : eqm p u w := fun j => by
  have := Int.dvd_add (h j) (k j)
  rwa [show u j - v j + (v j - w j) = u j - w j by omega] at this
/-- what vectors span -/
inductive Sp (p : Int) (R : Fn → Prop) : Fn → Prop
  | zero : Sp p R (fun _ => 0)
  | add {v r : Fn} (c : Int) : Sp p R v → R r → Sp p R (fun j => v j + c * r j)
  | cong {u v : Fn} : Sp p R v → eqm p v u → Sp p R u
section
variable {p : Int} {R R' : Fn → Prop}
theorem Sp.of_eq {u v : Fn} (h : Sp p R v) (e : ∀ j, v j = u j) : Sp p R u := .cong h fun j => ⟨0, by rw [e j]; omega⟩
theorem Sp.mem {r : Fn} (h : R r) : Sp p R r := (Sp.add 1 .zero h).of_eq fun j => by omega
theorem Sp.plus {u v : Fn} (c : Int) (hu : Sp p R u) (hv : Sp p R v) : Sp p R (fun j => u j + c * v j) := by
  induction hv with
  | zero => exact hu.of_eq fun j => by simp
  | @add v r d _ hr ih => exact (Sp.add (c * d) ih hr).of_eq fun j => by rw [Int.mul_add, ← Int.add_assoc, Int.mul_assoc]
  | @cong w v _ e ih =>
    refine .cong ih fun j => ?_
    have : p ∣ c * (v j - w j) := Int.dvd_mul_of_dvd_right (e j)
    rw [Int.mul_sub] at this
    rwa [show u j + c * v j - (u j + c * w j) = c * v j - c * w j by omega]
theorem Sp.trans {v : Fn} (h : ∀ r, R r → Sp p R' r) (hv : Sp p R v) : Sp p R' v := by
  induction hv with
  | zero => exact .zero
  | add c _ hr ih => exact ih.plus c (h _ hr)
  | cong _ e ih => exact .cong ih e
end
/-- a row as a vector -/
def fn (r : List Int) : Fn := fun j => r.getD j 0
def RS (L : List (List Int)) : Fn → Prop := fun f => ∃ r ∈ L, f = fn r
/-- rows of numbers of p -/
def Rw (p : Int) (n : Nat) (r : List Int) : Prop := r.length = n ∧ ∀ x ∈ r, 0 ≤ x ∧ x < p
def Rws (p : Int) (n : Nat) (L : List (List Int)) : Prop := ∀ r ∈ L, Rw p n r
theorem Rw.at {p : Int} {n : Nat} {r : List Int} (hp : 0 < p) (h : Rw p n r) (j : Nat) : 0 ≤ r.getD j 0 ∧ r.getD j 0 < p := by
  rw [List.getD_eq_getElem?_getD (i := j)]
  by_cases hj : j < r.length
  · rw [List.getElem?_eq_getElem hj]; exact h.2 _ (List.getElem_mem hj)
  · rw [List.getElem?_eq_none (by omega)]; exact ⟨Int.le_refl 0, hp⟩
theorem Rw.out {p : Int} {n : Nat} {r : List Int} (h : Rw p n r) {j : Nat} (hj : n ≤ j) : r.getD j 0 = 0 := by
  rw [List.getD_eq_getElem?_getD, List.getElem?_eq_none (by rw [h.1]; exact hj)]; rfl
theorem small_eq {p a b : Int} (h : p ∣ a - b) (a0 : 0 ≤ a) (a1 : a < p) (b0 : 0 ≤ b) (b1 : b < p) : a = b := by
  obtain ⟨c, hc⟩ := h
  have : c = 0 := by
    rcases Int.lt_trichotomy c 0 with h | h | h
    · have := Int.mul_le_mul_of_nonneg_left (show c ≤ -1 by omega) (show 0 ≤ p by omega)
      omega
    · exact h
    · have := Int.mul_le_mul_of_nonneg_left (show 1 ≤ c by omega) (show 0 ≤ p by omega)
      omega
  rw [this] at hc
  omega
theorem Rw.ext {p : Int} {n : Nat} {r s : List Int} (hp : 0 < p) (hr : Rw p n r) (hs : Rw p n s) (h : ∀ j, p ∣ r.getD j 0 - s.getD j 0) : r = s := by
  apply List.ext_getElem (by rw [hr.1, hs.1])
  intro i h1 h2
  have := small_eq (h i) (hr.at hp i).1 (hr.at hp i).2 (hs.at hp i).1 (hs.at hp i).2
  simpa [List.getD_eq_getElem?_getD, h1, h2] using this
/-! ### adding a row -/
theorem addM_at {p : Int} {n : Nat} {r o : List Int} (f : Int) (hr : r.length = n) (ho : o.length = n) (j : Nat) : (addM p r f o).getD j 0 = if j < n then (r.getD j 0 + f * o.getD j 0) % p else 0 := by
  by_cases hj : j < n
  · rw [if_pos hj]
    have h1 : j < r.length := by omega
    have h2 : j < o.length := by omega
    have h3 : j < (addM p r f o).length := by simp [addM]; omega
    rw [List.getD_eq_getElem?_getD, List.getElem?_eq_getElem h3, List.getD_eq_getElem?_getD, List.getElem?_eq_getElem h1, List.getD_eq_getElem?_getD, List.getElem?_eq_getElem h2]
    simp [addM]
  · rw [if_neg hj, List.getD_eq_getElem?_getD, List.getElem?_eq_none (by simp [addM]; omega)]; rfl
theorem addM_Rw {p : Int} {n : Nat} {r o : List Int} (f : Int) (hp : 0 < p) (hr : r.length = n) (ho : o.length = n) : Rw p n (addM p r f o) := by
  refine ⟨by simp [addM]; omega, fun x hx => ?_⟩
  obtain ⟨i, hi, rfl⟩ := List.mem_iff_getElem.mp hx
  simp only [addM, List.getElem_zipWith]
  exact ⟨Int.emod_nonneg _ (show p ≠ 0 by omega), Int.emod_lt_of_pos _ hp⟩
theorem addM_eqm {p : Int} {n : Nat} {r o : List Int} (f : Int) (hr : r.length = n) (ho : o.length = n) : eqm p (fun j => fn r j + f * fn o j) (fn (addM p r f o)) := fun j => by
  show p ∣ r.getD j 0 + f * o.getD j 0 - (addM p r f o).getD j 0
  rw [addM_at f hr ho]
  by_cases hj : j < n
  · rw [if_pos hj]
    have := Int.dvd_neg.mpr (dvd_mod p (r.getD j 0 + f * o.getD j 0))
    rwa [show -((r.getD j 0 + f * o.getD j 0) % p - (r.getD j 0 + f * o.getD j 0)) = r.getD j 0 + f * o.getD j 0 - (r.getD j 0 + f * o.getD j 0) % p by omega] at this
  · rw [if_neg hj]
    have e1 : r.getD j 0 = 0 := by rw [List.getD_eq_getElem?_getD, List.getElem?_eq_none (by omega)]; rfl
    have e2 : o.getD j 0 = 0 := by rw [List.getD_eq_getElem?_getD, List.getElem?_eq_none (by omega)]; rfl
    rw [e1, e2]
    exact ⟨0, by simp⟩
/-- the program's cleared -/
def clearM (p : Int) (lead : List Int) (place : Nat) (row : List Int) : List Int := if row.getD place 0 ≠ 0 then addM p row (-(row.getD place 0)) lead else row
section
variable {p : Int} {n place : Nat} {lead row : List Int}
theorem clearM_Rw (hp : 0 < p) (hl : Rw p n lead) (hr : Rw p n row) : Rw p n (clearM p lead place row) := by
  unfold clearM; split
  · exact addM_Rw _ hp hr.1 hl.1
  · exact hr
theorem clearM_eqm (hl : Rw p n lead) (hr : Rw p n row) : eqm p (fun j => fn row j + -(row.getD place 0) * fn lead j) (fn (clearM p lead place row)) := by
  unfold clearM; split
  · exact addM_eqm _ hr.1 hl.1
  · rename_i h
    have h0 : row.getD place 0 = 0 := by simpa using h
    rw [h0]
    intro j
    exact ⟨0, by simp⟩
theorem clearM_at (hl : Rw p n lead) (hr : Rw p n row) {j : Nat} (hj : lead.getD j 0 = 0) (hp : 0 < p) : (clearM p lead place row).getD j 0 = row.getD j 0 := by
  unfold clearM; split
  · rw [addM_at _ hr.1 hl.1, hj, Int.mul_zero, Int.add_zero]
    by_cases h : j < n
    · rw [if_pos h]; exact Int.emod_eq_of_lt (hr.at hp j).1 (hr.at hp j).2
    · rw [if_neg h, hr.out (by omega)]
  · rfl
theorem clearM_place (hl : Rw p n lead) (hr : Rw p n row) (h1 : lead.getD place 0 = 1) : (clearM p lead place row).getD place 0 = 0 := by
  unfold clearM; split
  · rw [addM_at _ hr.1 hl.1, h1]
    split
    · rw [Int.mul_one, show row.getD place 0 + -(row.getD place 0) = 0 by omega]; exact Int.zero_emod p
    · rfl
  · rename_i h
    simpa using h
end
/-! ### the program's reduced -/
def leadM (p : Int) (n : Nat) (h : List Int) (place : Nat) : List Int := sumM p [(h, turnM p (h.getD place 0))] (List.replicate n 0)
def stepM (p : Int) (n : Nat) (st : List (List Int) × List (List Int)) (place : Nat) : List (List Int) × List (List Int) :=
  match st.2.filter fun r => r.getD place 0 ≠ 0 with
  | [] => st
  | h :: _ => (st.1.map (clearM p (leadM p n h place) place) ++ [leadM p n h place], st.2.map (clearM p (leadM p n h place) place))
def redI (p : Int) (n : Nat) (L : List (List Int)) : Nat → List (List Int) × List (List Int)
  | 0 => ([], L)
  | k + 1 => stepM p n (redI p n L k) k
def lenM (L : List (List Int)) : Nat := (L.head?.map List.length).getD 0
def redM (p : Int) (L : List (List Int)) : List (List Int) := (redI p (lenM L) L (lenM L)).1
/-- an echelon: each row with its lead -/
structure Ech (n k : Nat) (D : List (List Int)) (ls : List Nat) : Prop where
  len : ls.length = D.length
  up : ls.Pairwise (· < ·)
  lt : ∀ l ∈ ls, l < k
  one : ∀ (i : Nat) (r : List Int) (l : Nat), D[i]? = some r → ls[i]? = some l → r.getD l 0 = 1 ∧ ∀ j, j < l → r.getD j 0 = 0
  alone : ∀ (i i' : Nat) (r : List Int) (l : Nat), i ≠ i' → D[i']? = some r → ls[i]? = some l → r.getD l 0 = 0
theorem leadM_at {p : Int} {n place : Nat} {h : List Int} (hh : Rw p n h) (j : Nat) : (leadM p n h place).getD j 0 = if j < n then h.getD j 0 * turnM p (h.getD place 0) % p else 0 := by
  unfold leadM
  rw [sumM_zero _ (fun q hq => by rw [List.mem_singleton.mp hq]; exact hh.1)]
  by_cases hj : j < n
  · rw [if_pos hj]; simp [List.getD_eq_getElem?_getD, hj, colS]
  · rw [if_neg hj]; simp [List.getD_eq_getElem?_getD, hj]
theorem leadM_Rw {p : Int} {n place : Nat} {h : List Int} (hp : 0 < p) (hh : Rw p n h) : Rw p n (leadM p n h place) := by
  unfold leadM
  rw [sumM_zero _ (fun q hq => by rw [List.mem_singleton.mp hq]; exact hh.1)]
  refine ⟨by simp, fun x hx => ?_⟩
  obtain ⟨j, _, rfl⟩ := List.mem_map.mp hx
  exact ⟨Int.emod_nonneg _ (show p ≠ 0 by omega), Int.emod_lt_of_pos _ hp⟩
theorem leadM_eqm {p : Int} {n place : Nat} {h : List Int} (hh : Rw p n h) : eqm p (fun j => turnM p (h.getD place 0) * fn h j) (fn (leadM p n h place)) := fun j => by
  show p ∣ turnM p (h.getD place 0) * h.getD j 0 - (leadM p n h place).getD j 0
  rw [leadM_at hh, Int.mul_comm]
  by_cases hj : j < n
  · rw [if_pos hj]
    have := Int.dvd_neg.mpr (dvd_mod p (h.getD j 0 * turnM p (h.getD place 0)))
    rwa [show -(h.getD j 0 * turnM p (h.getD place 0) % p - h.getD j 0 * turnM p (h.getD place 0)) = h.getD j 0 * turnM p (h.getD place 0) - h.getD j 0 * turnM p (h.getD place 0) % p by omega] at this
  · rw [if_neg hj, hh.out (by omega)]; exact ⟨0, by simp⟩
structure RedOk (p : Int) (n : Nat) (L : List (List Int)) (k : Nat) (st : List (List Int) × List (List Int)) : Prop where
  d : Rws p n st.1
  r : Rws p n st.2
  z : ∀ r ∈ st.2, ∀ j, j < k → r.getD j 0 = 0
  ech : ∃ ls, Ech n k st.1 ls
  sub : ∀ r ∈ st.1 ++ st.2, Sp p (RS L) (fn r)
  sup : ∀ r ∈ L, Sp p (RS (st.1 ++ st.2)) (fn r)
theorem step_ok {p : Int} {n k : Nat} {L : List (List Int)} {st : List (List Int) × List (List Int)} (hp : p ∈ primesL) (hk : k + 1 ≤ n) (I : RedOk p n L k st) : RedOk p n L (k + 1) (stepM p n st k) := by
    have p0 : 0 < p := by have := prime_pos p hp; omega
    obtain ⟨D, T⟩ := st
    unfold stepM
    dsimp only
    cases hf : T.filter fun r => r.getD k 0 ≠ 0 with
    | nil =>
      dsimp only
      obtain ⟨ls, E⟩ := I.ech
      refine ⟨I.d, I.r, fun r hr j hj => ?_, ⟨ls, E.len, E.up, fun l hl => Nat.lt_succ_of_lt (E.lt l hl), E.one, E.alone⟩, I.sub, I.sup⟩
      by_cases hjk : j < k
      · exact I.z r hr j hjk
      · have ej : j = k := by omega
        subst ej
        by_cases h0 : r.getD j 0 = 0
        · exact h0
        · have : r ∈ T.filter fun r => r.getD j 0 ≠ 0 := List.mem_filter.mpr ⟨hr, by simpa using h0⟩
          rw [hf] at this; cases this
    | cons h rest =>
      dsimp only
      have hm : h ∈ T.filter fun r => r.getD k 0 ≠ 0 := by rw [hf]; exact List.mem_cons_self
      obtain ⟨hT, hk0⟩ := List.mem_filter.mp hm
      have hk0' : h.getD k 0 ≠ 0 := by simpa using hk0
      have hh := I.r h hT
      have hlR : Rw p n (leadM p n h k) := leadM_Rw p0 hh
      have hb := hh.at p0 k
      obtain ⟨t1, t2, t3⟩ := turn_ok hp (show 1 ≤ h.getD k 0 by omega) hb.2
      have l1 : (leadM p n h k).getD k 0 = 1 := by rw [leadM_at hh, if_pos (by omega), Int.mul_comm]; exact t3
      have l0 : ∀ j, j < k → (leadM p n h k).getD j 0 = 0 := fun j hj => by
        rw [leadM_at hh, I.z h hT j hj, Int.zero_mul]; split
        · exact Int.zero_emod p
        · rfl
      have hlS : ∀ {Q : Fn → Prop}, Sp p Q (fn h) → Sp p Q (fn (leadM p n h k)) := fun q => .cong (((Sp.zero).plus (turnM p (h.getD k 0)) q).of_eq fun j => by rw [Int.zero_add]) (leadM_eqm hh)
      have hhS : ∀ {Q : Fn → Prop}, Sp p Q (fn (leadM p n h k)) → Sp p Q (fn h) := fun {Q} q => by
        refine .cong (((Sp.zero).plus (h.getD k 0) q)) fun j => ?_
        rw [Int.zero_add]
        show p ∣ h.getD k 0 * (leadM p n h k).getD j 0 - h.getD j 0
        have a := leadM_eqm (place := k) hh j
        have a' : p ∣ h.getD k 0 * (turnM p (h.getD k 0) * fn h j - fn (leadM p n h k) j) := Int.dvd_mul_of_dvd_right a
        rw [Int.mul_sub] at a'
        have t4 : p ∣ turnM p (h.getD k 0) * h.getD k 0 - 1 := by
          have z := Int.dvd_neg.mpr (dvd_mod p (turnM p (h.getD k 0) * h.getD k 0))
          rw [t3] at z
          rwa [show -(1 - turnM p (h.getD k 0) * h.getD k 0) = turnM p (h.getD k 0) * h.getD k 0 - 1 by omega] at z
        have b : p ∣ h.getD j 0 * (turnM p (h.getD k 0) * h.getD k 0 - 1) := Int.dvd_mul_of_dvd_right t4
        have c := Int.dvd_sub b a'
        have e : h.getD j 0 * (turnM p (h.getD k 0) * h.getD k 0 - 1) - (h.getD k 0 * (turnM p (h.getD k 0) * fn h j) - h.getD k 0 * fn (leadM p n h k) j) = h.getD k 0 * (leadM p n h k).getD j 0 - h.getD j 0 := by
          show h.getD j 0 * (turnM p (h.getD k 0) * h.getD k 0 - 1) - (h.getD k 0 * (turnM p (h.getD k 0) * h.getD j 0) - h.getD k 0 * (leadM p n h k).getD j 0) = _
          rw [Int.mul_sub, Int.mul_one, Int.mul_left_comm (h.getD k 0), Int.mul_comm (h.getD j 0) (turnM p (h.getD k 0) * h.getD k 0), Int.mul_assoc]
          omega
        rwa [e] at c
      generalize leadM p n h k = lead at hlR l1 l0 hlS hhS ⊢
      obtain ⟨ls, E⟩ := I.ech
      have elen : ls.length = D.length := E.len
      have hD : ∀ r ∈ D, Rw p n r := I.d
      have hTr : ∀ r ∈ T, Rw p n r := I.r
      have spT : Sp p (RS L) (fn h) := I.sub h (List.mem_append_right _ hT)
      have spL := hlS spT
      have clS : ∀ {Q : Fn → Prop} {r : List Int}, Rw p n r → Sp p Q (fn r) → Sp p Q (fn lead) → Sp p Q (fn (clearM p lead k r)) := fun hr a b => .cong (a.plus _ b) (clearM_eqm hlR hr)
      have unS : ∀ {Q : Fn → Prop} {r : List Int}, Rw p n r → Sp p Q (fn (clearM p lead k r)) → Sp p Q (fn lead) → Sp p Q (fn r) := fun {Q r} hr a b => by
        refine .cong (a.plus (r.getD k 0) b) fun j => ?_
        have q := (clearM_eqm (place := k) hlR hr j)
        have q' := Int.dvd_neg.mpr q
        rwa [show -(fn r j + -(r.getD k 0) * fn lead j - fn (clearM p lead k r) j) = fn (clearM p lead k r) j + r.getD k 0 * fn lead j - fn r j by rw [Int.neg_mul]; omega] at q'
      refine ⟨fun r hr => ?_, fun r hr => ?_, fun r hr j hj => ?_, ⟨ls ++ [k], ?_, ?_, ?_, ?_, ?_⟩, fun r hr => ?_, fun r hr => ?_⟩
      · rcases List.mem_append.mp hr with hr | hr
        · obtain ⟨r0, h0, rfl⟩ := List.mem_map.mp hr
          exact clearM_Rw p0 hlR (hD r0 h0)
        · rw [List.mem_singleton.mp hr]; exact hlR
      · obtain ⟨r0, h0, rfl⟩ := List.mem_map.mp hr
        exact clearM_Rw p0 hlR (hTr r0 h0)
      · obtain ⟨r0, h0, rfl⟩ := List.mem_map.mp hr
        by_cases hjk : j < k
        · rw [clearM_at hlR (hTr r0 h0) (l0 j hjk) p0]; exact I.z r0 h0 j hjk
        · have ej : j = k := by omega
          subst ej
          exact clearM_place hlR (hTr r0 h0) l1
      · simp [E.len]
      · refine List.pairwise_append.mpr ⟨E.up, by simp, fun a ha b hb => ?_⟩
        rw [List.mem_singleton.mp hb]; exact E.lt a ha
      · intro l hl
        rcases List.mem_append.mp hl with hl | hl
        · exact Nat.lt_succ_of_lt (E.lt l hl)
        · rw [List.mem_singleton.mp hl]; exact Nat.lt_succ_self k
      · intro i r l hr hl
        by_cases hi : i < D.length
        · rw [List.getElem?_append_left (by simpa using hi), List.getElem?_map, List.getElem?_eq_getElem hi] at hr
          rw [List.getElem?_append_left (by rw [elen]; exact hi)] at hl
          cases hr
          have hlk : l < k := E.lt l (List.mem_of_getElem? hl)
          obtain ⟨o1, o2⟩ := E.one i _ l (List.getElem?_eq_getElem hi) hl
          have rD := hD _ (List.getElem_mem hi)
          refine ⟨by rw [clearM_at hlR rD (l0 l hlk) p0]; exact o1, fun j hj => ?_⟩
          rw [clearM_at hlR rD (l0 j (by omega)) p0]; exact o2 j hj
        · rw [List.getElem?_append_right (by simpa using hi), List.length_map] at hr
          rw [List.getElem?_append_right (by omega), elen] at hl
          have e0 : i - D.length = 0 := by
            have := (List.getElem?_eq_some_iff.mp hr).1
            simp at this; omega
          rw [e0] at hr hl
          simp at hr hl
          subst hr hl
          exact ⟨l1, l0⟩
      · intro i i' r l hne hr hl
        by_cases hi : i < ls.length
        · rw [List.getElem?_append_left hi] at hl
          have hlk : l < k := E.lt l (List.mem_of_getElem? hl)
          by_cases hi' : i' < D.length
          · rw [List.getElem?_append_left (by simpa using hi'), List.getElem?_map, List.getElem?_eq_getElem hi'] at hr
            cases hr
            rw [clearM_at hlR (hD _ (List.getElem_mem hi')) (l0 l hlk) p0]
            exact E.alone i i' _ l hne (List.getElem?_eq_getElem hi') hl
          · rw [List.getElem?_append_right (by simpa using hi'), List.length_map] at hr
            have e0 : i' - D.length = 0 := by
              have := (List.getElem?_eq_some_iff.mp hr).1
              simp at this; omega
            rw [e0] at hr
            simp at hr
            subst hr
            exact l0 l hlk
        · rw [List.getElem?_append_right (by omega)] at hl
          have e0 : i - ls.length = 0 := by
            have := (List.getElem?_eq_some_iff.mp hl).1
            simp at this; omega
          rw [e0] at hl
          simp at hl
          subst hl
          by_cases hi' : i' < D.length
          · rw [List.getElem?_append_left (by simpa using hi'), List.getElem?_map, List.getElem?_eq_getElem hi'] at hr
            cases hr
            exact clearM_place hlR (hD _ (List.getElem_mem hi')) l1
          · rw [List.getElem?_append_right (by simpa using hi'), List.length_map] at hr
            have e1 : i' - D.length = 0 := by
              have := (List.getElem?_eq_some_iff.mp hr).1
              simp at this; omega
            omega
      · rcases List.mem_append.mp hr with hr | hr
        · rcases List.mem_append.mp hr with hr | hr
          · obtain ⟨r0, h0, rfl⟩ := List.mem_map.mp hr
            exact clS (hD r0 h0) (I.sub r0 (List.mem_append_left _ h0)) spL
          · rw [List.mem_singleton.mp hr]; exact spL
        · obtain ⟨r0, h0, rfl⟩ := List.mem_map.mp hr
          exact clS (hTr r0 h0) (I.sub r0 (List.mem_append_right _ h0)) spL
      · refine Sp.trans (fun f hf => ?_) (I.sup r hr)
        obtain ⟨r0, h0, rfl⟩ := hf
        have hL1 : Sp p (RS (D.map (clearM p lead k) ++ [lead] ++ T.map (clearM p lead k))) (fn lead) := .mem ⟨lead, by simp, rfl⟩
        rcases List.mem_append.mp h0 with h0 | h0
        · exact unS (hD r0 h0) (.mem ⟨_, by simp; exact .inl ⟨r0, h0, rfl⟩, rfl⟩) hL1
        · exact unS (hTr r0 h0) (.mem ⟨_, by simp; exact .inr (.inr ⟨r0, h0, rfl⟩), rfl⟩) hL1

theorem redI_ok {p : Int} {n : Nat} {L : List (List Int)} (hp : p ∈ primesL) (hL : Rws p n L) : ∀ k, k ≤ n → RedOk p n L k (redI p n L k)
  | 0, _ => ⟨fun r hr => absurd hr (by simp [redI]), by simpa [redI] using hL, fun r _ j hj => absurd hj (by omega), ⟨[], by simp [redI], .nil, by simp, by simp [redI], by simp⟩,
      fun r hr => .mem ⟨r, by simpa [redI] using hr, rfl⟩, fun r hr => .mem ⟨r, by simpa [redI] using hr, rfl⟩⟩
  | k + 1, hk => step_ok hp hk (redI_ok hp hL k (by omega))
/-! ### coefficients -/
/-- a finite sum -/
def Sg (f : Nat → Int) : Nat → Int
  | 0 => 0
  | n + 1 => Sg f n + f n
theorem Sg_zero {f : Nat → Int} {n : Nat} (h : ∀ i, i < n → f i = 0) : Sg f n = 0 := by
  induction n with
  | zero => rfl
  | succ n ih => rw [Sg, ih fun i hi => h i (by omega), h n (by omega)]; rfl
theorem Sg_add (f g : Nat → Int) (n : Nat) : Sg (fun i => f i + g i) n = Sg f n + Sg g n := by
  induction n with
  | zero => rfl
  | succ n ih => rw [Sg, ih, Sg, Sg]; omega
theorem Sg_dvd {p : Int} {f : Nat → Int} {n : Nat} (h : ∀ i, i < n → p ∣ f i) : p ∣ Sg f n := by
  induction n with
  | zero => exact ⟨0, by simp [Sg]⟩
  | succ n ih => rw [Sg]; exact Int.dvd_add (ih fun i hi => h i (by omega)) (h n (by omega))
/-- the sum but for one place -/
theorem Sg_one {f : Nat → Int} {n l : Nat} (hl : l < n) : Sg f n = f l + Sg (fun i => if i = l then 0 else f i) n := by
  induction n with
  | zero => omega
  | succ n ih =>
    by_cases h : l = n
    · subst h
      rw [Sg, Sg, if_pos rfl]
      have e : Sg (fun i => if i = l then 0 else f i) l = Sg f l := by
        have : ∀ m, m ≤ l → Sg (fun i => if i = l then 0 else f i) m = Sg f m := by
          intro m
          induction m with
          | zero => intro _; rfl
          | succ m ih => intro hm; rw [Sg, Sg, ih (by omega), if_neg (by omega)]
        exact this l (Nat.le_refl l)
      rw [e]; omega
    · rw [Sg, Sg, ih (by omega), if_neg (fun z => h z.symm)]; omega
/-- rows by their leads -/
def ES (n : Nat) (e : Nat → Option (List Int)) : Fn → Prop := fun f => ∃ l r, l < n ∧ e l = some r ∧ f = fn r
def eAt (e : Nat → Option (List Int)) (l j : Nat) : Int := match e l with | some r => r.getD j 0 | none => 0
theorem ES.coeff {p : Int} {n : Nat} {e : Nat → Option (List Int)} {v : Fn} (h : Sp p (ES n e) v) : ∃ c : Nat → Int, eqm p (fun j => Sg (fun l => c l * eAt e l j) n) v := by
  induction h with
  | zero => exact ⟨fun _ => 0, fun j => ⟨0, by simp [Sg_zero]⟩⟩
  | @add v r d _ hr ih =>
    obtain ⟨c, hc⟩ := ih
    obtain ⟨l, row, hl, he, rfl⟩ := hr
    refine ⟨fun i => c i + if i = l then d else 0, fun j => ?_⟩
    have e1 : Sg (fun i => (c i + if i = l then d else 0) * eAt e i j) n = Sg (fun i => c i * eAt e i j) n + d * fn row j := by
      have e2 : (fun i => (c i + if i = l then d else 0) * eAt e i j) = fun i => c i * eAt e i j + (if i = l then d * fn row j else 0) := by
        funext i
        by_cases hi : i = l
        · subst hi
          rw [if_pos rfl, if_pos rfl, Int.add_mul]
          congr 1
          simp [eAt, he, fn]
        · rw [if_neg hi, if_neg hi, Int.add_zero, Int.add_zero]
      rw [e2, Sg_add]
      congr 1
      rw [Sg_one hl, if_pos rfl, Sg_zero fun i _ => by by_cases hi : i = l <;> simp [hi]]
      omega
    show p ∣ Sg (fun i => (c i + if i = l then d else 0) * eAt e i j) n - (v j + d * fn row j)
    rw [e1, show Sg (fun i => c i * eAt e i j) n + d * fn row j - (v j + d * fn row j) = Sg (fun i => c i * eAt e i j) n - v j by omega]
    exact hc j
  | cong _ q ih =>
    obtain ⟨c, hc⟩ := ih
    exact ⟨c, hc.trans q⟩
/-- each row has 1 at its lead and 0 ahead of it -/
structure Lead (n : Nat) (e : Nat → Option (List Int)) : Prop where
  one : ∀ l r, e l = some r → l < n → r.getD l 0 = 1 ∧ ∀ j, j < l → r.getD j 0 = 0
/-- what is 0 at all leads is 0 -/
theorem Lead.zero {p : Int} {n : Nat} {e : Nat → Option (List Int)} {v : Fn} (E : Lead n e) (h : Sp p (ES n e) v) (hz : ∀ l r, l < n → e l = some r → p ∣ v l) : ∀ j, p ∣ v j := by
  obtain ⟨c, hc⟩ := ES.coeff h
  have all : ∀ m, m ≤ n → ∀ l, l < m → ∀ j, p ∣ c l * eAt e l j := by
    intro m
    induction m with
    | zero => intro _ l hl; omega
    | succ m ih =>
      intro hm l hl j
      by_cases hlm : l < m
      · exact ih (by omega) l hlm j
      · have el : l = m := by omega
        subst el
        cases hr : e l with
        | none => exact ⟨0, by simp [eAt, hr]⟩
        | some r =>
          obtain ⟨o1, o2⟩ := E.one l r hr (by omega)
          have s := hc l
          dsimp only at s
          rw [Sg_one (show l < n by omega)] at s
          have rest : p ∣ Sg (fun i => if i = l then 0 else c i * eAt e i l) n := Sg_dvd fun i hi => by
            by_cases h1 : i = l
            · rw [if_pos h1]; exact ⟨0, by simp⟩
            · rw [if_neg h1]
              by_cases h2 : i < l
              · exact ih (by omega) i h2 l
              · cases hi2 : e i with
                | none => exact ⟨0, by simp [eAt, hi2]⟩
                | some r2 =>
                  have := (E.one i r2 hi2 hi).2 l (by omega)
                  refine ⟨0, ?_⟩
                  simp only [eAt, hi2, this, Int.mul_zero]
          have e1 : eAt e l l = 1 := by simp only [eAt, hr]; exact o1
          rw [e1, Int.mul_one] at s
          have k := Int.dvd_add (Int.dvd_sub s rest) (hz l r (by omega) hr)
          rw [show c l + Sg (fun i => if i = l then 0 else c i * eAt e i l) n - v l - Sg (fun i => if i = l then 0 else c i * eAt e i l) n + v l = c l by omega] at k
          exact Int.dvd_mul_of_dvd_left k
  intro j
  have s := hc j
  dsimp only at s
  have t : p ∣ Sg (fun l => c l * eAt e l j) n := Sg_dvd fun i hi => all n (Nat.le_refl n) i hi j
  have k := Int.dvd_sub t s
  rwa [show Sg (fun l => c l * eAt e l j) n - (Sg (fun l => c l * eAt e l j) n - v j) = v j by omega] at k
end Bw
/-! THE MATHEMATICS 3: the reduced list is one; a list kept by first places. -/
namespace Bw
theorem fn_zero {p : Int} {n : Nat} {r : List Int} (h : Rw p n r) (hz : ∀ j, j < n → r.getD j 0 = 0) (j : Nat) : fn r j = 0 := by
  by_cases hj : j < n
  · exact hz j hj
  · exact h.out (by omega)
/-- the echelon as a map from its leads -/
def eOf : List (List Int) → List Nat → Nat → Option (List Int)
  | r :: D, l :: ls, i => if i = l then some r else eOf D ls i
  | _, _, _ => none
theorem eOf_some : ∀ {D : List (List Int)} {ls : List Nat} {l : Nat} {r : List Int}, eOf D ls l = some r → ∃ (i : Nat), D[i]? = some r ∧ ls[i]? = some l
  | [], _, _, _, h => by simp [eOf] at h
  | _ :: _, [], _, _, h => by simp [eOf] at h
  | q :: D, m :: ls, l, r, h => by
    rw [eOf] at h
    by_cases e : l = m
    · rw [if_pos e] at h; cases h; exact ⟨0, rfl, by rw [e]; rfl⟩
    · rw [if_neg e] at h
      obtain ⟨i, h1, h2⟩ := eOf_some h
      exact ⟨i + 1, by simpa using h1, by simpa using h2⟩
theorem eOf_at : ∀ {D : List (List Int)} {ls : List Nat} {i l : Nat} {r : List Int}, ls.Pairwise (· < ·) → D[i]? = some r → ls[i]? = some l → eOf D ls l = some r
  | [], _, _, _, _, _, h, _ => by simp at h
  | _ :: _, [], _, _, _, _, _, h => by simp at h
  | q :: D, m :: ls, 0, l, r, _, h1, h2 => by simp at h1 h2; subst h1 h2; simp [eOf]
  | q :: D, m :: ls, i + 1, l, r, hp, h1, h2 => by
    have hl : ls[i]? = some l := by simpa using h2
    have : m < l := (List.pairwise_cons.mp hp).1 l (List.mem_of_getElem? hl)
    rw [eOf, if_neg (by omega)]
    exact eOf_at (List.pairwise_cons.mp hp).2 (by simpa using h1) hl
theorem Ech.lead {n k : Nat} {D : List (List Int)} {ls : List Nat} (E : Ech n k D ls) : Lead k (eOf D ls) := ⟨fun l r h _ => by
  obtain ⟨i, h1, h2⟩ := eOf_some h
  exact E.one i r l h1 h2⟩
theorem Ech.sp {p : Int} {n k : Nat} {D : List (List Int)} {ls : List Nat} (E : Ech n k D ls) {v : Fn} (h : Sp p (RS D) v) : Sp p (ES k (eOf D ls)) v := h.trans fun f hf => by
  obtain ⟨r, hr, rfl⟩ := hf
  obtain ⟨i, hi, rfl⟩ := List.mem_iff_getElem.mp hr
  have hl : i < ls.length := by rw [E.len]; exact hi
  exact .mem ⟨ls[i], D[i], E.lt _ (List.getElem_mem hl), eOf_at E.up (List.getElem?_eq_getElem hi) (List.getElem?_eq_getElem hl), rfl⟩
/-- what the program's reduced list is -/
structure Redu (p : Int) (n : Nat) (L D : List (List Int)) : Prop where
  rws : Rws p n D
  ech : ∃ ls, Ech n n D ls
  sub : ∀ r ∈ D, Sp p (RS L) (fn r)
  sup : ∀ r ∈ L, Sp p (RS D) (fn r)
theorem lenM_eq {p : Int} {n : Nat} {L : List (List Int)} (h : Rws p n L) (hne : L ≠ []) : lenM L = n := by
  cases L with
  | nil => exact absurd rfl hne
  | cons r L => exact (h r List.mem_cons_self).1
theorem redM_ok {p : Int} {n : Nat} {L : List (List Int)} (hp : p ∈ primesL) (hL : Rws p n L) : Redu p n L (redM p L) := by
  by_cases hne : L = []
  · subst hne
    exact ⟨fun r hr => absurd hr (by simp [redM, lenM, redI]), ⟨[], by simp [redM, lenM, redI], .nil, by simp, by simp, by simp⟩, fun r hr => absurd hr (by simp [redM, lenM, redI]), fun r hr => absurd hr (by simp)⟩
  · unfold redM
    rw [lenM_eq hL hne]
    have I := redI_ok hp hL n (Nat.le_refl n)
    generalize redI p n L n = st at I
    refine ⟨I.d, I.ech, fun r hr => I.sub r (List.mem_append_left _ hr), fun r hr => (I.sup r hr).trans fun f hf => ?_⟩
    obtain ⟨r0, h0, rfl⟩ := hf
    rcases List.mem_append.mp h0 with h0 | h0
    · exact .mem ⟨r0, h0, rfl⟩
    · exact (Sp.zero).of_eq fun j => (fn_zero (I.r r0 h0) (I.z r0 h0) j).symm
/-- a vector of an echelon's span is the sum of its rows by its own numbers at the leads: two that agree there agree -/
theorem Ech.same {p : Int} {n : Nat} {D : List (List Int)} {ls : List Nat} (E : Ech n n D ls) {u v : Fn} (hu : Sp p (RS D) u) (hv : Sp p (RS D) v) (h : ∀ l ∈ ls, p ∣ u l - v l) : eqm p u v := fun j => by
  have hd : Sp p (RS D) (fun j => u j + (-1) * v j) := hu.plus (-1) hv
  have := E.lead.zero (E.sp hd) (fun l r _ he => by
    obtain ⟨i, _, h2⟩ := eOf_some he
    have q := h l (List.mem_of_getElem? h2)
    show p ∣ u l + -1 * v l
    rwa [show u l + -1 * v l = u l - v l by omega]) j
  rwa [show u j + -1 * v j = u j - v j by omega] at this
theorem not_dvd {p : Int} (hp : p ∈ primesL) : ¬ p ∣ 1 := fun ⟨c, hc⟩ => by
  have := prime_pos p hp
  rcases Int.lt_trichotomy c 0 with h | h | h
  · have := Int.mul_le_mul_of_nonneg_left (show c ≤ -1 by omega) (show 0 ≤ p by omega)
    omega
  · rw [h] at hc; omega
  · have := Int.mul_le_mul_of_nonneg_left (show 1 ≤ c by omega) (show 0 ≤ p by omega)
    omega
/-- a row with a first 1 in the span begins at a lead -/
theorem Ech.starts {p : Int} {n : Nat} {D : List (List Int)} {ls : List Nat} (hp : p ∈ primesL) (E : Ech n n D ls) {v : Fn} {l : Nat} (hv : Sp p (RS D) v) (h1 : v l = 1) (h0 : ∀ j, j < l → v j = 0) : l ∈ ls := by
  by_cases hm : l ∈ ls
  · exact hm
  · exfalso
    -- take away, by the leads behind l, nothing is left at the leads; so v would be 0
    obtain ⟨c, hc⟩ := ES.coeff (E.sp hv)
    have all : ∀ m, m ≤ l → ∀ i, i < m → ∀ j, p ∣ c i * eAt (eOf D ls) i j := by
      intro m
      induction m with
      | zero => intro _ i hi; omega
      | succ m ih =>
        intro hml i hi j
        by_cases him : i < m
        · exact ih (by omega) i him j
        · have ei : i = m := by omega
          subst ei
          cases hr : eOf D ls i with
          | none => exact ⟨0, by simp [eAt, hr]⟩
          | some r =>
            obtain ⟨z, z1, z2⟩ := eOf_some hr
            have hin : i < n := E.lt i (List.mem_of_getElem? z2)
            have s := hc i
            dsimp only at s
            rw [Sg_one hin, h0 i (by omega)] at s
            have rest : p ∣ Sg (fun q => if q = i then 0 else c q * eAt (eOf D ls) q i) n := Sg_dvd fun q hq => by
              by_cases q1 : q = i
              · rw [if_pos q1]; exact ⟨0, by simp⟩
              · rw [if_neg q1]
                by_cases q2 : q < i
                · exact ih (by omega) q q2 i
                · cases hq2 : eOf D ls q with
                  | none => exact ⟨0, by simp [eAt, hq2]⟩
                  | some r2 =>
                    have := (E.lead.one q r2 hq2 hq).2 i (by omega)
                    exact ⟨0, by simp only [eAt, hq2, this, Int.mul_zero]⟩
            have e1 : eAt (eOf D ls) i i = 1 := by simp only [eAt, hr]; exact (E.lead.one i r hr hin).1
            rw [e1, Int.mul_one] at s
            have k := Int.dvd_sub s rest
            rw [show c i + Sg (fun q => if q = i then 0 else c q * eAt (eOf D ls) q i) n - 0 - Sg (fun q => if q = i then 0 else c q * eAt (eOf D ls) q i) n = c i by omega] at k
            exact Int.dvd_mul_of_dvd_left k
    have s := hc l
    dsimp only at s
    have t : p ∣ Sg (fun q => c q * eAt (eOf D ls) q l) n := Sg_dvd fun q hq => by
      by_cases q2 : q < l
      · exact all l (Nat.le_refl l) q q2 l
      · cases hq2 : eOf D ls q with
        | none => exact ⟨0, by simp [eAt, hq2]⟩
        | some r2 =>
          obtain ⟨z, z1, z2⟩ := eOf_some hq2
          have : q ≠ l := fun e => hm (e ▸ List.mem_of_getElem? z2)
          have := (E.lead.one q r2 hq2 hq).2 l (by omega)
          exact ⟨0, by simp only [eAt, hq2, this, Int.mul_zero]⟩
    have k := Int.dvd_sub t s
    rw [show Sg (fun q => c q * eAt (eOf D ls) q l) n - (Sg (fun q => c q * eAt (eOf D ls) q l) n - v l) = v l by omega, h1] at k
    exact not_dvd hp k
theorem sorted_ext : ∀ {a b : List Nat}, a.Pairwise (· < ·) → b.Pairwise (· < ·) → (∀ x, x ∈ a ↔ x ∈ b) → a = b
  | [], [], _, _, _ => rfl
  | [], y :: b, _, _, h => absurd ((h y).mpr List.mem_cons_self) (by simp)
  | x :: a, [], _, _, h => absurd ((h x).mp List.mem_cons_self) (by simp)
  | x :: a, y :: b, ha, hb, h => by
    obtain ⟨a1, a2⟩ := List.pairwise_cons.mp ha
    obtain ⟨b1, b2⟩ := List.pairwise_cons.mp hb
    have exy : x = y := by
      rcases List.mem_cons.mp ((h x).mp List.mem_cons_self) with e | e
      · exact e
      · rcases List.mem_cons.mp ((h y).mpr List.mem_cons_self) with e2 | e2
        · exact e2.symm
        · have := b1 x e
          have := a1 y e2
          omega
    subst exy
    congr 1
    refine sorted_ext a2 b2 fun z => ⟨fun hz => ?_, fun hz => ?_⟩
    · rcases List.mem_cons.mp ((h z).mp (List.mem_cons_of_mem _ hz)) with e | e
      · have := a1 z hz; omega
      · exact e
    · rcases List.mem_cons.mp ((h z).mpr (List.mem_cons_of_mem _ hz)) with e | e
      · have := b1 z hz; omega
      · exact e
/-- two echelons of one span are one -/
theorem Ech.unique {p : Int} {n : Nat} {D D' : List (List Int)} {ls ls' : List Nat} (hp : p ∈ primesL) (E : Ech n n D ls) (E' : Ech n n D' ls') (hD : Rws p n D) (hD' : Rws p n D') (s1 : ∀ r ∈ D, Sp p (RS D') (fn r)) (s2 : ∀ r ∈ D', Sp p (RS D) (fn r)) : D = D' := by
  have p0 : 0 < p := by have := prime_pos p hp; omega
  have half : ∀ {D D' : List (List Int)} {ls ls' : List Nat}, Ech n n D ls → Ech n n D' ls' → (∀ r ∈ D, Sp p (RS D') (fn r)) → ∀ x, x ∈ ls → x ∈ ls' := fun {D D' ls ls'} E E' s x hx => by
    obtain ⟨i, hi, rfl⟩ := List.mem_iff_getElem.mp hx
    have hiD : i < D.length := by rw [← E.len]; exact hi
    obtain ⟨o1, o2⟩ := E.one i D[i] ls[i] (List.getElem?_eq_getElem hiD) (List.getElem?_eq_getElem hi)
    exact E'.starts hp (s _ (List.getElem_mem hiD)) o1 o2
  have el : ls = ls' := sorted_ext E.up E'.up fun x => ⟨half E E' s1 x, half E' E s2 x⟩
  subst el
  have elen : D.length = D'.length := by rw [← E.len, ← E'.len]
  apply List.ext_getElem elen
  intro i h1 h2
  have hi : i < ls.length := by rw [E.len]; exact h1
  refine (hD _ (List.getElem_mem h1)).ext p0 (hD' _ (List.getElem_mem h2)) ?_
  refine E'.same (s1 _ (List.getElem_mem h1)) (.mem ⟨_, List.getElem_mem h2, rfl⟩) fun l hl => ?_
  obtain ⟨k, hk, rfl⟩ := List.mem_iff_getElem.mp hl
  by_cases hik : k = i
  · subst hik
    have a := (E.one k D[k] ls[k] (List.getElem?_eq_getElem h1) (List.getElem?_eq_getElem hk)).1
    have b := (E'.one k D'[k] ls[k] (List.getElem?_eq_getElem h2) (List.getElem?_eq_getElem hk)).1
    show p ∣ (D[k]).getD ls[k] 0 - (D'[k]).getD ls[k] 0
    rw [a, b]; exact ⟨0, by omega⟩
  · have a := E.alone k i D[i] ls[k] hik (List.getElem?_eq_getElem h1) (List.getElem?_eq_getElem hk)
    have b := E'.alone k i D'[i] ls[k] hik (List.getElem?_eq_getElem h2) (List.getElem?_eq_getElem hk)
    show p ∣ (D[i]).getD ls[k] 0 - (D'[i]).getD ls[k] 0
    rw [a, b]; exact ⟨0, by omega⟩
/-- the reduced list of lists that span the same is one -/
theorem redM_one {p : Int} {n : Nat} {L L' : List (List Int)} (hp : p ∈ primesL) (hL : Rws p n L) (hL' : Rws p n L') (s1 : ∀ r ∈ L, Sp p (RS L') (fn r)) (s2 : ∀ r ∈ L', Sp p (RS L) (fn r)) : redM p L = redM p L' := by
  have A := redM_ok hp hL
  have B := redM_ok hp hL'
  obtain ⟨ls, E⟩ := A.ech
  obtain ⟨ls', E'⟩ := B.ech
  have t : ∀ {P Q : List (List Int)}, (∀ r ∈ P, Sp p (RS Q) (fn r)) → ∀ {v : Fn}, Sp p (RS P) v → Sp p (RS Q) v := fun h v hv => hv.trans fun f hf => by
    obtain ⟨r, hr, rfl⟩ := hf
    exact h r hr
  exact E.unique hp E' A.rws B.rws (fun r hr => t B.sup (t s1 (A.sub r hr))) (fun r hr => t A.sup (t s2 (B.sub r hr)))
theorem redM_again {p : Int} {n : Nat} {L : List (List Int)} (hp : p ∈ primesL) (hL : Rws p n L) : redM p (redM p L) = redM p L := by
  have A := redM_ok hp hL
  exact redM_one hp A.rws hL A.sub A.sup
/-! ### rows kept by their first places -/
def leftI (p : Int) (kept : Nat → Option (List Int)) (row : List Int) : Nat → List Int
  | 0 => row
  | k + 1 => match kept k with
    | some q => clearM p q k (leftI p kept row k)
    | none => leftI p kept row k
structure Kept (p : Int) (n : Nat) (kept : Nat → Option (List Int)) : Prop where
  rw : ∀ l r, kept l = some r → Rw p n r ∧ l < n
  lead : Lead n kept
theorem leftI_ok {p : Int} {n : Nat} {kept : Nat → Option (List Int)} {row : List Int} (p0 : 0 < p) (K : Kept p n kept) (hr : Rw p n row) : ∀ k, k ≤ n → Rw p n (leftI p kept row k) ∧ (∀ l r, l < k → kept l = some r → (leftI p kept row k).getD l 0 = 0) ∧
    (∀ Q, (∀ l r, kept l = some r → Sp p Q (fn r)) → (Sp p Q (fn row) ↔ Sp p Q (fn (leftI p kept row k))))
  | 0, _ => ⟨hr, fun l r hl => by omega, fun Q _ => Iff.rfl⟩
  | k + 1, hk => by
    obtain ⟨i1, i2, i3⟩ := leftI_ok p0 K hr k (by omega)
    rw [leftI]
    cases hq : kept k with
    | none =>
      refine ⟨i1, fun l r hl he => ?_, i3⟩
      by_cases h : l < k
      · exact i2 l r h he
      · have : l = k := by omega
        subst this
        rw [hq] at he; cases he
    | some q =>
      dsimp only
      obtain ⟨qr, qn⟩ := K.rw k q hq
      obtain ⟨o1, o2⟩ := K.lead.one k q hq qn
      refine ⟨clearM_Rw p0 qr i1, fun l r hl he => ?_, fun Q hQ => (i3 Q hQ).trans ⟨fun a => .cong (a.plus _ (hQ k q hq)) (clearM_eqm qr i1), fun a => ?_⟩⟩
      · by_cases h : l < k
        · rw [clearM_at qr i1 (o2 l h) p0]; exact i2 l r h he
        · have : l = k := by omega
          subst this
          exact clearM_place qr i1 o1
      · refine .cong (a.plus ((leftI p kept row k).getD k 0) (hQ k q hq)) fun j => ?_
        have z := Int.dvd_neg.mpr (clearM_eqm (place := k) qr i1 j)
        rwa [show -(fn (leftI p kept row k) j + -((leftI p kept row k).getD k 0) * fn q j - fn (clearM p q k (leftI p kept row k)) j) = fn (clearM p q k (leftI p kept row k)) j + (leftI p kept row k).getD k 0 * fn q j - fn (leftI p kept row k) j by rw [Int.neg_mul]; omega] at z
theorem Kept.sp {p : Int} {n : Nat} {kept : Nat → Option (List Int)} (K : Kept p n kept) {l : Nat} {r : List Int} (h : kept l = some r) : Sp p (ES n kept) (fn r) := .mem ⟨l, r, (K.rw l r h).2, h, rfl⟩
theorem left_zero {p : Int} {n : Nat} {kept : Nat → Option (List Int)} {row : List Int} (p0 : 0 < p) (K : Kept p n kept) (hr : Rw p n row) (h : Sp p (ES n kept) (fn row)) : leftI p kept row n = List.replicate n 0 := by
  obtain ⟨i1, i2, i3⟩ := leftI_ok p0 K hr n (Nat.le_refl n)
  have hs := (i3 (ES n kept) fun l r e => K.sp e).mp h
  have z := K.lead.zero hs fun l r hl he => ⟨0, by show (leftI p kept row n).getD l 0 = _; rw [i2 l r hl he]; omega⟩
  have rz : Rw p n (List.replicate n (0 : Int)) := ⟨by simp, fun x hx => by rw [(List.mem_replicate.mp hx).2]; omega⟩
  refine i1.ext p0 rz fun j => ?_
  have e : (List.replicate n (0 : Int)).getD j 0 = 0 := by
    rw [List.getD_eq_getElem?_getD, List.getElem?_replicate]; split <;> rfl
  rw [e, Int.sub_zero]
  exact z j
end Bw
/-! rows kept: one more; what a list of places and of leads tells -/
namespace Bw
def kput (kept : Nat → Option (List Int)) (l : Nat) (q : List Int) : Nat → Option (List Int) := fun j => if j = l then some q else kept j
theorem kput_same {kept : Nat → Option (List Int)} {l : Nat} {q : List Int} : kput kept l q l = some q := if_pos rfl
theorem kput_ne {kept : Nat → Option (List Int)} {l j : Nat} {q : List Int} (h : j ≠ l) : kput kept l q j = kept j := if_neg h
theorem kput_sp {p : Int} {n l : Nat} {kept : Nat → Option (List Int)} {q : List Int} {v : Fn} (hn : kept l = none) (h : Sp p (ES n kept) v) : Sp p (ES n (kput kept l q)) v := h.trans fun f hf => by
  obtain ⟨j, r, hj, he, rfl⟩ := hf
  have : j ≠ l := fun z => by rw [z, hn] at he; cases he
  exact .mem ⟨j, r, hj, by rw [kput_ne this]; exact he, rfl⟩
theorem map_at {f : Int → Int} {r : List Int} {j n : Nat} (hr : r.length = n) (h0 : j < n) : (r.map f).getD j 0 = f (r.getD j 0) := by
  have : j < r.length := by omega
  rw [List.getD_eq_getElem?_getD, List.getElem?_map, List.getElem?_eq_getElem this, List.getD_eq_getElem?_getD, List.getElem?_eq_getElem this]; rfl
theorem kept_put {p c : Int} {n l : Nat} {kept : Nat → Option (List Int)} {left : List Int} (p0 : 0 < p) (K : Kept p n kept) (hl : Rw p n left) (hln : l < n) (hz : ∀ j, j < l → left.getD j 0 = 0) (hc : c * left.getD l 0 % p = 1) :
    Kept p n (kput kept l (left.map fun x => c * x % p)) ∧ Sp p (ES n (kput kept l (left.map fun x => c * x % p))) (fn left) := by
  have hq : Rw p n (left.map fun x => c * x % p) := by
    refine ⟨by rw [List.length_map]; exact hl.1, fun x hx => ?_⟩
    obtain ⟨y, _, rfl⟩ := List.mem_map.mp hx
    exact ⟨Int.emod_nonneg _ (by omega), Int.emod_lt_of_pos _ p0⟩
  constructor
  · refine ⟨fun j r h => ?_, ⟨fun j r h hj => ?_⟩⟩
    · by_cases e : j = l
      · subst e
        rw [kput_same] at h
        cases h
        exact ⟨hq, hln⟩
      · rw [kput_ne e] at h
        exact K.rw j r h
    · by_cases e : j = l
      · subst e
        rw [kput_same] at h
        cases h
        refine ⟨by rw [map_at hl.1 hln]; exact hc, fun i hi => ?_⟩
        rw [map_at hl.1 (by omega), hz i hi]; simp
      · rw [kput_ne e] at h
        exact K.lead.one j r h hj
  · refine .cong (Sp.add (left.getD l 0) .zero (show ES n (kput kept l _) (fn _) from ⟨l, _, hln, kput_same, rfl⟩)) fun j => ?_
    show p ∣ (0 + left.getD l 0 * (left.map fun x => c * x % p).getD j 0) - left.getD j 0
    by_cases hj : j < n
    · rw [map_at hl.1 hj, Int.zero_add]
      have e1 : p ∣ c * left.getD j 0 % p - c * left.getD j 0 := dvd_mod p _
      have e2 : p ∣ c * left.getD l 0 - 1 := by
        have := Int.dvd_neg.mpr (dvd_mod p (c * left.getD l 0))
        rw [hc] at this
        rwa [show -(1 - c * left.getD l 0) = c * left.getD l 0 - 1 by omega] at this
      obtain ⟨u, hu⟩ := e1
      obtain ⟨v, hv⟩ := e2
      refine ⟨left.getD l 0 * u + v * left.getD j 0, ?_⟩
      have a1 : c * left.getD j 0 % p = p * u + c * left.getD j 0 := by omega
      have a2 : c * left.getD l 0 = p * v + 1 := by omega
      rw [a1, Int.mul_add, Int.mul_add, ← Int.mul_assoc (left.getD l 0) c, Int.mul_comm (left.getD l 0) c, a2, Int.add_mul, Int.one_mul, Int.mul_left_comm (left.getD l 0) p u, Int.mul_assoc p v]
      omega
    · have o1 : left.getD j 0 = 0 := hl.out (by omega)
      have o2 : (left.map fun x => c * x % p).getD j 0 = 0 := hq.out (by omega)
      rw [o1, o2]; exact ⟨0, by simp⟩
/-- the places of a row that are not 0 -/
def placesM (r : List Int) : List Nat := (List.range r.length).filter fun j => r.getD j 0 ≠ 0
theorem places_nil {r : List Int} (h : placesM r = []) (j : Nat) (hj : j < r.length) : r.getD j 0 = 0 := by
  have := List.filter_eq_nil_iff.mp h j (List.mem_range.mpr hj)
  simpa using this
theorem places_cons {r : List Int} {l : Nat} {t : List Nat} (h : placesM r = l :: t) : l < r.length ∧ r.getD l 0 ≠ 0 ∧ ∀ j, j < l → r.getD j 0 = 0 := by
  have hm : l ∈ placesM r := by rw [h]; exact List.mem_cons_self
  have h1 := List.mem_filter.mp hm
  have hl := List.mem_range.mp h1.1
  refine ⟨hl, by simpa using h1.2, fun j hj => ?_⟩
  apply Classical.byContradiction
  intro hne
  have hj' : j ∈ placesM r := List.mem_filter.mpr ⟨List.mem_range.mpr (by omega), by simpa using hne⟩
  rw [h] at hj'
  have hs : (placesM r).Pairwise (· < ·) := List.Pairwise.filter _ List.pairwise_lt_range
  rw [h] at hs
  cases hj' with
  | head => omega
  | tail _ hj' => have := (List.pairwise_cons.mp hs).1 j hj'; omega
theorem places_lead {n : Nat} {r : List Int} {l : Nat} (hr : r.length = n) (hl : l < n) (h1 : r.getD l 0 = 1) (h0 : ∀ j, j < l → r.getD j 0 = 0) : ∃ t, placesM r = l :: t := by
  cases h : placesM r with
  | nil => have := places_nil h l (by omega); omega
  | cons m t =>
    obtain ⟨a, b, c⟩ := places_cons h
    have : m = l := by
      apply Classical.byContradiction
      intro hne
      by_cases hlt : m < l
      · exact b (h0 m hlt)
      · have := c l (by omega); omega
    exact ⟨t, by rw [this]⟩
theorem filter_one {α : Type} {f : α → Bool} : ∀ {L : List α} {i : Nat} {x : α}, L[i]? = some x → f x = true → (∀ j y, j ≠ i → L[j]? = some y → f y = false) → (L.filter f).length = 1
  | a :: L, 0, x, h, hx, ho => by
    cases h
    rw [List.filter_cons_of_pos hx, List.filter_eq_nil_iff.mpr fun y hy => ?_]; · rfl
    obtain ⟨j, hj, rfl⟩ := List.mem_iff_getElem.mp hy
    have := ho (j + 1) _ (by omega) (List.getElem?_eq_getElem (l := a :: L) (i := j + 1) (by rw [List.length_cons]; omega))
    simpa using this
  | a :: L, i + 1, x, h, hx, ho => by
    have ha := ho 0 a (by omega) rfl
    rw [List.filter_cons_of_neg (by rw [ha]; decide)]
    exact filter_one (i := i) (x := x) h hx fun j y hj he => ho (j + 1) y (by omega) he
theorem Ech.lone {n k : Nat} {D : List (List Int)} {ls : List Nat} (E : Ech n k D ls) {i l : Nat} {r : List Int} (hr : D[i]? = some r) (hl : ls[i]? = some l) : (D.filter fun r => r.getD l 0 ≠ 0).length = 1 := by
  refine filter_one hr ?_ fun j y hj he => ?_
  · have := (E.one i r l hr hl).1
    rw [this]; decide
  · have := E.alone i j y l (fun z => hj z.symm) he hl
    rw [this]; decide
end Bw
/-! factors: products with the rows of a list and with those of its span -/
namespace Bw
def dot (f v : Fn) (m : Nat) : Int := Sg (fun i => f i * v i) m
theorem Sg_congr {f g : Nat → Int} {n : Nat} (h : ∀ i, i < n → f i = g i) : Sg f n = Sg g n := by
  induction n with
  | zero => rfl
  | succ n ih => rw [Sg, Sg, ih fun i hi => h i (by omega), h n (by omega)]
theorem Sg_mul (c : Int) (f : Nat → Int) (n : Nat) : Sg (fun i => c * f i) n = c * Sg f n := by
  induction n with
  | zero => simp [Sg]
  | succ n ih => rw [Sg, Sg, ih, Int.mul_add]
theorem dot_plus (f u v : Fn) (c : Int) (m : Nat) : dot f (fun j => u j + c * v j) m = dot f u m + c * dot f v m := by
  unfold dot
  rw [← Sg_mul, ← Sg_add]
  exact Sg_congr fun i _ => by rw [Int.mul_add, Int.mul_left_comm]
theorem dot_cong {p : Int} {f u v : Fn} {m : Nat} (h : eqm p u v) : p ∣ dot f u m - dot f v m := by
  have e : dot f u m - dot f v m = Sg (fun i => f i * (u i - v i)) m := by
    have : dot f u m = Sg (fun i => f i * (u i - v i)) m + dot f v m := by
      unfold dot
      rw [← Sg_add]
      exact Sg_congr fun i _ => by rw [← Int.mul_add]; congr 1; omega
    omega
  rw [e]
  exact Sg_dvd fun i _ => Int.dvd_trans (h i) (Int.dvd_mul_left _ _)
theorem dot_sp {p : Int} {f : Fn} {m : Nat} {R : Fn → Prop} (h : ∀ r, R r → p ∣ dot f r m) {v : Fn} (hv : Sp p R v) : p ∣ dot f v m := by
  induction hv with
  | zero => exact ⟨0, by unfold dot; rw [Sg_zero fun i _ => by simp]; simp⟩
  | add c _ hr ih =>
    rw [dot_plus]
    exact Int.dvd_add ih (Int.dvd_trans (h _ hr) (Int.dvd_mul_left _ _))
  | cong _ e ih =>
    have := Int.dvd_sub ih (dot_cong (f := f) (m := m) e)
    rwa [show ∀ a b : Int, a - (a - b) = b from fun a b => by omega] at this
/-- factors, then -1 -/
def hat (f : Fn) (c : Nat) : Fn := fun i => if i = c then -1 else f i
theorem dot_hat (f v : Fn) (c : Nat) : dot (hat f c) v (c + 1) = dot f v c - v c := by
  unfold dot
  rw [Sg]
  have e1 : hat f c c = -1 := if_pos rfl
  rw [e1, Sg_congr (g := fun i => f i * v i) fun i hi => by unfold hat; rw [if_neg (by omega)]]
  omega
/-- a row of the reduced list that begins at the last place: no factors -/
theorem fac_none {p : Int} {c : Nat} {A D : List (List Int)} (hp : p ∈ primesL) (R : Redu p (c + 1) A D) {r : List Int} (hr : r ∈ D) (h1 : r.getD c 0 = 1) (h0 : ∀ j, j < c → r.getD j 0 = 0) (f : Fn) : ¬ ∀ a ∈ A, p ∣ dot f (fn a) c - fn a c := fun h => by
  have hd : p ∣ dot (hat f c) (fn r) (c + 1) := dot_sp (R := RS A) (fun g hg => by
    obtain ⟨a, ha, rfl⟩ := hg
    rw [dot_hat]; exact h a ha) (R.sub r hr)
  rw [dot_hat] at hd
  have z : dot f (fn r) c = 0 := Sg_zero fun i hi => by
    show f i * r.getD i 0 = 0
    rw [h0 i hi, Int.mul_zero]
  rw [z] at hd
  have : p ∣ 1 := by
    have := Int.dvd_neg.mpr hd
    rwa [show -(0 - fn r c) = 1 by show -(0 - r.getD c 0) = 1; rw [h1]; rfl] at this
  exact not_dvd hp this
/-- the factors that the rows' last numbers tell -/
theorem fac_some {p : Int} {c : Nat} {A D : List (List Int)} {ls : List Nat} (R : Redu p (c + 1) A D) (E : Ech (c + 1) (c + 1) D ls) (hl : ∀ l ∈ ls, l < c) : ∀ a ∈ A, p ∣ dot (fun k => eAt (eOf D ls) k c) (fn a) c - fn a c := by
  have key : ∀ r ∈ D, p ∣ dot (hat (fun k => eAt (eOf D ls) k c) c) (fn r) (c + 1) := fun r hr => by
    obtain ⟨i, hi, rfl⟩ := List.mem_iff_getElem.mp hr
    have hil : i < ls.length := by rw [E.len]; exact hi
    have hD := List.getElem?_eq_getElem hi
    have hL := List.getElem?_eq_getElem hil
    obtain ⟨o1, o2⟩ := E.one i _ _ hD hL
    have hlc := hl _ (List.getElem_mem hil)
    rw [dot_hat]
    have e : dot (fun k => eAt (eOf D ls) k c) (fn D[i]) c = fn D[i] c := by
      unfold dot
      rw [Sg_one hlc, Sg_zero fun k hk => ?_]
      · have q : eOf D ls ls[i] = some D[i] := eOf_at E.up hD hL
        show eAt (eOf D ls) ls[i] c * (D[i]).getD ls[i] 0 + 0 = (D[i]).getD c 0
        unfold eAt
        rw [q]
        show (D[i]).getD c 0 * (D[i]).getD ls[i] 0 + 0 = (D[i]).getD c 0
        rw [o1, Int.mul_one, Int.add_zero]
      · by_cases hkl : k = ls[i]
        · rw [if_pos hkl]
        · rw [if_neg hkl]
          cases q : eOf D ls k with
          | none =>
            show eAt (eOf D ls) k c * _ = 0
            unfold eAt
            rw [q, Int.zero_mul]
          | some r' =>
            obtain ⟨i', hr', hl'⟩ := eOf_some q
            have hne : i' ≠ i := fun z => by
              subst z
              rw [hL] at hl'
              exact hkl (Option.some.inj hl').symm
            have := E.alone i' i _ k hne hD hl'
            show eAt (eOf D ls) k c * (D[i]).getD k 0 = 0
            rw [this, Int.mul_zero]
    rw [e]
    exact ⟨0, by omega⟩
  intro a ha
  have := dot_sp (R := RS D) (fun g hg => by obtain ⟨r, hr, rfl⟩ := hg; exact key r hr) (R.sup a ha)
  rwa [dot_hat] at this
end Bw
/-! the factors, one by one; the asked rows -/
namespace Bw
def askM (rs : List (List Int)) (r : List Int) (j : Nat) : List Int := rs.map (fun q => q.getD j 0) ++ [r.getD j 0]
theorem ask_Rw {p : Int} {n j : Nat} {rs : List (List Int)} {r : List Int} (p0 : 0 < p) (hR : Rws p n rs) (hr : Rw p n r) : Rw p (rs.length + 1) (askM rs r j) := by
  refine ⟨by simp [askM], fun x hx => ?_⟩
  refine (List.mem_append.mp hx).elim (fun h => ?_) fun h => ?_
  · obtain ⟨q, hq, rfl⟩ := List.mem_map.mp h
    exact (hR q hq).at p0 j
  · rw [List.mem_singleton.mp h]; exact hr.at p0 j
theorem ask_at {rs : List (List Int)} {r : List Int} {j : Nat} : fn (askM rs r j) rs.length = r.getD j 0 := by
  show (askM rs r j).getD rs.length 0 = _
  unfold askM
  rw [List.getD_eq_getElem?_getD, List.getElem?_append_right (by simp)]
  simp
theorem ask_dot {rs : List (List Int)} {r : List Int} {j : Nat} (f : Fn) : dot f (fn (askM rs r j)) rs.length = dot f (fn (rs.map fun q => q.getD j 0)) rs.length := by
  unfold dot
  refine Sg_congr fun i hi => ?_
  show f i * (askM rs r j).getD i 0 = f i * (rs.map fun q => q.getD j 0).getD i 0
  unfold askM
  rw [List.getD_eq_getElem?_getD, List.getElem?_append_left (by simp; exact hi), ← List.getD_eq_getElem?_getD]
theorem getD_set {fs : List Int} {l k : Nat} {v : Int} (h : l < fs.length) : (fs.set l v).getD k 0 = if k = l then v else fs.getD k 0 := by
  rw [List.getD_eq_getElem?_getD, List.getElem?_set]
  by_cases e : l = k
  · subst e; simp [h]
  · rw [if_neg e, if_neg (fun z => e z.symm), List.getD_eq_getElem?_getD]
structure FI (p : Int) (c : Nat) (D : List (List Int)) (ls : List Nat) (i : Nat) (fs : List Int) : Prop where
  rw : Rw p c fs
  lt : ∀ i' l, i' < i → ls[i']? = some l → l < c
  at_ : ∀ i' l r, i' < i → ls[i']? = some l → D[i']? = some r → fs.getD l 0 = r.getD c 0
  off : ∀ k, (∀ i', i' < i → ls[i']? ≠ some k) → fs.getD k 0 = 0
theorem FI.start {p : Int} {c : Nat} {D : List (List Int)} {ls : List Nat} (p0 : 0 < p) : FI p c D ls 0 (List.replicate c 0) :=
  ⟨⟨by simp, fun x hx => by rw [(List.mem_replicate.mp hx).2]; omega⟩, fun _ _ h => by omega, fun _ _ _ h => by omega, fun k _ => by rw [List.getD_eq_getElem?_getD, List.getElem?_replicate]; split <;> rfl⟩
theorem FI.step {p : Int} {c m i l : Nat} {D : List (List Int)} {ls : List Nat} {fs r : List Int} (p0 : 0 < p) (F : FI p c D ls i fs) (up : ls.Pairwise (· < ·)) (hr : Rw p m r) (hl : ls[i]? = some l) (hD : D[i]? = some r) (hc : l < c) : FI p c D ls (i + 1) (fs.set l (r.getD c 0)) := by
  have hll : l < fs.length := by rw [F.rw.1]; exact hc
  have ne : ∀ i' l', i' < i → ls[i']? = some l' → l' ≠ l := fun i' l' h1 h2 z => by
    obtain ⟨a, ea⟩ := List.getElem?_eq_some_iff.mp h2
    obtain ⟨b, eb⟩ := List.getElem?_eq_some_iff.mp hl
    have := List.pairwise_iff_getElem.mp up i' i a b h1
    omega
  refine ⟨⟨by rw [List.length_set]; exact F.rw.1, fun x hx => ?_⟩, fun i' l' h1 h2 => ?_, fun i' l' r' h1 h2 h3 => ?_, fun k hk => ?_⟩
  · rcases List.mem_or_eq_of_mem_set hx with h | rfl
    · exact F.rw.2 x h
    · exact hr.at p0 c
  · by_cases e : i' = i
    · subst e
      rw [hl] at h2
      cases h2
      exact hc
    · exact F.lt i' l' (by omega) h2
  · by_cases e : i' = i
    · subst e
      rw [hl] at h2
      rw [hD] at h3
      cases h2
      cases h3
      rw [getD_set hll, if_pos rfl]
    · rw [getD_set hll, if_neg (ne i' l' (by omega) h2)]
      exact F.at_ i' l' r' (by omega) h2 h3
  · have : k ≠ l := fun z => hk i (by omega) (by rw [hl, z])
    rw [getD_set hll, if_neg this]
    exact F.off k fun i' h => hk i' (by omega)
theorem FI.done {p : Int} {c : Nat} {D : List (List Int)} {ls : List Nat} {fs : List Int} (up : ls.Pairwise (· < ·)) (len : ls.length = D.length) (F : FI p c D ls D.length fs) (k : Nat) : fs.getD k 0 = eAt (eOf D ls) k c := by
  unfold eAt
  cases q : eOf D ls k with
  | some r =>
    obtain ⟨i, h1, h2⟩ := eOf_some q
    exact F.at_ i k r (List.getElem?_eq_some_iff.mp h1).1 h2 h1
  | none =>
    refine F.off k fun i hi h => ?_
    have := eOf_at up (List.getElem?_eq_getElem hi) h
    rw [q] at this
    cases this
end Bw
/-! sums of rows and factors: both ways -/
namespace Bw
theorem kept_new {p c : Int} {n : Nat} {R : Fn → Prop} {left : List Int} (p0 : 0 < p) (hl : Rw p n left) (h : Sp p R (fn left)) : Sp p R (fn (left.map fun x => c * x % p)) := by
  refine .cong (Sp.plus c .zero h) fun j => ?_
  show p ∣ (0 + c * left.getD j 0) - (left.map fun x => c * x % p).getD j 0
  by_cases hj : j < n
  · rw [map_at hl.1 hj, Int.zero_add]
    have := Int.dvd_neg.mpr (dvd_mod p (c * left.getD j 0))
    rwa [show -(c * left.getD j 0 % p - c * left.getD j 0) = c * left.getD j 0 - c * left.getD j 0 % p by omega] at this
  · have o1 : left.getD j 0 = 0 := hl.out (by omega)
    have o2 : (left.map fun x => c * x % p).getD j 0 = 0 := by
      rw [List.getD_eq_getElem?_getD, List.getElem?_eq_none (by rw [List.length_map, hl.1]; omega)]; rfl
    rw [o1, o2]; exact ⟨0, by simp⟩
/-- the numbers of the rows at a place -/
def col (rs : List (List Int)) (j : Nat) : Fn := fn (rs.map fun q => q.getD j 0)
theorem col_at {rs : List (List Int)} {j k : Nat} {q : List Int} (h : rs[k]? = some q) : col rs j k = q.getD j 0 := by
  show (rs.map fun q => q.getD j 0).getD k 0 = _
  rw [List.getD_eq_getElem?_getD, List.getElem?_map, h]; rfl
theorem Sg_at {n k : Nat} (hk : k < n) (v : Fn) : Sg (fun i => (if i = k then 1 else 0) * v i) n = v k := by
  rw [Sg_one hk, Sg_zero fun i _ => ?_]
  · simp
  · by_cases h : i = k
    · rw [if_pos h]
    · rw [if_neg h, if_neg h]; simp
theorem sp_factors {p : Int} {rs : List (List Int)} {v : Fn} (h : Sp p (RS rs) v) : ∃ f : Fn, ∀ j, p ∣ dot f (col rs j) rs.length - v j := by
  induction h with
  | zero => exact ⟨fun _ => 0, fun j => ⟨0, by unfold dot; rw [Sg_zero fun i _ => by simp]; simp⟩⟩
  | @add u r c _ hr ih =>
    obtain ⟨f, hf⟩ := ih
    obtain ⟨q, hq, rfl⟩ := hr
    obtain ⟨k, hk, rfl⟩ := List.mem_iff_getElem.mp hq
    refine ⟨fun i => f i + c * (if i = k then 1 else 0), fun j => ?_⟩
    have e : dot (fun i => f i + c * (if i = k then 1 else 0)) (col rs j) rs.length = dot f (col rs j) rs.length + c * fn rs[k] j := by
      unfold dot
      have e1 : Sg (fun i => (if i = k then 1 else 0) * col rs j i) rs.length = fn rs[k] j := by
        rw [Sg_at hk, col_at (List.getElem?_eq_getElem hk)]; rfl
      rw [← e1, ← Sg_mul, ← Sg_add]
      exact Sg_congr fun i _ => by rw [Int.add_mul, Int.mul_assoc]
    rw [e]
    have := hf j
    rwa [show ∀ a b d : Int, a + d - (b + d) = a - b from fun a b d => by omega]
  | cong _ e ih =>
    obtain ⟨f, hf⟩ := ih
    exact ⟨f, fun j => by
      have := Int.dvd_add (hf j) (e j)
      rwa [show ∀ a b d : Int, a - b + (b - d) = a - d from fun a b d => by omega] at this⟩
/-- .. and back -/
theorem factors_sp {p : Int} {rs : List (List Int)} (f : Fn) : ∀ m, m ≤ rs.length → Sp p (RS rs) (fun j => dot f (col rs j) m)
  | 0, _ => Sp.zero
  | m + 1, h => by
    have hm : m < rs.length := h
    refine (Sp.add (f m) (factors_sp f m (by omega)) ⟨rs[m], List.getElem_mem hm, rfl⟩).of_eq fun j => ?_
    show dot f (col rs j) m + f m * fn rs[m] j = dot f (col rs j) (m + 1)
    unfold dot
    rw [Sg, col_at (List.getElem?_eq_getElem hm)]; rfl
/-- the sum as the law adds it up -/
def lsum (rs : List (List Int)) (fs : List Int) (j : Nat) : Int := (List.zipWith (fun r f => r.getD j 0 * f) rs fs).sum
theorem lsum_dot {rs : List (List Int)} {fs : List Int} {j : Nat} (h : rs.length = fs.length) : lsum rs fs j = dot (fn fs) (col rs j) rs.length := by
  have key : ∀ m, m ≤ rs.length → ((List.zipWith (fun r f => r.getD j 0 * f) rs fs).take m).sum = Sg (fun i => fn fs i * col rs j i) m := by
    intro m
    induction m with
    | zero => intro _; rfl
    | succ m ih =>
      intro hm
      have h1 : m < rs.length := hm
      have h2 : m < fs.length := by omega
      rw [List.take_add_one, List.getElem?_zipWith, List.getElem?_eq_getElem h1, List.getElem?_eq_getElem h2, Sg, ← ih (by omega), List.sum_append, col_at (List.getElem?_eq_getElem h1)]
      show _ + (rs[m].getD j 0 * fs[m] + 0) = _ + fs.getD m 0 * _
      rw [List.getD_eq_getElem?_getD (l := fs), List.getElem?_eq_getElem h2, Int.add_zero, Int.mul_comm]; rfl
  have := key rs.length (Nat.le_refl _)
  rw [List.take_of_length_le (by rw [List.length_zipWith]; omega)] at this
  exact this
def sumL (p : Int) (rs : List (List Int)) (fs : List Int) (n : Nat) : List Int := (List.range n).map fun j => lsum rs fs j % p
theorem sumL_Rw {p : Int} {rs : List (List Int)} {fs : List Int} {n : Nat} (p0 : 0 < p) : Rw p n (sumL p rs fs n) := by
  refine ⟨by simp [sumL], fun x hx => ?_⟩
  obtain ⟨j, _, rfl⟩ := List.mem_map.mp hx
  exact ⟨Int.emod_nonneg _ (show p ≠ 0 by omega), Int.emod_lt_of_pos _ p0⟩
theorem sumL_row {p : Int} {rs : List (List Int)} {fs r : List Int} {n : Nat} (p0 : 0 < p) (h : rs.length = fs.length) (hr : Rw p n r) (hs : ∀ j, j < n → p ∣ dot (fn fs) (col rs j) rs.length - r.getD j 0) : sumL p rs fs n = r := by
  refine (sumL_Rw p0).ext p0 hr fun j => ?_
  by_cases hj : j < n
  · have e : (sumL p rs fs n).getD j 0 = lsum rs fs j % p := by
      unfold sumL
      rw [List.getD_eq_getElem?_getD, List.getElem?_map, List.getElem?_range hj]; rfl
    rw [e, lsum_dot h]
    have := Int.dvd_add (dvd_mod p (dot (fn fs) (col rs j) rs.length)) (hs j hj)
    rwa [show ∀ a b d : Int, a - b + (b - d) = a - d from fun a b d => by omega] at this
  · rw [(sumL_Rw p0).out (by omega), hr.out (by omega)]; exact ⟨0, by simp⟩
end Bw
/-! families in steps: how many there can be; the rows that are barred -/
namespace Bw
def Tri (p : Int) : List (Fn × Nat) → Prop
  | [] => True
  | q :: F => ¬ p ∣ q.1 q.2 ∧ (∀ x ∈ F, p ∣ x.1 q.2) ∧ Tri p F
theorem sp_cons {p : Int} {u : Fn} {U : List Fn} {v : Fn} (h : Sp p (· ∈ u :: U) v) : ∃ (c : Int) (w : Fn), Sp p (· ∈ U) w ∧ eqm p (fun j => w j + c * u j) v := by
  induction h with
  | zero => exact ⟨0, fun _ => 0, .zero, fun j => ⟨0, by simp⟩⟩
  | @add v r d _ hr ih =>
    obtain ⟨c, w, hw, e⟩ := ih
    rcases List.mem_cons.mp hr with rfl | hr
    · refine ⟨c + d, w, hw, fun j => ?_⟩
      obtain ⟨k, hk⟩ := e j
      exact ⟨k, by grind⟩
    · refine ⟨c, _, Sp.add d hw hr, fun j => ?_⟩
      obtain ⟨k, hk⟩ := e j
      exact ⟨k, by grind⟩
  | cong _ e ih =>
    obtain ⟨c, w, hw, e2⟩ := ih
    exact ⟨c, w, hw, e2.trans e⟩
theorem inv_ex {p c : Int} (hp : p ∈ primesL) (h : ¬ p ∣ c) : ∃ d, p ∣ d * c - 1 := by
  have p2 := (prime_pos p hp).1
  have h0 : 0 ≤ c % p := Int.emod_nonneg _ (by omega)
  have h1 : c % p < p := Int.emod_lt_of_pos _ (by omega)
  have h2 : c % p ≠ 0 := fun z => h (Int.dvd_of_emod_eq_zero z)
  obtain ⟨_, _, e⟩ := turn_ok hp (show 1 ≤ c % p by omega) h1
  refine ⟨turnM p (c % p), ?_⟩
  obtain ⟨k, hk⟩ := dvd_mod p c
  obtain ⟨k2, hk2⟩ := dvd_mod p (turnM p (c % p) * (c % p))
  rw [e] at hk2
  exact ⟨-k2 - turnM p (c % p) * k, by grind⟩
theorem tri_step {p : Int} (hp : p ∈ primesL) {u : Fn} {U : List Fn} : ∀ F : List (Fn × Nat), Tri p F → (∀ x ∈ F, Sp p (· ∈ u :: U) x.1) →
    (∀ x ∈ F, Sp p (· ∈ U) x.1) ∨ ∃ (r0 w0 : Fn) (d : Int) (F' : List (Fn × Nat)), Sp p (· ∈ U) w0 ∧ eqm p (fun j => w0 j + d * r0 j) u ∧ F'.length + 1 = F.length ∧ Tri p F' ∧ (∀ x ∈ F', Sp p (· ∈ U) x.1) ∧
      ∀ j, (∀ x ∈ F, p ∣ x.1 j) → p ∣ r0 j ∧ ∀ x ∈ F', p ∣ x.1 j
  | [], _, _ => .inl fun x hx => (nomatch hx)
  | (r, l) :: G, ⟨h1, h2, h3⟩, hS => by
    obtain ⟨c, w, hw, e⟩ := sp_cons (hS (r, l) List.mem_cons_self)
    rcases tri_step hp G h3 (fun x hx => hS x (List.mem_cons_of_mem _ hx)) with hG | ⟨r0, w0, d, F', a1, a2, a3, a4, a5, a6⟩
    · by_cases hc : p ∣ c
      · refine .inl fun x hx => ?_
        rcases (List.mem_cons.mp hx) with (rfl | hx)
        · refine .cong hw fun j => ?_
          obtain ⟨k, hk⟩ := e j
          obtain ⟨k2, hk2⟩ := hc
          exact ⟨k - k2 * u j, by grind⟩
        · exact hG x hx
      · obtain ⟨d, hd⟩ := inv_ex hp hc
        refine .inr ⟨r, fun j => 0 + -d * w j, d, G, Sp.plus (-d) .zero hw, fun j => ?_, rfl, h3, hG, fun j hj => ⟨hj _ List.mem_cons_self, fun x hx => hj x (List.mem_cons_of_mem _ hx)⟩⟩
        obtain ⟨k, hk⟩ := e j
        obtain ⟨k2, hk2⟩ := hd
        exact ⟨-d * k + k2 * u j, by grind⟩
    · have z0 := a6 l h2
      refine .inr ⟨r0, w0, d, (fun j => r j + -(c * d) * r0 j, l) :: F', a1, a2, by simp [a3], ⟨fun z => h1 ?_, z0.2, a4⟩, fun x hx => ?_, fun j hj => ?_⟩
      · obtain ⟨k, hk⟩ := z
        obtain ⟨k2, hk2⟩ := z0.1
        exact ⟨k + c * d * k2, by grind⟩
      · rcases (List.mem_cons.mp hx) with (rfl | hx)
        · refine .cong (hw.plus c a1) fun j => ?_
          obtain ⟨k, hk⟩ := e j
          obtain ⟨k2, hk2⟩ := a2 j
          exact ⟨k + c * k2, by grind⟩
        · exact a5 x hx
      · obtain ⟨b1, b2⟩ := a6 j fun x hx => hj x (List.mem_cons_of_mem _ hx)
        refine ⟨b1, fun x hx => ?_⟩
        rcases (List.mem_cons.mp hx) with (rfl | hx)
        · obtain ⟨k, hk⟩ := hj (r, l) List.mem_cons_self
          obtain ⟨k2, hk2⟩ := b1
          exact ⟨k - c * d * k2, by grind⟩
        · exact b2 x hx
theorem sp_nil {p : Int} {R : Fn → Prop} (h0 : ∀ f, ¬ R f) {v : Fn} (h : Sp p R v) (j : Nat) : p ∣ v j := by
  induction h with
  | zero => exact ⟨0, by simp⟩
  | add c _ hr ih => exact absurd hr (h0 _)
  | cong _ e ih =>
    obtain ⟨k, hk⟩ := ih
    obtain ⟨k2, hk2⟩ := e j
    exact ⟨k - k2, by grind⟩
/-- no more than the rows that span them -/
theorem tri_le {p : Int} (hp : p ∈ primesL) : ∀ (U : List Fn) (F : List (Fn × Nat)), Tri p F → (∀ x ∈ F, Sp p (· ∈ U) x.1) → F.length ≤ U.length
  | [], F, hT, hS => by
    cases F with
    | nil => exact Nat.le_refl _
    | cons q F => exact absurd (sp_nil (fun f hf => nomatch hf) (hS q List.mem_cons_self) q.2) hT.1
  | u :: U, F, hT, hS => by
    rcases tri_step hp F hT hS with h | ⟨_, _, _, F', _, _, a3, a4, a5, _⟩
    · exact Nat.le_succ_of_le (tri_le hp U F hT h)
    · have := tri_le hp U F' a4 a5
      simp only [List.length_cons]
      omega
theorem RS_mem {p : Int} {L : List (List Int)} {v : Fn} : Sp p (RS L) v ↔ Sp p (· ∈ L.map fn) v := by
  constructor
  · exact fun h => h.trans fun f ⟨r, hr, e⟩ => .mem (e ▸ List.mem_map_of_mem hr)
  · exact fun h => h.trans fun f hf => by
      obtain ⟨r, hr, rfl⟩ := List.mem_map.mp hf
      exact .mem ⟨r, hr, rfl⟩
theorem tri_same {p : Int} (hp : p ∈ primesL) {L L' : List (List Int)} {ls ls' : List Nat} (e : ls.length = L.length) (e' : ls'.length = L'.length) (t : Tri p ((L.map fn).zip ls)) (t' : Tri p ((L'.map fn).zip ls')) (s : ∀ r ∈ L, Sp p (RS L') (fn r)) (s' : ∀ r ∈ L', Sp p (RS L) (fn r)) : L.length = L'.length := by
  have key : ∀ {L L' : List (List Int)} {ls : List Nat}, ls.length = L.length → Tri p ((L.map fn).zip ls) → (∀ r ∈ L, Sp p (RS L') (fn r)) → L.length ≤ L'.length := fun {L L' ls} e t s => by
    have := tri_le hp (L'.map fn) _ t fun x hx => by
      obtain ⟨r, hr, e⟩ := List.mem_map.mp (List.of_mem_zip hx).1
      rw [← e]
      exact RS_mem.mp (s r hr)
    simpa [e] using this
  exact Nat.le_antisymm (key e t s) (key e' t' s')
/-- lists of rows, each with a place of its own, are such -/
theorem tri_of {p : Int} (hp : p ∈ primesL) : ∀ {L : List (List Int)} {ls : List Nat}, (∀ (i : Nat) (r : List Int) (l : Nat), L[i]? = some r → ls[i]? = some l → r.getD l 0 = 1) → (∀ (i j : Nat) (r : List Int) (l : Nat), i < j → L[j]? = some r → ls[i]? = some l → r.getD l 0 = 0) → Tri p ((L.map fn).zip ls)
  | [], _, _, _ => trivial
  | _ :: _, [], _, _ => trivial
  | r :: L, l :: ls, h1, h2 => by
    refine ⟨fun z => ?_, fun x hx => ?_, tri_of hp (fun i r l a b => h1 (i + 1) r l a b) (fun i j r l h a b => h2 (i + 1) (j + 1) r l (by omega) a b)⟩
    · have e := h1 0 r l rfl rfl
      have z : p ∣ r.getD l 0 := z
      rw [e] at z
      exact not_dvd hp z
    · obtain ⟨q, hq, e⟩ := List.mem_map.mp (List.of_mem_zip hx).1
      obtain ⟨j, hj, rfl⟩ := List.mem_iff_getElem.mp hq
      have := h2 0 (j + 1) L[j] l (by omega) (List.getElem?_eq_getElem (l := r :: L) (i := j + 1) (by simpa using hj)) rfl
      rw [← e]
      exact ⟨0, by show (L[j]).getD l 0 = _; rw [this]; omega⟩
theorem Ech.tri {p : Int} {n k : Nat} (hp : p ∈ primesL) {D : List (List Int)} {ls : List Nat} (E : Ech n k D ls) : Tri p ((D.map fn).zip ls) :=
  tri_of hp (fun i r l a b => (E.one i r l a b).1) fun i j r l h a b => E.alone i j r l (by omega) a b
/-! ### a barred row -/
structure BI (p : Int) (n : Nat) (D : List (List Int)) (ls : List Nat) (place i : Nat) (bs : List Int) : Prop where
  rw : Rw p n bs
  at_ : ∀ (i' l : Nat) (r : List Int), i' < i → ls[i']? = some l → D[i']? = some r → bs.getD l 0 = -(r.getD place 0) % p
  off : ∀ k : Nat, (∀ i', i' < i → ls[i']? ≠ some k) → bs.getD k 0 = if k = place then 1 else 0
theorem rep_at (n k : Nat) : (List.replicate n (0 : Int)).getD k 0 = 0 := by
  rw [List.getD_eq_getElem?_getD, List.getElem?_replicate]; split <;> rfl
theorem BI.start {p : Int} {n place : Nat} {D : List (List Int)} {ls : List Nat} (p2 : 2 ≤ p) (hn : place < n) : BI p n D ls place 0 ((List.replicate n 0).set place 1) :=
  ⟨⟨by simp, fun x hx => by
    rcases List.mem_or_eq_of_mem_set hx with h | rfl
    · rw [(List.mem_replicate.mp h).2]; omega
    · omega⟩, fun _ _ _ h => by omega, fun k _ => by rw [getD_set (by simpa using hn), rep_at]⟩
theorem BI.step {p : Int} {n place i l : Nat} {D : List (List Int)} {ls : List Nat} {bs r : List Int} (p0 : 0 < p) (F : BI p n D ls place i bs) (up : ls.Pairwise (· < ·)) (hl : ls[i]? = some l) (hD : D[i]? = some r) (hc : l < n) : BI p n D ls place (i + 1) (bs.set l (-(r.getD place 0) % p)) := by
  have hll : l < bs.length := by rw [F.rw.1]; exact hc
  have ne : ∀ i' l', i' < i → ls[i']? = some l' → l' ≠ l := fun i' l' h1 h2 z => by
    obtain ⟨a, ea⟩ := List.getElem?_eq_some_iff.mp h2
    obtain ⟨b, eb⟩ := List.getElem?_eq_some_iff.mp hl
    have := List.pairwise_iff_getElem.mp up i' i a b h1
    omega
  refine ⟨⟨by rw [List.length_set]; exact F.rw.1, fun x hx => ?_⟩, fun i' l' r' h1 h2 h3 => ?_, fun k hk => ?_⟩
  · rcases List.mem_or_eq_of_mem_set hx with h | rfl
    · exact F.rw.2 x h
    · exact ⟨Int.emod_nonneg _ (by omega), Int.emod_lt_of_pos _ p0⟩
  · by_cases e : i' = i
    · subst e
      rw [hl] at h2
      rw [hD] at h3
      cases h2
      cases h3
      rw [getD_set hll, if_pos rfl]
    · rw [getD_set hll, if_neg (ne i' l' (by omega) h2)]
      exact F.at_ i' l' r' (by omega) h2 h3
  · have : k ≠ l := fun z => hk i (by omega) (by rw [hl, z])
    rw [getD_set hll, if_neg this]
    exact F.off k fun i' h => hk i' (by omega)
/-- what is told of a barred row -/
structure Bar (p : Int) (n : Nat) (D : List (List Int)) (ls : List Nat) (place : Nat) (bs : List Int) : Prop where
  rw : Rw p n bs
  lead : ∀ (i l : Nat) (r : List Int), ls[i]? = some l → D[i]? = some r → bs.getD l 0 = -(r.getD place 0) % p
  off : ∀ k : Nat, k ∉ ls → bs.getD k 0 = if k = place then 1 else 0
theorem BI.done {p : Int} {n place : Nat} {D : List (List Int)} {ls : List Nat} {bs : List Int} (len : ls.length = D.length) (F : BI p n D ls place D.length bs) : Bar p n D ls place bs :=
  ⟨F.rw, fun i l r h1 h2 => F.at_ i l r (List.getElem?_eq_some_iff.mp h2).1 h1 h2, fun k hk => F.off k fun i _ h => hk (List.mem_of_getElem? h)⟩
theorem Sg_two {f : Nat → Int} {a b n : Nat} (ha : a < n) (hb : b < n) (hne : a ≠ b) (h : ∀ i, i < n → i ≠ a → i ≠ b → f i = 0) : Sg f n = f a + f b := by
  rw [Sg_one ha, Sg_one (f := fun i => if i = a then 0 else f i) hb]
  rw [Sg_zero fun i hi => ?_]
  · simp only [if_neg (Ne.symm hne)]; omega
  · by_cases h1 : i = b
    · simp [h1]
    · by_cases h2 : i = a
      · simp [h2]
      · simp [h1, h2, h i hi h2 h1]
theorem Bar.dot {p : Int} {n place : Nat} {D : List (List Int)} {ls : List Nat} {bs : List Int} (B : Bar p n D ls place bs) (E : Ech n n D ls) (hn : place < n) (hp : place ∉ ls) : ∀ r ∈ D, p ∣ Bw.dot (fn bs) (fn r) n := fun r hr => by
  obtain ⟨i, hi, rfl⟩ := List.mem_iff_getElem.mp hr
  have hil : i < ls.length := by rw [E.len]; exact hi
  have hD := List.getElem?_eq_getElem hi
  have hL := List.getElem?_eq_getElem hil
  obtain ⟨o1, _⟩ := E.one i _ _ hD hL
  have hlt := E.lt _ (List.getElem_mem hil)
  have hne : ls[i] ≠ place := fun z => hp (z ▸ List.getElem_mem hil)
  unfold Bw.dot
  rw [Sg_two hlt hn hne fun k hk h1 h2 => ?_]
  · show p ∣ bs.getD ls[i] 0 * (D[i]).getD ls[i] 0 + bs.getD place 0 * (D[i]).getD place 0
    rw [o1, B.lead i _ _ hL hD, B.off place hp, if_pos rfl]
    obtain ⟨k, hk⟩ := dvd_mod p (-((D[i]).getD place 0))
    exact ⟨k, by grind⟩
  · show bs.getD k 0 * (D[i]).getD k 0 = 0
    by_cases hm : k ∈ ls
    · obtain ⟨j, hj, rfl⟩ := List.mem_iff_getElem.mp hm
      have : j ≠ i := fun z => h1 (by subst z; rfl)
      rw [E.alone j i _ _ this hD (List.getElem?_eq_getElem hj), Int.mul_zero]
    · rw [B.off k hm, if_neg h2, Int.zero_mul]
/-- the places that lead no row -/
def freeM (n : Nat) (ls : List Nat) : List Nat := (List.range n).filter fun j => j ∉ ls
theorem free_len {n : Nat} {ls : List Nat} (up : ls.Pairwise (· < ·)) (lt : ∀ l ∈ ls, l < n) : (freeM n ls).length + ls.length = n := by
  have hnd : ls.Nodup := up.imp fun h => by omega
  have h1 : ((List.range n).filter fun j => j ∈ ls).length = ls.length := by
    have e : ((List.range n).filter fun j => j ∈ ls) = ls := by
      refine sorted_ext (List.Pairwise.filter _ List.pairwise_lt_range) up fun x => ?_
      simp only [List.mem_filter, List.mem_range, decide_eq_true_eq]
      exact ⟨fun h => h.2, fun h => ⟨lt x h, h⟩⟩
    rw [e]
  have h2 : ∀ L : List Nat, (L.filter fun j => j ∉ ls).length + (L.filter fun j => j ∈ ls).length = L.length := by
    intro L
    induction L with
    | nil => rfl
    | cons a L ih =>
      by_cases h : a ∈ ls
      · rw [List.filter_cons_of_neg (by simpa using h), List.filter_cons_of_pos (by simpa using h), List.length_cons, List.length_cons]; omega
      · rw [List.filter_cons_of_pos (by simpa using h), List.filter_cons_of_neg (by simpa using h), List.length_cons, List.length_cons]; omega
  have := h2 (List.range n)
  rw [h1, List.length_range] at this
  exact this
/-- the list of what is barred, ahead of its reducing -/
structure Bars (p : Int) (n : Nat) (D : List (List Int)) (ls : List Nat) (fs : List Nat) (B : List (List Int)) : Prop where
  len : B.length = fs.length
  at_ : ∀ (i l : Nat) (b : List Int), fs[i]? = some l → B[i]? = some b → Bar p n D ls l b
theorem Bars.rws {p : Int} {n : Nat} {D B : List (List Int)} {ls fs : List Nat} (h : Bars p n D ls fs B) : Rws p n B := fun r hr => by
  obtain ⟨i, hi, rfl⟩ := List.mem_iff_getElem.mp hr
  exact (h.at_ i _ _ (List.getElem?_eq_getElem (by rw [← h.len]; exact hi)) (List.getElem?_eq_getElem hi)).rw
theorem Bars.count {p : Int} {n : Nat} {L D B X : List (List Int)} {ls : List Nat} (hp : p ∈ primesL) (h : Bars p n D ls (freeM n ls) B) (E : Ech n n D ls) (R : Redu p n B X) : X.length + D.length = n := by
  obtain ⟨xs, EX⟩ := R.ech
  have t1 : Tri p ((B.map fn).zip (freeM n ls)) := by
    have hf : ∀ {i l : Nat}, (freeM n ls)[i]? = some l → l ∉ ls := fun e => by
      have := (List.mem_filter.mp (List.mem_of_getElem? e)).2
      simpa using this
    refine tri_of hp (fun i r l a b => ?_) fun i j r l hij a b => ?_
    · rw [(h.at_ i l r b a).off l (hf b), if_pos rfl]
    · have hj : j < (freeM n ls).length := by rw [← h.len]; exact (List.getElem?_eq_some_iff.mp a).1
      have e := List.getElem?_eq_getElem hj
      rw [(h.at_ j _ r e a).off l (hf b), if_neg]
      have hs : (freeM n ls).Pairwise (· < ·) := List.Pairwise.filter _ List.pairwise_lt_range
      obtain ⟨hi, ei⟩ := List.getElem?_eq_some_iff.mp b
      have := List.pairwise_iff_getElem.mp hs i j hi hj hij
      omega
  have e1 : B.length = X.length := tri_same hp h.len.symm EX.len t1 (EX.tri hp) R.sup R.sub
  have e2 := free_len E.up E.lt
  rw [← e1, h.len, ← E.len]
  exact e2
theorem Bars.dots {p : Int} {n : Nat} {L D B X : List (List Int)} {ls : List Nat} (h : Bars p n D ls (freeM n ls) B) (E : Ech n n D ls) (RL : Redu p n L D) (R : Redu p n B X) : ∀ x ∈ X, ∀ r ∈ L, p ∣ dot (fn x) (fn r) n := fun x hx r hr => by
  have hb : ∀ b ∈ B, ∀ r ∈ L, p ∣ dot (fn b) (fn r) n := fun b hb r hr => by
    obtain ⟨i, hi, rfl⟩ := List.mem_iff_getElem.mp hb
    have hi' : i < (freeM n ls).length := by rw [← h.len]; exact hi
    have hf := List.mem_filter.mp (List.getElem_mem hi')
    have B := h.at_ i _ _ (List.getElem?_eq_getElem hi') (List.getElem?_eq_getElem hi)
    refine dot_sp (R := RS D) (fun g hg => ?_) (RL.sup r hr)
    obtain ⟨d, hd, rfl⟩ := hg
    exact B.dot E (List.mem_range.mp hf.1) (by simpa using hf.2) d hd
  have comm : ∀ f g : Fn, dot f g n = dot g f n := fun f g => Sg_congr fun i _ => Int.mul_comm _ _
  rw [comm]
  refine dot_sp (R := RS B) (fun g hg => ?_) (R.sub x hx)
  obtain ⟨b, hb', rfl⟩ := hg
  rw [comm]
  exact hb b hb' r hr
end Bw
/-! the law's own rank: rows taken from behind, by their last places -/
namespace Bw
theorem tri_snoc {p : Int} {f : Fn} {l : Nat} (hf : ¬ p ∣ f l) : ∀ {A : List (Fn × Nat)}, Tri p A → (∀ q ∈ A, p ∣ f q.2) → Tri p (A ++ [(f, l)])
  | [], _, _ => ⟨hf, fun x hx => (nomatch hx), trivial⟩
  | q :: A, ⟨h1, h2, h3⟩, h => ⟨h1, fun x hx => by
      rcases (List.mem_append.mp hx) with (hx | hx)
      · exact h2 x hx
      · rw [List.mem_singleton.mp hx]; exact h q List.mem_cons_self, tri_snoc hf h3 fun q hq => h q (List.mem_cons_of_mem _ hq)⟩
structure RankI (p : Int) (n : Nat) (rows left P : List (List Int)) (ls : List Nat) : Prop where
  rl : Rws p n left
  rp : Rws p n P
  len : ls.length = P.length
  tri : Tri p ((P.map fn).zip ls)
  van : ∀ l ∈ ls, ∀ r ∈ left, r.getD l 0 = 0
  sub : ∀ r ∈ P ++ left, Sp p (RS rows) (fn r)
  sup : ∀ r ∈ rows, Sp p (RS (P ++ left)) (fn r)
theorem RankI.start {p : Int} {n : Nat} {rows : List (List Int)} (h : Rws p n rows) : RankI p n rows rows [] [] :=
  ⟨h, fun r hr => (nomatch hr), rfl, trivial, fun l hl => (nomatch hl), fun r hr => .mem ⟨r, hr, rfl⟩, fun r hr => .mem ⟨r, hr, rfl⟩⟩
theorem RankI.skip {p : Int} {n : Nat} {rows left P : List (List Int)} {ls : List Nat} {r : List Int} (I : RankI p n rows (left ++ [r]) P ls) (hz : ∀ j, j < n → r.getD j 0 = 0) : RankI p n rows left P ls := by
  have hr := I.rl r (by simp)
  refine ⟨fun q hq => I.rl q (by simp [hq]), I.rp, I.len, I.tri, fun l hl q hq => I.van l hl q (by simp [hq]), fun q hq => I.sub q (by rcases List.mem_append.mp hq with h | h <;> simp [h]), fun q hq => (I.sup q hq).trans fun f hf => ?_⟩
  obtain ⟨x, hx, rfl⟩ := hf
  rcases (List.mem_append.mp hx) with (h | h)
  · exact .mem ⟨x, by simp [h], rfl⟩
  · rcases (List.mem_append.mp h) with (h | h)
    · exact .mem ⟨x, by simp [h], rfl⟩
    · rw [List.mem_singleton.mp h]
      exact Sp.zero.of_eq fun j => (fn_zero hr hz j).symm
def rankM (p : Int) (c : Int) (l : Nat) (r q : List Int) : List Int := addM p q (-(q.getD l 0 * c)) r
theorem RankI.take {p c : Int} {n l : Nat} {rows left P : List (List Int)} {ls : List Nat} {r : List Int} (p0 : 0 < p) (I : RankI p n rows (left ++ [r]) P ls) (hl : l < n) (h0 : r.getD l 0 ≠ 0) (hc : c * r.getD l 0 % p = 1) : RankI p n rows (left.map (rankM p c l r)) (P ++ [r]) (ls ++ [l]) := by
  have hr := I.rl r (by simp)
  have hq : ∀ q ∈ left, Rw p n q := fun q h => I.rl q (by simp [h])
  have b := hr.at p0 l
  refine ⟨fun q h => ?_, fun q h => ?_, by simp [I.len], ?_, fun l' h' q h => ?_, fun q h => ?_, fun q h => ?_⟩
  · obtain ⟨x, hx, rfl⟩ := List.mem_map.mp h
    exact addM_Rw _ p0 (hq x hx).1 hr.1
  · rcases (List.mem_append.mp h) with (h | h)
    · exact I.rp q h
    · rw [List.mem_singleton.mp h]; exact hr
  · rw [List.map_append, List.zip_append (by simp [I.len])]
    refine tri_snoc (fun z => h0 ?_) I.tri fun q h => ?_
    · have z : p ∣ r.getD l 0 := z
      exact small_eq (p := p) (by rwa [Int.sub_zero]) b.1 b.2 (Int.le_refl 0) p0
    · have := I.van q.2 (List.of_mem_zip h).2 r (by simp)
      exact ⟨0, by show r.getD q.2 0 = _; rw [this]; omega⟩
  · obtain ⟨x, hx, rfl⟩ := List.mem_map.mp h
    unfold rankM
    rw [addM_at _ (hq x hx).1 hr.1]
    split
    · rcases List.mem_append.mp h' with h' | h'
      · rw [I.van l' h' x (by simp [hx]), I.van l' h' r (by simp)]; simp
      · rw [List.mem_singleton.mp h']
        apply Int.emod_eq_zero_of_dvd
        obtain ⟨k, hk⟩ := dvd_mod p (c * r.getD l 0)
        rw [hc] at hk
        exact ⟨x.getD l 0 * k, by grind⟩
    · rfl
  · rcases (List.mem_append.mp h) with (h | h)
    · rcases (List.mem_append.mp h) with (h | h)
      · exact I.sub q (by simp [h])
      · rw [List.mem_singleton.mp h]; exact I.sub r (by simp)
    · obtain ⟨x, hx, rfl⟩ := List.mem_map.mp h
      exact .cong ((I.sub x (by simp [hx])).plus _ (I.sub r (by simp))) (addM_eqm _ (hq x hx).1 hr.1)
  · refine (I.sup q h).trans fun f hf => ?_
    obtain ⟨x, hx, rfl⟩ := hf
    have mr : Sp p (RS (P ++ [r] ++ left.map (rankM p c l r))) (fn r) := .mem ⟨r, by simp, rfl⟩
    rcases (List.mem_append.mp hx) with (h | h)
    · exact .mem ⟨x, by simp [h], rfl⟩
    · rcases (List.mem_append.mp h) with (h | h)
      · have mx : Sp p (RS (P ++ [r] ++ left.map (rankM p c l r))) (fn (rankM p c l r x)) := .mem ⟨_, by simp; exact .inr (.inr ⟨x, h, rfl⟩), rfl⟩
        refine .cong (mx.plus (x.getD l 0 * c) mr) fun j => ?_
        obtain ⟨k, hk⟩ := addM_eqm (p := p) (-(x.getD l 0 * c)) (hq x h).1 hr.1 j
        exact ⟨-k, by unfold rankM; grind⟩
      · rw [List.mem_singleton.mp h]; exact mr
theorem RankI.done {p : Int} {n : Nat} {rows P D : List (List Int)} {ls : List Nat} (hp : p ∈ primesL) (I : RankI p n rows [] P ls) (R : Redu p n rows D) : P.length = D.length := by
  obtain ⟨ds, E⟩ := R.ech
  have t : ∀ {P Q : List (List Int)}, (∀ r ∈ P, Sp p (RS Q) (fn r)) → ∀ {v : Fn}, Sp p (RS P) v → Sp p (RS Q) v := fun h v hv => hv.trans fun f hf => by
    obtain ⟨r, hr, rfl⟩ := hf
    exact h r hr
  refine tri_same hp I.len E.len I.tri (E.tri hp) (fun r hr => t R.sup (I.sub r (by simp [hr]))) fun r hr => ?_
  have := t I.sup (R.sub r hr)
  rwa [List.append_nil] at this
theorem places_last {r : List Int} {l : Nat} {t : List Nat} (h : placesM r = t ++ [l]) : l < r.length ∧ r.getD l 0 ≠ 0 := by
  have hm : l ∈ placesM r := by rw [h]; simp
  have h1 := List.mem_filter.mp hm
  exact ⟨List.mem_range.mp h1.1, by simpa using h1.2⟩
end Bw
/-! the barred rows as they are made -/
namespace Bw
def leadsM (D : List (List Int)) : List Nat := D.map fun r => (placesM r).headD 0
def barI (p : Int) (n : Nat) (D : List (List Int)) (place : Nat) : Nat → List Int
  | 0 => (List.replicate n 0).set place 1
  | i + 1 => (barI p n D place i).set ((placesM (D.getD i [])).headD 0) (-((D.getD i []).getD place 0) % p)
def barB (p : Int) (n : Nat) (D : List (List Int)) : List (List Int) := (freeM n (leadsM D)).map fun pl => barI p n D pl D.length
def barM (p : Int) (n : Nat) (L : List (List Int)) : List (List Int) := redM p (barB p n (redM p L))
section
variable {p : Int} {n : Nat} {D : List (List Int)} {ls : List Nat}
theorem Ech.placesAt (E : Ech n n D ls) (hD : Rws p n D) {i : Nat} {r : List Int} (h : D[i]? = some r) : ∃ l t, ls[i]? = some l ∧ placesM r = l :: t ∧ l < n := by
  have hi : i < ls.length := by rw [E.len]; exact (List.getElem?_eq_some_iff.mp h).1
  have hl := List.getElem?_eq_getElem hi
  obtain ⟨o1, o0⟩ := E.one i r _ h hl
  have hlt := E.lt _ (List.getElem_mem hi)
  obtain ⟨t, ht⟩ := places_lead (hD r (List.mem_of_getElem? h)).1 hlt o1 o0
  exact ⟨_, t, hl, ht, hlt⟩
theorem leads_eq (E : Ech n n D ls) (hD : Rws p n D) : leadsM D = ls := by
  apply List.ext_getElem?
  intro i
  unfold leadsM
  rw [List.getElem?_map]
  cases h : D[i]? with
  | none =>
    have : D.length ≤ i := List.getElem?_eq_none_iff.mp h
    rw [List.getElem?_eq_none (by rw [E.len]; exact this)]; rfl
  | some r =>
    obtain ⟨l, t, h1, h2, _⟩ := E.placesAt hD h
    rw [h1]
    show some ((placesM r).headD 0) = _
    rw [h2]; rfl
theorem getD_of_some {α : Type} {L : List α} {i : Nat} {x d : α} (h : L[i]? = some x) : L.getD i d = x := by
  rw [List.getD_eq_getElem?_getD, h]; rfl
theorem barI_step {place i l : Nat} {r : List Int} {t : List Nat} (h : D[i]? = some r) (hl : placesM r = l :: t) : barI p n D place (i + 1) = (barI p n D place i).set l (-(r.getD place 0) % p) := by
  rw [barI, getD_of_some h, hl]; rfl
theorem barI_ok (hp : p ∈ primesL) (E : Ech n n D ls) (hD : Rws p n D) {place : Nat} (hn : place < n) : ∀ i, i ≤ D.length → BI p n D ls place i (barI p n D place i)
  | 0, _ => .start (prime_pos p hp).1 hn
  | i + 1, h => by
    have hi : i < D.length := h
    have hD' := List.getElem?_eq_getElem hi
    obtain ⟨l, t, h1, h2, h3⟩ := E.placesAt hD hD'
    rw [barI_step hD' h2]
    exact (barI_ok hp E hD hn i (by omega)).step (by have := prime_pos p hp; omega) E.up h1 hD' h3
theorem barB_ok (hp : p ∈ primesL) (E : Ech n n D ls) (hD : Rws p n D) : Bars p n D ls (freeM n ls) (barB p n D) := by
  unfold barB
  rw [leads_eq E hD]
  refine ⟨by simp, fun i l b h1 h2 => ?_⟩
  rw [List.getElem?_map, h1] at h2
  cases h2
  have hl := List.mem_filter.mp (List.mem_of_getElem? h1)
  exact (barI_ok hp E hD (List.mem_range.mp hl.1) _ (Nat.le_refl _)).done E.len
end
/-- all that is asked of what is barred -/
structure BarOk (p : Int) (n : Nat) (L X : List (List Int)) : Prop where
  rws : Rws p n X
  ech : ∃ xs, Ech n n X xs
  dots : ∀ x ∈ X, ∀ r ∈ L, p ∣ dot (fn x) (fn r) n
  count : X.length + (redM p L).length = n
theorem barM_ok {p : Int} {n : Nat} {L : List (List Int)} (hp : p ∈ primesL) (hL : Rws p n L) : BarOk p n L (barM p n L) := by
  have RL := redM_ok hp hL
  obtain ⟨ls, E⟩ := RL.ech
  have B := barB_ok hp E RL.rws
  have R := redM_ok hp B.rws
  exact ⟨R.rws, R.ech, B.dots E RL R, B.count (L := L) hp E R⟩
/-- the product as the law adds it up -/
def pdot (x r : List Int) : Int := (List.zipWith (fun a b => a * b) x r).sum
theorem pdot_eq {n : Nat} : ∀ {x r : List Int}, x.length = n → r.length = n → pdot x r = dot (fn x) (fn r) n := by
  intro x r hx hr
  have key : ∀ m, m ≤ n → ((List.zipWith (fun a b => a * b) x r).take m).sum = Sg (fun i => fn x i * fn r i) m := by
    intro m
    induction m with
    | zero => intro _; rfl
    | succ m ih =>
      intro hm
      have h1 : m < x.length := by omega
      have h2 : m < r.length := by omega
      rw [List.take_add_one, List.getElem?_zipWith, List.getElem?_eq_getElem h1, List.getElem?_eq_getElem h2, Sg, ← ih (by omega), List.sum_append]
      show _ + (x[m] * r[m] + 0) = _ + x.getD m 0 * r.getD m 0
      rw [List.getD_eq_getElem?_getD (l := x), List.getElem?_eq_getElem h1, List.getD_eq_getElem?_getD (l := r), List.getElem?_eq_getElem h2, Int.add_zero]; rfl
  have := key n (Nat.le_refl _)
  rw [List.take_of_length_le (by rw [List.length_zipWith]; omega)] at this
  exact this
end Bw
namespace L2
open PySem Bw
/-! ### a list of rows that are lists, each at an address that N allows -/
def LR (N : Addr → Prop) (H : Hp) (LS : List V) (L : List (List Int)) : Prop := LS.length = L.length ∧ ∀ (i : Nat) (v : V) (r : List Int), LS[i]? = some v → L[i]? = some r → ∃ a, v = .ref a ∧ N a ∧ H a = some (.lst (r.map V.int))
abbrev intsL (r : List Int) : PySem.W.Dat := .list (r.map .int)
section
variable {N : Addr → Prop} {H H' : Hp} {LS : List V} {L : List (List Int)} {l a : Addr} {o : HO} {r : List Int}
theorem LR.nil : LR N H [] [] := ⟨rfl, fun i v r h => by simp at h⟩
theorem LR.mono (h : LR N H LS L) (e : Same H H') : LR N H' LS L := ⟨h.1, fun i v r a b => by
  obtain ⟨x, rfl, hN, g⟩ := h.2 i v r a b
  exact ⟨x, rfl, hN, e _ _ g⟩⟩
theorem LR.fresh (h : LR N H LS L) (hl : H l = none) : LR (· ≠ l) (upd H l o) LS L := ⟨h.1, fun i v r a b => by
  obtain ⟨x, rfl, hN, g⟩ := h.2 i v r a b
  have ne := ne_of_none g hl
  exact ⟨x, rfl, ne, by rw [upd_ne ne]; exact g⟩⟩
theorem LR.wr (h : LR (· ≠ l) H LS L) : LR (· ≠ l) (upd H l o) LS L := ⟨h.1, fun i v r a b => by
  obtain ⟨x, rfl, ne, g⟩ := h.2 i v r a b
  exact ⟨x, rfl, ne, by rw [upd_ne ne]; exact g⟩⟩
theorem LR.set (h : LR N H LS L) (i : Nat) (hN : N a) (g : H a = some (.lst (r.map V.int))) : LR N H (LS.set i (.ref a)) (L.set i r) := ⟨by rw [List.length_set, List.length_set]; exact h.1, fun j v q e1 e2 => by
  rw [List.getElem?_set] at e1 e2
  by_cases hij : i = j
  · subst hij
    rw [if_pos rfl] at e1 e2
    split at e1
    · split at e2
      · cases e1; cases e2; exact ⟨a, rfl, hN, g⟩
      · cases e2
    · cases e1
  · rw [if_neg hij] at e1 e2
    exact h.2 j v q e1 e2⟩
theorem LR.snoc (h : LR N H LS L) (hN : N a) (g : H a = some (.lst (r.map V.int))) : LR N H (LS ++ [.ref a]) (L ++ [r]) := ⟨by simp [h.1], fun j v q e1 e2 => by
  by_cases hj : j < LS.length
  · rw [List.getElem?_append_left hj] at e1
    rw [List.getElem?_append_left (by rw [← h.1]; exact hj)] at e2
    exact h.2 j v q e1 e2
  · rw [List.getElem?_append_right (by omega)] at e1
    rw [List.getElem?_append_right (by rw [← h.1]; omega), ← h.1] at e2
    cases hk : j - LS.length with
    | zero => rw [hk] at e1 e2; cases e1; cases e2; exact ⟨a, rfl, hN, g⟩
    | succ k => rw [hk] at e1; cases e1⟩
theorem LR.pop (h : LR N H LS (L ++ [r])) : LR N H LS.dropLast L ∧ ∃ a, LS[LS.length - 1]? = some (.ref a) ∧ N a ∧ H a = some (.lst (r.map V.int)) := by
  have hl : LS.length = L.length + 1 := by rw [h.1]; simp
  have hi : LS.length - 1 < LS.length := by omega
  obtain ⟨a, e, hN, g⟩ := h.2 (LS.length - 1) _ r (List.getElem?_eq_getElem hi) (by rw [hl]; simp)
  refine ⟨⟨by simp [hl], fun j v q e1 e2 => ?_⟩, a, by rw [List.getElem?_eq_getElem hi, e], hN, g⟩
  have hj : j < L.length := (List.getElem?_eq_some_iff.mp e2).1
  refine h.2 j v q ?_ (by rw [List.getElem?_append_left hj]; exact e2)
  rw [List.getElem?_dropLast] at e1
  split at e1
  · exact e1
  · cases e1
theorem LR.has {K : PySem.W.Frag} : ∀ {LS : List V} {L : List (List Int)}, LR N H LS L → HasA K H LS (L.map intsL)
  | [], [], _ => .nil
  | [], _ :: _, h => by have := h.1; simp at this
  | _ :: _, [], h => by have := h.1; simp at this
  | v :: LS, r :: L, h => by
    obtain ⟨a, rfl, _, g⟩ := h.2 0 v r rfl rfl
    refine .cons (.list (.of g) (HasA.ints _)) (LR.has ⟨by have := h.1; simpa using this, fun i v r e1 e2 => h.2 (i + 1) v r e1 e2⟩)
end
theorem kqd_LL (L : List (List Int)) : PySem.W.kqdOk 8 (.list (L.map intsL)) = true := by
  show (L.map intsL).all (PySem.W.kqdOk 7) = true
  rw [List.all_eq_true]
  intro d hd
  obtain ⟨r, _, rfl⟩ := List.mem_map.mp hd
  show (r.map PySem.W.Dat.int).all (PySem.W.kqdOk 6) = true
  exact kqd_ints 6 r
end L2
namespace K04
open PySem L2 Bw
set_option maxHeartbeats 3900000
/-! ### the text by places -/
def top (i : Nat) : Stmt := PySem.Challenge.pw_bentwires_k04_barred.main.body.getD i (.Pass ⟨0, 0, 0, 0⟩)
abbrev sTurned : Stmt := top 1
abbrev sAdded : Stmt := top 2
abbrev sSummed : Stmt := top 3
abbrev sReduced : Stmt := top 4
abbrev sLed : Stmt := top 5
abbrev sCleared : Stmt := top 6
abbrev sFirst : Stmt := top 7
abbrev sBarred : Stmt := top 8
abbrev sBarRow : Stmt := top 9
abbrev sSpun : Stmt := top 11
abbrev sPrime : Stmt := top 12
abbrev sRow : Stmt := top 13
abbrev sRows : Stmt := top 14
abbrev sDigits : Stmt := top 15
abbrev sMade : Stmt := top 16
abbrev sRank : Stmt := top 17
abbrev sRedL : Stmt := top 18
abbrev sNumbers : Stmt := top 19
abbrev sAsked : Stmt := top 20
abbrev sLaw : Stmt := top 21
/-- what the module's names are -/
structure Txt (mg : Str → Option Value) : Prop where
  range : mg "range" = none
  zip : mg "zip" = none
  tuple : mg "tuple" = none
  list : mg "list" = none
  int : mg "int" = none
  bool : mg "bool" = none
  isinstance : mg "isinstance" = none
  len : mg "len" = none
  sum : mg "sum" = none
  max : mg "max" = none
  enumerate : mg "enumerate" = none
  all : mg "all" = none

theorem nd0 : (["number", "more", "factor", "p"] : List Str).Nodup := by decide +kernel
/-! ### the promises -/
def spTurned : Sp := fun vs H Q _ => ∃ p n : Int, vs = [.int p, .int n] ∧ 2 ≤ p ∧ p ≤ 97 ∧ Q (.int (turnM p n)) H
def spAdded (K : PySem.W.Frag) : Sp := fun vs H Q _ => ∃ (p f : Int) (a b : Addr) (r o : List Int), vs = [.int p, .ref a, .int f, .ref b] ∧ 2 ≤ p ∧ p ≤ 97 ∧ -1000 ≤ f ∧ f ≤ 1000 ∧ SqT K H a (r.map V.int) ∧ SqT K H b (o.map V.int) ∧ r.length = o.length ∧ r.length ≤ 1000 ∧
  AnyT K H ((addM p r f o).map V.int) Q
def spSummed (K : PySem.W.Frag) : Sp := fun vs H Q _ => ∃ (p n : Int) (a b : Addr) (b1 b2 : Bool) (RS : List V) (rs : List (List Int)) (fs : List Int), vs = [.int p, .ref a, .ref b, .int n] ∧ 2 ≤ p ∧ p ≤ 97 ∧ 0 ≤ n ∧ n ≤ 1000 ∧
  Sq b1 K H a RS ∧ HasA K H RS (rs.map intsT) ∧ Sq b2 K H b (fs.map V.int) ∧ rs.length = fs.length ∧ rs.length ≤ 1000 ∧ (∀ r ∈ rs, r.length = n.toNat) ∧ (∀ f ∈ fs, 0 ≤ f ∧ f < p) ∧
  AnyT K H ((sumM p (rs.zip fs) (List.replicate n.toNat 0)).map V.int) Q

section
variable {P : Program} {w : World} {K : PySem.W.Frag} {mg : Str → Option Value} {base : Heap}
/-! ### turned -/
theorem scT : FnScope ["p", "number", "power", "step"] ["p", "number"] (defScope sTurned) := ⟨rfl, rfl, rfl, by decide +kernel, rfl, by decide +kernel, by decide +kernel⟩
theorem ok_turned {f : Addr} {fd : FuncData} (F : Fun K "turned" "turned" sTurned f fd) (T : Txt mg) : FnOk P w K mg base CX0 1 f fd ["p", "number"] spTurned := by
  refine F.ok scT (fun vs H Q E h => ?_) (fun cdv A outer s H vs Q E hr h => ?_)
  · obtain ⟨p, n, rfl, _⟩ := h
    rfl
  · obtain ⟨p, n, rfl, p2, p97, k⟩ := h
    refine ⟨_, pss_cons (ps_set (i := 2) scT.nd rfl (Or.inl rfl) pe_int)
      (pss_cons (ps_for PassesOwn.never rfl (pi_range1 rfl T.range (pa_cons (pe_op op_sub (pv 0) pe_int) pa_nil)) (pg_name (i := 3) scT.nd rfl (Or.inl rfl))
        (pss_one (ps_set (i := 2) scT.nd rfl (Or.inl rfl) (pe_op op_mod (pe_op op_mul (pv 2) (pv 1)) (pv 0)))))
      (pss_one (ps_ret (pv 2)))), ?_⟩
    refine ⟨_, rfl, _, _, rfl, rfl, p - 2, rfl, by omega, by omega, for_range (n := (p - 2).toNat) (fun i σ H' => H' = H ∧ ∃ st, σ = [some (.int p), some (.int n), some (.int (turnI p n i)), st]) ⟨rfl, none, rfl⟩ ?_ ?_⟩
    · rintro i σ H' hi ⟨rfl, st, rfl⟩
      have hb := turnI_bound (n := n) p2 i
      exact ⟨_, rfl, _, rfl, _, _, rfl, rfl, .inl ⟨by omega, by omega⟩, _, rfl, _, _, rfl, rfl, by omega, rfl, _, rfl⟩
    · rintro σ H' ⟨rfl, st, rfl⟩
      exact ⟨_, rfl, k⟩
/-! ### added -/
theorem scA : FnScope ["p", "row", "factor", "other"] ["p", "row", "factor", "other"] (defScope sAdded) := ⟨rfl, rfl, rfl, by decide +kernel, rfl, by decide +kernel, by decide +kernel⟩
theorem ok_added0 {f : Addr} {fd : FuncData} (F : Fun K "added" "added" sAdded f fd) (T : Txt mg) : FnOk P w K mg base CX0 0 f fd ["p", "row", "factor", "other"] (spAdded K) := by
  refine ok_flat F scA (fun vs H Q E h => ?_) (fun cdv A outer s H vs Q E h => ?_)
  · obtain ⟨p, f, a, b, r, o, rfl, _⟩ := h
    rfl
  · obtain ⟨p, fc, a, b, r, o, rfl, p2, p97, f0, f1, ha, hb, hl, hz, k⟩ := h
    refine ⟨_, pss_one (ps_ret (pe_callTy (cTuple K rfl) rfl T.tuple bt_tuple (pa_cons (pe_comp (N := ["number", "more", "factor", "p"]) (own := 2) (caps := [2, 0]) rfl
      (piZip K rfl false false rfl T.zip (pa_cons (pv 1) (pa_cons (pv 3) pa_nil))) (show BlkScope ["p", "row", "factor", "other"] (defScope sAdded) ["number", "more", "factor", "p"] 2 [2, 0] _ from .mk' (by decide +kernel))
      (fun _ _ _ _ _ => pgTup (n := 2) K rfl rfl (pgs_cons (pg_name (i := 0) nd0 rfl (Or.inl rfl)) (pgs_cons (pg_name (i := 1) nd0 rfl (Or.inl rfl)) pgs_nil))) (fun _ _ _ _ _ => pts_nil)
      (fun _ _ _ _ _ => pe_op op_mod (pe_op op_add (pv 0) (pe_op op_mul (pv 2) (pv 1))) (pv 3))) pa_nil))), ?_⟩
    have ext : (addM p r fc o).length = r.length := by simp [addM, hl]
    refine ⟨_, rfl, _, rfl, a, b, rfl, ⟨_, ha⟩, ⟨_, hb⟩, comp_zip (b1 := false) (b2 := false) (cp := [some (.int fc), some (.int p)]) (fun i H' zs => zs = ((addM p r fc o).take i).map V.int) ha hb (by simp [hl]) (by rw [List.length_map]; exact Nat.le_of_lt (small1000 hz)) rfl
      (fun i H' zs e => by subst e; rw [List.length_map, List.length_take]; omega) (fun i H1 H2 zs _ e => e) ?_ ?_⟩
    · rintro i x y H' zs hx hy sm rfl
      rw [List.getElem?_map] at hx hy
      cases e1 : r[i]? with
      | none => rw [e1] at hx; cases hx
      | some u =>
        cases e2 : o[i]? with
        | none => rw [e2] at hy; cases hy
        | some v =>
          rw [e1] at hx
          rw [e2] at hy
          cases hx
          cases hy
          refine tgo ?_
          refine ⟨_, rfl, _, rfl, _, rfl, _, _, rfl, rfl, .inl ⟨by omega, by omega⟩, _, _, rfl, rfl, _, rfl, _, _, rfl, rfl, by omega, ⟨[_, _], rfl, rfl⟩, sm, ?_⟩
          have e3 : (addM p r fc o)[i]? = some ((u + fc * v) % p) := by
            unfold addM
            rw [List.getElem?_zipWith, e1, e2]
          rw [List.take_add_one, e3]
          simp
    · rintro H' zs sm rfl q hq
      rw [List.length_map, List.take_of_length_le (by omega)]
      refine ⟨q, _, rfl, .inl ⟨.of upd_same, fun l hl => ?_⟩⟩
      exact k _ _ ((sm.trans (.upd hq)).trans (.upd hl)) (.of upd_same)
theorem ok_added {f : Addr} {fd : FuncData} (F : Fun K "added" "added" sAdded f fd) (T : Txt mg) : FnOk P w K mg base CX0 1 f fd ["p", "row", "factor", "other"] (spAdded K) := (ok_added0 F T).mono (by decide)
/-! ### summed -/
theorem sumM_snoc (p : Int) (r : List Int) (f : Int) : ∀ (L : List (List Int × Int)) (t : List Int), sumM p (L ++ [(r, f)]) t = addM p (sumM p L t) f r
  | [], t => rfl
  | (r', f') :: L, t => by
    rw [List.cons_append, sumM, sumM]
    exact sumM_snoc p r f L _
theorem sumM_len {p : Int} {n : Nat} : ∀ (L : List (List Int × Int)) (t : List Int), (∀ q ∈ L, q.1.length = n) → t.length = n → (sumM p L t).length = n
  | [], t, _, h => h
  | (r, f) :: L, t, h, ht => by
    rw [sumM]
    refine sumM_len L _ (fun q hq => h q (List.mem_cons_of_mem _ hq)) ?_
    have := h (r, f) List.mem_cons_self
    simp only at this
    simp [addM, ht, this]
theorem scS : FnScope ["p", "rows", "factors", "length", "total", "row", "factor"] ["p", "rows", "factors", "length"] (defScope sSummed) := ⟨rfl, rfl, rfl, by decide +kernel, rfl, by decide +kernel, by decide +kernel⟩
theorem ok_summed1 {f fA : Addr} {fd fdA : FuncData} (F : Fun K "summed" "summed" sSummed f fd) (T : Txt mg) (FA : Fun K "added" "added" sAdded fA fdA) (bA : Binds K fdA ["p", "row", "factor", "other"] []) (mA : mg "added" = some (.ref fA)) :
    FnOk P w K mg base CX0 1 f fd ["p", "rows", "factors", "length"] (spSummed K) := by
  have GA : FnOk P w K mg base CX0 0 fA fdA ["p", "row", "factor", "other"] (spAdded K) := ok_added0 FA T
  refine F.ok scS (fun vs H Q E h => ?_) (fun cdv A outer s H vs Q E hr h => ?_)
  · obtain ⟨p, n, a, b, b1, b2, RS, rs, fs, rfl, _⟩ := h
    rfl
  · obtain ⟨p, n, a, b, b1, b2, RS, rs, fs, rfl, p2, p97, n0, n1, hq1, hA, hq2, hl, hz, hrl, hfl, k⟩ := h
    refine ⟨_, pss_cons (ps_set (i := 4) scS.nd rfl (Or.inl rfl) (pe_op (opRepT K rfl) (pe_tup (pa_cons pe_int pa_nil)) (pv 3)))
      (pss_cons (ps_for PassesOwn.never rfl (piZip K rfl b1 b2 rfl T.zip (pa_cons (pv 1) (pa_cons (pv 2) pa_nil))) (pgTup (n := 2) K rfl rfl (pgs_cons (pg_name (i := 5) scS.nd rfl (Or.inl rfl)) (pgs_cons (pg_name (i := 6) scS.nd rfl (Or.inl rfl)) pgs_nil)))
        (pss_one (ps_set (i := 4) scS.nd rfl (Or.inl rfl) (pe_call GA hr rfl mA FA.kp bA .nil pass0 (pa_cons (pv 0) (pa_cons (pv 4) (pa_cons (pv 6) (pa_cons (pv 5) pa_nil))))))))
      (pss_one (ps_ret (pv 4)))), ?_⟩
    refine ⟨by decide, fun q hq => ⟨_, rfl, q, n, _, rfl, rfl, .of upd_same, by simp, by omega, by omega, ?_, fun t H1 sm1 ht => ?_⟩⟩
    · have : (1000 : Nat) ≤ sizeLine := by decide
      show 1 * n.toNat ≤ sizeLine
      omega
    have sm0 : Same H H1 := (Same.upd hq).trans sm1
    have eRS : RS.length = (fs.map V.int).length := by rw [hA.length, List.length_map, List.length_map]; exact hl
    have e0 : (List.replicate n.toNat [V.int 0]).flatten = (List.replicate n.toNat (0 : Int)).map V.int := by
      rw [List.map_replicate]
      induction n.toNat with
      | zero => rfl
      | succ m ih => rw [List.replicate_succ, List.flatten_cons, ih, List.replicate_succ]; rfl
    refine ⟨_, rfl, _, rfl, a, b, rfl, ⟨_, sm0.sq hq1⟩, ⟨_, sm0.sq hq2⟩, for_zip (b1 := b1) (b2 := b2) (fun i σ H' => Same H H' ∧ ∃ t st1 st2, σ = [some (.int p), some (.ref a), some (.ref b), some (.int n), some (.ref t), st1, st2] ∧ SqT K H' t ((sumM p ((rs.zip fs).take i) (List.replicate n.toNat 0)).map V.int)) eRS ⟨sm0, t, none, none, rfl, by rw [e0] at ht; exact ht⟩
      (fun i σ H' ⟨sm, _⟩ => ⟨sm.sq hq1, sm.sq hq2⟩) (fun i σ H1 H2 s12 ⟨sm, t, st1, st2, e, ht⟩ => ⟨sm.trans s12, t, st1, st2, e, s12.seqT ht⟩) ?_ ?_⟩
    · rintro i x y σ H' hx hy ⟨sm, t, st1, st2, rfl, ht⟩
      obtain ⟨d, hd, hx'⟩ := hA.get hx
      rw [List.getElem?_map] at hd hy
      cases e1 : rs[i]? with
      | none => rw [e1] at hd; cases hd
      | some r =>
        cases e2 : fs[i]? with
        | none => rw [e2] at hy; cases hy
        | some fc =>
          rw [e1] at hd
          rw [e2] at hy
          cases hd
          cases hy
          obtain ⟨ra, rfl, hra⟩ := hasT hx'
          have hr1 := hrl r (List.mem_of_getElem? e1)
          have hf1 := hfl fc (List.mem_of_getElem? e2)
          have hsl : (sumM p ((rs.zip fs).take i) (List.replicate n.toNat 0)).length = n.toNat := sumM_len _ _ (fun q hq => hrl q.1 (List.of_mem_zip (List.mem_of_mem_take hq)).1) (by simp)
          refine ⟨_, rfl, _, rfl, _, rfl, _, rfl, p, fc, t, ra, _, r, rfl, p2, p97, by omega, by omega, ht, sm.seqT hra, by rw [hsl, hr1], by rw [hsl]; omega, fun t' H2 sm2 ht' => ?_⟩
          refine ⟨sm.trans sm2, t', _, _, rfl, ?_⟩
          have e3 : (rs.zip fs)[i]? = some (r, fc) := by rw [List.getElem?_zip_eq_some]; exact ⟨e1, e2⟩
          rw [List.take_add_one, e3]
          show SqT K H2 t' ((sumM p ((rs.zip fs).take i ++ [(r, fc)]) _).map V.int)
          rw [sumM_snoc]
          exact ht'
    · rintro σ H' ⟨sm, t, st1, st2, rfl, ht⟩
      have e4 : (rs.zip fs).length ≤ RS.length := by rw [List.length_zip, hA.length, List.length_map]; omega
      rw [List.take_of_length_le e4] at ht
      exact ⟨_, rfl, k _ _ sm ht⟩
theorem ok_summed {f fA : Addr} {fd fdA : FuncData} (F : Fun K "summed" "summed" sSummed f fd) (T : Txt mg) (FA : Fun K "added" "added" sAdded fA fdA) (bA : Binds K fdA ["p", "row", "factor", "other"] []) (mA : mg "added" = some (.ref fA)) :
    FnOk P w K mg base CX0 2 f fd ["p", "rows", "factors", "length"] (spSummed K) := (ok_summed1 F T FA bA mA).mono (by decide)
end
end K04

namespace K04
open PySem L2 Bw
set_option maxHeartbeats 3900000
theorem nd1 : (["row", "place"] : List Str).Nodup := by decide +kernel
theorem nd2 : (["row", "lead", "p", "place"] : List Str).Nodup := by decide +kernel
theorem getD_of {r : List Int} {j : Nat} (h : j < r.length) : r[j]? = some (r.getD j 0) := by
  rw [List.getElem?_eq_getElem h, List.getD_eq_getElem?_getD, List.getElem?_eq_getElem h]; rfl
theorem atRow {r : List Int} {j : Nat} (h : j < r.length) : (r.map V.int)[j]? = some (.int (r.getD j 0)) := by
  rw [List.getElem?_map, getD_of h]; rfl
theorem iteNe {c A B : Prop} [Decidable c] (h1 : ¬ c → A) (h2 : c → B) : if (!decide c) = true then A else B := by
  by_cases h : c
  · exact iteNS h (h2 h)
  · rw [decide_eq_false h]; exact iteT (h1 h)
theorem redI_len {p : Int} {n : Nat} {L : List (List Int)} : ∀ k, (redI p n L k).1.length ≤ k ∧ (redI p n L k).2.length = L.length
  | 0 => ⟨Nat.le_refl _, rfl⟩
  | k + 1 => by
    obtain ⟨h1, h2⟩ := redI_len (p := p) (n := n) (L := L) k
    rw [redI]
    unfold stepM
    split
    · exact ⟨by omega, h2⟩
    · constructor
      · show (_ ++ [_]).length ≤ _
        rw [List.length_append, List.length_map, List.length_singleton]; omega
      · show (List.map _ _).length = _
        rw [List.length_map]; exact h2
def spCleared (K : PySem.W.Frag) : Sp := fun vs H Q _ => ∃ (p : Int) (a b : Addr) (r o : List Int) (i : Int) (j : Nat), vs = [.int p, .ref a, .ref b, .int i] ∧ i = j ∧ 2 ≤ p ∧ p ≤ 97 ∧ SqT K H a (r.map V.int) ∧ SqT K H b (o.map V.int) ∧ r.length = o.length ∧ j < r.length ∧ r.length ≤ 1000 ∧
  (∀ x ∈ r, 0 ≤ x ∧ x < p) ∧ AnyT K H ((clearM p o j r).map V.int) Q
def spReduced (K : PySem.W.Frag) : Sp := fun vs H Q _ => ∃ (p : Int) (a : Addr) (b : Bool) (RS : List V) (rs : List (List Int)) (n : Nat), vs = [.int p, .ref a] ∧ p ∈ primesL ∧ Sq b K H a RS ∧ HasA K H RS (rs.map intsT) ∧ rs.length ≤ 1000 ∧ n ≤ 1000 ∧ Rws p n rs ∧
  ∀ t H' DS, Same H H' → SqT K H' t DS → HasA K H' DS ((redM p rs).map intsT) → Q (.ref t) H'
section
variable {P : Program} {w : World} {K : PySem.W.Frag} {mg : Str → Option Value} {base : Heap}
/-! ### cleared -/
theorem scC : FnScope ["p", "row", "lead", "place"] ["p", "row", "lead", "place"] (defScope sCleared) := ⟨rfl, rfl, rfl, by decide +kernel, rfl, by decide +kernel, by decide +kernel⟩
theorem ok_cleared {f fA : Addr} {fd fdA : FuncData} (F : Fun K "cleared" "cleared" sCleared f fd) (T : Txt mg) (FA : Fun K "added" "added" sAdded fA fdA) (bA : Binds K fdA ["p", "row", "factor", "other"] []) (mA : mg "added" = some (.ref fA)) :
    FnOk P w K mg base CX0 2 f fd ["p", "row", "lead", "place"] (spCleared K) := by
  have GA : FnOk P w K mg base CX0 1 fA fdA ["p", "row", "factor", "other"] (spAdded K) := ok_added FA T
  refine F.ok scC (fun vs H Q E h => ?_) (fun cdv A outer s H vs Q E hr h => ?_)
  · obtain ⟨p, a, b, r, o, i, j, rfl, _⟩ := h
    rfl
  · obtain ⟨p, a, b, r, o, i, j, rfl, rfl, p2, p97, ha, hb, hl, hj, hz, hrp, k⟩ := h
    refine ⟨_, pss_one (ps_ret (pe_ifExp (pt_cmpR op_ne (pe_ix (ixT K rfl) (pv 1) (pv 3) (fun _ _ => rfl)) pe_int (nomark _))
      (pe_call GA hr rfl mA FA.kp bA .nil pass0 (pa_cons (pv 0) (pa_cons (pv 1) (pa_cons (pe_un un_neg (pe_ix (ixT K rfl) (pv 1) (pv 3) (fun _ _ => rfl))) (pa_cons (pv 2) pa_nil))))) (pv 1))), ?_⟩
    have hx := hrp _ (List.mem_of_getElem? (getD_of hj))
    refine ⟨_, rfl, _, rfl, a, _, (j : Int), _, rfl, rfl, ha, atI_nat (atRow hj), rfl, _, rfl, iteNe (fun hne => ?_) (fun heq => ?_)⟩
    · have hne' : r.getD j 0 ≠ 0 := fun z => hne (congrArg V.int z)
      refine ⟨_, rfl, _, rfl, _, rfl, _, rfl, a, _, (j : Int), _, rfl, rfl, ha, atI_nat (atRow hj), _, rfl, _, rfl, p, -(r.getD j 0), a, b, r, o, rfl, p2, p97, by omega, by omega, ha, hb, hl, hz, ?_⟩
      unfold clearM at k
      rw [if_pos hne'] at k
      exact k
    · have heq' : r.getD j 0 = 0 := V.int.inj heq
      unfold clearM at k
      rw [if_neg (fun z => z heq')] at k
      exact ⟨_, rfl, k.old ha⟩
end
end K04

namespace K04
open PySem L2 Bw
set_option maxHeartbeats 3900000
section
variable {P : Program} {w : World} {K : PySem.W.Frag} {mg : Str → Option Value} {base : Heap}
/-! ### reduced -/
abbrev nD : List Str := ["p", "rows", "done", "rest", "length", "place", "heads", "lead"]
theorem scD : FnScope ["p", "rows", "done", "rest", "length", "place", "heads", "lead"] ["p", "rows"] (defScope sReduced) := ⟨rfl, rfl, rfl, by decide +kernel, rfl, by decide +kernel, by decide +kernel⟩
/-- the rows at i of what is read -/
theorem rowAt {H : Hp} {RS : List V} {rs : List (List Int)} {i : Nat} {x : V} (hA : HasA K H RS (rs.map intsT)) (hx : RS[i]? = some x) : ∃ r a, rs[i]? = some r ∧ x = .ref a ∧ SqT K H a (r.map V.int) := by
  obtain ⟨d, hd, hx'⟩ := hA.get hx
  rw [List.getElem?_map] at hd
  cases e : rs[i]? with
  | none => rw [e] at hd; cases hd
  | some r =>
    rw [e] at hd
    cases hd
    obtain ⟨a, rfl, ha⟩ := hasT hx'
    exact ⟨r, a, rfl, rfl, ha⟩
theorem lenA {H : Hp} {RS : List V} {rs : List (List Int)} (hA : HasA K H RS (rs.map intsT)) : RS.length = rs.length := by rw [hA.length, List.length_map]
/-- [cleared(p, row, lead, place) for row in ..] -/
theorem comp_clear {H : Hp} {l la : Addr} {XS : List V} {xs : List (List Int)} {p : Int} {n place : Nat} {lead : List Int} {Q : VK} {te : TE} (p2 : 2 ≤ p) (p97 : p ≤ 97) (hl : SqL K H l XS) (hA : HasA K H XS (xs.map intsT)) (hx : Rws p n xs) (hz : xs.length ≤ 1000) (hn : n ≤ 1000) (hp : place < n) (hld : lead.length = n) (hla : SqT K H la (lead.map V.int))
    (te_of : ∀ (x : Addr) (H1 : Hp) (R : VK), spCleared K [.int p, .ref x, .ref la, .int (0 + (place : Int))] H1 R (fun _ _ _ => False) → te [some (.ref x), some (.ref la), some (.int p), some (.int (0 + (place : Int)))] H1 R)
    (done : ∀ H' zs, Same H H' → HasA K H' zs ((xs.map (clearM p lead place)).map intsT) → ∀ q, H' q = none → Q (.ref q) (upd H' q (.lst zs))) :
    ∃ W : Nat → Nat → St → Hp → List V → Prop, (∃ m, W 0 m (List.replicate 1 none ++ [some (.ref la), some (.int p), some (.int (0 + (place : Int)))]) H []) ∧ CompW (Itl K l) (gName 0) tTrue te Q W := by
  refine comp_list (cp := [some (.ref la), some (.int p), some (.int (0 + (place : Int)))]) (fun i H' zs => HasA K H' zs (((xs.take i).map (clearM p lead place)).map intsT)) hl (by rw [lenA hA]; exact Nat.le_of_lt (small1000 hz)) .nil
    (fun i H' zs h => by rw [lenA h, List.length_map, List.length_take]; omega) ?_ ?_
  · rintro i x H' zs hx' sm h
    obtain ⟨r, a, hr, rfl, ha⟩ := rowAt hA hx'
    have hR := hx r (List.mem_of_getElem? hr)
    refine tgo (te_of a H' _ ⟨p, a, la, r, lead, 0 + (place : Int), place, rfl, by omega, p2, p97, sm.seqT ha, sm.seqT hla, by rw [hR.1, hld], by rw [hR.1]; exact hp, by rw [hR.1]; exact hn, hR.2, fun t H2 s2 ht => ?_⟩)
    refine ⟨⟨[_], rfl, rfl⟩, sm.trans s2, ?_⟩
    rw [List.take_add_one, hr]
    show HasA K H2 _ (((xs.take i ++ [r]).map (clearM p lead place)).map intsT)
    rw [List.map_append, List.map_append]
    exact (h.mono s2).append (.cons (hasT_of ht) .nil)
  · rintro H' zs sm h q hq
    rw [lenA hA, List.take_length] at h
    exact done H' zs sm h q hq
/-! ### led -/
def spLed (K : PySem.W.Frag) : Sp := fun vs H Q _ => ∃ (p : Int) (a : Addr) (r : List Int) (i : Int) (j : Nat), vs = [.int p, .ref a, .int i] ∧ i = j ∧ p ∈ primesL ∧ SqT K H a (r.map V.int) ∧ j < r.length ∧ r.length ≤ 1000 ∧ (∀ x ∈ r, 0 ≤ x ∧ x < p) ∧ r.getD j 0 ≠ 0 ∧
  AnyT K H ((leadM p r.length r j).map V.int) Q
theorem scLead : FnScope ["p", "row", "place"] ["p", "row", "place"] (defScope sLed) := ⟨rfl, rfl, rfl, by decide +kernel, rfl, by decide +kernel, by decide +kernel⟩
theorem ok_led {f fA fT fS : Addr} {fd fdA fdT fdS : FuncData} (F : Fun K "led" "led" sLed f fd) (T : Txt mg) (FA : Fun K "added" "added" sAdded fA fdA) (bA : Binds K fdA ["p", "row", "factor", "other"] []) (mA : mg "added" = some (.ref fA))
    (FT : Fun K "turned" "turned" sTurned fT fdT) (bT : Binds K fdT ["p", "number"] []) (mT : mg "turned" = some (.ref fT)) (FS : Fun K "summed" "summed" sSummed fS fdS) (bS : Binds K fdS ["p", "rows", "factors", "length"] []) (mS : mg "summed" = some (.ref fS)) :
    FnOk P w K mg base CX0 2 f fd ["p", "row", "place"] (spLed K) := by
  have GT : FnOk P w K mg base CX0 1 fT fdT ["p", "number"] spTurned := ok_turned FT T
  have GS : FnOk P w K mg base CX0 1 fS fdS ["p", "rows", "factors", "length"] (spSummed K) := ok_summed1 FS T FA bA mA
  refine F.ok scLead (fun vs H Q E h => ?_) (fun cdv A outer s H vs Q E hr h => ?_)
  · obtain ⟨p, a, r, i, j, rfl, _⟩ := h
    rfl
  · obtain ⟨p, a, r, i, j, rfl, rfl, pp, ha, hj, hz, hrp, hne, k⟩ := h
    obtain ⟨p2, p97⟩ := prime_pos p pp
    refine ⟨_, pss_one (ps_ret (pe_call GS hr rfl mS FS.kp bS .nil pass0 (pa_cons (pv 0) (pa_cons (pe_lst (pa_cons (pv 1) pa_nil)) (pa_cons (pe_lst (pa_cons (pe_call GT hr rfl mT FT.kp bT .nil pass0 (pa_cons (pv 0) (pa_cons (pe_ix (ixT K rfl) (pv 1) (pv 2) (fun _ _ => rfl)) pa_nil))) pa_nil))
      (pa_cons (pe_callB (cLen K rfl) rfl T.len bt_len (pa_cons (pv 1) pa_nil)) pa_nil)))))), ?_⟩
    have hx := hrp _ (List.mem_of_getElem? (getD_of hj))
    have htk := turn_ok (n := r.getD j 0) pp (by omega) hx.2
    refine ⟨_, rfl, _, rfl, (by show 1 ≤ sizeLine; decide), fun l1 h1 => ?_⟩
    refine ⟨_, rfl, _, rfl, _, rfl, a, _, (j : Int), _, rfl, rfl, (Same.upd h1).seqT ha, atI_nat (atRow hj), p, r.getD j 0, rfl, p2, p97, (by show 1 ≤ sizeLine; decide), fun l2 h2 => ?_⟩
    have sm5 : Same H (upd (upd H l1 (.lst [.ref a])) l2 (.lst [.int (turnM p (r.getD j 0))])) := (Same.upd h1).trans (.upd h2)
    refine ⟨_, rfl, a, _, rfl, .inr (sm5.seqT ha), ?_⟩
    rw [List.length_map]
    refine ⟨p, (r.length : Int), l1, l2, true, true, [.ref a], [r], [turnM p (r.getD j 0)], rfl, p2, p97, by omega, by omega, .of (by rw [upd_ne (ne_of_none upd_same h2)]; exact upd_same), .cons (hasT_of (sm5.seqT ha)) .nil, .of upd_same, rfl, (by show 1 ≤ 1000; decide), fun q hq => by rw [List.mem_singleton.mp hq]; rfl, fun f hf => by rw [List.mem_singleton.mp hf]; omega, fun t H6 sm6 ht => ?_⟩
    exact k t H6 (sm5.trans sm6) ht
theorem ok_reduced {f fA fT fS fC fL : Addr} {fd fdA fdT fdS fdC fdL : FuncData} (F : Fun K "reduced" "reduced" sReduced f fd) (T : Txt mg) (FA : Fun K "added" "added" sAdded fA fdA) (bA : Binds K fdA ["p", "row", "factor", "other"] []) (mA : mg "added" = some (.ref fA))
    (FT : Fun K "turned" "turned" sTurned fT fdT) (bT : Binds K fdT ["p", "number"] []) (mT : mg "turned" = some (.ref fT)) (FS : Fun K "summed" "summed" sSummed fS fdS) (bS : Binds K fdS ["p", "rows", "factors", "length"] []) (mS : mg "summed" = some (.ref fS))
    (FC : Fun K "cleared" "cleared" sCleared fC fdC) (bC : Binds K fdC ["p", "row", "lead", "place"] []) (mC : mg "cleared" = some (.ref fC))
    (FL : Fun K "led" "led" sLed fL fdL) (bL : Binds K fdL ["p", "row", "place"] []) (mL : mg "led" = some (.ref fL)) :
    FnOk P w K mg base CX0 3 f fd ["p", "rows"] (spReduced K) := by
  have GL : FnOk P w K mg base CX0 2 fL fdL ["p", "row", "place"] (spLed K) := ok_led FL T FA bA mA FT bT mT FS bS mS
  have GC : FnOk P w K mg base CX0 2 fC fdC ["p", "row", "lead", "place"] (spCleared K) := ok_cleared FC T FA bA mA
  refine F.ok scD (fun vs H Q E h => ?_) (fun cdv A outer s H vs Q E hr h => ?_)
  · obtain ⟨p, a, b, RS, rs, n, rfl, _⟩ := h
    rfl
  · obtain ⟨p, a, b, RS, rs, n, rfl, pp, hq, hA, hz, hn, hR, k⟩ := h
    obtain ⟨p2, p97⟩ := prime_pos p pp
    refine ⟨_, pss_cons (ps_set (i := 2) scD.nd rfl (Or.inl rfl) (pe_lst pa_nil))
      (pss_cons (ps_set (i := 3) scD.nd rfl (Or.inl rfl) (pe_callTy (cList K rfl) rfl T.list bt_list (pa_cons (pv 1) pa_nil)))
      (pss_cons (ps_set (i := 4) scD.nd rfl (Or.inl rfl) (pe_ifExp (pt_truth (pv 3) (fun _ => rfl)) (pe_callB (cLen K rfl) rfl T.len bt_len (pa_cons (pe_ix (ixL K rfl) (pv 3) pe_int (fun _ _ => rfl)) pa_nil)) pe_int))
      (pss_cons (ps_for PassesOwn.never rfl (pi_range1 rfl T.range (pa_cons (pv 4) pa_nil)) (pg_name (i := 5) scD.nd rfl (Or.inr rfl))
        (pss_cons (ps_setComp (i := 6) (N := ["row", "place"]) (own := 1) (caps := [5]) rfl scD.nd rfl rfl (piList K rfl (pv 3)) (show BlkScope nD (defScope sReduced) ["row", "place"] 1 [5] _ from .mk' (by decide +kernel))
          (fun _ _ _ _ _ => pg_name (i := 0) nd1 rfl (Or.inl rfl)) (fun _ _ _ _ _ => pts_one (pt_cmpR op_ne (pe_ix (ixT K rfl) (pv 0) (pv 1) (fun _ _ => rfl)) pe_int (nomark _))) (fun _ _ _ _ _ => pv 0))
        (pss_one (ps_if (pt_truth (pv 6) (fun _ => rfl))
          (pss_cons (ps_set (i := 7) scD.nd rfl (Or.inr rfl) (pe_call GL hr rfl mL FL.kp bL .nil pass0 (pa_cons (pv 0) (pa_cons (pe_ix (ixL K rfl) (pv 6) pe_int (fun _ _ => rfl)) (pa_cons (pv 5) pa_nil)))))
          (pss_cons (ps_set (i := 2) scD.nd rfl (Or.inl rfl) (pe_op op_cat (pe_comp (N := ["row", "lead", "p", "place"]) (own := 1) (caps := [7, 0, 5]) rfl (piList K rfl (pv 2)) (show BlkScope nD (defScope sReduced) ["row", "lead", "p", "place"] 1 [7, 0, 5] _ from .mk' (by decide +kernel))
            (fun _ _ _ _ _ => pg_name (i := 0) nd2 rfl (Or.inl rfl)) (fun _ _ _ _ _ => pts_nil) (fun _ _ _ _ _ => pe_call GC hr rfl mC FC.kp bC .nil pass0 (pa_cons (pv 2) (pa_cons (pv 0) (pa_cons (pv 1) (pa_cons (pv 3) pa_nil)))))) (pe_lst (pa_cons (pv 7) pa_nil))))
          (pss_one (ps_setComp (i := 3) (N := ["row", "lead", "p", "place"]) (own := 1) (caps := [7, 0, 5]) rfl scD.nd rfl rfl (piList K rfl (pv 3)) (show BlkScope nD (defScope sReduced) ["row", "lead", "p", "place"] 1 [7, 0, 5] _ from .mk' (by decide +kernel))
            (fun _ _ _ _ _ => pg_name (i := 0) nd2 rfl (Or.inl rfl)) (fun _ _ _ _ _ => pts_nil) (fun _ _ _ _ _ => pe_call GC hr rfl mC FC.kp bC .nil pass0 (pa_cons (pv 2) (pa_cons (pv 0) (pa_cons (pv 1) (pa_cons (pv 3) pa_nil)))))))))
          pss_nil))))
      (pss_one (ps_ret (pe_callTy (cTuple K rfl) rfl T.tuple bt_tuple (pa_cons (pv 2) pa_nil))))))), ?_⟩
    refine ⟨by decide, fun ld hd => ⟨_, rfl, a, RS, rfl, ?_, fun lr hlr => ?_⟩⟩
    · cases b with
      | true => exact .inl ((Same.upd hd).sq (b := true) hq)
      | false => exact .inr ((Same.upd hd).sq (b := false) hq)
    have sm1 : Same H (upd (upd H ld (.lst [])) lr (.lst RS)) := (Same.upd hd).trans (.upd hlr)
    have g1 : (upd (upd H ld (.lst [])) lr (.lst RS)) ld = some (.lst []) := by rw [upd_ne (ne_of_none upd_same hlr)]; exact upd_same
    have g2 : (upd (upd H ld (.lst [])) lr (.lst RS)) lr = some (.lst RS) := upd_same
    generalize upd (upd H ld (.lst [])) lr (.lst RS) = H1 at sm1 g1 g2 ⊢
    have hA1 := hA.mono sm1
    have hlen : RS.length = rs.length := lenA hA
    refine ⟨_, rfl, !RS.isEmpty, .inl ⟨RS, .of g2, rfl⟩, ?_⟩
    by_cases hne : rs = []
    · subst hne
      have e0 : RS = [] := List.length_eq_zero_iff.mp hlen
      subst e0
      refine iteF ?_
      refine ⟨_, rfl, 0, rfl, by decide, by decide, for_range (n := 0) (fun i σ H' => H' = H1 ∧ σ = [some (.int p), some (.ref a), some (.ref ld), some (.ref lr), some (.int 0), none, none, none]) ⟨rfl, rfl⟩ (fun i σ H' hi => absurd hi (by omega)) ?_⟩
      rintro σ H' ⟨rfl, rfl⟩
      exact ⟨_, rfl, ld, _, rfl, .inl ⟨.of g1, fun t ht => k t _ [] (sm1.trans (.upd ht)) (.of upd_same) .nil⟩⟩
    · have e1 : lenM rs = n := lenM_eq hR hne
      have hpos : 0 < rs.length := List.length_pos_iff.mpr hne
      have hb : (!RS.isEmpty) = true := by
        cases RS with
        | nil => rw [List.length_nil] at hlen; omega
        | cons _ _ => rfl
      rw [hb]
      refine iteT ?_
      have hx0 : RS[0]? = some (RS[0]'(by omega)) := List.getElem?_eq_getElem _
      obtain ⟨r0, a0, hr0, ea0, ha0⟩ := rowAt hA1 hx0
      have hl0 : (r0.map V.int).length = n := by rw [List.length_map]; exact (hR r0 (List.mem_of_getElem? hr0)).1
      refine ⟨_, rfl, lr, RS, 0, _, rfl, rfl, .of g2, atI_nat (j := 0) (hx0.trans (congrArg some ea0)), a0, _, rfl, .inr ha0, ?_⟩
      rw [hl0]
      refine ⟨_, rfl, (n : Int), rfl, by omega, by omega, for_range (n := n) (fun i σ H' => Same H H' ∧ ∃ dn rst DS XS s5 s6 s7, σ = [some (.int p), some (.ref a), some (.ref dn), some (.ref rst), some (.int (n : Int)), s5, s6, s7] ∧ H' dn = some (.lst DS) ∧ HasA K H' DS ((redI p n rs i).1.map intsT) ∧ H' rst = some (.lst XS) ∧ HasA K H' XS ((redI p n rs i).2.map intsT))
        ⟨sm1, ld, lr, [], RS, none, none, none, rfl, g1, .nil, g2, hA1⟩ ?_ ?_⟩
      · rintro i σ H2 hi ⟨sm, dn, rst, DS, XS, s5, s6, s7, rfl, gd, hD, gr, hX⟩
        have IO := redI_ok pp hR i (Nat.le_of_lt hi)
        have IL := redI_len (p := p) (n := n) (L := rs) i
        have eStep : redI p n rs (i + 1) = stepM p n (redI p n rs i) i := rfl
        rw [eStep]
        generalize redI p n rs i = st at hD hX IO IL ⊢
        -- heads
        refine ⟨_, rfl, rst, rfl, ⟨_, .of gr⟩, comp_list (cp := [some (.int (0 + (i : Int)))]) (fun j H' zs => HasA K H' zs (((st.2.take j).filter fun r => r.getD i 0 ≠ 0).map intsT)) (.of gr) (by rw [lenA hX, IL.2]; exact Nat.le_of_lt (small1000 hz)) .nil
          (fun j H' zs h => by rw [lenA h]; exact Nat.le_trans (List.length_filter_le _ _) (by rw [List.length_take]; omega)) ?_ ?_⟩
        · rintro j x H' zs hx' sm' h
          obtain ⟨r, ra, hrj, rfl, hra⟩ := rowAt hX hx'
          have hRr := IO.r r (List.mem_of_getElem? hrj)
          have hil : i < r.length := by rw [hRr.1]; exact hi
          refine ⟨_, rfl, _, rfl, ra, _, (i : Int), _, rfl, congrArg V.int (Int.zero_add _), sm'.seqT hra, atI_nat (atRow hil), rfl, _, rfl, iteNe (fun hne' => ?_) (fun heq => ?_)⟩
          · have hne2 : r.getD i 0 ≠ 0 := fun z => hne' (congrArg V.int z)
            refine ⟨_, rfl, ⟨[_], rfl, rfl⟩, sm', ?_⟩
            rw [List.take_add_one, hrj]
            show HasA K H' _ (((st.2.take j ++ [r]).filter _).map intsT)
            rw [List.filter_append, List.filter_cons_of_pos (by simpa using hne2), List.filter_nil, List.map_append]
            exact h.append (.cons (hasT_of (sm'.seqT hra)) .nil)
          · have heq2 : r.getD i 0 = 0 := V.int.inj heq
            refine ⟨⟨[_], rfl, rfl⟩, sm', ?_⟩
            rw [List.take_add_one, hrj]
            show HasA K H' _ (((st.2.take j ++ [r]).filter _).map intsT)
            rw [List.filter_append, List.filter_cons_of_neg (by simpa using heq2), List.filter_nil, List.append_nil]
            exact h
        rintro H3 zs sm3 h3 lh hlh
        rw [lenA hX, List.take_length] at h3
        have sm4 : Same H2 (upd H3 lh (.lst zs)) := sm3.trans (.upd hlh)
        have g4 : (upd H3 lh (.lst zs)) lh = some (.lst zs) := upd_same
        have h4 := h3.mono (Same.upd hlh (o := .lst zs))
        generalize upd H3 lh (.lst zs) = H4 at sm4 g4 h4 ⊢
        refine ⟨_, rfl, !zs.isEmpty, .inl ⟨zs, .of g4, rfl⟩, ?_⟩
        unfold stepM
        generalize hf : (st.2.filter fun r => r.getD i 0 ≠ 0) = hs at h4 ⊢
        cases hs with
        | nil =>
          have : zs = [] := List.length_eq_zero_iff.mp (lenA h4)
          subst this
          refine iteF ?_
          exact ⟨sm.trans sm4, dn, rst, DS, XS, _, _, _, rfl, sm4 _ _ gd, hD.mono sm4, sm4 _ _ gr, hX.mono sm4⟩
        | cons hd tl =>
          cases zs with
          | nil => exact absurd (lenA h4) (by simp)
          | cons z zs' =>
            obtain ⟨r', ha, hr', rfl, hha⟩ := rowAt (i := 0) (x := z) h4 rfl
            have er : hd = r' := Option.some.inj hr'
            subst er
            refine iteT ?_
            have hdm : hd ∈ st.2 ∧ hd.getD i 0 ≠ 0 := by
              have : hd ∈ st.2.filter fun r => r.getD i 0 ≠ 0 := by rw [hf]; exact List.mem_cons_self
              simpa using List.mem_filter.mp this
            have hRh := IO.r hd hdm.1
            have hil : i < hd.length := by rw [hRh.1]; exact hi
            refine ⟨_, rfl, _, rfl, lh, _, 0, .ref ha, rfl, rfl, .of g4, atI_nat (j := 0) rfl, _, rfl, p, ha, hd, 0 + (i : Int), i, rfl, Int.zero_add _, pp, hha, hil, by rw [hRh.1]; exact hn, hRh.2, hdm.2, fun t H6 sm6 ht => ?_⟩
            have sm7 : Same H2 H6 := sm4.trans sm6
            rw [hRh.1] at ht
            have ht' : SqT K H6 t ((leadM p n hd i).map V.int) := ht
            have hLR := leadM_Rw (place := i) (show 0 < p by omega) hRh
            dsimp only
            generalize leadM p n hd i = ldr at ht' hLR ⊢
            refine ⟨_, rfl, dn, rfl, ⟨_, .of (sm7 _ _ gd)⟩, comp_clear p2 p97 (.of (sm7 _ _ gd)) (hD.mono sm7) IO.d (by omega) hn hi hLR.1 ht' (fun x H1 R h => ⟨_, rfl, _, rfl, _, rfl, _, rfl, h⟩) fun H8 zs8 sm8 h8 q8 hq8 => ?_⟩
            refine ⟨_, rfl, (by show 1 ≤ sizeLine; decide), fun l9 h9 => ⟨q8, l9, _, _, rfl, rfl, by rw [upd_ne (ne_of_none upd_same h9)]; exact upd_same, upd_same, ?_, fun q9 hq9 => ?_⟩⟩
            · show zs8.length + 1 ≤ sizeLine
              rw [lenA h8, List.length_map]
              have : (1000 : Nat) < sizeLine := by decide
              omega
            have sm9 : Same H8 (upd (upd (upd H8 q8 (.lst zs8)) l9 (.lst [.ref t])) q9 (.lst (zs8 ++ [.ref t]))) := ((Same.upd hq8).trans (.upd h9)).trans (.upd hq9)
            have g9 : (upd (upd (upd H8 q8 (.lst zs8)) l9 (.lst [.ref t])) q9 (.lst (zs8 ++ [.ref t]))) q9 = some (.lst (zs8 ++ [.ref t])) := upd_same
            generalize upd (upd (upd H8 q8 (.lst zs8)) l9 (.lst [.ref t])) q9 (.lst (zs8 ++ [.ref t])) = H9 at sm9 g9 ⊢
            have smA : Same H2 H9 := (sm7.trans sm8).trans sm9
            have htA := (sm8.trans sm9).seqT ht'
            refine ⟨_, rfl, rst, rfl, ⟨_, .of (smA _ _ gr)⟩, comp_clear p2 p97 (.of (smA _ _ gr)) (hX.mono smA) IO.r (by omega) hn hi hLR.1 htA (fun x H1 R h => ⟨_, rfl, _, rfl, _, rfl, _, rfl, h⟩) fun Hb zsb smb hb qb hqb => ?_⟩
            have smC := smb.trans (Same.upd hqb (o := .lst zsb))
            refine ⟨(sm.trans smA).trans smC, q9, qb, _, zsb, _, _, _, rfl, smC _ _ g9, ?_, upd_same, hb.mono (.upd hqb)⟩
            show HasA K _ _ ((st.1.map (clearM p ldr i) ++ [ldr]).map intsT)
            rw [List.map_append]
            exact (h8.mono (sm9.trans smC)).append (.cons (hasT_of (smC.seqT htA)) .nil)
      · rintro σ H' ⟨sm, dn, rst, DS, XS, s5, s6, s7, rfl, gd, hD, gr, hX⟩
        refine ⟨_, rfl, dn, _, rfl, .inl ⟨.of gd, fun t ht => k t _ DS (sm.trans (.upd ht)) (.of upd_same) ?_⟩⟩
        unfold redM
        rw [e1]
        exact hD.mono (.upd ht)
end
end K04

namespace K04
open PySem L2 Bw
set_option maxHeartbeats 3900000
/-! ### an item of a list of bounded ints -/
def InB (lo hi : Int) : List V → Prop
  | [] => True
  | v :: r => (∃ z, v = .int z ∧ lo ≤ z ∧ z < hi) ∧ InB lo hi r
theorem InB.at {lo hi : Int} : ∀ {xs : List V} {i : Nat}, InB lo hi xs → i < xs.length → ∃ z, xs[i]? = some (.int z) ∧ lo ≤ z ∧ z < hi
  | v :: r, 0, ⟨⟨z, e, h1, h2⟩, _⟩, _ => ⟨z, by rw [e]; rfl, h1, h2⟩
  | v :: r, i + 1, ⟨_, h⟩, hi => by
    rw [List.length_cons] at hi
    obtain ⟨z, e, h1⟩ := InB.at (i := i) h (by omega)
    exact ⟨z, e, h1⟩
theorem ixB {K : PySem.W.Frag} {H : Hp} {d : Addr} {xs : List V} {w lo hi : Int} {Q : VK} (hH : H d = some (.lst xs)) (hb : InB lo hi xs) (w0 : 0 ≤ w) (w1 : w.toNat < xs.length) (q : ∀ z, lo ≤ z → z < hi → Q (.int z) H) : rIxL K (.ref d) (.int w) H Q := by
  obtain ⟨z, e, h1, h2⟩ := hb.at w1
  exact ⟨d, xs, (w.toNat : Int), .int z, rfl, congrArg V.int (by omega), .of hH, atI_nat e, q z h1 h2⟩
theorem SqT.wr {K : PySem.W.Frag} {H : Hp} {a l : Addr} {ys xs : List V} {o : HO} (h : SqT K H a ys) (hl : H l = some (.lst xs)) : SqT K (upd H l o) a ys := by
  have ne : ∀ {u : HO}, H a = some u → (∀ zs, u ≠ .lst zs) → a ≠ l := fun e hu z => by
    rw [z, hl] at e
    exact hu xs (Option.some.inj e).symm
  rcases h with (h | ⟨o', h⟩) | h
  · refine .inl (.inl ?_)
    rw [upd_ne (ne h fun _ z => nomatch z)]; exact h
  · refine .inl (.inr ⟨o', ?_⟩)
    rw [upd_ne (ne h fun _ z => nomatch z)]; exact h
  · exact .inr h
theorem HasA.wr {K : PySem.W.Frag} {H : Hp} {l : Addr} {xs : List V} {o : HO} (hl : H l = some (.lst xs)) : ∀ {RS : List V} {rs : List (List Int)}, HasA K H RS (rs.map intsT) → HasA K (upd H l o) RS (rs.map intsT)
  | _, [], h => by cases h; exact .nil
  | _, r :: rs, h => by
    cases h with
    | cons h t =>
      obtain ⟨a, rfl, ha⟩ := hasT h
      exact .cons (hasT_of (SqT.wr ha hl)) (HasA.wr hl t)
theorem Rws.snoc {p : Int} {n : Nat} {L : List (List Int)} {r : List Int} (h : Rws p n L) (hr : Rw p n r) : Rws p n (L ++ [r]) := fun x hx => by
  refine (List.mem_append.mp hx).elim (h x) fun z => ?_
  rw [List.mem_singleton.mp z]; exact hr
section
variable {P : Program} {w : World} {K : PySem.W.Frag} {mg : Str → Option Value} {base : Heap}
/-! ### _law_spun -/
def spun1 (c k : Int) : Int := (c % 2147483587 + 977 * k + 5) * 48271 % 2147483629
def spun2 (c k : Int) : Int := (spun1 c k * spun1 c k + 31 * k) % 2147483563 * 16807 % 2147483549
def spunM (c k : Int) : Int := spun2 c k * spun2 c k % 2147483543 / 3
theorem spunM_nn (c k : Int) : 0 ≤ spunM c k := Int.ediv_nonneg (Int.emod_nonneg _ (by decide)) (by decide)
def spSpun : Sp := fun vs H Q _ => ∃ c k : Int, vs = [.int c, .int k] ∧ 0 ≤ k ∧ k ≤ 1000000 ∧ Q (.int (spunM c k)) H
theorem scU : FnScope ["cell", "k", "spun"] ["cell", "k"] (defScope sSpun) := ⟨rfl, rfl, rfl, by decide +kernel, rfl, by decide +kernel, by decide +kernel⟩
theorem ok_spun {f : Addr} {fd : FuncData} (F : Fun K "_law_spun" "_law_spun" sSpun f fd) : FnOk P w K mg base CX0 1 f fd ["cell", "k"] spSpun := by
  refine F.ok scU (fun vs H Q E h => ?_) (fun cdv A outer s H vs Q E hr h => ?_)
  · obtain ⟨c, k, rfl, _⟩ := h
    rfl
  · obtain ⟨c, k, rfl, k0, k1, q⟩ := h
    have b1 : 0 ≤ spun1 c k ∧ spun1 c k < 2147483629 := ⟨Int.emod_nonneg _ (by decide), Int.emod_lt_of_pos _ (by decide)⟩
    have b2 : 0 ≤ spun2 c k ∧ spun2 c k < 2147483549 := ⟨Int.emod_nonneg _ (by decide), Int.emod_lt_of_pos _ (by decide)⟩
    refine ⟨_, pss_cons (ps_set (i := 2) scU.nd rfl (Or.inl rfl) (pe_op op_mod (pe_op op_mul (pe_op op_add (pe_op op_add (pe_op op_mod (pv 0) pe_int) (pe_op op_mul pe_int (pv 1))) pe_int) pe_int) pe_int))
      (pss_cons (ps_set (i := 2) scU.nd rfl (Or.inl rfl) (pe_op op_mod (pe_op op_mul (pe_op op_mod (pe_op op_add (pe_op op_mul (pv 2) (pv 2)) (pe_op op_mul pe_int (pv 1))) pe_int) pe_int) pe_int))
      (pss_one (ps_ret (pe_op op_fdiv (pe_op op_mod (pe_op op_mul (pv 2) (pv 2)) pe_int) pe_int)))), ?_⟩
    refine ⟨_, rfl, _, _, rfl, rfl, (by show (0 : Int) < 2147483587; decide), _, rfl, _, _, rfl, rfl, .inl ⟨by decide, by decide⟩, _, _, rfl, rfl, _, _, rfl, rfl, _, _, rfl, rfl, .inr ⟨by decide, by decide⟩, _, _, rfl, rfl, (by show (0 : Int) < 2147483629; decide), ?_⟩
    refine ⟨some (.int (spun1 c k)) |>.get rfl, rfl, some (.int (spun1 c k)) |>.get rfl, rfl, _, _, rfl, rfl, .inl ⟨by omega, by omega⟩, _, rfl, _, _, rfl, rfl, .inl ⟨by decide, by decide⟩, _, _, rfl, rfl, _, _, rfl, rfl, (by show (0 : Int) < 2147483563; decide), _, _, rfl, rfl, .inr ⟨by decide, by decide⟩, _, _, rfl, rfl, (by show (0 : Int) < 2147483549; decide), ?_⟩
    exact ⟨some (.int (spun2 c k)) |>.get rfl, rfl, some (.int (spun2 c k)) |>.get rfl, rfl, _, _, rfl, rfl, .inl ⟨by omega, by omega⟩, _, _, rfl, rfl, (by show (0 : Int) < 2147483543; decide), _, _, rfl, rfl, ⟨by decide, by decide⟩, q⟩
/-! ### _law_prime -/
def L25 : List Int := [2, 3, 5, 7, 11, 13, 17, 19, 23, 29, 31, 37, 41, 43, 47, 53, 59, 61, 67, 71, 73, 79, 83, 89, 97]
def L7 : List Int := [2, 3, 5, 2, 3, 97, 7]
def primes32 : List Int := [2, 3, 5, 7, 11, 13, 17, 19, 23, 29, 31, 37, 41, 43, 47, 53, 59, 61, 67, 71, 73, 79, 83, 89, 97, 2, 3, 5, 2, 3, 97, 7]
theorem primes32_in : ∀ j : Nat, j < 32 → ∃ q, primes32[j]? = some q ∧ q ∈ primesL := by decide +kernel
def spPrime : Sp := fun vs H Q _ => ∃ c : Int, vs = [.int c] ∧ ∀ p H', p ∈ primesL → Same H H' → Q (.int p) H'
theorem scP : FnScope ["cell", "primes"] ["cell"] (defScope sPrime) := ⟨rfl, rfl, rfl, by decide +kernel, rfl, by decide +kernel, by decide +kernel⟩
theorem ok_prime {f : Addr} {fd : FuncData} (F : Fun K "_law_prime" "_law_prime" sPrime f fd) : FnOk P w K mg base CX0 1 f fd ["cell"] spPrime := by
  refine F.ok scP (fun vs H Q E h => ?_) (fun cdv A outer s H vs Q E hr h => ?_)
  · obtain ⟨c, rfl, _⟩ := h
    rfl
  · obtain ⟨c, rfl, q⟩ := h
    refine ⟨tSeq (tAsg (tInts L25) (gName 1)) (tRet (tOp (rIxL K) (tOp rCat (tVar 1) (tInts L7)) (tOp (rI (fun _ j => 0 < j) fun i j => .int (i % j)) (tVar 0) (tC (.int 32))))), pss_cons ?_ ?_, ?_⟩
    · refine ps_set ?_ ?_ ?_ ?_ ?_ ?_
      · exact scP.nd
      · rfl
      · exact Or.inl rfl
      · refine pe_ints ?_
        exact pai (by kernel_rfl)
      · rfl
      · exact .inl rfl
    · refine pss_one ?_
      refine ps_ret ?_
      refine pe_ix ?_ ?_ ?_ ?_
      · exact ixL K rfl
      · refine pe_op ?_ ?_ ?_
        · exact op_cat
        · exact pv 1
        · refine pe_ints ?_
          exact pai (by kernel_rfl)
      · exact pe_op op_mod (pv 0) pe_int
      · exact fun _ _ => rfl
    refine ⟨(by show 25 ≤ sizeLine; decide), fun l hl => ⟨_, rfl, (by show 7 ≤ sizeLine; decide), fun l2 hl2 => ⟨l, l2, L25.map V.int, L7.map V.int, rfl, rfl, by rw [upd_ne (ne_of_none upd_same hl2)]; exact upd_same, upd_same, (by show 32 ≤ sizeLine; decide), fun l3 hl3 => ?_⟩⟩⟩
    have b0 : 0 ≤ c % 32 := Int.emod_nonneg _ (by decide)
    have b1 : c % 32 < 32 := Int.emod_lt_of_pos _ (by decide)
    obtain ⟨pr, e1, e2⟩ := primes32_in (c % 32).toNat (by omega)
    refine ⟨_, rfl, _, _, rfl, rfl, (by show (0 : Int) < 32; decide), l3, primes32.map V.int, ((c % 32).toNat : Int), .int pr, rfl, ?_, .of upd_same, atI_nat ?_, ?_⟩
    · show V.int (c % 32) = _
      congr 1
      omega
    · rw [List.getElem?_map, e1]; rfl
    · exact q _ _ e2 (((Same.upd hl).trans (.upd hl2)).trans (.upd hl3))
/-! ### _law_digits -/
def spDigits (K : PySem.W.Frag) : Sp := fun vs H Q _ => ∃ p c m n : Int, vs = [.int p, .int c, .int m, .int n] ∧ 2 ≤ p ∧ p ≤ 97 ∧ 0 ≤ m ∧ m ≤ 1000 ∧ 0 ≤ n ∧ n ≤ 1000 ∧
  ∀ a RS rs H', Same H H' → H' a = some (.lst RS) → HasA K H' RS (rs.map intsT) → rs.length = m.toNat → Rws p n.toNat rs → Q (.ref a) H'
theorem scG : FnScope ["p", "number", "many", "length", "rows", "k", "row", "j"] ["p", "number", "many", "length"] (defScope sDigits) := ⟨rfl, rfl, rfl, by decide +kernel, rfl, by decide +kernel, by decide +kernel⟩
theorem ok_digits {f : Addr} {fd : FuncData} (F : Fun K "_law_digits" "_law_digits" sDigits f fd) (T : Txt mg) : FnOk P w K mg base CX0 1 f fd ["p", "number", "many", "length"] (spDigits K) := by
  refine F.ok scG (fun vs H Q E h => ?_) (fun cdv A outer s H vs Q E hr h => ?_)
  · obtain ⟨p, c, m, n, rfl, _⟩ := h
    rfl
  · obtain ⟨p, c, m, n, rfl, p2, p97, m0, m1, n0, n1, q⟩ := h
    refine ⟨_, pss_cons (ps_set (i := 4) scG.nd rfl (Or.inl rfl) (pe_lst pa_nil))
      (pss_cons (ps_for PassesOwn.never rfl (pi_range1 rfl T.range (pa_cons (pv 2) pa_nil)) (pg_name (i := 5) scG.nd rfl (Or.inl rfl))
        (pss_cons (ps_set (i := 6) scG.nd rfl (Or.inl rfl) (pe_lst pa_nil))
        (pss_cons (ps_for PassesOwn.never rfl (pi_range1 rfl T.range (pa_cons (pv 3) pa_nil)) (pg_name (i := 7) scG.nd rfl (Or.inl rfl))
          (pss_cons (ps_expr (pe_bm PySem.F.plainAttrs_list PySem.F.slot_list_append PySem.F.type_list_append mt_append (pv 6) (pa_cons (pe_op op_mod (pv 1) (pv 0)) pa_nil)))
          (pss_one (ps_set (i := 1) scG.nd rfl (Or.inl rfl) (pe_op op_fdiv (pv 1) (pv 0))))))
        (pss_one (ps_expr (pe_bm PySem.F.plainAttrs_list PySem.F.slot_list_append PySem.F.type_list_append mt_append (pv 4) (pa_cons (pe_callTy (cTuple K rfl) rfl T.tuple bt_tuple (pa_cons (pv 6) pa_nil)) pa_nil)))))))
      (pss_one (ps_ret (pv 4)))), ?_⟩
    refine ⟨by decide, fun l hl => ⟨_, rfl, m, rfl, by omega, by omega, for_range (n := m.toNat) (fun i σ H' => Same H H' ∧ ∃ (c' : Int) (st5 st6 st7 : Option V) (RS : List V) (rs : List (List Int)), σ = [some (.int p), some (.int c'), some (.int m), some (.int n), some (.ref l), st5, st6, st7] ∧ H' l = some (.lst RS) ∧ HasA K H' RS (rs.map intsT) ∧ rs.length = i ∧ Rws p n.toNat rs)
      ⟨.upd hl, c, none, none, none, [], [], rfl, upd_same, .nil, rfl, fun r hr => nomatch hr⟩ ?_ ?_⟩⟩
    · rintro i σ H1 hi ⟨sm, c', st5, st6, st7, RS, rs, rfl, gl, hA, hri, hR⟩
      refine ⟨by decide, fun lr hlr => ⟨_, rfl, n, rfl, by omega, by omega, for_range (n := n.toNat) (fun j σ H' => Same H1 H' ∧ ∃ (c2 : Int) (st : Option V) (r : List Int), σ = [some (.int p), some (.int c2), some (.int m), some (.int n), some (.ref l), some (.int (0 + (i : Int))), some (.ref lr), st] ∧ H' lr = some (.lst (r.map V.int)) ∧ Rw p j r)
        ⟨.upd hlr, c', _, [], rfl, upd_same, rfl, fun x hx => nomatch hx⟩ ?_ ?_⟩⟩
      · rintro j σ H2 hj ⟨sm2, c2, st, r, rfl, gr, hr1, hr2⟩
        refine ⟨_, rfl, .inl ⟨rfl, _, SqL.of gr⟩, _, rfl, _, rfl, _, _, rfl, rfl, (by show (0 : Int) < p; omega), lr, _, _, rfl, rfl, gr, ?_, ?_⟩
        · rw [List.length_map, hr1]
          exact small1000 (by omega)
        refine ⟨_, rfl, _, rfl, _, _, rfl, rfl, ⟨by show (0 : Int) < p; omega, by show p < 1073741824; omega⟩, sm2.write hlr, _, _, r ++ [c2 % p], rfl, by rw [upd_same, List.map_append]; rfl, by rw [List.length_append, hr1]; rfl, fun x hx => ?_⟩
        refine (List.mem_append.mp hx).elim (hr2 x) fun hx => ?_
        rw [List.mem_singleton.mp hx]
        exact ⟨Int.emod_nonneg _ (by omega), Int.emod_lt_of_pos _ (by omega)⟩
      · rintro σ H2 ⟨sm2, c2, st, r, rfl, gr, hr1⟩
        have gl2 := sm2 _ _ gl
        refine ⟨_, rfl, .inl ⟨rfl, _, SqL.of gl2⟩, _, rfl, lr, _, rfl, .inl ⟨.of gr, fun t ht => ?_⟩⟩
        refine ⟨l, _, _, rfl, rfl, by rw [upd_ne (ne_of_none gl2 ht)]; exact gl2, ?_, ?_⟩
        · rw [lenA hA, hri]; exact small1000 (by omega)
        have sm3 := sm2.trans (Same.upd ht (o := .tup (r.map V.int)))
        refine ⟨(sm.trans sm3).write hl, c2, _, _, _, RS ++ [.ref t], rs ++ [r], rfl, upd_same, ?_, by rw [List.length_append, hri]; rfl, Rws.snoc hR hr1⟩
        refine HasA.wr (xs := RS) (by rw [upd_ne (ne_of_none gl2 ht)]; exact gl2) ?_
        rw [List.map_append]
        exact (hA.mono sm3).append (.cons (hasT_of (.of upd_same)) .nil)
    · rintro σ H' ⟨sm, c', st5, st6, st7, RS, rs, rfl, gl, hA, hri, hR⟩
      exact ⟨_, rfl, q l RS rs H' sm gl hA hri hR⟩
end
end K04

namespace K04
open PySem L2 Bw
set_option maxHeartbeats 3900000
theorem nd5 : (["one", "two", "factor", "p"] : List Str).Nodup := by decide +kernel
section
variable {P : Program} {w : World} {K : PySem.W.Frag} {mg : Str → Option Value} {base : Heap}
/-! ### _law_numbers -/
def spNumbers (K : PySem.W.Frag) : Sp := fun vs H Q _ => ∃ (p n : Int) (a : Addr) (RS : List V) (rs : List (List Int)), vs = [.int p, .ref a, .int n] ∧ 0 ≤ n ∧ SqT K H a RS ∧ HasA K H RS (rs.map intsT) ∧ Rws p n.toNat rs ∧ Q (.bl true) H
theorem scN : FnScope ["p", "found", "length", "row", "one"] ["p", "found", "length"] (defScope sNumbers) := ⟨rfl, rfl, rfl, by decide +kernel, rfl, by decide +kernel, by decide +kernel⟩
theorem ok_numbers {f : Addr} {fd : FuncData} (F : Fun K "_law_numbers" "_law_numbers" sNumbers f fd) (T : Txt mg) : FnOk P w K mg base CX0 1 f fd ["p", "found", "length"] (spNumbers K) := by
  refine F.ok scN (fun vs H Q E h => ?_) (fun cdv A outer s H vs Q E hr h => ?_)
  · obtain ⟨p, n, a, RS, rs, rfl, _⟩ := h
    rfl
  · obtain ⟨p, n, a, RS, rs, rfl, n0, hq, hA, hR, k⟩ := h
    refine ⟨_, pss_cons (ps_if (pt_not (pt_val (pe_callB (cIsT (T := "tuple") K rfl) rfl T.isinstance bt_isinstance (pa_cons (pv 1) (pa_cons (pe_ty rfl T.tuple bt_tuple) pa_nil))))) (pss_one (ps_ret pe_bl)) pss_nil)
      (pss_cons (ps_for PassesOwn.never rfl (piTup K rfl (pv 1)) (pg_name (i := 3) scN.nd rfl (Or.inl rfl))
        (pss_cons (ps_if (PW.pt (pw_or (pt_not (pt_val (pe_callB (cIsT (T := "tuple") K rfl) rfl T.isinstance bt_isinstance (pa_cons (pv 3) (pa_cons (pe_ty rfl T.tuple bt_tuple) pa_nil)))))
          (pw_or1 (pt_cmpR op_ne (pe_callB (cLen K rfl) rfl T.len bt_len (pa_cons (pv 3) pa_nil)) (pv 2) (nomark _))))) (pss_one (ps_ret pe_bl)) pss_nil)
        (pss_one (ps_for PassesOwn.never rfl (piTup K rfl (pv 3)) (pg_name (i := 4) scN.nd rfl (Or.inl rfl))
          (pss_one (ps_if (PW.pt (pw_or (pt_not (pt_val (pe_callB (cIsI (T := "int") K rfl) rfl T.isinstance bt_isinstance (pa_cons (pv 4) (pa_cons (pe_ty rfl T.int bt_int) pa_nil)))))
            (pw_or (pt_val (pe_callB (cIsI (T := "bool") K rfl) rfl T.isinstance bt_isinstance (pa_cons (pv 4) (pa_cons (pe_ty rfl T.bool bt_bool) pa_nil))))
            (pw_or (pt_cmpR op_lt (pv 4) pe_int (nomark _)) (pw_or1 (pt_cmpR op_ge (pv 4) (pv 0) (nomark _))))))) (pss_one (ps_ret pe_bl)) pss_nil))))))
      (pss_one (ps_ret pe_bl))), ?_⟩
    refine ⟨_, rfl, a, _, true, rfl, hq, kit_tuple_tuple K, true, rfl, iteF ?_⟩
    refine ⟨_, rfl, a, rfl, ⟨_, hq⟩, for_tup (xs := RS) (fun i σ H' => H' = H ∧ ∃ s3 s4, σ = [some (.int p), some (.ref a), some (.int n), s3, s4]) ⟨rfl, _, _, rfl⟩ (fun i σ H' _ ⟨e, _⟩ => by rw [e]; exact hq) ?_ ?_⟩
    · rintro i x σ H' hx ⟨rfl, s3, s4, rfl⟩
      obtain ⟨r, ra, hri, rfl, hra⟩ := rowAt hA hx
      have hRr := hR r (List.mem_of_getElem? hri)
      refine ⟨_, rfl, ra, _, true, rfl, hra, kit_tuple_tuple K, true, rfl, iteF ⟨_, rfl, ra, _, rfl, .inr hra, _, rfl, rfl, _, rfl, iteNS (congrArg V.int ?_) ?_⟩⟩
      · rw [List.length_map, hRr.1]; omega
      refine ⟨_, rfl, ra, rfl, ⟨_, hra⟩, for_tup (xs := r.map V.int) (fun i σ H2 => H2 = H' ∧ ∃ s4, σ = [some (.int p), some (.ref a), some (.int n), some (.ref ra), s4]) ⟨rfl, _, rfl⟩ (fun i σ H2 _ ⟨e, _⟩ => by rw [e]; exact hra) ?_ ?_⟩
      · rintro j x σ H2 hx ⟨rfl, s4, rfl⟩
        rw [List.getElem?_map] at hx
        cases e : r[j]? with
        | none => rw [e] at hx; cases hx
        | some u =>
          rw [e] at hx
          cases hx
          have hu := hRr.2 u (List.mem_of_getElem? e)
          refine ⟨_, rfl, u, true, rfl, kit_int_int K, true, rfl, iteF ⟨_, rfl, u, false, rfl, kit_int_bool K, false, rfl, iteF ⟨_, rfl, _, _, rfl, rfl, _, rfl, iteD (by omega) ⟨_, rfl, _, rfl, _, _, rfl, rfl, _, rfl, iteD (by omega) ?_⟩⟩⟩⟩
          exact ⟨rfl, _, rfl⟩
      · rintro σ H2 ⟨rfl, s4, rfl⟩
        exact ⟨rfl, _, _, rfl⟩
    · rintro σ H' ⟨rfl, s3, s4, rfl⟩
      exact k
end
end K04

namespace K04
open PySem L2 Bw
set_option maxHeartbeats 3900000
theorem nd6 : (["j", "left"] : List Str).Nodup := by decide +kernel
theorem nd7 : (["k", "lead", "p"] : List Str).Nodup := by decide +kernel
theorem nd8 : (["one", "factor", "p"] : List Str).Nodup := by decide +kernel
theorem flat_rep : ∀ n : Nat, (List.replicate n [V.int 0]).flatten = List.replicate n (V.int 0)
  | 0 => rfl
  | n + 1 => by rw [List.replicate_succ, List.flatten_cons, flat_rep n]; rfl
theorem kqd_intsL (ns : List Int) : PySem.W.kqdOk 8 (.list (ns.map .int)) = true := by
  show (ns.map PySem.W.Dat.int).all (PySem.W.kqdOk 7) = true
  exact kqd_ints 7 ns
open Classical in
theorem iteNeD' {d e : PySem.W.Dat} {A B : Prop} (h : d ≠ e) (b : A) : if (if true = true then !decide (d = e) else decide (d = e)) = true then A else B := by
  simp only [if_true, decide_eq_false h, Bool.not_false]
  exact b
end K04

namespace K04
open Classical in
theorem iteEqD' {d e : PySem.W.Dat} {A B : Prop} (h : d ≠ e) (b : B) : if (if false = true then !decide (d = e) else decide (d = e)) = true then A else B := by
  simp only [Bool.false_eq_true, if_false, decide_eq_false h]
  exact b
end K04

namespace K04
open PySem L2 Bw
/-- a statement, then the others: what holds between them -/
theorem seq_by {s1 s2 : TS} {D : Ends} {σ : St} {H : Hp} (J : St → Hp → Prop) (h : ∀ N : St → Hp → Prop, (∀ σ H, J σ H → N σ H) → s1 { D with nx := N } σ H) (hr : ∀ σ H, J σ H → s2 D σ H) : tSeq s1 s2 D σ H := h _ hr
theorem Rw.snoc {p : Int} {n : Nat} {r : List Int} {z : Int} (h : Rw p n r) (h0 : 0 ≤ z) (h1 : z < p) : Rw p (n + 1) (r ++ [z]) := by
  refine ⟨by rw [List.length_append, h.1]; rfl, fun x hx => ?_⟩
  refine (List.mem_append.mp hx).elim (h.2 x) fun hx => ?_
  rw [List.mem_singleton.mp hx]; exact ⟨h0, h1⟩
theorem none_of {H H' : Hp} {l : Addr} (e : Same H H') (h : H' l = none) : H l = none := by
  cases q : H l with
  | none => rfl
  | some o => rw [e _ _ q] at h; cases h
end K04

namespace K04
open PySem L2 Bw
set_option maxHeartbeats 3900000
open Classical in
theorem iteEqD {d e : PySem.W.Dat} {A B : Prop} (h : d = e) (b : A) : if (if false = true then !decide (d = e) else decide (d = e)) = true then A else B := by
  rw [eqD_same h]
  exact iteT b
theorem kqd_L (rs : List (List Int)) : PySem.W.kqdOk 8 (.list (rs.map intsT)) = true := by
  show (rs.map intsT).all (PySem.W.kqdOk 7) = true
  exact kqd_rows 6 rs
theorem kqd_T (rs : List (List Int)) : PySem.W.kqdOk 8 (.tuple (rs.map intsT)) = true := by
  show (rs.map intsT).all (PySem.W.kqdOk 7) = true
  exact kqd_rows 6 rs
theorem redM_len {p : Int} {n : Nat} {L : List (List Int)} (h : Rws p n L) : (redM p L).length ≤ n := by
  by_cases hne : L = []
  · subst hne; exact Nat.zero_le _
  · have := (redI_len (p := p) (n := lenM L) (L := L) (lenM L)).1
    rw [lenM_eq h hne] at this
    unfold redM
    rw [lenM_eq h hne]
    exact this
section
variable {P : Program} {w : World} {K : PySem.W.Frag} {mg : Str → Option Value} {base : Heap}
/-! ### _law_made -/
def spMade (K : PySem.W.Frag) : Sp := fun vs H Q _ => ∃ p c k : Int, vs = [.int p, .int c, .int k] ∧ 2 ≤ p ∧ p ≤ 97 ∧
  ∀ (l a : Addr) (n : Int) (XS : List V) (rs : List (List Int)) (H' : Hp), Same H H' → H' l = some (.lst [.ref a, .int n]) → 0 ≤ n → n ≤ 900 → H' a = some (.lst XS) → HasA K H' XS (rs.map intsT) → rs.length ≤ 900 → Rws p n.toNat rs → Q (.ref l) H'
theorem scMd : FnScope ["p", "cell", "k", "many", "length"] ["p", "cell", "k"] (defScope sMade) := ⟨rfl, rfl, rfl, by decide +kernel, rfl, by decide +kernel, by decide +kernel⟩
def JM (p c k : Int) (H : Hp) : St → Hp → Prop := fun σ H' => Same H H' ∧ ∃ y n : Int, σ = [some (.int p), some (.int c), some (.int k), some (.int y), some (.int n)] ∧ 0 ≤ y ∧ y ≤ 900 ∧ 0 ≤ n ∧ n ≤ 900
theorem ok_made {f fU fG fQ : Addr} {fd fdU fdG fdQ : FuncData} (F : Fun K "_law_made" "_law_made" sMade f fd) (T : Txt mg) (FU : Fun K "_law_spun" "_law_spun" sSpun fU fdU) (bU : Binds K fdU ["cell", "k"] []) (mU : mg "_law_spun" = some (.ref fU))
    (FG : Fun K "_law_digits" "_law_digits" sDigits fG fdG) (bG : Binds K fdG ["p", "number", "many", "length"] []) (mG : mg "_law_digits" = some (.ref fG))
    (GQ : FnOk P w K mg base CX0 3 fQ fdQ ["p", "cell", "many", "length"] (spDigits K)) (kQ : PySem.W.keepIn K (.ref fQ) = true) (bQ : Binds K fdQ ["p", "cell", "many", "length"] []) (mQ : mg "_law_rows" = some (.ref fQ)) :
    FnOk P w K mg base CX0 4 f fd ["p", "cell", "k"] (spMade K) := by
  have GU : FnOk P w K mg base CX0 1 fU fdU ["cell", "k"] spSpun := ok_spun FU
  have GG : FnOk P w K mg base CX0 1 fG fdG ["p", "number", "many", "length"] (spDigits K) := ok_digits FG T
  refine F.ok scMd (fun vs H Q E h => ?_) (fun cdv A outer s H vs Q E hr h => ?_)
  · obtain ⟨p, c, k, rfl, _⟩ := h
    rfl
  · obtain ⟨p, c, k, rfl, p2, p97, q⟩ := h
    have hr1 : Room 1 _ := hr.mono (by decide)
    refine ⟨_, pss_cons (ps_if (pt_cmpR op_eq (pe_op op_mod (pv 1) pe_int) pe_int (nomark _))
        (pss_one (ps_ret (pe_lst (pa_cons (pe_call GG hr1 rfl mG FG.kp bG .nil pass0 (pa_cons (pv 0) (pa_cons (pe_op op_fdiv (pv 1) pe_int) (pa_cons (pe_op op_mod (pe_op op_fdiv (pv 1) pe_int) pe_int) (pa_cons (pe_op op_mod (pe_op op_fdiv (pv 1) pe_int) pe_int) pa_nil)))))
          (pa_cons (pe_op op_mod (pe_op op_fdiv (pv 1) pe_int) pe_int) pa_nil))))) pss_nil)
      (pss_cons (ps_set (i := 3) scMd.nd rfl (Or.inl rfl) (pe_op op_mod (pe_call GU hr1 rfl mU FU.kp bU .nil pass0 (pa_cons (pv 1) (pa_cons pe_int pa_nil))) (pe_ix (ixL K rfl) (pe_lst (pa_cons pe_int (pa_cons pe_int pa_nil))) (pe_callTy call_int1 rfl T.int bt_int (pa_cons (pe_cmpR op_lt (pv 2) pe_int (nomark _)) pa_nil)) (fun _ _ => rfl))))
      (pss_cons (ps_set (i := 4) scMd.nd rfl (Or.inl rfl) (pe_op op_mod (pe_call GU hr1 rfl mU FU.kp bU .nil pass0 (pa_cons (pv 1) (pa_cons pe_int pa_nil))) (pe_ix (ixL K rfl) (pe_lst (pa_cons pe_int (pa_cons pe_int (pa_cons pe_int pa_nil)))) (pe_op op_add (pe_callTy call_int1 rfl T.int bt_int (pa_cons (pe_cmpR op_lt (pv 2) pe_int (nomark _)) pa_nil)) (pe_callTy call_int1 rfl T.int bt_int (pa_cons (pe_cmpR op_lt (pv 2) pe_int (nomark _)) pa_nil))) (fun _ _ => rfl))))
      (pss_cons (ps_if (PW.pt (pw_and (pt_cmpR op_eq (pv 2) pe_int (nomark _)) (pw_and1 (pt_cmpR op_eq (pe_op op_mod (pe_call GU hr1 rfl mU FU.kp bU .nil pass0 (pa_cons (pv 1) (pa_cons pe_int pa_nil))) pe_int) pe_int (nomark _)))))
        (pss_cons (ps_set (i := 3) scMd.nd rfl (Or.inl rfl) (pe_op op_add pe_int (pe_op op_mod (pe_call GU hr1 rfl mU FU.kp bU .nil pass0 (pa_cons (pv 1) (pa_cons pe_int pa_nil))) pe_int)))
        (pss_one (ps_set (i := 4) scMd.nd rfl (Or.inl rfl) (pe_op op_mod (pe_call GU hr1 rfl mU FU.kp bU .nil pass0 (pa_cons (pv 1) (pa_cons pe_int pa_nil))) pe_int))))
        pss_nil)
      (pss_one (ps_ret (pe_lst (pa_cons (pe_call GQ hr rfl mQ kQ bQ .nil pass0 (pa_cons (pv 0) (pa_cons (pv 1) (pa_cons (pv 3) (pa_cons (pv 4) pa_nil))))) (pa_cons (pv 4) pa_nil)))))))), ?_⟩
    refine ⟨_, rfl, _, _, rfl, rfl, (by show (0 : Int) < 2; decide), rfl, _, rfl, ite2 (fun _ => ?_) (fun _ => ?_)⟩
    · have a0 : 0 ≤ c / 2 % 5 := Int.emod_nonneg _ (by decide)
      have a1 : c / 2 % 5 < 5 := Int.emod_lt_of_pos _ (by decide)
      have b0 : 0 ≤ c / 10 % 7 := Int.emod_nonneg _ (by decide)
      have b1 : c / 10 % 7 < 7 := Int.emod_lt_of_pos _ (by decide)
      refine ⟨_, rfl, _, rfl, _, _, rfl, rfl, ⟨by decide, by decide⟩, _, rfl, _, _, rfl, rfl, ⟨by decide, by decide⟩, _, _, rfl, rfl, (by show (0 : Int) < 5; decide), _, rfl, _, _, rfl, rfl, ⟨by decide, by decide⟩, _, _, rfl, rfl, (by show (0 : Int) < 7; decide), p, c / 70, c / 2 % 5, c / 10 % 7, rfl, p2, p97, a0, by omega, b0, by omega, fun a XS rs H1 sm g hA hl hR => ?_⟩
      refine ⟨_, rfl, _, _, rfl, rfl, ⟨by decide, by decide⟩, _, _, rfl, rfl, (by show (0 : Int) < 7; decide), (by show 2 ≤ sizeLine; decide), fun l hl2 => ?_⟩
      exact q l a _ XS rs _ (sm.trans (.upd hl2)) upd_same b0 (by omega) (Same.upd hl2 _ _ g) (hA.mono (.upd hl2)) (by omega) hR
    refine ⟨_, rfl, c, 1, rfl, by decide, by decide, (by show 2 ≤ sizeLine; decide), fun d hd => ⟨_, rfl, _, _, rfl, rfl, .inr ⟨_, rfl, ?_⟩⟩⟩
    refine ixB (lo := 1) (hi := 11) upd_same ⟨⟨_, rfl, by decide, by decide⟩, ⟨_, rfl, by decide, by decide⟩, trivial⟩ (by split <;> omega) (by split <;> decide) fun z z0 z1 => ⟨_, _, rfl, rfl, (by show (0 : Int) < z; omega), ?_⟩
    have y0 : 0 ≤ spunM c 1 % z := Int.emod_nonneg _ (by omega)
    have y1 : spunM c 1 % z < z := Int.emod_lt_of_pos _ (by omega)
    dsimp only
    generalize spunM c 1 % z = y at y0 y1 ⊢
    refine ⟨_, rfl, c, 2, rfl, by decide, by decide, (by show 3 ≤ sizeLine; decide), fun d2 hd2 => ⟨_, rfl, _, _, rfl, rfl, .inr ⟨_, rfl, _, rfl, _, _, rfl, rfl, .inr ⟨_, rfl, _, _, rfl, rfl, ?_⟩⟩⟩⟩
    refine ixB (lo := 1) (hi := 26) upd_same ⟨⟨_, rfl, by decide, by decide⟩, ⟨_, rfl, by decide, by decide⟩, ⟨_, rfl, by decide, by decide⟩, trivial⟩ (by split <;> split <;> omega) (by split <;> split <;> decide) fun z' z0' z1' => ⟨_, _, rfl, rfl, (by show (0 : Int) < z'; omega), ?_⟩
    have x0 : 0 ≤ spunM c 2 % z' := Int.emod_nonneg _ (by omega)
    have x1 : spunM c 2 % z' < z' := Int.emod_lt_of_pos _ (by omega)
    dsimp only
    generalize spunM c 2 % z' = x at x0 x1 ⊢
    have sm0 : Same H (upd (upd H d (.lst [.int 5, .int 10])) d2 (.lst [.int 7, .int 13, .int 25])) := (Same.upd hd).trans (.upd hd2)
    generalize upd (upd H d (.lst [.int 5, .int 10])) d2 (.lst [.int 7, .int 13, .int 25]) = H0 at sm0 ⊢
    have j0 : JM p c k H [some (.int p), some (.int c), some (.int k), some (.int y), some (.int x)] H0 := ⟨sm0, y, x, rfl, y0, by omega, x0, by omega⟩
    refine seq_by (JM p c k H) (fun N hN => ?_) (fun σ2 H2 hJ2 => ?_)
    · refine ⟨_, rfl, rfl, _, rfl, ite2 (fun _ => ?_) (fun _ => iteF (hN _ _ j0))⟩
      refine ⟨_, rfl, c, 3, rfl, by decide, by decide, _, _, rfl, rfl, (by show (0 : Int) < 4; decide), rfl, _, rfl, ite2 (fun _ => ?_) (fun _ => hN _ _ j0)⟩
      refine ⟨_, rfl, c, 1, rfl, by decide, by decide, _, _, rfl, rfl, (by show (0 : Int) < 51; decide), _, _, rfl, rfl, ?_⟩
      refine ⟨_, rfl, c, 2, rfl, by decide, by decide, _, _, rfl, rfl, (by show (0 : Int) < 25; decide), ?_⟩
      have u0 : 0 ≤ spunM c 1 % 51 := Int.emod_nonneg _ (by decide)
      have u1 : spunM c 1 % 51 < 51 := Int.emod_lt_of_pos _ (by decide)
      have v0 : 0 ≤ spunM c 2 % 25 := Int.emod_nonneg _ (by decide)
      have v1 : spunM c 2 % 25 < 25 := Int.emod_lt_of_pos _ (by decide)
      exact hN _ _ ⟨sm0, 10 + spunM c 1 % 51, spunM c 2 % 25, rfl, by omega, by omega, v0, by omega⟩
    obtain ⟨sm, y, n, rfl, y0, y1, n0, n1⟩ := hJ2
    refine ⟨_, rfl, _, rfl, _, rfl, _, rfl, p, c, y, n, rfl, p2, p97, y0, by omega, n0, by omega, fun a XS rs H3 sm3 g hA hl hR => ?_⟩
    refine ⟨_, rfl, (by show 2 ≤ sizeLine; decide), fun l hl2 => ?_⟩
    exact q l a _ XS rs _ ((sm.trans sm3).trans (.upd hl2)) upd_same n0 n1 (Same.upd hl2 _ _ g) (hA.mono (.upd hl2)) (by omega) hR
end
end K04

namespace K04
open PySem L2 Bw
set_option maxHeartbeats 3900000
theorem nf0 : (["place", "number"] : List Str).Nodup := by decide +kernel
theorem nf1 : (["place", "number", "rows"] : List Str).Nodup := by decide +kernel
theorem nf2 : (["other", "place"] : List Str).Nodup := by decide +kernel
section
variable {P : Program} {w : World} {K : PySem.W.Frag} {mg : Str → Option Value} {base : Heap}
/-! ### first_place -/
def spFirst (K : PySem.W.Frag) : Sp := fun vs H Q _ => ∃ (a : Addr) (r : List Int) (l : Nat) (tl : List Nat), vs = [.ref a] ∧ SqT K H a (r.map V.int) ∧ r.length ≤ 2000 ∧ placesM r = l :: tl ∧ ∀ H', Same H H' → Q (.int (l : Int)) H'
theorem scFi : FnScope ["row"] ["row"] (defScope sFirst) := ⟨rfl, rfl, rfl, by decide +kernel, rfl, by decide +kernel, by decide +kernel⟩
theorem ok_first {f : Addr} {fd : FuncData} (F : Fun K "first_place" "first_place" sFirst f fd) (T : Txt mg) : FnOk P w K mg base CX0 1 f fd ["row"] (spFirst K) := by
  refine F.ok scFi (fun vs H Q E h => ?_) (fun cdv A outer s H vs Q E hr h => ?_)
  · obtain ⟨a, r, l, tl, rfl, _⟩ := h
    rfl
  · obtain ⟨a, r, l, tl, rfl, hq, hz, hpl, k⟩ := h
    refine ⟨_, pss_one (ps_ret (pe_ix (ixL K rfl) (pe_comp (N := ["place", "number"]) (own := 2) (caps := []) rfl (piEnum K rfl false rfl T.enumerate (pa_cons (pv 0) pa_nil))
      (show BlkScope ["row"] (defScope sFirst) ["place", "number"] 2 [] _ from .mk' (by decide +kernel))
      (fun _ _ _ _ _ => pgTup (n := 2) K rfl rfl (pgs_cons (pg_name (i := 0) nf0 rfl (Or.inl rfl)) (pgs_cons (pg_name (i := 1) nf0 rfl (Or.inl rfl)) pgs_nil)))
      (fun _ _ _ _ _ => pts_one (pt_cmpR op_ne (pv 1) pe_int (nomark _))) (fun _ _ _ _ _ => pv 0)) pe_int (fun _ _ => rfl))), ?_⟩
    have ex : (r.map V.int).length = r.length := List.length_map _
    have z2 : (2000 : Nat) ≤ sizeLine := by decide
    refine ⟨_, rfl, a, rfl, ⟨_, hq⟩, comp_enum (b := false) (cp := []) (fun i H' zs => zs = ((List.range i).filter fun u => r.getD u 0 ≠ 0).map fun (u : Nat) => V.int u) hq (by rw [ex]; omega) rfl
      (fun j H' zs e => by rw [e, List.length_map]; exact Nat.le_trans (List.length_filter_le _ _) (by rw [List.length_range]; exact Nat.le_refl _)) (fun i H1 H2 zs _ e => e) ?_ ?_⟩
    · rintro j x H1 zs hx sm rfl
      have hj : j < r.length := by rw [← ex]; exact (List.getElem?_eq_some_iff.mp hx).1
      have hx' : x = .int (r.getD j 0) := by
        rw [atRow hj] at hx
        exact (Option.some.inj hx).symm
      subst hx'
      refine ⟨_, rfl, rfl, _, rfl, iteNe (fun hne => ?_) (fun heq => ?_)⟩
      · have hne2 : r.getD j 0 ≠ 0 := fun z => hne (congrArg V.int z)
        refine ⟨_, rfl, ⟨[_, _], rfl, rfl⟩, sm, ?_⟩
        rw [List.range_succ, List.filter_append, List.filter_cons_of_pos (by simpa using hne2), List.filter_nil, List.map_append]; rfl
      · have heq2 : r.getD j 0 = 0 := V.int.inj heq
        refine ⟨⟨[_, _], rfl, rfl⟩, sm, ?_⟩
        rw [List.range_succ, List.filter_append, List.filter_cons_of_neg (by simpa using heq2), List.filter_nil, List.append_nil]
    · rintro H1 zs sm ez lp hlp
      rw [ex] at ez
      have ez : zs = (placesM r).map fun (u : Nat) => V.int u := ez
      rw [hpl] at ez
      subst ez
      exact ⟨lp, _, 0, .int (l : Int), rfl, rfl, .of upd_same, atI_nat (j := 0) rfl, k _ (sm.trans (.upd hlp))⟩
end
end K04

namespace K04
open PySem L2 Bw
set_option maxHeartbeats 3900000
theorem nr1 : (["j", "factors", "p", "rows"] : List Str).Nodup := by decide +kernel
theorem nr2 : (["row", "f", "j"] : List Str).Nodup := by decide +kernel
theorem nr3 : (["k", "cell", "length", "p"] : List Str).Nodup := by decide +kernel
theorem nr4 : (["j", "cell", "k", "p"] : List Str).Nodup := by decide +kernel
theorem HasA.drop {K : PySem.W.Frag} {H : Hp} : ∀ {vs : List V} {ds : List PySem.W.Dat} (k : Nat), HasA K H vs ds → HasA K H (vs.drop k) (ds.drop k)
  | _, _, 0, h => h
  | _, _, _ + 1, .nil => .nil
  | _, _, k + 1, .cons _ r => HasA.drop k r
theorem HasA.take {K : PySem.W.Frag} {H : Hp} : ∀ {vs : List V} {ds : List PySem.W.Dat} (k : Nat), HasA K H vs ds → HasA K H (vs.take k) (ds.take k)
  | _, _, 0, _ => .nil
  | _, _, _ + 1, .nil => .nil
  | _, _, k + 1, .cons h r => .cons h (HasA.take k r)
theorem HasA.setAt {K : PySem.W.Frag} {H : Hp} {v : V} {d : PySem.W.Dat} (hv : HasD K H v d) : ∀ {vs : List V} {ds : List PySem.W.Dat} (k : Nat), HasA K H vs ds → HasA K H (vs.set k v) (ds.set k d)
  | _, _, _, .nil => .nil
  | _, _, 0, .cons _ r => .cons hv r
  | _, _, k + 1, .cons h r => .cons h (HasA.setAt hv k r)
section
variable {P : Program} {w : World} {K : PySem.W.Frag} {mg : Str → Option Value} {base : Heap}
/-! ### _law_row -/
def spRow (K : PySem.W.Frag) : Sp := fun vs H Q _ => ∃ p c k n : Int, vs = [.int p, .int c, .int k, .int n] ∧ 2 ≤ p ∧ p ≤ 97 ∧ 0 ≤ k ∧ k ≤ 1000 ∧ 0 ≤ n ∧ n ≤ 1000 ∧
  ∀ a r H', Same H H' → Rw p n.toNat r → SqT K H' a (List.map V.int r) → Q (.ref a) H'
theorem scR : FnScope ["p", "cell", "k", "length", "way", "row", "j", "one"] ["p", "cell", "k", "length"] (defScope sRow) := ⟨rfl, rfl, rfl, by decide +kernel, rfl, by decide +kernel, by decide +kernel⟩
theorem ok_row {f fU : Addr} {fd fdU : FuncData} (F : Fun K "_law_row" "_law_row" sRow f fd) (T : Txt mg) (FU : Fun K "_law_spun" "_law_spun" sSpun fU fdU) (bU : Binds K fdU ["cell", "k"] []) (mU : mg "_law_spun" = some (.ref fU)) :
    FnOk P w K mg base CX0 2 f fd ["p", "cell", "k", "length"] (spRow K) := by
  have GU : FnOk P w K mg base CX0 1 fU fdU ["cell", "k"] spSpun := ok_spun FU
  refine F.ok scR (fun vs H Q E h => ?_) (fun cdv A outer s H vs Q E hr h => ?_)
  · obtain ⟨p, c, k, n, rfl, _⟩ := h
    rfl
  · obtain ⟨p, c, k, n, rfl, p2, p97, k0, k1, n0, n1, q⟩ := h
    refine ⟨_, pss_cons (ps_set (i := 4) scR.nd rfl (Or.inl rfl) (pe_op op_mod (pe_call GU hr rfl mU FU.kp bU .nil pass0 (pa_cons (pv 1) (pa_cons pe_int pa_nil))) pe_int))
      (pss_cons (ps_set (i := 5) scR.nd rfl (Or.inl rfl) (pe_lst pa_nil))
      (pss_cons (ps_for PassesOwn.never rfl (pi_range1 rfl T.range (pa_cons (pv 3) pa_nil)) (pg_name (i := 6) scR.nd rfl (Or.inl rfl))
        (pss_cons (ps_set (i := 7) scR.nd rfl (Or.inl rfl) (pe_call GU hr rfl mU FU.kp bU .nil pass0 (pa_cons (pv 1) (pa_cons (pe_op op_add (pe_op op_add (pe_op op_mul pe_int (pv 2)) (pv 6)) pe_int) pa_nil))))
        (pss_one (ps_expr (pe_bm PySem.F.plainAttrs_list PySem.F.slot_list_append PySem.F.type_list_append mt_append (pv 5) (pa_cons (pe_ix (ixL K rfl)
          (pe_lst (pa_cons (pe_op op_mod (pe_op op_fdiv (pv 7) pe_int) (pv 0)) (pa_cons (pe_op op_mul (pe_op op_mod (pe_op op_fdiv (pv 7) pe_int) (pv 0)) (pe_callTy call_int1 rfl T.int bt_int (pa_cons (pe_cmpR op_eq (pe_op op_mod (pv 7) pe_int) pe_int (nomark _)) pa_nil)))
            (pa_cons (pe_callTy call_int1 rfl T.int bt_int (pa_cons (pe_cmpR op_gt (pe_op op_mod (pv 7) pe_int) pe_int (nomark _)) pa_nil)) (pa_cons (pe_op op_mod (pe_op op_mod (pe_op op_fdiv (pv 7) pe_int) pe_int) (pv 0)) pa_nil)))))
          (pv 4) (fun _ _ => rfl)) pa_nil))))))
      (pss_one (ps_ret (pe_callTy (cTuple K rfl) rfl T.tuple bt_tuple (pa_cons (pv 5) pa_nil)))))), ?_⟩
    refine ⟨_, rfl, c, 4, rfl, by decide, by decide, _, _, rfl, rfl, (by show (0 : Int) < 4; decide), ?_⟩
    have w0 : 0 ≤ spunM c 4 % 4 := Int.emod_nonneg _ (by decide)
    have w1 : spunM c 4 % 4 < 4 := Int.emod_lt_of_pos _ (by decide)
    dsimp only
    generalize spunM c 4 % 4 = wy at w0 w1 ⊢
    refine ⟨by decide, fun l hl => ⟨_, rfl, n, rfl, by omega, by omega, for_range (n := n.toNat) (fun i σ H' => Same H H' ∧ ∃ r st1 st2, σ = [some (.int p), some (.int c), some (.int k), some (.int n), some (.int wy), some (.ref l), st1, st2] ∧ H' l = some (.lst (List.map V.int r)) ∧ Rw p i r)
      ⟨.upd hl, [], none, none, rfl, upd_same, rfl, fun x hx => nomatch hx⟩ ?_ ?_⟩⟩
    · rintro i σ H' hi ⟨sm, r, st1, st2, rfl, hr', hri, hrp⟩
      refine ⟨_, rfl, _, rfl, _, _, rfl, rfl, .inl ⟨by decide, by decide⟩, _, rfl, _, _, rfl, rfl, _, _, rfl, rfl, c, 31 * k + (0 + (i : Int)) + 11, rfl, by omega, by omega, ?_⟩
      generalize spunM c (31 * k + (0 + (i : Int)) + 11) = o
      have m0 : 0 ≤ o / 8 % p := Int.emod_nonneg _ (by omega)
      have m1 : o / 8 % p < p := Int.emod_lt_of_pos _ (by omega)
      have m2 : 0 ≤ o / 8 % 3 % p := Int.emod_nonneg _ (by omega)
      have m3 : o / 8 % 3 % p < p := Int.emod_lt_of_pos _ (by omega)
      refine ⟨_, rfl, .inl ⟨rfl, _, SqL.of hr'⟩, _, rfl, _, _, rfl, rfl, ⟨by decide, by decide⟩, _, rfl, _, _, rfl, rfl, (by show (0 : Int) < p; omega),
        _, rfl, _, _, rfl, rfl, ⟨by decide, by decide⟩, _, rfl, _, _, rfl, rfl, (by show (0 : Int) < p; omega), _, rfl, _, _, rfl, rfl, (by show (0 : Int) < 7; decide), rfl, .inr ⟨_, rfl, _, _, rfl, rfl, .inl ⟨by show -(2 ^ 64) < o / 8 % p; omega, by show o / 8 % p < 2 ^ 64; omega⟩, ?_⟩⟩
      refine ⟨_, rfl, _, _, rfl, rfl, (by show (0 : Int) < 7; decide), _, _, rfl, rfl, .inr ⟨_, rfl, _, rfl, _, _, rfl, rfl, ⟨by decide, by decide⟩, _, _, rfl, rfl, (by show (0 : Int) < 3; decide), _, rfl, _, _, rfl, rfl, (by show (0 : Int) < p; omega), (by show 4 ≤ sizeLine; decide), fun d hd => ⟨_, rfl, ?_⟩⟩⟩
      refine ixB (lo := 0) (hi := p) upd_same ⟨⟨_, rfl, m0, m1⟩, ⟨_, rfl, ?_, ?_⟩, ⟨_, rfl, ?_, ?_⟩, ⟨_, rfl, m2, m3⟩, trivial⟩ w0 (by show wy.toNat < 4; omega) fun z z0 z1 => ?_
      · split <;> simp <;> omega
      · split <;> simp <;> omega
      · split <;> omega
      · split <;> omega
      refine ⟨l, _, _, rfl, rfl, by rw [upd_ne (ne_of_none hr' hd)]; exact hr', ?_, ?_⟩
      · rw [List.length_map, hri]
        exact small1000 (by omega)
      · have hlH : H l = none := hl
        refine ⟨(sm.trans (.upd hd)).write hlH, r ++ [z], _, _, rfl, by rw [upd_same, List.map_append]; rfl, by rw [List.length_append, hri]; rfl, fun x hx => ?_⟩
        refine (List.mem_append.mp hx).elim (hrp x) fun hx => ?_
        rw [List.mem_singleton.mp hx]; exact ⟨z0, z1⟩
    · rintro σ H' ⟨sm, r, st1, st2, rfl, hr', hri⟩
      exact ⟨_, rfl, l, _, rfl, .inl ⟨.of hr', fun t ht => q t r _ (sm.trans (.upd ht)) hri (.of upd_same)⟩⟩
end
end K04
namespace K04
open PySem L2 Bw
set_option maxHeartbeats 3900000
theorem nb0 : (["row"] : List Str).Nodup := by decide +kernel
theorem nb1 : (["place", "led", "length", "p", "steps"] : List Str).Nodup := by decide +kernel
theorem inV_nat (j : Nat) : ∀ ls : List Nat, inV (.int (j : Int)) (ls.map fun (u : Nat) => V.int u) = decide (j ∈ ls)
  | [] => by simp [inV]
  | l :: ls => by
    have ih := inV_nat j ls
    unfold inV at ih ⊢
    rw [List.map_cons, List.any_cons, ih]
    have : eqV (.int (l : Int)) (.int (j : Int)) = decide (j = l) := by
      unfold eqV
      by_cases h : j = l
      · subst h; simp
      · simp [h]; omega
    rw [this]
    by_cases h : j = l <;> by_cases h2 : j ∈ ls <;> simp [h, h2]
theorem flat_nats : ∀ ls : List Nat, (ls.map fun (u : Nat) => V.int u).all flatV = true
  | [] => rfl
  | l :: ls => by rw [List.map_cons, List.all_cons, flat_nats ls]; rfl
section
variable {P : Program} {w : World} {K : PySem.W.Frag} {mg : Str → Option Value} {base : Heap}
/-! ### barred_row -/
def spBarRow (K : PySem.W.Frag) : Sp := fun vs H Q _ => ∃ (p : Int) (t : Addr) (DS : List V) (D : List (List Int)) (ls : List Nat) (n pl : Nat) (i m : Int), vs = [.int p, .ref t, .int i, .int m] ∧ i = pl ∧ m = n ∧ p ∈ primesL ∧ n ≤ 900 ∧ pl < n ∧ SqT K H t DS ∧ HasA K H DS (D.map intsT) ∧ Rws p n D ∧ Ech n n D ls ∧
  ∀ a H', Same H H' → SqT K H' a ((barI p n D pl D.length).map V.int) → Q (.ref a) H'
theorem scBR : FnScope ["p", "steps", "place", "length", "row", "step"] ["p", "steps", "place", "length"] (defScope sBarRow) := ⟨rfl, rfl, rfl, by decide +kernel, rfl, by decide +kernel, by decide +kernel⟩
theorem ok_barRow {f fF : Addr} {fd fdF : FuncData} (F : Fun K "barred_row" "barred_row" sBarRow f fd) (T : Txt mg)
    (GF : FnOk P w K mg base CX0 1 fF fdF ["row"] (spFirst K)) (kF : PySem.W.keepIn K (.ref fF) = true) (bF : Binds K fdF ["row"] []) (mF : mg "first_place" = some (.ref fF)) :
    FnOk P w K mg base CX0 2 f fd ["p", "steps", "place", "length"] (spBarRow K) := by
  refine F.ok scBR (fun vs H Q E h => ?_) (fun cdv A outer s H vs Q E hr h => ?_)
  · obtain ⟨p, t, DS, D, ls, n, pl, i, m, rfl, _⟩ := h
    rfl
  · obtain ⟨p, t, DS, D, ls, n, pl, i, m, rfl, rfl, rfl, pp, hn, hpl, ht, hD, hR, EC, k⟩ := h
    obtain ⟨p2, p97⟩ := prime_pos p pp
    have p0 : 0 < p := by omega
    have z1000 : (1000 : Nat) ≤ sizeLine := by decide
    refine ⟨_, pss_cons (ps_set (i := 4) scBR.nd rfl (Or.inl rfl) (pe_op op_rep (pe_lst (pa_cons pe_int pa_nil)) (pv 3)))
      (pss_cons (ps_asg pe_int (pg_sub (pv 4) (pv 2) set_list))
      (pss_cons (ps_for PassesOwn.never rfl (piTup K rfl (pv 1)) (pg_name (i := 5) scBR.nd rfl (Or.inl rfl))
        (pss_one (ps_asg (pe_op op_mod (pe_un un_neg (pe_ix (ixT K rfl) (pv 5) (pv 2) (fun _ _ => rfl))) (pv 0)) (pg_sub (pv 4) (pe_call GF hr rfl mF kF bF .nil pass0 (pa_cons (pv 5) pa_nil)) set_list))))
      (pss_one (ps_ret (pe_callTy (cTuple K rfl) rfl T.tuple bt_tuple (pa_cons (pv 4) pa_nil)))))), ?_⟩
    refine ⟨by decide, fun l1 h1 => ⟨_, rfl, l1, (n : Int), _, rfl, rfl, upd_same, by omega, by omega, (by show 1 * ((n : Nat) : Int).toNat ≤ sizeLine; omega), fun lf hlf => ?_⟩⟩
    have e0 : (List.replicate ((n : Nat) : Int).toNat [V.int 0]).flatten = (List.replicate n (0 : Int)).map V.int := by rw [Int.toNat_natCast, flat_rep, List.map_replicate]
    rw [e0]
    have sm3 : Same H (upd (upd H l1 (.lst [.int 0])) lf (.lst ((List.replicate n (0 : Int)).map V.int))) := (Same.upd h1).trans (.upd hlf)
    have g3 : (upd (upd H l1 (.lst [.int 0])) lf (.lst ((List.replicate n (0 : Int)).map V.int))) lf = some (.lst ((List.replicate n (0 : Int)).map V.int)) := upd_same
    have n3 : H lf = none := none_of (Same.upd h1) hlf
    generalize upd (upd H l1 (.lst [.int 0])) lf (.lst ((List.replicate n (0 : Int)).map V.int)) = H3 at sm3 g3 ⊢
    refine ⟨_, rfl, _, rfl, lf, _, (pl : Int), pl, rfl, rfl, g3, ?_, ?_⟩
    · unfold ixN
      rw [if_pos (by omega), if_pos (by rw [List.length_map, List.length_replicate]; omega)]
      simp
    have eD := lenA hD
    have ht4 : SqT K (upd H3 lf (.lst (((List.replicate n (0 : Int)).map V.int).set pl (.int 1)))) t DS := SqT.wr (sm3.seqT ht) g3
    refine ⟨_, rfl, t, rfl, ⟨_, ht4⟩, for_tup (xs := DS) (fun i σ H' => Same H H' ∧ ∃ s5, σ = [some (.int p), some (.ref t), some (.int (pl : Int)), some (.int (n : Int)), some (.ref lf), s5] ∧ H' lf = some (.lst ((barI p n D pl i).map V.int)))
      ⟨sm3.write n3, _, rfl, by rw [upd_same, barI, List.map_set]⟩ (fun i σ H' _ h => h.1.seqT ht) ?_ ?_⟩
    · rintro i x σ H5 hx ⟨sm5, s5, rfl, g5⟩
      obtain ⟨q, qa, hqi, rfl, hqa⟩ := rowAt hD hx
      have hRq := hR q (List.mem_of_getElem? hqi)
      obtain ⟨l, tl, hli, hpq, hln⟩ := EC.placesAt hR hqi
      have hi : i < D.length := (List.getElem?_eq_some_iff.mp hqi).1
      have B := barI_ok pp EC hR hpl i (by omega)
      refine ⟨_, rfl, _, rfl, qa, _, (pl : Int), _, rfl, rfl, sm5.seqT hqa, atI_nat (atRow (by rw [hRq.1]; exact hpl)), _, rfl, _, rfl, _, _, rfl, rfl, (by show (0 : Int) < p; omega), _, rfl, _, rfl, qa, q, l, tl, rfl, sm5.seqT hqa, by rw [hRq.1]; omega, hpq, fun H6 sm6 => ?_⟩
      refine ⟨lf, _, (l : Int), l, rfl, rfl, sm6 _ _ g5, ?_, ?_⟩
      · unfold ixN
        rw [if_pos (by omega), if_pos (by rw [List.length_map, B.rw.1]; omega)]
        simp
      · exact ⟨(sm5.trans sm6).write n3, _, rfl, by rw [upd_same, barI_step hqi hpq, List.map_set]⟩
    · rintro σ H5 ⟨sm5, s5, rfl, g5⟩
      rw [eD] at g5
      exact ⟨_, rfl, lf, _, rfl, .inl ⟨.of g5, fun lt hlt => k lt _ (sm5.trans (.upd hlt)) (.of upd_same)⟩⟩
/-! ### barred -/
def spBarred (K : PySem.W.Frag) : Sp := fun vs H Q _ => ∃ (p : Int) (a : Addr) (b : Bool) (XS : List V) (rs : List (List Int)) (n : Nat) (m : Int), vs = [.int p, .ref a, .int m] ∧ m = n ∧ p ∈ primesL ∧ Sq b K H a XS ∧ HasA K H XS (rs.map intsT) ∧ rs.length ≤ 900 ∧ n ≤ 900 ∧ Rws p n rs ∧
  ∀ t H' DS, Same H H' → SqT K H' t DS → HasA K H' DS ((barM p n rs).map intsT) → Q (.ref t) H'
abbrev nB : List Str := ["p", "rows", "length", "steps", "led"]
theorem scB : FnScope ["p", "rows", "length", "steps", "led"] ["p", "rows", "length"] (defScope sBarred) := ⟨rfl, rfl, rfl, by decide +kernel, rfl, by decide +kernel, by decide +kernel⟩
theorem ok_barred {f fD fF fR : Addr} {fd fdD fdF fdR : FuncData} (F : Fun K "barred" "barred" sBarred f fd) (T : Txt mg)
    (GD : FnOk P w K mg base CX0 3 fD fdD ["p", "rows"] (spReduced K)) (kD : PySem.W.keepIn K (.ref fD) = true) (bD : Binds K fdD ["p", "rows"] []) (mD : mg "reduced" = some (.ref fD))
    (GF : FnOk P w K mg base CX0 1 fF fdF ["row"] (spFirst K)) (kF : PySem.W.keepIn K (.ref fF) = true) (bF : Binds K fdF ["row"] []) (mF : mg "first_place" = some (.ref fF))
    (GR : FnOk P w K mg base CX0 2 fR fdR ["p", "steps", "place", "length"] (spBarRow K)) (kR : PySem.W.keepIn K (.ref fR) = true) (bR : Binds K fdR ["p", "steps", "place", "length"] []) (mR : mg "barred_row" = some (.ref fR)) :
    FnOk P w K mg base CX0 4 f fd ["p", "rows", "length"] (spBarred K) := by
  refine F.ok scB (fun vs H Q E h => ?_) (fun cdv A outer s H vs Q E hr h => ?_)
  · obtain ⟨p, a, b, XS, rs, n, m, rfl, _⟩ := h
    rfl
  · obtain ⟨p, a, b, XS, rs, n, m, rfl, rfl, pp, hq, hA, hz, hn, hR, k⟩ := h
    obtain ⟨p2, p97⟩ := prime_pos p pp
    have p0 : 0 < p := by omega
    have hr1 : Room 1 _ := hr.mono (by decide)
    have hr2 : Room 2 _ := hr.mono (by decide)
    have z1000 : (1000 : Nat) ≤ sizeLine := by decide
    refine ⟨_, pss_cons (ps_set (i := 3) scB.nd rfl (Or.inr rfl) (pe_call GD hr rfl mD kD bD .nil pass0 (pa_cons (pv 0) (pa_cons (pv 1) pa_nil))))
      (pss_cons (ps_set (i := 4) scB.nd rfl (Or.inr rfl) (pe_comp (N := ["row"]) (own := 1) (caps := []) rfl (piTup K rfl (pv 3))
        (show BlkScope nB (defScope sBarred) ["row"] 1 [] _ from .mk' (by decide +kernel)) (fun _ _ _ _ _ => pg_name (i := 0) nb0 rfl (Or.inl rfl)) (fun _ _ _ _ _ => pts_nil)
        (fun _ _ _ _ _ => pe_call GF hr1 rfl mF kF bF .nil pass0 (pa_cons (pv 0) pa_nil))))
      (pss_one (ps_ret (pe_call GD hr rfl mD kD bD .nil pass0 (pa_cons (pv 0) (pa_cons (pe_comp (N := ["place", "led", "length", "p", "steps"]) (own := 1) (caps := [4, 2, 0, 3]) rfl (pi_range1 rfl T.range (pa_cons (pv 2) pa_nil))
        (show BlkScope nB (defScope sBarred) ["place", "led", "length", "p", "steps"] 1 [4, 2, 0, 3] _ from .mk' (by decide +kernel)) (fun _ _ _ _ _ => pg_name (i := 0) nb1 rfl (Or.inl rfl))
        (fun _ _ _ _ _ => pts_one (pt_cmpR (opNotIn K rfl) (pv 0) (pv 1) rfl))
        (fun _ _ _ _ _ => pe_call GR hr2 rfl mR kR bR .nil pass0 (pa_cons (pv 3) (pa_cons (pv 4) (pa_cons (pv 0) (pa_cons (pv 2) pa_nil)))))) pa_nil)))))), ?_⟩
    refine ⟨_, rfl, _, rfl, p, a, b, XS, rs, n, rfl, pp, hq, hA, by omega, by omega, hR, fun t H1 DS sm1 ht hD => ?_⟩
    have RO := redM_ok pp hR
    have eb : barM p n rs = redM p (barB p n (redM p rs)) := rfl
    rw [eb] at k
    have hDl := redM_len hR
    obtain ⟨ls, EC⟩ := RO.ech
    generalize redM p rs = D at RO EC hD hDl k
    have eD := lenA hD
    have BB := barB_ok pp EC RO.rws
    have hBR := BB.rws
    -- led
    refine ⟨_, rfl, t, rfl, ⟨_, ht⟩, comp_tup (cp := []) (fun i H' zs => zs = (ls.take i).map fun (u : Nat) => V.int u) ht (by omega) rfl (fun i H' zs e => by rw [e, List.length_map]; exact List.length_take_le _ _) ?_ ?_⟩
    · rintro i x H2 zs hx sm2 rfl
      obtain ⟨q, qa, hqi, rfl, hqa⟩ := rowAt hD hx
      have hRq := RO.rws q (List.mem_of_getElem? hqi)
      obtain ⟨l, tl, hli, hpq, hln⟩ := EC.placesAt RO.rws hqi
      refine tgo ⟨_, rfl, qa, q, l, tl, rfl, sm2.seqT hqa, by rw [hRq.1]; omega, hpq, fun H3 sm3 => ⟨⟨[_], rfl, rfl⟩, sm2.trans sm3, ?_⟩⟩
      rw [List.take_add_one, hli, List.map_append]; rfl
    rintro H2 zs sm2 rfl ll hll
    rw [eD, ← EC.len, List.take_length]
    have sm3 : Same H1 (upd H2 ll (.lst (ls.map fun (u : Nat) => V.int u))) := sm2.trans (.upd hll)
    have g3 : (upd H2 ll (.lst (ls.map fun (u : Nat) => V.int u))) ll = some (.lst (ls.map fun (u : Nat) => V.int u)) := upd_same
    generalize upd H2 ll (.lst (ls.map fun (u : Nat) => V.int u)) = H3 at sm3 g3 ⊢
    have hle := leads_eq EC RO.rws
    refine ⟨_, rfl, _, rfl, (n : Int), rfl, by omega, by omega, comp_rng (n := n) (lo := 0) (cp := [some (.ref ll), some (.int (n : Int)), some (.int p), some (.ref t)]) (fun i H' zs => HasA K H' zs ((((List.range i).filter fun j => j ∉ ls).map fun pl => barI p n D pl D.length).map intsT)) (by omega) .nil
      (fun i H' zs h => by rw [lenA h, List.length_map]; exact Nat.le_trans (List.length_filter_le _ _) (by rw [List.length_range]; exact Nat.le_refl _)) ?_ ?_⟩
    · rintro i H4 zs hi sm4 h4
      rw [Int.zero_add]
      refine ⟨_, rfl, _, rfl, ll, _, rfl, .inl (.of (sm4 _ _ g3)), rfl, flat_nats ls, _, rfl, ?_⟩
      rw [inV_nat]
      refine ite2 (fun hc => ?_) (fun hc => ?_)
      · have hni : i ∉ ls := by simpa using hc
        refine ⟨_, rfl, _, rfl, _, rfl, _, rfl, p, t, DS, D, ls, n, i, (i : Int), (n : Int), rfl, rfl, rfl, pp, hn, hi, (sm3.trans sm4).seqT ht, hD.mono (sm3.trans sm4), RO.rws, EC, fun ba H5 sm5 hb => ⟨⟨[_], rfl, rfl⟩, sm4.trans sm5, ?_⟩⟩
        rw [List.range_succ, List.filter_append, List.filter_cons_of_pos (by simpa using hni), List.filter_nil, List.map_append, List.map_append]
        exact (h4.mono sm5).append (.cons (hasT_of hb) .nil)
      · have hin : i ∈ ls := by simpa using hc
        refine ⟨⟨[_], rfl, rfl⟩, sm4, ?_⟩
        rw [List.range_succ, List.filter_append, List.filter_cons_of_neg (by simpa using hin), List.filter_nil, List.append_nil]
        exact h4
    · rintro H4 BS sm4 hB lb hlb
      have hB : HasA K H4 BS ((barB p n D).map intsT) := by
        unfold barB
        rw [hle]; exact hB
      have hbl : (barB p n D).length ≤ n := by
        rw [BB.len]
        exact Nat.le_trans (List.length_filter_le _ _) (by rw [List.length_range]; exact Nat.le_refl _)
      refine ⟨p, lb, true, BS, barB p n D, n, rfl, pp, .of upd_same, hB.mono (.upd hlb), by omega, by omega, hBR, fun t5 H5 DS5 sm5 ht5 hD5 => ?_⟩
      exact k t5 H5 DS5 (((sm1.trans sm3).trans (sm4.trans (.upd hlb))).trans sm5) ht5 hD5
end
end K04
namespace K04
open PySem L2 Bw
set_option maxHeartbeats 3900000
theorem nk0 : (["j", "row"] : List Str).Nodup := by decide +kernel
theorem nk1 : (["k", "lead", "p", "row"] : List Str).Nodup := by decide +kernel
theorem nk2 : (["one", "two", "p", "times"] : List Str).Nodup := by decide +kernel
/-- the rows left, those ahead of a place cleared -/
def mixM (p c : Int) (l : Nat) (r : List Int) (L : List (List Int)) (i : Nat) : List (List Int) := (L.take i).map (rankM p c l r) ++ L.drop i
theorem mix_len {p c : Int} {l : Nat} {r : List Int} {L : List (List Int)} {i : Nat} (h : i ≤ L.length) : (mixM p c l r L i).length = L.length := by
  simp [mixM]; omega
theorem mix_at {p c : Int} {l : Nat} {r q : List Int} {L : List (List Int)} {i : Nat} (h : L[i]? = some q) : (mixM p c l r L i)[i]? = some q := by
  have hi := (List.getElem?_eq_some_iff.mp h).1
  unfold mixM
  rw [List.getElem?_append_right (by simp; omega), List.getElem?_drop]
  have : i + (i - ((L.take i).map (rankM p c l r)).length) = i := by simp; omega
  rw [this, h]
theorem mix_step {p c : Int} {l : Nat} {r q : List Int} {L : List (List Int)} {i : Nat} (h : L[i]? = some q) : mixM p c l r L (i + 1) = (mixM p c l r L i).set i (rankM p c l r q) := by
  have hi := (List.getElem?_eq_some_iff.mp h).1
  unfold mixM
  have hd : L.drop i = q :: L.drop (i + 1) := by rw [List.drop_eq_getElem_cons hi, (List.getElem?_eq_some_iff.mp h).2]
  rw [List.take_add_one, h, List.map_append, hd, List.set_append_right _ _ (by simp; omega)]
  have : i - ((L.take i).map (rankM p c l r)).length = 0 := by simp; omega
  rw [this]
  simp
theorem mix_end {p c : Int} {l : Nat} {r : List Int} {L : List (List Int)} : mixM p c l r L L.length = L.map (rankM p c l r) := by simp [mixM]
section
variable {P : Program} {w : World} {K : PySem.W.Frag} {mg : Str → Option Value} {base : Heap}
/-! ### _law_rank -/
def spRank (K : PySem.W.Frag) : Sp := fun vs H Q _ => ∃ (p : Int) (a : Addr) (XS : List V) (rs : List (List Int)) (n : Nat), vs = [.int p, .ref a] ∧ p ∈ primesL ∧ n ≤ 900 ∧ SqL K H a XS ∧ HasA K H XS (rs.map intsT) ∧ Rws p n rs ∧ rs.length ≤ 900 ∧ ∀ H', Same H H' → Q (.int ((redM p rs).length : Int)) H'
abbrev nRk : List Str := ["p", "rows", "row", "left", "rank", "places", "lead", "k", "factor", "times"]
theorem scRk : FnScope ["p", "rows", "row", "left", "rank", "places", "lead", "k", "factor", "times"] ["p", "rows"] (defScope sRank) := ⟨rfl, rfl, rfl, by decide +kernel, rfl, by decide +kernel, by decide +kernel⟩
theorem ok_rank {f : Addr} {fd : FuncData} (F : Fun K "_law_rank" "_law_rank" sRank f fd) (T : Txt mg) : FnOk P w K mg base CX0 1 f fd ["p", "rows"] (spRank K) := by
  refine F.ok scRk (fun vs H Q E h => ?_) (fun cdv A outer s H vs Q E hr h => ?_)
  · obtain ⟨p, a, XS, rs, n, rfl, _⟩ := h
    rfl
  · obtain ⟨p, a, XS, rs, n, rfl, pp, hn, hq, hA, hR, hz, k⟩ := h
    obtain ⟨p2, p97⟩ := prime_pos p pp
    have p0 : 0 < p := by omega
    have z1000 : (1000 : Nat) ≤ sizeLine := by decide
    have hu := hr.units
    refine ⟨_, pss_cons (ps_setComp (i := 3) (N := ["row"]) (own := 1) (caps := []) rfl scRk.nd rfl rfl (piList K rfl (pv 1))
        (show BlkScope nRk (defScope sRank) ["row"] 1 [] _ from .mk' (by decide +kernel)) (fun _ _ _ _ _ => pg_name (i := 0) nb0 rfl (Or.inl rfl)) (fun _ _ _ _ _ => pts_nil)
        (fun _ _ _ _ _ => pe_callTy (cList K rfl) rfl T.list bt_list (pa_cons (pv 0) pa_nil)))
      (pss_cons (ps_set (i := 4) scRk.nd rfl (Or.inl rfl) pe_int)
      (pss_cons (ps_while PassesOwn.never (pt_cmpR (opNeD K rfl hu) (pv 3) (pe_lst pa_nil) (nomark _))
        (pss_cons (ps_set (i := 2) scRk.nd rfl (Or.inr rfl) (pe_bm0 PySem.F.plainAttrs_list PySem.F.slot_list_pop PySem.F.type_list_pop mt_pop (pv 3)))
        (pss_cons (ps_setComp (i := 5) (N := ["j", "row"]) (own := 1) (caps := [2]) rfl scRk.nd rfl rfl (pi_range1 rfl T.range (pa_cons (pe_callB (cLen K rfl) rfl T.len bt_len (pa_cons (pv 2) pa_nil)) pa_nil))
          (show BlkScope nRk (defScope sRank) ["j", "row"] 1 [2] _ from .mk' (by decide +kernel)) (fun _ _ _ _ _ => pg_name (i := 0) nk0 rfl (Or.inl rfl))
          (fun _ _ _ _ _ => pts_one (pt_cmpR op_ne (pe_ix (ixL K rfl) (pv 1) (pv 0) (fun _ _ => rfl)) pe_int (nomark _))) (fun _ _ _ _ _ => pv 0))
        (pss_one (ps_if (pt_cmpR (opNeD K rfl hu) (pv 5) (pe_lst pa_nil) (nomark _))
          (pss_cons (ps_set (i := 4) scRk.nd rfl (Or.inl rfl) (pe_op op_add (pv 4) pe_int))
          (pss_cons (ps_set (i := 6) scRk.nd rfl (Or.inr rfl) (pe_ix (ixL K rfl) (pv 5) (pe_un un_neg pe_int) (fun _ _ => rfl)))
          (pss_cons (ps_set (i := 8) scRk.nd rfl (Or.inl rfl) (pe_ix (ixL K rfl) (pe_comp (N := ["k", "lead", "p", "row"]) (own := 1) (caps := [6, 0, 2]) rfl (pi_range2 rfl T.range (pa_cons pe_int (pa_cons (pv 0) pa_nil)))
            (show BlkScope nRk (defScope sRank) ["k", "lead", "p", "row"] 1 [6, 0, 2] _ from .mk' (by decide +kernel)) (fun _ _ _ _ _ => pg_name (i := 0) nk1 rfl (Or.inl rfl))
            (fun _ _ _ _ _ => pts_one (pt_cmpR op_eq (pe_op op_mod (pe_op op_mul (pv 0) (pe_ix (ixL K rfl) (pv 3) (pv 1) (fun _ _ => rfl))) (pv 2)) pe_int (nomark _))) (fun _ _ _ _ _ => pv 0)) pe_int (fun _ _ => rfl)))
          (pss_one (ps_for PassesOwn.never rfl (pi_range1 rfl T.range (pa_cons (pe_callB (cLen K rfl) rfl T.len bt_len (pa_cons (pv 3) pa_nil)) pa_nil)) (pg_name (i := 7) scRk.nd rfl (Or.inl rfl))
            (pss_cons (ps_set (i := 9) scRk.nd rfl (Or.inr rfl) (pe_op op_mul (pe_ix (ixL K rfl) (pe_ix (ixL K rfl) (pv 3) (pv 7) (fun _ _ => rfl)) (pv 6) (fun _ _ => rfl)) (pv 8)))
            (pss_one (ps_asg (pe_comp (N := ["one", "two", "p", "times"]) (own := 2) (caps := [0, 9]) rfl (piZip K rfl true true rfl T.zip (pa_cons (pe_ix (ixL K rfl) (pv 3) (pv 7) (fun _ _ => rfl)) (pa_cons (pv 2) pa_nil)))
              (show BlkScope nRk (defScope sRank) ["one", "two", "p", "times"] 2 [0, 9] _ from .mk' (by decide +kernel))
              (fun _ _ _ _ _ => pgTup (n := 2) K rfl rfl (pgs_cons (pg_name (i := 0) nk2 rfl (Or.inl rfl)) (pgs_cons (pg_name (i := 1) nk2 rfl (Or.inl rfl)) pgs_nil))) (fun _ _ _ _ _ => pts_nil)
              (fun _ _ _ _ _ => pe_op op_mod (pe_op op_sub (pv 0) (pe_op op_mul (pv 3) (pv 1))) (pv 2))) (pg_sub (pv 3) (pv 7) set_list)))))))))
          pss_nil)))))
      (pss_one (ps_ret (pv 4))))), ?_⟩
    have hlen := lenA hA
    -- left
    refine ⟨_, rfl, a, rfl, ⟨_, hq⟩, comp_list (cp := []) (fun i H' zs => LR (fun _ => True) H' zs (rs.take i)) hq (by omega) LR.nil (fun i H' zs h => by rw [h.1]; exact List.length_take_le _ _) ?_ ?_⟩
    · rintro i x H1 zs hx sm h1
      obtain ⟨r, ra, hri, rfl, hra⟩ := rowAt hA hx
      refine tgo ⟨_, rfl, ra, _, rfl, .inr (sm.seqT hra), fun l hl => ⟨⟨[_], rfl, rfl⟩, sm.trans (.upd hl), ?_⟩⟩
      rw [List.take_add_one, hri]
      exact (h1.mono (.upd hl)).snoc trivial upd_same
    rintro H1 LS sm1 hL1 ll hll
    rw [hlen, List.take_length] at hL1
    have hllH : H ll = none := none_of sm1 hll
    refine ⟨fun m σ H' => Same H H' ∧ ∃ (LS : List V) (L Pp : List (List Int)) (lsp : List Nat) (s2 s5 s6 s7 s8 s9 : Option V), σ = [some (.int p), some (.ref a), s2, some (.ref ll), some (.int (Pp.length : Int)), s5, s6, s7, s8, s9] ∧ H' ll = some (.lst LS) ∧ LR (· ≠ ll) H' LS L ∧ RankI p n rs L Pp lsp ∧ L.length = m ∧ m ≤ 900,
      ⟨rs.length, sm1.trans (.upd hll), LS, rs, [], [], _, _, _, _, _, _, rfl, upd_same, hL1.fresh hll, .start hR, rfl, hz⟩, ?_⟩
    rintro m σ H2 ⟨sm2, LS, L, Pp, lsp, s2, s5, s6, s7, s8, s9, rfl, g2, hL2, RI, rfl, hm⟩
    refine ⟨_, rfl, by decide, fun le hle => ?_⟩
    have sm3 : Same H2 (upd H2 le (.lst [])) := .upd hle
    have ge : (upd H2 le (.lst [])) le = some (.lst []) := upd_same
    generalize upd H2 le (.lst []) = H3 at sm3 ge ⊢
    have g3 := sm3 _ _ g2
    have hL3 := hL2.mono sm3
    refine ⟨.list (L.map intsL), .list [], .list (.of g3) hL3.has, .list (.of ge) .nil, kqd_LL _, kqd_intsL [], _, rfl, ?_⟩
    rcases List.eq_nil_or_concat L with hnil | ⟨L', r, hcat⟩
    · -- none is left
      rw [hnil] at RI
      refine iteNeD (by rw [hnil]; rfl) ⟨_, rfl, ?_⟩
      rw [RI.done pp (redM_ok pp hR)]
      exact k _ (sm2.trans sm3)
    rw [List.concat_eq_append] at hcat
    rw [hcat] at RI hL3 hm ⊢
    refine iteNeD' (by simp) ⟨_, fun σ' H' h => h, ?_⟩
    obtain ⟨hL4, ra, hlast, nera, gra⟩ := hL3.pop
    have hRr : Rw p n r := RI.rl r (by simp)
    have hm' : L'.length + 1 ≤ 900 := by simpa using hm
    have hml : (L' ++ [r]).length = L'.length + 1 := by simp
    -- the last one is taken
    refine ⟨_, rfl, .inl ⟨rfl, _, SqL.of g3⟩, ll, LS, .ref ra, rfl, rfl, g3, hlast, ?_⟩
    have smA : Same H (upd H3 ll (.lst LS.dropLast)) := (sm2.trans sm3).write hllH
    have gA : (upd H3 ll (.lst LS.dropLast)) ll = some (.lst LS.dropLast) := upd_same
    have grA : (upd H3 ll (.lst LS.dropLast)) ra = some (.lst (r.map V.int)) := by rw [upd_ne nera]; exact gra
    have hLA : LR (· ≠ ll) (upd H3 ll (.lst LS.dropLast)) LS.dropLast L' := hL4.wr
    clear g2 hL2 sm2 sm3 g3 hL3 hL4 gra ge hle hlast
    generalize upd H3 ll (.lst LS.dropLast) = H4 at smA gA grA hLA ⊢
    generalize LS.dropLast = LD at gA hLA
    have ex : (r.map V.int).length = n := by rw [List.length_map]; exact hRr.1
    -- places
    refine ⟨_, rfl, ra, _, rfl, .inl (.of grA), (((r.map V.int).length : Nat) : Int), rfl, by omega, by rw [ex]; omega, comp_rng (n := (r.map V.int).length) (lo := 0) (cp := [some (.ref ra)]) (fun j H' zs => zs = ((List.range j).filter fun u => r.getD u 0 ≠ 0).map fun (u : Nat) => V.int u) (by rw [ex]; omega) rfl
      (fun j H' zs e => by rw [e, List.length_map]; exact Nat.le_trans (List.length_filter_le _ _) (by rw [List.length_range]; exact Nat.le_refl _)) ?_ ?_⟩
    · rintro j H' zs hj sm' rfl
      rw [List.length_map] at hj
      rw [Int.zero_add]
      refine ⟨_, rfl, _, rfl, ra, _, (j : Int), _, rfl, rfl, .of (sm' _ _ grA), atI_nat (atRow hj), rfl, _, rfl, iteNe (fun hne => ?_) (fun heq => ?_)⟩
      · have hne2 : r.getD j 0 ≠ 0 := fun z => hne (congrArg V.int z)
        refine ⟨_, rfl, ⟨[_], rfl, rfl⟩, sm', ?_⟩
        rw [List.range_succ, List.filter_append, List.filter_cons_of_pos (by simpa using hne2), List.filter_nil, List.map_append]; rfl
      · have heq2 : r.getD j 0 = 0 := V.int.inj heq
        refine ⟨⟨[_], rfl, rfl⟩, sm', ?_⟩
        rw [List.range_succ, List.filter_append, List.filter_cons_of_neg (by simpa using heq2), List.filter_nil, List.append_nil]
    rintro H5 zs sm5 ez lp hlp
    rw [List.length_map] at ez
    have ez : zs = (placesM r).map fun (u : Nat) => V.int u := ez
    have sm6 : Same H4 (upd H5 lp (.lst zs)) := sm5.trans (.upd hlp)
    have g6 : (upd H5 lp (.lst zs)) lp = some (.lst zs) := upd_same
    generalize upd H5 lp (.lst zs) = H6 at sm6 g6 ⊢
    subst ez
    refine ⟨_, rfl, by decide, fun le hle => ?_⟩
    have sm7 := sm6.trans (Same.upd hle (o := .lst []))
    have g7 := Same.upd hle (o := .lst []) _ _ g6
    have ge : (upd H6 le (.lst [])) le = some (.lst []) := upd_same
    clear sm6 g6
    generalize upd H6 le (.lst []) = H7 at sm7 g7 ge ⊢
    have ep : (placesM r).map (fun (u : Nat) => V.int u) = ((placesM r).map fun (u : Nat) => (u : Int)).map V.int := by rw [List.map_map]; rfl
    refine ⟨.list (((placesM r).map fun (u : Nat) => (u : Int)).map .int), .list [], .list (.of g7) (by rw [ep]; exact HasA.ints _), .list (.of ge) .nil, kqd_intsL _, kqd_intsL [], _, rfl, ?_⟩
    have gl7 := sm7 _ _ gA
    have gr7 := sm7 _ _ grA
    have hL7 := hLA.mono sm7
    have smB := smA.trans sm7
    rcases List.eq_nil_or_concat (placesM r) with hpl | ⟨tl, l, hpl⟩
    · -- a row of noughts
      refine iteNeD (by rw [hpl]; rfl) ?_
      exact ⟨L'.length, by omega, smB, LD, L', Pp, lsp, _, _, _, _, _, _, rfl, gl7, hL7, RI.skip fun j hj => places_nil hpl j (by rw [hRr.1]; exact hj), rfl, by omega⟩
    rw [List.concat_eq_append] at hpl
    obtain ⟨c1, c2⟩ := places_last hpl
    have hln : l < n := by rw [hRr.1] at c1; exact c1
    have hxl := hRr.at p0 l
    have htk := turn_ok (n := r.getD l 0) pp (by omega) hxl.2
    refine iteNeD' (by rw [hpl]; simp) ⟨_, rfl, _, _, rfl, rfl, _, rfl, 1, rfl, lp, _, -1, .int (l : Int), rfl, rfl, .of g7, ?_, ?_⟩
    · rw [hpl, List.map_append]
      exact atI_last _ _
    -- the factor
    refine ⟨_, rfl, 1, p, rfl, ⟨by decide, by decide, by omega, by omega⟩, comp_rng (n := (p - 1).toNat) (lo := 1) (cp := [some (.int (l : Int)), some (.int p), some (.ref ra)]) (fun j H' zs => zs = ((List.range j).filter fun (u : Nat) => (1 + (u : Int)) * r.getD l 0 % p = 1).map fun (u : Nat) => V.int (1 + (u : Int))) (by omega) rfl
      (fun j H' zs e => by rw [e, List.length_map]; exact Nat.le_trans (List.length_filter_le _ _) (by rw [List.length_range]; exact Nat.le_refl _)) ?_ ?_⟩
    · rintro j H' zs hj sm' rfl
      refine ⟨_, rfl, _, rfl, _, rfl, ra, _, (l : Int), _, rfl, rfl, .of (sm' _ _ gr7), atI_nat (atRow c1), _, _, rfl, rfl, .inl ⟨by omega, by omega⟩, _, rfl, _, _, rfl, rfl, (by show (0 : Int) < p; omega), rfl, _, rfl, ite2 (fun heq => ?_) (fun hne => ?_)⟩
      · have heq2 : (1 + (j : Int)) * r.getD l 0 % p = 1 := V.int.inj (of_decide_eq_true heq)
        refine ⟨_, rfl, ⟨[_], rfl, rfl⟩, sm', ?_⟩
        rw [List.range_succ, List.filter_append, List.filter_cons_of_pos (by simpa using heq2), List.filter_nil, List.map_append]; rfl
      · have hne2 : ¬ (1 + (j : Int)) * r.getD l 0 % p = 1 := fun z => hne (decide_eq_true (congrArg V.int z))
        refine ⟨⟨[_], rfl, rfl⟩, sm', ?_⟩
        rw [List.range_succ, List.filter_append, List.filter_cons_of_neg (by simpa using hne2), List.filter_nil, List.append_nil]
    rintro H8 zs sm8 ez8 lc hlc
    have hmem : (turnM p (r.getD l 0) - 1).toNat ∈ (List.range (p - 1).toNat).filter fun (u : Nat) => (1 + (u : Int)) * r.getD l 0 % p = 1 := by
      refine List.mem_filter.mpr ⟨List.mem_range.mpr (by omega), ?_⟩
      have : (1 : Int) + ((turnM p (r.getD l 0) - 1).toNat : Int) = turnM p (r.getD l 0) := by omega
      simp only [this, decide_eq_true_eq]; exact htk.2.2
    cases hfl : (List.range (p - 1).toNat).filter fun (u : Nat) => (1 + (u : Int)) * r.getD l 0 % p = 1 with
    | nil => rw [hfl] at hmem; cases hmem
    | cons u us =>
      have hu1 : u ∈ (List.range (p - 1).toNat).filter fun (u : Nat) => (1 + (u : Int)) * r.getD l 0 % p = 1 := by rw [hfl]; exact List.mem_cons_self
      have hu2 := List.mem_filter.mp hu1
      have hu3 : (1 + (u : Int)) * r.getD l 0 % p = 1 := by simpa using hu2.2
      have hu4 := List.mem_range.mp hu2.1
      rw [hfl] at ez8
      have sm9 : Same H7 (upd H8 lc (.lst zs)) := sm8.trans (.upd hlc)
      have g9 : (upd H8 lc (.lst zs)) lc = some (.lst zs) := upd_same
      generalize upd H8 lc (.lst zs) = H9 at sm9 g9 ⊢
      subst ez8
      refine ⟨lc, _, 0, .int (1 + (u : Int)), rfl, rfl, .of g9, atI_nat (j := 0) rfl, ?_⟩
      have hcu0 : 1 ≤ 1 + (u : Int) := by omega
      have hcu1 : 1 + (u : Int) ≤ 97 := by omega
      generalize 1 + (u : Int) = cu at hu3 hcu0 hcu1 ⊢
      have gl9 := sm9 _ _ gl7
      have gr9 := sm9 _ _ gr7
      have hL9 := hL7.mono sm9
      have smC := smB.trans sm9
      have eLD : LD.length = L'.length := hL9.1
      -- the rows that are left
      refine ⟨_, rfl, ll, _, rfl, .inl (.of gl9), (LD.length : Int), rfl, by omega, by omega, for_range (n := LD.length) (fun i σ H' => Same H H' ∧ ∃ (LX : List V) (s7 s9 : Option V), σ = [some (.int p), some (.ref a), some (.ref ra), some (.ref ll), some (.int ((Pp.length : Int) + 1)), some (.ref lp), some (.int (l : Int)), s7, some (.int cu), s9] ∧ H' ll = some (.lst LX) ∧ LR (· ≠ ll) H' LX (mixM p cu l r L' i) ∧ H' ra = some (.lst (r.map V.int)))
        ⟨smC, LD, _, _, rfl, gl9, by simpa [mixM] using hL9, gr9⟩ ?_ ?_⟩
      · rintro i σ HA hi ⟨smD, LX, t7, t9, rfl, glA, hLX, grA'⟩
        rw [Int.zero_add]
        have hi' : i < L'.length := by omega
        have hLi := List.getElem?_eq_getElem hi'
        have hmi := mix_at (p := p) (c := cu) (l := l) (r := r) hLi
        have hXl : LX.length = L'.length := by rw [hLX.1, mix_len (by omega)]
        have hXi : LX[i]? = some (LX[i]'(by omega)) := List.getElem?_eq_getElem (by omega)
        obtain ⟨qa, eqa, neq, gq⟩ := hLX.2 i _ _ hXi hmi
        rw [eqa] at hXi
        have hRq : Rw p n L'[i] := RI.rl _ (by simp)
        generalize L'[i] = q at hLi hmi gq hRq
        have hql : l < q.length := by rw [hRq.1]; exact hln
        have hqb := hRq.at p0 l
        refine ⟨_, rfl, _, rfl, ll, _, (i : Int), .ref qa, rfl, rfl, .of glA, atI_nat hXi, _, rfl, qa, _, (l : Int), _, rfl, rfl, .of gq, atI_nat (atRow hql), _, rfl, _, _, rfl, rfl, .inl ⟨by omega, by omega⟩, ?_⟩
        have eL : (rankM p cu l r q).length = n := by unfold rankM; simp [addM, hRq.1, hRr.1]
        refine ⟨_, rfl, _, rfl, ll, _, (i : Int), .ref qa, rfl, rfl, .of glA, atI_nat hXi, _, rfl, qa, ra, rfl, ⟨_, .of gq⟩, ⟨_, .of grA'⟩, comp_zip (b1 := true) (b2 := true) (cp := [some (.int p), some (.int (q.getD l 0 * cu))]) (fun j H' zs => zs = ((rankM p cu l r q).take j).map V.int) (.of gq) (.of grA') (by rw [List.length_map, List.length_map, hRq.1, hRr.1]) (by rw [List.length_map, hRq.1]; omega) rfl
          (fun j H' zs e => by subst e; rw [List.length_map]; exact List.length_take_le _ _) (fun j H1 H2 zs _ e => e) ?_ ?_⟩
        · rintro j x y H' zs hx hy sm' rfl
          rw [List.getElem?_map] at hx hy
          cases f1 : q[j]? with
          | none => rw [f1] at hx; cases hx
          | some x' =>
            cases f2 : r[j]? with
            | none => rw [f2] at hy; cases hy
            | some y' =>
              rw [f1] at hx
              rw [f2] at hy
              cases hx
              cases hy
              have hy' := hRr.2 y' (List.mem_of_getElem? f2)
              refine tgo ⟨_, rfl, _, rfl, _, rfl, _, _, rfl, rfl, .inr ⟨by omega, by omega⟩, _, _, rfl, rfl, _, rfl, _, _, rfl, rfl, (by show (0 : Int) < p; omega), ⟨[_, _], rfl, rfl⟩, sm', ?_⟩
              have e3 : (rankM p cu l r q)[j]? = some ((x' - q.getD l 0 * cu * y') % p) := by
                unfold rankM addM
                rw [List.getElem?_zipWith, f1, f2]
                show some ((x' + -(q.getD l 0 * cu) * y') % p) = _
                rw [Int.neg_mul, ← Int.sub_eq_add_neg]
              rw [List.take_add_one, e3]
              simp
        · rintro HB zs smE rfl ln hlnn
          rw [List.length_map, hRq.1, List.take_of_length_le (by omega)]
          have glB := smE _ _ glA
          have neln : ln ≠ ll := fun z => by rw [z, glB] at hlnn; cases hlnn
          refine ⟨_, rfl, _, rfl, ll, LX, (i : Int), i, rfl, rfl, by rw [upd_ne (Ne.symm neln)]; exact glB, ?_, ?_⟩
          · unfold ixN
            rw [if_pos (by omega), if_pos (by omega)]
            simp
          have nera' : ra ≠ ln := fun z => by
            have := smE _ _ grA'
            rw [z, hlnn] at this; cases this
          refine ⟨((smD.trans smE).trans (.upd hlnn)).write hllH, LX.set i (.ref ln), _, _, rfl, upd_same, ?_, ?_⟩
          · rw [mix_step hLi]
            exact (((hLX.mono (smE.trans (.upd hlnn))).set i neln upd_same)).wr
          · rw [upd_ne nera, upd_ne nera']
            exact smE _ _ grA'
      · rintro σ HA ⟨smD, LX, t7, t9, rfl, glA, hLX, _⟩
        rw [eLD, mix_end] at hLX
        have e1 : (Pp.length : Int) + 1 = ((Pp ++ [r]).length : Int) := by simp
        refine ⟨L'.length, by omega, smD, LX, _, Pp ++ [r], lsp ++ [l], _, _, _, _, _, _, by rw [e1], glA, hLX, RI.take p0 hln c2 hu3, by simp, by omega⟩
end
end K04
namespace K04
open PySem L2 Bw
set_option maxHeartbeats 3900000
theorem nl0 : (["lead", "found"] : List Str).Nodup := by decide +kernel
theorem nl1 : (["row", "lead"] : List Str).Nodup := by decide +kernel
theorem nq1 : (["k", "cell", "length", "p"] : List Str).Nodup := by decide +kernel
theorem nq2 : (["j", "cell", "k", "p"] : List Str).Nodup := by decide +kernel
theorem nq3 : (["j", "base", "p", "some"] : List Str).Nodup := by decide +kernel
theorem nq4 : (["row", "f", "j"] : List Str).Nodup := by decide +kernel
theorem nz0 : (["a", "b"] : List Str).Nodup := by decide +kernel
def aheadM (ls : List Nat) : Nat → Int
  | 0 => -1
  | i + 1 => (ls.getD i 0 : Nat)
theorem ahead_lt {ls : List Nat} (up : ls.Pairwise (· < ·)) {i m : Nat} (h : ls[i]? = some m) : aheadM ls i < (m : Int) := by
  cases i with
  | zero => show (-1 : Int) < m; omega
  | succ i =>
    obtain ⟨h1, rfl⟩ := List.getElem?_eq_some_iff.mp h
    have h2 : i < ls.length := by omega
    have := List.pairwise_iff_getElem.mp up i (i + 1) h2 h1 (by omega)
    show ((ls.getD i 0 : Nat) : Int) < _
    rw [List.getD_eq_getElem?_getD, List.getElem?_eq_getElem h2]
    show ((ls[i] : Nat) : Int) < _
    omega
theorem ahead_succ {ls : List Nat} {i m : Nat} (h : ls[i]? = some m) : aheadM ls (i + 1) = (m : Int) := by
  show ((ls.getD i 0 : Nat) : Int) = m
  rw [List.getD_eq_getElem?_getD, h]; rfl
section
variable {P : Program} {w : World} {K : PySem.W.Frag} {mg : Str → Option Value} {base : Heap}
/-! ### _law_reduced -/
def spRedL (K : PySem.W.Frag) : Sp := fun vs H Q _ => ∃ (p : Int) (a : Addr) (RS : List V) (rs : List (List Int)) (n : Nat) (m : Int) (ls : List Nat), vs = [.ref a, .int m] ∧ m = n ∧ n ≤ 1000 ∧ SqT K H a RS ∧ HasA K H RS (rs.map intsT) ∧ Rws p n rs ∧ Ech n n rs ls ∧ rs.length ≤ 1000 ∧ ∀ H', Same H H' → Q (.bl true) H'
abbrev nRL : List Str := ["found", "length", "ahead", "leads", "row", "places"]
theorem scRL : FnScope ["found", "length", "ahead", "leads", "row", "places"] ["found", "length"] (defScope sRedL) := ⟨rfl, rfl, rfl, by decide +kernel, rfl, by decide +kernel, by decide +kernel⟩
theorem ok_redL {f : Addr} {fd : FuncData} (F : Fun K "_law_reduced" "_law_reduced" sRedL f fd) (T : Txt mg) : FnOk P w K mg base CX0 1 f fd ["found", "length"] (spRedL K) := by
  refine F.ok scRL (fun vs H Q E h => ?_) (fun cdv A outer s H vs Q E hr h => ?_)
  · obtain ⟨p, a, RS, rs, n, m, ls, rfl, _⟩ := h
    rfl
  · obtain ⟨p, a, RS, rs, n, m, ls, rfl, rfl, hn, hq, hA, hR, EC, hz, k⟩ := h
    have hu := hr.units
    have z1000 : (1000 : Nat) ≤ sizeLine := by decide
    refine ⟨_, pss_cons (ps_set (i := 2) scRL.nd rfl (Or.inl rfl) (pe_un un_neg pe_int))
      (pss_cons (ps_set (i := 3) scRL.nd rfl (Or.inl rfl) (pe_lst pa_nil))
      (pss_cons (ps_for PassesOwn.never rfl (piTup K rfl (pv 0)) (pg_name (i := 4) scRL.nd rfl (Or.inr rfl))
        (pss_cons (ps_setComp (i := 5) (N := ["j", "row"]) (own := 1) (caps := [4]) rfl scRL.nd rfl rfl (pi_range1 rfl T.range (pa_cons (pv 1) pa_nil))
          (show BlkScope nRL (defScope sRedL) ["j", "row"] 1 [4] _ from .mk' (by decide +kernel)) (fun _ _ _ _ _ => pg_name (i := 0) nk0 rfl (Or.inl rfl))
          (fun _ _ _ _ _ => pts_one (pt_cmpR op_ne (pe_ix (ixT K rfl) (pv 1) (pv 0) (fun _ _ => rfl)) pe_int (nomark _))) (fun _ _ _ _ _ => pv 0))
        (pss_cons (ps_if (PW.pt (pw_or (pt_cmpR (opEqD K rfl hu) (pv 5) (pe_lst pa_nil) (nomark _)) (pw_or (pt_cmpR op_ne (pe_ix (ixT K rfl) (pv 4) (pe_ix (ixL K rfl) (pv 5) pe_int (fun _ _ => rfl)) (fun _ _ => rfl)) pe_int (nomark _))
          (pw_or1 (pt_cmpR op_le (pe_ix (ixL K rfl) (pv 5) pe_int (fun _ _ => rfl)) (pv 2) (nomark _))))))
          (pss_one (ps_ret pe_bl)) pss_nil)
        (pss_cons (ps_set (i := 2) scRL.nd rfl (Or.inl rfl) (pe_ix (ixL K rfl) (pv 5) pe_int (fun _ _ => rfl)))
        (pss_one (ps_expr (pe_bm PySem.F.plainAttrs_list PySem.F.slot_list_append PySem.F.type_list_append mt_append (pv 3) (pa_cons (pv 2) pa_nil))))))))
      (pss_one (ps_ret (pe_callB (cAll K rfl rfl) rfl T.all bt_all (pa_cons (pe_comp (N := ["lead", "found"]) (own := 1) (caps := [0]) rfl (piList K rfl (pv 3))
        (show BlkScope nRL (defScope sRedL) ["lead", "found"] 1 [0] _ from .mk' (by decide +kernel)) (fun _ _ _ _ _ => pg_name (i := 0) nl0 rfl (Or.inr rfl)) (fun _ _ _ _ _ => pts_nil)
        (fun _ _ _ _ _ => pe_cmpR op_eq (pe_callB (cLen K rfl) rfl T.len bt_len (pa_cons (pe_comp (N := ["row", "lead"]) (own := 1) (caps := [0]) rfl (piTup K rfl (pv 1))
          (show BlkScope ["lead", "found"] _ ["row", "lead"] 1 [0] _ from .mk' (by kernel_rfl)) (fun _ _ _ _ _ => pg_name (i := 0) nl1 rfl (Or.inl rfl))
          (fun _ _ _ _ _ => pts_one (pt_cmpR op_ne (pe_ix (ixT K rfl) (pv 0) (pv 1) (fun _ _ => rfl)) pe_int (nomark _))) (fun _ _ _ _ _ => pv 0)) pa_nil)) pe_int (nomark _))) pa_nil)))))), ?_⟩
    refine ⟨1, rfl, by decide, fun ll hl => ?_⟩
    refine ⟨_, rfl, a, rfl, ⟨_, (Same.upd hl).seqT hq⟩, for_tup (xs := RS) (fun i σ H' => Same H H' ∧ ∃ s4 s5, σ = [some (.ref a), some (.int (n : Int)), some (.int (aheadM ls i)), some (.ref ll), s4, s5] ∧ H' ll = some (.lst ((ls.take i).map fun (u : Nat) => V.int u))) ⟨.upd hl, _, _, rfl, upd_same⟩ (fun i σ H' _ h => h.1.seqT hq) ?_ ?_⟩
    · rintro i x σ H1 hx ⟨sm, s4, s5, rfl, gl⟩
      obtain ⟨r, ra, hri, rfl, hra⟩ := rowAt hA hx
      have hRr := hR r (List.mem_of_getElem? hri)
      obtain ⟨m, tl, hli, hpl, hln⟩ := EC.placesAt hR hri
      have hone := (EC.one i r m hri hli).1
      have hil : i < ls.length := (List.getElem?_eq_some_iff.mp hli).1
      have hlz : ls.length ≤ 1000 := by rw [EC.len]; exact hz
      have ex : (r.map V.int).length = r.length := List.length_map _
      have hrn : r.length = n := hRr.1
      refine ⟨_, rfl, (n : Int), rfl, by omega, by omega, comp_rng (n := n) (lo := 0) (cp := [some (.ref ra)]) (fun j H' zs => zs = ((List.range j).filter fun u => r.getD u 0 ≠ 0).map fun (u : Nat) => V.int u) (by omega) rfl
        (fun j H' zs e => by rw [e, List.length_map]; exact Nat.le_trans (List.length_filter_le _ _) (by rw [List.length_range]; exact Nat.le_refl _)) ?_ ?_⟩
      · rintro j H' zs hj sm' rfl
        rw [Int.zero_add]
        refine ⟨_, rfl, _, rfl, ra, _, (j : Int), _, rfl, rfl, (sm.trans sm').seqT hra, atI_nat (atRow (by omega)), rfl, _, rfl, iteNe (fun hne => ?_) (fun heq => ?_)⟩
        · have hne2 : r.getD j 0 ≠ 0 := fun z => hne (congrArg V.int z)
          refine ⟨_, rfl, ⟨[_], rfl, rfl⟩, sm', ?_⟩
          rw [List.range_succ, List.filter_append, List.filter_cons_of_pos (by simpa using hne2), List.filter_nil, List.map_append]; rfl
        · have heq2 : r.getD j 0 = 0 := V.int.inj heq
          refine ⟨⟨[_], rfl, rfl⟩, sm', ?_⟩
          rw [List.range_succ, List.filter_append, List.filter_cons_of_neg (by simpa using heq2), List.filter_nil, List.append_nil]
      rintro H5 zs sm5 ez lp hlp
      rw [← hrn] at ez
      have ez : zs = (placesM r).map fun (u : Nat) => V.int u := ez
      rw [hpl] at ez
      have sm6 : Same H1 (upd H5 lp (.lst zs)) := sm5.trans (.upd hlp)
      have g6 : (upd H5 lp (.lst zs)) lp = some (.lst zs) := upd_same
      generalize upd H5 lp (.lst zs) = H6 at sm6 g6 ⊢
      subst ez
      refine ⟨_, rfl, by decide, fun le hle => ?_⟩
      have sm7 := sm6.trans (Same.upd hle (o := .lst []))
      have g7 := Same.upd hle (o := .lst []) _ _ g6
      have ge : (upd H6 le (.lst [])) le = some (.lst []) := upd_same
      clear sm6 g6
      generalize upd H6 le (.lst []) = H7 at sm7 g7 ge ⊢
      have ep : (m :: tl).map (fun (u : Nat) => V.int u) = ((m :: tl).map fun (u : Nat) => (u : Int)).map V.int := by rw [List.map_map]; rfl
      refine ⟨.list (((m :: tl).map fun (u : Nat) => (u : Int)).map .int), .list [], .list (.of g7) (by rw [ep]; exact HasA.ints _), .list (.of ge) .nil, kqd_intsL _, kqd_intsL [], _, rfl, iteEqD' (by simp) ?_⟩
      refine ⟨_, rfl, _, rfl, lp, _, 0, .int (m : Int), rfl, rfl, .of g7, atI_nat (j := 0) rfl, ra, _, (m : Int), _, rfl, rfl, (sm.trans sm7).seqT hra, atI_nat (atRow (by omega)), rfl, _, rfl, iteNS (congrArg V.int hone) ?_⟩
      refine ⟨_, rfl, lp, _, 0, .int (m : Int), rfl, rfl, .of g7, atI_nat (j := 0) rfl, _, rfl, _, _, rfl, rfl, _, rfl, iteD (by have := ahead_lt EC.up hli; omega) ?_⟩
      refine ⟨_, rfl, lp, _, 0, .int (m : Int), rfl, rfl, .of g7, atI_nat (j := 0) rfl, ?_⟩
      have gl7 := sm7 _ _ gl
      refine ⟨_, rfl, .inl ⟨rfl, _, SqL.of gl7⟩, _, rfl, ll, _, _, rfl, rfl, gl7, ?_, ?_⟩
      · rw [List.length_map]
        exact small1000 (by rw [List.length_take]; omega)
      · refine ⟨(sm.trans sm7).write hl, _, _, by rw [ahead_succ hli]; rfl, ?_⟩
        rw [upd_same, List.take_add_one, hli, List.map_append]; rfl
    · rintro σ H1 ⟨sm, s4, s5, rfl, gl⟩
      have e1 : RS.length = ls.length := by rw [lenA hA, EC.len]
      rw [e1, List.take_length] at gl
      have hlz : ls.length ≤ 1000 := by rw [EC.len]; exact hz
      refine ⟨_, rfl, ll, rfl, ⟨_, .of gl⟩, comp_list (xs := ls.map fun (u : Nat) => V.int u) (cp := [some (.ref a)]) (fun i H' zs => zs = (List.replicate i true).map V.bl) (.of gl) (by rw [List.length_map]; omega) rfl (fun i H' zs e => by rw [e]; simp) ?_ ?_⟩
      · rintro i x H2 zs hx sm2 rfl
        rw [List.getElem?_map] at hx
        cases hli : ls[i]? with
        | none => rw [hli] at hx; cases hx
        | some m =>
          rw [hli] at hx
          cases hx
          have hil : i < rs.length := by rw [← EC.len]; exact (List.getElem?_eq_some_iff.mp hli).1
          have hri : rs[i]? = some (rs[i]) := List.getElem?_eq_getElem hil
          have hln := EC.lt _ (List.mem_of_getElem? hli)
          have hone := EC.lone hri hli
          have smS := sm.trans sm2
          refine tgo ⟨_, rfl, a, rfl, ⟨_, smS.seqT hq⟩, comp_tup (cp := [some (.int (m : Int))]) (fun j H' zs => HasA K H' zs (((rs.take j).filter fun r => r.getD m 0 ≠ 0).map intsT)) (smS.seqT hq) (by rw [lenA hA]; omega) .nil
            (fun j H' zs h => by rw [lenA h]; exact Nat.le_trans (List.length_filter_le _ _) (by rw [List.length_take]; omega)) ?_ ?_⟩
          · rintro j x H' zs hx' sm' h
            obtain ⟨r, ra, hrj, rfl, hra⟩ := rowAt hA hx'
            have hmr : m < r.length := by rw [(hR r (List.mem_of_getElem? hrj)).1]; exact hln
            refine ⟨_, rfl, _, rfl, ra, _, (m : Int), _, rfl, rfl, (smS.trans sm').seqT hra, atI_nat (atRow hmr), rfl, _, rfl, iteNe (fun hne => ?_) (fun heq => ?_)⟩
            · have hne2 : r.getD m 0 ≠ 0 := fun z => hne (congrArg V.int z)
              refine ⟨_, rfl, ⟨[_], rfl, rfl⟩, sm', ?_⟩
              rw [List.take_add_one, hrj]
              show HasA K H' _ (((rs.take j ++ [r]).filter _).map intsT)
              rw [List.filter_append, List.filter_cons_of_pos (by simpa using hne2), List.filter_nil, List.map_append]
              exact h.append (.cons (hasT_of ((smS.trans sm').seqT hra)) .nil)
            · have heq2 : r.getD m 0 = 0 := V.int.inj heq
              refine ⟨⟨[_], rfl, rfl⟩, sm', ?_⟩
              rw [List.take_add_one, hrj]
              show HasA K H' _ (((rs.take j ++ [r]).filter _).map intsT)
              rw [List.filter_append, List.filter_cons_of_neg (by simpa using heq2), List.filter_nil, List.append_nil]
              exact h
          · rintro H3 zs sm3 h3 lc hlc
            rw [lenA hA, List.take_length] at h3
            refine ⟨lc, zs, rfl, .inl (.of upd_same), rfl, ⟨[_], rfl, rfl⟩, (sm2.trans sm3).trans (.upd hlc), ?_⟩
            have e : (zs.length : Int) = 1 := by rw [lenA h3, hone]; rfl
            rw [decide_eq_true (congrArg V.int e), List.replicate_succ', List.map_append]; rfl
      · rintro H2 zs sm2 rfl lb hlb
        refine ⟨lb, _, rfl, .of upd_same, ?_⟩
        have e : (List.replicate (ls.map fun (u : Nat) => V.int u).length true).all id = true := by simp
        rw [e]
        exact k _ ((sm.trans sm2).trans (.upd hlb))
/-! ### _law_rows -/
abbrev nQ : List Str := ["p", "cell", "many", "length", "k", "rows", "base", "some"]
theorem scQ : FnScope ["p", "cell", "many", "length", "k", "rows", "base", "some"] ["p", "cell", "many", "length"] (defScope sRows) := ⟨rfl, rfl, rfl, by decide +kernel, rfl, by decide +kernel, by decide +kernel⟩
def JQ (K : PySem.W.Frag) (p c m n : Int) (H : Hp) : St → Hp → Prop := fun σ H' => Same H H' ∧ ∃ lr s4 s6 s7 XS rs, σ = [some (.int p), some (.int c), some (.int m), some (.int n), s4, some (.ref lr), s6, s7] ∧ H lr = none ∧ H' lr = some (.lst XS) ∧ HasA K H' XS (List.map intsT rs) ∧ rs.length = m.toNat ∧ Rws p n.toNat rs
theorem ok_rows {f fU fR : Addr} {fd fdU fdR : FuncData} (F : Fun K "_law_rows" "_law_rows" sRows f fd) (T : Txt mg) (FU : Fun K "_law_spun" "_law_spun" sSpun fU fdU) (bU : Binds K fdU ["cell", "k"] []) (mU : mg "_law_spun" = some (.ref fU))
    (FR : Fun K "_law_row" "_law_row" sRow fR fdR) (bR : Binds K fdR ["p", "cell", "k", "length"] []) (mR : mg "_law_row" = some (.ref fR)) :
    FnOk P w K mg base CX0 3 f fd ["p", "cell", "many", "length"] (spDigits K) := by
  have GU : FnOk P w K mg base CX0 1 fU fdU ["cell", "k"] spSpun := ok_spun FU
  have GR : FnOk P w K mg base CX0 2 fR fdR ["p", "cell", "k", "length"] (spRow K) := ok_row FR T FU bU mU
  refine F.ok scQ (fun vs H Q E h => ?_) (fun cdv A outer s H vs Q E hr h => ?_)
  · obtain ⟨p, c, m, n, rfl, _⟩ := h
    rfl
  · obtain ⟨p, c, m, n, rfl, p2, p97, m0, m1, n0, n1, q⟩ := h
    have hr1 : Room 1 _ := hr.mono (by decide)
    have z1000 : (1000 : Nat) ≤ sizeLine := by decide
    refine ⟨_, pss_cons (ps_setComp (i := 5) (N := ["k", "cell", "length", "p"]) (own := 1) (caps := [1, 3, 0]) rfl scQ.nd rfl rfl (pi_range1 rfl T.range (pa_cons (pv 2) pa_nil))
        (show BlkScope nQ (defScope sRows) ["k", "cell", "length", "p"] 1 [1, 3, 0] _ from .mk' (by decide +kernel)) (fun _ _ _ _ _ => pg_name (i := 0) nq1 rfl (Or.inl rfl)) (fun _ _ _ _ _ => pts_nil)
        (fun _ _ _ _ _ => pe_call GR hr rfl mR FR.kp bR .nil pass0 (pa_cons (pv 3) (pa_cons (pv 1) (pa_cons (pv 0) (pa_cons (pv 2) pa_nil))))))
      (pss_cons (ps_if (pt_cmpR op_eq (pe_op op_mod (pe_call GU hr1 rfl mU FU.kp bU .nil pass0 (pa_cons (pv 1) (pa_cons pe_int pa_nil))) pe_int) pe_int (nomark _))
        (pss_cons (ps_set (i := 6) scQ.nd rfl (Or.inr rfl) (pe_slice (slL K rfl) (pv 5) po_none (po_some (pe_op op_add pe_int (pe_op op_mod (pe_call GU hr1 rfl mU FU.kp bU .nil pass0 (pa_cons (pv 1) (pa_cons pe_int pa_nil))) pe_int)))))
        (pss_one (ps_for PassesOwn.never rfl (pi_range2 rfl T.range (pa_cons (pe_callB (cLen K rfl) rfl T.len bt_len (pa_cons (pv 6) pa_nil)) (pa_cons (pv 2) pa_nil))) (pg_name (i := 4) scQ.nd rfl (Or.inr rfl))
          (pss_cons (ps_set (i := 7) scQ.nd rfl (Or.inr rfl) (pe_comp (N := ["j", "cell", "k", "p"]) (own := 1) (caps := [1, 4, 0]) rfl (pi_range1 rfl T.range (pa_cons (pe_callB (cLen K rfl) rfl T.len bt_len (pa_cons (pv 6) pa_nil)) pa_nil))
            (show BlkScope nQ (defScope sRows) ["j", "cell", "k", "p"] 1 [1, 4, 0] _ from .mk' (by decide +kernel)) (fun _ _ _ _ _ => pg_name (i := 0) nq2 rfl (Or.inl rfl)) (fun _ _ _ _ _ => pts_nil)
            (fun _ _ _ _ _ => pe_op op_mod (pe_call GU hr1 rfl mU FU.kp bU .nil pass0 (pa_cons (pv 1) (pa_cons (pe_op op_add (pe_op op_add pe_int (pe_op op_mul pe_int (pv 2))) (pv 0)) pa_nil))) (pv 3))))
          (pss_one (ps_asg (pe_callTy (cTuple K rfl) rfl T.tuple bt_tuple (pa_cons (pe_comp (N := ["j", "base", "p", "some"]) (own := 1) (caps := [6, 0, 7]) rfl (pi_range1 rfl T.range (pa_cons (pv 3) pa_nil))
            (show BlkScope nQ (defScope sRows) ["j", "base", "p", "some"] 1 [6, 0, 7] _ from .mk' (by decide +kernel)) (fun _ _ _ _ _ => pg_name (i := 0) nq3 rfl (Or.inr rfl)) (fun _ _ _ _ _ => pts_nil)
            (fun _ _ _ _ _ => pe_op op_mod (pe_callB (cSum K rfl rfl) rfl T.sum bt_sum (pa_cons (pe_comp (N := ["row", "f", "j"]) (own := 2) (caps := [0]) rfl (piZip K rfl true true rfl T.zip (pa_cons (pv 1) (pa_cons (pv 3) pa_nil)))
              (show BlkScope ["j", "base", "p", "some"] _ ["row", "f", "j"] 2 [0] _ from .mk' (by kernel_rfl))
              (fun _ _ _ _ _ => pgTup (n := 2) K rfl rfl (pgs_cons (pg_name (i := 0) nq4 rfl (Or.inl rfl)) (pgs_cons (pg_name (i := 1) nq4 rfl (Or.inl rfl)) pgs_nil))) (fun _ _ _ _ _ => pts_nil)
              (fun _ _ _ _ _ => pe_op op_mul (pe_ix (ixT K rfl) (pv 0) (pv 2) (fun _ _ => rfl)) (pv 1))) pa_nil)) (pv 2))) pa_nil)) (pg_sub (pv 5) (pv 4) set_list)))))))
        pss_nil)
      (pss_one (ps_ret (pv 5)))), ?_⟩
    refine ⟨_, rfl, m, rfl, by omega, by omega, comp_rng (n := m.toNat) (lo := 0) (cp := [some (.int c), some (.int n), some (.int p)]) (fun i H' zs => ∃ rs : List (List Int), HasA K H' zs (rs.map intsT) ∧ rs.length = i ∧ Rws p n.toNat rs) (by omega) ⟨[], .nil, rfl, fun r hr => (nomatch hr)⟩ (fun i H' zs h => by obtain ⟨rs, h1, h2, _⟩ := h; rw [lenA h1, h2]; exact Nat.le_refl _) ?_ ?_⟩
    · rintro i H1 zs hi sm ⟨rs, h1, h2, h3⟩
      refine tgo ⟨_, rfl, _, rfl, _, rfl, _, rfl, p, c, 0 + (i : Int), n, rfl, p2, p97, by omega, by omega, n0, n1, fun a r H2 s2 hR hg => ?_⟩
      refine ⟨⟨[_], rfl, rfl⟩, sm.trans s2, rs ++ [r], ?_, by rw [List.length_append, h2]; rfl, Rws.snoc h3 hR⟩
      rw [List.map_append]
      exact (h1.mono s2).append (.cons (hasT_of hg) .nil)
    rintro H1 XS sm1 ⟨rs, hA1, hl1, hR1⟩ lr hlr
    have j0 : JQ K p c m n H [some (.int p), some (.int c), some (.int m), some (.int n), none, some (.ref lr), none, none] (upd H1 lr (.lst XS)) :=
      ⟨sm1.trans (.upd hlr), lr, _, _, _, XS, rs, rfl, none_of sm1 hlr, upd_same, hA1.mono (.upd hlr), hl1, hR1⟩
    dsimp only [gName]
    refine seq_by (JQ K p c m n H) (fun N hN => ?_) (fun σ2 H2 hJ2 => ?_)
    · have g1 : (upd H1 lr (.lst XS)) lr = some (.lst XS) := upd_same
      have hA2 := hA1.mono (Same.upd hlr (o := .lst XS))
      have smH : Same H (upd H1 lr (.lst XS)) := sm1.trans (.upd hlr)
      have hlrH := none_of sm1 hlr
      clear hA1 hlr sm1
      generalize upd H1 lr (.lst XS) = H1 at j0 g1 hA2 smH ⊢
      refine ⟨_, rfl, c, 5, rfl, by decide, by decide, _, _, rfl, rfl, (by show (0 : Int) < 3; decide), rfl, _, rfl, ite2 (fun _ => ?_) (fun _ => hN _ _ j0)⟩
      refine ⟨_, rfl, _, rfl, c, 6, rfl, by decide, by decide, _, _, rfl, rfl, (by show (0 : Int) < 3; decide), _, _, rfl, rfl, _, rfl, lr, XS, rfl, .of g1, fun lb hlb => ?_⟩
      obtain ⟨bs, hBs, hBR, hBl⟩ : ∃ bs : List (List Int), HasA K H1 (cutV XS none (some (1 + spunM c 6 % 3))) (bs.map intsT) ∧ Rws p n.toNat bs ∧ bs.length ≤ 1000 := by
        refine ⟨(rs.drop (HT.sIx XS.length 0 none)).take (HT.sIx XS.length XS.length (some (1 + spunM c 6 % 3)) - HT.sIx XS.length 0 none), ?_, fun r hr => hR1 r (List.mem_of_mem_drop (List.mem_of_mem_take hr)), ?_⟩
        · rw [List.map_take, List.map_drop]
          exact HasA.take _ (HasA.drop _ hA2)
        · exact Nat.le_trans (List.length_take_le' _ _) (by rw [List.length_drop]; omega)
      have eB := lenA hBs
      dsimp only
      generalize cutV XS none (some (1 + spunM c 6 % 3)) = BS at hBs eB ⊢
      have smb : Same H1 (upd H1 lb (.lst BS)) := .upd hlb
      have gb : (upd H1 lb (.lst BS)) lb = some (.lst BS) := upd_same
      have neb : lb ≠ lr := fun z => by rw [z, g1] at hlb; cases hlb
      generalize upd H1 lb (.lst BS) = Hb at smb gb ⊢
      refine ⟨_, rfl, lb, _, rfl, .inl (.of gb), _, rfl, (BS.length : Int), m, rfl, ⟨by omega, by omega, by omega, by omega⟩, for_range (lo := (BS.length : Int)) (n := (m - (BS.length : Int)).toNat) (fun i σ H' => Same H H' ∧ H' lb = some (.lst BS) ∧ HasA K H' BS (bs.map intsT) ∧ ∃ s4 s7 XS rs, σ = [some (.int p), some (.int c), some (.int m), some (.int n), s4, some (.ref lr), some (.ref lb), s7] ∧ H' lr = some (.lst XS) ∧ HasA K H' XS (List.map intsT rs) ∧ rs.length = m.toNat ∧ Rws p n.toNat rs)
        ⟨smH.trans smb, gb, hBs.mono smb, _, _, XS, rs, rfl, smb _ _ g1, hA2.mono smb, hl1, hR1⟩ ?_ ?_⟩
      · rintro i σ H3 hi ⟨sm3, gb3, hB3, s4, s7, XS3, rs3, rfl, g3, hA3, hl3, hR3⟩
        refine ⟨_, rfl, lb, _, rfl, .inl (.of gb3), (BS.length : Int), rfl, by omega, by omega, comp_rng (n := BS.length) (lo := 0) (cp := [some (.int c), some (.int ((BS.length : Int) + (i : Int))), some (.int p)]) (fun j H' zs => ∃ fs : List Int, zs = fs.map V.int ∧ fs.length = j) (by omega) ⟨[], rfl, rfl⟩ (fun j H' zs h => by obtain ⟨fs, rfl, h⟩ := h; rw [List.length_map, h]; exact Nat.le_refl _) ?_ ?_⟩
        · rintro j H' zs hj sm' ⟨fs, rfl, hf⟩
          refine tgo ⟨_, rfl, _, rfl, _, _, rfl, rfl, .inl ⟨by decide, by decide⟩, _, _, rfl, rfl, _, rfl, _, _, rfl, rfl, c, 900 + 5 * ((BS.length : Int) + (i : Int)) + (0 + (j : Int)), rfl, by omega, by omega, _, rfl, _, _, rfl, rfl, (by show (0 : Int) < p; omega), ?_⟩
          exact ⟨⟨[_], rfl, rfl⟩, sm', fs ++ [_], by rw [List.map_append]; rfl, by rw [List.length_append, hf]; rfl⟩
        rintro H4 zs sm4 ⟨fs, rfl, hf⟩ ls hls
        have sm5 : Same H3 (upd H4 ls (.lst (fs.map V.int))) := sm4.trans (.upd hls)
        have g5 : (upd H4 ls (.lst (fs.map V.int))) ls = some (.lst (fs.map V.int)) := upd_same
        generalize upd H4 ls (.lst (fs.map V.int)) = H5 at sm5 g5 ⊢
        refine ⟨_, rfl, n, rfl, by omega, by omega, comp_rng (n := n.toNat) (lo := 0) (cp := [some (.ref lb), some (.int p), some (.ref ls)]) (fun j H' zs => zs = ((List.range j).map fun u => lsum bs fs u % p).map V.int) (by omega) rfl (fun j H' zs e => by rw [e, List.length_map, List.length_map, List.length_range]; exact Nat.le_refl _) ?_ ?_⟩
        · rintro j H6 zs hj sm6 rfl
          rw [Int.zero_add]
          have hqb : SqL K H6 lb BS := .of ((sm5.trans sm6) _ _ gb3)
          have hqf : SqL K H6 ls (fs.map V.int) := .of (sm6 _ _ g5)
          refine tgo ⟨_, rfl, _, rfl, lb, ls, rfl, ⟨_, hqb⟩, ⟨_, hqf⟩, comp_zip (b1 := true) (b2 := true) (xs := BS) (ys := fs.map V.int) (cp := [some (.int (j : Int))]) (fun i H' zs => zs = ((List.zipWith (fun r f => r.getD j 0 * f) bs fs).take i).map V.int) hqb hqf (by rw [List.length_map, hf]) (by omega) rfl
            (fun i H' zs e => by rw [e, List.length_map, List.length_take]; omega) (fun i H1 H2 zs _ e => e) ?_ ?_⟩
          · rintro i x y H7 zs hx hy sm7 rfl
            obtain ⟨r, ra, hri, rfl, hra⟩ := rowAt hB3 hx
            rw [List.getElem?_map] at hy
            cases e2 : fs[i]? with
            | none => rw [e2] at hy; cases hy
            | some fc =>
              rw [e2] at hy
              cases hy
              have hRr := hBR r (List.mem_of_getElem? hri)
              have hjr : j < r.length := by rw [hRr.1]; exact hj
              have hb := hRr.at (by omega) j
              refine tgo ⟨_, rfl, _, rfl, ra, _, (j : Int), _, rfl, rfl, ((sm5.trans sm6).trans sm7).seqT hra, atI_nat (atRow hjr), _, rfl, _, _, rfl, rfl, .inl ⟨by omega, by omega⟩, ⟨[_, _], rfl, rfl⟩, sm7, ?_⟩
              rw [List.take_add_one, List.getElem?_zipWith, hri, e2]
              simp
          · rintro H7 zs sm7 rfl lq hlq
            refine ⟨lq, _, rfl, .of upd_same, _, rfl, _, _, rfl, rfl, (by show (0 : Int) < p; omega), ⟨[_], rfl, rfl⟩, (sm6.trans sm7).trans (.upd hlq), ?_⟩
            rw [List.range_succ, List.map_append, List.map_append, List.take_of_length_le (by rw [List.length_zipWith]; omega)]
            rfl
        rintro H6 zs sm6 rfl lq hlq
        refine ⟨lq, _, rfl, .inl ⟨.of upd_same, fun t ht => ?_⟩⟩
        have sm7 : Same H3 (upd (upd H6 lq (.lst (((List.range n.toNat).map fun u => lsum bs fs u % p).map V.int))) t (.tup (((List.range n.toNat).map fun u => lsum bs fs u % p).map V.int))) := (sm5.trans sm6).trans ((Same.upd hlq).trans (.upd ht))
        have ht7 : SqT K (upd (upd H6 lq (.lst (((List.range n.toNat).map fun u => lsum bs fs u % p).map V.int))) t (.tup (((List.range n.toNat).map fun u => lsum bs fs u % p).map V.int))) t ((sumL p bs fs n.toNat).map V.int) := .of upd_same
        generalize upd (upd H6 lq (.lst (((List.range n.toNat).map fun u => lsum bs fs u % p).map V.int))) t (.tup (((List.range n.toNat).map fun u => lsum bs fs u % p).map V.int)) = H7 at sm7 ht7 ⊢
        refine ⟨_, rfl, _, rfl, lr, XS3, (BS.length : Int) + (i : Int), BS.length + i, rfl, rfl, sm7 _ _ g3, ?_, ?_⟩
        · unfold ixN
          rw [if_pos (by omega), if_pos (by rw [lenA hA3, hl3]; omega)]
          exact congrArg some (by omega)
        refine ⟨(sm3.trans sm7).write hlrH, by rw [upd_ne neb]; exact sm7 _ _ gb3, HasA.wr (sm7 _ _ g3) (hB3.mono sm7), _, _, XS3.set (BS.length + i) (.ref t), rs3.set (BS.length + i) (sumL p bs fs n.toNat), rfl, upd_same, HasA.wr (sm7 _ _ g3) ?_, by rw [List.length_set]; exact hl3, fun r hr => ?_⟩
        · rw [List.map_set]
          exact HasA.setAt (hasT_of ht7) _ (hA3.mono sm7)
        · rcases List.mem_or_eq_of_mem_set hr with h | rfl
          · exact hR3 r h
          · exact sumL_Rw (by omega)
      · rintro σ H3 ⟨sm3, gb3, hB3, s4, s7, XS3, rs3, rfl, g3, hA3, hl3, hR3⟩
        exact hN _ _ ⟨sm3, lr, _, _, _, XS3, rs3, rfl, hlrH, g3, hA3, hl3, hR3⟩
    obtain ⟨sm, lr, s4, s6, s7, XS, rs, rfl, hlrH, g, hA, hl, hR⟩ := hJ2
    exact ⟨_, rfl, q lr XS rs H2 sm g hA hl hR⟩
end
end K04
namespace K04
open PySem L2 Bw
set_option maxHeartbeats 3900000
section
variable {P : Program} {w : World} {K : PySem.W.Frag} {mg : Str → Option Value} {base : Heap}
/-! ### _law_asked -/
def spAsked (K : PySem.W.Frag) : Sp := fun vs H Q _ => ∃ (p n : Int) (a : Addr) (XS : List V) (rs : List (List Int)), vs = [.int p, .ref a, .int n] ∧ p ∈ primesL ∧ 0 ≤ n ∧ n ≤ 900 ∧ H a = some (.lst XS) ∧ HasA K H XS (rs.map intsT) ∧ rs.length ≤ 900 ∧ Rws p n.toNat rs ∧ ∀ H', Same H H' → Q (.bl true) H'
abbrev nAs : List Str := ["p", "rows", "length", "handed", "found", "row", "one"]
theorem scAs : FnScope ["p", "rows", "length", "handed", "found", "row", "one"] ["p", "rows", "length"] (defScope sAsked) := ⟨rfl, rfl, rfl, by decide +kernel, rfl, by decide +kernel, by decide +kernel⟩
theorem ok_asked {f fB fN fS fR : Addr} {fd fdB fdN fdS fdR : FuncData} (F : Fun K "_law_asked" "_law_asked" sAsked f fd) (T : Txt mg)
    (GB : FnOk P w K mg base CX0 4 fB fdB ["p", "rows", "length"] (spBarred K)) (kB : PySem.W.keepIn K (.ref fB) = true) (bB : Binds K fdB ["p", "rows", "length"] []) (mB : mg "barred" = some (.ref fB))
    (GN : FnOk P w K mg base CX0 1 fN fdN ["p", "found", "length"] (spNumbers K)) (kN : PySem.W.keepIn K (.ref fN) = true) (bN : Binds K fdN ["p", "found", "length"] []) (mN : mg "_law_numbers" = some (.ref fN))
    (GS : FnOk P w K mg base CX0 1 fS fdS ["found", "length"] (spRedL K)) (kS : PySem.W.keepIn K (.ref fS) = true) (bS : Binds K fdS ["found", "length"] []) (mS : mg "_law_reduced" = some (.ref fS))
    (GR : FnOk P w K mg base CX0 1 fR fdR ["p", "rows"] (spRank K)) (kR : PySem.W.keepIn K (.ref fR) = true) (bR : Binds K fdR ["p", "rows"] []) (mR : mg "_law_rank" = some (.ref fR)) :
    FnOk P w K mg base CX0 5 f fd ["p", "rows", "length"] (spAsked K) := by
  refine F.ok scAs (fun vs H Q E h => ?_) (fun cdv A outer s H vs Q E hr h => ?_)
  · obtain ⟨p, n, a, XS, rs, rfl, _⟩ := h
    rfl
  · obtain ⟨p, n, a, XS, rs, rfl, pp, n0, n1, g, hA, hz, hR, k⟩ := h
    obtain ⟨p2, p97⟩ := prime_pos p pp
    have p0 : 0 < p := by omega
    have hr1 : Room 1 _ := hr.mono (by decide)
    have z1000 : (1000 : Nat) ≤ sizeLine := by decide
    have hu := hr.units
    refine ⟨_, pss_cons (ps_set (i := 3) scAs.nd rfl (Or.inl rfl) (pe_callTy (cList K rfl) rfl T.list bt_list (pa_cons (pv 1) pa_nil)))
      (pss_cons (ps_set (i := 4) scAs.nd rfl (Or.inl rfl) (pe_call GB hr rfl mB kB bB .nil pass0 (pa_cons (pv 0) (pa_cons (pv 3) (pa_cons (pv 2) pa_nil)))))
      (pss_cons (ps_if (PW.pt (pw_or (pt_not (pt_val (pe_call GN hr1 rfl mN kN bN .nil pass0 (pa_cons (pv 0) (pa_cons (pv 4) (pa_cons (pv 2) pa_nil)))))) (pw_or (pt_not (pt_val (pe_call GS hr1 rfl mS kS bS .nil pass0 (pa_cons (pv 4) (pa_cons (pv 2) pa_nil)))))
        (pw_or1 (pt_cmpR (opNeD K rfl hu) (pv 3) (pv 1) (nomark _)))))) (pss_one (ps_ret pe_bl)) pss_nil)
      (pss_cons (ps_for PassesOwn.never rfl (piTup K rfl (pv 4)) (pg_name (i := 5) scAs.nd rfl (Or.inl rfl))
        (pss_one (ps_for PassesOwn.never rfl (piList K rfl (pv 1)) (pg_name (i := 6) scAs.nd rfl (Or.inl rfl))
          (pss_one (ps_if (pt_cmpR op_ne (pe_op op_mod (pe_callB (cSum K rfl rfl) rfl T.sum bt_sum (pa_cons (pe_comp (N := ["a", "b"]) (own := 2) (caps := []) rfl (piZip K rfl false false rfl T.zip (pa_cons (pv 5) (pa_cons (pv 6) pa_nil)))
            (show BlkScope nAs (defScope sAsked) ["a", "b"] 2 [] _ from .mk' (by decide +kernel))
            (fun _ _ _ _ _ => pgTup (n := 2) K rfl rfl (pgs_cons (pg_name (i := 0) nz0 rfl (Or.inl rfl)) (pgs_cons (pg_name (i := 1) nz0 rfl (Or.inl rfl)) pgs_nil))) (fun _ _ _ _ _ => pts_nil)
            (fun _ _ _ _ _ => pe_op op_mul (pv 0) (pv 1))) pa_nil)) (pv 0)) pe_int (nomark _)) (pss_one (ps_ret pe_bl)) pss_nil)))))
      (pss_one (ps_ret (pe_and (pe_cmpR op_eq (pe_callB (cLen K rfl) rfl T.len bt_len (pa_cons (pv 4) pa_nil)) (pe_op op_sub (pv 2) (pe_call GR hr1 rfl mR kR bR .nil pass0 (pa_cons (pv 0) (pa_cons (pv 1) pa_nil)))) (nomark _))
        (pe_one (pe_cmpR (opEqD K rfl hu) (pe_call GB hr rfl mB kB bB .nil pass0 (pa_cons (pv 0) (pa_cons (pe_callTy (cTuple K rfl) rfl T.tuple bt_tuple (pa_cons (pv 1) pa_nil)) (pa_cons (pv 2) pa_nil)))) (pv 4) (nomark _))))))))), ?_⟩
    have BO := barM_ok pp hR
    obtain ⟨xs, EX⟩ := BO.ech
    have en : n = (n.toNat : Int) := by omega
    refine ⟨_, rfl, a, XS, rfl, .inl (.of g), fun lh hh => ?_⟩
    refine ⟨_, rfl, _, rfl, _, rfl, p, lh, true, XS, rs, n.toNat, n, rfl, en, pp, .of upd_same, hA.mono (.upd hh), hz, by omega, hR, fun t H2 DS sm2 ht hD => ?_⟩
    have hk := k
    generalize hDe : barM p n.toNat rs = D at BO EX hD
    have eD := lenA hD
    have hDl : D.length ≤ 900 := by have := BO.count; omega
    have smh : Same H H2 := (Same.upd hh).trans sm2
    have gh : H2 lh = some (.lst XS) := sm2 _ _ upd_same
    refine ⟨_, rfl, _, rfl, _, rfl, p, n, t, DS, D, rfl, n0, ht, hD, BO.rws, true, rfl, iteF ⟨_, rfl, _, rfl, p, t, DS, D, n.toNat, n, xs, rfl, en, by omega, ht, hD, BO.rws, EX, by omega, fun H3 s3 => ⟨true, rfl, iteF ?_⟩⟩⟩
    refine ⟨_, rfl, _, rfl, .list (rs.map intsT), .list (rs.map intsT), .list (.of (s3 _ _ gh)) (hA.mono (smh.trans s3)), .list (.of (smh.trans s3 _ _ g)) (hA.mono (smh.trans s3)), kqd_L _, kqd_L _, _, rfl, iteNeD rfl ?_⟩
    have sm3 := smh.trans s3
    have ht3 := s3.seqT ht
    have hD3 := hD.mono s3
    refine ⟨_, rfl, t, rfl, ⟨_, ht3⟩, for_tup (xs := DS) (fun i σ H' => Same H3 H' ∧ ∃ s5 s6, σ = [some (.int p), some (.ref a), some (.int n), some (.ref lh), some (.ref t), s5, s6]) ⟨.refl _, _, _, rfl⟩ (fun i σ H' _ h => h.1.seqT ht3) ?_ ?_⟩
    · rintro i x σ H4 hx ⟨sm4, s5, s6, rfl⟩
      obtain ⟨d, da, hdi, rfl, hda⟩ := rowAt hD3 hx
      have hRd := BO.rws d (List.mem_of_getElem? hdi)
      have g4 := (sm3.trans sm4) _ _ g
      refine ⟨_, rfl, a, rfl, ⟨_, .of g4⟩, for_list (xs := XS) (fun i σ H' => Same H4 H' ∧ ∃ s6, σ = [some (.int p), some (.ref a), some (.int n), some (.ref lh), some (.ref t), some (.ref da), s6]) ⟨.refl _, _, rfl⟩ (fun i σ H' _ h => .of (h.1 _ _ g4)) ?_ ?_⟩
      · rintro j y σ H5 hy ⟨sm5, s6, rfl⟩
        obtain ⟨r, ra, hrj, rfl, hra⟩ := rowAt hA hy
        have hRr := hR r (List.mem_of_getElem? hrj)
        have hd5 := (sm4.trans sm5).seqT hda
        have hr5 := (sm3.trans (sm4.trans sm5)).seqT hra
        have hdot := BO.dots d (List.mem_of_getElem? hdi) r (List.mem_of_getElem? hrj)
        rw [← pdot_eq hRd.1 hRr.1] at hdot
        refine ⟨_, rfl, _, rfl, da, ra, rfl, ⟨_, hd5⟩, ⟨_, hr5⟩, comp_zip (b1 := false) (b2 := false) (cp := []) (fun i H' zs => zs = ((List.zipWith (fun a b => a * b) d r).take i).map V.int) hd5 hr5 (by rw [List.length_map, List.length_map, hRd.1, hRr.1]) (by rw [List.length_map, hRd.1]; omega) rfl
          (fun i H' zs e => by subst e; rw [List.length_map]; exact List.length_take_le _ _) (fun i H1 H2 zs _ e => e) ?_ ?_⟩
        · rintro i x y H' zs hx hy sm' rfl
          rw [List.getElem?_map] at hx hy
          cases f1 : d[i]? with
          | none => rw [f1] at hx; cases hx
          | some x' =>
            cases f2 : r[i]? with
            | none => rw [f2] at hy; cases hy
            | some y' =>
              rw [f1] at hx
              rw [f2] at hy
              cases hx
              cases hy
              have hx' := hRd.2 x' (List.mem_of_getElem? f1)
              refine tgo ⟨_, rfl, _, rfl, _, _, rfl, rfl, .inl ⟨by omega, by omega⟩, ⟨[_, _], rfl, rfl⟩, sm', ?_⟩
              rw [List.take_add_one, List.getElem?_zipWith, f1, f2]
              simp
        · rintro H6 zs sm6 rfl lq hlq
          refine ⟨lq, _, rfl, .of upd_same, _, rfl, _, _, rfl, rfl, (by show (0 : Int) < p; omega), rfl, _, rfl, iteNS (congrArg V.int ?_) ?_⟩
          · rw [List.length_map, List.take_of_length_le (by rw [List.length_zipWith, hRd.1, hRr.1]; omega)]
            exact Int.emod_eq_zero_of_dvd hdot
          · exact ⟨(sm5.trans sm6).trans (.upd hlq), _, rfl⟩
      · rintro σ H5 ⟨sm5, s6, rfl⟩
        exact ⟨sm4.trans sm5, _, _, rfl⟩
    · rintro σ H4 ⟨sm4, s5, s6, rfl⟩
      have sm5 := sm3.trans sm4
      refine ⟨_, rfl, t, DS, rfl, .inr (sm4.seqT ht3), _, rfl, _, rfl, _, rfl, p, a, XS, rs, n.toNat, rfl, pp, by omega, .of (sm5 _ _ g), hA.mono sm5, hR, hz, fun H6 sm6 => ?_⟩
      refine ⟨_, _, rfl, rfl, rfl, _, rfl, ?_⟩
      have ec : (DS.length : Int) = n - ((redM p rs).length : Int) := by have := BO.count; rw [eD]; omega
      rw [decide_eq_true (congrArg V.int ec)]
      refine iteT ?_
      have sm7 := sm5.trans sm6
      refine ⟨_, rfl, _, rfl, a, XS, rfl, .inl ⟨.of (sm7 _ _ g), fun lt hlt => ⟨_, rfl, p, lt, false, XS, rs, n.toNat, n, rfl, en, pp, .of upd_same, hA.mono (sm7.trans (.upd hlt)), hz, by omega, hR, fun t8 H8 DS8 s8 ht8 hD8 => ?_⟩⟩⟩
      rw [hDe] at hD8
      have s38 : Same H3 H8 := (sm4.trans sm6).trans ((Same.upd hlt).trans s8)
      refine ⟨_, rfl, .tuple (D.map intsT), .tuple (D.map intsT), .tuple ht8 hD8, .tuple (s38.seqT ht3) (hD3.mono s38), kqd_T _, kqd_T _, ?_⟩
      rw [eqD_same rfl]
      exact hk _ (sm3.trans s38)
/-! ### the law -/
def spLaw (K : PySem.W.Frag) : Sp := fun vs H Q _ => ∃ (a : Addr) (ns : List Int), vs = [.ref a] ∧ SqL K H a (ns.map V.int) ∧ ns.length ≤ 63 ∧ ∀ H', Q (.bl true) H'
theorem scL : FnScope ["script", "k", "cell", "p", "rows", "length"] ["script"] (defScope sLaw) := ⟨rfl, rfl, rfl, by decide +kernel, rfl, by decide +kernel, by decide +kernel⟩
theorem ok_law {f fP fM fA : Addr} {fd fdP fdM fdA : FuncData} (F : Fun K "law" "law" sLaw f fd) (T : Txt mg)
    (FP : Fun K "_law_prime" "_law_prime" sPrime fP fdP) (bP : Binds K fdP ["cell"] []) (mP : mg "_law_prime" = some (.ref fP))
    (GM : FnOk P w K mg base CX0 4 fM fdM ["p", "cell", "k"] (spMade K)) (kM : PySem.W.keepIn K (.ref fM) = true) (bM : Binds K fdM ["p", "cell", "k"] []) (mM : mg "_law_made" = some (.ref fM))
    (GA : FnOk P w K mg base CX0 5 fA fdA ["p", "rows", "length"] (spAsked K)) (kA : PySem.W.keepIn K (.ref fA) = true) (bA : Binds K fdA ["p", "rows", "length"] []) (mA : mg "_law_asked" = some (.ref fA)) :
    FnOk P w K mg base CX0 6 f fd ["script"] (spLaw K) := by
  have GP : FnOk P w K mg base CX0 1 fP fdP ["cell"] spPrime := ok_prime FP
  refine F.ok scL (fun vs H Q E h => ?_) (fun cdv A outer s H vs Q E hr h => ?_)
  · obtain ⟨a, ns, rfl, _⟩ := h
    rfl
  · obtain ⟨a, ns, rfl, hS, hlen, k⟩ := h
    have hr1 : Room 1 _ := hr.mono (by decide)
    have hr4 : Room 4 _ := hr.mono (by decide)
    refine ⟨_, pss_cons (ps_for PassesOwn.never rfl (piEnum K rfl true rfl T.enumerate (pa_cons (pe_op op_cat (pe_slice (slL K rfl) (pv 0) po_none (po_some pe_int)) (pe_lst (pa_cons (pe_callB (cLen K rfl) rfl T.len bt_len (pa_cons (pv 0) pa_nil)) pa_nil))) pa_nil))
        (pgTup (n := 2) K rfl rfl (pgs_cons (pg_name (i := 1) scL.nd rfl (Or.inl rfl)) (pgs_cons (pg_name (i := 2) scL.nd rfl (Or.inl rfl)) pgs_nil)))
        (pss_cons (ps_set (i := 3) scL.nd rfl (Or.inl rfl) (pe_call GP hr1 rfl mP FP.kp bP .nil pass0 (pa_cons (pv 2) pa_nil)))
        (pss_cons (ps_asg (pe_call GM hr4 rfl mM kM bM .nil pass0 (pa_cons (pv 3) (pa_cons (pe_op op_fdiv (pv 2) pe_int) (pa_cons (pv 1) pa_nil)))) (pg_lst (n := 2) rfl (pgs_cons (pg_name (i := 4) scL.nd rfl (Or.inl rfl)) (pgs_cons (pg_name (i := 5) scL.nd rfl (Or.inl rfl)) pgs_nil))))
        (pss_one (ps_if (PW.pt (pw_or (pt_not (pt_val (pe_call GA hr rfl mA kA bA .nil pass0 (pa_cons (pv 3) (pa_cons (pv 4) (pa_cons (pv 5) pa_nil)))))) (pw_or1 (pt_not (pt_val (pe_call GA hr rfl mA kA bA .nil pass0 (pa_cons (pv 3) (pa_cons (pe_lst pa_nil) (pa_cons (pv 5) pa_nil))))))))) (pss_one (ps_ret pe_bl)) pss_nil)))))
      (pss_one (ps_ret pe_bl)), ?_⟩
    refine ⟨_, rfl, _, rfl, a, _, rfl, hS, fun l1 h1 => ⟨_, rfl, a, _, rfl, .inl ((Same.upd h1).seq hS), (by show 1 ≤ sizeLine; decide), fun l2 h2 => ⟨l1, l2, _, _, rfl, rfl, by rw [upd_ne (ne_of_none upd_same h2)]; exact upd_same, upd_same, ?_, fun l3 h3 => ?_⟩⟩⟩
    · have hc := cutV_length (ns.map V.int) none (some 63)
      rw [List.length_map] at hc
      have : (1000 : Nat) ≤ sizeLine := by decide
      show (cutV (ns.map V.int) none (some 63)).length + 1 ≤ sizeLine
      omega
    obtain ⟨ms, hms⟩ : ∃ ms : List Int, cutV (ns.map V.int) none (some 63) = ms.map V.int := ⟨_, by unfold cutV; rw [← List.map_drop, ← List.map_take]⟩
    rw [hms]
    have g3 : (upd (upd (upd H l1 (.lst (ms.map V.int))) l2 (.lst [.int (ns.map V.int).length])) l3 (.lst (ms.map V.int ++ [.int (ns.map V.int).length]))) l3 = some (.lst ((ms ++ [((ns.map V.int).length : Int)]).map V.int)) := by
      rw [upd_same, List.map_append]; rfl
    generalize upd (upd (upd H l1 (.lst (ms.map V.int))) l2 (.lst [.int (ns.map V.int).length])) l3 (.lst (ms.map V.int ++ [.int (ns.map V.int).length])) = H3 at g3 ⊢
    generalize ms ++ [((ns.map V.int).length : Int)] = cs at g3
    refine ⟨l3, rfl, ⟨_, .of g3⟩, for_enum (b := true) (xs := cs.map V.int) (fun i σ H' => Same H3 H' ∧ ∃ s1 s2 s3 s4 s5, σ = [some (.ref a), s1, s2, s3, s4, s5]) ⟨.refl _, _, _, _, _, _, rfl⟩ (fun i σ H' ⟨sm, _⟩ => .of (sm _ _ g3)) (fun i σ H1 H2 s12 ⟨sm, h⟩ => ⟨sm.trans s12, h⟩) ?_ ?_⟩
    · rintro i x σ H' hx ⟨sm, s1, s2, s3, s4, s5, rfl⟩
      rw [List.getElem?_map] at hx
      cases e : cs[i]? with
      | none => rw [e] at hx; cases hx
      | some c =>
        rw [e] at hx
        cases hx
        refine ⟨_, rfl, c, rfl, fun p H4 hp sm4 => ?_⟩
        obtain ⟨p2, p97⟩ := prime_pos p hp
        refine ⟨_, rfl, _, rfl, _, _, rfl, rfl, ⟨by decide, by decide⟩, _, rfl, p, c / 32, (i : Int), rfl, p2, p97, fun l ra n XS rs H5 sm5 gl n0 n1 gr hA hz hR => ?_⟩
        refine ⟨l, [.ref ra, .int n], rfl, .of gl, rfl, .ref ra, [.int n], rfl, .int n, [], rfl, rfl, ?_⟩
        refine ⟨_, rfl, _, rfl, _, rfl, p, n, ra, XS, rs, rfl, hp, n0, n1, gr, hA, hz, hR, fun H6 sm6 => ⟨true, rfl, iteF ?_⟩⟩
        refine ⟨_, rfl, by decide, fun le hle => ⟨_, rfl, p, n, le, [], [], rfl, hp, n0, n1, upd_same, .nil, Nat.zero_le _, fun r hr => (nomatch hr), fun H7 sm7 => ⟨true, rfl, iteF ?_⟩⟩⟩
        exact ⟨((sm.trans sm4).trans sm5).trans (sm6.trans ((Same.upd hle).trans sm7)), _, _, _, _, _, rfl⟩
    · rintro σ H' _
      exact k H'
end
end K04
namespace K04
open PySem L2 Bw
theorem all_mk {l : PySem.W.OpenLaw} {w : World} {K : PySem.W.Frag} {h : Heap} {mg : Str → Option Value} {fa f1 f2 f3 f4 f5 f6 f7 f8 f9 f10 f11 f12 f13 f14 f15 f16 f17 f18 f19 f20 : Addr} (X : K.In h) (G : h.Ns mainGlobals mg) (hfa : mg "law" = some (.ref fa))
    {od1 an1 od2 an2 od3 an3 od4 an4 od5 an5 od6 an6 od7 an7 od8 an8 od9 an9 od10 an10 od11 an11 od12 an12 od13 an13 od14 an14 od15 an15 od16 an16 od17 an17 od18 an18 od19 an19 od20 an20 : Option Addr} {sl1 sl2 sl3 sl4 sl5 sl6 sl7 sl8 sl9 sl10 sl11 sl12 sl13 sl14 sl15 sl16 sl17 sl18 sl19 sl20 : Array (Option Value)} {oc1 kV1 dc1 pm1 cd1 ct1 oc2 kV2 dc2 pm2 cd2 ct2 oc3 kV3 dc3 pm3 cd3 ct3 oc4 kV4 dc4 pm4 cd4 ct4 oc5 kV5 dc5 pm5 cd5 ct5 oc6 kV6 dc6 pm6 cd6 ct6 oc7 kV7 dc7 pm7 cd7 ct7 oc8 kV8 dc8 pm8 cd8 ct8 oc9 kV9 dc9 pm9 cd9 ct9 oc10 kV10 dc10 pm10 cd10 ct10 oc11 kV11 dc11 pm11 cd11 ct11 oc12 kV12 dc12 pm12 cd12 ct12 oc13 kV13 dc13 pm13 cd13 ct13 oc14 kV14 dc14 pm14 cd14 ct14 oc15 kV15 dc15 pm15 cd15 ct15 oc16 kV16 dc16 pm16 cd16 ct16 oc17 kV17 dc17 pm17 cd17 ct17 oc18 kV18 dc18 pm18 cd18 ct18 oc19 kV19 dc19 pm19 cd19 ct19 oc20 kV20 dc20 pm20 cd20 ct20 : Value}
    (a1 : PySem.W.nsIn K mainGlobals "turned" = some (some (.ref f1))) (l1 : K.lookup f1 = some ⟨oc1, od1, .func (PySem.W.fnOf "turned" "turned" (defArgs sTurned) (defBody sTurned) (defScope sTurned) .none kV1 dc1 pm1 an1 cd1 ct1), sl1⟩) (c1 : PySem.W.codeIn K cd1 "turned" = true) (k1 : PySem.W.keepIn K (.ref f1) = true)
    (a2 : PySem.W.nsIn K mainGlobals "added" = some (some (.ref f2))) (l2 : K.lookup f2 = some ⟨oc2, od2, .func (PySem.W.fnOf "added" "added" (defArgs sAdded) (defBody sAdded) (defScope sAdded) .none kV2 dc2 pm2 an2 cd2 ct2), sl2⟩) (c2 : PySem.W.codeIn K cd2 "added" = true) (k2 : PySem.W.keepIn K (.ref f2) = true)
    (a3 : PySem.W.nsIn K mainGlobals "summed" = some (some (.ref f3))) (l3 : K.lookup f3 = some ⟨oc3, od3, .func (PySem.W.fnOf "summed" "summed" (defArgs sSummed) (defBody sSummed) (defScope sSummed) .none kV3 dc3 pm3 an3 cd3 ct3), sl3⟩) (c3 : PySem.W.codeIn K cd3 "summed" = true) (k3 : PySem.W.keepIn K (.ref f3) = true)
    (a4 : PySem.W.nsIn K mainGlobals "reduced" = some (some (.ref f4))) (l4 : K.lookup f4 = some ⟨oc4, od4, .func (PySem.W.fnOf "reduced" "reduced" (defArgs sReduced) (defBody sReduced) (defScope sReduced) .none kV4 dc4 pm4 an4 cd4 ct4), sl4⟩) (c4 : PySem.W.codeIn K cd4 "reduced" = true) (k4 : PySem.W.keepIn K (.ref f4) = true)
    (a5 : PySem.W.nsIn K mainGlobals "led" = some (some (.ref f5))) (l5 : K.lookup f5 = some ⟨oc5, od5, .func (PySem.W.fnOf "led" "led" (defArgs sLed) (defBody sLed) (defScope sLed) .none kV5 dc5 pm5 an5 cd5 ct5), sl5⟩) (c5 : PySem.W.codeIn K cd5 "led" = true) (k5 : PySem.W.keepIn K (.ref f5) = true)
    (a6 : PySem.W.nsIn K mainGlobals "cleared" = some (some (.ref f6))) (l6 : K.lookup f6 = some ⟨oc6, od6, .func (PySem.W.fnOf "cleared" "cleared" (defArgs sCleared) (defBody sCleared) (defScope sCleared) .none kV6 dc6 pm6 an6 cd6 ct6), sl6⟩) (c6 : PySem.W.codeIn K cd6 "cleared" = true) (k6 : PySem.W.keepIn K (.ref f6) = true)
    (a7 : PySem.W.nsIn K mainGlobals "first_place" = some (some (.ref f7))) (l7 : K.lookup f7 = some ⟨oc7, od7, .func (PySem.W.fnOf "first_place" "first_place" (defArgs sFirst) (defBody sFirst) (defScope sFirst) .none kV7 dc7 pm7 an7 cd7 ct7), sl7⟩) (c7 : PySem.W.codeIn K cd7 "first_place" = true) (k7 : PySem.W.keepIn K (.ref f7) = true)
    (a8 : PySem.W.nsIn K mainGlobals "barred" = some (some (.ref f8))) (l8 : K.lookup f8 = some ⟨oc8, od8, .func (PySem.W.fnOf "barred" "barred" (defArgs sBarred) (defBody sBarred) (defScope sBarred) .none kV8 dc8 pm8 an8 cd8 ct8), sl8⟩) (c8 : PySem.W.codeIn K cd8 "barred" = true) (k8 : PySem.W.keepIn K (.ref f8) = true)
    (a9 : PySem.W.nsIn K mainGlobals "barred_row" = some (some (.ref f9))) (l9 : K.lookup f9 = some ⟨oc9, od9, .func (PySem.W.fnOf "barred_row" "barred_row" (defArgs sBarRow) (defBody sBarRow) (defScope sBarRow) .none kV9 dc9 pm9 an9 cd9 ct9), sl9⟩) (c9 : PySem.W.codeIn K cd9 "barred_row" = true) (k9 : PySem.W.keepIn K (.ref f9) = true)
    (a10 : PySem.W.nsIn K mainGlobals "_law_spun" = some (some (.ref f10))) (l10 : K.lookup f10 = some ⟨oc10, od10, .func (PySem.W.fnOf "_law_spun" "_law_spun" (defArgs sSpun) (defBody sSpun) (defScope sSpun) .none kV10 dc10 pm10 an10 cd10 ct10), sl10⟩) (c10 : PySem.W.codeIn K cd10 "_law_spun" = true) (k10 : PySem.W.keepIn K (.ref f10) = true)
    (a11 : PySem.W.nsIn K mainGlobals "_law_prime" = some (some (.ref f11))) (l11 : K.lookup f11 = some ⟨oc11, od11, .func (PySem.W.fnOf "_law_prime" "_law_prime" (defArgs sPrime) (defBody sPrime) (defScope sPrime) .none kV11 dc11 pm11 an11 cd11 ct11), sl11⟩) (c11 : PySem.W.codeIn K cd11 "_law_prime" = true) (k11 : PySem.W.keepIn K (.ref f11) = true)
    (a12 : PySem.W.nsIn K mainGlobals "_law_row" = some (some (.ref f12))) (l12 : K.lookup f12 = some ⟨oc12, od12, .func (PySem.W.fnOf "_law_row" "_law_row" (defArgs sRow) (defBody sRow) (defScope sRow) .none kV12 dc12 pm12 an12 cd12 ct12), sl12⟩) (c12 : PySem.W.codeIn K cd12 "_law_row" = true) (k12 : PySem.W.keepIn K (.ref f12) = true)
    (a13 : PySem.W.nsIn K mainGlobals "_law_rows" = some (some (.ref f13))) (l13 : K.lookup f13 = some ⟨oc13, od13, .func (PySem.W.fnOf "_law_rows" "_law_rows" (defArgs sRows) (defBody sRows) (defScope sRows) .none kV13 dc13 pm13 an13 cd13 ct13), sl13⟩) (c13 : PySem.W.codeIn K cd13 "_law_rows" = true) (k13 : PySem.W.keepIn K (.ref f13) = true)
    (a14 : PySem.W.nsIn K mainGlobals "_law_digits" = some (some (.ref f14))) (l14 : K.lookup f14 = some ⟨oc14, od14, .func (PySem.W.fnOf "_law_digits" "_law_digits" (defArgs sDigits) (defBody sDigits) (defScope sDigits) .none kV14 dc14 pm14 an14 cd14 ct14), sl14⟩) (c14 : PySem.W.codeIn K cd14 "_law_digits" = true) (k14 : PySem.W.keepIn K (.ref f14) = true)
    (a15 : PySem.W.nsIn K mainGlobals "_law_made" = some (some (.ref f15))) (l15 : K.lookup f15 = some ⟨oc15, od15, .func (PySem.W.fnOf "_law_made" "_law_made" (defArgs sMade) (defBody sMade) (defScope sMade) .none kV15 dc15 pm15 an15 cd15 ct15), sl15⟩) (c15 : PySem.W.codeIn K cd15 "_law_made" = true) (k15 : PySem.W.keepIn K (.ref f15) = true)
    (a16 : PySem.W.nsIn K mainGlobals "_law_rank" = some (some (.ref f16))) (l16 : K.lookup f16 = some ⟨oc16, od16, .func (PySem.W.fnOf "_law_rank" "_law_rank" (defArgs sRank) (defBody sRank) (defScope sRank) .none kV16 dc16 pm16 an16 cd16 ct16), sl16⟩) (c16 : PySem.W.codeIn K cd16 "_law_rank" = true) (k16 : PySem.W.keepIn K (.ref f16) = true)
    (a17 : PySem.W.nsIn K mainGlobals "_law_reduced" = some (some (.ref f17))) (l17 : K.lookup f17 = some ⟨oc17, od17, .func (PySem.W.fnOf "_law_reduced" "_law_reduced" (defArgs sRedL) (defBody sRedL) (defScope sRedL) .none kV17 dc17 pm17 an17 cd17 ct17), sl17⟩) (c17 : PySem.W.codeIn K cd17 "_law_reduced" = true) (k17 : PySem.W.keepIn K (.ref f17) = true)
    (a18 : PySem.W.nsIn K mainGlobals "_law_numbers" = some (some (.ref f18))) (l18 : K.lookup f18 = some ⟨oc18, od18, .func (PySem.W.fnOf "_law_numbers" "_law_numbers" (defArgs sNumbers) (defBody sNumbers) (defScope sNumbers) .none kV18 dc18 pm18 an18 cd18 ct18), sl18⟩) (c18 : PySem.W.codeIn K cd18 "_law_numbers" = true) (k18 : PySem.W.keepIn K (.ref f18) = true)
    (a19 : PySem.W.nsIn K mainGlobals "_law_asked" = some (some (.ref f19))) (l19 : K.lookup f19 = some ⟨oc19, od19, .func (PySem.W.fnOf "_law_asked" "_law_asked" (defArgs sAsked) (defBody sAsked) (defScope sAsked) .none kV19 dc19 pm19 an19 cd19 ct19), sl19⟩) (c19 : PySem.W.codeIn K cd19 "_law_asked" = true) (k19 : PySem.W.keepIn K (.ref f19) = true)
    (a20 : PySem.W.nsIn K mainGlobals "law" = some (some (.ref f20))) (l20 : K.lookup f20 = some ⟨oc20, od20, .func (PySem.W.fnOf "law" "law" (defArgs sLaw) (defBody sLaw) (defScope sLaw) .none kV20 dc20 pm20 an20 cd20 ct20), sl20⟩) (c20 : PySem.W.codeIn K cd20 "law" = true) (k20 : PySem.W.keepIn K (.ref f20) = true)
    (z1 : PySem.W.nsIn K mainGlobals "range" = some none) (z2 : PySem.W.nsIn K mainGlobals "zip" = some none) (z3 : PySem.W.nsIn K mainGlobals "tuple" = some none) (z4 : PySem.W.nsIn K mainGlobals "list" = some none) (z5 : PySem.W.nsIn K mainGlobals "int" = some none) (z6 : PySem.W.nsIn K mainGlobals "bool" = some none) (z7 : PySem.W.nsIn K mainGlobals "isinstance" = some none) (z8 : PySem.W.nsIn K mainGlobals "len" = some none) (z9 : PySem.W.nsIn K mainGlobals "sum" = some none) (z10 : PySem.W.nsIn K mainGlobals "max" = some none) (z11 : PySem.W.nsIn K mainGlobals "enumerate" = some none) (z12 : PySem.W.nsIn K mainGlobals "all" = some none) :
    ∃ fd : FuncData, (∀ (s : Shared) (v : Value), BindsTo s fd ⟨[v], []⟩ [("script", v)]) ∧ ∀ base : Heap, K.In base → base.Ns mainGlobals mg → FnOk l.prog w K mg base CX0 6 fa fd ["script"] (spLaw K) := by
  have e := hfa.symm.trans (PySem.W.mg_of X G a20)
  cases e
  have T : Txt mg := ⟨PySem.W.mg_none_of X G z1, PySem.W.mg_none_of X G z2, PySem.W.mg_none_of X G z3, PySem.W.mg_none_of X G z4, PySem.W.mg_none_of X G z5, PySem.W.mg_none_of X G z6, PySem.W.mg_none_of X G z7, PySem.W.mg_none_of X G z8, PySem.W.mg_none_of X G z9, PySem.W.mg_none_of X G z10, PySem.W.mg_none_of X G z11, PySem.W.mg_none_of X G z12⟩
  have F1 := fun_mk (st := sTurned) l1 c1 k1
  have F2 := fun_mk (st := sAdded) l2 c2 k2
  have F3 := fun_mk (st := sSummed) l3 c3 k3
  have F4 := fun_mk (st := sReduced) l4 c4 k4
  have F5 := fun_mk (st := sLed) l5 c5 k5
  have F6 := fun_mk (st := sCleared) l6 c6 k6
  have F7 := fun_mk (st := sFirst) l7 c7 k7
  have F8 := fun_mk (st := sBarred) l8 c8 k8
  have F9 := fun_mk (st := sBarRow) l9 c9 k9
  have F10 := fun_mk (st := sSpun) l10 c10 k10
  have F11 := fun_mk (st := sPrime) l11 c11 k11
  have F12 := fun_mk (st := sRow) l12 c12 k12
  have F13 := fun_mk (st := sRows) l13 c13 k13
  have F14 := fun_mk (st := sDigits) l14 c14 k14
  have F15 := fun_mk (st := sMade) l15 c15 k15
  have F16 := fun_mk (st := sRank) l16 c16 k16
  have F17 := fun_mk (st := sRedL) l17 c17 k17
  have F18 := fun_mk (st := sNumbers) l18 c18 k18
  have F19 := fun_mk (st := sAsked) l19 c19 k19
  have F20 := fun_mk (st := sLaw) l20 c20 k20
  have b1 := F1.binds (ps := ["p", "number"]) fun _ _ _ _ _ _ us hl => match us, hl with | [_, _], _ => rfl
  have m1 := PySem.W.mg_of X G a1
  have b2 := F2.binds (ps := ["p", "row", "factor", "other"]) fun _ _ _ _ _ _ us hl => match us, hl with | [_, _, _, _], _ => rfl
  have m2 := PySem.W.mg_of X G a2
  have b3 := F3.binds (ps := ["p", "rows", "factors", "length"]) fun _ _ _ _ _ _ us hl => match us, hl with | [_, _, _, _], _ => rfl
  have m3 := PySem.W.mg_of X G a3
  have b4 := F4.binds (ps := ["p", "rows"]) fun _ _ _ _ _ _ us hl => match us, hl with | [_, _], _ => rfl
  have m4 := PySem.W.mg_of X G a4
  have b5 := F5.binds (ps := ["p", "row", "place"]) fun _ _ _ _ _ _ us hl => match us, hl with | [_, _, _], _ => rfl
  have m5 := PySem.W.mg_of X G a5
  have b6 := F6.binds (ps := ["p", "row", "lead", "place"]) fun _ _ _ _ _ _ us hl => match us, hl with | [_, _, _, _], _ => rfl
  have m6 := PySem.W.mg_of X G a6
  have b7 := F7.binds (ps := ["row"]) fun _ _ _ _ _ _ us hl => match us, hl with | [_], _ => rfl
  have m7 := PySem.W.mg_of X G a7
  have b8 := F8.binds (ps := ["p", "rows", "length"]) fun _ _ _ _ _ _ us hl => match us, hl with | [_, _, _], _ => rfl
  have m8 := PySem.W.mg_of X G a8
  have b9 := F9.binds (ps := ["p", "steps", "place", "length"]) fun _ _ _ _ _ _ us hl => match us, hl with | [_, _, _, _], _ => rfl
  have m9 := PySem.W.mg_of X G a9
  have b10 := F10.binds (ps := ["cell", "k"]) fun _ _ _ _ _ _ us hl => match us, hl with | [_, _], _ => rfl
  have m10 := PySem.W.mg_of X G a10
  have b11 := F11.binds (ps := ["cell"]) fun _ _ _ _ _ _ us hl => match us, hl with | [_], _ => rfl
  have m11 := PySem.W.mg_of X G a11
  have b12 := F12.binds (ps := ["p", "cell", "k", "length"]) fun _ _ _ _ _ _ us hl => match us, hl with | [_, _, _, _], _ => rfl
  have m12 := PySem.W.mg_of X G a12
  have b13 := F13.binds (ps := ["p", "cell", "many", "length"]) fun _ _ _ _ _ _ us hl => match us, hl with | [_, _, _, _], _ => rfl
  have m13 := PySem.W.mg_of X G a13
  have b14 := F14.binds (ps := ["p", "number", "many", "length"]) fun _ _ _ _ _ _ us hl => match us, hl with | [_, _, _, _], _ => rfl
  have m14 := PySem.W.mg_of X G a14
  have b15 := F15.binds (ps := ["p", "cell", "k"]) fun _ _ _ _ _ _ us hl => match us, hl with | [_, _, _], _ => rfl
  have m15 := PySem.W.mg_of X G a15
  have b16 := F16.binds (ps := ["p", "rows"]) fun _ _ _ _ _ _ us hl => match us, hl with | [_, _], _ => rfl
  have m16 := PySem.W.mg_of X G a16
  have b17 := F17.binds (ps := ["found", "length"]) fun _ _ _ _ _ _ us hl => match us, hl with | [_, _], _ => rfl
  have m17 := PySem.W.mg_of X G a17
  have b18 := F18.binds (ps := ["p", "found", "length"]) fun _ _ _ _ _ _ us hl => match us, hl with | [_, _, _], _ => rfl
  have m18 := PySem.W.mg_of X G a18
  have b19 := F19.binds (ps := ["p", "rows", "length"]) fun _ _ _ _ _ _ us hl => match us, hl with | [_, _, _], _ => rfl
  have m19 := PySem.W.mg_of X G a19
  exact ⟨PySem.W.fnOf "law" "law" (defArgs sLaw) (defBody sLaw) (defScope sLaw) .none kV20 dc20 pm20 an20 cd20 ct20, fun s v => .of_eq rfl, fun base _ _ => ok_law F20 T F11 b11 m11 (ok_made F15 T F10 b10 m10 F14 b14 m14 (ok_rows F13 T F10 b10 m10 F12 b12 m12) k13 b13 m13) k15 b15 m15 (ok_asked F19 T (ok_barred F8 T (ok_reduced F4 T F2 b2 m2 F1 b1 m1 F3 b3 m3 F6 b6 m6 F5 b5 m5) k4 b4 m4 (ok_first F7 T) k7 b7 m7 (ok_barRow F9 T (ok_first F7 T) k7 b7 m7) k9 b9 m9) k8 b8 m8 (ok_numbers F18 T) k18 b18 m18 (ok_redL F17 T) k17 b17 m17 (ok_rank F16 T) k16 b16 m16) k19 b19 m19⟩
theorem walk {l : PySem.W.OpenLaw} {q : Program} {loose : List Str} {XP : (Str → Option Value) → Heap → Prop} {YP : World → Heap → Prop} {d : DefRec} {K : Params → PySem.W.Frag} (hn : l.most = some 63) (hdf : d.params.defaults = [])
    (hY : ∀ (w : World) (h : Heap), YP w h → (K w.params).In h)
    (F : ∀ (w : World) (mg : Str → Option Value) (fa : Addr) (h : Heap), (K w.params).In h → h.Ns mainGlobals mg → mg d.name = some (.ref fa) →
      ∃ fd : FuncData, (∀ (s : Shared) (u : Value), BindsTo s fd ⟨[u], []⟩ [("script", u)]) ∧ ∀ base : Heap, (K w.params).In base → base.Ns mainGlobals mg → FnOk l.prog w (K w.params) mg base CX0 6 fa fd ["script"] (spLaw (K w.params))) :
    PySem.W.WalkO q loose XP YP l.row.toRowW d [] (fun f vs => PySem.call f vs) :=
  L2.walk_of (n := 63) (k := 6) (x := "script") (CX := fun _ => CX0) (sp := fun w => spLaw (K w.params)) hn (by decide) hdf ⟨rfl, by decide, by decide⟩ hY F (fun _ _ a ns hl _ hS => ⟨a, ns, rfl, hS, hl, fun _ => rfl⟩) fun _ _ _ _ _ z => z
end K04
open PySem PySem.W PyProof.Rows
set_option maxRecDepth 100000 in
set_option maxHeartbeats 0 in
theorem PySem.Challenge.cw_bentwires_k04_barred_holds : PySem.Challenge.rw_bentwires_k04_barred.Holds := by
  w_on; o_law; k_head; (case hw => w_witness2)
  k_fill
  refine K04.walk (l := PySem.Challenge.rw_bentwires_k04_barred) rfl rfl (fun w h Y => PySem.W.kIn_of Y) ?F
  case F =>
    intro w mg fa h KX G hmg
    refine' K04.all_mk KX G hmg ?a1 ?l1 ?c1 ?k1 ?a2 ?l2 ?c2 ?k2 ?a3 ?l3 ?c3 ?k3 ?a4 ?l4 ?c4 ?k4 ?a5 ?l5 ?c5 ?k5 ?a6 ?l6 ?c6 ?k6 ?a7 ?l7 ?c7 ?k7 ?a8 ?l8 ?c8 ?k8 ?a9 ?l9 ?c9 ?k9 ?a10 ?l10 ?c10 ?k10 ?a11 ?l11 ?c11 ?k11 ?a12 ?l12 ?c12 ?k12 ?a13 ?l13 ?c13 ?k13 ?a14 ?l14 ?c14 ?k14 ?a15 ?l15 ?c15 ?k15 ?a16 ?l16 ?c16 ?k16 ?a17 ?l17 ?c17 ?k17 ?a18 ?l18 ?c18 ?k18 ?a19 ?l19 ?c19 ?k19 ?a20 ?l20 ?c20 ?k20 ?z1 ?z2 ?z3 ?z4 ?z5 ?z6 ?z7 ?z8 ?z9 ?z10 ?z11 ?z12
    (case a1 => k_is)
    (case l1 => k_is)
    (case c1 => k_is)
    (case k1 => k_is)
    (case a2 => k_is)
    (case l2 => k_is)
    (case c2 => k_is)
    (case k2 => k_is)
    (case a3 => k_is)
    (case l3 => k_is)
    (case c3 => k_is)
    (case k3 => k_is)
    (case a4 => k_is)
    (case l4 => k_is)
    (case c4 => k_is)
    (case k4 => k_is)
    (case a5 => k_is)
    (case l5 => k_is)
    (case c5 => k_is)
    (case k5 => k_is)
    (case a6 => k_is)
    (case l6 => k_is)
    (case c6 => k_is)
    (case k6 => k_is)
    (case a7 => k_is)
    (case l7 => k_is)
    (case c7 => k_is)
    (case k7 => k_is)
    (case a8 => k_is)
    (case l8 => k_is)
    (case c8 => k_is)
    (case k8 => k_is)
    (case a9 => k_is)
    (case l9 => k_is)
    (case c9 => k_is)
    (case k9 => k_is)
    (case a10 => k_is)
    (case l10 => k_is)
    (case c10 => k_is)
    (case k10 => k_is)
    (case a11 => k_is)
    (case l11 => k_is)
    (case c11 => k_is)
    (case k11 => k_is)
    (case a12 => k_is)
    (case l12 => k_is)
    (case c12 => k_is)
    (case k12 => k_is)
    (case a13 => k_is)
    (case l13 => k_is)
    (case c13 => k_is)
    (case k13 => k_is)
    (case a14 => k_is)
    (case l14 => k_is)
    (case c14 => k_is)
    (case k14 => k_is)
    (case a15 => k_is)
    (case l15 => k_is)
    (case c15 => k_is)
    (case k15 => k_is)
    (case a16 => k_is)
    (case l16 => k_is)
    (case c16 => k_is)
    (case k16 => k_is)
    (case a17 => k_is)
    (case l17 => k_is)
    (case c17 => k_is)
    (case k17 => k_is)
    (case a18 => k_is)
    (case l18 => k_is)
    (case c18 => k_is)
    (case k18 => k_is)
    (case a19 => k_is)
    (case l19 => k_is)
    (case c19 => k_is)
    (case k19 => k_is)
    (case a20 => k_is)
    (case l20 => k_is)
    (case c20 => k_is)
    (case k20 => k_is)
    (case z1 => k_is)
    (case z2 => k_is)
    (case z3 => k_is)
    (case z4 => k_is)
    (case z5 => k_is)
    (case z6 => k_is)
    (case z7 => k_is)
    (case z8 => k_is)
    (case z9 => k_is)
    (case z10 => k_is)
    (case z11 => k_is)
    (case z12 => k_is)
