import PyProof.Rows.All
import KE.KDictList
import PyProof.MaxThree
import KE.KRevIter
import PyProof.ReprStr
import PyProof.Rows.FStr
import PyProof.Rows.StrClose
import PyProof.Rows.StrItems
import PyProof.StrLawsTight
import PyProof.CallStr
import PyProof.StrWalks
import PyProof.Rows.StrNews
import PyProof.Rows.StrJoin2
import KE.KIntText
import KE.KTabLook
import KE.KLam
import Wide.All
import OpenK.AllK
import Wide.FinOn
import Lean
import PyProof.EqAt
import PyProof.EqKinds
import PyProof.TupleCall
import PySem.Challenge.RW_bentwires_k12_no_drawing
set_option Elab.async false
-- CHANGE: your row's module here, as the last of these rows
set_option Elab.async false
set_option linter.all false
set_option maxRecDepth 100000
/-! THE HAND LAYER, for ints, bools, texts, own classes, LISTS and tuples (index, slices, in, append, pop ..), calls, loops. Paste it whole ahead of your own text; what your proof does not reach may be deleted. -/
namespace L2
open PySem PySem.Spec PyProof.Rows

/-- a key: an int or a str -/
noncomputable abbrev Key := Sum Int Str
noncomputable def keyIs : Key → Value → Bool
  | .inl k, v => Value.isInt k v
  | .inr x, v => Value.isStrOf x v
noncomputable def keyH (w : World) : Key → Int
  | .inl k => hashInt k
  | .inr x => hashStr w x
theorem keyIs_shape : ∀ {k : Key} {v : Value}, keyIs k v = true → (∃ i t, k = Sum.inl i ∧ v = Value.int i t) ∨ (∃ x t, k = Sum.inr x ∧ v = Value.str x t)
  | .inl i, v, h => by
    obtain ⟨t, e⟩ := Value.isInt_shape (k := i) (v := v) h
    exact .inl ⟨i, t, rfl, e⟩
  | .inr x, v, h => by
    obtain ⟨t, e⟩ := Value.isStrOf_shape (x := x) (v := v) h
    exact .inr ⟨x, t, rfl, e⟩
theorem keyIs_int (i : Int) (t : Tok) : keyIs (.inl i) (.int i t) = true := by simp [keyIs, Value.isInt]
theorem keyIs_str (x : Str) (t : Tok) : keyIs (.inr x) (.str x t) = true := by simp [keyIs, Value.isStrOf]
theorem key_ll (a b : Int) : decide ((Sum.inl a : Key) = Sum.inl b) = (a == b) := by
  by_cases e : a = b
  · subst e; simp
  · have h : ¬ (Sum.inl a : Key) = Sum.inl b := fun q => e (Sum.inl.inj q)
    rw [decide_eq_false h]
    exact (beq_eq_false_iff_ne.mpr e).symm
theorem key_rr (a b : Str) : decide ((Sum.inr a : Key) = Sum.inr b) = decide (a = b) := by
  by_cases e : a = b
  · subst e; simp
  · have h : ¬ (Sum.inr a : Key) = Sum.inr b := fun q => e (Sum.inr.inj q)
    rw [decide_eq_false h, decide_eq_false e]
theorem key_lr (a : Int) (b : Str) : decide ((Sum.inl a : Key) = Sum.inr b) = false := decide_eq_false (fun q => nomatch q)
theorem key_rl (a : Str) (b : Int) : decide ((Sum.inr a : Key) = Sum.inl b) = false := decide_eq_false (fun q => nomatch q)

noncomputable def mixKind (prog : Program) (w : World) : PySem.KeyKind prog w Key where
  is := keyIs
  hash := keyH w
  inj := fun v a b ha hb => by
    rcases keyIs_shape ha with ⟨i, t, rfl, rfl⟩ | ⟨x, t, rfl, rfl⟩
    · rcases keyIs_shape hb with ⟨j, u, rfl, e⟩ | ⟨y, u, rfl, e⟩
      · injection e with e1 _; rw [e1]
      · exact nomatch e
    · rcases keyIs_shape hb with ⟨j, u, rfl, e⟩ | ⟨y, u, rfl, e⟩
      · exact nomatch e
      · injection e with e1 _; rw [e1]
  byValue := fun k v h => by
    rcases keyIs_shape h with ⟨i, t, rfl, rfl⟩ | ⟨x, t, rfl, rfl⟩ <;> rfl
  pyHash := fun hv h => by
    rcases keyIs_shape hv with ⟨i, t, rfl, rfl⟩ | ⟨x, t, rfl, rfl⟩
    · exact wpAny_pyHash_int h
    · exact wpAny_pyHash_str h
  eqBool := fun hu hv h => by
    rcases keyIs_shape hu with ⟨i, t, rfl, rfl⟩ | ⟨x, t, rfl, rfl⟩
    · rcases keyIs_shape hv with ⟨j, u, rfl, rfl⟩ | ⟨y, u, rfl, rfl⟩
      · rw [key_ll] at h; exact wpAny_eqBool_int h
      · rw [key_lr] at h; exact SeqAt.EqAt.int_str i t y u _ _ _ _ h
    · rcases keyIs_shape hv with ⟨j, u, rfl, rfl⟩ | ⟨y, u, rfl, rfl⟩
      · rw [key_rl] at h; exact SeqAt.EqAt.str_int x t j u _ _ _ _ h
      · rw [key_rr] at h; exact wpAny_eqBool_str h
  «strs» := fun k x t v h => by
    rcases keyIs_shape h with ⟨i, u, rfl, e⟩ | ⟨y, u, rfl, e⟩
    · exact nomatch e
    · injection e with e1 _
      subst e1
      cases v <;> rfl

theorem mixKind_int (prog : Program) (w : World) (i : Int) (t : Tok) : (mixKind prog w).is (.inl i) (.int i t) = true := keyIs_int i t
theorem mixKind_str (prog : Program) (w : World) (x : Str) (t : Tok) : (mixKind prog w).is (.inr x) (.str x t) = true := keyIs_str x t
end L2

namespace L2
open PySem PySem.Spec PyProof.Rows

/-- a value, without the heap -/
inductive V where
  | non | bl (b : Bool) | int (i : Int) | str (x : Str) | byt (b : Array UInt8) | flt (b : UInt64) | ref (a : Addr) | ty (n : String)
  deriving DecidableEq

noncomputable def RelV : V → Value → Prop
  | .non, u => u = Value.none
  | .bl b, u => u = Value.bool b
  | .int i, u => ∃ t, u = Value.int i t
  | .str x, u => ∃ t, u = Value.str x t
  | .byt b, u => ∃ t, u = Value.bytes b t
  | .flt b, u => ∃ t, u = Value.float b t
  | .ref a, u => u = Value.ref a
  | .ty n, u => u = Value.type n

noncomputable abbrev Vals : List V → List Value → Prop := Paired RelV
theorem Vals.length {xs : List V} {us : List Value} (r : Vals xs us) : xs.length = us.length := Paired.length r
theorem Vals.get : ∀ {xs : List V} {us : List Value} {i : Nat} {x : V}, Vals xs us → xs[i]? = some x → ∃ u, us[i]? = some u ∧ RelV x u
  | _, _, _, _, .nil, e => by simp at e
  | _, _, 0, _, .cons r _, e => by simp at e; subst e; exact ⟨_, rfl, r⟩
  | _, _, i + 1, x, .cons _ t, e => by
    obtain ⟨u, h1, h2⟩ := Vals.get (i := i) (x := x) t (by simpa using e)
    exact ⟨u, by simpa using h1, h2⟩
theorem Vals.append : ∀ {xs ys : List V} {us ws : List Value}, Vals xs us → Vals ys ws → Vals (xs ++ ys) (us ++ ws)
  | _, _, _, _, .nil, s => s
  | _, _, _, _, .cons r t, s => .cons r (Vals.append t s)
theorem Vals.take : ∀ {xs : List V} {us : List Value} (n : Nat), Vals xs us → Vals (xs.take n) (us.take n)
  | _, _, 0, _ => .nil
  | _, _, _ + 1, .nil => .nil
  | _, _, n + 1, .cons r t => .cons r (Vals.take n t)
theorem Vals.drop : ∀ {xs : List V} {us : List Value} (n : Nat), Vals xs us → Vals (xs.drop n) (us.drop n)
  | _, _, 0, r => r
  | _, _, _ + 1, .nil => .nil
  | _, _, n + 1, .cons _ t => Vals.drop n t
noncomputable def RelO : Option V → Option Value → Prop
  | some v, some u => RelV v u
  | none, none => True
  | _, _ => False
noncomputable def KV {κ : Type} : List (κ × V) → List (κ × Value) → Prop := Paired fun (p : κ × V) (q : κ × Value) => p.1 = q.1 ∧ RelV p.2 q.2

/-- a key of a dict (00_mix): an int or a text -/
noncomputable def kV : Key → V
  | .inl i => .int i
  | .inr x => .str x

/-- what stands at a tracked address -/
inductive HO where
  /-- a list -/
  | lst (xs : List V)
  /-- a tuple (never changes) -/
  | tup (xs : List V)
  /-- a dict whose keys are ints and texts; one whose keys are tuples of ints and texts (the empty one is both) -/
  | dK (kvs : List (Key × V)) | dT (kvs : List (List Key × V))
  /-- a set of ints: its members, its size -/
  | set (S : Int → Bool) (n : Nat)
  /-- an instance of the class at C, its dict at dx, its attributes -/
  | ins (C dx : Addr) (fs : List (Str × V))
  /-- the dict of the instance at x -/
  | own (x : Addr)
  /-- the dict of an exception -/
  | xd (fs : List (Str × V))
  /-- a bound method, f of x -/
  | met (f x : Addr)
  /-- a range object lo, lo + 1, .. below hi -/
  | rng (lo hi : Int)
  /-- a thing that is known to the object (the script; a dict while a loop walks it): read, never written while it is so -/
  | frz (o : Obj) (u : HO)
  /-- a code object's table -/
  | tbl (ps : Array Value)
  /-- any other thing, by what is true of its one object (a def of one's own: SetO a S n := HO.ext fun h => ..) -/
  | ext (φ : Heap → Prop)

noncomputable abbrev Hp := Addr → Option HO
noncomputable def upd (H : Hp) (a : Addr) (o : HO) : Hp := fun b => if b = a then some o else H b
theorem upd_same {H : Hp} {a : Addr} {o : HO} : upd H a o a = some o := by unfold upd; rw [if_pos rfl]
theorem upd_ne {H : Hp} {a b : Addr} {o : HO} (h : b ≠ a) : upd H a o b = H b := by unfold upd; rw [if_neg h]
/-- two objects of different content stand apart -/
theorem ne_of {H : Hp} {a b : Addr} {o u : HO} (h : H a = some o) (h' : H b = some u) (d : o ≠ u) : a ≠ b := by
  intro e; subst e; rw [h] at h'; exact d (Option.some.inj h')
theorem ne_of_none {H : Hp} {a b : Addr} {o : HO} (h : H a = some o) (h' : H b = none) : a ≠ b := by
  intro e; subst e; rw [h] at h'; cases h'

noncomputable def IsTupN (h : Heap) (a : Addr) (items : Array Value) : Prop := ∃ o, h.get? a = some o ∧ o.cls = .type "tuple" ∧ o.dict = none ∧ ∃ n, o.data = .seq items n
theorem IsTupN.tup {h : Heap} {a : Addr} {items : Array Value} (x : IsTupN h a items) : IsTup h a items := let ⟨o, e, c, _, n, d⟩ := x; ⟨o, e, c, n, d⟩
theorem IsTupN.new (h : Heap) (items : Array Value) : IsTupN (h.push { cls := .type "tuple", data := .seq items }) h.objs.size items := ⟨_, Heap.get?_push_size _ rfl, rfl, rfl, _, rfl⟩
section
variable (P : Program) (w : World)
noncomputable def ObjOk (H : Hp) (h : Heap) (a : Addr) : HO → Prop
  | .lst xs => xs.length ≤ sizeLine ∧ ∃ (its : List Value) (n : Nat), Vals xs its ∧ h.get? a = some { cls := .type "list", data := .seq its.toArray n }
  | .tup xs => xs.length ≤ sizeLine ∧ ∃ its : List Value, Vals xs its ∧ IsTupN h a its.toArray
  | .dK kvs => kvs.length ≤ sizeLine ∧ (a == sysModules) = false ∧ ∃ vs, KV kvs vs ∧ h.DictOf (mixKind P w) a vs
  | .dT kvs => kvs.length ≤ sizeLine ∧ (a == sysModules) = false ∧ ∃ xs : List (List Key × Addr × Value),
      Paired (fun (p : List Key × V) (q : List Key × Addr × Value) => p.1 = q.1 ∧ H q.2.1 = some (.tup (p.1.map kV)) ∧ RelV p.2 q.2.2) kvs xs ∧
      ∃ o es ep, h.get? a = some o ∧ o.ExactDict ∧ o.data = .dict es ep ∧ es.toList = xs.map (entryOfKey (tupleKind (mixKind P w))) ∧ (xs.map (·.1)).Nodup
  | .set S n => h.SetOf (intKind P w) a S n
  | .ins C dx fs => H dx = some (.own a) ∧ fs.length ≤ 1000 ∧ dx ≠ a ∧ h.get? a = some (PySem.W.instObj C dx) ∧
      ∃ mA, h.Ns1 dx mA ∧ (∀ f, RelO (fs.lookup f) (mA f)) ∧ PySem.Within mA (fs.map (·.1))
  | .own _ => ∃ o, h.get? a = some o
  | .xd fs => ∃ mA, h.Ns1 a mA ∧ ∀ f, RelO (fs.lookup f) (mA f)
  | .rng lo hi => ∃ t u v, h.get? a = some { cls := .type "range", data := .fields #[.int lo t, .int hi u, .int 1 v] }
  | .frz o u => h.get? a = some o ∧ ObjOk H h a u
  | .tbl ps => h.get? a = some { cls := .none, data := .fields ps }
  | .met f x => h.get? a = some (PySem.W.methodObj (.ref f) (.ref x))
  | .ext φ => φ h ∧ (∃ o, h.get? a = some o) ∧ ∀ h1 h2 : Heap, φ h1 → (∀ o, h1.get? a = some o → h2.get? a = some o) → φ h2
/-- the abstract heap is held -/
noncomputable def HOk (H : Hp) (h : Heap) : Prop := ∀ a o, H a = some o → ObjOk P w H h a o
end

section
variable {P : Program} {w : World} {H H' : Hp} {h h' : Heap} {a : Addr} {o : HO}
theorem ObjOk.lt (x : ObjOk P w H h a o) : a < h.objs.size := by
  cases o with
  | lst xs => obtain ⟨_, _, _, _, e⟩ := x; exact Heap.lt_size e
  | tup xs => obtain ⟨_, _, _, p⟩ := x; exact p.tup.lt
  | dK kvs => obtain ⟨_, _, _, _, o, _, _, e, _⟩ := x; exact Heap.lt_size e
  | dT kvs => obtain ⟨_, _, _, _, o, _, _, e, _⟩ := x; exact Heap.lt_size e
  | set S n => obtain ⟨o, _, _, _, e, _⟩ := x; exact Heap.lt_size e
  | ins C dx fs => obtain ⟨_, _, _, e, _⟩ := x; exact Heap.lt_size e
  | own y => obtain ⟨_, e⟩ := x; exact Heap.lt_size e
  | xd fs => obtain ⟨_, ⟨_, _, _, e, _⟩, _⟩ := x; exact Heap.lt_size e
  | rng lo hi => obtain ⟨_, _, _, e⟩ := x; exact Heap.lt_size e
  | frz ob u => obtain ⟨e, _⟩ := x; exact Heap.lt_size e
  | tbl ps => exact Heap.lt_size (show h.get? a = some _ from x)
  | met f y => exact Heap.lt_size (show h.get? a = some _ from x)
  | ext φ => obtain ⟨_, ⟨_, e⟩, _⟩ := x; exact Heap.lt_size e
theorem Paired.mapP {α β : Type} {F G : α → β → Prop} : ∀ {l₁ : List α} {l₂ : List β}, Paired F l₁ l₂ → (∀ a b, F a b → G a b) → Paired G l₁ l₂
  | _, _, .nil, _ => .nil
  | _, _, .cons r t, f => .cons (f _ _ r) (Paired.mapP t f)
/-- what an object's description leans on: its own object, its own dict, the tuples -/
theorem ObjOk.stay (x : ObjOk P w H h a o) (k : ∀ b u, (b = a ∨ H b = some (.own a)) → h.get? b = some u → h'.get? b = some u)
    (ho : ∀ b, H b = some (.own a) → H' b = some (.own a)) (ht : ∀ b xs, H b = some (.tup xs) → H' b = some (.tup xs)) : ObjOk P w H' h' a o := by
  induction o with
  | lst xs => obtain ⟨z, its, n, r, e⟩ := x; exact ⟨z, its, n, r, k _ _ (.inl rfl) e⟩
  | tup xs => obtain ⟨z, its, r, ob, e, c⟩ := x; exact ⟨z, its, r, ob, k _ _ (.inl rfl) e, c⟩
  | dK kvs => obtain ⟨z, y, vs, r, ob, es, ep, e, c⟩ := x; exact ⟨z, y, vs, r, ob, es, ep, k _ _ (.inl rfl) e, c⟩
  | dT kvs =>
    obtain ⟨z, y, xs, r, ob, es, ep, e, c⟩ := x
    exact ⟨z, y, xs, Paired.mapP r fun p q z => ⟨z.1, ht _ _ z.2.1, z.2.2⟩, ob, es, ep, k _ _ (.inl rfl) e, c⟩
  | set S n => obtain ⟨ob, es, ep, t, e, c⟩ := x; exact ⟨ob, es, ep, t, k _ _ (.inl rfl) e, c⟩
  | ins C dx fs =>
    obtain ⟨d, z, ne, e, mA, ⟨od, es, ep, e2, c⟩, r⟩ := x
    exact ⟨ho _ d, z, ne, k _ _ (.inl rfl) e, mA, ⟨od, es, ep, k _ _ (.inr d) e2, c⟩, r⟩
  | own y => obtain ⟨ob, e⟩ := x; exact ⟨ob, k _ _ (.inl rfl) e⟩
  | xd fs => obtain ⟨mA, ⟨od, es, ep, e, c⟩, r⟩ := x; exact ⟨mA, ⟨od, es, ep, k _ _ (.inl rfl) e, c⟩, r⟩
  | rng lo hi => obtain ⟨t, u, v, e⟩ := x; exact ⟨t, u, v, k _ _ (.inl rfl) e⟩
  | frz ob u ih => obtain ⟨e, q⟩ := x; exact ⟨k _ _ (.inl rfl) e, ih q⟩
  | tbl ps =>
    have e : h.get? a = some { cls := .none, data := .fields ps } := x
    show h'.get? a = some { cls := .none, data := .fields ps }
    exact k a _ (.inl rfl) e
  | met f y =>
    have e : h.get? a = some (PySem.W.methodObj (.ref f) (.ref y)) := x
    show h'.get? a = some (PySem.W.methodObj (.ref f) (.ref y))
    exact k a _ (.inl rfl) e
  | ext φ => obtain ⟨p, ⟨o, e⟩, st⟩ := x; exact ⟨st _ _ p fun o q => k _ _ (.inl rfl) q, ⟨o, k _ _ (.inl rfl) e⟩, st⟩
theorem HOk.lt (x : HOk P w H h) (e : H a = some o) : a < h.objs.size := (x a o e).lt
theorem HOk.fresh (x : HOk P w H h) (e : h.objs.size ≤ a) : H a = none := by
  cases q : H a with
  | none => rfl
  | some u => exact absurd (Nat.lt_of_lt_of_le (x.lt q) e) (Nat.lt_irrefl _)
/-- every object of the heap is kept -/
theorem HOk.kept (x : HOk P w H h) (k : ∀ b u, h.get? b = some u → h'.get? b = some u) : HOk P w H h' := fun a o e =>
  (x a o e).stay (fun b u _ q => k b u q) (fun _ q => q) fun _ _ q => q
/-- a new object is laid and tracked -/
theorem HOk.laid (x : HOk P w H h) (k : ∀ b u, h.get? b = some u → h'.get? b = some u) (hp : h.objs.size ≤ a) (new : ObjOk P w (upd H a o) h' a o) : HOk P w (upd H a o) h' := fun b u e => by
  have hn := x.fresh hp
  by_cases hb : b = a
  · subst hb; rw [upd_same] at e; cases e; exact new
  · rw [upd_ne hb] at e
    exact (x b u e).stay (fun c v _ q => k c v q) (fun c q => by rw [upd_ne (ne_of_none q hn)]; exact q) fun c xs q => by rw [upd_ne (ne_of_none q hn)]; exact q
end

/-- what may be read as u: it is u, or a known u -/
noncomputable def Rd (H : Hp) (a : Addr) (u : HO) : Prop := H a = some u ∨ ∃ o, H a = some (.frz o u)
theorem Rd.of {H : Hp} {a : Addr} {u : HO} (h : H a = some u) : Rd H a u := .inl h
theorem Rd.ok {P : Program} {w : World} {H : Hp} {h : Heap} {a : Addr} {u : HO} (r : Rd H a u) (x : HOk P w H h) : ObjOk P w H h a u := by
  rcases r with r | ⟨o, r⟩
  · exact x a u r
  · obtain ⟨_, q⟩ := x a _ r
    exact q
/-- what may be written -/
noncomputable def Mut : Option HO → Prop
  | some (.lst _) => True
  | some (.dK _) => True
  | some (.dT _) => True
  | some (.set _ _) => True
  | some (.ins _ _ _) => True
  | some (.ext _) => True
  | _ => False
section
variable {P : Program} {w : World} {H : Hp} {h h' : Heap} {x e : Addr} {o' : HO}
/-- the object at e is changed: x itself, or the dict of the instance x -/
theorem HOk.write (ok : HOk P w H h) (mu : Mut (H x)) (he : e = x ∨ H e = some (.own x)) (k : ∀ b u, b ≠ e → h.get? b = some u → h'.get? b = some u) (heo : ∃ u, h'.get? e = some u)
    (new : ObjOk P w (upd H x o') h' x o') : HOk P w (upd H x o') h' := fun b u q => by
  have nown : ∀ c y, H c = some (.own y) → c ≠ x := fun c y r z => by subst z; rw [r] at mu; exact mu
  have ntup : ∀ c xs, H c = some (.tup xs) → c ≠ x := fun c xs r z => by subst z; rw [r] at mu; exact mu
  by_cases hb : b = x
  · subst hb; rw [upd_same] at q; cases q; exact new
  · rw [upd_ne hb] at q
    by_cases hbe : b = e
    · have q' : H b = some (.own x) := by
        rcases he with z | z
        · exact absurd (hbe.trans z) hb
        · rw [hbe]; exact z
      rw [q] at q'; cases q'
      obtain ⟨v, hv⟩ := heo
      exact ⟨v, by rw [hbe]; exact hv⟩
    · refine (ok b u q).stay (fun c v hc r => k c v ?_ r) (fun c r => by rw [upd_ne (nown c b r)]; exact r) fun c xs r => by rw [upd_ne (ntup c xs r)]; exact r
      rcases hc with rfl | hc
      · exact hbe
      · rintro rfl
        rcases he with z | z
        · exact nown c b hc z
        · rw [hc] at z; cases z; exact hb rfl
end

/-! ### kept unless tracked; of the frames at fs (the callers') the slots may change (an exception that passes writes there); of the records at ex (iterators) nothing is said -/
structure Un (fs ex : List Addr) (H H' : Hp) (h h' : Heap) : Prop where
  keep : ∀ b o, h.get? b = some o → H b = none → b ∉ fs → b ∉ ex → h'.get? b = some o
  slot : ∀ b o, h.get? b = some o → H b = none → b ∈ fs → b ∉ ex → ∃ sl, h'.get? b = some { o with slots := sl }
  free : ∀ b o, h.get? b = some o → H b = none → b ∉ ex → H' b = none
  there : ∀ b o, h.get? b = some o → b ∉ ex → ∃ o', h'.get? b = some o'
  tups : ∀ b xs, H b = some (.tup xs) → H' b = some (.tup xs)
  frzs : ∀ b o u, H b = some (.frz o u) → H' b = some (.frz o u)
  tbls : ∀ b ps, H b = some (.tbl ps) → ∃ more, H' b = some (.tbl (ps ++ more))
section
variable {fs fs' ex ex' : List Addr} {H H1 H2 : Hp} {h h1 h2 h' : Heap} {a x e : Addr} {o : HO}
theorem Un.any (u : Un fs ex H H1 h h1) {b : Addr} {ob : Obj} (q : h.get? b = some ob) (n : H b = none) (hx : b ∉ ex) : ∃ sl, h1.get? b = some { ob with slots := sl } := by
  by_cases hb : b ∈ fs
  · exact u.slot b ob q n hb hx
  · exact ⟨ob.slots, u.keep b ob q n hb hx⟩
theorem Un.trans (a : Un fs ex H H1 h h1) (b : Un fs ex H1 H2 h1 h2) : Un fs ex H H2 h h2 where
  keep := fun c ob q n hc hx => b.keep c ob (a.keep c ob q n hc hx) (a.free c ob q n hx) hc hx
  slot := fun c ob q n hc hx => by
    obtain ⟨sl, e1⟩ := a.slot c ob q n hc hx
    obtain ⟨sl', e2⟩ := b.slot c _ e1 (a.free c ob q n hx) hc hx
    exact ⟨sl', e2⟩
  free := fun c ob q n hx => by
    obtain ⟨o', e1⟩ := a.there c ob q hx
    exact b.free c o' e1 (a.free c ob q n hx) hx
  there := fun c ob q hx => by
    obtain ⟨o', e1⟩ := a.there c ob q hx
    exact b.there c o' e1 hx
  tups := fun c xs q => b.tups c xs (a.tups c xs q)
  frzs := fun c ob xs q => b.frzs c ob xs (a.frzs c ob xs q)
  tbls := fun c ps q => by
    obtain ⟨m1, e1⟩ := a.tbls c ps q
    obtain ⟨m2, e2⟩ := b.tbls c _ e1
    exact ⟨m1 ++ m2, by rw [e2, Array.append_assoc]⟩
theorem Un.kept (k : ∀ b u, h.get? b = some u → h'.get? b = some u) : Un fs ex H H h h' :=
  ⟨fun b ob q _ _ _ => k b ob q, fun b ob q _ _ _ => ⟨ob.slots, k b ob q⟩, fun _ _ _ n _ => n, fun b ob q _ => ⟨ob, k b ob q⟩, fun _ _ q => q, fun _ _ _ q => q, fun _ ps q => ⟨#[], by rw [q]; simp⟩⟩
theorem Un.refl : Un fs ex H H h h := Un.kept fun _ _ q => q
theorem Un.laid (k : ∀ b u, h.get? b = some u → h'.get? b = some u) (hp : h.objs.size ≤ a) (hn : H a = none) : Un fs ex H (upd H a o) h h' where
  keep := fun b u q _ _ _ => k b u q
  slot := fun b u q _ _ _ => ⟨u.slots, k b u q⟩
  free := fun b u q n _ => by rw [upd_ne (Nat.ne_of_lt (Nat.lt_of_lt_of_le (Heap.lt_size q) hp))]; exact n
  there := fun b u q _ => ⟨u, k b u q⟩
  tups := fun b xs q => by rw [upd_ne (ne_of_none q hn)]; exact q
  frzs := fun b u xs q => by rw [upd_ne (ne_of_none q hn)]; exact q
  tbls := fun b ps q => ⟨#[], by rw [upd_ne (ne_of_none q hn), q]; simp⟩
theorem Un.write (mu : Mut (H x)) (he : e = x ∨ H e = some (.own x)) (k : ∀ b u, b ≠ e → h.get? b = some u → h'.get? b = some u) (heo : ∃ u, h'.get? e = some u) : Un fs ex H (upd H x o) h h' := by
  have hx : ∀ b, H b = none → b ≠ x := fun b n z => by subst z; rw [n] at mu; exact mu
  have hb : ∀ b, H b = none → b ≠ e := fun b n z => by
    subst z
    rcases he with r | r
    · exact hx b n r
    · rw [n] at r; cases r
  have hm : ∀ b u, H b = some u → ¬ Mut (some u) → b ≠ x := fun b u q nm z => by subst z; rw [q] at mu; exact nm mu
  refine ⟨fun b u q n _ _ => k b u (hb b n) q, fun b u q n _ _ => ⟨u.slots, k b u (hb b n) q⟩, fun b u q n _ => by rw [upd_ne (hx b n)]; exact n, fun b u q _ => ?_,
    fun b xs q => by rw [upd_ne (hm b _ q fun z => z)]; exact q, fun b u xs q => by rw [upd_ne (hm b _ q fun z => z)]; exact q, fun b ps q => ⟨#[], by rw [upd_ne (hm b _ q fun z => z), q]; simp⟩⟩
  by_cases hbe : b = e
  · subst hbe; exact heo
  · exact ⟨u, k b u hbe q⟩
theorem Un.mono (u : Un fs ex H H1 h h1) (hs : ∀ b ∈ fs, b ∈ fs') (hx : ∀ b ∈ ex, b ∈ ex') : Un fs' ex' H H1 h h1 :=
  ⟨fun b ob q n hb he => u.keep b ob q n (fun z => hb (hs b z)) fun z => he (hx b z), fun _ _ q n _ he => u.any q n fun z => he (hx _ z), fun b ob q n he => u.free b ob q n fun z => he (hx b z), fun b ob q he => u.there b ob q fun z => he (hx b z), u.tups, u.frzs, u.tbls⟩
end

/-! ### the heap without what is tracked -/
noncomputable def trk (h : Heap) (H : Hp) : List Addr := (List.range h.objs.size).filter fun a => (H a).isSome
noncomputable def hidT (h : Heap) (H : Hp) : Heap := PySem.W.hideAll h (trk h H)
theorem hidT_size (h : Heap) (H : Hp) : (hidT h H).objs.size = h.objs.size := PySem.W.hideAll_size _ _
theorem hidT_get {h : Heap} {H : Hp} {b : Addr} {o : Obj} (e : h.get? b = some o) (n : H b = none) : (hidT h H).get? b = some o :=
  PySem.W.hideAll_get _ e fun hm => by
    have q : (H b).isSome = true := (List.mem_filter.mp hm).2
    rw [n] at q; simp at q
theorem of_hidT {h : Heap} {H : Hp} {b : Addr} {o : Obj} (e : (hidT h H).get? b = some o) : h.get? b = some o ∧ H b = none := by
  have e' : h.get? b = some o := PySem.W.of_hideAll (trk h H) e
  refine ⟨e', ?_⟩
  cases q : H b with
  | none => rfl
  | some x =>
    have hm : b ∈ trk h H := List.mem_filter.mpr ⟨List.mem_range.mpr (Heap.lt_size e'), by simp [q]⟩
    have z : (hidT h H).get? b = none := PySem.W.hideAll_none (trk h H) hm
    rw [z] at e; cases e

/-! ### OpenK's ledger, filled with every new object but one -/
noncomputable def allNews (g h : Heap) (L : Addr) : List (Addr × Obj) := (List.range h.objs.size).filterMap fun a => if a = L ∨ (g.get? a).isSome = true then none else (h.get? a).map fun o => (a, o)
noncomputable def rest (g h : Heap) (L d : Addr) : List (Addr × Obj) := (allNews g h L).filter fun p => decide (p.1 ≠ d)
end L2

namespace L2
open PySem PySem.Spec PyProof.Rows

/-- the module's facts, over the base: the heap at the law's entry without what is tracked there -/
structure Mod (K : PySem.W.Frag) (mg : Str → Option Value) (base : Heap) : Prop where
  kin : K.In base
  glob : base.Ns mainGlobals mg
  blt : ∃ mb, base.Ns builtinsNs mb ∧ ∀ x : Str, x ≠ "__name__" → mb x = bootBuiltins x
  nolimit : base.NoLimit

/-- the context: a def's body (or a comprehension's block) running. base: fixed through the whole law; s₀, H₀: the entry; outer: the frames whose slots others may change (a def's callers); stack: all frames that run;
   ex: iterators that were made ahead of the entry and are walked here (a comprehension's); fn: the names whose cells were made at the entry (a def: all; a comprehension's block: its own); calm: not within an except suite; pn: pins that every state bears; xe: what is wanted of an exception that leaves the code -/
structure Cx where
  prog : Program
  w : World
  K : PySem.W.Frag
  mg : Str → Option Value
  base : Heap
  A : Around
  N : List Str
  s₀ : Shared
  H₀ : Hp
  env : Env
  outer : List Env
  stack : List Env
  ex : List Addr
  fn : Str → Bool
  calm : Bool
  pn : List (Addr × Obj)
  xe : Value → Shared → Prop
/-- the callers' frames -/
noncomputable def frs (l : List Env) : List Addr := l.filterMap (·.frame)
noncomputable abbrev Cx.fs (X : Cx) : List Addr := frs X.outer

noncomputable def Vis (sc : Scope) (x : Str) : Prop := sc.names.lookup x = some .local ∨ sc.names.lookup x = some .cell ∨ sc.names.lookup x = some .free
noncomputable def Loc (sc : Scope) (x : Str) : Prop := sc.names.lookup x = some .local ∨ sc.names.lookup x = some .cell
noncomputable def Look (env : Env) (h : Heap) (m : Str → Option Value) (x : Str) (u : Value) : Prop :=
  (env.kindOf x = some .local ∧ m x = some u) ∨ ((env.kindOf x = some .cell ∨ env.kindOf x = some .free) ∧ ∃ c, env.cells.lookup x = some c ∧ h.IsCell c (some u))

structure Cx.Ok (X : Cx) : Prop where
  mod : Mod X.K X.mg X.base
  kind : X.env.scope.kind = .function
  glob : X.env.globals = mainGlobals
  blt : X.env.builtins = builtinsNs
  above : X.s₀.heap.objs.size ≤ X.env.locals
  inj : ∀ x y c, X.env.cells.lookup x = some c → X.env.cells.lookup y = some c → x = y
  has : ∀ x, (X.env.kindOf x = some .cell ∨ X.env.kindOf x = some .free) → ∃ c, X.env.cells.lookup x = some c
  cab : ∀ x c, X.fn x = true → X.env.cells.lookup x = some c → X.s₀.heap.objs.size ≤ c
  hd : X.calm = true → X.A.handled = none
  frames : X.A.frames = some X.stack
  stk : X.stack = X.outer ∨ (X.stack = X.env :: X.outer ∧ X.env.frame = some X.env.locals)
  exf : ∀ b ∈ X.ex, b ≠ X.env.locals ∧ ∀ x c, X.env.cells.lookup x = some c → c ≠ b
  bs : ∀ b o, X.base.get? b = some o → X.s₀.heap.get? b = some o ∧ X.H₀ b = none
  bsz : X.base.objs.size ≤ X.s₀.heap.objs.size
  noex : ∀ b o, X.base.get? b = some o → b ∉ X.ex
  exfs : ∀ b ∈ X.ex, b ∉ X.fs
  funs : X.s₀.heap.FunFrames X.base X.outer
  frf : ∀ b ∈ X.fs, X.H₀ b = none

structure Inv (X : Cx) (pins : List (Addr × Obj)) (σ : List (Option V)) (H : Hp) (s : Shared) : Prop where
  ok : X.Ok
  os : s.os = X.s₀.os
  bare : AllBare s.gens
  base : Un X.fs X.ex X.H₀ H X.s₀.heap s.heap
  loc : ∃ m, s.heap.Ns X.env.locals m ∧ ∀ (i : Nat) (x : Str) (v : V), X.N[i]? = some x → σ[i]? = some (some v) → Vis X.env.scope x → ∃ u, RelV v u ∧ Look X.env s.heap m x u
  cell : ∀ x c, X.env.cells.lookup x = some c → ∃ v, s.heap.IsCell c v
  free : H X.env.locals = none
  freeC : ∀ x c, X.env.cells.lookup x = some c → H c = none
  pin : ∀ p ∈ X.pn ++ pins, s.heap.get? p.1 = some p.2 ∧ H p.1 = none ∧ p.1 ≠ X.env.locals ∧ p.1 ∉ X.fs ∧ ∀ v, p.2.data ≠ .cell v
  hok : HOk X.prog X.w H s.heap
  len : σ.length = X.N.length

section
variable {X : Cx} {pins : List (Addr × Obj)} {σ : List (Option V)} {H H' : Hp} {s : Shared} {h' : Heap}

theorem Cx.Ok.nofr (ok : X.Ok) {b : Addr} {o : Obj} (e : X.base.get? b = some o) : b ∉ X.fs := fun hb => by
  have := (ok.funs.mem hb).1
  rw [e] at this; cases this
theorem Inv.bs (I : Inv X pins σ H s) : ∀ b o, X.base.get? b = some o → s.heap.get? b = some o ∧ H b = none := fun b o e =>
  ⟨I.base.keep b o (I.ok.bs b o e).1 (I.ok.bs b o e).2 (I.ok.nofr e) (I.ok.noex b o e), I.base.free b o (I.ok.bs b o e).1 (I.ok.bs b o e).2 (I.ok.noex b o e)⟩
theorem Inv.bk (I : Inv X pins σ H s) : ∀ b o, X.base.get? b = some o → s.heap.get? b = some o := fun b o e => (I.bs b o e).1
theorem Inv.mod (I : Inv X pins σ H s) : Mod X.K X.mg X.base := I.ok.mod
theorem Inv.kIn (I : Inv X pins σ H s) : X.K.In s.heap := I.ok.mod.kin.keeps I.bk
theorem Inv.lt (I : Inv X pins σ H s) : X.env.locals < s.heap.objs.size := let ⟨_, hn, _⟩ := I.loc; hn.lt
theorem Inv.sz (I : Inv X pins σ H s) : X.s₀.heap.objs.size ≤ s.heap.objs.size := Nat.le_trans I.ok.above (Nat.le_of_lt I.lt)
theorem Inv.nofs (I : Inv X pins σ H s) {a : Addr} (h : s.heap.objs.size ≤ a) : a ∉ X.fs := fun hb => by
  obtain ⟨_, o, ho, _⟩ := I.ok.funs.mem hb
  exact absurd (Nat.lt_of_lt_of_le (Heap.lt_size ho) (Nat.le_trans I.sz h)) (Nat.lt_irrefl _)
theorem Inv.cne (I : Inv X pins σ H s) : ∀ x c, X.env.cells.lookup x = some c → c ≠ X.env.locals := fun x c e z => by
  obtain ⟨v, o, ho, hd⟩ := I.cell x c e
  obtain ⟨m, ⟨o', es, ep, ho', hd', _⟩, _⟩ := I.loc
  rw [z, ho'] at ho; cases ho; rw [hd'] at hd; cases hd
theorem Inv.funs (I : Inv X pins σ H s) : s.heap.FunFrames X.base X.outer := by
  have all : ∀ (l : List Env), (∀ b ∈ frs l, b ∈ X.fs) → X.s₀.heap.FunFrames X.base l → s.heap.FunFrames X.base l := by
    intro l
    induction l with
    | nil => intro _ _; trivial
    | cons env r ih =>
      intro hs hl
      obtain ⟨hk, ⟨L, o, hf, hn, ho, hd⟩, hr⟩ := hl
      have hL : L ∈ X.fs := hs L (by unfold frs; rw [List.filterMap_cons, hf]; exact List.mem_cons_self)
      obtain ⟨sl, e⟩ := I.base.slot L o ho (I.ok.frf L hL) hL fun z => I.ok.exfs L z hL
      exact ⟨hk, ⟨L, _, hf, hn, e, hd⟩, ih (fun b hb => hs b (by unfold frs; rw [List.filterMap_cons, hf]; exact List.mem_cons_of_mem _ hb)) hr⟩
  exact all X.outer (fun _ hb => hb) I.ok.funs

/-- the frames that run, for a call -/
theorem Inv.stack (I : Inv X pins σ H s) : s.heap.FunFrames X.base X.stack := by
  rcases I.ok.stk with e | ⟨e, hf⟩
  · rw [e]; exact I.funs
  · rw [e]
    obtain ⟨m, hn, _⟩ := I.loc
    refine .cons (by rw [I.ok.kind]; decide) hf hn ?_ I.funs
    exact Heap.get?_none_of_le (Nat.le_trans I.ok.bsz I.ok.above)
theorem Inv.stkSub (I : Inv X pins σ H s) : ∀ b ∈ frs X.stack, b ∈ X.env.locals :: X.fs := fun b hb => by
  rcases I.ok.stk with e | ⟨e, hf⟩
  · rw [e] at hb; exact List.mem_cons_of_mem _ hb
  · rw [e] at hb
    unfold frs at hb
    rw [List.filterMap_cons, hf] at hb
    exact hb
theorem Inv.stkFree (I : Inv X pins σ H s) : ∀ b ∈ frs X.stack, H b = none := fun b hb => by
  rcases List.mem_cons.mp (I.stkSub b hb) with e | hb
  · rw [e]; exact I.free
  · obtain ⟨_, o, ho, _⟩ := I.ok.funs.mem hb
    exact I.base.free b o ho (I.ok.frf b hb) fun z => I.ok.exfs b z hb

/-- THE STEP: the untracked objects but the frame and the records at ch are kept (the callers' frames up to slots), the frame's map is kept, the new abstract heap is held -/
theorem Inv.step {g' : Array GenState} {t' : Nat} {d' : Drawn} {ch : List Addr} (I : Inv X pins σ H s)
    (hch : ∀ b ∈ ch, (b ∈ X.ex ∨ X.s₀.heap.objs.size ≤ b) ∧ b ≠ X.env.locals ∧ (∀ x c, X.env.cells.lookup x = some c → c ≠ b) ∧ ∀ p ∈ X.pn ++ pins, p.1 ≠ b)
    (keep : ∀ b o, b ≠ X.env.locals → b ∉ X.fs → b ∉ ch → s.heap.get? b = some o → H b = none → h'.get? b = some o)
    (slot : ∀ b o, b ≠ X.env.locals → b ∈ X.fs → b ∉ ch → s.heap.get? b = some o → H b = none → ∃ sl, h'.get? b = some { o with slots := sl }) (free : ∀ b o, b ∉ ch → s.heap.get? b = some o → H b = none → H' b = none)
    (there : ∀ b o, b ∉ ch → s.heap.get? b = some o → ∃ o', h'.get? b = some o')
    (tups : ∀ b xs, H b = some (.tup xs) → H' b = some (.tup xs)) (frzs : ∀ b o u, H b = some (.frz o u) → H' b = some (.frz o u)) (tbls : ∀ b ps, H b = some (.tbl ps) → ∃ more, H' b = some (.tbl (ps ++ more)))
    (ns : ∀ m, s.heap.Ns X.env.locals m → h'.Ns X.env.locals m) (hok : HOk X.prog X.w H' h') (hg : AllBare g') :
    Inv X pins σ H' { s with heap := h', gens := g', drawn := d', toks := t' } := by
  have neL : ∀ b o, X.s₀.heap.get? b = some o → b ≠ X.env.locals := fun b o e => Nat.ne_of_lt (Nat.lt_of_lt_of_le (Heap.lt_size e) I.ok.above)
  have neC : ∀ b o, X.s₀.heap.get? b = some o → b ∉ X.ex → b ∉ ch := fun b o e hx hb => by
    rcases (hch b hb).1 with z | z
    · exact hx z
    · exact absurd (Nat.lt_of_lt_of_le (Heap.lt_size e) z) (Nat.lt_irrefl _)
  have cellK : ∀ x c, X.env.cells.lookup x = some c → ∀ v, s.heap.IsCell c v → h'.IsCell c v := fun x c e v ⟨o, ho, hd⟩ => by
    have nch : c ∉ ch := fun z => (hch c z).2.2.1 x c e rfl
    by_cases hc : c ∈ X.fs
    · obtain ⟨sl, q⟩ := slot c o (I.cne x c e) hc nch ho (I.freeC x c e)
      exact ⟨_, q, hd⟩
    · exact ⟨o, keep c o (I.cne x c e) hc nch ho (I.freeC x c e), hd⟩
  refine ⟨I.ok, I.os, hg, ⟨fun b o e n hb hx => ?_, fun b o e n hb hx => ?_, fun b o e n hx => ?_, fun b o e hx => ?_, fun b xs e => tups b xs (I.base.tups b xs e), fun b o xs e => frzs b o xs (I.base.frzs b o xs e), fun b ps e => ?_⟩, ?_, fun x c e => ?_, ?_, fun x c e => ?_, fun p hp => ?_, hok, I.len⟩
  · exact keep b o (neL b o e) hb (neC b o e hx) (I.base.keep b o e n hb hx) (I.base.free b o e n hx)
  · obtain ⟨sl, e1⟩ := I.base.slot b o e n hb hx
    obtain ⟨sl', e2⟩ := slot b _ (neL b o e) hb (neC b o e hx) e1 (I.base.free b o e n hx)
    exact ⟨sl', e2⟩
  · obtain ⟨o', e1⟩ := I.base.there b o e hx
    exact free b o' (neC b o e hx) e1 (I.base.free b o e n hx)
  · obtain ⟨o', e1⟩ := I.base.there b o e hx
    exact there b o' (neC b o e hx) e1
  · obtain ⟨m1, e1⟩ := I.base.tbls b ps e
    obtain ⟨m2, e2⟩ := tbls b _ e1
    exact ⟨m1 ++ m2, by rw [e2, Array.append_assoc]⟩
  · obtain ⟨m, hn, hl⟩ := I.loc
    refine ⟨m, ns m hn, fun i x v e1 e2 e3 => ?_⟩
    obtain ⟨u, r, l⟩ := hl i x v e1 e2 e3
    refine ⟨u, r, ?_⟩
    rcases l with l | ⟨k, c, e, z⟩
    · exact .inl l
    · exact .inr ⟨k, c, e, cellK x c e _ z⟩
  · obtain ⟨v, z⟩ := I.cell x c e
    exact ⟨v, cellK x c e v z⟩
  · obtain ⟨m, ⟨o, _, _, ho, _⟩, _⟩ := I.loc
    exact free _ o (fun z => (hch _ z).2.1 rfl) ho I.free
  · obtain ⟨v, o, ho, hd⟩ := I.cell x c e
    exact free c o (fun z => (hch c z).2.2.1 x c e rfl) ho (I.freeC x c e)
  · obtain ⟨e, n, ne, nf, d⟩ := I.pin p hp
    have nch : p.1 ∉ ch := fun z => (hch p.1 z).2.2.2 p hp rfl
    exact ⟨keep p.1 p.2 ne nf nch e n, free p.1 p.2 nch e n, ne, nf, d⟩
/-- .. where the frame's own object is kept too -/
theorem Inv.un {t' : Nat} (I : Inv X pins σ H s) (u : Un X.fs [] H H' s.heap h') (hok : HOk X.prog X.w H' h') : Inv X pins σ H' { s with heap := h', toks := t' } := by
  obtain ⟨m, ⟨o, es, ep, ho, r⟩, _⟩ := id I.loc
  obtain ⟨sl, hL⟩ := u.any ho I.free (by simp)
  exact I.step (g' := s.gens) (d' := s.drawn) (ch := []) (fun _ z => nomatch z) (fun b o _ hb _ e n => u.keep b o e n hb (by simp)) (fun b o _ hb _ e n => u.slot b o e n hb (by simp)) (fun b o _ e n => u.free b o e n (by simp)) (fun b o _ e => u.there b o e (by simp)) u.tups u.frzs u.tbls (fun m' hm => by
    obtain ⟨o', es', ep', ho', r'⟩ := hm
    rw [ho] at ho'; cases ho'
    exact ⟨_, es', ep', hL, r'⟩) hok I.bare
/-- behind a call (or a comprehension's block): the slots of this frame may have changed too, the records at ch may have turned -/
theorem Inv.call {g' : Array GenState} {t' : Nat} {d' : Drawn} {ch : List Addr} (I : Inv X pins σ H s) (u : Un (frs X.stack) ch H H' s.heap h') (hok : HOk X.prog X.w H' h') (hg : AllBare g')
    (hch : ∀ b ∈ ch, (b ∈ X.ex ∨ X.s₀.heap.objs.size ≤ b) ∧ b ≠ X.env.locals ∧ (∀ x c, X.env.cells.lookup x = some c → c ≠ b) ∧ ∀ p ∈ X.pn ++ pins, p.1 ≠ b) :
    Inv X pins σ H' { s with heap := h', gens := g', drawn := d', toks := t' } := by
  obtain ⟨m, ⟨o, es, ep, ho, r⟩, _⟩ := id I.loc
  obtain ⟨sl, hL⟩ := u.any ho I.free fun z => (hch _ z).2.1 rfl
  exact I.step (ch := ch) hch (fun b o hL hb hc e n => u.keep b o e n (fun z => (List.mem_cons.mp (I.stkSub b z)).elim hL hb) hc) (fun b o _ _ hc e n => u.any e n hc) (fun b o hc e n => u.free b o e n hc) (fun b o hc e => u.there b o e hc) u.tups u.frzs u.tbls (fun m' hm => by
    obtain ⟨o', es', ep', ho', r'⟩ := hm
    rw [ho] at ho'; cases ho'
    exact ⟨_, es', ep', hL, r'⟩) hok hg
/-- an untracked record of ours (an iterator) has turned -/
theorem Inv.turned {t' : Nat} {it : Addr} (I : Inv X pins σ H s) (k : ∀ b o, b ≠ it → s.heap.get? b = some o → h'.get? b = some o) (hn : H it = none) (hL : it ≠ X.env.locals)
    (h1 : it ∈ X.ex ∨ X.s₀.heap.objs.size ≤ it) (h2 : ∀ x c, X.env.cells.lookup x = some c → c ≠ it) (h3 : ∀ p ∈ X.pn ++ pins, p.1 ≠ it) : Inv X pins σ H { s with heap := h', toks := t' } := by
  have nit : ∀ b u, H b = some u → b ≠ it := fun b u e z => by rw [z, hn] at e; cases e
  refine I.step (g' := s.gens) (d' := s.drawn) (ch := [it]) (fun b hb => ?_) (fun b o _ _ hc e _ => k b o (fun z => hc (by simp [z])) e) (fun b o _ _ hc e _ => ⟨o.slots, k b o (fun z => hc (by simp [z])) e⟩) (fun _ _ _ _ n => n)
    (fun b o hc e => ⟨o, k b o (fun z => hc (by simp [z])) e⟩) (fun _ _ e => e) (fun _ _ _ e => e) (fun b ps e => ⟨#[], by rw [e]; simp⟩) (fun m hm => ?_) (fun b u e => ?_) I.bare
  · have e : b = it := by simpa using hb
    subst e
    exact ⟨h1, hL, h2, h3⟩
  · obtain ⟨o, es, ep, ho, r⟩ := hm
    exact ⟨o, es, ep, k _ o (Ne.symm hL) ho, r⟩
  · refine (I.hok b u e).stay (fun c v hc q => k c v ?_ q) (fun _ q => q) fun _ _ q => q
    rcases hc with z | z
    · rw [z]; exact nit b u e
    · exact nit c _ z
theorem Inv.tok (I : Inv X pins σ H s) (t : Nat) : Inv X pins σ H { s with toks := t } := I.un (h' := s.heap) (t' := t) Un.refl I.hok
/-- all objects kept -/
theorem Inv.kept {t' : Nat} (I : Inv X pins σ H s) (k : ∀ b u, s.heap.get? b = some u → h'.get? b = some u) : Inv X pins σ H { s with heap := h', toks := t' } := I.un (Un.kept k) (I.hok.kept k)
/-- a new object laid and tracked -/
theorem Inv.laid {a : Addr} {o : HO} {t' : Nat} (I : Inv X pins σ H s) (k : ∀ b u, s.heap.get? b = some u → h'.get? b = some u) (hp : s.heap.objs.size ≤ a) (new : ObjOk X.prog X.w (upd H a o) h' a o) :
    Inv X pins σ (upd H a o) { s with heap := h', toks := t' } := I.un (Un.laid k hp (I.hok.fresh hp)) (I.hok.laid k hp new)
/-- an object written -/
theorem Inv.write {x e : Addr} {o : HO} {t' : Nat} (I : Inv X pins σ H s) (mu : Mut (H x)) (he : e = x ∨ H e = some (.own x)) (k : ∀ b u, b ≠ e → s.heap.get? b = some u → h'.get? b = some u) (heo : ∃ u, h'.get? e = some u)
    (new : ObjOk X.prog X.w (upd H x o) h' x o) : Inv X pins σ (upd H x o) { s with heap := h', toks := t' } := I.un (Un.write mu he k heo) (I.hok.write mu he k heo new)
theorem Inv.pins_of {pins' : List (Addr × Obj)} (I : Inv X pins σ H s) (h : ∀ p ∈ pins', s.heap.get? p.1 = some p.2 ∧ H p.1 = none ∧ p.1 ≠ X.env.locals ∧ p.1 ∉ X.fs ∧ ∀ v, p.2.data ≠ .cell v) : Inv X pins' σ H s :=
  ⟨I.ok, I.os, I.bare, I.base, I.loc, I.cell, I.free, I.freeC, fun p hp => (List.mem_append.mp hp).elim (fun z => I.pin p (List.mem_append_left _ z)) (h p), I.hok, I.len⟩

theorem nodup_ix {N : List Str} (hN : N.Nodup) {i j : Nat} {x : Str} (a : N[i]? = some x) (b : N[j]? = some x) : i = j := by
  obtain ⟨h1, e1⟩ := List.getElem?_eq_some_iff.mp a
  obtain ⟨h2, e2⟩ := List.getElem?_eq_some_iff.mp b
  exact (List.getElem_inj hN).mp (e1.trans e2.symm)

/-- a name is stored; what changed -/
theorem store_ok2 {M : Model} {A : Around} {E : Value → Shared → Prop} {i : Nat} {x : Str} {v : V} {u : Value} {Q : Unit → Shared → Prop} (I : Inv X pins σ H s) (hN : X.N.Nodup) (hi : X.N[i]? = some x) (hx : Loc X.env.scope x) (r : RelV v u)
    (h : ∀ s', Inv X pins (σ.set i (some v)) H s' → (∃ a, Heap.SameBut a s.heap s'.heap ∧ (a = X.env.locals ∨ X.env.cells.lookup x = some a)) → Q () s') (hf : X.fn x = true ∨ X.env.scope.names.lookup x = some .local := by first | exact .inl rfl | exact .inr rfl | assumption) : wpAny M A (storeName X.env x u) Q E s := by
  obtain ⟨m, hn, hl⟩ := id I.loc
  have hcls : (X.env.scope.kind == .class || (X.env.scope.kind == .module && X.env.locals != X.env.globals)) = false := by rw [I.ok.kind]; rfl
  have hiσ : i < σ.length := by rw [I.len]; exact (List.getElem?_eq_some_iff.mp hi).1
  have cne := I.cne
  have tracked : ∀ {a : Addr} {h' : Heap}, (∃ o, s.heap.get? a = some o ∧ H a = none) → Heap.SameBut a s.heap h' → HOk X.prog X.w H h' := fun {a h'} ha hs b ob e => by
    obtain ⟨_, _, hfree⟩ := ha
    refine (I.hok b ob e).stay (fun c w' hc q => (hs.2 c ?_).trans q) (fun _ q => q) fun _ _ q => q
    rintro rfl
    rcases hc with rfl | hc
    · rw [hfree] at e; cases e
    · rw [hfree] at hc; cases hc
  rcases hx with hk | hk
  · refine wpAny_storeName_local hk hn (fun h' hn' hs => ?_) hcls
    obtain ⟨oL, _, _, hoL, _⟩ := id hn
    refine h _ ⟨I.ok, I.os, I.bare, ⟨fun b o e n hb hx => ?_, fun b o e n hb hx => ?_, I.base.free, fun b o e hx => ?_, I.base.tups, I.base.frzs, I.base.tbls⟩, ⟨_, hn', fun j y v' e1 e2 e3 => ?_⟩, fun y c e => ?_, I.free, I.freeC, fun p hp => ?_, tracked ⟨oL, hoL, I.free⟩ hs, by simpa using I.len⟩ ⟨_, hs, .inl rfl⟩
    · exact (hs.2 b (Nat.ne_of_lt (Nat.lt_of_lt_of_le (Heap.lt_size e) I.ok.above))).trans (I.base.keep b o e n hb hx)
    · obtain ⟨sl, e1⟩ := I.base.slot b o e n hb hx
      exact ⟨sl, (hs.2 b (Nat.ne_of_lt (Nat.lt_of_lt_of_le (Heap.lt_size e) I.ok.above))).trans e1⟩
    · obtain ⟨o', e1⟩ := I.base.there b o e hx
      exact ⟨o', (hs.2 b (Nat.ne_of_lt (Nat.lt_of_lt_of_le (Heap.lt_size e) I.ok.above))).trans e1⟩
    · by_cases hj : j = i
      · subst hj
        rw [hi] at e1; cases e1
        rw [List.getElem?_set_self hiσ] at e2
        cases e2
        exact ⟨u, r, .inl ⟨hk, by simp⟩⟩
      · rw [List.getElem?_set_ne (Ne.symm hj)] at e2
        obtain ⟨u', r', q⟩ := hl j y v' e1 e2 e3
        refine ⟨u', r', ?_⟩
        rcases q with ⟨k, e⟩ | ⟨k, c, e, z⟩
        · refine .inl ⟨k, ?_⟩
          have : y ≠ x := fun e => hj (nodup_ix hN e1 (e ▸ hi))
          simp [this, e]
        · exact .inr ⟨k, c, e, z.sameBut hs (cne y c e)⟩
    · obtain ⟨w', z⟩ := I.cell y c e
      exact ⟨w', z.sameBut hs (cne y c e)⟩
    · obtain ⟨e, n, ne, nf, d⟩ := I.pin p hp
      exact ⟨(hs.2 p.1 ne).trans e, n, ne, nf, d⟩
  · have hfn : X.fn x = true := by
      rcases hf with z | z
      · exact z
      · rw [z] at hk; cases hk
    obtain ⟨c, hc⟩ := I.ok.has x (.inl hk)
    obtain ⟨w', z⟩ := I.cell x c hc
    refine wpAny_storeName_cell I.ok.kind hk hc z (fun h' hc' hs => ?_)
    obtain ⟨oc, hoc, hocd⟩ := id z
    refine h { s with heap := h' } ⟨I.ok, I.os, I.bare, ⟨fun b o e n hb hx => ?_, fun b o e n hb hx => ?_, I.base.free, fun b o e hx => ?_, I.base.tups, I.base.frzs, I.base.tbls⟩, ⟨m, hn.sameBut hs (Ne.symm (cne x c hc)), fun j y v' e1 e2 e3 => ?_⟩, fun y c' e => ?_, I.free, I.freeC, fun p hp => ?_, tracked ⟨oc, hoc, I.freeC x c hc⟩ hs, by simpa using I.len⟩ ⟨c, hs, .inr hc⟩
    · exact (hs.2 b (Nat.ne_of_lt (Nat.lt_of_lt_of_le (Heap.lt_size e) (I.ok.cab x c hfn hc)))).trans (I.base.keep b o e n hb hx)
    · obtain ⟨sl, e1⟩ := I.base.slot b o e n hb hx
      exact ⟨sl, (hs.2 b (Nat.ne_of_lt (Nat.lt_of_lt_of_le (Heap.lt_size e) (I.ok.cab x c hfn hc)))).trans e1⟩
    · obtain ⟨o', e1⟩ := I.base.there b o e hx
      exact ⟨o', (hs.2 b (Nat.ne_of_lt (Nat.lt_of_lt_of_le (Heap.lt_size e) (I.ok.cab x c hfn hc)))).trans e1⟩
    · by_cases hj : j = i
      · subst hj
        rw [hi] at e1; cases e1
        rw [List.getElem?_set_self hiσ] at e2
        cases e2
        exact ⟨u, r, .inr ⟨.inl hk, c, hc, hc'⟩⟩
      · rw [List.getElem?_set_ne (Ne.symm hj)] at e2
        obtain ⟨u', r', q⟩ := hl j y v' e1 e2 e3
        refine ⟨u', r', ?_⟩
        rcases q with q | ⟨k, c', e, z'⟩
        · exact .inl q
        · refine .inr ⟨k, c', e, z'.sameBut hs ?_⟩
          rintro rfl
          exact hj (nodup_ix hN e1 (I.ok.inj _ _ _ e hc ▸ hi))
    · by_cases hcc : c' = c
      · subst hcc; exact ⟨_, hc'⟩
      · obtain ⟨w2, z2⟩ := I.cell y c' e
        exact ⟨w2, z2.sameBut hs hcc⟩
    · obtain ⟨e, n, ne, nf, d⟩ := I.pin p hp
      refine ⟨(hs.2 p.1 ?_).trans e, n, ne, nf, d⟩
      intro q
      rw [q, hoc] at e
      have q' : oc = p.2 := Option.some.inj e
      exact d w' (by rw [← q']; exact hocd)
theorem store_ok {M : Model} {A : Around} {E : Value → Shared → Prop} {i : Nat} {x : Str} {v : V} {u : Value} {Q : Unit → Shared → Prop} (I : Inv X pins σ H s) (hN : X.N.Nodup) (hi : X.N[i]? = some x) (hx : Loc X.env.scope x) (r : RelV v u)
    (h : ∀ s', Inv X pins (σ.set i (some v)) H s' → Q () s') (hf : X.fn x = true ∨ X.env.scope.names.lookup x = some .local := by first | exact .inl rfl | exact .inr rfl | assumption) : wpAny M A (storeName X.env x u) Q E s :=
  store_ok2 I hN hi hx r (fun s' I' _ => h s' I') hf
/-- behind a call or a block, the state as it is -/
theorem Inv.call' {s' : Shared} {ch : List Addr} (I : Inv X pins σ H s) (ho : s'.os = s.os) (u : Un (frs X.stack) ch H H' s.heap s'.heap) (hok : HOk X.prog X.w H' s'.heap) (hg : AllBare s'.gens)
    (hch : ∀ b ∈ ch, (b ∈ X.ex ∨ X.s₀.heap.objs.size ≤ b) ∧ b ≠ X.env.locals ∧ (∀ x c, X.env.cells.lookup x = some c → c ≠ b) ∧ ∀ p ∈ X.pn ++ pins, p.1 ≠ b) : Inv X pins σ H' s' := by
  obtain ⟨h', g', d', t', o'⟩ := s'
  have e : o' = s.os := ho
  subst e
  exact I.call (g' := g') (t' := t') (d' := d') u hok hg hch
end

/-! ### the judgements -/
/-- an exception: its class, its own dict's address (where it has one), the abstract heap behind it -/
noncomputable abbrev XK := Value → Option Addr → Hp → Prop
noncomputable abbrev St := List (Option V)
noncomputable abbrev VK := V → Hp → Prop
/-- an expression's reading; a test's; an argument list's -/
noncomputable abbrev TE := St → Hp → VK → Prop
noncomputable abbrev TT := St → Hp → (Bool → Hp → Prop) → Prop
noncomputable abbrev TA := St → Hp → (List V → Hp → Prop) → Prop
/-- what is wanted behind a statement -/
structure Ends where
  nx : St → Hp → Prop
  rt : VK
  bk : St → Hp → Prop := fun _ _ => False
  ct : St → Hp → Prop := fun _ _ => False
noncomputable abbrev TS := Ends → St → Hp → Prop

noncomputable def EP (X : Cx) (pins : List (Addr × Obj)) (σ : St) (Q : VK) (u : Value) (s' : Shared) : Prop := ∃ v H', Inv X pins σ H' s' ∧ RelV v u ∧ Q v H'
noncomputable def TP (X : Cx) (pins : List (Addr × Obj)) (σ : St) (Q : Bool → Hp → Prop) (b : Bool) (s' : Shared) : Prop := ∃ H', Inv X pins σ H' s' ∧ Q b H'
noncomputable def AP (X : Cx) (pins : List (Addr × Obj)) (σ : St) (Q : List V → Hp → Prop) (us : List Value) (s' : Shared) : Prop := ∃ vs H', Inv X pins σ H' s' ∧ Vals vs us ∧ Q vs H'
noncomputable def SP (X : Cx) (pins : List (Addr × Obj)) (D : Ends) (f : Flow) (s' : Shared) : Prop :=
  match f with
  | .next => ∃ σ' H', Inv X pins σ' H' s' ∧ D.nx σ' H'
  | .brk => ∃ σ' H', Inv X pins σ' H' s' ∧ D.bk σ' H'
  | .cont => ∃ σ' H', Inv X pins σ' H' s' ∧ D.ct σ' H'
  | .ret u => ∃ v σ' H', Inv X pins σ' H' s' ∧ RelV v u ∧ D.rt v H'

noncomputable def PE (X : Cx) (e : Expr) (t : TE) : Prop :=
  ∀ (pins : List (Addr × Obj)) (s : Shared) (σ : St) (H : Hp) (Q : VK), Inv X pins σ H s → t σ H Q → wpAny (model X.prog X.w) X.A (eval e X.env) (EP X pins σ Q) X.xe s
noncomputable def PT (X : Cx) (e : Expr) (t : TT) : Prop :=
  ∀ (pins : List (Addr × Obj)) (s : Shared) (σ : St) (H : Hp) (Q : Bool → Hp → Prop), Inv X pins σ H s → t σ H Q → wpAny (model X.prog X.w) X.A (isTrue e X.env (eval e X.env)) (TP X pins σ Q) X.xe s
/-- a test whatever its 'whole' is (and, or) -/
noncomputable def PW (X : Cx) (e : Expr) (t : TT) : Prop :=
  ∀ (whole : Sem Value) (pins : List (Addr × Obj)) (s : Shared) (σ : St) (H : Hp) (Q : Bool → Hp → Prop), Inv X pins σ H s → t σ H Q → wpAny (model X.prog X.w) X.A (isTrue e X.env whole) (TP X pins σ Q) X.xe s
theorem PW.pt {X : Cx} {e : Expr} {t : TT} (h : PW X e t) : PT X e t := h _
/-- an argument list (no star), from the left -/
noncomputable def PA (X : Cx) (es : List Expr) (t : TA) : Prop :=
  ∀ (pos : Pos) (pins : List (Addr × Obj)) (s : Shared) (σ : St) (H : Hp) (Q : List V → Hp → Prop), Inv X pins σ H s → t σ H Q → wpAny (model X.prog X.w) X.A (spliced (backTo pos (starEach es X.env))) (AP X pins σ Q) X.xe s
noncomputable def PS (X : Cx) (st : Stmt) (t : TS) : Prop :=
  ∀ (pins : List (Addr × Obj)) (s : Shared) (σ : St) (H : Hp) (D : Ends), Inv X pins σ H s → t D σ H → wpAny (model X.prog X.w) X.A (exec st X.env) (SP X pins D) X.xe s
noncomputable def PSs (X : Cx) (st : List Stmt) (t : TS) : Prop :=
  ∀ (pins : List (Addr × Obj)) (s : Shared) (σ : St) (H : Hp) (D : Ends), Inv X pins σ H s → t D σ H → wpAny (model X.prog X.w) X.A (execs st X.env) (SP X pins D) X.xe s
/-- weaken the end -/
theorem thn {α : Type} {t : Sem α} {Q Q' : α → Shared → Prop} {M : Model} {A : Around} {E : Value → Shared → Prop} {s : Shared} (h : wpAny M A t Q E s) (hQ : ∀ a s, Q a s → Q' a s) : wpAny M A t Q' E s := wpAny_mono h hQ fun _ _ x => x
end L2

namespace L2
open PySem PySem.Spec PyProof.Rows
section
variable {X : Cx}

/-- two expressions in a row -/
theorem bin {a b : Expr} {ta tb : TE} (ha : PE X a ta) (hb : PE X b tb) {pins : List (Addr × Obj)} {s : Shared} {σ : St} {H : Hp} {R : V → V → Hp → Prop} (I : Inv X pins σ H s) (h : ta σ H fun x H1 => tb σ H1 fun y H2 => R x y H2)
    {α : Type} {Q : α → Shared → Prop} {f : Value → Value → Sem α}
    (hf : ∀ v u s2 x y H2, Inv X pins σ H2 s2 → RelV x v → RelV y u → R x y H2 → wpAny (model X.prog X.w) X.A (f v u) Q X.xe s2) :
    wpAny (model X.prog X.w) X.A (eval a X.env) (fun v s₁ => wpAny (model X.prog X.w) X.A (eval b X.env) (fun u s₂ => wpAny (model X.prog X.w) X.A (f v u) Q X.xe s₂) X.xe s₁) X.xe s := by
  refine thn (ha pins s σ H _ I h) fun v s1 ⟨x, H1, I1, r1, q1⟩ => ?_
  refine thn (hb pins s1 σ H1 _ I1 q1) fun u s2 ⟨y, H2, I2, r2, q2⟩ => ?_
  exact hf v u s2 x y H2 I2 r1 r2 q2

/-! ### names and constants -/
noncomputable def tVar (i : Nat) : TE := fun σ H Q => ∃ v, σ[i]? = some (some v) ∧ Q v H
noncomputable def tC (v : V) : TE := fun _ H Q => Q v H
theorem pe_var {i : Nat} {x : Str} {pos : Pos} (hN : X.N[i]? = some x) (hv : Vis X.env.scope x) (hd : (x == ("__debug__" : Str)) = false := by decide) (hcd : (x == ("__classdict__" : Str)) = false := by decide) : PE X (.Name x pos) (tVar i) := by
  intro pins s σ H Q I h
  obtain ⟨v, e, h⟩ := h
  obtain ⟨m, hn, hl⟩ := I.loc
  obtain ⟨u, r, l⟩ := hl i x v hN e hv
  have fin : EP X pins σ Q u s := ⟨v, H, I, r, h⟩
  rcases l with ⟨hk, hm⟩ | ⟨hk, c, hc, hcell⟩
  · exact wpAny_Name (wpAny_loadName_local I.ok.kind hk hn hm fin) hd
  · rcases hk with hk | hk
    · exact wpAny_Name (wpAny_loadName_cell I.ok.kind hk hc hcell fin) hd
    · exact wpAny_Name (wpAny_loadName_free I.ok.kind hk hc hcell fin hcd) hd
theorem pe_int {i j pos} : PE X (.Constant (.int i) j pos) (tC (.int i)) := fun _ _ _ H _ I h => wpAny_Constant_int ⟨.int i, H, I.tok _, ⟨_, rfl⟩, h⟩
theorem pe_bl {b j pos} : PE X (.Constant (.bool b) j pos) (tC (.bl b)) := fun _ _ _ H _ I h => Constant_bool ⟨.bl b, H, I, rfl, h⟩
theorem pe_non {j pos} : PE X (.Constant .none j pos) (tC .non) := fun _ _ _ H _ I h => Constant_none ⟨.non, H, I, rfl, h⟩
theorem pe_str {x j pos} : PE X (.Constant (.str x) j pos) (tC (.str x)) := fun _ _ _ H _ I h => Calls.Constant_str ⟨.str x, H, I.tok _, ⟨_, rfl⟩, h⟩

/-- a global name of the def -/
noncomputable def Gl (X : Cx) (x : Str) : Prop := X.env.kindOf x = some .globalImplicit
theorem ld_glob {E : Value → Shared → Prop} {pins : List (Addr × Obj)} {s : Shared} {σ : St} {H : Hp} {x : Str} {u : Value} {pos : Pos} {Q : Value → Shared → Prop} (I : Inv X pins σ H s) (hg : Gl X x) (hm : X.mg x = some u) (h : Q u s)
    (hd : (x == ("__debug__" : Str)) = false := by decide) : wpAny (model X.prog X.w) X.A (eval (.Name x pos) X.env) Q E s :=
  Calls.Name_function_global I.ok.kind hg (Calls.loadGlobal_global (by rw [I.ok.glob]; exact I.mod.glob.keeps I.bk) hm h) hd
theorem ld_blt {E : Value → Shared → Prop} {pins : List (Addr × Obj)} {s : Shared} {σ : St} {H : Hp} {x : Str} {u : Value} {pos : Pos} {Q : Value → Shared → Prop} (I : Inv X pins σ H s) (hg : Gl X x) (hm : X.mg x = none) (hv : bootBuiltins x = some u) (h : Q u s)
    (hn : x ≠ "__name__" := by decide) (hd : (x == ("__debug__" : Str)) = false := by decide) : wpAny (model X.prog X.w) X.A (eval (.Name x pos) X.env) Q E s := by
  obtain ⟨mb, h1, h2⟩ := I.mod.blt
  exact Calls.Name_function_global I.ok.kind hg (Calls.loadGlobal_builtin (by rw [I.ok.glob]; exact I.mod.glob.keeps I.bk) hm (by rw [I.ok.blt]; exact h1.keeps I.bk) ((h2 x hn).trans hv) h) hd
/-- a module's constant, a class, a function, as a value -/
theorem pe_glob {x : Str} {v : V} {u : Value} {pos : Pos} (hg : Gl X x) (hm : X.mg x = some u) (r : RelV v u) (hd : (x == ("__debug__" : Str)) = false := by decide) : PE X (.Name x pos) (tC v) :=
  fun _ _ _ H _ I h => ld_glob I hg hm ⟨v, H, I, r, h⟩ hd
theorem pe_bltn {x : Str} {v : V} {u : Value} {pos : Pos} (hg : Gl X x) (hm : X.mg x = none) (hv : bootBuiltins x = some u) (r : RelV v u) (hn : x ≠ "__name__" := by decide) (hd : (x == ("__debug__" : Str)) = false := by decide) : PE X (.Name x pos) (tC v) :=
  fun _ _ _ H _ I h => ld_blt I hg hm hv ⟨v, H, I, r, h⟩ hn hd

/-! ### arithmetic -/
/-- two ints -/
noncomputable def t2I (ta tb : TE) (k : Int → Int → Hp → Prop) : St → Hp → Prop := fun σ H => ta σ H fun x H1 => tb σ H1 fun y H2 => ∃ i j, x = .int i ∧ y = .int j ∧ k i j H2
variable {a b : Expr} {ta tb : TE} {pos : Pos}
/-! ### comparisons -/
noncomputable def PC (X : Cx) (op : CmpOp) (a b : Expr) (t : TE) : Prop :=
  ∀ (pins : List (Addr × Obj)) (s : Shared) (σ : St) (H : Hp) (Q : VK), Inv X pins σ H s → t σ H Q →
    wpAny (model X.prog X.w) X.A (eval a X.env) (fun v s₁ => wpAny (model X.prog X.w) X.A (eval b X.env) (fun u s₂ => wpAny (model X.prog X.w) X.A (compareOp op v u) (EP X pins σ Q) X.xe s₂) X.xe s₁) X.xe s
theorem nobehind (b : Expr) {op : CmpOp} (h : op ≠ .In) (h2 : op ≠ .NotIn) : behindInMarks op b = false := by
  have e1 : (op == CmpOp.In) = false := by cases op <;> first | rfl | exact absurd rfl h
  have e2 : (op == CmpOp.NotIn) = false := by cases op <;> first | rfl | exact absurd rfl h2
  cases b <;> simp [behindInMarks, e1, e2]
noncomputable def tCmp (p : Int → Int → Bool) (ta tb : TE) : TE := fun σ H Q => t2I ta tb (fun i j H2 => Q (.bl (p i j)) H2) σ H
noncomputable abbrev tLe : TE → TE → TE := tCmp fun i j => decide (i ≤ j)
/-- a comparison of two ints, by its rule -/
theorem pc_int {op : CmpOp} {p : Int → Int → Bool} (ha : PE X a ta) (hb : PE X b tb)
    (rule : ∀ (i j : Int) (t u : Tok) (Q : Value → Shared → Prop) (s : Shared), Q (.bool (p i j)) s → wpAny (model X.prog X.w) X.A (compareOp op (.int i t) (.int j u)) Q X.xe s) : PC X op a b (tCmp p ta tb) := by
  intro pins s σ H Q I h
  refine bin ha hb I h fun v u s2 x y H2 I2 rx ry q => ?_
  obtain ⟨i, j, rfl, rfl, q⟩ := q
  obtain ⟨t, rfl⟩ := rx
  obtain ⟨t', rfl⟩ := ry
  exact rule i j t t' _ s2 ⟨.bl _, H2, I2, rfl, q⟩
theorem pc_le (ha : PE X a ta) (hb : PE X b tb) : PC X .LtE a b (tLe ta tb) := pc_int ha hb fun _ _ _ _ _ _ h => le_int h
/-- a comparison as a value, as a test -/
noncomputable def tB (t : TE) : TT := fun σ H Q => t σ H fun x H1 => ∃ c, x = .bl c ∧ Q c H1
theorem pt_cmp {op : CmpOp} {t : TE} (h : PC X op a b t) (h1 : behindInMarks op b = false := by first | exact nobehind _ (by decide) (by decide) | rfl) : PT X (.Compare a [op] [b] pos) (tB t) := by
  intro pins s σ H Q I hw
  refine wpAny_isTrue_Compare1 (thn (h pins s σ H _ I hw) fun v s1 h1 => thn h1 fun u s2 h2 => thn h2 fun c s3 ⟨x, H1, I1, r1, q1⟩ => ?_) h1
  obtain ⟨d, rfl, q⟩ := q1
  cases r1
  exact wpAny_truthy_bool ⟨H1, I1, q⟩
/-- an expression whose value is a bool, as a test -/
theorem pt_val {e : Expr} {t : TE} (h : PE X e t) (he : ∀ whole, isTrue e X.env whole = (do let v ← whole; standAt e.pos; holding [v] (truthy v)) := by intro _; rfl) : PT X e (tB t) := by
  intro pins s σ H Q I hw
  refine isTrue_plain (thn (h pins s σ H _ I hw) fun v s1 ⟨x, H1, I1, r1, q1⟩ => ?_) (he _)
  obtain ⟨d, rfl, q⟩ := q1
  cases r1
  exact wpAny_truthy_bool ⟨H1, I1, q⟩

/-! ### and, or, not -/
variable {tA tB' : TT} {rest : List Expr}
noncomputable def tAnd (t u : TT) : TT := fun σ H Q => t σ H fun c H1 => if c = true then u σ H1 Q else Q false H1
noncomputable def tOr (t u : TT) : TT := fun σ H Q => t σ H fun c H1 => if c = true then Q true H1 else u σ H1 Q
noncomputable def tNot (t : TT) : TT := fun σ H Q => t σ H fun c H1 => Q (!c) H1
theorem pw_and1 (ha : PT X a tA) : PW X (.BoolOp .And [a] pos) tA := by
  intro wh pins s σ H Q I h
  refine isTrue_and (thn (ha pins s σ H Q I h) fun c s1 e => ?_)
  cases c with
  | true => exact isTrue_and_nil e
  | false => exact e
theorem pw_or1 (ha : PT X a tA) : PW X (.BoolOp .Or [a] pos) tA := by
  intro wh pins s σ H Q I h
  refine isTrue_or (thn (ha pins s σ H Q I h) fun c s1 e => ?_)
  cases c with
  | false => exact isTrue_or_nil e
  | true => exact e
theorem pw_and (ha : PT X a tA) (hb : PW X (.BoolOp .And (b :: rest) pos) tB') : PW X (.BoolOp .And (a :: b :: rest) pos) (tAnd tA tB') := by
  intro wh pins s σ H Q I h
  refine isTrue_and (thn (ha pins s σ H _ I h) fun c s1 ⟨H1, I1, q1⟩ => ?_)
  cases c with
  | true => exact hb wh pins s1 σ H1 Q I1 q1
  | false => exact ⟨H1, I1, q1⟩
theorem pw_or (ha : PT X a tA) (hb : PW X (.BoolOp .Or (b :: rest) pos) tB') : PW X (.BoolOp .Or (a :: b :: rest) pos) (tOr tA tB') := by
  intro wh pins s σ H Q I h
  refine isTrue_or (thn (ha pins s σ H _ I h) fun c s1 ⟨H1, I1, q1⟩ => ?_)
  cases c with
  | true => exact ⟨H1, I1, q1⟩
  | false => exact hb wh pins s1 σ H1 Q I1 q1
theorem pt_not (ha : PT X a tA) : PT X (.UnaryOp .Not a pos) (tNot tA) := by
  intro pins s σ H Q I h
  exact isTrue_not (ha pins s σ H (fun c H1 => Q (!c) H1) I h)
/-- .. as values (bools) -/
noncomputable def tAndV (ta tb : TE) : TE := fun σ H Q => ta σ H fun x H1 => ∃ c, x = .bl c ∧ if c = true then tb σ H1 Q else Q (.bl false) H1
noncomputable def tOrV (ta tb : TE) : TE := fun σ H Q => ta σ H fun x H1 => ∃ c, x = .bl c ∧ if c = true then Q (.bl true) H1 else tb σ H1 Q
noncomputable def tNotV (ta : TE) : TE := fun σ H Q => ta σ H fun x H1 => ∃ c, x = .bl c ∧ Q (.bl (!c)) H1
theorem pe_one {op} {t : TE} (h : PE X a t) : PE X (.BoolOp op [a] pos) t := fun pins s σ H Q I hw => BoolOp_one (h pins s σ H Q I hw)
theorem pe_and (ha : PE X a ta) (hb : PE X (.BoolOp .And (b :: rest) pos) tb) : PE X (.BoolOp .And (a :: b :: rest) pos) (tAndV ta tb) := by
  intro pins s σ H Q I h
  refine BoolOp_and (thn (ha pins s σ H _ I h) fun v s1 ⟨x, H1, I1, r1, q1⟩ => ?_)
  obtain ⟨c, rfl, q1⟩ := q1
  cases r1
  refine wpAny_truthy_bool ?_
  cases c with
  | true => exact hb pins s1 σ H1 Q I1 q1
  | false => exact ⟨.bl false, H1, I1, rfl, q1⟩
theorem pe_or (ha : PE X a ta) (hb : PE X (.BoolOp .Or (b :: rest) pos) tb) : PE X (.BoolOp .Or (a :: b :: rest) pos) (tOrV ta tb) := by
  intro pins s σ H Q I h
  refine BoolOp_or (thn (ha pins s σ H _ I h) fun v s1 ⟨x, H1, I1, r1, q1⟩ => ?_)
  obtain ⟨c, rfl, q1⟩ := q1
  cases r1
  refine wpAny_truthy_bool ?_
  cases c with
  | false => exact hb pins s1 σ H1 Q I1 q1
  | true => exact ⟨.bl true, H1, I1, rfl, q1⟩
theorem pe_not (ha : PE X a ta) : PE X (.UnaryOp .Not a pos) (tNotV ta) := by
  intro pins s σ H Q I h
  refine UnaryOp_ (thn (ha pins s σ H _ I h) fun v s1 ⟨x, H1, I1, r1, q1⟩ => ?_)
  obtain ⟨c, rfl, q1⟩ := q1
  cases r1
  exact not_of (wpAny_truthy_bool ⟨.bl (!c), H1, I1, rfl, q1⟩)
/-- a if t else b -/
noncomputable def tIf (t : TT) (ta tb : TE) : TE := fun σ H Q => t σ H fun c H1 => if c = true then ta σ H1 Q else tb σ H1 Q
theorem pe_ifExp {c : Expr} (hc : PT X c tA) (ha : PE X a ta) (hb : PE X b tb) : PE X (.IfExp c a b pos) (tIf tA ta tb) := by
  intro pins s σ H Q I h
  refine wpAny_IfExp (thn (hc pins s σ H _ I h) fun d s1 ⟨H1, I1, q1⟩ => ?_)
  cases d with
  | true => exact ha pins s1 σ H1 Q I1 q1
  | false => exact hb pins s1 σ H1 Q I1 q1
end
end L2

namespace L2
open PySem PySem.Spec PyProof.Rows

/-! ### a list, a tuple that is read: tracked, frozen, or an object of the module -/
noncomputable def SqL (K : PySem.W.Frag) (H : Hp) (a : Addr) (xs : List V) : Prop :=
  Rd H a (.lst xs) ∨
    ∃ (o : Obj) (its : Array Value) (n : Nat), K.lookup a = some o ∧ o.cls = .type "list" ∧ o.dict = none ∧ o.data = .seq its n ∧ its.size ≤ sizeLine ∧ Vals xs its.toList
noncomputable def SqT (K : PySem.W.Frag) (H : Hp) (a : Addr) (xs : List V) : Prop :=
  Rd H a (.tup xs) ∨
    ∃ (o : Obj) (its : Array Value) (n : Nat), K.lookup a = some o ∧ o.cls = .type "tuple" ∧ o.data = .seq its n ∧ its.size ≤ sizeLine ∧ Vals xs its.toList
noncomputable def absV : Value → Option V
  | .none => some .non
  | .bool b => some (.bl b)
  | .int i _ => some (.int i)
  | .str x _ => some (.str x)
  | .bytes b _ => some (.byt b)
  | .float b _ => some (.flt b)
  | .ref a => some (.ref a)
  | .type n => some (.ty n)
  | _ => none
theorem RelV.abs {x : V} {u : Value} (r : RelV x u) : absV u = some x := by
  cases x with
  | non => cases r; rfl
  | bl _ => cases r; rfl
  | int _ => obtain ⟨t, rfl⟩ := r; rfl
  | str _ => obtain ⟨t, rfl⟩ := r; rfl
  | byt _ => obtain ⟨t, rfl⟩ := r; rfl
  | flt _ => obtain ⟨t, rfl⟩ := r; rfl
  | ref _ => cases r; rfl
  | ty _ => cases r; rfl
theorem RelV.inj {x y : V} {u : Value} (r : RelV x u) (q : RelV y u) : x = y := Option.some.inj (r.abs.symm.trans q.abs)
theorem Vals.inj : ∀ {xs ys : List V} {us : List Value}, Vals xs us → Vals ys us → xs = ys
  | _, _, _, .nil, .nil => rfl
  | _, _, _, .cons r t, .cons r' t' => by rw [r.inj r', Vals.inj t t']
section
variable {X : Cx} {pins : List (Addr × Obj)} {σ : St} {H : Hp} {s : Shared} {a : Addr} {xs ys : List V}
theorem SqL.of {K : PySem.W.Frag} (h : H a = some (.lst xs)) : SqL K H a xs := .inl (.inl h)
theorem SqT.of {K : PySem.W.Frag} (h : H a = some (.tup xs)) : SqT K H a xs := .inl (.inl h)
theorem Inv.list (I : Inv X pins σ H s) (h : SqL X.K H a xs) : ∃ its : List Value, Vals xs its ∧ PlainL s.heap a its.toArray ∧ xs.length ≤ sizeLine := by
  rcases h with h | ⟨o, its, n, hk, hc, hd, hs, hz, r⟩
  · obtain ⟨z, its, n, r, e⟩ := h.ok I.hok
    exact ⟨its, r, ⟨_, n, e, rfl, rfl, rfl⟩, z⟩
  · refine ⟨its.toList, r, ⟨o, n, I.kIn a o hk, hc, hd, by simpa using hs⟩, ?_⟩
    have e := r.length
    simp only [Array.length_toList] at e
    lia
theorem Inv.tuple (I : Inv X pins σ H s) (h : SqT X.K H a xs) : ∃ its : List Value, Vals xs its ∧ IsTup s.heap a its.toArray ∧ xs.length ≤ sizeLine := by
  rcases h with h | ⟨o, its, n, hk, hc, hs, hz, r⟩
  · obtain ⟨z, its, r, p⟩ := h.ok I.hok
    exact ⟨its, r, p.tup, z⟩
  · refine ⟨its.toList, r, ⟨o, I.kIn a o hk, hc, n, by simpa using hs⟩, ?_⟩
    have e := r.length
    simp only [Array.length_toList] at e
    lia
theorem Inv.list_inj (I : Inv X pins σ H s) (h : SqL X.K H a xs) (h' : SqL X.K H a ys) : xs = ys := by
  obtain ⟨its, r, ⟨o, n, e, _, _, d⟩, _⟩ := I.list h
  obtain ⟨its', r', ⟨o', n', e', _, _, d'⟩, _⟩ := I.list h'
  rw [e] at e'; cases e'
  rw [d] at d'
  injection d' with d1 _
  have : its = its' := by simpa using congrArg Array.toList d1
  subst this
  exact r.inj r'
theorem Inv.tuple_inj (I : Inv X pins σ H s) (h : SqT X.K H a xs) (h' : SqT X.K H a ys) : xs = ys := by
  obtain ⟨its, r, ⟨o, e, _, n, d⟩, _⟩ := I.tuple h
  obtain ⟨its', r', ⟨o', e', _, n', d'⟩, _⟩ := I.tuple h'
  rw [e] at e'; cases e'
  rw [d] at d'
  injection d' with d1 _
  have : its = its' := by simpa using congrArg Array.toList d1
  subst this
  exact r.inj r'
end

/-! ### another wish about exceptions -/
noncomputable abbrev Cx.wish (X : Cx) (E : Value → Shared → Prop) : Cx := { X with xe := E }
/-- no exception leaves -/
noncomputable abbrev Cx.nox (X : Cx) : Cx := X.wish fun _ _ => False
theorem Cx.Ok.wish {X : Cx} (ok : X.Ok) (E : Value → Shared → Prop) : (X.wish E).Ok :=
  ⟨ok.mod, ok.kind, ok.glob, ok.blt, ok.above, ok.inj, ok.has, ok.cab, ok.hd, ok.frames, ok.stk, ok.exf, ok.bs, ok.bsz, ok.noex, ok.exfs, ok.funs, ok.frf⟩
theorem Cx.Ok.unwish {X : Cx} {E : Value → Shared → Prop} (ok : (X.wish E).Ok) : X.Ok :=
  ⟨ok.mod, ok.kind, ok.glob, ok.blt, ok.above, ok.inj, ok.has, ok.cab, ok.hd, ok.frames, ok.stk, ok.exf, ok.bs, ok.bsz, ok.noex, ok.exfs, ok.funs, ok.frf⟩
section
variable {X : Cx} {pins : List (Addr × Obj)} {σ : St} {H : Hp} {s : Shared} {E : Value → Shared → Prop}
theorem Inv.wish (I : Inv X pins σ H s) (E : Value → Shared → Prop) : Inv (X.wish E) pins σ H s := ⟨I.ok.wish E, I.os, I.bare, I.base, I.loc, I.cell, I.free, I.freeC, I.pin, I.hok, I.len⟩
theorem Inv.unwish (I : Inv (X.wish E) pins σ H s) : Inv X pins σ H s := ⟨I.ok.unwish, I.os, I.bare, I.base, I.loc, I.cell, I.free, I.freeC, I.pin, I.hok, I.len⟩
theorem SP.unwish {D : Ends} {f : Flow} {s' : Shared} (h : SP (X.wish E) pins D f s') : SP X pins D f s' := by
  cases f with
  | next => obtain ⟨σ', H', I, q⟩ := h; exact ⟨σ', H', I.unwish, q⟩
  | brk => obtain ⟨σ', H', I, q⟩ := h; exact ⟨σ', H', I.unwish, q⟩
  | cont => obtain ⟨σ', H', I, q⟩ := h; exact ⟨σ', H', I.unwish, q⟩
  | ret u => obtain ⟨v, σ', H', I, r, q⟩ := h; exact ⟨v, σ', H', I.unwish, r, q⟩
theorem PSs.nox {st : List Stmt} {t : TS} (h : PSs X.nox st t) : PSs X st t := fun pins s σ H D I hw =>
  wpAny_mono (h pins s σ H D (I.wish _) hw) (fun _ _ q => q.unwish) fun _ _ z => False.elim z
end

/-! ### blocks and small statements -/
section
variable {X : Cx} {st : Stmt} {rest : List Stmt} {t u : TS} {e : Expr} {te : TE} {pos : Pos}
noncomputable def tNext : TS := fun D σ H => D.nx σ H
noncomputable def tSeq (t u : TS) : TS := fun D σ H => t { D with nx := u D } σ H
theorem pss_nil : PSs X [] tNext := fun _ _ σ H _ I h => wpAny_execs_nil ⟨σ, H, I, h⟩
theorem pss_cons (h1 : PS X st t) (h2 : PSs X rest u) : PSs X (st :: rest) (tSeq t u) := by
  intro pins s σ H D I h
  refine wpAny_execs_cons (thn (h1 pins s σ H { D with nx := u D } I h) fun f s1 q => ?_)
  cases f with
  | next =>
    obtain ⟨σ', H', I', q⟩ := q
    exact h2 pins s1 σ' H' D I' q
  | ret v => exact q
  | brk => exact q
  | cont => exact q
theorem pss_one (h1 : PS X st t) : PSs X [st] t := by
  intro pins s σ H D I h
  refine wpAny_execs_cons (thn (h1 pins s σ H D I h) fun f s1 q => ?_)
  cases f with
  | next => exact wpAny_execs_nil q
  | ret v => exact q
  | brk => exact q
  | cont => exact q
noncomputable def tCont : TS := fun D σ H => D.ct σ H
theorem ps_continue : PS X (.Continue pos) tCont := fun _ _ σ H _ I h => wpAny_Continue ⟨σ, H, I, h⟩
/-- in a def's body nothing is shown -/
theorem Inv.quiet {pins : List (Addr × Obj)} {σ : St} {H : Hp} {s : Shared} (I : Inv X pins σ H s) : interactive X.env = false := by simp [interactive, I.ok.kind]
/-- an expression whose value is dropped -/
noncomputable def tDrop (te : TE) : TS := fun D σ H => te σ H fun _ H1 => D.nx σ H1
theorem ps_expr (he : PE X e te) (hs : swapsWith e none pos.line X.env = pure false := by rfl) : PS X (.Expr e pos) (tDrop te) := by
  intro pins s σ H D I h
  exact wpAny_Expr_any (thn (he pins s σ H _ I h) fun v s1 ⟨x, H1, I1, r1, q1⟩ => ⟨σ, H1, I1, q1⟩) I.quiet hs
noncomputable def tRet (te : TE) : TS := fun D σ H => te σ H D.rt
theorem ps_ret (he : PE X e te) : PS X (.Return (some e) pos) (tRet te) := by
  intro pins s σ H D I h
  exact wpAny_Return_some (thn (he pins s σ H _ I h) fun v s1 ⟨x, H1, I1, r1, q1⟩ => ⟨x, σ, H1, I1, r1, q1⟩)
noncomputable def tIfS (c : TT) (t u : TS) : TS := fun D σ H => c σ H fun b H1 => if b = true then t D σ H1 else u D σ H1
theorem ps_if {c : Expr} {a b : List Stmt} {tc : TT} (hc : PT X c tc) (ha : PSs X a t) (hb : PSs X b u) : PS X (.If c a b pos) (tIfS tc t u) := by
  intro pins s σ H D I h
  refine wpAny_If (thn (hc pins s σ H _ I h) fun d s1 ⟨H1, I1, q1⟩ => ?_)
  cases d with
  | true => exact ha pins s1 σ H1 D I1 q1
  | false => exact hb pins s1 σ H1 D I1 q1
end

/-! ### targets -/
noncomputable abbrev TG := V → St → Hp → (St → Hp → Prop) → Prop
noncomputable abbrev TGs := List V → St → Hp → (St → Hp → Prop) → Prop
noncomputable def PG (X : Cx) (target : Expr) (t : TG) : Prop :=
  ∀ (pins : List (Addr × Obj)) (s : Shared) (σ : St) (H : Hp) (v : V) (u : Value) (Q : St → Hp → Prop), Inv X pins σ H s → RelV v u → t v σ H Q →
    wpAny (model X.prog X.w) X.A (assign target X.env u) (fun _ s' => ∃ σ' H', Inv X pins σ' H' s' ∧ Q σ' H') X.xe s
/-- several targets, one after another -/
noncomputable def PGs (X : Cx) (ts : List Expr) (t : TGs) : Prop :=
  ∀ (pins : List (Addr × Obj)) (s : Shared) (σ : St) (H : Hp) (vs : List V) (us : List Value) (Q : St → Hp → Prop), Inv X pins σ H s → Vals vs us → t vs σ H Q →
    wpAny (model X.prog X.w) X.A (assignInOrder ((assignEach ts X.env).map (·.2)) us) (fun _ s' => ∃ σ' H', Inv X pins σ' H' s' ∧ Q σ' H') X.xe s
/-- a op= b, by values -/
noncomputable abbrev TIp := V → V → Hp → VK → Prop
noncomputable def PIp (X : Cx) (op : Operator) (t : TIp) : Prop :=
  ∀ (pins : List (Addr × Obj)) (s : Shared) (σ : St) (H : Hp) (x y : V) (v u : Value) (Q : VK), Inv X pins σ H s → RelV x v → RelV y u → t x y H Q →
    wpAny (model X.prog X.w) X.A (inplaceOp op v u) (EP X pins σ Q) X.xe s
section
variable {X : Cx} {pos : Pos}
noncomputable def gName (i : Nat) : TG := fun v σ H Q => Q (σ.set i (some v)) H
theorem pg_name {i : Nat} {x : Str} (hN : X.N.Nodup) (hi : X.N[i]? = some x) (hx : Loc X.env.scope x) (hf : X.fn x = true ∨ X.env.scope.names.lookup x = some .local := by first | exact .inl rfl | exact .inr rfl | assumption) : PG X (.Name x pos) (gName i) := by
  intro pins s σ H v u Q I r h
  exact wpAny_assign_Name (store_ok I hN hi hx r (fun s' I' => ⟨_, H, I', h⟩) hf)
noncomputable def gNil : TGs := fun vs σ H Q => vs = [] ∧ Q σ H
noncomputable def gCons (t : TG) (u : TGs) : TGs := fun vs σ H Q => ∃ v r, vs = v :: r ∧ t v σ H fun σ' H' => u r σ' H' Q
theorem pgs_nil : PGs X [] gNil := by
  intro pins s σ H vs us Q I r h
  obtain ⟨e, h⟩ := h
  subst e
  cases r
  exact assignInOrder_nil ⟨σ, H, I, h⟩
theorem pgs_cons {e : Expr} {es : List Expr} {t : TG} {u : TGs} (h1 : PG X e t) (h2 : PGs X es u)
    (hs : (assignEach (e :: es) X.env).map (·.2) = assign e X.env :: (assignEach es X.env).map (·.2) := by rfl) : PGs X (e :: es) (gCons t u) := by
  intro pins s σ H vs us Q I r h
  obtain ⟨v, vr, e1, h⟩ := h
  subst e1
  cases r with
  | cons r rr =>
    rw [hs]
    refine assignInOrder_cons (thn (h1 pins s σ H _ _ _ I r h) fun _ s1 ⟨σ1, H1, I1, q1⟩ => ?_)
    exact h2 pins s1 σ1 H1 _ _ Q I1 rr q1
/-- (a, b, ..) = a tuple of that length -/
noncomputable def gTup (K : PySem.W.Frag) (n : Nat) (t : TGs) : TG := fun v σ H Q => ∃ a xs, v = .ref a ∧ SqT K H a xs ∧ xs.length = n ∧ t xs σ H Q
theorem pg_tup {es : List Expr} {k : Nat} {t : TGs} {n : Nat} (hc : X.calm = true) (h : PGs X es t)
    (hn : (assignEach es X.env).length = n := by rfl) (hst : (assignEach es X.env).findIdx? (·.1) = none := by rfl) : PG X (.Tuple es k pos) (gTup X.K n t) := by
  intro pins s σ H v u Q I r hw
  obtain ⟨a, xs, e1, hq, hl, hw⟩ := hw
  subst e1
  cases r
  obtain ⟨its, rv, ht, hz⟩ := I.tuple hq
  refine assign_Tuple_tuple (I.ok.hd hc) ht (by simp [hn, ← hl, rv.length]) hst fun h' hx => ?_
  have I1 : Inv X pins σ H { s with heap := h' } := I.kept (t' := s.toks) fun b o e => hx b o (Nat.ne_of_lt (Heap.lt_size e)) e
  exact h pins _ σ H xs _ Q I1 (by simpa using rv) hw
/-- target = value -/
noncomputable def tAsg (te : TE) (g : TG) : TS := fun D σ H => te σ H fun x H1 => g x σ H1 D.nx
theorem ps_asg {tg e : Expr} {te : TE} {g : TG} (he : PE X e te) (hg : PG X tg g) (hs : swapsWithSole [tg] e pos.line X.env = pure false := by rfl) (hw : swappedStores [tg] e X.env = pure none := by rfl)
    (h1 : (assignEach [tg] X.env).map (·.2) = [assign tg X.env] := by rfl) : PS X (.Assign [tg] e pos) (tAsg te g) := by
  intro pins s σ H D I h
  refine wpAny_Assign_stores (thn (he pins s σ H _ I h) fun v s1 ⟨x, H1, I1, r1, q1⟩ => ?_) hs hw
  rw [h1]
  exact thn (hg pins s1 σ H1 x v _ I1 r1 q1) fun _ s2 q => q
/-- name = value -/
theorem ps_set {i : Nat} {x : Str} {e : Expr} {te : TE} {pos' : Pos} (hN : X.N.Nodup) (hi : X.N[i]? = some x) (hx : Loc X.env.scope x) (he : PE X e te) (hs : swapsWith e (some (.Name x pos')) pos.line X.env = pure false := by rfl) (hf : X.fn x = true ∨ X.env.scope.names.lookup x = some .local := by first | exact .inl rfl | exact .inr rfl | assumption) :
    PS X (.Assign [.Name x pos'] e pos) (tAsg te (gName i)) := by
  intro pins s σ H D I h
  refine wpAny_Assign_Name (thn (he pins s σ H _ I h) fun v s1 ⟨y, H1, I1, r1, q1⟩ => ?_) hs
  exact store_ok I1 hN hi hx r1 (fun s2 I2 => ⟨_, H1, I2, q1⟩) hf
/-- name op= e -/
noncomputable def tAug (i : Nat) (te : TE) (ti : TIp) : TS := fun D σ H => ∃ x, σ[i]? = some (some x) ∧ te σ H fun y H1 => ti x y H1 fun z H2 => D.nx (σ.set i (some z)) H2
theorem ps_aug {i : Nat} {x : Str} {e : Expr} {te : TE} {op : Operator} {ti : TIp} {pos' : Pos} (hN : X.N.Nodup) (hi : X.N[i]? = some x) (hx : Loc X.env.scope x) (he : PE X e te) (ho : PIp X op ti) (hf : X.fn x = true ∨ X.env.scope.names.lookup x = some .local := by first | exact .inl rfl | exact .inr rfl | assumption) :
    PS X (.AugAssign (.Name x pos') op e pos) (tAug i te ti) := by
  intro pins s σ H D I h
  obtain ⟨v, e1, h⟩ := h
  obtain ⟨m, hn, hl⟩ := I.loc
  have vis : Vis X.env.scope x := by rcases hx with k | k; exact .inl k; exact .inr (.inl k)
  obtain ⟨u, r, l⟩ := hl i x v hi e1 vis
  refine wpAny_AugAssign_Name ?_
  have go : wpAny (model X.prog X.w) X.A (eval e X.env) (fun w s₂ => wpAny (model X.prog X.w) X.A (inplaceOp op u w) (fun r s₃ => wpAny (model X.prog X.w) X.A (storeName X.env x r) (fun _ => SP X pins D .next) X.xe s₃) X.xe s₂) X.xe s := by
    refine thn (he pins s σ H _ I h) fun w s1 ⟨y, H1, I1, r1, q1⟩ => ?_
    refine thn (ho pins s1 σ H1 v y u w _ I1 r r1 q1) fun z s2 ⟨zv, H2, I2, r2, q2⟩ => ?_
    exact store_ok I2 hN hi hx r2 (fun s3 I3 => ⟨_, H2, I3, q2⟩) hf
  rcases l with ⟨hk, hm⟩ | ⟨hk, c, hc, hcell⟩
  · exact wpAny_loadName_local I.ok.kind hk hn hm go
  · rcases hk with hk | hk
    · exact wpAny_loadName_cell I.ok.kind hk hc hcell go
    · rcases hx with k | k
      · have : X.env.scope.names.lookup x = some .free := hk
        rw [k] at this; cases this
      · have : X.env.scope.names.lookup x = some .free := hk
        rw [k] at this; cases this
/-- ints -/
noncomputable def ipI (f : Int → Int → Int) : TIp := fun x y H Q => ∃ i j, x = .int i ∧ y = .int j ∧ Q (.int (f i j)) H
theorem ip_add : PIp X .Add (ipI fun i j => i + j) := by
  intro pins s σ H x y v u Q I r1 r2 h
  obtain ⟨i, j, e1, e2, q⟩ := h
  subst e1; subst e2
  obtain ⟨t, rfl⟩ := r1
  obtain ⟨t', rfl⟩ := r2
  exact iadd_int ⟨.int _, H, I.tok _, ⟨_, rfl⟩, q⟩
end

/-! ### while -/
section
variable {X : Cx} {pos : Pos}
/-- the invariant W with its measure -/
noncomputable def tWhile (c : TT) (tb : TS) : TS := fun D σ H => ∃ W : Nat → St → Hp → Prop, (∃ m, W m σ H) ∧ ∀ m σ H, W m σ H →
  c σ H fun b H1 => if b = true then ∃ N : St → Hp → Prop, (∀ σ' H', N σ' H' → ∃ m', m' < m ∧ W m' σ' H') ∧ tb { D with nx := N, ct := N, bk := D.nx } σ H1 else D.nx σ H1
theorem ps_while {c : Expr} {body : List Stmt} {tc : TT} {tb : TS} (hp : PassesOwn (model X.prog X.w) X.A X.env X.xe) (hc : PT X c tc) (hb : PSs X body tb) : PS X (.While c body [] pos) (tWhile tc tb) := by
  intro pins s σ H D I h
  obtain ⟨W, ⟨m0, w0⟩, turn⟩ := h
  refine wpAny_While (codeAny_whileLoop (fun n s' => ∃ σ' H', Inv X pins σ' H' s' ∧ W n σ' H') ?_ m0 ⟨σ, H, I, w0⟩)
  rintro n s1 ⟨σ1, H1, I1, w1⟩
  refine wpAny_passesOwn hp (thn (hc pins s1 σ1 H1 _ I1 (turn n σ1 H1 w1)) fun b s2 ⟨H2, I2, q2⟩ => ?_)
  cases b with
  | true =>
    obtain ⟨N, hN, q2⟩ := q2
    rw [if_pos rfl]
    refine wpAny_passesOwn hp (thn (hb pins s2 σ1 H2 _ I2 q2) fun f s3 q3 => ?_)
    cases f with
    | next =>
      obtain ⟨σ3, H3, I3, n3⟩ := q3
      obtain ⟨m', hm, w3⟩ := hN σ3 H3 n3
      exact ⟨m', hm, σ3, H3, I3, w3⟩
    | cont =>
      obtain ⟨σ3, H3, I3, n3⟩ := q3
      obtain ⟨m', hm, w3⟩ := hN σ3 H3 n3
      exact ⟨m', hm, σ3, H3, I3, w3⟩
    | brk => exact q3
    | ret v => exact q3
  | false =>
    rw [if_neg Bool.false_ne_true]
    exact wpAny_execs_nil ⟨σ1, H2, I2, q2⟩
end

/-! ### what a loop or a comprehension walks -/
/-- at turn i: it yields x (the heap may grow), or it stops -/
structure It where
  go : Nat → Hp → Prop
  yld : Nat → Hp → V → Hp → Prop
  stop : Nat → Hp → Prop
/-- the iterator's own objects may turn: they are not the frame's, not pinned, younger than the entry (or a comprehension's own) -/
noncomputable def FpOk (X : Cx) (pins : List (Addr × Obj)) (H : Hp) (b : Addr) : Prop :=
  H b = none ∧ b ≠ X.env.locals ∧ b ∉ X.fs ∧ (b ∈ X.ex ∨ X.s₀.heap.objs.size ≤ b) ∧ (∀ x c, X.env.cells.lookup x = some c → c ≠ b) ∧ ∀ p ∈ X.pn ++ pins, p.1 ≠ b
theorem Inv.fpOk {X : Cx} {pins : List (Addr × Obj)} {σ : St} {H H' : Hp} {s : Shared} {b : Addr} (I : Inv X pins σ H s) (hb : s.heap.objs.size ≤ b) (hn : H' b = none) : FpOk X pins H' b := by
  refine ⟨hn, Nat.ne_of_gt (Nat.lt_of_lt_of_le I.lt hb), I.nofs hb, .inr (Nat.le_trans I.sz hb), fun x c e z => ?_, fun p hp z => ?_⟩
  · obtain ⟨v, q⟩ := I.cell x c e
    exact absurd (Nat.lt_of_lt_of_le q.lt (by rw [z]; exact hb)) (Nat.lt_irrefl _)
  · exact absurd (Nat.lt_of_lt_of_le (Heap.lt_size (I.pin p hp).1) (by rw [z]; exact hb)) (Nat.lt_irrefl _)
structure Turn (P : Program) (w : World) (K : PySem.W.Frag) (tg : Expr) (J : It) (fp : List Addr) (it : Addr) (tn : Nat → Heap → Prop) : Prop where
  mem : it ∈ fp
  obj : ∀ i h, tn i h → ∀ b ∈ fp, ∃ o, h.get? b = some o ∧ ∀ v, o.data ≠ .cell v
  keep : ∀ i h h', tn i h → (∀ b ∈ fp, ∀ o, h.get? b = some o → h'.get? b = some o) → tn i h'
  item : ∀ (X : Cx), X.prog = P → X.w = w → X.K = K → X.calm = true → ∀ (i : Nat) (pins : List (Addr × Obj)) (s : Shared) (σ : St) (H : Hp) (E : Value → Shared → Prop), Inv X pins σ H s → (∀ b ∈ fp, FpOk X pins H b) → tn i s.heap → J.go i H →
    wpAny (model P w) X.A (pyNext (.ref it)) (fun r s1 => ∃ u, r = some u ∧
      wpAny (model P w) X.A (letOwnedTupleGo tg (.ref it) u) (fun _ s2 => ∃ x H', Inv X pins σ H' s2 ∧ RelV x u ∧ J.yld i H x H' ∧ tn (i + 1) s2.heap ∧ ∀ b ∈ fp, H' b = none) E s1) E s
  done : ∀ (X : Cx), X.prog = P → X.w = w → X.K = K → X.calm = true → ∀ (i : Nat) (pins : List (Addr × Obj)) (s : Shared) (σ : St) (H : Hp) (E : Value → Shared → Prop), Inv X pins σ H s → (∀ b ∈ fp, FpOk X pins H b) → tn i s.heap → J.stop i H →
    wpAny (model P w) X.A (pyNext (.ref it)) (fun r s1 => r = none ∧ Inv X pins σ H s1) E s
  self : ∀ (A : Around) (i : Nat) (s : Shared) (Q : Value → Shared → Prop) (E : Value → Shared → Prop), tn i s.heap → Q (.ref it) s → wpAny (model P w) A (pyIter (.ref it)) Q E s
noncomputable abbrev TI := St → Hp → (It → Hp → Prop) → Prop
/-- an iterator has come -/
noncomputable def PIE (X : Cx) (pins : List (Addr × Obj)) (σ : St) (tg : Expr) (R : It → Hp → Prop) (itv : Value) (s2 : Shared) : Prop :=
  ∃ (it : Addr) (fp : List Addr) (tn : Nat → Heap → Prop) (J : It) (H' : Hp), itv = .ref it ∧ Inv X pins σ H' s2 ∧ Turn X.prog X.w X.K tg J fp it tn ∧ tn 0 s2.heap ∧ (∀ b ∈ fp, FpOk X pins H' b) ∧ R J H'
noncomputable def PI (X : Cx) (tg iter : Expr) (wi : TI) : Prop :=
  ∀ (pins : List (Addr × Obj)) (s : Shared) (σ : St) (H : Hp) (R : It → Hp → Prop), Inv X pins σ H s → wi σ H R →
    wpAny (model X.prog X.w) X.A (eval iter X.env) (fun v s1 => wpAny (model X.prog X.w) X.A (pyIter v) (PIE X pins σ tg R) X.xe s1) X.xe s

/-- the step ahead of the store is nothing for an iterator that keeps no tuple -/
theorem go_of {M : Model} {A : Around} {E : Value → Shared → Prop} {s : Shared} {tg : Expr} {it : Addr} {u : Value} {o : Obj} {n : String} {vs : Array Value} {Q : Unit → Shared → Prop} (ho : s.heap.get? it = some o) (hc : o.cls = .type n) (hd : o.data = .fields vs)
    (hn : ["enumerate", "zip", "dict_itemiterator", "dict_reverseitemiterator", "odict_iterator", "itertools.zip_longest", "itertools.pairwise"].contains n = false) (hQ : Q () s) : wpAny M A (letOwnedTupleGo tg (.ref it) u) Q E s := by
  unfold letOwnedTupleGo
  cases tg <;> first
    | exact wpAny_pure hQ
    | (cases u <;> first
        | exact wpAny_pure hQ
        | (refine wpAny_bind (wpAny_load ho ?_)
           rw [hc, hd]
           show wpAny M A (if (["enumerate", "zip", "dict_itemiterator", "dict_reverseitemiterator", "odict_iterator", "itertools.zip_longest", "itertools.pairwise"].contains n && vs[0]? == some (rawInt _)) = true then _ else _) Q E s
           rw [if_neg (by intro h; rw [hn, Bool.false_and] at h; cases h)]
           exact wpAny_pure hQ))

/-- the list at a, as it stands at each turn (a loop may append to it) -/
noncomputable def Itl (K : PySem.W.Frag) (a : Addr) : It :=
  ⟨fun i H => ∃ xs x, SqL K H a xs ∧ xs[i]? = some x, fun i H x H' => H' = H ∧ ∀ xs, SqL K H a xs → xs[i]? = some x, fun i H => ∃ xs, SqL K H a xs ∧ xs.length ≤ i⟩
noncomputable def Itt (K : PySem.W.Frag) (a : Addr) : It :=
  ⟨fun i H => ∃ xs x, SqT K H a xs ∧ xs[i]? = some x, fun i H x H' => H' = H ∧ ∀ xs, SqT K H a xs → xs[i]? = some x, fun i H => ∃ xs, SqT K H a xs ∧ xs.length ≤ i⟩
/-- lo, lo + 1, .. (n of them) -/
noncomputable def Itr (lo : Int) (n : Nat) : It := ⟨fun i _ => i < n, fun i H x H' => H' = H ∧ x = .int (lo + i), fun i _ => n ≤ i⟩
theorem turn_list {P : Program} {w : World} {K : PySem.W.Frag} {tg : Expr} (a it : Addr) : Turn P w K tg (Itl K a) [it] it (fun i h => h.IsListIter it a i) where
  mem := by simp
  obj := fun i h st b hb => by
    have e : b = it := by simpa using hb
    subst e
    obtain ⟨o, e, c, d⟩ := st
    exact ⟨o, e, fun v z => by rw [d] at z; cases z⟩
  keep := fun i h h' st k => st.at fun o e => k it (by simp) o e
  item := by
    intro X hP hw hK hc i pins s σ H E I hf st hg
    subst hP hw hK
    obtain ⟨xs, x, hq, hx⟩ := hg
    obtain ⟨its, rv, p, hz⟩ := I.list hq
    obtain ⟨u, hu, ru⟩ := rv.get hx
    obtain ⟨f0, f1, f2, f3, f4, f5⟩ := hf it (by simp)
    refine wpAny_pyNext_list_item st p.isList (x := u) (by simpa using hu) fun h' st' sb => ?_
    have I1 : Inv X pins σ H { s with heap := h' } := I.turned (t' := s.toks) (fun b o hb e => (sb.2 b hb).trans e) f0 f1 f3 f4 f5
    obtain ⟨o, e, c, d⟩ := id st'
    exact ⟨u, rfl, go_of (s := { s with heap := h' }) e c d (by decide) ⟨x, H, I1, ru, ⟨rfl, fun ys hy => by rw [I.list_inj hy hq]; exact hx⟩, st', fun b hb => (hf b hb).1⟩⟩
  done := by
    intro X hP hw hK hc i pins s σ H E I hf st hg
    subst hP hw hK
    obtain ⟨xs, hq, hx⟩ := hg
    obtain ⟨its, rv, p, hz⟩ := I.list hq
    obtain ⟨f0, f1, f2, f3, f4, f5⟩ := hf it (by simp)
    have hl := rv.length
    exact wpAny_pyNext_list_end (I.ok.hd hc) st p.isList (by simp; lia) fun h' eb => ⟨rfl, I.turned (t' := s.toks) (fun b o hb e => eb b o hb e) f0 f1 f3 f4 f5⟩
  self := fun _ _ _ _ _ st h => wpAny_pyIter_listiter st h
theorem turn_tuple {P : Program} {w : World} {K : PySem.W.Frag} {tg : Expr} (a it : Addr) : Turn P w K tg (Itt K a) [it] it (fun i h => h.IsTupleIter it a i) where
  mem := by simp
  obj := fun i h st b hb => by
    have e : b = it := by simpa using hb
    subst e
    obtain ⟨o, e, c, d⟩ := st
    exact ⟨o, e, fun v z => by rw [d] at z; cases z⟩
  keep := fun i h h' st k => st.at fun o e => k it (by simp) o e
  item := by
    intro X hP hw hK hc i pins s σ H E I hf st hg
    subst hP hw hK
    obtain ⟨xs, x, hq, hx⟩ := hg
    obtain ⟨its, rv, p, hz⟩ := I.tuple hq
    obtain ⟨u, hu, ru⟩ := rv.get hx
    obtain ⟨f0, f1, f2, f3, f4, f5⟩ := hf it (by simp)
    refine wpAny_pyNext_tuple_item st (show s.heap.IsTuple a its.toArray from p) (x := u) (by simpa using hu) fun h' st' sb => ?_
    have I1 : Inv X pins σ H { s with heap := h' } := I.turned (t' := s.toks) (fun b o hb e => (sb.2 b hb).trans e) f0 f1 f3 f4 f5
    obtain ⟨o, e, c, d⟩ := id st'
    exact ⟨u, rfl, go_of (s := { s with heap := h' }) e c d (by decide) ⟨x, H, I1, ru, ⟨rfl, fun ys hy => by rw [I.tuple_inj hy hq]; exact hx⟩, st', fun b hb => (hf b hb).1⟩⟩
  done := by
    intro X hP hw hK hc i pins s σ H E I hf st hg
    subst hP hw hK
    obtain ⟨xs, hq, hx⟩ := hg
    obtain ⟨its, rv, p, hz⟩ := I.tuple hq
    obtain ⟨f0, f1, f2, f3, f4, f5⟩ := hf it (by simp)
    have hl := rv.length
    exact wpAny_pyNext_tuple_end (I.ok.hd hc) st (show s.heap.IsTuple a its.toArray from p) (by simp; lia) fun h' eb => ⟨rfl, I.turned (t' := s.toks) (fun b o hb e => eb b o hb e) f0 f1 f3 f4 f5⟩
  self := fun _ _ _ _ _ st h => wpAny_pyIter_tupleiter st h
theorem turn_range {P : Program} {w : World} {K : PySem.W.Frag} {tg : Expr} (it : Addr) (lo : Int) (n : Nat) : Turn P w K tg (Itr lo n) [it] it (fun i h => IsRangeIter h it (lo + (i : Nat) * 1) ((n : Int) - (i : Nat)) 1) where
  mem := by simp
  obj := fun i h st b hb => by
    have e : b = it := by simpa using hb
    subst e
    exact ⟨_, st, fun v z => by
      have z' : Data.fields _ = Data.cell v := z
      cases z'⟩
  keep := fun i h h' st k => k it (by simp) _ st
  item := by
    intro X hP hw hK hc i pins s σ H E I hf st hg
    subst hP hw hK
    obtain ⟨f0, f1, f2, f3, f4, f5⟩ := hf it (by simp)
    have W := Walks.range (prog := X.prog) (w := X.w) (I.ok.hd hc) it lo 1 n
    refine W.item i s _ _ hg st fun v h' tk hv st' kk => ?_
    obtain ⟨t, rfl⟩ := hv
    have I1 : Inv X pins σ H { s with heap := h', toks := tk } := I.turned (fun b o hb e => kk b o (by simpa using hb) e) f0 f1 f3 f4 f5
    refine ⟨_, rfl, go_of (s := { s with heap := h', toks := tk }) (n := "range_iterator") st' rfl rfl (by decide) ⟨.int (lo + i), H, I1, ⟨t, ?_⟩, ⟨rfl, rfl⟩, st', fun b hb => (hf b hb).1⟩⟩
    rw [Int.mul_one]
  done := by
    intro X hP hw hK hc i pins s σ H E I hf st hg
    subst hP hw hK
    obtain ⟨f0, f1, f2, f3, f4, f5⟩ := hf it (by simp)
    exact wpAny_pyNext_range_end (I.ok.hd hc) st (by have : n ≤ i := hg; lia) fun h' eb => ⟨rfl, I.turned (t' := s.toks) (fun b o hb e => eb b o hb e) f0 f1 f3 f4 f5⟩
  self := fun _ _ _ _ _ st h => wpAny_pyIter_rangeiter st h
end L2

namespace L2
open PySem PySem.Spec PyProof.Rows
section
variable {X : Cx} {tg : Expr}
noncomputable def iList (K : PySem.W.Frag) (tl : TE) : TI := fun σ H R => tl σ H fun x H1 => ∃ a, x = .ref a ∧ (∃ xs, SqL K H1 a xs) ∧ R (Itl K a) H1
noncomputable def iTup (K : PySem.W.Frag) (tl : TE) : TI := fun σ H R => tl σ H fun x H1 => ∃ a, x = .ref a ∧ (∃ xs, SqT K H1 a xs) ∧ R (Itt K a) H1
theorem pi_list {l : Expr} {tl : TE} (hl : PE X l tl) : PI X tg l (iList X.K tl) := by
  intro pins s σ H R I h
  refine thn (hl pins s σ H _ I h) fun v s1 ⟨x, H1, I1, r1, q1⟩ => ?_
  obtain ⟨a, e, ⟨xs, hq⟩, q⟩ := q1
  subst e
  cases r1
  obtain ⟨its, rv, p, hz⟩ := I1.list hq
  refine wpAny_pyIter_list p.isList ?_
  refine ⟨s1.heap.objs.size, [s1.heap.objs.size], _, _, H1, rfl, I1.kept (t' := s1.toks) fun b o e => Heap.get?_push_of_some _ e, turn_list a _, ⟨_, Heap.get?_push_size _ rfl, rfl, rfl⟩, fun b hb => ?_, q⟩
  have e : b = s1.heap.objs.size := by simpa using hb
  subst e
  exact I1.fpOk (Nat.le_refl _) (I1.hok.fresh (Nat.le_refl _))
theorem pi_tup {l : Expr} {tl : TE} (hl : PE X l tl) : PI X tg l (iTup X.K tl) := by
  intro pins s σ H R I h
  refine thn (hl pins s σ H _ I h) fun v s1 ⟨x, H1, I1, r1, q1⟩ => ?_
  obtain ⟨a, e, ⟨xs, hq⟩, q⟩ := q1
  subst e
  cases r1
  obtain ⟨its, rv, p, hz⟩ := I1.tuple hq
  refine wpAny_pyIter_tuple (show s1.heap.IsTuple a its.toArray from p) ?_
  refine ⟨s1.heap.objs.size, [s1.heap.objs.size], _, _, H1, rfl, I1.kept (t' := s1.toks) fun b o e => Heap.get?_push_of_some _ e, turn_tuple a _, ⟨_, Heap.get?_push_size _ rfl, rfl, rfl⟩, fun b hb => ?_, q⟩
  have e : b = s1.heap.objs.size := by simpa using hb
  subst e
  exact I1.fpOk (Nat.le_refl _) (I1.hok.fresh (Nat.le_refl _))
/-- a range object just made, walked -/
theorem range_it {pins : List (Addr × Obj)} {σ : St} {H : Hp} {s : Shared} {R : It → Hp → Prop} {E : Value → Shared → Prop} {lo hi : Int} {t u v : Tok} {tk : Nat} (I : Inv X pins σ H s) (h1 : -(2 ^ 62) ≤ lo) (h2 : lo < 2 ^ 62) (h3 : -(2 ^ 62) ≤ hi) (h4 : hi < 2 ^ 62)
    (q : R (Itr lo (hi - lo).toNat) H) : wpAny (model X.prog X.w) X.A (pyIter (.ref s.heap.objs.size)) (PIE X pins σ tg R) E { s with heap := s.heap.push { cls := .type "range", data := .fields #[.int lo t, .int hi u, .int 1 v] }, toks := tk } := by
  refine wpAny_pyIter_range (IsRange.new ..) (small_one h1 h2 h3 h4) ?_
  have I1 : Inv X pins σ H { s with heap := s.heap.push { cls := .type "range", data := .fields #[.int lo t, .int hi u, .int 1 v] }, toks := tk } := I.kept fun b o e => Heap.get?_push_of_some _ e
  refine ⟨(s.heap.push { cls := .type "range", data := .fields #[.int lo t, .int hi u, .int 1 v] }).objs.size, [(s.heap.push { cls := .type "range", data := .fields #[.int lo t, .int hi u, .int 1 v] }).objs.size], _, _, H, rfl,
    I1.kept (t' := tk) fun b o e => Heap.get?_push_of_some _ e, turn_range _ lo (hi - lo).toNat, ?_, fun b hb => ?_, q⟩
  · have e1 : lo + ((0 : Nat) : Int) * 1 = lo := by simp
    have e2 : (((hi - lo).toNat : Nat) : Int) - ((0 : Nat) : Int) = Builtin.Range.rangeSize lo hi 1 := by rw [rangeSize_one]; split <;> lia
    show IsRangeIter _ _ (lo + ((0 : Nat) : Int) * 1) ((((hi - lo).toNat : Nat) : Int) - ((0 : Nat) : Int)) 1
    rw [e1, e2]
    exact Heap.get?_push_size _ rfl
  · have e : b = (s.heap.push { cls := .type "range", data := .fields #[.int lo t, .int hi u, .int 1 v] }).objs.size := by simpa using hb
    subst e
    exact I1.fpOk (Nat.le_refl _) (I1.hok.fresh (Nat.le_refl _))
noncomputable def iRng1 (ta : TA) : TI := fun σ H R => ta σ H fun vs H1 => ∃ j : Int, vs = [.int j] ∧ -(2 ^ 62) ≤ j ∧ j < 2 ^ 62 ∧ R (Itr 0 j.toNat) H1
theorem pi_range1 {a : Expr} {ta : TA} {p pos : Pos} (hg : Gl X "range") (hm : X.mg "range" = none) (ha : PA X [a] ta) (hs : starEach [a] X.env = [(false, eval a X.env)] := by rfl) : PI X tg (.Call (.Name "range" p) [a] [] pos) (iRng1 ta) := by
  intro pins s σ H R I h
  refine Call_ (ld_blt I hg hm boot_range (PyProof.Rows.callWith_type1 (thn (ha pos pins s σ H _ I h) fun us s1 ⟨vs, H1, I1, r1, q1⟩ => ?_) hs rfl))
  obtain ⟨j, e, q1, q2, q⟩ := q1
  subst e
  cases r1 with
  | cons r rr =>
    cases rr
    obtain ⟨t, rfl⟩ := r
    exact call_range_1 (range_it I1 (by lia) (by lia) q1 q2 (by simpa using q))
/-! ### for -/
/-- W: the invariant by the turn and a measure; N: what the body is to reach -/
noncomputable def tFor (wi : TI) (g : TG) (tb : TS) : TS := fun D σ H => wi σ H fun J H1 => ∃ W : Nat → Nat → St → Hp → Prop, (∃ m, W 0 m σ H1) ∧ ∀ i m σ H, W i m σ H →
  (J.stop i H ∧ D.nx σ H) ∨ (J.go i H ∧ ∃ N : St → Hp → Prop, (∀ σ' H', N σ' H' → ∃ m', m' < m ∧ W (i + 1) m' σ' H') ∧ ∀ x H', J.yld i H x H' → g x σ H' fun σ2 H2 => tb { D with nx := N, ct := N, bk := D.nx } σ2 H2)
/-- the records at fp as they stand -/
noncomputable def pinsAt (fp : List Addr) (h : Heap) : List (Addr × Obj) := fp.filterMap fun b => (h.get? b).map fun o => (b, o)
theorem mem_pinsAt {fp : List Addr} {h : Heap} {b : Addr} {o : Obj} (hb : b ∈ fp) (e : h.get? b = some o) : (b, o) ∈ pinsAt fp h := List.mem_filterMap.mpr ⟨b, hb, by rw [e]; rfl⟩
theorem of_pinsAt {fp : List Addr} {h : Heap} {p : Addr × Obj} (hp : p ∈ pinsAt fp h) : p.1 ∈ fp ∧ h.get? p.1 = some p.2 := by
  obtain ⟨b, hb, e⟩ := List.mem_filterMap.mp hp
  cases q : h.get? b with
  | none => rw [q] at e; cases e
  | some o =>
    rw [q] at e
    have e' : (b, o) = p := Option.some.inj e
    subst e'
    exact ⟨hb, q⟩
theorem Inv.pinned {pins : List (Addr × Obj)} {σ : St} {H : Hp} {s : Shared} {fp : List Addr} (I : Inv X pins σ H s) (hf : ∀ b ∈ fp, FpOk X pins H b) (ho : ∀ b ∈ fp, ∃ o, s.heap.get? b = some o ∧ ∀ v, o.data ≠ .cell v) : Inv X (pins ++ pinsAt fp s.heap) σ H s :=
  I.pins_of fun p hp => (List.mem_append.mp hp).elim (fun z => I.pin p (List.mem_append_right _ z)) fun z => by
    obtain ⟨hb, e⟩ := of_pinsAt z
    obtain ⟨f0, f1, f2, _⟩ := hf p.1 hb
    obtain ⟨o, e', d⟩ := ho p.1 hb
    rw [e] at e'; cases e'
    exact ⟨e, f0, f1, f2, d⟩
theorem Inv.unpinned {pins pl : List (Addr × Obj)} {σ : St} {H : Hp} {s : Shared} (I : Inv X (pins ++ pl) σ H s) : Inv X pins σ H s := I.pins_of fun p hp => I.pin p (List.mem_append_right _ (List.mem_append_left _ hp))
theorem ps_for {iter : Expr} {body : List Stmt} {wi : TI} {g : TG} {tb : TS} {pos : Pos} (hp : PassesOwn (model X.prog X.w) X.A X.env X.xe) (hc : X.calm = true) (hi : PI X tg iter wi) (hg : PG X tg g) (hb : PSs X body tb)
    (hs : ∀ x, foldedSetIterable iter X.env x = pure x := by intro _; rfl) : PS X (.For tg iter body [] pos) (tFor wi g tb) := by
  intro pins s σ H D I h
  refine wpAny_For (thn (hi pins s σ H _ I h) fun v s1 h1 => thn h1 fun itv s2 h2 => ?_) hs
  obtain ⟨it, fp, tn, J, H2, e, I2, T, st2, f2, W, ⟨m0, w0⟩, turn⟩ := h2
  subst e
  -- what stays true of the iterator's objects through the loop
  have stat : ∀ {H' : Hp}, (∀ b ∈ fp, H' b = none) → ∀ b ∈ fp, FpOk X pins H' b := fun hn b hb => ⟨hn b hb, (f2 b hb).2⟩
  refine codeAny_forLoop_any (fun n s' => ∃ i σ' H', Inv X pins σ' H' s' ∧ tn i s'.heap ∧ (∀ b ∈ fp, H' b = none) ∧ W i n σ' H') ?_ m0 ⟨0, σ, H2, I2, st2, fun b hb => (f2 b hb).1, w0⟩
  rintro n s3 ⟨i, σ3, H3, I3, st3, fr3, w3⟩
  rcases turn i n σ3 H3 w3 with ⟨stop, qn⟩ | ⟨go, N, hN, step⟩
  · refine wpAny_passesOwn hp (thn (T.done X rfl rfl rfl hc i pins s3 σ3 H3 X.xe I3 (stat fr3) st3 stop) fun r s4 ⟨hr, I4⟩ => ?_)
    subst hr
    exact wpAny_execs_nil ⟨σ3, H3, I4, qn⟩
  · refine wpAny_passesOwn hp (thn (T.item X rfl rfl rfl hc i pins s3 σ3 H3 X.xe I3 (stat fr3) st3 go) fun r s4 ⟨u, hr, h4⟩ => ?_)
    subst hr
    refine wpAny_passesOwn hp (thn h4 fun _ s5 ⟨x, H5, I5, r5, y5, st5, fr5⟩ => ?_)
    have I5' := I5.pinned (stat fr5) (T.obj _ _ st5)
    refine wpAny_passesOwn hp (thn (hg _ s5 σ3 H5 x u _ I5' r5 (step x H5 y5)) fun _ s6 ⟨σ6, H6, I6, q6⟩ => ?_)
    refine wpAny_passesOwn hp (thn (hb _ s6 σ6 H6 _ I6 q6) fun f s7 q7 => ?_)
    have again : ∀ {σ7 : St} {H7 : Hp}, Inv X (pins ++ pinsAt fp s5.heap) σ7 H7 s7 → N σ7 H7 → ∃ m, m < n ∧ ∃ i σ' H', Inv X pins σ' H' s7 ∧ tn i s7.heap ∧ (∀ b ∈ fp, H' b = none) ∧ W i m σ' H' := fun {σ7 H7} I7 n7 => by
      obtain ⟨m', hm, w7⟩ := hN σ7 H7 n7
      refine ⟨m', hm, i + 1, σ7, H7, I7.unpinned, T.keep _ _ _ st5 fun b hb o e => (I7.pin (b, o) (List.mem_append_right _ (List.mem_append_right _ (mem_pinsAt hb e)))).1, fun b hb => ?_, w7⟩
      obtain ⟨o, e, d⟩ := T.obj _ _ st5 b hb
      exact (I7.pin (b, o) (List.mem_append_right _ (List.mem_append_right _ (mem_pinsAt hb e)))).2.1
    cases f with
    | next => obtain ⟨σ7, H7, I7, n7⟩ := q7; exact again I7 n7
    | cont => obtain ⟨σ7, H7, I7, n7⟩ := q7; exact again I7 n7
    | brk => obtain ⟨σ7, H7, I7, q7⟩ := q7; exact ⟨σ7, H7, I7.unpinned, q7⟩
    | ret v => obtain ⟨x7, σ7, H7, I7, r7, q7⟩ := q7; exact ⟨x7, σ7, H7, I7.unpinned, r7, q7⟩
end

/-! ### the forms one uses -/
/-- over a list that the body leaves as it is -/
theorem for_list {K : PySem.W.Frag} {a : Addr} {xs : List V} {g : TG} {tb : TS} {D : Ends} {σ : St} {H : Hp} (Pv : Nat → St → Hp → Prop) (h0 : Pv 0 σ H) (hl : ∀ i σ H, i ≤ xs.length → Pv i σ H → SqL K H a xs)
    (hs : ∀ i x σ H, xs[i]? = some x → Pv i σ H → g x σ H fun σ2 H2 => tb { D with nx := Pv (i + 1), ct := Pv (i + 1), bk := D.nx } σ2 H2) (hd : ∀ σ H, Pv xs.length σ H → D.nx σ H) :
    ∃ W : Nat → Nat → St → Hp → Prop, (∃ m, W 0 m σ H) ∧ ∀ i m σ H, W i m σ H →
      ((Itl K a).stop i H ∧ D.nx σ H) ∨ ((Itl K a).go i H ∧ ∃ N : St → Hp → Prop, (∀ σ' H', N σ' H' → ∃ m', m' < m ∧ W (i + 1) m' σ' H') ∧ ∀ x H', (Itl K a).yld i H x H' → g x σ H' fun σ2 H2 => tb { D with nx := N, ct := N, bk := D.nx } σ2 H2) := by
  refine ⟨fun i m σ H => m = xs.length - i ∧ i ≤ xs.length ∧ Pv i σ H, ⟨xs.length, by simp, Nat.zero_le _, h0⟩, ?_⟩
  rintro i m σ H ⟨rfl, hi, p⟩
  have q := hl i σ H hi p
  by_cases hlt : i < xs.length
  · refine .inr ⟨⟨xs, xs[i], q, by simp [hlt]⟩, Pv (i + 1), fun σ' H' p' => ⟨xs.length - (i + 1), by lia, rfl, hlt, p'⟩, fun x H' y => ?_⟩
    obtain ⟨e, y⟩ := y
    subst e
    exact hs i x σ _ (y xs q) p
  · have e : i = xs.length := by lia
    subst e
    exact .inl ⟨⟨xs, q, Nat.le_refl _⟩, hd σ H p⟩
theorem for_tup {K : PySem.W.Frag} {a : Addr} {xs : List V} {g : TG} {tb : TS} {D : Ends} {σ : St} {H : Hp} (Pv : Nat → St → Hp → Prop) (h0 : Pv 0 σ H) (hl : ∀ i σ H, i ≤ xs.length → Pv i σ H → SqT K H a xs)
    (hs : ∀ i x σ H, xs[i]? = some x → Pv i σ H → g x σ H fun σ2 H2 => tb { D with nx := Pv (i + 1), ct := Pv (i + 1), bk := D.nx } σ2 H2) (hd : ∀ σ H, Pv xs.length σ H → D.nx σ H) :
    ∃ W : Nat → Nat → St → Hp → Prop, (∃ m, W 0 m σ H) ∧ ∀ i m σ H, W i m σ H →
      ((Itt K a).stop i H ∧ D.nx σ H) ∨ ((Itt K a).go i H ∧ ∃ N : St → Hp → Prop, (∀ σ' H', N σ' H' → ∃ m', m' < m ∧ W (i + 1) m' σ' H') ∧ ∀ x H', (Itt K a).yld i H x H' → g x σ H' fun σ2 H2 => tb { D with nx := N, ct := N, bk := D.nx } σ2 H2) := by
  refine ⟨fun i m σ H => m = xs.length - i ∧ i ≤ xs.length ∧ Pv i σ H, ⟨xs.length, by simp, Nat.zero_le _, h0⟩, ?_⟩
  rintro i m σ H ⟨rfl, hi, p⟩
  have q := hl i σ H hi p
  by_cases hlt : i < xs.length
  · refine .inr ⟨⟨xs, xs[i], q, by simp [hlt]⟩, Pv (i + 1), fun σ' H' p' => ⟨xs.length - (i + 1), by lia, rfl, hlt, p'⟩, fun x H' y => ?_⟩
    obtain ⟨e, y⟩ := y
    subst e
    exact hs i x σ _ (y xs q) p
  · have e : i = xs.length := by lia
    subst e
    exact .inl ⟨⟨xs, q, Nat.le_refl _⟩, hd σ H p⟩
end L2

namespace L2
open PySem PySem.Spec PyProof.Rows

noncomputable abbrev R2 := V → V → Hp → VK → Prop
/-- a two-place operation on values: f is binaryOp op, inplaceOp op or compareOp op -/
noncomputable def OpR (X : Cx) (f : Value → Value → Sem Value) (r : R2) : Prop :=
  ∀ (pins : List (Addr × Obj)) (s : Shared) (σ : St) (H : Hp) (x y : V) (v u : Value) (Q : VK), Inv X pins σ H s → RelV x v → RelV y u → r x y H Q →
    wpAny (model X.prog X.w) X.A (f v u) (EP X pins σ Q) X.xe s
/-- a one-place operation -/
noncomputable def UnR (X : Cx) (f : Value → Sem Value) (r : V → Hp → VK → Prop) : Prop :=
  ∀ (pins : List (Addr × Obj)) (s : Shared) (σ : St) (H : Hp) (x : V) (v : Value) (Q : VK), Inv X pins σ H s → RelV x v → r x H Q →
    wpAny (model X.prog X.w) X.A (f v) (EP X pins σ Q) X.xe s
/-- a call of a value that is known (a builtin, a type) with values -/
noncomputable def CallR (X : Cx) (f : Value) (r : List V → Hp → VK → Prop) : Prop :=
  ∀ (pins : List (Addr × Obj)) (s : Shared) (σ : St) (H : Hp) (xs : List V) (us : List Value) (Q : VK), Inv X pins σ H s → Vals xs us → r xs H Q →
    wpAny (model X.prog X.w) X.A (call f us) (EP X pins σ Q) X.xe s
/-- a value's truth -/
noncomputable def TruR (X : Cx) (r : V → Hp → (Bool → Hp → Prop) → Prop) : Prop :=
  ∀ (pins : List (Addr × Obj)) (s : Shared) (σ : St) (H : Hp) (x : V) (v : Value) (Q : Bool → Hp → Prop), Inv X pins σ H s → RelV x v → r x H Q →
    wpAny (model X.prog X.w) X.A (truthy v) (TP X pins σ Q) X.xe s

noncomputable def tOp (r : R2) (ta tb : TE) : TE := fun σ H Q => ta σ H fun x H1 => tb σ H1 fun y H2 => r x y H2 Q
noncomputable def tUn (r : V → Hp → VK → Prop) (ta : TE) : TE := fun σ H Q => ta σ H fun x H1 => r x H1 Q
/-- ints in, under C, and a value out -/
noncomputable def rI (C : Int → Int → Prop) (g : Int → Int → V) : R2 := fun x y H Q => ∃ i j, x = .int i ∧ y = .int j ∧ C i j ∧ Q (g i j) H
noncomputable def rI0 (g : Int → Int → V) : R2 := fun x y H Q => ∃ i j, x = .int i ∧ y = .int j ∧ Q (g i j) H
noncomputable def rU (g : Int → V) : V → Hp → VK → Prop := fun x H Q => ∃ i, x = .int i ∧ Q (g i) H

section
variable {X : Cx} {a b c : Expr} {ta tb tc : TE} {pos : Pos}

theorem binT (ha : PE X a ta) (hb : PE X b tb) {pins : List (Addr × Obj)} {s : Shared} {σ : St} {H : Hp} {R : V → V → Hp → Prop} (I : Inv X pins σ H s)
    (h : ta σ H fun x H1 => tb σ H1 fun y H2 => R x y H2) {Q : Value → Shared → Prop} {f : Value → Value → Sem Value}
    (hf : ∀ v u s2 x y H2, Inv X pins σ H2 s2 → RelV x v → RelV y u → R x y H2 → wpAny (model X.prog X.w) X.A (f v u) Q X.xe s2) :
    wpAny (model X.prog X.w) X.A (eval a X.env) (fun v s₁ => wpAny (model X.prog X.w) X.A (eval b X.env) (fun u s₂ => wpAny (model X.prog X.w) X.A (f v u) Q X.xe s₂) X.xe s₁) X.xe s := by
  refine thn (ha pins s σ H _ I h) fun v s1 ⟨x, H1, I1, r1, q1⟩ => ?_
  refine thn (hb pins s1 σ H1 _ I1 q1) fun u s2 ⟨y, H2, I2, r2, q2⟩ => ?_
  exact hf v u s2 x y H2 I2 r1 r2 q2

theorem pe_op {op : Operator} {r : R2} (ho : OpR X (binaryOp op) r) (ha : PE X a ta) (hb : PE X b tb) : PE X (.BinOp a op b pos) (tOp r ta tb) := by
  intro pins s σ H Q I h
  exact wpAny_BinOp (binT ha hb I h fun v u s2 x y H2 I2 rx ry q => ho pins s2 σ H2 x y v u Q I2 rx ry q)
theorem pe_un {op : UnaryOp} {r : V → Hp → VK → Prop} (ho : UnR X (unaryOp op) r) (ha : PE X a ta) : PE X (.UnaryOp op a pos) (tUn r ta) := by
  intro pins s σ H Q I h
  exact UnaryOp_ (thn (ha pins s σ H _ I h) fun v s1 ⟨x, H1, I1, r1, q1⟩ => ho pins s1 σ H1 x v Q I1 r1 q1)
/-! ### ints -/
theorem opI {f : Value → Value → Sem Value} {C : Int → Int → Prop} {g : Int → Int → Int}
    (rule : ∀ (i j : Int) (t u : Tok) (s : Shared) (Q : Value → Shared → Prop) (E : Value → Shared → Prop), C i j → Q (.int (g i j) s.toks) { s with toks := s.toks + 1 } → wpAny (model X.prog X.w) X.A (f (.int i t) (.int j u)) Q E s) :
    OpR X f (rI C fun i j => .int (g i j)) := by
  intro pins s σ H x y v u Q I rx ry h
  obtain ⟨i, j, rfl, rfl, hc, q⟩ := h
  obtain ⟨t, rfl⟩ := rx
  obtain ⟨t', rfl⟩ := ry
  exact rule i j t t' s _ _ hc ⟨.int (g i j), H, I.tok _, ⟨_, rfl⟩, q⟩
theorem opI0 {f : Value → Value → Sem Value} {g : Int → Int → Int}
    (rule : ∀ (i j : Int) (t u : Tok) (s : Shared) (Q : Value → Shared → Prop) (E : Value → Shared → Prop), Q (.int (g i j) s.toks) { s with toks := s.toks + 1 } → wpAny (model X.prog X.w) X.A (f (.int i t) (.int j u)) Q E s) :
    OpR X f (rI0 fun i j => .int (g i j)) := by
  intro pins s σ H x y v u Q I rx ry h
  obtain ⟨i, j, rfl, rfl, q⟩ := h
  obtain ⟨t, rfl⟩ := rx
  obtain ⟨t', rfl⟩ := ry
  exact rule i j t t' s _ _ ⟨.int (g i j), H, I.tok _, ⟨_, rfl⟩, q⟩
theorem opB0 {f : Value → Value → Sem Value} {g : Int → Int → Bool}
    (rule : ∀ (i j : Int) (t u : Tok) (s : Shared) (Q : Value → Shared → Prop) (E : Value → Shared → Prop), Q (.bool (g i j)) s → wpAny (model X.prog X.w) X.A (f (.int i t) (.int j u)) Q E s) :
    OpR X f (rI0 fun i j => .bl (g i j)) := by
  intro pins s σ H x y v u Q I rx ry h
  obtain ⟨i, j, rfl, rfl, q⟩ := h
  obtain ⟨t, rfl⟩ := rx
  obtain ⟨t', rfl⟩ := ry
  exact rule i j t t' s _ _ ⟨.bl (g i j), H, I, rfl, q⟩

noncomputable def CDiv (i j : Int) : Prop := 0 < j ∧ j < 1073741824
noncomputable def CPow (i j : Int) : Prop := 0 ≤ j ∧ j ≤ 1000000 ∧ i.natAbs < 2 ^ 64
theorem op_add : OpR X (binaryOp .Add) (rI0 fun i j => .int (i + j)) := opI0 fun _ _ _ _ _ _ _ q => add_int q
theorem op_sub : OpR X (binaryOp .Sub) (rI0 fun i j => .int (i - j)) := opI0 fun _ _ _ _ _ _ _ q => sub_int q
/-- // by a positive divisor -/
theorem op_fdiv : OpR X (binaryOp .FloorDiv) (rI CDiv fun i j => .int (i / j)) := opI fun i j _ _ _ _ _ hc q => by
  have h1 : (0 : Int) < j := hc.1
  have h2 : j < 1073741824 := hc.2
  exact floordiv_int (by lia) (by rw [Int.fdiv_eq_ediv_of_nonneg i (by lia)]; exact q) (.inl (PyProof.noPylong_small (by lia)))
/-- % by a positive divisor of any size -/
theorem op_mod : OpR X (binaryOp .Mod) (rI (fun _ j => 0 < j) fun i j => .int (i % j)) := opI fun i j _ _ _ _ _ hc q => by
  have h1 : (0 : Int) < j := hc
  exact mod_int' (by lia) (by rw [Int.fmod_eq_emod_of_nonneg i (by lia)]; exact q)
theorem op_pow : OpR X (binaryOp .Pow) (rI CPow fun i j => .int (i ^ j.toNat)) := opI fun _ _ _ _ _ _ _ hc q => pow_int_small hc.1 hc.2.1 hc.2.2 q
theorem unI {f : Value → Sem Value} {g : Int → Int}
    (rule : ∀ (i : Int) (t : Tok) (s : Shared) (Q : Value → Shared → Prop) (E : Value → Shared → Prop), Q (.int (g i) s.toks) { s with toks := s.toks + 1 } → wpAny (model X.prog X.w) X.A (f (.int i t)) Q E s) :
    UnR X f (rU fun i => .int (g i)) := by
  intro pins s σ H x v Q I rx h
  obtain ⟨i, rfl, q⟩ := h
  obtain ⟨t, rfl⟩ := rx
  exact rule i t s _ _ ⟨.int (g i), H, I.tok _, ⟨_, rfl⟩, q⟩
theorem un_neg : UnR X (unaryOp .USub) (rU fun i => .int (-i)) := unI fun _ _ _ _ _ q => neg_int q
/-! ### bools among ints: n += (a < b) -/
end

/-! ### comparisons -/
/-- the scalars that == tells apart as data does -/
noncomputable def scal : V → V → Bool
  | .non, .non => true | .non, .int _ => true | .int _, .non => true | .non, .bl _ => true | .bl _, .non => true | .non, .str _ => true | .str _, .non => true
  | .int _, .int _ => true | .bl _, .bl _ => true | .str _, .str _ => true | .byt _, .byt _ => true
  | .int _, .str _ => true | .str _, .int _ => true | .bl _, .str _ => true | .str _, .bl _ => true
  | _, _ => false
noncomputable def rEq : R2 := fun x y H Q => scal x y = true ∧ Q (.bl (decide (x = y))) H
noncomputable def rNe : R2 := fun x y H Q => scal x y = true ∧ Q (.bl (!decide (x = y))) H

theorem dec_int {i j : Int} : decide (V.int i = V.int j) = (i == j) := by
  rw [Bool.eq_iff_iff]
  simp
theorem dec_bl {i j : Bool} : decide (V.bl i = V.bl j) = (i == j) := by
  rw [Bool.eq_iff_iff]
  simp
theorem dec_str {i j : Str} : decide (V.str i = V.str j) = (i == j) := by
  rw [Bool.eq_iff_iff]
  simp
theorem dec_byt {i j : Array UInt8} : decide (V.byt i = V.byt j) = (i.toList == j.toList) := by
  rw [Bool.eq_iff_iff]
  cases i
  cases j
  simp

section
variable {X : Cx} {a b c : Expr} {ta tb tc : TE} {pos : Pos}
theorem fin_bl {pins : List (Addr × Obj)} {σ : St} {H : Hp} {s : Shared} {Q : VK} {k k' : Bool} (I : Inv X pins σ H s) (q : Q (.bl k) H) (e : k = k') : EP X pins σ Q (.bool k') s := by
  subst e
  exact ⟨.bl k, H, I, rfl, q⟩
theorem op_eq : OpR X (compareOp .Eq) rEq := by
  intro pins s σ H x y v u Q I rx ry h
  obtain ⟨hs, q⟩ := h
  cases x with
  | non =>
    cases rx
    cases y with
    | non => cases ry; exact PySem.EqNone.eq_none_none (fin_bl I q (by simp))
    | bl j => cases ry; exact PySem.EqNone.eq_none_bool (fin_bl I q (by simp))
    | int j => obtain ⟨t', rfl⟩ := ry; exact PySem.EqNone.eq_none_int (fin_bl I q (by simp))
    | str j => obtain ⟨t', rfl⟩ := ry; exact PySem.EqNone.eq_none_str (fin_bl I q (by simp))
    | _ => exact absurd (show false = true from hs) Bool.false_ne_true
  | bl i =>
    cases rx
    cases y with
    | non => cases ry; exact PySem.EqNone.eq_bool_none (fin_bl I q (by simp))
    | bl j => cases ry; exact eq_bool (fin_bl I q dec_bl)
    | str j => obtain ⟨t', rfl⟩ := ry; exact PySem.EqMixed.eq_bool_str (fin_bl I q (by simp))
    | _ => exact absurd (show false = true from hs) Bool.false_ne_true
  | int i =>
    obtain ⟨t, rfl⟩ := rx
    cases y with
    | non => cases ry; exact PySem.EqNone.eq_int_none (fin_bl I q (by simp))
    | int j => obtain ⟨t', rfl⟩ := ry; exact eq_int (fin_bl I q dec_int)
    | str j => obtain ⟨t', rfl⟩ := ry; exact PySem.EqMixed.eq_int_str (fin_bl I q (by simp))
    | _ => exact absurd (show false = true from hs) Bool.false_ne_true
  | str i =>
    obtain ⟨t, rfl⟩ := rx
    cases y with
    | non => cases ry; exact PySem.EqNone.eq_str_none (fin_bl I q (by simp))
    | bl j => cases ry; exact PySem.EqMixed.eq_str_bool (fin_bl I q (by simp))
    | int j => obtain ⟨t', rfl⟩ := ry; exact PySem.EqMixed.eq_str_int (fin_bl I q (by simp))
    | str j => obtain ⟨t', rfl⟩ := ry; exact eq_str (fin_bl I q dec_str)
    | _ => exact absurd (show false = true from hs) Bool.false_ne_true
  | byt i =>
    obtain ⟨t, rfl⟩ := rx
    cases y with
    | byt j => obtain ⟨t', rfl⟩ := ry; exact PySem.W.eq_bytes (fin_bl I q dec_byt)
    | _ => exact absurd (show false = true from hs) Bool.false_ne_true
  | _ => cases y <;> exact absurd (show false = true from hs) Bool.false_ne_true
theorem op_ne : OpR X (compareOp .NotEq) rNe := by
  intro pins s σ H x y v u Q I rx ry h
  obtain ⟨hs, q⟩ := h
  cases x with
  | non =>
    cases rx
    cases y with
    | non => cases ry; exact PySem.EqNone.ne_none_none (fin_bl I q (by simp))
    | bl j => cases ry; exact PySem.EqNone.ne_none_bool (fin_bl I q (by simp))
    | int j => obtain ⟨t', rfl⟩ := ry; exact PySem.EqNone.ne_none_int (fin_bl I q (by simp))
    | str j => obtain ⟨t', rfl⟩ := ry; exact PySem.EqNone.ne_none_str (fin_bl I q (by simp))
    | _ => exact absurd (show false = true from hs) Bool.false_ne_true
  | bl i =>
    cases rx
    cases y with
    | non => cases ry; exact PySem.EqNone.ne_bool_none (fin_bl I q (by simp))
    | bl j => cases ry; exact ne_bool (fin_bl I q (congrArg not dec_bl))
    | str j => obtain ⟨t', rfl⟩ := ry; exact PySem.EqMixed.ne_bool_str (fin_bl I q (by simp))
    | _ => exact absurd (show false = true from hs) Bool.false_ne_true
  | int i =>
    obtain ⟨t, rfl⟩ := rx
    cases y with
    | non => cases ry; exact PySem.EqNone.ne_int_none (fin_bl I q (by simp))
    | int j => obtain ⟨t', rfl⟩ := ry; exact ne_int (fin_bl I q (congrArg not dec_int))
    | str j => obtain ⟨t', rfl⟩ := ry; exact PySem.EqMixed.ne_int_str (fin_bl I q (by simp))
    | _ => exact absurd (show false = true from hs) Bool.false_ne_true
  | str i =>
    obtain ⟨t, rfl⟩ := rx
    cases y with
    | non => cases ry; exact PySem.EqNone.ne_str_none (fin_bl I q (by simp))
    | bl j => cases ry; exact PySem.EqMixed.ne_str_bool (fin_bl I q (by simp))
    | int j => obtain ⟨t', rfl⟩ := ry; exact PySem.EqMixed.ne_str_int (fin_bl I q (by simp))
    | str j => obtain ⟨t', rfl⟩ := ry; exact ne_str (fin_bl I q (congrArg not dec_str))
    | _ => exact absurd (show false = true from hs) Bool.false_ne_true
  | byt i =>
    obtain ⟨t, rfl⟩ := rx
    cases y with
    | byt j => obtain ⟨t', rfl⟩ := ry; exact PySem.W.ne_bytes (fin_bl I q (congrArg not dec_byt))
    | _ => exact absurd (show false = true from hs) Bool.false_ne_true
  | _ => cases y <;> exact absurd (show false = true from hs) Bool.false_ne_true

theorem op_lt : OpR X (compareOp .Lt) (rI0 fun i j => .bl (decide (i < j))) := opB0 fun _ _ _ _ _ _ _ q => lt_int q
theorem op_le : OpR X (compareOp .LtE) (rI0 fun i j => .bl (decide (i ≤ j))) := opB0 fun _ _ _ _ _ _ _ q => le_int q
theorem op_gt : OpR X (compareOp .Gt) (rI0 fun i j => .bl (decide (j < i))) := opB0 fun _ _ _ _ _ _ _ q => gt_int q
/-- the one string within the other -/
theorem op_in_str : OpR X (compareOp .In) (fun x y H Q => ∃ i j, x = .str i ∧ y = .str j ∧ Q (.bl (!(Builtin.Str.occurrences j i 0 j.length 1).isEmpty)) H) := by
  intro pins s σ H x y v u Q I rx ry h
  obtain ⟨i, j, rfl, rfl, q⟩ := h
  obtain ⟨t, rfl⟩ := rx
  obtain ⟨t', rfl⟩ := ry
  exact in_str (fin_bl I q rfl)

/-- is None, is not None: the right side a value none -/
theorem op_isN : OpR X (compareOp .Is) (fun x y H Q => y = .non ∧ Q (.bl (decide (x = .non))) H) := by
  intro pins s σ H x y v u Q I rx ry h
  obtain ⟨rfl, q⟩ := h
  cases ry
  refine is_none_gen (fin_bl I q ?_)
  cases x <;> first
    | (cases rx; rfl)
    | (obtain ⟨t, rfl⟩ := rx; rfl)
theorem op_notN : OpR X (compareOp .IsNot) (fun x y H Q => y = .non ∧ Q (.bl (!decide (x = .non))) H) := by
  intro pins s σ H x y v u Q I rx ry h
  obtain ⟨rfl, q⟩ := h
  cases ry
  refine isnot_none_gen (fin_bl I q ?_)
  cases x <;> first
    | (cases rx; rfl)
    | (obtain ⟨t, rfl⟩ := rx; rfl)

theorem nomark (b : Expr) {op : CmpOp} (h : op ≠ .In := by decide) (h2 : op ≠ .NotIn := by decide) : behindInMarks op b = false := by
  have e1 : (op == CmpOp.In) = false := by cases op <;> first | rfl | exact absurd rfl h
  have e2 : (op == CmpOp.NotIn) = false := by cases op <;> first | rfl | exact absurd rfl h2
  cases b <;> simp [behindInMarks, e1, e2]
/-- a comparison as a value; hm: nomark b, or (for in, not in) by with_unfolding_all rfl -/
theorem pe_cmpR {op : CmpOp} {r : R2} (ho : OpR X (compareOp op) r) (ha : PE X a ta) (hb : PE X b tb) (hm : behindInMarks op b = false) : PE X (.Compare a [op] [b] pos) (tOp r ta tb) := by
  intro pins s σ H Q I h
  exact wpAny_Compare1 (binT ha hb I h fun v u s2 x y H2 I2 rx ry q => ho pins s2 σ H2 x y v u Q I2 rx ry q) hm
/-- a reading of a value as a test -/
noncomputable def tTest (t : TE) : TT := fun σ H Q => t σ H fun x H' => ∃ k, x = .bl k ∧ Q k H'
theorem pt_cmpR {op : CmpOp} {r : R2} (ho : OpR X (compareOp op) r) (ha : PE X a ta) (hb : PE X b tb) (hm : behindInMarks op b = false) : PT X (.Compare a [op] [b] pos) (tTest (tOp r ta tb)) := by
  intro pins s σ H Q I h
  refine wpAny_isTrue_Compare1 (thn (ha pins s σ H _ I h) fun v s1 ⟨x, H1, I1, r1, q1⟩ => thn (hb pins s1 σ H1 _ I1 q1) fun u s2 ⟨y, H2, I2, r2, q2⟩ =>
    thn (ho pins s2 σ H2 x y v u _ I2 r1 r2 q2) fun c s3 ⟨z, H3, I3, r3, k, e, q3⟩ => ?_) hm
  subst e
  cases r3
  exact wpAny_truthy_bool ⟨H3, I3, q3⟩
/-! ### truth -/
/-- a value's truth by the abstract heap -/
noncomputable def TruV (K : PySem.W.Frag) (x : V) (H : Hp) (k : Bool) : Prop :=
  match x with
  | .non => k = false
  | .bl b => k = b
  | .int i => k = (i != 0)
  | .str y => y.length ≤ sizeLine ∧ k = ((y.length : Int) != 0)
  | .byt y => y.size ≤ sizeLine ∧ k = ((y.size : Int) != 0)
  | .ref p => (∃ xs, SqL K H p xs ∧ k = !xs.isEmpty) ∨ (∃ xs, SqT K H p xs ∧ k = !xs.isEmpty) ∨ ∃ kvs, H p = some (.dK kvs) ∧ k = !kvs.isEmpty
  | _ => False
theorem isEmpty_kv {κ : Type} {kvs : List (κ × V)} {vs : List (κ × Value)} (r : KV kvs vs) : (!vs.isEmpty) = !kvs.isEmpty := by
  cases r <;> rfl
theorem isEmpty_of {xs : List V} {its : List Value} (r : Vals xs its) : (!its.toArray.isEmpty) = !xs.isEmpty := by
  cases r <;> simp
theorem line63 : (sizeLine : Nat) < 2 ^ 63 := by rw [sizeLine_eq]; decide
theorem tru_ok : TruR X (fun x H Q => ∃ k, TruV X.K x H k ∧ Q k H) := by
  intro pins s σ H x v Q I rx h
  obtain ⟨k, e, q⟩ := h
  have hl := line63
  have hs : sizeLine = 16777216 := sizeLine_eq
  cases x with
  | non =>
    cases rx
    have e' : k = false := e
    subst e'
    exact truthy_none ⟨H, I, q⟩
  | bl b =>
    cases rx
    have e' : k = b := e
    subst e'
    exact wpAny_truthy_bool ⟨H, I, q⟩
  | int i =>
    obtain ⟨t, rfl⟩ := rx
    have e' : k = (i != 0) := e
    subst e'
    exact PySem.P.truthy_int ⟨H, I, q⟩
  | str y =>
    obtain ⟨t, rfl⟩ := rx
    obtain ⟨hy, e'⟩ : y.length ≤ sizeLine ∧ k = ((y.length : Int) != 0) := e
    subst e'
    exact PySem.P.truthy_str (by lia) ⟨H, I.tok _, q⟩
  | byt y =>
    obtain ⟨t, rfl⟩ := rx
    obtain ⟨hy, e'⟩ : y.size ≤ sizeLine ∧ k = ((y.size : Int) != 0) := e
    subst e'
    exact PySem.W.truthy_bytes (by lia) ⟨H, I.tok _, q⟩
  | ref p =>
    cases rx
    have e' : (∃ xs, SqL X.K H p xs ∧ k = !xs.isEmpty) ∨ (∃ xs, SqT X.K H p xs ∧ k = !xs.isEmpty) ∨ ∃ kvs, H p = some (.dK kvs) ∧ k = !kvs.isEmpty := e
    rcases e' with ⟨xs, hx, e'⟩ | ⟨xs, hx, e'⟩ | ⟨kvs, hx, e'⟩
    · subst e'
      obtain ⟨its, r, pl, hz⟩ := I.list hx
      have hlen := r.length
      exact wpAny_truthy_list pl.isList (by simp only [List.size_toArray]; lia) ⟨H, I.tok _, by rw [isEmpty_of r]; exact q⟩
    · subst e'
      obtain ⟨its, r, pl, hz⟩ := I.tuple hx
      have hlen := r.length
      exact truthy_tuple pl (by simp only [List.size_toArray]; lia) ⟨H, I.tok _, by rw [isEmpty_of r]; exact q⟩
    · subst e'
      obtain ⟨hz, hS, vs, r, m⟩ : kvs.length ≤ sizeLine ∧ (p == sysModules) = false ∧ ∃ vs, KV kvs vs ∧ s.heap.DictOf (mixKind X.prog X.w) p vs := I.hok p _ hx
      have hlen : kvs.length = vs.length := Paired.length r
      exact wpAny_truthy_dict hS m (by lia) ⟨H, I.tok _, by rw [isEmpty_kv r]; exact q⟩
  | _ => exact (show False from e).elim
/-- any expression whose test is its value's truth (a name, a call, a subscript, a field ..: he by fun _ => rfl) -/
theorem pt_truth (ha : PE X a ta) (he : ∀ whole, isTrue a X.env whole = (do let v ← whole; standAt a.pos; holding [v] (truthy v))) :
    PT X a (fun σ H Q => ta σ H fun x H' => ∃ k, TruV X.K x H' k ∧ Q k H') := by
  intro pins s σ H Q I h
  exact isTrue_plain (thn (ha pins s σ H _ I h) fun v s1 ⟨x, H1, I1, r1, q1⟩ => tru_ok pins s1 σ H1 x v Q I1 r1 q1) (he _)

/-! ### strs and bytes -/
/-! ### scalar builtins, by CallR -/
theorem vals1 {x : V} {us : List Value} (r : Vals [x] us) : ∃ u, us = [u] ∧ RelV x u := by
  cases r with
  | cons r1 r2 => cases r2; exact ⟨_, rfl, r1⟩
theorem vals2 {x y : V} {us : List Value} (r : Vals [x, y] us) : ∃ u w', us = [u, w'] ∧ RelV x u ∧ RelV y w' := by
  cases r with
  | cons r1 r2 =>
    cases r2 with
    | cons r3 r4 => cases r4; exact ⟨_, _, rfl, r1, r3⟩
theorem call_max2 (hc : X.calm = true) : CallR X (.builtin "max") (fun xs H Q => ∃ i j, xs = [.int i, .int j] ∧ Q (.int (if j > i then j else i)) H) := by
  intro pins s σ H xs us Q I r h
  obtain ⟨i, j, rfl, q⟩ := h
  obtain ⟨u, w', rfl, ⟨t, rfl⟩, ⟨t', rfl⟩⟩ := vals2 r
  refine max_two_ints (I.ok.hd hc) fun h' tk k => ⟨_, H, I.kept k, ?_, q⟩
  by_cases hj : j > i
  · rw [if_pos hj, if_pos hj]; exact ⟨_, rfl⟩
  · rw [if_neg hj, if_neg hj]; exact ⟨_, rfl⟩
theorem call_int1 : CallR X (.type "int") (fun xs H Q => (∃ i, xs = [.int i] ∧ Q (.int i) H) ∨ ∃ k, xs = [.bl k] ∧ Q (.int (if k then 1 else 0)) H) := by
  intro pins s σ H xs us Q I r h
  rcases h with ⟨i, rfl, q⟩ | ⟨k, rfl, q⟩
  · obtain ⟨u, rfl, t, rfl⟩ := vals1 r
    exact call_int_int ⟨.int i, H, I, ⟨_, rfl⟩, q⟩
  · obtain ⟨u, rfl, r1⟩ := vals1 r
    cases r1
    exact call_int_bool ⟨.int (if k then 1 else 0), H, I.tok _, ⟨_, rfl⟩, q⟩
theorem call_str_int : CallR X (.type "str") (fun xs H Q => ∃ i, xs = [.int i] ∧ i.natAbs.log2 < 1920 ∧ Q (.str (toString i)) H) := by
  intro pins s σ H xs us Q I r h
  obtain ⟨i, rfl, hz, q⟩ := h
  obtain ⟨u, rfl, t, rfl⟩ := vals1 r
  exact PySem.P.str_of_int hz ⟨.str _, H, I.tok _, ⟨_, rfl⟩, q⟩
end
end L2

namespace L2
open PySem PySem.Spec PyProof.Rows

/-! ### an instance, its attributes a map -/
structure ObjM (h : Heap) (x dx C : Addr) (mA : Str → Option Value) : Prop where
  obj : h.get? x = some (PySem.W.instObj C dx)
  ns : h.Ns1 dx mA
  ne : dx ≠ x

theorem lookIn_ns {h : Heap} {dx : Addr} {mA : Str → Option Value} (n : h.Ns1 dx mA) : ∃ od, h.get? dx = some od ∧ ∀ name, PySem.W.lookIn name od = some (mA name) := by
  obtain ⟨o, es, ep, ho, hd, hk, _, hm⟩ := n
  refine ⟨o, ho, fun name => ?_⟩
  have e := hm name
  unfold nsFind findBy at e
  rw [← Array.find?_toList] at e
  unfold PySem.W.lookIn
  rw [hd]
  dsimp only
  split
  · rename_i y q
    rw [q] at e
    exact congrArg some e
  · rename_i q
    rw [q] at e
    have a : es.toList.any (·.refKey) = false := by
      rw [List.any_eq_false]
      intro y hy
      obtain ⟨z, t, hkey⟩ := hk y (Array.mem_toList_iff.mp hy)
      simp [DictEntry.refKey, hkey]
    have a' : ¬ es.toList.any (·.refKey) = true := by rw [a]; exact Bool.false_ne_true
    rw [if_neg a']
    exact congrArg some e

theorem ObjM.look {h : Heap} {x dx C : Addr} {mA : Str → Option Value} (I : ObjM h x dx C mA) : ∃ od, PySem.W.InstAt h x (PySem.W.instObj C dx) C (some od) ∧ ∀ name, PySem.W.lookIn name od = some (mA name) :=
  let ⟨od, ho, hl⟩ := lookIn_ns I.ns
  ⟨od, ⟨I.obj, rfl, rfl, ho⟩, hl⟩

section
variable {prog : Program} {w : World} {A : Around} {E : Value → Shared → Prop} {s : Shared} {K : PySem.W.Frag} {x dx C f : Addr} {mA : Str → Option Value} {name : Str} {v : Value}

end

/-! ### the attributes as a list of pairs -/
theorem RelO.some_of {v : V} {o : Option Value} (r : RelO (some v) o) : ∃ u, o = some u ∧ RelV v u := by
  cases o with
  | none => exact (show False from r).elim
  | some u => exact ⟨u, rfl, r⟩
section
variable {P : Program} {w : World} {H H' : Hp} {h h' : Heap} {a C dx : Addr} {fs fs' : List (Str × V)}
theorem ins_get (hok : HOk P w H h) (e : H a = some (.ins C dx fs)) : ∃ mA, ObjM h a dx C mA ∧ (∀ f, RelO (fs.lookup f) (mA f)) ∧ PySem.Within mA (fs.map (·.1)) ∧ fs.length ≤ 1000 ∧ H dx = some (.own a) := by
  obtain ⟨d, z, ne, ob, mA, n, r, q⟩ := (show ObjOk P w H h a (.ins C dx fs) from hok a _ e)
  exact ⟨mA, ⟨ob, n, ne⟩, r, q, z, d⟩
end

/-! ### what of the text a class must have -/
structure Cls (K : PySem.W.Frag) (C : Addr) : Prop where
  pg : PySem.W.plainGet K C Str.empty = true
  hd : PySem.W.hasDictIn K C = true
  po : PySem.W.plainOver K C = true
  sa : PySem.W.findIn K (.ref C) "__setattr__" = some (some (.builtin "object.__setattr__"))
theorem Cls.get {K : PySem.W.Frag} {C : Addr} (c : Cls K C) (f : Str) : PySem.W.plainGet K C f = true := c.pg
section
variable {X : Cx} {pins : List (Addr × Obj)} {σ : St} {H : Hp} {s : Shared} {a C dx : Addr} {fs : List (Str × V)} {f : Str} {v : V} {A : Around} {E : Value → Shared → Prop}

end

/-! ### readings and rules -/
section
variable {X : Cx} {o e value : Expr} {f : Str} {pos pos' tpos : Pos} {ta tv : TE}
noncomputable def rAdd : V → V → Hp → VK → Prop := fun x y H Q => ∃ i j, x = .int i ∧ y = .int j ∧ Q (.int (i + j)) H
end

/-! ### isinstance -/
section
variable {X : Cx} {pins : List (Addr × Obj)} {σ : St} {H : Hp} {s : Shared} {A : Around} {E : Value → Shared → Prop} {Q : Value → Shared → Prop} {c : Value} {b : Bool}
/-- the type of a value, as the fragment's deciders take it; for an instance its class -/
inductive TyOf (K : PySem.W.Frag) (H : Hp) : V → Value → Prop where
  | non : TyOf K H .non (.type "NoneType")
  | bl (x : Bool) : TyOf K H (.bl x) (.type "bool")
  | int (i : Int) : TyOf K H (.int i) (.type "int")
  | str (x : Str) : TyOf K H (.str x) (.type "str")
  | flt (x : UInt64) : TyOf K H (.flt x) (.type "float")
  | lst {a : Addr} {xs : List V} (e : H a = some (.lst xs)) : TyOf K H (.ref a) (.type "list")
  | frz {a : Addr} {o : Obj} {xs : List V} (e : H a = some (.frz o (.lst xs))) : TyOf K H (.ref a) (.type "list")
  | tup {a : Addr} {xs : List V} (e : H a = some (.tup xs)) : TyOf K H (.ref a) (.type "tuple")
  | dK {a : Addr} {kvs : List (Key × V)} (e : H a = some (.dK kvs)) : TyOf K H (.ref a) (.type "dict")
  | dT {a : Addr} {kvs : List (List Key × V)} (e : H a = some (.dT kvs)) : TyOf K H (.ref a) (.type "dict")
  | ins {a C dx : Addr} {fs : List (Str × V)} (e : H a = some (.ins C dx fs)) (cl : Cls K C) (ha : PySem.W.findIn K (.ref C) "__class__" = some (some (.builtin "object.__class__")))
      (hn : PySem.W.specialIn K (.builtin "object.__class__") "__get__" = some (some (.builtin "getset_descriptor.__get__"))) (htk : PySem.W.takesIn K (.builtin "object.__class__") = some true)
      (hm : PySem.W.mroIn K C (.type "object") = some true) : TyOf K H (.ref a) (.ref C)
/-- isinstance(x, c) for one class c, a built-in or an own one: kitOne's answer -/
theorem isinst_ok {x : V} {u t : Value} (I : Inv X pins σ H s) (rx : RelV x u) (ty : TyOf X.K H x t) (e : PySem.W.kitOne X.K t c = some b) (h : ∀ tk, Q (.bool b) { s with toks := tk }) :
    wpAny (model X.prog X.w) A (call (.builtin "isinstance") [u, c]) Q E s := by
  cases ty with
  | non => cases (show u = Value.none from rx); exact PySem.W.kia_one PySem.W.kitx_none I.kIn True.intro e (fun z => nomatch z) h
  | bl y => cases (show u = Value.bool y from rx); exact PySem.W.kia_one PySem.W.kitx_bool I.kIn True.intro e (fun z => nomatch z) h
  | int i => obtain ⟨t, q⟩ := (show ∃ t, u = Value.int i t from rx); cases q; exact PySem.W.kia_one PySem.W.kitx_int I.kIn True.intro e (fun z => nomatch z) h
  | str y => obtain ⟨t, q⟩ := (show ∃ t, u = Value.str y t from rx); cases q; exact PySem.W.kia_one PySem.W.kitx_str I.kIn True.intro e (fun z => nomatch z) h
  | flt y => obtain ⟨t, q⟩ := (show ∃ t, u = Value.float y t from rx); cases q; exact PySem.W.kia_one PySem.W.kitx_float I.kIn True.intro e (fun z => nomatch z) h
  | @lst a xs ea =>
    cases (show u = Value.ref a from rx)
    obtain ⟨_, _, n, _, h1⟩ := (show ObjOk X.prog X.w H s.heap a (.lst xs) from I.hok a _ ea)
    exact PySem.W.kia_one PySem.W.kitx_list I.kIn ⟨_, h1, rfl⟩ e (fun z => nomatch z) h
  | @frz a ob xs ea =>
    cases (show u = Value.ref a from rx)
    obtain ⟨_, _, _, n, _, h1⟩ := (show ObjOk X.prog X.w H s.heap a (.frz ob (.lst xs)) from I.hok a _ ea)
    exact PySem.W.kia_one PySem.W.kitx_list I.kIn ⟨_, h1, rfl⟩ e (fun z => nomatch z) h
  | @tup a xs ea =>
    cases (show u = Value.ref a from rx)
    obtain ⟨_, _, _, p⟩ := (show ObjOk X.prog X.w H s.heap a (.tup xs) from I.hok a _ ea)
    obtain ⟨o, h1, h2, _⟩ := p
    exact PySem.W.kia_one PySem.W.kitx_tuple I.kIn ⟨o, h1, h2⟩ e (fun z => nomatch z) h
  | @dK a kvs ea =>
    cases (show u = Value.ref a from rx)
    obtain ⟨_, _, vs, _, p⟩ := (show ObjOk X.prog X.w H s.heap a (.dK kvs) from I.hok a _ ea)
    obtain ⟨o, es, ep, h1, h2, _⟩ := p
    exact PySem.W.kia_one PySem.W.kitx_dict I.kIn ⟨o, h1, h2.1⟩ e (fun z => nomatch z) h
  | @dT a kvs ea =>
    cases (show u = Value.ref a from rx)
    obtain ⟨_, _, xs, _, o, es, ep, h1, h2, _⟩ := (show ObjOk X.prog X.w H s.heap a (.dT kvs) from I.hok a _ ea)
    exact PySem.W.kia_one PySem.W.kitx_dict I.kIn ⟨o, h1, h2.1⟩ e (fun z => nomatch z) h
  | @ins a C dx fs ea cl ha hn htk hm =>
    cases (show u = Value.ref a from rx)
    obtain ⟨mA, O, _⟩ := ins_get I.hok ea
    obtain ⟨od, J, _⟩ := O.look
    exact PySem.W.kia_one (PySem.W.kitx_own (cl.get _) cl.hd ha hn htk hm) I.kIn J e (fun z => nomatch z) h
end
end L2

namespace L2
open PySem PySem.Spec PyProof.Rows

/-! ### room -/
structure Room (k : Nat) (A : Around) : Prop where
  hd : A.handled = none
  dp : A.depth + 3 * k + 5 < recursionLimit
  un : A.units + 16 * k + 200 < cLine
theorem Room.mono {j k : Nat} {A : Around} (r : Room k A) (h : j ≤ k) : Room j A := ⟨r.hd, by have := r.dp; lia, by have := r.un; lia⟩
theorem Room.deeper {k : Nat} {A : Around} (r : Room (k + 1) A) (env : Env) : Room k (A.deeper env) :=
  ⟨r.hd, by have := r.dp; show A.depth + 1 + 3 * k + 5 < _; lia, by have := r.un; show A.units + 3 + 16 * k + 200 < _; lia⟩
theorem make_depth {A : Around} {C : Addr} {us : List Value} {kw : List (Str × Value)} : (A.under (.builtin "type.__call__" ⟨.ref C :: us, kw⟩)).depth = A.depth + 1 := by
  first | rfl | simp [Around.under, Code.weight, Code.isCreation, Code.isGuard, Code.isCaller, Code.frames, Code.isFrame, guardIds]
theorem make_units {A : Around} {C : Addr} {us : List Value} {kw : List (Str × Value)} : (A.under (.builtin "type.__call__" ⟨.ref C :: us, kw⟩)).units = A.units + 1 := by
  first | rfl | simp [Around.under, Code.cUnits, Code.frames, Code.isFrame]
theorem Room.make {k : Nat} {A : Around} (r : Room (k + 1) A) (C : Addr) (us : List Value) (kw : List (Str × Value)) : Room k (A.under (.builtin "type.__call__" ⟨.ref C :: us, kw⟩)) :=
  ⟨r.hd, by have := r.dp; rw [make_depth]; lia, by have := r.un; rw [make_units]; lia⟩
theorem Room.depth {k : Nat} {A : Around} (r : Room k A) : A.depth < recursionLimit := by have := r.dp; lia
theorem Room.units {k : Nat} {A : Around} (r : Room k A) : A.units + 64 < cLine := by have := r.un; lia
/-! ### argument lists and displays -/
noncomputable def tNil : TA := fun _ H Q => Q [] H
noncomputable def tCons (ta : TE) (tr : TA) : TA := fun σ H Q => ta σ H fun x H1 => tr σ H1 fun xs H2 => Q (x :: xs) H2
section
variable {X : Cx} {e : Expr} {es : List Expr} {te : TE} {t : TA} {pos : Pos}
theorem pa_nil : PA X [] tNil := fun _ _ _ _ H Q I h => Calls.spliced_nil ⟨[], H, I, .nil, h⟩
theorem pa_cons (ha : PE X e te) (hr : PA X es t) (hs : starEach (e :: es) X.env = (false, eval e X.env) :: starEach es X.env := by rfl) : PA X (e :: es) (tCons te t) := by
  intro pos pins s σ H Q I h
  rw [hs]
  show wpAny _ _ (spliced ((false, eval e X.env) :: backTo pos (starEach es X.env))) _ _ s
  refine Calls.spliced_cons (thn (ha pins s σ H _ I h) fun u s1 ⟨x, H1, I1, r1, q1⟩ => ?_)
  exact thn (hr pos pins s1 σ H1 _ I1 q1) fun us s2 ⟨xs, H2, I2, r2, q2⟩ => ⟨x :: xs, H2, I2, .cons r1 r2, q2⟩

/-- a tuple, a list of written items -/
noncomputable def tTup (t : TA) : TE := fun σ H Q => t σ H fun xs H1 => xs.length ≤ sizeLine ∧ ∀ p, H1 p = none → Q (.ref p) (upd H1 p (.tup xs))
noncomputable def tLst (t : TA) : TE := fun σ H Q => t σ H fun xs H1 => xs.length ≤ sizeLine ∧ ∀ p, H1 p = none → Q (.ref p) (upd H1 p (.lst xs))
theorem pe_tup {x1} (h : PA X es t) : PE X (.Tuple es x1 pos) (tTup t) := by
  intro pins s σ H Q I hq
  refine wpAny_Tuple_spliced (thn (h pos pins s σ H _ I hq) fun us s1 ⟨xs, H1, I1, r, z, q⟩ => ⟨by rw [← r.length]; exact z, ?_⟩)
  have hf : H1 s1.heap.objs.size = none := I1.hok.fresh (Nat.le_refl _)
  refine ⟨.ref s1.heap.objs.size, upd H1 s1.heap.objs.size (.tup xs), I1.laid (t' := s1.toks) (fun b u e => Heap.get?_push_of_some _ e) (Nat.le_refl _) ?_, rfl, q _ hf⟩
  exact ⟨z, us, r, ⟨_, Heap.get?_push_size _ rfl, rfl, rfl, _, rfl⟩⟩
theorem pe_lst (h : PA X es t) : PE X (.List es pos) (tLst t) := by
  intro pins s σ H Q I hq
  refine wpAny_List_spliced (thn (h pos pins s σ H _ I hq) fun us s1 ⟨xs, H1, I1, r, z, q⟩ => ⟨by rw [← r.length]; exact z, ?_⟩)
  have hf : H1 s1.heap.objs.size = none := I1.hok.fresh (Nat.le_refl _)
  refine ⟨.ref s1.heap.objs.size, upd H1 s1.heap.objs.size (.lst xs), I1.laid (t' := s1.toks) (fun b u e => Heap.get?_push_of_some _ e) (Nat.le_refl _) ?_, rfl, q _ hf⟩
  exact ⟨z, us, 0, r, Heap.get?_push_size _ rfl⟩
end

/-! ### what a def promises -/
/-- a def's promise: the bound arguments in the parameters' order, the heap, the wanted end, the wanted exception -/
noncomputable abbrev Sp := List V → Hp → VK → XK → Prop
/-- how an exception lies behind a call (file 08 gives it): the callers' frames, abstract heap and state ahead of the call, the wish, the exception, the state -/
noncomputable abbrev CXT := List Env → Hp → Shared → XK → Value → Shared → Prop

/-- the state at a call -/
structure Env0 (P : Program) (w : World) (K : PySem.W.Frag) (mg : Str → Option Value) (base : Heap) (A : Around) (outer : List Env) (s : Shared) (H : Hp) : Prop where
  frames : A.frames = some outer
  mod : Mod K mg base
  bs : ∀ b o, base.get? b = some o → s.heap.get? b = some o ∧ H b = none
  bsz : base.objs.size ≤ s.heap.objs.size
  funs : s.heap.FunFrames base outer
  frf : ∀ b ∈ frs outer, H b = none
  hok : HOk P w H s.heap
  bare : AllBare s.gens
/-- a call's end -/
noncomputable def CE (outer : List Env) (P : Program) (w : World) (H : Hp) (s : Shared) (Q : VK) (u : Value) (s' : Shared) : Prop :=
  ∃ v H', s'.os = s.os ∧ AllBare s'.gens ∧ Un (frs outer) [] H H' s.heap s'.heap ∧ HOk P w H' s'.heap ∧ RelV v u ∧ Q v H'
noncomputable def CR (CX : CXT) (outer : List Env) (P : Program) (w : World) (H : Hp) (s : Shared) (Q : VK) (E : XK) (r : Result) (s' : Shared) : Prop :=
  match r with
  | .ok (.ret u) => CE outer P w H s Q u s'
  | .ok _ => False
  | .error e => CX outer H s E e s'
structure FnOk (P : Program) (w : World) (K : PySem.W.Frag) (mg : Str → Option Value) (base : Heap) (CX : CXT) (k : Nat) (f : Addr) (fd : FuncData) (ps : List Str) (sp : Sp) : Prop where
  len : ∀ vs H Q E, sp vs H Q E → vs.length = ps.length
  run : ∀ (A : Around) (outer : List Env) (s : Shared) (H : Hp) (args : Args) (us : List Value) (vs : List V) (Q : VK) (E : XK), Room k A → Env0 P w K mg base A outer s H → BindsTo s fd args (ps.zip us) → Vals vs us → sp vs H Q E →
    codeAny (model P w) A (.call (.ref f) args) (CR CX outer P w H s Q E) s
theorem Env0.make {P : Program} {w : World} {K : PySem.W.Frag} {mg : Str → Option Value} {base : Heap} {A : Around} {outer : List Env} {s : Shared} {H : Hp} (e : Env0 P w K mg base A outer s H) (C : Addr) (us : List Value) (kw : List (Str × Value)) :
    Env0 P w K mg base (A.under (.builtin "type.__call__" ⟨.ref C :: us, kw⟩)) outer s H := ⟨by first | exact e.frames | (simpa [Around.under, Code.envs, Code.isFrame, pushEnvs] using e.frames), e.mod, e.bs, e.bsz, e.funs, e.frf, e.hok, e.bare⟩
section
variable {X : Cx} {pins : List (Addr × Obj)} {σ : St} {H : Hp} {s s' : Shared}
/-- from a body: what a callee wants -/
theorem Inv.env0 (I : Inv X pins σ H s) : Env0 X.prog X.w X.K X.mg X.base X.A X.stack s H :=
  ⟨I.ok.frames, I.ok.mod, I.bs, Nat.le_trans I.ok.bsz I.sz, I.stack, I.stkFree, I.hok, I.bare⟩
/-- behind a call -/
theorem Inv.after {Q : VK} {u : Value} (I : Inv X pins σ H s) (h : CE X.stack X.prog X.w H s Q u s') : EP X pins σ Q u s' := by
  obtain ⟨v, H', os, bare, un, hok, r, q⟩ := h
  obtain ⟨hh, g, d, t, os'⟩ := s'
  obtain rfl : os' = s.os := os
  exact ⟨v, H', I.call (h' := hh) (g' := g) (d' := d) (t' := t) (ch := []) un hok bare (fun b z => absurd z (by simp)), r, q⟩
end

/-! ### calls -/
/-- f(..): the written arguments, then the defaults dvs; E: what is wanted of an exception -/
noncomputable def tCall (sp : Sp) (dvs : List V) (E : XK) (t : TA) : TE := fun σ H Q => t σ H fun vs H1 => sp (vs ++ dvs) H1 Q E
/-- how the parameters are bound: us the positional arguments, kw the keywords' values by name, ds the defaults that fill up -/
noncomputable def Binds (K : PySem.W.Frag) (fd : FuncData) (ps : List Str) (ds : List Value) : Prop :=
  ∀ (s : Shared) (us : List Value), K.In s.heap → (us ++ ds).length = ps.length → BindsTo s fd ⟨us, []⟩ (ps.zip (us ++ ds))
/-- every parameter is given -/
theorem Binds.all {K : PySem.W.Frag} {fd : FuncData} {ps : List Str} (h : ∀ us : List Value, us.length = ps.length → bindArgs fd ⟨us, []⟩ = pure (ps.zip us)) : Binds K fd ps [] := fun s us _ hl => by
  rw [List.append_nil] at hl ⊢
  exact .of_eq (h us hl)

/-- an exception of a callee reaches what this body wants of exceptions -/
noncomputable def Passes (CX : CXT) (X : Cx) (E : XK) : Prop := ∀ (pins : List (Addr × Obj)) (σ : St) (H : Hp) (s : Shared) (e : Value) (s' : Shared), Inv X pins σ H s → CX X.stack H s E e s' → X.xe e s'

section
variable {X : Cx} {CX : CXT} {k : Nat} {f C : Addr} {fd : FuncData} {ps : List Str} {sp : Sp} {dvs : List V} {ds : List Value} {E : XK} {x m : Str} {p pos apos : Pos} {e o : Expr} {es : List Expr} {ta : TE} {t : TA}

/-- the callee runs -/
theorem run_fn {pins : List (Addr × Obj)} {σ : St} {H : Hp} {s : Shared} {Q : VK} {us : List Value} {vs : List V} (F : FnOk X.prog X.w X.K X.mg X.base CX k f fd ps sp) (hr : Room k X.A) (hb : Binds X.K fd ps ds) (hd : Vals dvs ds) (hx : Passes CX X E)
    (I : Inv X pins σ H s) (r : Vals vs us) (h : sp (vs ++ dvs) H Q E) : wpAny (model X.prog X.w) X.A (call (.ref f) us) (EP X pins σ Q) X.xe s := by
  have r2 : Vals (vs ++ dvs) (us ++ ds) := r.append hd
  have hl : (us ++ ds).length = ps.length := by rw [← r2.length]; exact F.len _ _ _ _ h
  refine wpAny_call (codeAny_mono (F.run X.A X.stack s H ⟨us, []⟩ (us ++ ds) (vs ++ dvs) Q E hr I.env0 (hb s us I.kIn hl) r2 h) fun r s' hq => ?_)
  cases r with
  | error e => exact hx pins σ H s e s' I hq
  | ok fl =>
    cases fl with
    | ret u => exact I.after hq
    | next => exact False.elim hq
    | brk => exact False.elim hq
    | cont => exact False.elim hq

theorem pe_call (F : FnOk X.prog X.w X.K X.mg X.base CX k f fd ps sp) (hr : Room k X.A) (hg : Gl X x) (hm : X.mg x = some (.ref f)) (hk : PySem.W.keepIn X.K (.ref f) = true) (hb : Binds X.K fd ps ds) (hd : Vals dvs ds) (hx : Passes CX X E)
    (ha : PA X (e :: es) t) (hdb : (x == ("__debug__" : Str)) = false := by decide) (he : starEach (e :: es) X.env = (false, eval e X.env) :: starEach es X.env := by rfl) (hpl : (backTo pos (starEach es X.env)).any (·.1) = false := by rfl) :
    PE X (.Call (.Name x p) (e :: es) [] pos) (tCall sp dvs E t) := by
  intro pins s σ H Q I h
  refine wpAny_Call_Name_kw (ld_glob I hg hm ?_ hdb)
  refine PySem.W.callWith_K (h₀ := X.base) I.ok.mod.kin hk (thn (ha pos pins s σ H _ I h) fun us s1 ⟨vs, H1, I1, r, q⟩ => ⟨I1.kIn, ?_⟩) he hpl
  exact run_fn F hr hb hd hx I1 r q
end

/-! ### keywords -/
section
variable {X : Cx} {CX : CXT} {k : Nat} {f C : Addr} {fd : FuncData} {ps ks : List Str} {sp : Sp} {E : XK} {x m : Str} {p pos apos kpos : Pos} {e o : Expr} {es : List Expr} {kws : List Keyword} {te ta : TE} {t tk : TA} {nm : Option Str}
variable {g : List Value → List Value → List Value} {gV : List V → List V → List V}
end

/-! ### a def's body keeps its promise -/
/-- names: the parameters first -/
structure FnScope (N P : List Str) (sc : Scope) : Prop where
  kind : sc.kind = .function
  co : sc.isCoroutine = false
  gen : sc.isGenerator = false
  nd : N.Nodup
  pre : N.take P.length = P
  par : ∀ x ∈ P, sc.names.lookup x = some .local ∨ sc.names.lookup x = some .cell
  nofree : ∀ y ∈ sc.names, y.2 ≠ .free

theorem bindL_out {kindOf : Str → Option NameKind} {x : Str} : ∀ {binds : List (Str × Value)} {m : Str → Option Value}, (∀ v, (x, v) ∉ binds) → bindL kindOf binds m x = m x
  | [], _, _ => rfl
  | (n, v) :: r, m, h => by
    unfold bindL
    rw [bindL_out fun w hw => h w (List.mem_cons_of_mem _ hw)]
    split
    · have : x ≠ n := by rintro rfl; exact h v List.mem_cons_self
      simp [this]
    · rfl
theorem bindC_out {kindOf : Str → Option NameKind} {x : Str} : ∀ {binds : List (Str × Value)} {m : Str → Option Value}, (∀ v, (x, v) ∉ binds) → bindC kindOf binds m x = m x
  | [], _, _ => rfl
  | (n, v) :: r, m, h => by
    unfold bindC
    rw [bindC_out fun w hw => h w (List.mem_cons_of_mem _ hw)]
    split
    · rfl
    · have : x ≠ n := by rintro rfl; exact h v List.mem_cons_self
      simp [this]
theorem bindL_get {kindOf : Str → Option NameKind} {x : Str} {v : Value} : ∀ {P : List Str} {vs : List Value} {i : Nat} {m : Str → Option Value}, P.Nodup → P[i]? = some x → vs[i]? = some v → kindOf x = some .local →
    bindL kindOf (P.zip vs) m x = some v
  | [], _, _, _, _, h, _, _ => by simp at h
  | _ :: _, [], _, _, _, _, h, _ => by simp at h
  | p :: P, w :: vs, 0, m, nd, h1, h2, hk => by
    simp at h1 h2; subst h1; subst h2
    show bindL kindOf ((p, w) :: P.zip vs) m p = _
    unfold bindL
    rw [bindL_out fun v hv => (List.nodup_cons.mp nd).1 (List.of_mem_zip hv).1, if_pos hk]
    simp
  | p :: P, w :: vs, i + 1, m, nd, h1, h2, hk => by
    show bindL kindOf ((p, w) :: P.zip vs) m x = _
    unfold bindL
    exact bindL_get (i := i) (List.nodup_cons.mp nd).2 (by simpa using h1) (by simpa using h2) hk
theorem bindC_get {kindOf : Str → Option NameKind} {x : Str} {v : Value} : ∀ {P : List Str} {vs : List Value} {i : Nat} {m : Str → Option Value}, P.Nodup → P[i]? = some x → vs[i]? = some v → kindOf x ≠ some .local →
    bindC kindOf (P.zip vs) m x = some v
  | [], _, _, _, _, h, _, _ => by simp at h
  | _ :: _, [], _, _, _, _, h, _ => by simp at h
  | p :: P, w :: vs, 0, m, nd, h1, h2, hk => by
    simp at h1 h2; subst h1; subst h2
    show bindC kindOf ((p, w) :: P.zip vs) m p = _
    unfold bindC
    rw [bindC_out fun v hv => (List.nodup_cons.mp nd).1 (List.of_mem_zip hv).1, if_neg hk]
    simp
  | p :: P, w :: vs, i + 1, m, nd, h1, h2, hk => by
    show bindC kindOf ((p, w) :: P.zip vs) m x = _
    unfold bindC
    exact bindC_get (i := i) (List.nodup_cons.mp nd).2 (by simpa using h1) (by simpa using h2) hk

/-- the names' values at the entry -/
noncomputable def start (N : List Str) (vs : List V) : St := vs.map some ++ List.replicate (N.length - vs.length) none

/-- the context of a def's body, at its entry; an exception leaves the frame, then lies as CX says -/
noncomputable def cxOf (CX : CXT) (P : Program) (w : World) (K : PySem.W.Frag) (mg : Str → Option Value) (base : Heap) (N : List Str) (qual : Str) (scope : Scope) (f : Addr) (cd : Value) (A : Around) (outer : List Env) (s : Shared) (H : Hp) (E : XK) : Cx where
  prog := P
  w := w
  K := K
  mg := mg
  base := base
  A := A.deeper (envOfC qual scope s.heap.objs.size f cd)
  N := N
  s₀ := s
  H₀ := H
  env := envOfC qual scope s.heap.objs.size f cd
  outer := outer
  stack := envOfC qual scope s.heap.objs.size f cd :: outer
  ex := []
  calm := true
  fn := fun _ => true
  pn := []
  xe := fun e s' => wpAny (model P w) (A.deeper (envOfC qual scope s.heap.objs.size f cd)) (leaving (envOfC qual scope s.heap.objs.size f cd) e) (fun _ s'' => CX outer H s E e s'') (fun e' s'' => CX outer H s E e' s'') s'

theorem cell_has {sc : Scope} {n : Nat} {x : Str} (h : sc.names.lookup x = some .cell) : ∃ c, (cellsFrom n sc.names []).lookup x = some c := by
  have q := PySem.W.cellsFrom_some sc.names n [] (.inl h)
  exact Option.isSome_iff_exists.mp q

theorem inv_start {CX : CXT} {P : Program} {w : World} {K : PySem.W.Frag} {mg : Str → Option Value} {base : Heap} {N ps : List Str} {qual : Str} {scope : Scope} {f : Addr} {cd : Value} {A : Around} {outer : List Env} {s s1 : Shared} {H : Hp} {E : XK} {us : List Value} {vs : List V}
    (S : FnScope N ps scope) (hd : A.handled = none) (e0 : Env0 P w K mg base A outer s H) (hl : vs.length = ps.length) (r : Vals vs us)
    (x : InCallC s s.heap.objs.size (bindL (envOfC qual scope s.heap.objs.size f cd).kindOf (ps.zip us) fun _ => none) (cellsFrom (s.heap.objs.size + 1) scope.names []) (bindC (envOfC qual scope s.heap.objs.size f cd).kindOf (ps.zip us) fun _ => none) s1) :
    Inv (cxOf CX P w K mg base N qual scope f cd A outer s H E) [] (start N vs) H s1 := by
  have hpl : ps.length ≤ N.length := by have := congrArg List.length S.pre; rw [List.length_take] at this; lia
  obtain ⟨h1, tk, rfl, hk⟩ := x.done
  have noA : ∀ b : Addr, b ∉ (cxOf CX P w K mg base N qual scope f cd A outer s H E).ex := fun b z => absurd (show b ∈ ([] : List Addr) from z) (by simp)
  refine ⟨⟨e0.mod, S.kind, rfl, rfl, Nat.le_refl _, fun y z c h1 h2 => ?_, fun y hy => ?_, fun y c _ h => ?_, fun _ => hd, Around.frames_deeper e0.frames, .inr ⟨rfl, rfl⟩, fun b z => absurd z (noA b), e0.bs, e0.bsz, fun b _ _ => noA b, fun b z => absurd z (noA b), e0.funs, e0.frf⟩,
    rfl, e0.bare, Un.kept hk, ⟨_, x.toInCall.ns, fun i y v h1 h2 h3 => ?_⟩, fun y c h => ⟨_, x.cell y c h⟩, e0.hok.fresh (Nat.le_refl _), fun y c h => ?_, fun p hp => absurd (show p ∈ ([] : List (Addr × Obj)) from hp) (by simp), e0.hok.kept hk, ?_⟩
  · exact name_of_addr x.apart (PySem.mem_of_lookup h1) (PySem.mem_of_lookup h2)
  · have hy : scope.names.lookup y = some .cell ∨ scope.names.lookup y = some .free := hy
    rcases hy with hy | hy
    · exact cell_has hy
    · exact absurd rfl (S.nofree _ (PySem.mem_of_lookup hy))
  · exact Nat.le_of_lt (x.above y c (PySem.mem_of_lookup h))
  · have hi : i < vs.length := by
      unfold start at h2
      by_cases hi : i < vs.length
      · exact hi
      · rw [List.getElem?_append_right (by simpa using hi)] at h2
        rw [List.getElem?_replicate] at h2
        split at h2 <;> cases h2
    have ha : vs[i]? = some v := by
      unfold start at h2
      rw [List.getElem?_append_left (by simpa using hi), List.getElem?_map] at h2
      cases e : vs[i]? with
      | none => rw [e] at h2; cases h2
      | some a => rw [e] at h2; cases h2; rfl
    obtain ⟨u, hu, rv⟩ := r.get ha
    have hp : ps[i]? = some y := by
      rw [← S.pre, List.getElem?_take_of_lt (by lia)]; exact h1
    have ndP : ps.Nodup := by rw [← S.pre]; exact S.nd.sublist (List.take_sublist _ _)
    refine ⟨u, rv, ?_⟩
    rcases S.par y (List.mem_of_getElem? hp) with k | k
    · exact .inl ⟨k, bindL_get ndP hp hu k⟩
    · obtain ⟨c, e⟩ := cell_has (n := s.heap.objs.size + 1) k
      refine .inr ⟨.inl k, c, e, ?_⟩
      have q := x.cell y c e
      rw [bindC_get ndP hp hu (by show scope.names.lookup y ≠ _; rw [k]; decide)] at q
      exact q
  · exact e0.hok.fresh (Nat.le_of_lt (x.above y c (PySem.mem_of_lookup h)))
  · unfold start
    show _ = N.length
    rw [List.length_append, List.length_map, List.length_replicate]
    lia

/-- THE RULE: a def (or a method) of the text, by its body. The body's reading t is chosen for each entry; it is run at the parameters' values -/
theorem fn_of {CX : CXT} {P : Program} {w : World} {K : PySem.W.Frag} {mg : Str → Option Value} {base : Heap} {k : Nat} {f : Addr} {name qual : Str} {params : Arguments} {body : List Stmt} {scope : Scope} {dV kV doc pm cdv ct oc : Value} {an od : Option Addr}
    {osl : Array (Option Value)} {N ps : List Str} {sp : Sp} (lk : K.lookup f = some ⟨oc, od, .func (PySem.W.fnOf name qual params body scope dV kV doc pm an cdv ct), osl⟩) (hcd : PySem.W.codeIn K cdv qual = true) (S : FnScope N ps scope)
    (len : ∀ vs H Q E, sp vs H Q E → vs.length = ps.length)
    (hbody : ∀ (A : Around) (outer : List Env) (s : Shared) (H : Hp) (vs : List V) (Q : VK) (E : XK), Room k (A.deeper (envOfC qual scope s.heap.objs.size f cdv)) → sp vs H Q E →
      ∃ t, PSs (cxOf CX P w K mg base N qual scope f cdv A outer s H E) body t ∧ t { nx := fun _ H' => Q .non H', rt := Q } (start N vs) H) :
    FnOk P w K mg base CX (k + 1) f (PySem.W.fnOf name qual params body scope dV kV doc pm an cdv ct) ps sp := by
  refine ⟨len, fun A outer s H args us vs Q E hr e0 hb r hsp => ?_⟩
  have hl := len _ _ _ _ hsp
  have KX : K.In s.heap := e0.mod.kin.keeps fun b o e => (e0.bs b o e).1
  have lim : s.heap.NoLimit := e0.mod.nolimit.keeps fun b o e => (e0.bs b o e).1
  have hkind : ∀ y ∈ ps.zip us, scope.names.lookup y.1 = some .local ∨ (scope.names.lookup y.1 = some .cell ∧ ((cellsFrom (s.heap.objs.size + 1) scope.names []).lookup y.1).isSome = true) := fun ⟨n, v⟩ hy => by
    rcases S.par n (List.of_mem_zip hy).1 with q | q
    · exact .inl q
    · exact .inr ⟨q, PySem.W.cellsFrom_some _ _ _ (.inl q)⟩
  refine codeAny_call_function hr.depth (KX _ _ lk) rfl S.co S.gen rfl (PySem.W.codeRec_of KX hcd) (hb _ _ _ _ ?_)
  refine wpAny_newFunctionEnv_cells S.kind hkind fun env he s1 x => ?_
  subst he
  refine ⟨lim.keeps x.toInCall.keep, codeAny_func ?_⟩
  obtain ⟨t, ht, hq⟩ := hbody A outer s H vs Q E (hr.deeper _) hsp
  have I : Inv (cxOf CX P w K mg base N qual scope f cdv A outer s H E) [] (start N vs) H s1 := inv_start S hr.hd e0 hl r x
  refine wpAny_mono (ht [] s1 (start N vs) H _ I hq) (fun fl s' hs => ?_) fun e s' hs => hs
  have fin : ∀ {σ' : St} {H' : Hp} {v : V} {u : Value}, Inv (cxOf CX P w K mg base N qual scope f cdv A outer s H E) [] σ' H' s' → RelV v u → Q v H' → CE outer P w H s Q u s' :=
    fun {σ' H' v u} J rv q => ⟨v, H', J.os, J.bare, J.base, J.hok, rv, q⟩
  cases fl with
  | ret u =>
    obtain ⟨v, σ', H', J, rv, q⟩ := hs
    exact fin J rv q
  | next =>
    obtain ⟨σ', H', J, q⟩ := hs
    exact fin (v := V.non) (u := Value.none) J rfl q
  | brk =>
    obtain ⟨_, _, _, q⟩ := hs
    exact False.elim q
  | cont =>
    obtain ⟨_, _, _, q⟩ := hs
    exact False.elim q
end L2

namespace L2
open PySem PySem.Spec PyProof.Rows
section
variable {X : Cx} {x : Str} {p pos : Pos} {e : Expr} {es : List Expr} {t : TA} {id T : String} {r : List V → Hp → VK → Prop}

noncomputable def tCB (r : List V → Hp → VK → Prop) (t : TA) : TE := fun σ H Q => t σ H fun vs H1 => r vs H1 Q
/-- f(e, ..), f a built-in function -/
theorem pe_callB (hc : CallR X (.builtin id) r) (hg : Gl X x) (hm : X.mg x = none) (hv : bootBuiltins x = some (.builtin id)) (ha : PA X (e :: es) t) (hn : x ≠ "__name__" := by decide) (hdb : (x == ("__debug__" : Str)) = false := by decide)
    (he : starEach (e :: es) X.env = (false, eval e X.env) :: starEach es X.env := by rfl) (hpl : (backTo pos (starEach es X.env)).any (·.1) = false := by rfl) : PE X (.Call (.Name x p) (e :: es) [] pos) (tCB r t) := by
  intro pins s σ H Q I h
  refine wpAny_Call_Name_kw (ld_blt I hg hm hv ?_ hn hdb)
  exact PyProof.Rows.callWith_builtin1 (thn (ha pos pins s σ H _ I h) fun us s1 ⟨vs, H1, I1, r1, q1⟩ => hc pins s1 σ H1 vs us Q I1 r1 q1) he hpl
/-- T(e, ..), T a built-in type -/
theorem pe_callTy (hc : CallR X (.type T) r) (hg : Gl X x) (hm : X.mg x = none) (hv : bootBuiltins x = some (.type T)) (ha : PA X (e :: es) t) (hn : x ≠ "__name__" := by decide) (hdb : (x == ("__debug__" : Str)) = false := by decide)
    (he : starEach (e :: es) X.env = (false, eval e X.env) :: starEach es X.env := by rfl) (hpl : (backTo pos (starEach es X.env)).any (·.1) = false := by rfl) : PE X (.Call (.Name x p) (e :: es) [] pos) (tCB r t) := by
  intro pins s σ H Q I h
  refine wpAny_Call_Name_kw (ld_blt I hg hm hv ?_ hn hdb)
  exact PyProof.Rows.callWith_type1 (thn (ha pos pins s σ H _ I h) fun us s1 ⟨vs, H1, I1, r1, q1⟩ => hc pins s1 σ H1 vs us Q I1 r1 q1) he hpl
end
end L2

namespace HT
open PySem PyProof.Rows

section
open PySem.SeqAt
open PySem.AutoSeq1 (wpAny_loadPart')
open PySem.MeetsSeq PySem.MeetsSeq2 PySem.MeetsSeq3

end

section
variable {prog : Program} {w : World} {A : Around} {E : Value → Shared → Prop} {s : Shared}

/-- t + u, t not empty -/
theorem cat_tup {t b : Addr} {vs ws : List Value} {Q : Value → Shared → Prop} (ht : IsTup s.heap t vs.toArray) (hb : IsTup s.heap b ws.toArray) (hv : vs ≠ [])
    (h1 : ws = [] → Q (.ref t) s) (h2 : ws ≠ [] → Q (.ref s.heap.objs.size) { s with heap := s.heap.push { cls := .type "tuple", data := .seq (vs ++ ws).toArray } })
    (hsz : vs.length + ws.length ≤ sizeLine) : wpAny (model prog w) A (binaryOp .Add (.ref t) (.ref b)) Q E s := by
  obtain ⟨⟨cls, dd, data, sl⟩, ho, hc, n, hd⟩ := id ht
  obtain ⟨⟨cls2, dd2, data2, sl2⟩, ho2, hc2, n2, hd2⟩ := id hb
  simp only at hc hd hc2 hd2
  subst hc hd hc2 hd2
  have e : vs.toArray ++ ws.toArray = (vs ++ ws).toArray := by simp
  by_cases hw : ws = []
  · exact concat_meets ⟨_, ho, rfl⟩ ⟨_, ho2, rfl⟩ noFill_tuple_add seq_tuple_add PySem.F.slot_tuple_add PySem.F.entry_tuple_add (PySem.F.args_tuple_add_2 _ _)
      (tuple_addW1 t b vs.toArray ws.toArray n n2 dd dd2 sl sl2 (by simpa using hv) (by simp [hw])) ⟨ho, ho2, h1 hw⟩
  · refine concat_meets ⟨_, ho, rfl⟩ ⟨_, ho2, rfl⟩ noFill_tuple_add seq_tuple_add PySem.F.slot_tuple_add PySem.F.entry_tuple_add (PySem.F.args_tuple_add_2 _ _)
      (tuple_addW2 t b vs.toArray ws.toArray n n2 dd dd2 sl sl2 (by simpa using hv) (by simpa using hw) (by rw [List.size_toArray, List.size_toArray]; exact hsz)) ⟨ho, ho2, ?_⟩
    rw [e]
    exact h2 hw

/-! ### t[a:b], not the whole -/
/-- a slice's bound as a place among n (d where it is left out) -/
noncomputable def sIx (n d : Nat) : Option Int → Nat
  | none => d
  | some v => if v < 0 then (v + (n : Int)).toNat else min v.toNat n
end
end HT

namespace L2
open PySem PySem.Spec PyProof.Rows

/-! ### the parts of a slice -/
noncomputable abbrev TO := St → Hp → (Option Int → Hp → Prop) → Prop
/-- a slice's part (left out, or an int) -/
noncomputable def PO (X : Cx) (e : Option Expr) (t : TO) : Prop :=
  ∀ (pins : List (Addr × Obj)) (s : Shared) (σ : St) (H : Hp) (Q : Option Int → Hp → Prop), Inv X pins σ H s → t σ H Q →
    wpAny (model X.prog X.w) X.A (evalPart e X.env) (fun u s' => ∃ o H', Inv X pins σ H' s' ∧ IsPart u o ∧ Q o H') X.xe s
noncomputable def tNoPart : TO := fun _ H Q => Q none H
noncomputable def tPart (t : TE) : TO := fun σ H Q => t σ H fun x H1 => ∃ i, x = .int i ∧ Q (some i) H1

section
variable {X : Cx} {e : Expr} {te : TE} {lo hi : Option Expr} {tl th : TO} {pos p2 : Pos}

theorem po_none : PO X none tNoPart := by
  intro pins s σ H Q I h
  rw [evalPart_none]
  exact wpAny_pure ⟨none, H, I, .none, h⟩
theorem po_some (h : PE X e te) : PO X (some e) (tPart te) := by
  intro pins s σ H Q I hw
  rw [evalPart_some]
  refine thn (h pins s σ H _ I hw) fun u s1 ⟨x, H1, I1, r1, q1⟩ => ?_
  obtain ⟨i, rfl, q⟩ := q1
  obtain ⟨t, rfl⟩ := r1
  exact ⟨some i, H1, I1, .int i t, q⟩

/-- what a slice of a value is, by values: the slice object stands at sl -/
noncomputable def SlR (X : Cx) (r : V → Option Int → Option Int → Hp → VK → Prop) : Prop :=
  ∀ (pins : List (Addr × Obj)) (s : Shared) (σ : St) (H : Hp) (x : V) (v vl vu : Value) (lo hi : Option Int) (sl : Addr) (Q : VK), Inv X pins σ H s → RelV x v → s.heap.IsSliceOf sl vl vu .none → IsPart vl lo → IsPart vu hi → r x lo hi H Q →
    ∃ T id, typeLookup (.type T) "__getitem__" = pure (some (.builtin id)) ∧ s.TypeIs v T ∧ wpAny (model X.prog X.w) X.A (getItem v (.ref sl)) (EP X pins σ Q) X.xe s
noncomputable def tSl (r : V → Option Int → Option Int → Hp → VK → Prop) (te : TE) (tl th : TO) : TE := fun σ H Q => te σ H fun x H1 => tl σ H1 fun l H2 => th σ H2 fun u H3 => r x l u H3 Q
/-- a[lo:hi], any a -/
theorem pe_slice {r : V → Option Int → Option Int → Hp → VK → Prop} (hr : SlR X r) (he : PE X e te) (hl : PO X lo tl) (hu : PO X hi th) : PE X (.Subscript e (.Slice lo hi none p2) pos) (tSl r te tl th) := by
  intro pins s σ H Q I h
  refine Subscript_ (thn (he pins s σ H _ I h) fun v s1 ⟨x, H1, I1, r1, q1⟩ => ?_)
  refine wpAny_Slice (thn (hl pins s1 σ H1 _ I1 q1) fun vl s2 ⟨l, H2, I2, pl, q2⟩ => thn (hu pins s2 σ H2 _ I2 q2) fun vu s3 ⟨u, H3, I3, pu, q3⟩ => ?_)
  rw [evalPart_none]
  refine wpAny_pure ?_
  have I4 : Inv X pins σ H3 { s3 with heap := s3.heap.push { cls := .type "slice", data := .fields #[vl, vu, .none] } } := I3.kept (t' := s3.toks) fun b ob q => Heap.get?_push_of_some _ q
  obtain ⟨T, id, hT, ht, hg⟩ := hr pins { s3 with heap := s3.heap.push { cls := .type "slice", data := .fields #[vl, vu, .none] } } σ H3 x v vl vu l u s3.heap.objs.size Q I4 r1 (Heap.IsSliceOf.new ..) pl pu q3
  show wpAny (model X.prog X.w) X.A (subscriptTail e (.Slice lo hi none p2) v (.ref s3.heap.objs.size)) (EP X pins σ Q) X.xe { s3 with heap := s3.heap.push { cls := .type "slice", data := .fields #[vl, vu, .none] } }
  exact tail_any (ops := [.ref s3.heap.objs.size, v]) ht hT hg (by with_unfolding_all rfl)

/-- the items of xs[lo:hi] -/
noncomputable def cutV (xs : List V) (lo hi : Option Int) : List V := (xs.drop (HT.sIx xs.length 0 lo)).take (HT.sIx xs.length xs.length hi - HT.sIx xs.length 0 lo)
theorem cutV_length (xs : List V) (lo hi : Option Int) : (cutV xs lo hi).length ≤ xs.length := by
  unfold cutV
  rw [List.length_take, List.length_drop]
  lia
/-! ### t < u, t + u -/
/-- t + u, t not empty: u empty gives t itself -/
noncomputable def rCatT (K : PySem.W.Frag) : R2 := fun x y H Q => ∃ a b xs ys, x = .ref a ∧ y = .ref b ∧ SqT K H a xs ∧ SqT K H b ys ∧ xs ≠ [] ∧ xs.length + ys.length ≤ sizeLine ∧
  (ys = [] → Q (.ref a) H) ∧ (ys ≠ [] → ∀ p, H p = none → Q (.ref p) (upd H p (.tup (xs ++ ys))))
theorem Vals.nil_iff {xs : List V} {us : List Value} (r : Vals xs us) : us = [] ↔ xs = [] := by
  cases r with
  | nil => simp
  | cons _ _ => simp
theorem op_catT : OpR X (binaryOp .Add) (rCatT X.K) := by
  intro pins s σ H x y v u Q I rx ry h
  obtain ⟨a, b, xs, ys, rfl, rfl, ha, hb, hx, hz, q1, q2⟩ := h
  cases rx
  cases ry
  obtain ⟨its, r1, p1, _⟩ := I.tuple ha
  obtain ⟨its2, r2, p2, _⟩ := I.tuple hb
  refine HT.cat_tup p1 p2 (fun z => hx (r1.nil_iff.mp z)) (fun z => ⟨.ref a, H, I, rfl, q1 (r2.nil_iff.mp z)⟩) (fun z => ?_) (by rw [← r1.length, ← r2.length]; exact hz)
  refine ⟨.ref s.heap.objs.size, _, I.laid (t' := s.toks) (o := .tup (xs ++ ys)) (fun b ob q => Heap.get?_push_of_some _ q) (Nat.le_refl _) ?_, rfl, q2 (fun w => z (r2.nil_iff.mpr w)) _ (I.hok.fresh (Nat.le_refl _))⟩
  exact ⟨by rw [List.length_append]; exact hz, _, r1.append r2, IsTupN.new _ _⟩
end
end L2

namespace L2
open PySem PySem.Spec PyProof.Rows

/-! ### places -/
/-- the place that an index of any sign means -/
noncomputable def ixN (n : Nat) (i : Int) : Option Nat := if 0 ≤ i then (if i < n then some i.toNat else none) else if -(n : Int) ≤ i then some (i + n).toNat else none
noncomputable def atI {α : Type} (xs : List α) (i : Int) : Option α := (ixN xs.length i).bind fun j => xs[j]?
theorem ixN_seq {n : Nat} {i : Int} {j : Nat} (h : ixN n i = some j) : seqIndex? i n = some j ∧ j < n ∧ -(n : Int) ≤ i ∧ i < n := by
  unfold ixN at h
  by_cases h0 : 0 ≤ i
  · rw [if_pos h0] at h
    by_cases h1 : i < n
    · rw [if_pos h1] at h
      have e : i.toNat = j := Option.some.inj h
      exact ⟨by rw [seqIndex_of h0 h1, e], by lia, by lia, h1⟩
    · rw [if_neg h1] at h; cases h
  · rw [if_neg h0] at h
    by_cases h1 : -(n : Int) ≤ i
    · rw [if_pos h1] at h
      have e : (i + n).toNat = j := Option.some.inj h
      exact ⟨by rw [seqIndex_neg (by lia) h1, e], by lia, h1, by lia⟩
    · rw [if_neg h1] at h; cases h
theorem atI_get {α : Type} {xs : List α} {i : Int} {v : α} (h : atI xs i = some v) : ∃ j, seqIndex? i xs.length = some j ∧ xs[j]? = some v ∧ j < xs.length ∧ -(xs.length : Int) ≤ i ∧ i < xs.length := by
  unfold atI at h
  cases e : ixN xs.length i with
  | none => rw [e] at h; cases h
  | some j =>
    rw [e] at h
    obtain ⟨h1, h2, h3, h4⟩ := ixN_seq e
    exact ⟨j, h1, h, h2, h3, h4⟩
theorem atI_nat {α : Type} {xs : List α} {j : Nat} {v : α} (h : xs[j]? = some v) : atI xs (j : Int) = some v := by
  have hj : j < xs.length := (List.getElem?_eq_some_iff.mp h).1
  have e : ixN xs.length (j : Int) = some j := by
    unfold ixN
    rw [if_pos (by lia), if_pos (by lia)]; simp
  unfold atI; rw [e]; exact h
theorem atI_last {α : Type} (xs : List α) (v : α) : atI (xs ++ [v]) (-1) = some v := by
  have hl : (xs ++ [v]).length = xs.length + 1 := by simp
  have e : ixN (xs ++ [v]).length (-1) = some xs.length := by
    unfold ixN
    rw [hl, if_neg (by decide), if_pos (by lia)]
    congr 1
    lia
  unfold atI
  rw [e]
  show (xs ++ [v])[xs.length]? = some v
  simp

/-! ### what may be subscripted -/
/-- what stands as an index of a plain subscript -/
noncomputable def PlainIx (b : Expr) : Prop := ∀ o i, subscripted b false o i = operate [o, i] (getItem o i)
/-- a subscript by values -/
noncomputable def IxR (X : Cx) (r : R2) : Prop :=
  ∀ (value slice : Expr) (pins : List (Addr × Obj)) (s : Shared) (σ : St) (H : Hp) (x y : V) (v u : Value) (Q : VK), Inv X pins σ H s → RelV x v → RelV y u → r x y H Q →
    subscripted slice false v u = operate [v, u] (getItem v u) → wpAny (model X.prog X.w) X.A (subscriptTail value slice v u) (EP X pins σ Q) X.xe s
/-- a call of a builtin's method by values: the receiver, the arguments -/
noncomputable def MtR (X : Cx) (id : String) (r : V → List V → Hp → VK → Prop) : Prop :=
  ∀ (pins : List (Addr × Obj)) (s : Shared) (σ : St) (H : Hp) (x : V) (xs : List V) (v : Value) (us : List Value) (Q : VK), Inv X pins σ H s → RelV x v → Vals xs us → r x xs H Q →
    wpAny (model X.prog X.w) X.A (call (.builtin id) (v :: us)) (EP X pins σ Q) X.xe s
section
variable {X : Cx} {a b : Expr} {ta tb : TE} {pos : Pos}
/-- a[b] -/
theorem pe_ix {r : R2} (hr : IxR X r) (ha : PE X a ta) (hb : PE X b tb) (hs : PlainIx b) : PE X (.Subscript a b pos) (tOp r ta tb) := by
  intro pins s σ H Q I h
  exact Subscript_ (binT ha hb I h fun v u s2 x y H2 I2 rx ry q => hr a b pins s2 σ H2 x y v u Q I2 rx ry q (hs _ _))

noncomputable def rIxL (K : PySem.W.Frag) : R2 := fun x y H Q => ∃ p xs i v, x = .ref p ∧ y = .int i ∧ SqL K H p xs ∧ atI xs i = some v ∧ Q v H
noncomputable def rIxT (K : PySem.W.Frag) : R2 := fun x y H Q => ∃ p xs i v, x = .ref p ∧ y = .int i ∧ SqT K H p xs ∧ atI xs i = some v ∧ Q v H
noncomputable def rIxS : R2 := fun x y H Q => ∃ z i c, x = .str z ∧ y = .int i ∧ z.length ≤ sizeLine ∧ atI z.cps.toList i = some c ∧ Q (.str ⟨#[c]⟩) H
theorem ix_list : IxR X (rIxL X.K) := by
  intro value slice pins s σ H x y v u Q I rx ry h hs
  obtain ⟨p, xs, i, z, rfl, rfl, hq, he, q⟩ := h
  cases rx
  obtain ⟨t, rfl⟩ := ry
  obtain ⟨its, r, pl, hz⟩ := I.list hq
  obtain ⟨j, h1, h2, h3, h4, h5⟩ := atI_get he
  obtain ⟨w, ew, rw'⟩ := r.get h2
  have hl := r.length
  have hn := line63
  have fin : EP X pins σ Q w s := ⟨z, H, I, rw', q⟩
  by_cases h0 : 0 ≤ i
  · have hj : i.toNat = j := by
      rw [seqIndex_of h0 h5] at h1
      exact Option.some.inj h1
    exact item_listR pl.isList h0 (by lia) (by rw [hj]; simpa using ew) fin hs
  · have hj : (i + (its.toArray.size : Int)).toNat = j := by
      rw [seqIndex_neg (by lia) h4] at h1
      rw [List.size_toArray, ← hl]
      exact Option.some.inj h1
    exact subscriptTail_builtinR (x := w) pl.isList.typeIs slot_list_getitem.lookup
      (wpAny_getItem_list_neg (Q := fun r s' => r = w ∧ EP X pins σ Q r s') pl.isList (by lia) (by rw [List.size_toArray] <;> lia) (by lia) (by rw [hj]; simpa using ew) ⟨rfl, fin⟩) hs
theorem ix_tup : IxR X (rIxT X.K) := by
  intro value slice pins s σ H x y v u Q I rx ry h hs
  obtain ⟨p, xs, i, z, rfl, rfl, hq, he, q⟩ := h
  cases rx
  obtain ⟨t, rfl⟩ := ry
  obtain ⟨its, r, pl, hz⟩ := I.tuple hq
  obtain ⟨j, h1, h2, h3, h4, h5⟩ := atI_get he
  obtain ⟨w, ew, rw'⟩ := r.get h2
  have hl := r.length
  have hn := line63
  have fin : EP X pins σ Q w s := ⟨z, H, I, rw', q⟩
  exact subscriptTail_builtinR (x := w) pl.typeIs slot_tuple_getitem.lookup
    (getItem_tuple (j := j) (Q := fun r s' => r = w ∧ EP X pins σ Q r s') pl (by lia) (by lia) (by rw [List.size_toArray, ← hl]; exact h1) (by simpa using ew) ⟨rfl, fin⟩) hs
theorem ix_str : IxR X rIxS := by
  intro value slice pins s σ H x y v u Q I rx ry h hs
  obtain ⟨z, i, c, rfl, rfl, hz, he, q⟩ := h
  obtain ⟨t, rfl⟩ := rx
  obtain ⟨t', rfl⟩ := ry
  obtain ⟨j, h1, h2, h3, h4, h5⟩ := atI_get he
  have hl : z.cps.toList.length = z.length := by simp [Str.length]
  rw [hl] at h1 h4 h5
  have hn := line63
  exact tail_any (typeIs_str s z t) slot_str_getitem.lookup (getItem_str (c := c) (by
    have e1 : decide (i < -(2 ^ 63 : Int)) = false := decide_eq_false (by lia)
    have e2 : decide (i ≥ 2 ^ 63) = false := decide_eq_false (by lia)
    rw [e1, e2, Bool.or_false]) (by rw [h1]; simpa using h2) ⟨.str ⟨#[c]⟩, H, I.tok _, ⟨_, rfl⟩, q⟩) hs
/-! ### xs[i] = v, any sign -/
/-! ### slices -/
theorem slice_bounds (lo hi : Option Int) (n : Nat) : (sliceBounds lo hi none n).1 = ((HT.sIx n 0 lo : Nat) : Int) ∧ (sliceBounds lo hi none n).2.1 = ((HT.sIx n n hi : Nat) : Int) ∧ (sliceBounds lo hi none n).2.2 = 1 := by
  refine ⟨?_, ?_, rfl⟩
  · cases lo with
    | none => simp [sliceBounds, HT.sIx]
    | some i =>
      simp only [sliceBounds, HT.sIx, Option.getD_none, show (1 : Int) > 0 by decide, if_true]
      by_cases h : i < 0
      · simp only [h, if_true] <;> lia
      · simp only [h, if_false] <;> lia
  · cases hi with
    | none => simp [sliceBounds, HT.sIx]
    | some i =>
      simp only [sliceBounds, HT.sIx, Option.getD_none, show (1 : Int) > 0 by decide, if_true]
      by_cases h : i < 0
      · simp only [h, if_true] <;> lia
      · simp only [h, if_false] <;> lia
theorem slicePick_cut (its : List Value) (lo hi : Option Int) : slicePick its.toArray lo hi none = ((its.drop (HT.sIx its.length 0 lo)).take (HT.sIx its.length its.length hi - HT.sIx its.length 0 lo)).toArray := by
  obtain ⟨h1, h2, h3⟩ := slice_bounds lo hi its.toArray.size
  unfold slicePick
  rw [h1, h2, h3]
  simp only [sliceRange_one, pick_run, List.size_toArray] <;> rfl
/-- xs[lo:hi] of a list: a new list -/
noncomputable def rSlL (K : PySem.W.Frag) : V → Option Int → Option Int → Hp → VK → Prop := fun x lo hi H Q => ∃ a xs, x = .ref a ∧ SqL K H a xs ∧ ∀ p, H p = none → Q (.ref p) (upd H p (.lst (cutV xs lo hi)))
theorem sl_list : SlR X (rSlL X.K) := by
  intro pins s σ H x v vl vu lo hi sl Q I rx hs pl pu h
  obtain ⟨a, xs, rfl, hx, q⟩ := h
  cases rx
  obtain ⟨its, r, ht, hz⟩ := I.list hx
  have hlen := r.length
  refine ⟨"list", _, slot_list_getitem.lookup, ht.isList.typeIs, ?_⟩
  refine wpAny_getItem_list_slice ht.isList hs pl pu .none (by simp) ?_ (by rw [List.size_toArray] <;> lia)
  rw [slicePick_cut, ← hlen]
  refine ⟨.ref s.heap.objs.size, _, I.laid (t' := s.toks) (o := .lst (cutV xs lo hi)) (fun b ob q => Heap.get?_push_of_some _ q) (Nat.le_refl _) ?_, rfl, q _ (I.hok.fresh (Nat.le_refl _))⟩
  exact ⟨Nat.le_trans (cutV_length xs lo hi) hz, _, 0, (r.drop (HT.sIx xs.length 0 lo)).take (HT.sIx xs.length xs.length hi - HT.sIx xs.length 0 lo), Heap.get?_push_size _ rfl⟩

/-! ### in, not in: flat items -/
noncomputable def flatV : V → Bool
  | .non => true
  | .bl _ => true
  | .int _ => true
  | .str _ => true
  | _ => false
/-- == of flat values -/
noncomputable def eqV : V → V → Bool
  | .non, .non => true
  | .bl a, .bl b => a == b
  | .bl a, .int b => (if a then 1 else 0) == b
  | .int a, .bl b => a == (if b then 1 else 0)
  | .int a, .int b => a == b
  | .str a, .str b => a == b
  | _, _ => false
theorem eqAt_V {A : Around} {s : Shared} {y x : V} {u v : Value} (ry : RelV y u) (rx : RelV x v) (fy : flatV y = true) (fx : flatV x = true) : SeqAt.EqAt A s u v (eqV y x) := by
  cases y with
  | non =>
    cases ry
    cases x with
    | non => cases rx; exact SeqAt.EqAt.same _
    | bl b => cases rx; exact SeqAt.EqAt.none_bool b
    | int b => obtain ⟨t, rfl⟩ := rx; exact SeqAt.EqAt.none_int b t
    | str b => obtain ⟨t, rfl⟩ := rx; exact SeqAt.EqAt.none_str b t
    | _ => exact absurd (show false = true from fx) Bool.false_ne_true
  | bl a =>
    cases ry
    cases x with
    | non => cases rx; exact SeqAt.EqAt.bool_none a
    | bl b => cases rx; exact SeqAt.EqAt.bool_bool a b
    | int b => obtain ⟨t, rfl⟩ := rx; exact SeqAt.EqAt.bool_int a b t
    | str b => obtain ⟨t, rfl⟩ := rx; exact SeqAt.EqAt.bool_str a b t
    | _ => exact absurd (show false = true from fx) Bool.false_ne_true
  | int a =>
    obtain ⟨t', rfl⟩ := ry
    cases x with
    | non => cases rx; exact SeqAt.EqAt.int_none a t'
    | bl b => cases rx; exact SeqAt.EqAt.int_bool a t' b
    | int b => obtain ⟨t, rfl⟩ := rx; exact SeqAt.EqAt.int_int a t' b t
    | str b => obtain ⟨t, rfl⟩ := rx; exact SeqAt.EqAt.int_str a t' b t
    | _ => exact absurd (show false = true from fx) Bool.false_ne_true
  | str a =>
    obtain ⟨t', rfl⟩ := ry
    cases x with
    | non => cases rx; exact SeqAt.EqAt.str_none a t'
    | bl b => cases rx; exact SeqAt.EqAt.str_bool a t' b
    | int b => obtain ⟨t, rfl⟩ := rx; exact SeqAt.EqAt.str_int a t' b t
    | str b => obtain ⟨t, rfl⟩ := rx; exact SeqAt.EqAt.str_str a t' b t
    | _ => exact absurd (show false = true from fx) Bool.false_ne_true
  | _ => exact absurd (show false = true from fy) Bool.false_ne_true
/-- the items' answers, read off the values (a value's own answer does not lean on its token) -/
noncomputable def eqU (x : V) (u : Value) : Bool := match u with
  | .none => eqV .non x
  | .bool b => eqV (.bl b) x
  | .int i _ => eqV (.int i) x
  | .str z _ => eqV (.str z) x
  | _ => false
theorem eqU_of {x y : V} {u : Value} (r : RelV y u) (f : flatV y = true) : eqU x u = eqV y x := by
  cases y with
  | non => cases r; rfl
  | bl b => cases r; rfl
  | int i => obtain ⟨t, rfl⟩ := r; rfl
  | str z => obtain ⟨t, rfl⟩ := r; rfl
  | _ => exact absurd (show false = true from f) Bool.false_ne_true
theorem any_eqU {x : V} : ∀ {xs : List V} {us : List Value}, Vals xs us → xs.all flatV = true → us.any (eqU x) = xs.any fun y => eqV y x
  | _, _, .nil, _ => rfl
  | y :: xs, u :: us, .cons r t, f => by
    rw [List.all_cons, Bool.and_eq_true] at f
    rw [List.any_cons, List.any_cons, eqU_of r f.1, any_eqU t f.2]
theorem mem_eqAt {A : Around} {s : Shared} {x : V} {v : Value} (rx : RelV x v) (fx : flatV x = true) : ∀ {xs : List V} {us : List Value}, Vals xs us → xs.all flatV = true → ∀ u ∈ us, SeqAt.EqAt A s u v (eqU x u)
  | _, _, .nil, _ => fun u hu => by cases hu
  | y :: xs, u :: us, .cons r t, f => fun u' hu => by
    rw [List.all_cons, Bool.and_eq_true] at f
    rcases List.mem_cons.mp hu with rfl | hu
    · rw [eqU_of r f.1]; exact eqAt_V r rx f.1 fx
    · exact mem_eqAt rx fx t f.2 u' hu
noncomputable def inV (x : V) (xs : List V) : Bool := xs.any fun y => eqV y x
/-- x in a list or tuple of flat items -/
noncomputable def rIn (K : PySem.W.Frag) (neg : Bool) : R2 := fun x y H Q => ∃ p xs, y = .ref p ∧ (SqL K H p xs ∨ SqT K H p xs) ∧ flatV x = true ∧ xs.all flatV = true ∧ Q (.bl (if neg then !inV x xs else inV x xs)) H
theorem op_in_seq : OpR X (compareOp .In) (rIn X.K false) := by
  intro pins s σ H x y v u Q I rx ry h
  obtain ⟨p, xs, rfl, hq, fx, fs, q⟩ := h
  cases ry
  rcases hq with hq | hq
  · obtain ⟨its, r, pl, hz⟩ := I.list hq
    refine SeqAt.in_listAt (eqU x) pl.isList (fun w hw => mem_eqAt rx fx r fs w (by simpa using hw)) ⟨.bl _, H, I, rfl, ?_⟩
    rw [show its.toArray.any (eqU x) = its.any (eqU x) by simp, any_eqU r fs]
    exact q
  · obtain ⟨its, r, pl, hz⟩ := I.tuple hq
    refine SeqAt.in_tupleAt (eqU x) pl (fun w hw => mem_eqAt rx fx r fs w (by simpa using hw)) ⟨.bl _, H, I, rfl, ?_⟩
    rw [show its.toArray.any (eqU x) = its.any (eqU x) by simp, any_eqU r fs]
    exact q
theorem op_notIn_seq : OpR X (compareOp .NotIn) (rIn X.K true) := by
  intro pins s σ H x y v u Q I rx ry h
  obtain ⟨p, xs, rfl, hq, fx, fs, q⟩ := h
  cases ry
  rcases hq with hq | hq
  · obtain ⟨its, r, pl, hz⟩ := I.list hq
    refine SeqAt.notIn_listAt (eqU x) pl.isList (fun w hw => mem_eqAt rx fx r fs w (by simpa using hw)) ⟨.bl _, H, I, rfl, ?_⟩
    rw [show its.toArray.any (eqU x) = its.any (eqU x) by simp, any_eqU r fs]
    exact q
  · obtain ⟨its, r, pl, hz⟩ := I.tuple hq
    refine SeqAt.notIn_tupleAt (eqU x) pl (fun w hw => mem_eqAt rx fx r fs w (by simpa using hw)) ⟨.bl _, H, I, rfl, ?_⟩
    rw [show its.toArray.any (eqU x) = its.any (eqU x) by simp, any_eqU r fs]
    exact q
/-! ### len, list(x), tuple(x) of any list or tuple that is read -/
theorem call_len_seq : CallR X (.builtin "len") (fun xs H Q => ∃ p ys, xs = [.ref p] ∧ (SqL X.K H p ys ∨ SqT X.K H p ys) ∧ Q (.int ys.length) H) := by
  intro pins s σ H xs us Q I r h
  obtain ⟨p, ys, rfl, hq, q⟩ := h
  obtain ⟨u, rfl, rx⟩ := vals1 r
  cases rx
  have hn := line63
  rcases hq with hq | hq
  · obtain ⟨its, r', pl, hz⟩ := I.list hq
    have hlen := r'.length
    exact Calls.call_len_list pl.isList (by simp only [List.size_toArray] <;> lia) ⟨.int ys.length, H, I.tok _, ⟨s.toks + 1, by rw [List.size_toArray, hlen]⟩, q⟩
  · obtain ⟨its, r', pl, hz⟩ := I.tuple hq
    have hlen := r'.length
    exact len_tuple pl (by simp only [List.size_toArray] <;> lia) ⟨.int ys.length, H, I.tok _, ⟨s.toks + 1, by rw [List.size_toArray, hlen]⟩, q⟩
theorem call_len_str : CallR X (.builtin "len") (fun xs H Q => ∃ z, xs = [.str z] ∧ z.length ≤ sizeLine ∧ Q (.int z.length) H) := by
  intro pins s σ H xs us Q I r h
  obtain ⟨z, rfl, hz, q⟩ := h
  obtain ⟨u, rfl, t, rfl⟩ := vals1 r
  have hn := line63
  exact len_str (by lia) ⟨.int z.length, H, I.tok _, ⟨_, rfl⟩, q⟩
theorem CallR.or {f : Value} {r r' : List V → Hp → VK → Prop} (h : CallR X f r) (h' : CallR X f r') : CallR X f (fun xs H Q => r xs H Q ∨ r' xs H Q) := by
  intro pins s σ H xs us Q I rs q
  rcases q with q | q
  · exact h pins s σ H xs us Q I rs q
  · exact h' pins s σ H xs us Q I rs q
theorem call_tuple_of : CallR X (.type "tuple") (fun xs H Q => ∃ p ys, xs = [.ref p] ∧ ((SqL X.K H p ys ∧ ∀ l, H l = none → Q (.ref l) (upd H l (.tup ys))) ∨ (SqT X.K H p ys ∧ Q (.ref p) H))) := by
  intro pins s σ H xs us Q I r h
  obtain ⟨p, ys, rfl, h⟩ := h
  obtain ⟨u, rfl, rx⟩ := vals1 r
  cases rx
  rcases h with ⟨hq, q⟩ | ⟨hq, q⟩
  · obtain ⟨its, r', pl, hz⟩ := I.list hq
    have hlen := r'.length
    refine call_tuple_list pl.isList (fun h' kp => ?_) (by simp only [List.size_toArray] <;> lia)
    have I1 : Inv X pins σ H { s with heap := h' } := I.kept (t' := s.toks) kp
    have I2 : Inv X pins σ (upd H h'.objs.size (.tup ys)) { s with heap := h'.push { cls := .type "tuple", data := .seq its.toArray } } :=
      I1.laid (t' := s.toks) (fun b o e => Heap.get?_push_of_some _ e) (Nat.le_refl _) (show ObjOk X.prog X.w _ _ _ (.tup ys) from ⟨hz, its, r', IsTupN.new _ _⟩)
    exact ⟨.ref h'.objs.size, _, I2, rfl, q _ (I1.hok.fresh (Nat.le_refl _))⟩
  · obtain ⟨its, r', pl, hz⟩ := I.tuple hq
    exact call_tuple_same pl ⟨.ref p, H, I, rfl, q⟩

/-! ### the call of a builtin's method: o.m(..) -/
/-- the value is of that builtin type -/
noncomputable def tyV (K : PySem.W.Frag) (T : String) (x : V) (H : Hp) : Prop := match x with
  | .str _ => T = "str"
  | .int _ => T = "int"
  | .ref p => (T = "list" ∧ ∃ xs, SqL K H p xs) ∨ (T = "tuple" ∧ ∃ o, K.lookup p = some o ∧ o.cls = .type "tuple" ∧ o.dict = none) ∨
      (T = "dict" ∧ ((∃ kvs, H p = some (.dK kvs)) ∨ ∃ kvs, H p = some (.dT kvs))) ∨ (T = "set" ∧ ∃ S n, H p = some (.set S n))
  | _ => False
theorem tyV_is {pins : List (Addr × Obj)} {σ : St} {H : Hp} {s : Shared} {T : String} {x : V} {v : Value} (I : Inv X pins σ H s) (r : RelV x v) (ty : tyV X.K T x H) :
    s.TypeIs v T ∧ ∀ a, v = .ref a → ∃ ob, s.heap.get? a = some ob ∧ ob.dict = none := by
  cases x with
  | str z =>
    obtain ⟨t, rfl⟩ := r
    cases (show T = "str" from ty)
    exact ⟨typeIs_str s z t, fun _ e => nomatch e⟩
  | int i =>
    obtain ⟨t, rfl⟩ := r
    cases (show T = "int" from ty)
    exact ⟨typeIs_int s i t, fun _ e => nomatch e⟩
  | ref p =>
    cases r
    rcases ty with ⟨rfl, xs, hq⟩ | ⟨rfl, o, hk, hc, hd⟩ | ⟨rfl, hk⟩ | ⟨rfl, S, n, hk⟩
    · obtain ⟨its, _, pl, _⟩ := I.list hq
      refine ⟨pl.isList.typeIs, fun a e => ?_⟩
      cases e
      obtain ⟨o, n, e, c, hd, _⟩ := pl
      exact ⟨o, e, hd⟩
    · refine ⟨⟨o, I.kIn p o hk, hc⟩, fun a e => ?_⟩
      cases e
      exact ⟨o, I.kIn _ o hk, hd⟩
    · have z : ∃ o, s.heap.get? p = some o ∧ o.ExactDict := by
        rcases hk with ⟨kvs, hk⟩ | ⟨kvs, hk⟩
        · obtain ⟨_, _, _, _, o, _, _, e, ex, _⟩ := I.hok p _ hk
          exact ⟨o, e, ex⟩
        · obtain ⟨_, _, _, _, o, _, _, e, ex, _⟩ := I.hok p _ hk
          exact ⟨o, e, ex⟩
      obtain ⟨o, e, ex⟩ := z
      refine ⟨⟨o, e, ex.1⟩, fun a e2 => ?_⟩
      cases e2
      exact ⟨o, e, ex.2.1⟩
    · obtain ⟨o, _, _, _, e, ex, _⟩ := I.hok p _ hk
      refine ⟨⟨o, e, ex.1⟩, fun a e2 => ?_⟩
      cases e2
      exact ⟨o, e, ex.2.1⟩
  | _ => exact False.elim ty
noncomputable def tBM0 (K : PySem.W.Frag) (T : String) (r : V → List V → Hp → VK → Prop) (to : TE) : TE := fun σ H Q => to σ H fun x H1 => tyV K T x H1 ∧ r x [] H1 Q
noncomputable def tBM (K : PySem.W.Frag) (T : String) (r : V → List V → Hp → VK → Prop) (to : TE) (t : TA) : TE := fun σ H Q => to σ H fun x H1 => tyV K T x H1 ∧ t σ H1 fun xs H2 => r x xs H2 Q
variable {o e : Expr} {es : List Expr} {to : TE} {t : TA} {name : Str} {apos cpos : Pos} {T id : String} {r : V → List V → Hp → VK → Prop}
theorem pe_bm0 (pa : PlainAttrs T) (slot : Slot T name id) (hty : typeOf (.builtin id) = pure (.type "method_descriptor")) (hm : MtR X id r) (ho : PE X o to)
    (hbase : attributeBase o name X.env (eval o X.env) = eval o X.env := by rfl) (hline : (apos.endLine == cpos.line) = true := by rfl) : PE X (.Call (.Attribute o name apos) [] [] cpos) (tBM0 X.K T r to) := by
  intro pins s σ H Q I h
  refine wpAny_Call_method0_late hbase hline (thn (ho pins s σ H _ I h) fun v s1 ⟨x, H1, I1, r1, ty, q1⟩ => ?_)
  obtain ⟨h1, h2⟩ := tyV_is I1 r1 ty
  exact ⟨T, id, pa, slot, hty, h1, h2, Calls.callWith_builtin rfl (PySem.evalArgs_none (hm pins s1 σ H1 x [] v [] Q I1 r1 .nil q1))⟩
theorem pe_bm (pa : PlainAttrs T) (slot : Slot T name id) (hty : typeOf (.builtin id) = pure (.type "method_descriptor")) (hm : MtR X id r) (ho : PE X o to) (ha : PA X (e :: es) t)
    (hbase : attributeBase o name X.env (eval o X.env) = eval o X.env := by rfl)
    (hfew : ((backTo cpos (starEach (e :: es) X.env)).all (fun x => !x.1) && (backToKw cpos (keywordEach [] X.env)).all (fun x => x.1.isSome)
      && decide ((e :: es).length + ([] : List Keyword).length + (if ([] : List Keyword).isEmpty then 0 else 1) < 30)) = true := by rfl)
    (hline : (apos.endLine == cpos.line) = true := by rfl) (hs : starEach (e :: es) X.env = (false, eval e X.env) :: starEach es X.env := by rfl) (hplain : (backTo cpos (starEach es X.env)).any (·.1) = false := by rfl) :
    PE X (.Call (.Attribute o name apos) (e :: es) [] cpos) (tBM X.K T r to t) := by
  intro pins s σ H Q I h
  refine wpAny_Call_method_late hbase hfew hline rfl (thn (ho pins s σ H _ I h) fun v s1 ⟨x, H1, I1, r1, ty, q1⟩ => ?_)
  obtain ⟨h1, h2⟩ := tyV_is I1 r1 ty
  refine ⟨T, id, pa, slot, hty, h1, h2, ?_⟩
  have hA := ha cpos pins s1 σ H1 _ I1 q1
  rw [hs] at hA ⊢
  refine Calls.callWith_builtin (by show (false || (backTo cpos (starEach es X.env)).any (·.1)) = false; rw [hplain] <;> rfl) (Calls.evalArgs_plain ?_)
  exact thn hA fun us s2 ⟨vs, H2, I2, r2, q2⟩ => hm pins s2 σ H2 x vs v us Q I2 r1 r2 q2
/- xs.append(e), list.index on a module's tuple .. are MtR facts of 06m -/
end
end L2

namespace L2
open PySem PySem.Spec PyProof.Rows

noncomputable def MtM (X : Cx) (id : String) (r : V → List V → Hp → VK → Prop) : Prop :=
  ∀ (pins : List (Addr × Obj)) (s : Shared) (σ : St) (H : Hp) (x : V) (xs : List V) (v : Value) (us : List Value) (Q : VK), Inv X pins σ H s → RelV x v → Vals xs us → r x xs H Q →
    wpAny (model X.prog X.w) X.A (call (.builtin id) (v :: us)) (EP X pins σ Q) X.xe s

/-! ### lists of values -/
theorem Vals.one : ∀ {x : V} {us : List Value}, Vals [x] us → ∃ u, us = [u] ∧ RelV x u
  | _, _, .cons r .nil => ⟨_, rfl, r⟩
theorem Vals.zero : ∀ {us : List Value}, Vals [] us → us = []
  | _, .nil => rfl
theorem Vals.dropLast {xs : List V} {us : List Value} (h : Vals xs us) : Vals xs.dropLast us.dropLast := by
  induction h with
  | nil => exact .nil
  | cons r t ih =>
    cases t with
    | nil => exact .nil
    | cons q t' => exact .cons r ih
theorem erase_last {α : Type} (l : List α) : l.eraseIdx (l.length - 1) = l.dropLast := by
  induction l with
  | nil => rfl
  | cons a r ih =>
    cases r with
    | nil => rfl
    | cons b r =>
      have e : (a :: b :: r).length - 1 = ((b :: r).length - 1) + 1 := by
        have h1 : (a :: b :: r).length = r.length + 2 := rfl
        have h2 : (b :: r).length = r.length + 1 := rfl
        lia
      rw [e, List.eraseIdx_cons_succ, ih]
      all_goals rfl
section
variable {X : Cx} {pins : List (Addr × Obj)} {σ : St} {H : Hp} {s : Shared} {l b : Addr} {xs ys zs : List V}

/-! ### the two steps: a tracked list is rewritten, a new list is laid -/
theorem Inv.lset {its its' : List Value} {n : Nat} {f : Array Value → Array Value} {t' : Nat} (I : Inv X pins σ H s) (hH : H l = some (.lst xs))
    (e : s.heap.get? l = some { cls := .type "list", data := .seq its.toArray n }) (hf : f its.toArray = its'.toArray) (hv : Vals ys its') (hz : ys.length ≤ sizeLine) :
    Inv X pins σ (upd H l (.lst ys)) { s with heap := s.heap.update l (Obj.mapSeq f), toks := t' } := by
  have q := PySem.IsL.update e f
  rw [hf] at q
  refine I.write (x := l) (e := l) (by rw [hH]; exact trivial) (.inl rfl) (fun b' u hb hu => (Heap.get?_update_other s.heap (Obj.mapSeq f) (Ne.symm hb)).trans hu) ⟨_, q⟩ ?_
  exact ⟨hz, its', _, hv, q⟩
theorem Inv.lnew {its : List Value} {t' : Nat} (I : Inv X pins σ H s) (hv : Vals ys its) (hz : ys.length ≤ sizeLine) :
    Inv X pins σ (upd H s.heap.objs.size (.lst ys)) { s with heap := s.heap.push { cls := .type "list", data := .seq its.toArray }, toks := t' } :=
  I.laid (fun _ _ q => Heap.get?_push_of_some _ q) (Nat.le_refl _) ⟨hz, its, 0, hv, Heap.get?_push_size _ rfl⟩
theorem Inv.fresh (I : Inv X pins σ H s) : H s.heap.objs.size = none := I.hok.fresh (Nat.le_refl _)
theorem Inv.lstM (I : Inv X pins σ H s) (hH : H l = some (.lst xs)) : xs.length ≤ sizeLine ∧ ∃ (its : List Value) (n : Nat), Vals xs its ∧ xs.length = its.length ∧ s.heap.get? l = some { cls := .type "list", data := .seq its.toArray n } := by
  obtain ⟨z, its, n, r, e⟩ := I.hok l _ hH
  exact ⟨z, its, n, r, r.length, e⟩

end

section
variable {X : Cx}

/-! ### methods -/
noncomputable def rAppend : V → List V → Hp → VK → Prop := fun x vs H Q => ∃ l xs y, x = .ref l ∧ vs = [y] ∧ H l = some (.lst xs) ∧ xs.length < sizeLine ∧ Q .non (upd H l (.lst (xs ++ [y])))
theorem mt_append : MtM X "list.append" rAppend := by
  intro pins s σ H x vs v us Q I rx rv h
  obtain ⟨l, xs, y, rfl, rfl, hH, hz, q⟩ := h
  cases rx
  obtain ⟨u, rfl, ru⟩ := rv.one
  obtain ⟨z, its, n, r, hl, e⟩ := I.lstM hH
  refine call_meets F.slot_list_append ⟨_, e, rfl⟩ F.entry_list_append (F.args_list_append_2 _ _) (PySem.list_append l its.toArray n u (by rw [List.size_toArray]; lia)) ⟨e, ?_⟩
  refine ⟨.non, _, I.lset (its' := its ++ [u]) hH e (by simp) (r.append (.cons ru .nil)) ?_, rfl, q⟩
  rw [List.length_append, List.length_singleton]
  lia

noncomputable def rPop : V → List V → Hp → VK → Prop := fun x vs H Q => ∃ l xs y, x = .ref l ∧ vs = [] ∧ H l = some (.lst xs) ∧ xs[xs.length - 1]? = some y ∧ Q y (upd H l (.lst xs.dropLast))
theorem mt_pop : MtM X "list.pop" rPop := by
  intro pins s σ H x vs v us Q I rx rv h
  obtain ⟨l, xs, y, rfl, rfl, hH, hy, q⟩ := h
  cases rx
  have hus := rv.zero
  subst hus
  obtain ⟨z, its, n, r, hl, e⟩ := I.lstM hH
  obtain ⟨u, hu, ru⟩ := r.get hy
  have hy' : its.toArray[its.toArray.size - 1]? = some u := by
    show its.toArray[its.length - 1]? = some u
    rw [← Array.getElem?_toList, ← hl]
    exact hu
  refine call_meets F.slot_list_pop ⟨_, e, rfl⟩ F.entry_list_pop (F.args_list_pop_1 _) (MeetsSeq.list_pop_last l its.toArray n u hy' (by rw [List.size_toArray]; lia)) ⟨e, ?_⟩
  refine ⟨y, _, I.lset (its' := its.dropLast) hH e ?_ r.dropLast ?_, ru, q⟩
  · show its.toArray.eraseIdxIfInBounds (its.toArray.size - 1) = its.dropLast.toArray
    rw [List.size_toArray, List.eraseIdxIfInBounds_toArray, erase_last]
  · rw [List.length_dropLast]
    lia

/-! ### list + list, list += list, list * int -/
noncomputable def rCat : R2 := fun x y H Q => ∃ l b xs zs, x = .ref l ∧ y = .ref b ∧ H l = some (.lst xs) ∧ H b = some (.lst zs) ∧ xs.length + zs.length ≤ sizeLine ∧ ∀ p, H p = none → Q (.ref p) (upd H p (.lst (xs ++ zs)))
theorem op_cat : OpR X (binaryOp .Add) rCat := by
  intro pins s σ H x y v u Q I rx ry h
  obtain ⟨l, b, xs, zs, rfl, rfl, hH, hB, hz, q⟩ := h
  cases rx
  cases ry
  obtain ⟨z, its, n, r, hl, e⟩ := I.lstM hH
  obtain ⟨z2, its2, n2, r2, hl2, e2⟩ := I.lstM hB
  refine PySem.P.add_list e e2 ?_ (by rw [List.size_toArray, List.size_toArray]; lia)
  have ea : its.toArray ++ its2.toArray = (its ++ its2).toArray := by simp
  rw [ea]
  exact ⟨.ref _, _, I.lnew (t' := s.toks) (r.append r2) (by rw [List.length_append]; lia), rfl, q _ I.fresh⟩
/-! ### del xs[i] -/
end

/-! ### xs[a:b] = ys -/
section
variable {prog : Program} {w : World} {A : Around} {E : Value → Shared → Prop} {s : Shared}
end

section
variable {X : Cx}
end
end L2

namespace Att
open PySem PySem.W PySem.Calls PyProof.Rows

/-! ### the script -/
theorem ints_of_wellAll {P : Params} {h : Heap} : ∀ (ns : List Int) (vs : List Value), WellAll P h vs (ns.map WData.int) → IntsAre vs ns := by
  intro ns
  induction ns with
  | nil =>
    intro vs w
    rw [List.map_nil] at w
    cases w
    exact .nil
  | cons n ns ih =>
    intro vs w
    rw [List.map_cons] at w
    cases w with
    | cons a b =>
      cases a
      exact .cons _ _ (ih _ b)

theorem script_of {l : OpenLaw} {n : Nat} (hn : l.most = some n) {P : Params} {h : Heap} {args : List WData} {vals : List Value}
    (hpre : l.row.toRowW.claim.pre args = true) (hwl : WellAll P h vals args) :
    ∃ a vs ns, vals = [Value.ref a] ∧ args = [WData.list (ns.map WData.int)] ∧ h.get? a = some { cls := .type "list", data := .seq vs.toArray } ∧ IntsAre vs ns ∧ ns.length ≤ n := by
  have hsh : WShape.hasAll [] args [.list .int] = true := (pre_splitW hpre).1
  have hc : l.pre.holds [] { args := args } = true := (pre_splitW hpre).2
  obtain ⟨d, r, rfl, h1, h2⟩ := hasAllW_cons hsh
  obtain rfl := hasAllW_nil h2
  obtain ⟨xs, rfl, h3⟩ := hasW_list h1
  obtain ⟨ns, rfl⟩ := items_int h3
  have hlen : ns.length ≤ n := by
    unfold OpenLaw.pre at hc
    have h4 : (WTm.not (.lt (.lit (.int (n : Int))) (.len (.arg 0)))).holds [] { args := [.list (ns.map .int)] } = true := by
      have h4 := (holds_andW hc).1
      rw [hn] at h4
      exact h4
    have h5 := condW_of h4 (w_not (w_lt w_lit (w_len_list (w_arg rfl))))
    rw [List.length_map] at h5
    refine Nat.le_of_not_lt fun q => ?_
    have q' : (n : Int) < ((ns.length : Nat) : Int) := by lia
    first
      | (rw [decide_eq_true q'] at h5; exact absurd h5 (by decide))
      | (simp at h5; lia)
  cases hwl with
  | cons w1 w2 =>
    cases w2
    cases w1 with
    | list ho hall => exact ⟨_, _, ns, rfl, rfl, ho, ints_of_wellAll ns _ hall, hlen⟩

theorem post_true (l : OpenLaw) (args : List WData) : l.row.toRowW.claim.post args (.bool true) args = true :=
  postW_of (r := l.row.toRowW) (X := (true == true))
    (show WShape.has [] (.bool true) .bool = true by first | rfl | decide | simp [WShape.has, WShape.arms, WShape.armsAll])
    (show (WTm.eq .res (.lit (.bool true))).value [] { args := args, res := some (.bool true), after := args } = some (.bool (true == true)) from w_eq_bool (w_res rfl) w_lit) rfl

/-! ### the attachment: holds_open's last premise (the goal 'hc' behind k_head) from a wpAny of the law's body -/
/-- the same from a codeAny of the CALL (for a layer whose function contracts speak of calls) -/
theorem attach_call {l : OpenLaw} {n : Nat} {q : Program} {loose : List Str} {XP : (Str → Option Value) → Heap → Prop} {YP : World → Heap → Prop} {d : DefRec}
    (hn : l.most = some n) (hdf : d.params.defaults = [])
    (call : ∀ (w : World) (s₀ s₁ : Shared) (mg mb : Str → Option Value) (fa : Addr) (o : Obj) (pm cd doc : Value) (a : Addr) (vs : List Value) (ns : List Int),
      Ground q loose [] XP w s₀ mg mb s₁.heap → YP w s₁.heap →
      s₁.heap.get? fa = some o → o.data = .func (docDef d.name d.params d.body d.scope pm cd doc) → s₁.heap.CodeRec cd d.name → mg d.name = some (.ref fa) →
      s₁.heap.get? a = some { cls := .type "list", data := .seq vs.toArray } → IntsAre vs ns → ns.length ≤ n → s₁.gens = #[] →
      codeAny (model l.prog w) callerA (.call (.ref fa) ⟨[.ref a], []⟩) (fun r s' => r = .ok (.ret (.bool true)) ∧ OldK s₁.heap s'.heap ∧ s'.os = s₁.os ∧ AllBare s'.gens) s₁) :
    WalkO q loose XP YP l.row.toRowW d [] (fun f vs => PySem.call f vs) := by
  intro w s₀ s₁ mg mb G Y fa o pm cd doc dV kV ho hd hcd hD hmg hg args vals as hpre hlay hrd hwl hlo
  obtain rfl : dV = .none := Dflts.none hD hdf
  obtain rfl : kV = .none := Dflts.noKw hD
  obtain ⟨a, vs, ns, rfl, rfl, hobj, hints, hlen⟩ := script_of hn hpre hwl
  refine enter_call (codeAny_mono (call w s₀ s₁ mg mb fa o pm cd doc a vs ns G Y ho (fd_plain hd) hcd hmg hobj hints hlen hg) fun r s' hq => ?_)
  obtain ⟨rfl, h2, h3, h4⟩ := hq
  exact ⟨.inl ⟨.bool true, .bool true, [], rfl, fun _ => rfl, .bool true, post_true l _, fun _ => ⟨List.Pairwise.nil, fun _ hm => (nomatch hm)⟩⟩, h2, h3, h4⟩

/-! ### rules over ANY heap (no ledger) from facts about the written part K: the library's own take a ledger (News) for what they write -/
section
variable {prog : Program} {w : World} {A : Around} {E : Value → Shared → Prop} {s : Shared} {K : Frag}

/-! the whole heap as the ledger: makes every rule that writes through a ledger a rule over any heap -/
end
end Att

namespace L2
open PySem PySem.Spec PyProof.Rows

theorem vals_ints : ∀ {vs : List Value} {ns : List Int}, IntsAre vs ns → Vals (ns.map V.int) vs
  | _, _, .nil => .nil
  | _, _, .cons n t h => .cons ⟨t, rfl⟩ (vals_ints h)

/-- nothing is tracked but the script, known to the object (or it is an object of the module) -/
noncomputable def Only (H : Hp) : Prop := ∀ b, H b = none ∨ ∃ o xs, H b = some (.frz o (.lst xs))

/-- THE HEAD: the law's promise, at the heap behind the top. F, the promise of the law's def, may use that base is part of the heap (so K.In base, base.Ns mainGlobals mg stand in Mod) -/
theorem law_call {P : Program} {w : World} {K : PySem.W.Frag} {mg mb : Str → Option Value} {CX : CXT} {k : Nat} {fa a : Addr} {fd : FuncData} {x : Str} {sp : Sp} {s₁ : Shared} {vs : List Value} {ns : List Int}
    (KX : K.In s₁.heap) (hns : s₁.heap.Ns mainGlobals mg) (hb : s₁.heap.Ns builtinsNs mb) (hbb : ∀ x : Str, x ≠ "__name__" → mb x = bootBuiltins x) (hlim : s₁.heap.NoLimit) (hg : s₁.gens = #[])
    (ha : s₁.heap.get? a = some { cls := .type "list", data := .seq vs.toArray }) (hi : IntsAre vs ns) (hl : ns.length ≤ sizeLine) (hr : Room k callerA)
    (F : ∀ base : Heap, K.In base → base.Ns mainGlobals mg → FnOk P w K mg base CX k fa fd [x] sp) (hbind : ∀ (s : Shared) (u : Value), BindsTo s fd ⟨[u], []⟩ [(x, u)])
    (hsp : ∀ H : Hp, Only H → SqL K H a (ns.map V.int) → sp [.ref a] H (fun v _ => v = .bl true) fun _ _ _ => False)
    (hCX : ∀ H e s', CX [] H s₁ (fun _ _ _ => False) e s' → False) :
    codeAny (model P w) callerA (.call (.ref fa) ⟨[.ref a], []⟩) (fun r s' => r = .ok (.ret (.bool true)) ∧ OldK s₁.heap s'.heap ∧ s'.os = s₁.os ∧ AllBare s'.gens) s₁ := by
  have rv := vals_ints hi
  have lenV := hi.length
  -- from an abstract heap in which nothing but the script may be tracked
  have core : ∀ H : Hp, Only H → SqL K H a (ns.map V.int) → HOk P w H s₁.heap → (∀ b, H b ≠ none → b = a) → (H a ≠ none → K.lookup a = none) →
      codeAny (model P w) callerA (.call (.ref fa) ⟨[.ref a], []⟩) (fun r s' => r = .ok (.ret (.bool true)) ∧ OldK s₁.heap s'.heap ∧ s'.os = s₁.os ∧ AllBare s'.gens) s₁ := by
    intro H hO hS hok hA hK
    have base_of : ∀ {b : Addr} {o : Obj}, s₁.heap.get? b = some o → H b = none → (hidT s₁.heap H).get? b = some o := fun e n => hidT_get e n
    have noA : ∀ {b : Addr} {o : Obj} {es : Array DictEntry} {ep : Nat}, s₁.heap.get? b = some o → o.data = .dict es ep → H b = none := fun {b o es ep} e d => by
      cases q : H b with
      | none => rfl
      | some u =>
        have e' : b = a := hA b (by rw [q]; simp)
        subst e'
        rw [ha] at e; cases e
        have d' : Data.seq vs.toArray _ = Data.dict es ep := d
        cases d'
    have nsK : ∀ {b : Addr} {m : Str → Option Value}, s₁.heap.Ns b m → (hidT s₁.heap H).Ns b m := fun {b m} ⟨o, es, ep, e, d, r⟩ => ⟨o, es, ep, base_of e (noA e d), d, r⟩
    have hKb : K.In (hidT s₁.heap H) := fun b o e => base_of (KX b o e) (by
      cases q : H b with
      | none => rfl
      | some u =>
        have e' : b = a := hA b (by rw [q]; simp)
        subst e'
        rw [hK (by rw [q]; simp)] at e; cases e)
    have hM : Mod K mg (hidT s₁.heap H) := ⟨hKb, nsK hns, ⟨mb, nsK hb, hbb⟩, let ⟨mc, h1, h2⟩ := hlim; ⟨mc, nsK h1, h2⟩⟩
    have e0 : Env0 P w K mg (hidT s₁.heap H) callerA [] s₁ H := ⟨rfl, hM, fun b o e => of_hidT e, Nat.le_of_eq (hidT_size _ _), trivial, fun b hb => absurd (show b ∈ ([] : List Addr) from hb) (by simp), hok, .of_eq hg⟩
    refine codeAny_mono ((F _ hKb (nsK hns)).run callerA [] s₁ H ⟨[.ref a], []⟩ [.ref a] [.ref a] _ _ hr e0 (hbind s₁ (.ref a)) (.cons rfl .nil) (hsp H hO hS)) fun r s' h => ?_
    cases r with
    | error e => exact (hCX H e s' h).elim
    | ok fl =>
      cases fl with
      | next => exact False.elim h
      | brk => exact False.elim h
      | cont => exact False.elim h
      | ret u =>
        obtain ⟨v, H', os, bare, un, hok', r', q⟩ := h
        have q' : v = .bl true := q
        subst q'
        obtain rfl : u = Value.bool true := r'
        refine ⟨rfl, OldK.of_keep fun b o e => ?_, os, bare⟩
        cases q : H b with
        | none => exact un.keep b o e q (by intro z; exact absurd (show b ∈ ([] : List Addr) from z) (by simp)) (by simp)
        | some u =>
          rcases hO b with z | ⟨ob, xs, z⟩
          · rw [q] at z; cases z
          · have z2 := un.frzs b ob _ z
            obtain ⟨e1, _⟩ := hok b _ z
            obtain ⟨e2, _⟩ := hok' b _ z2
            rw [e] at e1; cases e1
            exact e2
  cases hk : K.lookup a with
  | some o =>
    -- the script is one of the module's own objects
    have e := KX a o hk
    rw [ha] at e
    cases e
    refine core (fun _ => none) (fun _ => .inl rfl) (.inr ⟨_, vs.toArray, _, hk, rfl, rfl, rfl, by rw [List.size_toArray, lenV]; exact hl, by simpa using rv⟩) (fun b u z => by have z' : (none : Option HO) = some u := z; cases z') (fun b z => absurd rfl z) fun z => absurd rfl z
  | none =>
    refine core (fun b => if b = a then some (.frz { cls := .type "list", data := .seq vs.toArray } (.lst (ns.map V.int))) else none) (fun b => ?_) (.inl (.inr ⟨{ cls := .type "list", data := .seq vs.toArray }, if_pos rfl⟩)) (fun b u z => ?_) (fun b z => ?_) fun _ => hk
    · by_cases hb : b = a
      · exact .inr ⟨_, _, if_pos hb⟩
      · exact .inl (if_neg hb)
    · by_cases hb : b = a
      · have z' := (if_pos hb).symm.trans z
        cases z'
        subst hb
        exact ⟨ha, by rw [List.length_map]; exact hl, vs, _, rv, ha⟩
      · have z' := (if_neg hb).symm.trans z
        cases z'
    · by_cases hb : b = a
      · exact hb
      · exact absurd (if_neg hb) z
end L2

namespace L2
open PySem PySem.Spec PyProof.Rows

/-- the goal that k_head leaves (case hc), from the law's promise. F gives the function object fd (K's own) once, then the promise over every base -/
theorem walk_of {l : PySem.W.OpenLaw} {n k : Nat} {q : Program} {loose : List Str} {XP : (Str → Option Value) → Heap → Prop} {YP : World → Heap → Prop} {d : DefRec} {K : Params → PySem.W.Frag} {CX : World → CXT} {sp : World → Sp} {x : Str}
    (hn : l.most = some n) (hn2 : n ≤ sizeLine) (hdf : d.params.defaults = []) (hr : Room k callerA)
    (hY : ∀ (w : World) (h : Heap), YP w h → (K w.params).In h)
    (F : ∀ (w : World) (mg : Str → Option Value) (fa : Addr) (h : Heap), (K w.params).In h → h.Ns mainGlobals mg → mg d.name = some (.ref fa) →
      ∃ fd : FuncData, (∀ (s : Shared) (u : Value), BindsTo s fd ⟨[u], []⟩ [(x, u)]) ∧
        ∀ base : Heap, (K w.params).In base → base.Ns mainGlobals mg → FnOk l.prog w (K w.params) mg base (CX w) k fa fd [x] (sp w))
    (hsp : ∀ (w : World) (H : Hp) (a : Addr) (ns : List Int), ns.length ≤ n → Only H → SqL (K w.params) H a (ns.map V.int) → sp w [.ref a] H (fun v _ => v = .bl true) fun _ _ _ => False)
    (hCX : ∀ (w : World) (H : Hp) (s : Shared) (e : Value) (s' : Shared), CX w [] H s (fun _ _ _ => False) e s' → False) :
    PySem.W.WalkO q loose XP YP l.row.toRowW d [] (fun f vs => PySem.call f vs) := by
  refine Att.attach_call hn hdf fun w s₀ s₁ mg mb fa o pm cd doc a vs ns G Y ho hd hcd hmg hobj hints hlen hg => ?_
  have KX := hY w _ Y
  obtain ⟨fd, hb, hF⟩ := F w mg fa _ KX G.T.g hmg
  exact law_call KX G.T.g G.T.b G.T.builtins G.T.nolimit hg hobj hints (Nat.le_trans hlen hn2) hr hF hb (fun H hO hS => hsp w H a ns hlen hO hS) fun H e s' => hCX w H s₁ e s'
end L2

/-! SHORT WORDS over the layer: a def of the text, its body, what a loop and a test want. -/
namespace L2
open PySem PySem.Spec PyProof.Rows

/-! ### the text by places -/
noncomputable def defArgs (s : Stmt) : Arguments := match s with
  | .FunctionDef _ a _ _ _ _ _ _ _ _ => a
  | _ => { posonlyargs := [], args := [], vararg := none, kwonlyargs := [], kw_defaults := [], kwarg := none, defaults := [] }
noncomputable def defBody (s : Stmt) : List Stmt := match s with
  | .FunctionDef _ _ b _ _ _ _ _ _ _ => b
  | _ => []
noncomputable def defScope (s : Stmt) : Scope := match s with
  | .FunctionDef _ _ _ _ _ _ sc _ _ _ => sc
  | _ => { kind := .function, names := [], isGenerator := false, isCoroutine := false }

/-! ### no exception leaves a def -/
noncomputable abbrev CX0 : CXT := fun _ _ _ _ _ _ => False
noncomputable abbrev E0 : XK := fun _ _ _ => False
theorem pass0 {X : Cx} : Passes CX0 X E0 := fun _ _ _ _ _ _ _ h => h.elim

/-! ### a def (or method) of the text as it stands behind the top -/
structure Fun (K : PySem.W.Frag) (x qual : Str) (st : Stmt) (f : Addr) (fd : FuncData) : Prop where
  ex : ∃ (oc : Value) (od : Option Addr) (kV doc pm : Value) (an : Option Addr) (cdv ct : Value) (osl : Array (Option Value)),
    fd = PySem.W.fnOf x qual (defArgs st) (defBody st) (defScope st) .none kV doc pm an cdv ct ∧ K.lookup f = some ⟨oc, od, .func fd, osl⟩ ∧ PySem.W.codeIn K cdv qual = true
  kp : PySem.W.keepIn K (.ref f) = true
section
variable {P : Program} {w : World} {K : PySem.W.Frag} {mg : Str → Option Value} {base : Heap}
/-- THE RULE for a def: its body as a term of rules, and the reading of that term -/
theorem Fun.ok {x qual : Str} {st : Stmt} {f : Addr} {fd : FuncData} {N ps : List Str} {k : Nat} {sp : Sp} (F : Fun K x qual st f fd) (S : FnScope N ps (defScope st)) (len : ∀ vs H Q E, sp vs H Q E → vs.length = ps.length)
    (hbody : ∀ (cdv : Value) (A : Around) (outer : List Env) (s : Shared) (H : Hp) (vs : List V) (Q : VK) (E : XK), Room k (A.deeper (envOfC qual (defScope st) s.heap.objs.size f cdv)) → sp vs H Q E →
      ∃ t, PSs (cxOf CX0 P w K mg base N qual (defScope st) f cdv A outer s H E).nox (defBody st) t ∧ t { nx := fun _ H' => Q .non H', rt := Q } (start N vs) H) : FnOk P w K mg base CX0 (k + 1) f fd ps sp := by
  obtain ⟨oc, od, kV, doc, pm, an, cdv, ct, osl, rfl, lk, hcd⟩ := F.ex
  refine fn_of lk hcd S len fun A outer s H vs Q E hr hsp => ?_
  obtain ⟨t, h, q⟩ := hbody cdv A outer s H vs Q E hr hsp
  exact ⟨t, h.nox, q⟩
/-- how its arguments bind (no defaults): h is «fun _ _ _ _ _ _ us hl => match us, hl with | [_, _], _ => rfl», one _ a parameter -/
theorem Fun.binds {x qual : Str} {st : Stmt} {f : Addr} {fd : FuncData} {ps : List Str} (F : Fun K x qual st f fd)
    (h : ∀ (kV doc pm : Value) (an : Option Addr) (cdv ct : Value) (us : List Value), us.length = ps.length → bindArgs (PySem.W.fnOf x qual (defArgs st) (defBody st) (defScope st) .none kV doc pm an cdv ct) ⟨us, []⟩ = pure (ps.zip us)) : Binds K fd ps [] := by
  obtain ⟨oc, od, kV, doc, pm, an, cdv, ct, osl, rfl, lk, hcd⟩ := F.ex
  exact .all (h kV doc pm an cdv ct)
theorem fun_mk {x qual : Str} {st : Stmt} {f : Addr} {oc : Value} {od an : Option Addr} {osl : Array (Option Value)} {kV doc pm cdv ct : Value} (l : K.lookup f = some ⟨oc, od, .func (PySem.W.fnOf x qual (defArgs st) (defBody st) (defScope st) .none kV doc pm an cdv ct), osl⟩)
    (c : PySem.W.codeIn K cdv qual = true) (k : PySem.W.keepIn K (.ref f) = true) : Fun K x qual st f (PySem.W.fnOf x qual (defArgs st) (defBody st) (defScope st) .none kV doc pm an cdv ct) := ⟨⟨oc, od, kV, doc, pm, an, cdv, ct, osl, rfl, l, c⟩, k⟩
end
theorem hu_of {A : Around} {k : Nat} (hr : Room k A) : A.units + 1 < cLine := Nat.lt_of_le_of_lt (Nat.add_le_add_left (by decide : 1 ≤ 64) _) hr.units
/-! ### expressions in short: the name that stands in the i-th slot -/
section
variable {X : Cx}
theorem pv (i : Nat) {x : Str} {pos : Pos} (hN : X.N[i]? = some x := by rfl) (hv : Vis X.env.scope x := by first | exact Or.inl rfl | exact Or.inr (Or.inl rfl) | exact Or.inr (Or.inr rfl)) (hd : (x == ("__debug__" : Str)) = false := by decide)
    (hcd : (x == ("__classdict__" : Str)) = false := by decide) : PE X (.Name x pos) (tVar i) := pe_var hN hv hd hcd
end

/-! ### tests -/
theorem iteF {A B : Prop} (h : B) : if false = true then A else B := by
  rw [if_neg Bool.false_ne_true]
  exact h
theorem iteT {A B : Prop} (h : A) : if true = true then A else B := by
  rw [if_pos rfl]
  exact h
theorem ite2 {c A B : Prop} [Decidable c] (h1 : c → A) (h2 : ¬ c → B) : if c then A else B := by
  by_cases h : c
  · rw [if_pos h]
    exact h1 h
  · rw [if_neg h]
    exact h2 h
theorem iteNS {c A B : Prop} [Decidable c] (hc : c) (h : B) : if (!decide c) = true then A else B := by
  rw [decide_eq_true hc]
  exact iteF h

/-! ### heaps -/
/-- all that was tracked is as it was -/
noncomputable def Same (H H' : Hp) : Prop := ∀ b o, H b = some o → H' b = some o
theorem Same.refl (H : Hp) : Same H H := fun _ _ h => h
theorem Same.trans {H H1 H2 : Hp} (a : Same H H1) (b : Same H1 H2) : Same H H2 := fun c o h => b c o (a c o h)
theorem Same.seq {K : PySem.W.Frag} {H H' : Hp} {a : Addr} {xs : List V} (e : Same H H') (h : SqL K H a xs) : SqL K H' a xs := by
  rcases h with (h | ⟨o, h⟩) | h
  · exact .inl (.inl (e _ _ h))
  · exact .inl (.inr ⟨o, e _ _ h⟩)
  · exact .inr h

end L2
/-! A COMPREHENSION, over the hand layer: [elt for target in iter if test] -/
namespace L2
open PySem PySem.Spec PyProof.Rows

/-! ### the block's cells -/
noncomputable def clOf (cells : List (Str × Addr)) : List (Str × NameKind) → List (Str × Addr) → List (Str × Addr)
  | [], acc => acc
  | (n, k) :: r, acc => if k == .free then clOf cells r ((n, (cells.lookup n).getD 0) :: acc) else clOf cells r acc

theorem closureFor_eq {scope : Scope} {env : Env} (h : ∀ x ∈ scope.names, x.2 = .free → ∃ c, env.cells.lookup x.1 = some c) : closureFor scope env = pure (clOf env.cells scope.names []) := by
  unfold closureFor
  have key : ∀ (names : List (Str × NameKind)) (acc : List (Str × Addr)), (∀ x ∈ names, x.2 = .free → ∃ c, env.cells.lookup x.1 = some c) →
      (forIn names acc (fun (x : Str × NameKind) (r : List (Str × Addr)) => (if (x.2 == NameKind.free) = true then do let c ← cellOf env x.1; pure (ForInStep.yield ((x.1, c) :: r)) else pure (ForInStep.yield r) : Sem (ForInStep (List (Str × Addr)))))) = pure (clOf env.cells names acc) := by
    intro names
    induction names with
    | nil => intro acc _; rfl
    | cons x r ih =>
      intro acc hx
      obtain ⟨n, k⟩ := x
      rw [List.forIn_cons]
      unfold clOf
      by_cases hk : (k == NameKind.free) = true
      · have hk' : k = .free := by simpa using hk
        obtain ⟨c, hc⟩ := hx (n, k) List.mem_cons_self hk'
        have hc' : env.cells.lookup n = some c := hc
        simp only [hk, if_true]
        have e1 : cellOf env n = pure c := by unfold cellOf; rw [hc']
        rw [e1, hc']
        exact ih ((n, c) :: acc) fun y hy => hx y (List.mem_cons_of_mem _ hy)
      · simp only [hk, if_false, Bool.false_eq_true]
        exact ih acc fun y hy => hx y (List.mem_cons_of_mem _ hy)
  have e := key scope.names [] h
  first
    | exact e
    | (simp only [bind_pure]; exact e)

theorem clOf_some {cells : List (Str × Addr)} {x : Str} {c : Addr} : ∀ (names : List (Str × NameKind)) (acc : List (Str × Addr)), (clOf cells names acc).lookup x = some c → acc.lookup x = some c ∨ ((x, NameKind.free) ∈ names ∧ c = (cells.lookup x).getD 0)
  | [], _, h => .inl h
  | (n, k) :: r, acc, h => by
    unfold clOf at h
    by_cases hk : (k == NameKind.free) = true
    · have hk' : k = .free := by simpa using hk
      rw [if_pos hk] at h
      rcases clOf_some r _ h with z | ⟨z, e⟩
      · rw [List.lookup_cons] at z
        cases hb : x == n with
        | true =>
          rw [hb] at z
          have e' : x = n := by simpa using hb
          subst e'
          subst hk'
          exact .inr ⟨List.mem_cons_self, (Option.some.inj z).symm⟩
        | false => rw [hb] at z; exact .inl z
      · exact .inr ⟨List.mem_cons_of_mem _ z, e⟩
    · rw [if_neg hk] at h
      rcases clOf_some r _ h with z | ⟨z, e⟩
      · exact .inl z
      · exact .inr ⟨List.mem_cons_of_mem _ z, e⟩
theorem clOf_has {cells : List (Str × Addr)} {x : Str} : ∀ (names : List (Str × NameKind)) (acc : List (Str × Addr)), ((x, NameKind.free) ∈ names ∨ (acc.lookup x).isSome = true) → ((clOf cells names acc).lookup x).isSome = true
  | [], _, h => by
    rcases h with h | h
    · cases h
    · exact h
  | (n, k) :: r, acc, h => by
    unfold clOf
    by_cases hk : (k == NameKind.free) = true
    · rw [if_pos hk]
      refine clOf_has r _ ?_
      rcases h with h | h
      · rcases (List.mem_cons.mp h) with (e | h)
        · cases e
          exact .inr (by rw [List.lookup_cons]; simp)
        · exact .inl h
      · refine .inr ?_
        rw [List.lookup_cons]
        cases hb : x == n <;> simp [h]
    · rw [if_neg hk]
      refine clOf_has r _ ?_
      rcases h with h | h
      · rcases (List.mem_cons.mp h) with (e | h)
        · cases e
          exact absurd rfl hk
        · exact .inl h
      · exact .inr h
theorem cellsFrom_app : ∀ (names : List (Str × NameKind)) (n : Nat) (acc : List (Str × Addr)), cellsFrom n names acc = cellsFrom n names [] ++ acc
  | [], _, _ => rfl
  | (x, k) :: r, n, acc => by
    unfold cellsFrom
    by_cases hk : (k == NameKind.cell) = true
    · rw [if_pos hk, if_pos hk, cellsFrom_app r (n + 1) ((x, n) :: acc), cellsFrom_app r (n + 1) [(x, n)], List.append_assoc]
      rfl
    · rw [if_neg hk, if_neg hk]
      exact cellsFrom_app r n acc
theorem cellsFrom_mem : ∀ (names : List (Str × NameKind)) (n : Nat) (x : Str) (c : Addr), (x, c) ∈ cellsFrom n names [] → (x, NameKind.cell) ∈ names
  | [], _, _, _, h => nomatch h
  | (y, k) :: r, n, x, c, h => by
    unfold cellsFrom at h
    by_cases hk : (k == NameKind.cell) = true
    · have hk' : k = .cell := by simpa using hk
      rw [if_pos hk, cellsFrom_app] at h
      refine (List.mem_append.mp h).elim (fun h => ?_) fun h => ?_
      · exact List.mem_cons_of_mem _ (cellsFrom_mem r _ x c h)
      · have e : (x, c) = (y, n) := by simpa using h
        cases e
        subst hk'
        exact List.mem_cons_self
    · rw [if_neg hk] at h
      exact List.mem_cons_of_mem _ (cellsFrom_mem r n x c h)
theorem lookup_app {α : Type} {x : Str} : ∀ (a b : List (Str × α)), (a ++ b).lookup x = (a.lookup x).or (b.lookup x)
  | [], _ => by simp
  | (y, v) :: r, b => by
    rw [List.cons_append, List.lookup_cons, List.lookup_cons]
    cases hb : x == y with
    | true => simp
    | false => exact lookup_app r b
theorem lookup_of_mem {α : Type} {x : Str} {v : α} : ∀ {l : List (Str × α)}, (l.map (·.1)).Nodup → (x, v) ∈ l → l.lookup x = some v
  | [], _, h => by cases h
  | (y, w) :: r, nd, h => by
    rw [List.map_cons, List.nodup_cons] at nd
    rw [List.lookup_cons]
    cases h with
    | head => simp
    | tail _ h =>
      have hne : (x == y) = false := by
        apply beq_false_of_ne
        intro hxy
        exact nd.1 (List.mem_map.mpr ⟨(x, v), h, hxy⟩)
      rw [hne]
      exact lookup_of_mem nd.2 h

/-- a map that keeps every key -/
theorem lookup_keyed {α β : Type} {x : Str} (f : Str × α → Str × β) (hf : ∀ p, (f p).1 = p.1) : ∀ (l : List (Str × α)), (l.map f).lookup x = (l.lookup x).map fun k => (f (x, k)).2
  | [] => rfl
  | (n, k) :: r => by
    obtain ⟨m, z⟩ : ∃ z, f (n, k) = (n, z) := ⟨(f (n, k)).2, Prod.ext (hf _) rfl⟩
    rw [List.map_cons, z, List.lookup_cons, List.lookup_cons]
    cases hx : x == n with
    | false => exact lookup_keyed f hf r
    | true => cases (beq_iff_eq.mp hx); simp [z]
/-- the names of a block that are relabelled -/
theorem relabel_lookup {env : Env} {x : Str} (names : List (Str × NameKind)) : (names.map fun (n, k) => if (k == NameKind.free && env.scope.kind == .function && env.kindOf n == some .cell) then (n, NameKind.cell) else (n, k)).lookup x =
    (names.lookup x).map fun k => if (k == NameKind.free && env.scope.kind == .function && env.kindOf x == some .cell) = true then NameKind.cell else k := by
  rw [lookup_keyed _ (fun p => by dsimp only; split <;> rfl)]
  congr 1
  funext k
  dsimp only
  split <;> rfl

/-- the block's own namespace and cells -/
theorem newEnv_blk {M : Model} {A : Around} {E : Value → Shared → Prop} {s : Shared} {scope : Scope} {env : Env} {cl : List (Str × Addr)} {Q : Env → Shared → Prop}
    (q : Q (newEnv scope s.heap.objs.size env.globals (cellsFrom (s.heap.objs.size + 1) scope.names cl) env.qual none .none (some env) builtinsNs)
      { s with heap := pushCells (s.heap.push { cls := .type "dict", data := .dict #[] }) scope.names }) :
    wpAny M A (newFunctionEnv scope env.globals cl [] env.qual none .none (some env)) Q E s := by
  have z : (s.heap.push { cls := .type "dict", data := .dict #[] }).objs.size = s.heap.objs.size + 1 := Heap.size_push ..
  rw [← z] at q
  unfold newFunctionEnv
  have cells := wpAny_layCells (M := M) (A := A) (E := E) (fun x r => if (x.2 == NameKind.cell) = true then (do let c ← alloc { cls := .type "cell", data := .cell none }; pure (ForInStep.yield ((x.1, c) :: r))) else pure (ForInStep.yield r)) (fun _ _ _ => rfl) scope.names cl { s with heap := s.heap.push { cls := .type "dict", data := .dict #[] } }
  exact wpAny_bind (wpAny_alloc (wpAny_bind (cells _ (wpAny_bind (wpAny_pure (wpAny_pure q))))))
end L2
namespace L2
open PySem PySem.Spec PyProof.Rows

/-- the context of a comprehension's block within X: no exception leaves it -/
noncomputable def blk (X : Cx) (N : List Str) (scope : Scope) (cs : List (Str × Addr)) (C : Addr) (s₀ : Shared) (H₀ : Hp) (ex : List Addr) : Cx where
  prog := X.prog
  w := X.w
  K := X.K
  mg := X.mg
  base := X.base
  A := X.A
  N := N
  s₀ := s₀
  H₀ := H₀
  env := compEnvC scope cs C X.env
  outer := X.stack
  stack := X.stack
  ex := ex
  fn := fun x => scope.names.lookup x == some .cell
  calm := X.calm
  pn := []
  xe := fun _ _ => False

/-- what of the block's scope is read off the text: oN, osc the names and the scope around; own names first, then the captured ones -/
structure BlkScope (oN : List Str) (osc : Scope) (N : List Str) (own : Nat) (caps : List Nat) (scope : Scope) : Prop where
  kind : scope.kind = .function
  nd : N.Nodup
  ndn : (scope.names.map (·.1)).Nodup
  free : ∀ x ∈ scope.names, x.2 = .free → osc.names.lookup x.1 = some .cell ∨ osc.names.lookup x.1 = some .free
  len : N.length = own + caps.length
  cap : caps.map (fun i => oN[i]?) = (N.drop own).map some
  capf : ∀ x ∈ N.drop own, scope.names.lookup x = some .free

noncomputable def blkStart (own : Nat) (caps : List Nat) (σ : St) : St := List.replicate own none ++ caps.map fun i => (σ[i]?).join
noncomputable abbrev blkCells (X : Cx) (scope : Scope) (C : Addr) : List (Str × Addr) := cellsFrom (C + 1) scope.names (clOf X.env.cells scope.names [])
noncomputable abbrev blkHeap (h : Heap) (scope : Scope) : Heap := pushCells (h.push { cls := .type "dict", data := .dict #[] }) scope.names

section
variable {X : Cx} {pins : List (Addr × Obj)} {σ : St} {H : Hp} {s : Shared} {N : List Str} {own : Nat} {caps : List Nat} {scope : Scope} {ex : List Addr}

theorem blk_look (S : BlkScope X.N X.env.scope N own caps scope) (I : Inv X pins σ H s) (n : Nat) {x : Str} {c : Addr} (h : (cellsFrom n scope.names (clOf X.env.cells scope.names [])).lookup x = some c) :
    (x, c) ∈ cellsFrom n scope.names [] ∨ ((x, NameKind.free) ∈ scope.names ∧ X.env.cells.lookup x = some c) := by
  rw [cellsFrom_app, lookup_app] at h
  cases q : (cellsFrom n scope.names []).lookup x with
  | some c' =>
    rw [q] at h
    have e : c' = c := by simpa using h
    subst e
    exact .inl (PySem.mem_of_lookup q)
  | none =>
    rw [q] at h
    have h' : (clOf X.env.cells scope.names []).lookup x = some c := by simpa using h
    rcases clOf_some _ _ h' with z | ⟨z, e⟩
    · cases z
    · refine .inr ⟨z, ?_⟩
      obtain ⟨c', hc'⟩ := I.ok.has x (S.free (x, .free) z rfl)
      rw [hc'] at e ⊢
      rw [e]; rfl
theorem blk_capt (S : BlkScope X.N X.env.scope N own caps scope) (I : Inv X pins σ H s) (n : Nat) {x : Str} (hx : scope.names.lookup x = some .free) :
    ∃ c, X.env.cells.lookup x = some c ∧ (cellsFrom n scope.names (clOf X.env.cells scope.names [])).lookup x = some c := by
  have hm : (x, NameKind.free) ∈ scope.names := PySem.mem_of_lookup hx
  obtain ⟨c, hc⟩ := I.ok.has x (S.free (x, .free) hm rfl)
  refine ⟨c, hc, ?_⟩
  obtain ⟨c', hc'⟩ := Option.isSome_iff_exists.mp (clOf_has (cells := X.env.cells) (x := x) scope.names [] (.inl hm))
  have e0 : (cellsFrom n scope.names []).lookup x = none := by
    cases q : (cellsFrom n scope.names []).lookup x with
    | none => rfl
    | some d =>
      have := lookup_of_mem S.ndn (cellsFrom_mem _ _ _ _ (PySem.mem_of_lookup q))
      rw [hx] at this
      cases this
  rw [cellsFrom_app, lookup_app, e0, hc']
  rcases clOf_some _ _ hc' with z | ⟨_, e⟩
  · cases z
  · rw [hc] at e
    rw [e]; rfl

theorem inv_blk (S : BlkScope X.N X.env.scope N own caps scope) (I : Inv X pins σ H s) (hex : ∀ b ∈ ex, FpOk X pins H b ∧ b < s.heap.objs.size) :
    Inv (blk X N scope (blkCells X scope s.heap.objs.size) s.heap.objs.size s H ex) [] (blkStart own caps σ) H { s with heap := blkHeap s.heap scope } := by
  have k1 : ∀ b o, s.heap.get? b = some o → (blkHeap s.heap scope).get? b = some o := fun b o e => pushCells_keeps _ _ b o (Heap.get?_push_of_some _ e)
  have ok := cellsFrom_ok scope.names (s.heap.push { cls := .type "dict", data := .dict #[] }) (s.heap.objs.size + 1) [] ⟨fun _ _ hm => (nomatch hm), List.Pairwise.nil⟩ (by rw [Heap.size_push]; exact Nat.le_refl _)
  rw [Heap.size_push] at ok
  have oldc : ∀ x c, X.env.cells.lookup x = some c → c < s.heap.objs.size := fun x c e => by
    obtain ⟨v, q⟩ := I.cell x c e
    exact q.lt
  have kof : ∀ x, (compEnvC scope (blkCells X scope s.heap.objs.size) s.heap.objs.size X.env).kindOf x = (scope.names.lookup x).map fun k => if (k == NameKind.free && X.env.scope.kind == .function && X.env.kindOf x == some .cell) = true then NameKind.cell else k :=
    fun x => relabel_lookup (env := X.env) scope.names
  have kk : ∀ x, (compEnvC scope (blkCells X scope s.heap.objs.size) s.heap.objs.size X.env).kindOf x = some .cell ∨ (compEnvC scope (blkCells X scope s.heap.objs.size) s.heap.objs.size X.env).kindOf x = some .free →
      scope.names.lookup x = some .cell ∨ scope.names.lookup x = some .free := fun x h => by
    rw [kof] at h
    cases q : scope.names.lookup x with
    | none => rw [q] at h; rcases h with h | h <;> cases h
    | some k =>
      rw [q] at h
      by_cases hf : k = .free
      · exact .inr (by rw [hf])
      · have hb : (k == NameKind.free) = false := by simpa using hf
        have e : (some k).map (fun k => if (k == NameKind.free && X.env.scope.kind == .function && X.env.kindOf x == some .cell) = true then NameKind.cell else k) = some k := by
          simp [hf]
        rw [e] at h
        exact h
  refine ⟨⟨I.ok.mod, S.kind, I.ok.glob, I.ok.blt, Nat.le_refl _, fun x y c h1 h2 => ?_, fun x hx => ?_, fun x c hf h => ?_, I.ok.hd, I.ok.frames, .inl rfl, fun b hb => ⟨?_, fun x c h => ?_⟩, fun b o e => ?_, Nat.le_trans I.ok.bsz I.sz, fun b o e hb => ?_, fun b hb hf => ?_, I.stack, I.stkFree⟩,
    rfl, I.bare, Un.kept k1, ⟨fun _ => none, ?_, fun i x v h1 h2 h3 => ?_⟩, fun x c h => ?_, I.hok.fresh (Nat.le_refl _), fun x c h => ?_, fun p hp => absurd (show p ∈ ([] : List (Addr × Obj)) from hp) (by simp), I.hok.kept k1, ?_⟩
  · -- inj
    rcases blk_look S I _ h1 with a1 | ⟨_, a1⟩ <;> rcases blk_look S I _ h2 with a2 | ⟨_, a2⟩
    · exact name_of_addr ok.apart a1 a2
    · exact absurd (oldc _ _ a2) (Nat.not_lt.mpr (Nat.le_of_succ_le (ok.empty _ _ a1).2))
    · exact absurd (oldc _ _ a1) (Nat.not_lt.mpr (Nat.le_of_succ_le (ok.empty _ _ a2).2))
    · exact I.ok.inj _ _ _ a1 a2
  · -- has
    rcases kk x hx with q | q
    · exact Option.isSome_iff_exists.mp (PySem.W.cellsFrom_some scope.names _ _ (.inl q))
    · obtain ⟨c, _, hc⟩ := blk_capt S I (s.heap.objs.size + 1) q
      exact ⟨c, hc⟩
  · -- cab
    have hf' : scope.names.lookup x = some .cell := by simpa [blk] using hf
    rcases blk_look S I _ h with a | ⟨a, _⟩
    · exact Nat.le_of_succ_le (ok.empty _ _ a).2
    · rw [lookup_of_mem S.ndn a] at hf'
      cases hf'
  · exact Nat.ne_of_lt (hex b hb).2
  · rcases blk_look S I _ h with a | ⟨_, a⟩
    · exact Nat.ne_of_gt (Nat.lt_of_lt_of_le (hex b hb).2 (Nat.le_of_succ_le (ok.empty _ _ a).2))
    · exact (hex b hb).1.2.2.2.2.1 x c a
  · exact I.bs b o e
  · rcases (hex b hb).1.2.2.2.1 with z | z
    · exact I.ok.noex b o e z
    · exact absurd (Nat.lt_of_lt_of_le (Heap.lt_size e) (Nat.le_trans I.ok.bsz z)) (Nat.lt_irrefl _)
  · rcases List.mem_cons.mp (I.stkSub b hf) with z | z
    · exact (hex b hb).1.2.1 z
    · exact (hex b hb).1.2.2.1 z
  · exact (Heap.Ns.new s.heap (.type "dict")).keeps (pushCells_keeps _ _)
  · -- the captured names
    have hi : own ≤ i := by
      refine Nat.le_of_not_lt fun hlt => ?_
      unfold blkStart at h2
      rw [List.getElem?_append_left (by simpa using hlt), List.getElem?_replicate] at h2
      split at h2 <;> cases h2
    obtain ⟨j, rfl⟩ : ∃ j, i = own + j := ⟨i - own, by lia⟩
    unfold blkStart at h2
    rw [List.getElem?_append_right (by simp), List.length_replicate, Nat.add_sub_cancel_left, List.getElem?_map] at h2
    cases hc : caps[j]? with
    | none => rw [hc] at h2; cases h2
    | some ci =>
      rw [hc] at h2
      have hσ : σ[ci]? = some (some v) := by
        have z : (σ[ci]?).join = some v := by simpa using h2
        cases q : σ[ci]? with
        | none => rw [q] at z; cases z
        | some o => rw [q] at z; have z' : o = some v := z; rw [z']
      have hNx : (N.drop own)[j]? = some x := by rw [List.getElem?_drop]; exact h1
      have hX : X.N[ci]? = some x := by
        have e := congrArg (fun l => l[j]?) S.cap
        simp only [List.getElem?_map, hc, hNx, Option.map_some] at e
        exact Option.some.inj e
      have hfr := S.capf x (List.mem_of_getElem? hNx)
      obtain ⟨c, hc1, hc2⟩ := blk_capt S I (s.heap.objs.size + 1) hfr
      obtain ⟨m, hn, hl⟩ := I.loc
      have hk := S.free (x, .free) (PySem.mem_of_lookup hfr) rfl
      have hvis : Vis X.env.scope x := .inr hk
      obtain ⟨u, ru, lk⟩ := hl ci x v hX hσ hvis
      refine ⟨u, ru, ?_⟩
      rcases lk with ⟨z, _⟩ | ⟨_, c', e', z⟩
      · have z' : X.env.scope.names.lookup x = some .local := z
        rcases hk with hk | hk
        · have hk' : X.env.scope.names.lookup x = some .cell := hk
          rw [z'] at hk'; cases hk'
        · have hk' : X.env.scope.names.lookup x = some .free := hk
          rw [z'] at hk'; cases hk'
      · rw [hc1] at e'
        cases e'
        refine .inr ⟨?_, c, hc2, z.keeps k1⟩
        show (compEnvC scope _ _ X.env).kindOf x = _ ∨ (compEnvC scope _ _ X.env).kindOf x = _
        rw [kof, hfr]
        show some (if _ then NameKind.cell else NameKind.free) = _ ∨ some (if _ then NameKind.cell else NameKind.free) = _
        split
        · exact .inl rfl
        · exact .inr rfl
  · rcases blk_look S I _ h with a | ⟨_, a⟩
    · exact ⟨_, (ok.empty _ _ a).1⟩
    · obtain ⟨v, q⟩ := I.cell x c a
      exact ⟨v, q.keeps k1⟩
  · rcases blk_look S I _ h with a | ⟨_, a⟩
    · exact I.hok.fresh (Nat.le_of_succ_le (ok.empty _ _ a).2)
    · exact I.freeC x c a
  · unfold blkStart
    show _ = N.length
    rw [S.len, List.length_append, List.length_replicate, List.length_map]
end
end L2
namespace L2
open PySem PySem.Spec PyProof.Rows

/-- the tests of a comprehension -/
noncomputable def PTs (X : Cx) (ifs : List Expr) (t : TT) : Prop :=
  ∀ (pins : List (Addr × Obj)) (s : Shared) (σ : St) (H : Hp) (Q : Bool → Hp → Prop), Inv X pins σ H s → t σ H Q →
    wpAny (model X.prog X.w) X.A (forIn ifs true fun c r => if r = true then do let ok ← isTrue c X.env (eval c X.env); pure (ForInStep.yield ok) else pure (ForInStep.yield r)) (TP X pins σ Q) X.xe s
noncomputable def tTrue : TT := fun _ H Q => Q true H
theorem pts_nil {X : Cx} : PTs X [] tTrue := fun _ _ _ H _ I h => wpAny_tests_nil ⟨H, I, h⟩
theorem pts_one {X : Cx} {c : Expr} {t : TT} (h : PT X c t) : PTs X [c] t := fun pins s σ H Q I q => wpAny_tests_one (h pins s σ H Q I q)

/-- one turn of a comprehension's loop: the draw, the hand-over, the store, the tests, the element, the append; at the end 'fin', behind a turn 'more' -/
noncomputable def TurnWp (M : Model) (A : Around) (env : Env) (it acc : Value) (tg elt : Expr) (ifs : List Expr) (E : Value → Shared → Prop) (fin more : Shared → Prop) : Shared → Prop :=
  let kept : Shared → Prop := fun u => wpAny M A (eval elt env) (fun x u5 => wpAny M A (call (.builtin "list.append") [acc, x]) (fun _ u6 => more u6) E u5) E u
  let tested : Shared → Prop := fun u => wpAny M A (forIn ifs true fun c r => if r = true then (do let ok ← isTrue c env (eval c env); pure (ForInStep.yield ok)) else pure (ForInStep.yield r)) (fun ok u4 => if ok = true then kept u4 else more u4) E u
  let taken : Value → Shared → Prop := fun v u => wpAny M A (letOwnedTupleGo tg it v) (fun _ u2 => wpAny M A (assign tg env v) (fun _ u3 => tested u3) E u2) E u
  fun u => wpAny M A (pyNext it) (fun o u1 => match o with | none => fin u1 | some v => taken v u1) E u
theorem loop_by {prog : Program} {w : World} {A : Around} {R : Result → Shared → Prop} {s : Shared} {elt tg iter : Expr} {ifs : List Expr} {scope : Scope} {pos : Pos} {it acc : Value} {env : Env} (I : Nat → Shared → Prop) (n : Nat) (start : I n s)
    (turn : ∀ m u, I m u → TurnWp (model prog w) A env it acc tg elt ifs (notedBy (model prog w) A env fun e v => R (.error e) v) (R (.ok .next)) (fun v => ∃ j, j < m ∧ I j v) u) :
    codeAny (model prog w) A (.compLoop (.ListComp elt [⟨tg, iter, ifs, 0⟩] scope pos) 0 it acc env) R s := by
  refine codeAny_loop rfl I (fun m u hu => wpAny_noted (m := compTurn (.ListComp elt [⟨tg, iter, ifs, 0⟩] scope pos) 0 it acc env) ?_) n start
  have go := turn m u hu
  unfold TurnWp at go
  rw [compTurn_list]
  refine wpAny_bind (wpAny_standAt (wpAny_bind (thn go fun o u1 b1 => ?_)))
  match o, b1 with
  | none, b1 => exact wpAny_pure b1
  | some v, b1 =>
    refine wpAny_bind (thn b1 fun _ u2 b2 => wpAny_bind (thn b2 fun _ u3 b3 => wpAny_bind (thn b3 fun ok u4 b4 => ?_)))
    match ok, b4 with
    | false, b4 => exact wpAny_pure ⟨rfl, b4⟩
    | true, b4 => exact wpAny_bind (wpAny_bind (thn b4 fun x u5 b5 => wpAny_bind (thn b5 fun _ u6 b6 => wpAny_pure (wpAny_pure ⟨rfl, b6⟩))))

/-- a comprehension's reading: own names first, then the captured slots; W: the invariant by the turn, a measure, the block's names, the heap, the items so far -/
noncomputable def CompW (J : It) (g : TG) (tt : TT) (te : TE) (Q : VK) (W : Nat → Nat → St → Hp → List V → Prop) : Prop :=
  ∀ i m σ' H' ys, W i m σ' H' ys →
    (J.stop i H' ∧ ys.length ≤ sizeLine ∧ ∀ p, H' p = none → Q (.ref p) (upd H' p (.lst ys))) ∨
    (J.go i H' ∧ ys.length < sizeLine ∧ ∃ N : St → Hp → List V → Prop, (∀ σ2 H2 zs, N σ2 H2 zs → ∃ m', m' < m ∧ W (i + 1) m' σ2 H2 zs) ∧
      ∀ x H2, J.yld i H' x H2 → g x σ' H2 fun σ3 H3 => tt σ3 H3 fun b H4 => if b = true then te σ3 H4 fun v H5 => N σ3 H5 (ys ++ [v]) else N σ3 H4 ys)
noncomputable def tComp (wi : TI) (own : Nat) (caps : List Nat) (g : TG) (tt : TT) (te : TE) : TE := fun σ H Q => wi σ H fun J H1 =>
  ∃ W : Nat → Nat → St → Hp → List V → Prop, (∃ m, W 0 m (blkStart own caps σ) H1 []) ∧ CompW J g tt te Q W

section
variable {X : Cx} {tg elt iter : Expr} {ifs : List Expr} {scope : Scope} {pos : Pos} {N : List Str} {own : Nat} {caps : List Nat} {wi : TI} {g : TG} {tt : TT} {te : TE}

theorem comp_run {pins : List (Addr × Obj)} {σ : St} {H2 : Hp} {s2 : Shared} {J : It} {fp : List Addr} {it : Addr} {tn : Nat → Heap → Prop} {Q : VK} {W : Nat → Nat → St → Hp → List V → Prop} {m0 : Nat}
    {E : Value → Shared → Prop} {R : Value → Addr → Result → Shared → Prop} (hc : X.calm = true) (S : BlkScope X.N X.env.scope N own caps scope)
    (hg : ∀ cs C s₀ H₀ ex, PG (blk X N scope cs C s₀ H₀ ex) tg g) (ht : ∀ cs C s₀ H₀ ex, PTs (blk X N scope cs C s₀ H₀ ex) ifs tt) (he : ∀ cs C s₀ H₀ ex, PE (blk X N scope cs C s₀ H₀ ex) elt te)
    (I2 : Inv X pins σ H2 s2) (T : Turn X.prog X.w X.K tg J fp it tn) (st2 : tn 0 s2.heap) (f2 : ∀ b ∈ fp, FpOk X pins H2 b)
    (w0 : W 0 m0 (blkStart own caps σ) H2 []) (turn : CompW J g tt te Q W)
    (hpost : ∀ D C s' H' ys, Inv X pins σ (upd H' D (.lst ys)) s' → FpOk X pins (upd H' D (.lst ys)) C → (∃ m, s'.heap.Ns C m) → Q (.ref D) (upd H' D (.lst ys)) → R (.ref D) C (.ok .next) s') :
    wpAny (model X.prog X.w) X.A (newList []) (fun acc s₃ => wpAny (model X.prog X.w) X.A (newFunctionEnv scope X.env.globals (clOf X.env.cells scope.names []) [] X.env.qual none .none (some X.env)) (fun cenv s₄ =>
      codeAny (model X.prog X.w) X.A (.compStart (.ListComp elt [⟨tg, iter, ifs, 0⟩] scope pos) 0 (.ref it) acc { cenv with scope := relabel scope X.env }) (R acc cenv.locals) s₄) E s₃) E s2 := by
  refine wpAny_newObj_type (newEnv_blk ?_)
  dsimp only
  generalize hh3 : s2.heap.push { cls := .type "list", dict := none, data := .seq ([] : List Value).toArray } = h3
  have hC : h3.objs.size = s2.heap.objs.size + 1 := by rw [← hh3, Heap.size_push]
  have up3 : ∀ b o, s2.heap.get? b = some o → h3.get? b = some o := fun b o e => hh3 ▸ Heap.get?_push_of_some _ e
  have I3 : Inv X pins σ H2 { s2 with heap := h3 } := I2.kept (t' := s2.toks) up3
  have gD : h3.get? s2.heap.objs.size = some { cls := .type "list", data := .seq ([] : List Value).toArray } := hh3 ▸ Heap.get?_push_size _ rfl
  have fD : FpOk X pins H2 s2.heap.objs.size := I2.fpOk (Nat.le_refl _) (I2.hok.fresh (Nat.le_refl _))
  have fplt : ∀ b ∈ fp, b < s2.heap.objs.size := fun b hb => by
    obtain ⟨o, e, _⟩ := T.obj 0 _ st2 b hb
    exact Heap.lt_size e
  have hex : ∀ b ∈ s2.heap.objs.size :: fp, FpOk X pins H2 b ∧ b < ({ s2 with heap := h3 } : Shared).heap.objs.size := fun b hb => by
    show _ ∧ b < h3.objs.size
    rw [hC]
    cases hb with
    | head => exact ⟨fD, Nat.lt_succ_self _⟩
    | tail _ hb => exact ⟨f2 b hb, Nat.lt_succ_of_lt (fplt b hb)⟩
  have IB := inv_blk S I3 hex
  -- the block's context
  generalize hY : blk X N scope (blkCells X scope h3.objs.size) h3.objs.size { s2 with heap := h3 } H2 (s2.heap.objs.size :: fp) = Y at IB
  have yP : Y.prog = X.prog := by rw [← hY]; rfl
  have yW : Y.w = X.w := by rw [← hY]; rfl
  have yK : Y.K = X.K := by rw [← hY]; rfl
  have yc : Y.calm = true := by rw [← hY]; exact hc
  have yA : Y.A = X.A := by rw [← hY]; rfl
  have yx : Y.xe = fun _ _ => False := by rw [← hY]; rfl
  have yL : Y.env.locals = h3.objs.size := by rw [← hY]; rfl
  have yex : Y.ex = s2.heap.objs.size :: fp := by rw [← hY]; rfl
  have yfs : Y.fs = frs X.stack := by rw [← hY]; rfl
  have ypn : Y.pn = [] := by rw [← hY]; rfl
  have yenv : Y.env = compEnvC scope (blkCells X scope h3.objs.size) h3.objs.size X.env := by rw [← hY]; rfl
  have yg : PG Y tg g := by rw [← hY]; exact hg _ _ _ _ _
  have yt : PTs Y ifs tt := by rw [← hY]; exact ht _ _ _ _ _
  have ye : PE Y elt te := by rw [← hY]; exact he _ _ _ _ _
  have yb : ∀ {σ' : St} {H' : Hp} {s' : Shared} {pn : List (Addr × Obj)}, Inv Y pn σ' H' s' → Un (frs X.stack) (s2.heap.objs.size :: fp) H2 H' h3 s'.heap := fun {σ' H' s' pn} J => by
    have b := J.base
    rw [yfs, yex] at b
    have e1 : Y.H₀ = H2 := by rw [← hY]; rfl
    have e2 : Y.s₀.heap = h3 := by rw [← hY]; rfl
    rw [e1, e2] at b
    exact b
  have yos : ∀ {σ' : St} {H' : Hp} {s' : Shared} {pn : List (Addr × Obj)}, Inv Y pn σ' H' s' → s'.os = s2.os := fun {σ' H' s' pn} J => by
    have e : Y.s₀.os = s2.os := by rw [← hY]; rfl
    exact J.os.trans e
  have DL : s2.heap.objs.size ≠ Y.env.locals := by rw [yL, hC]; exact Nat.ne_of_lt (Nat.lt_succ_self _)
  have Dfp : s2.heap.objs.size ∉ fp := fun z => Nat.lt_irrefl _ (fplt _ z)
  have exY : ∀ b ∈ s2.heap.objs.size :: fp, b ∈ Y.ex := fun b hb => by rw [yex]; exact hb
  have fpY : ∀ {pn : List (Addr × Obj)} {H' : Hp}, (∀ p ∈ pn, p.1 ∉ fp) → (∀ b ∈ fp, H' b = none) → ∀ b ∈ fp, FpOk Y pn H' b := fun {pn H'} hp hn b hb => by
    have hb' := exY b (List.mem_cons_of_mem _ hb)
    refine ⟨hn b hb, (IB.ok.exf b hb').1, IB.ok.exfs b hb', .inl hb', (IB.ok.exf b hb').2, fun p hp' z => ?_⟩
    rw [ypn, List.nil_append] at hp'
    exact hp p hp' (z ▸ hb)
  have up4 : ∀ b o, h3.get? b = some o → (blkHeap h3 scope).get? b = some o := fun b o e => pushCells_keeps _ _ b o (Heap.get?_push_of_some _ e)
  have st4 : tn 0 (blkHeap h3 scope) := T.keep 0 s2.heap _ st2 fun b _ o e => up4 b o (up3 b o e)
  have gD4 := up4 _ _ gD
  have loop : codeAny (model X.prog X.w) X.A (.compLoop (.ListComp elt [⟨tg, iter, ifs, 0⟩] scope pos) 0 (.ref it) (.ref s2.heap.objs.size) (compEnvC scope (blkCells X scope h3.objs.size) h3.objs.size X.env)) (R (.ref s2.heap.objs.size) h3.objs.size)
      { s2 with heap := blkHeap h3 scope } := by
    refine loop_by (fun n s' => ∃ i σ' H' ys its cap, Inv Y [] σ' H' s' ∧ tn i s'.heap ∧ (∀ b ∈ fp, H' b = none) ∧ H' s2.heap.objs.size = none ∧
      s'.heap.get? s2.heap.objs.size = some { cls := .type "list", data := .seq (its : List Value).toArray cap } ∧ Vals ys its ∧ W i n σ' H' ys) m0
      ⟨0, _, H2, [], [], _, IB, st4, fun b hb => (f2 b hb).1, fD.1, gD4, .nil, w0⟩ ?_
    rintro n s5 ⟨i, σ5, H5, ys, its, cap, I5, t5, fr5, nD5, gD5, rv5, w5⟩
    unfold TurnWp
    dsimp only
    have pin5 : Inv Y [(s2.heap.objs.size, { cls := .type "list", data := .seq its.toArray cap })] σ5 H5 s5 := I5.pins_of fun p hp => by
      have e := List.mem_singleton.mp hp
      subst e
      exact ⟨gD5, nD5, DL, IB.ok.exfs _ (exY _ List.mem_cons_self), fun v z => by cases z⟩
    have pno : ∀ p ∈ [((s2.heap.objs.size : Addr), ({ cls := .type "list", data := .seq its.toArray cap } : Obj))], p.1 ∉ fp := fun p hp => by
      have e := List.mem_singleton.mp hp
      subst e
      exact Dfp
    have fpo : ∀ {H' : Hp}, (∀ b ∈ fp, H' b = none) → ∀ b ∈ fp, FpOk Y [((s2.heap.objs.size : Addr), ({ cls := .type "list", data := .seq its.toArray cap } : Obj))] H' b := fun hn => fpY pno hn
    rcases turn i n σ5 H5 ys w5 with ⟨stop, hz, qn⟩ | ⟨go, hz, NN, hNN, step⟩
    · rw [← yA]
      refine wpAny_mono (T.done Y yP yW yK yc i _ s5 σ5 H5 (fun _ _ => False) pin5 (fpo fr5) t5 stop) (fun r s6 h6 => ?_) fun _ _ f => f.elim
      obtain ⟨hr, I6⟩ := h6
      subst hr
      have hp6 := I6.pin (s2.heap.objs.size, _) (List.mem_append_right _ (List.mem_singleton.mpr rfl))
      have nD : H2 s2.heap.objs.size = none := fD.1
      have base := yb I6
      have un : Un (frs X.stack) (s2.heap.objs.size :: fp) H2 (upd H5 s2.heap.objs.size (.lst ys)) h3 s6.heap := ⟨base.keep, base.slot, fun b o e n hx => by
          rw [upd_ne (fun z => hx (by rw [z]; exact List.mem_cons_self))]; exact base.free b o e n hx, base.there,
        fun b xs e => by rw [upd_ne (ne_of_none e nD)]; exact base.tups b xs e, fun b o u e => by rw [upd_ne (ne_of_none e nD)]; exact base.frzs b o u e, fun b ps e => by
          obtain ⟨more, q⟩ := base.tbls b ps e
          exact ⟨more, by rw [upd_ne (ne_of_none e nD)]; exact q⟩⟩
      have hok : HOk X.prog X.w (upd H5 s2.heap.objs.size (.lst ys)) s6.heap := fun b u e => by
        have hok6 := I6.hok
        rw [yP, yW] at hok6
        by_cases hb : b = s2.heap.objs.size
        · subst hb
          rw [upd_same] at e
          cases e
          exact ⟨hz, its, cap, rv5, hp6.1⟩
        · rw [upd_ne hb] at e
          exact (hok6 b u e).stay (fun c v _ q => q) (fun c q => by rw [upd_ne (ne_of_none q hp6.2.1)]; exact q) fun c xs q => by rw [upd_ne (ne_of_none q hp6.2.1)]; exact q
      have I7 : Inv X pins σ (upd H5 s2.heap.objs.size (.lst ys)) s6 := I3.call' (yos I6) un hok I6.bare fun b hb => by
        have z := (hex b hb).1
        exact ⟨z.2.2.2.1, z.2.1, z.2.2.2.2.1, z.2.2.2.2.2⟩
      have hCn : H5 h3.objs.size = none := by rw [← yL]; exact I6.free
      have CD : h3.objs.size ≠ s2.heap.objs.size := by rw [hC]; exact Nat.succ_ne_self _
      refine hpost _ _ s6 H5 ys I7 (I3.fpOk (Nat.le_refl _) (by rw [upd_ne CD]; exact hCn)) ?_ (qn _ nD5)
      obtain ⟨m, hn, _⟩ := I6.loc
      rw [yL] at hn
      exact ⟨m, hn⟩
    · rw [← yA]
      have lift : ∀ {α : Type} {t : Sem α} {Q1 Q2 : α → Shared → Prop} {s' : Shared}, wpAny (model X.prog X.w) Y.A t Q1 Y.xe s' → (∀ a s'', Q1 a s'' → Q2 a s'') →
          wpAny (model X.prog X.w) Y.A t Q2 (notedBy (model X.prog X.w) Y.A (compEnvC scope (blkCells X scope h3.objs.size) h3.objs.size X.env) fun e s' => R (.ref s2.heap.objs.size) h3.objs.size (.error e) s') s' := fun h k =>
        wpAny_mono h k fun _ _ f => by rw [yx] at f; exact f.elim
      refine lift (T.item Y yP yW yK yc i _ s5 σ5 H5 Y.xe pin5 (fpo fr5) t5 go) fun r s6 h6 => ?_
      obtain ⟨u, hr, h6⟩ := h6
      subst hr
      refine lift h6 fun _ s7 h7 => ?_
      obtain ⟨x, H7, I7, r7, y7, t7, fr7⟩ := h7
      have I7' := I7.pinned (fpo fr7) (T.obj _ _ t7)
      have ha := yg _ s7 σ5 H7 x u _ I7' r7 (step x H7 y7)
      rw [yP, yW, yenv] at ha
      refine lift ha fun _ s8 h8 => ?_
      obtain ⟨σ8, H8, I8, q8⟩ := h8
      have hb := yt _ s8 σ8 H8 _ I8 q8
      rw [yP, yW, yenv] at hb
      refine lift hb fun ok s9 h9 => ?_
      obtain ⟨H9, I9, q9⟩ := h9
      -- what the pins tell
      have after : ∀ {σ' : St} {H' : Hp} {s' : Shared}, Inv Y ([((s2.heap.objs.size : Addr), ({ cls := .type "list", data := .seq its.toArray cap } : Obj))] ++ pinsAt fp s7.heap) σ' H' s' →
          Inv Y [] σ' H' s' ∧ tn (i + 1) s'.heap ∧ (∀ b ∈ fp, H' b = none) ∧ H' s2.heap.objs.size = none ∧ s'.heap.get? s2.heap.objs.size = some { cls := .type "list", data := .seq its.toArray cap } := fun {σ' H' s'} J => by
        have pD := J.pin (s2.heap.objs.size, _) (List.mem_append_right _ (List.mem_append_left _ (List.mem_singleton.mpr rfl)))
        refine ⟨J.pins_of (fun p hp => by cases hp), T.keep _ _ _ t7 fun b hb o e => (J.pin (b, o) (List.mem_append_right _ (List.mem_append_right _ (mem_pinsAt hb e)))).1, fun b hb => ?_, pD.2.1, pD.1⟩
        obtain ⟨o, e, d⟩ := T.obj _ _ t7 b hb
        exact (J.pin (b, o) (List.mem_append_right _ (List.mem_append_right _ (mem_pinsAt hb e)))).2.1
      cases ok with
      | false =>
        rw [if_neg (by decide)] at q9
        rw [if_neg (by decide)]
        obtain ⟨m', hm, w9⟩ := hNN _ _ _ q9
        obtain ⟨a1, a2, a3, a4, a5⟩ := after I9
        exact ⟨m', hm, i + 1, σ8, H9, ys, its, cap, a1, a2, a3, a4, a5, rv5, w9⟩
      | true =>
        rw [if_pos rfl] at q9
        rw [if_pos rfl]
        have hd := ye _ s9 σ8 H9 _ I9 q9
        rw [yP, yW, yenv] at hd
        refine lift hd fun v s10 h10 => ?_
        obtain ⟨y, H10, I10, r10, n10⟩ := h10
        obtain ⟨m', hm, w10⟩ := hNN _ _ _ n10
        obtain ⟨a1, a2, a3, a4, a5⟩ := after I10
        have hlen := rv5.length
        refine append_at (hsz := by rw [List.size_toArray]; lia) a5 fun h' sb g' => ?_
        have hDx := exY _ (List.mem_cons_self (a := s2.heap.objs.size) (l := fp))
        have I11 : Inv Y [] σ8 H10 { s10 with heap := h' } := a1.turned (t' := s10.toks) (it := s2.heap.objs.size) (fun b o hb e => (sb.2 b hb).trans e) a4 DL (.inl hDx) (IB.ok.exf _ hDx).2 (by rw [ypn]; intro p hp; cases hp)
        refine ⟨m', hm, i + 1, σ8, H10, ys ++ [y], its ++ [v], cap + 1, I11, T.keep _ _ _ a2 fun b hb o e => (sb.2 b (fun z => Dfp (z ▸ hb))).trans e, a3, a4, ?_, rv5.snoc r10, w10⟩
        rw [g', List.push_toArray]
  exact codeAny_compStart_list loop (T.self X.A 0 _ _ _ st4 loop)

theorem comp_clos (S : BlkScope X.N X.env.scope N own caps scope) {pins : List (Addr × Obj)} {σ : St} {H : Hp} {s : Shared} (I : Inv X pins σ H s) : closureFor scope X.env = pure (clOf X.env.cells scope.names []) :=
  closureFor_eq fun x hx hk => I.ok.has x.1 (S.free x hx hk)

theorem pe_comp (hc : X.calm = true) (hi : PI X tg iter wi) (S : BlkScope X.N X.env.scope N own caps scope)
    (hg : ∀ cs C s₀ H₀ ex, PG (blk X N scope cs C s₀ H₀ ex) tg g) (ht : ∀ cs C s₀ H₀ ex, PTs (blk X N scope cs C s₀ H₀ ex) ifs tt) (he : ∀ cs C s₀ H₀ ex, PE (blk X N scope cs C s₀ H₀ ex) elt te)
    (hs : ∀ x, foldedSetIterable iter X.env x = pure x := by intro _; rfl) : PE X (.ListComp elt [⟨tg, iter, ifs, 0⟩] scope pos) (tComp wi own caps g tt te) := by
  intro pins s σ H Q I h
  rw [eval_ListComp]
  refine wpAny_comprehension_free (use := none) rfl hs (comp_clos S I) S.kind (fun x hx hl => lookup_of_mem S.ndn (by rw [← hl]; exact hx)) ?_
  refine thn (hi pins s σ H _ I h) fun v s1 h1 => thn h1 fun itv s2 h2 => ?_
  obtain ⟨it, fp, tn, J, H2, e, I2, T, st2, f2, W, ⟨m0, w0⟩, turn⟩ := h2
  subst e
  refine comp_run hc S hg ht he I2 T st2 f2 w0 turn fun D C s' H' ys I' F' hn q => ?_
  obtain ⟨m, hn⟩ := hn
  refine ⟨m, hn, fun h' sb => ⟨.ref D, _, I'.turned (t' := s'.toks) (fun b o hb e => (sb.2 b hb).trans e) F'.1 F'.2.1 F'.2.2.2.1 F'.2.2.2.2.1 F'.2.2.2.2.2, rfl, q⟩⟩

theorem ps_setComp {i : Nat} {x : Str} {pos' spos : Pos} (hc : X.calm = true) (hN : X.N.Nodup) (hix : X.N[i]? = some x) (hx : X.env.scope.names.lookup x = some .local) (hi : PI X tg iter wi) (S : BlkScope X.N X.env.scope N own caps scope)
    (hg : ∀ cs C s₀ H₀ ex, PG (blk X N scope cs C s₀ H₀ ex) tg g) (ht : ∀ cs C s₀ H₀ ex, PTs (blk X N scope cs C s₀ H₀ ex) ifs tt) (he : ∀ cs C s₀ H₀ ex, PE (blk X N scope cs C s₀ H₀ ex) elt te)
    (hsw : swapsWith (.ListComp elt [⟨tg, iter, ifs, 0⟩] scope pos) (some (.Name x pos')) spos.line X.env = pure true := by rfl)
    (hs : ∀ x, foldedSetIterable iter X.env x = pure x := by intro _; rfl) : PS X (.Assign [.Name x pos'] (.ListComp elt [⟨tg, iter, ifs, 0⟩] scope pos) spos) (tAsg (tComp wi own caps g tt te) (gName i)) := by
  intro pins s σ H D I h
  rw [exec_Assign_Name_used _ _ _ _ hsw]; refine wpAny_bind (wpAny_standAt (wpAny_bind ?_))
  show wpAny _ X.A (do let _ ← comprehension (.ListComp elt [⟨tg, iter, ifs, 0⟩] scope pos) scope X.env _ (newList []) false (eval iter X.env) (some (assign (.Name x pos') X.env))) _ _ s
  refine wpAny_bind (wpAny_mono (wpAny_comprehension_free (use := some (assign (.Name x pos') X.env)) (Q := fun _ s' => SP X pins D .next s') rfl hs (comp_clos S I) S.kind (fun x hx hl => lookup_of_mem S.ndn (by rw [← hl]; exact hx)) ?_) (fun _ s' hq => wpAny_pure (wpAny_pure hq)) fun _ _ e => e)
  refine thn (hi pins s σ H _ I h) fun v s1 h1 => thn h1 fun itv s2 h2 => ?_
  obtain ⟨it, fp, tn, J, H2, e, I2, T, st2, f2, W, ⟨m0, w0⟩, turn⟩ := h2
  subst e
  refine comp_run hc S hg ht he I2 T st2 f2 w0 turn fun D' C s' H' ys I' F' hn q => ?_
  obtain ⟨m, hn⟩ := hn
  refine wpAny_assign_Name (store_ok2 (v := .ref D') I' hN hix (.inl hx) rfl (fun s'' I'' h'' => ?_) (.inr hx))
  obtain ⟨a, sb, ha⟩ := h''
  have hCa : C ≠ a := by
    rcases ha with ha | ha
    · rw [ha]; exact F'.2.1
    · exact (F'.2.2.2.2.1 x a ha).symm
  exact ⟨m, hn.sameBut sb hCa, fun h' sb' => ⟨_, _, I''.turned (t' := s''.toks) (fun b o hb e => (sb'.2 b hb).trans e) F'.1 F'.2.1 F'.2.2.2.1 F'.2.2.2.2.1 F'.2.2.2.2.2, q⟩⟩
end
end L2
namespace L2
open PySem PySem.Spec PyProof.Rows
set_option maxRecDepth 100000
/-! ### iterators of lists and tuples, and zip over them: by walking the builtins -/
noncomputable def itKind (b : Bool) : String := match b with
  | true => "list_iterator"
  | false => "tuple_iterator"
noncomputable def sqKind (b : Bool) : String := match b with
  | true => "list"
  | false => "tuple"
/-- an iterator's record -/
noncomputable abbrev itRec (b : Bool) (a : Addr) (i : Nat) : Obj := { cls := .type (itKind b), data := .fields #[.ref a, .int i 0] }
noncomputable def itOf (b : Bool) (h : Heap) (it a : Addr) (i : Nat) : Prop := h.get? it = some (itRec b a i)
noncomputable def isSq (b : Bool) (h : Heap) (a : Addr) (its : Array Value) : Prop := ∃ o n, h.get? a = some o ∧ o.cls = .type (sqKind b) ∧ o.data = .seq its n

section
variable (it a : Addr) (i : Nat) (its : Array Value) (o : Obj) (n : Nat) (ed : o.data = .seq its n)
include ed
theorem step_tup (x : Value) (hx : its[i]? = some x) :
    Meets (Builtin.«tuple_iterator.__next__» ⟨[.ref it], []⟩) (fun _ R s => (s.heap.get? it = some (itRec false a i) ∧ s.heap.get? a = some o) ∧
      R (.ok (.ret x)) { s with heap := s.heap.update it (Obj.mapFields fun vs => vs.setIfInBounds 1 (rawInt ((i : Int) + 1))) }) :=
  .of_wp fun prog w A R s hyp => by
    obtain ⟨h, g, dr, tk, os⟩ := s
    obtain ⟨⟨e1, e2⟩, fin⟩ := hyp
    have hx' : its[((i : Nat) : Int).toNat]? = some x := by simpa using hx
    wp_walk
    rw [ed]
    wp_walk
    rw [hx']
    wp_walk
    exact ⟨_, rfl, fin⟩
theorem step_lst (x : Value) (hx : its[i]? = some x) :
    Meets (Builtin.«list_iterator.__next__» ⟨[.ref it], []⟩) (fun _ R s => (s.heap.get? it = some (itRec true a i) ∧ s.heap.get? a = some o) ∧
      R (.ok (.ret x)) { s with heap := s.heap.update it (Obj.mapFields fun vs => vs.setIfInBounds 1 (rawInt ((i : Int) + 1))) }) :=
  .of_wp fun prog w A R s hyp => by
    obtain ⟨h, g, dr, tk, os⟩ := s
    obtain ⟨⟨e1, e2⟩, fin⟩ := hyp
    have hx' : its[((i : Nat) : Int).toNat]? = some x := by simpa using hx
    wp_walk
    rw [ed]
    wp_walk
    rw [hx']
    wp_walk
    exact ⟨_, rfl, fin⟩
theorem stop_tup (hx : its[i]? = none) :
    Meets (Builtin.«tuple_iterator.__next__» ⟨[.ref it], []⟩) (fun A R s => A.handled = none ∧ (s.heap.get? it = some (itRec false a i) ∧ s.heap.get? a = some o) ∧
      ∀ h' e, (∀ b u, b ≠ it → s.heap.get? b = some u → h'.get? b = some u) → (∃ u, h'.get? e = some u ∧ u.cls = .type "StopIteration") → R (.error (.ref e)) { s with heap := h' }) :=
  .of_wp fun prog w A R s hyp => by
    obtain ⟨h, g, dr, tk, os⟩ := s
    obtain ⟨hh, ⟨e1, e2⟩, fin⟩ := hyp
    have hh' : A.in1.handled = none := hh
    have hx' : its[((i : Nat) : Int).toNat]? = none := by simpa using hx
    wp_walk
    rw [ed]
    wp_walk
    rw [hx']
    wp_walk
    unfold raiseNew
    wp_walk
    refine fin _ _ (fun b u hb q => ?_) ⟨_, Heap.get?_push_size _ rfl, rfl⟩
    exact Heap.get?_push_of_some _ (Heap.get?_push_of_some _ ((Heap.get?_update_other _ _ (Ne.symm hb)).trans q))
theorem stop_lst (hx : its[i]? = none) :
    Meets (Builtin.«list_iterator.__next__» ⟨[.ref it], []⟩) (fun A R s => A.handled = none ∧ (s.heap.get? it = some (itRec true a i) ∧ s.heap.get? a = some o) ∧
      ∀ h' e, (∀ b u, b ≠ it → s.heap.get? b = some u → h'.get? b = some u) → (∃ u, h'.get? e = some u ∧ u.cls = .type "StopIteration") → R (.error (.ref e)) { s with heap := h' }) :=
  .of_wp fun prog w A R s hyp => by
    obtain ⟨h, g, dr, tk, os⟩ := s
    obtain ⟨hh, ⟨e1, e2⟩, fin⟩ := hyp
    have hh' : A.in1.handled = none := hh
    have hx' : its[((i : Nat) : Int).toNat]? = none := by simpa using hx
    wp_walk
    rw [ed]
    wp_walk
    rw [hx']
    wp_walk
    unfold raiseNew
    wp_walk
    refine fin _ _ (fun b u hb q => ?_) ⟨_, Heap.get?_push_size _ rfl, rfl⟩
    exact Heap.get?_push_of_some _ (Heap.get?_push_of_some _ ((Heap.get?_update_other _ _ (Ne.symm hb)).trans q))
end
section
variable {prog : Program} {w : World} {A : Around} {E : Value → Shared → Prop} {s : Shared} {b : Bool} {it a : Addr} {i : Nat} {its : Array Value}
theorem itOf.moved (h : Heap) (e : itOf b h it a i) : itOf b (h.update it (Obj.mapFields fun vs => vs.setIfInBounds 1 (rawInt ((i : Int) + 1)))) it a (i + 1) := Heap.get?_update_self _ e rfl
theorem sq_next {x : Value} {Q : Value → Shared → Prop} (e1 : itOf b s.heap it a i) (e2 : isSq b s.heap a its) (hx : its[i]? = some x)
    (q : ∀ h', itOf b h' it a (i + 1) → Heap.SameBut it s.heap h' → Q x { s with heap := h' }) : wpAny (model prog w) A (Builtin.SmallTypes.nextOf (.ref it)) Q E s := by
  obtain ⟨o, n, eo, ec, ed⟩ := e2
  cases b <;> unfold Builtin.SmallTypes.nextOf
  · exact wpAny_bind (wpAny_callSpecial?_slot (T := "tuple_iterator") ⟨_, e1, rfl⟩ F.slot_tuple_iterator_next (call_meets F.slot_tuple_iterator_next ⟨_, e1, rfl⟩ F.entry_tuple_iterator_next (F.args_tuple_iterator_next_1 _) (step_tup it a i its o n ed x hx)
      ⟨⟨e1, eo⟩, wpAny_pure (q _ (itOf.moved _ e1) (Heap.SameBut.update ..))⟩))
  · exact wpAny_bind (wpAny_callSpecial?_slot (T := "list_iterator") ⟨_, e1, rfl⟩ slot_listiter_next (call_meets slot_listiter_next ⟨_, e1, rfl⟩ entry_listiter_next (args_listiter_next _) (step_lst it a i its o n ed x hx)
      ⟨⟨e1, eo⟩, wpAny_pure (q _ (itOf.moved _ e1) (Heap.SameBut.update ..))⟩))
theorem sq_stop {Q : Value → Shared → Prop} (hh : A.handled = none) (e1 : itOf b s.heap it a i) (e2 : isSq b s.heap a its) (hx : its[i]? = none)
    (q : ∀ h' e, Heap.ExtBut it s.heap h' → (∃ u, h'.get? e = some u ∧ u.cls = .type "StopIteration") → E (.ref e) { s with heap := h' }) : wpAny (model prog w) A (Builtin.SmallTypes.nextOf (.ref it)) Q E s := by
  obtain ⟨o, n, eo, ec, ed⟩ := e2
  cases b <;> unfold Builtin.SmallTypes.nextOf
  · exact wpAny_bind (wpAny_callSpecial?_slot (T := "tuple_iterator") ⟨_, e1, rfl⟩ F.slot_tuple_iterator_next (call_meets F.slot_tuple_iterator_next ⟨_, e1, rfl⟩ F.entry_tuple_iterator_next (F.args_tuple_iterator_next_1 _) (stop_tup it a i its o n ed hx)
      ⟨hh, ⟨e1, eo⟩, fun h' e k z => q h' e (fun c u hc y => k c u hc y) z⟩))
  · exact wpAny_bind (wpAny_callSpecial?_slot (T := "list_iterator") ⟨_, e1, rfl⟩ slot_listiter_next (call_meets slot_listiter_next ⟨_, e1, rfl⟩ entry_listiter_next (args_listiter_next _) (stop_lst it a i its o n ed hx)
      ⟨hh, ⟨e1, eo⟩, fun h' e k z => q h' e (fun c u hc y => k c u hc y) z⟩))
end
/-- the draws of a list's or a tuple's iterator -/
theorem draws_sq {prog : Program} {w : World} {A : Around} (b : Bool) (hh : A.handled = none) (it l : Addr) (hne : l ≠ it) (items : Array Value) :
    Draws prog w A it [it, l] items.size (fun i v => items[i]? = some v) (fun i h => itOf b h it l i ∧ isSq b h l items) := by
  refine ⟨fun i h st => ⟨_, st.1⟩, fun i h h' st k => ⟨k it (by simp) _ st.1, ?_⟩, fun i s Q E hi st q => ?_, fun s Q E st q => sq_stop hh st.1 st.2 (by simp) q⟩
  · obtain ⟨o, n, eo, r⟩ := st.2
    exact ⟨o, n, k l (by simp) o eo, r⟩
  · have hx : items[i]? = some items[i] := by simp [hi]
    refine sq_next st.1 st.2 hx fun h' e1 sb => q _ h' s.toks hx ⟨e1, ?_⟩ sb
    obtain ⟨o, n, eo, r⟩ := st.2
    exact ⟨o, n, (sb.2 l hne).trans eo, r⟩
structure ZipSep (z TI TO i1 i2 : Addr) (fp1 fp2 : List Addr) : Prop where
  dTz : TI ≠ z
  dOz : TO ≠ z
  d1z : i1 ≠ z
  d2z : i2 ≠ z
  dTO : TI ≠ TO
  dT1 : TI ≠ i1
  dT2 : TI ≠ i2
  dO1 : TO ≠ i1
  dO2 : TO ≠ i2
  d12 : i1 ≠ i2
  fz : z ∉ fp1 ∧ z ∉ fp2
  fO : TO ∉ fp1 ∧ TO ∉ fp2
  f2 : i2 ∉ fp1
  f1 : i1 ∉ fp2
section
variable {prog : Program} {w : World} {A : Around} {E : Value → Shared → Prop} {z TI TO i1 i2 : Addr} {fp1 fp2 : List Addr} {n1 n2 k : Nat} {P1 P2 : Nat → Value → Prop} {S1 S2 : Nat → Heap → Prop} {a b : Value}
theorem Draws.but {it : Addr} {fp : List Addr} {n : Nat} {P : Nat → Value → Prop} {St : Nat → Heap → Prop} (D : PySem.Draws prog w A it fp n P St) {c : Addr} {h h' : Heap} {k : Nat} (x : St k h) (hc : c ∉ fp) (sb : Heap.SameBut c h h') : St k h' :=
  D.frame _ _ _ x fun b hb o e => (sb.2 b fun z => hc (z ▸ hb)).trans e
/-- what is left of a heap that changed at the zip's own objects -/
noncomputable def ZKeep (z TO i1 i2 : Addr) (h h' : Heap) : Prop := ∀ c o, c ≠ z → c ≠ TO → c ≠ i1 → c ≠ i2 → h.get? c = some o → h'.get? c = some o
set_option maxHeartbeats 2000000 in
theorem zip_go {s : Shared} {Q : Value → Shared → Prop} (D1 : PySem.Draws prog w A i1 fp1 n1 P1 S1) (D2 : PySem.Draws prog w A i2 fp2 n2 P2 S2) (D : ZipSep z TI TO i1 i2 fp1 fp2)
    (hz : IsZip s.heap z TI TO .none) (hT : IsPair s.heap TI (.ref i1) (.ref i2)) (hO : IsPair s.heap TO a b) (h1 : S1 k s.heap) (h2 : S2 k s.heap) (l1 : k < n1) (l2 : k < n2)
    (q : ∀ x y h' t, P1 k x → P2 k y → IsZip h' z TI TO (rawInt s.heap.objs.size) → IsPair h' TO x y → S1 (k + 1) h' → S2 (k + 1) h' → IsPair h' s.heap.objs.size x y → h'.objs.size = s.heap.objs.size + 1 → ZKeep z TO i1 i2 s.heap h' →
      Q (.ref s.heap.objs.size) { s with heap := h', toks := t }) : wpAny (model prog w) A (Builtin.«zip.__next__» ⟨[.ref z], []⟩) (fun fin s' => ∃ v, fin = .done (.ret v) ∧ Q v s') E s := by
  obtain ⟨h, g, dr, tk, os⟩ := s
  have hz' : h.get? z = some _ := hz
  have hT' : h.get? TI = some _ := hT
  wp_walk using wpAny_onRaise, D1.item k _ _ _ l1
  · exact Draws.but D1 h1 D.fz.1 (Heap.SameBut.update ..)
  intro x ha ta p1 sa ka
  replace ka : Heap.SameBut i1 (h.update z _) ha := ka
  have zz := Heap.SameBut.update h z (Obj.mapFields fun vs => vs.setIfInBounds 0 Value.ellipsis)
  have hOa : ha.get? TO = some _ := ((ka.2 TO D.dO1).trans (zz.2 TO D.dOz)).trans hO
  have tt := Heap.SameBut.update ha TO (Obj.mapSeq fun vs => vs.setIfInBounds 0 x)
  wp_walk using wpAny_onRaise, wpAny_updateSeq hOa rfl, D2.item k _ _ _ l2
  all_goals try exact Draws.but D2 (Draws.but D2 (Draws.but D2 h2 D.fz.2 zz) D.f1 ka) D.fO.2 tt
  intro y hb tb p2 sb kb
  replace kb : Heap.SameBut i2 (ha.update TO _) hb := kb
  have hOb : hb.get? TO = some { cls := .type "tuple", data := .seq #[x, b] } := by
    rw [kb.2 TO D.dO2, Heap.get?_update_self _ hOa rfl]
    simp [Obj.mapSeq]
  have hzb : hb.get? z = some { cls := .type "zip", dict := none, data := .fields #[.ellipsis, .bool false, .bool false, .ref TI, .ref TO], slots := #[] } := by
    rw [kb.2 z D.d2z.symm, tt.2 z D.dOz.symm, ka.2 z D.d1z.symm, Heap.get?_update_self _ hz' rfl]
    simp [Obj.mapFields]
  have nz : TO ≠ z := D.dOz
  wp_walk using wpAny_updateSeq hOb rfl
  refine ⟨_, rfl, ?_⟩
  dsimp only
  have sz : hb.objs.size = h.objs.size := by rw [kb.1, tt.1, ka.1, zz.1]
  have uu := Heap.SameBut.update hb TO (Obj.mapSeq fun vs => vs.setIfInBounds (0 + 1) y)
  have hOc : (hb.update TO (Obj.mapSeq fun vs => vs.setIfInBounds (0 + 1) y)).get? TO = some { cls := .type "tuple", data := .seq #[x, y] } := by
    rw [Heap.get?_update_self _ hOb rfl]
    simp [Obj.mapSeq]
  have ex : (#[x, b].setIfInBounds (0 + 1) y).toList.toArray = #[x, y] := by simp
  rw [ex]
  generalize hb.update TO (Obj.mapSeq fun vs => vs.setIfInBounds (0 + 1) y) = hc at uu hOc ⊢
  have szc : hc.objs.size = h.objs.size := uu.1.trans sz
  have new := Heap.get?_push_size hc (o := { cls := .type "tuple", data := .seq #[x, y] }) rfl
  have szp := Heap.size_push hc { cls := .type "tuple", data := .seq #[x, y] }
  have old : ∀ c o, hc.get? c = some o → (hc.push { cls := .type "tuple", data := .seq #[x, y] }).get? c = some o := fun c o e => Heap.get?_push_of_some _ e
  rw [szc] at new szp ⊢
  generalize hc.push { cls := .type "tuple", data := .seq #[x, y] } = hp at new szp old ⊢
  have hzp := old z _ ((uu.2 z D.dOz.symm).trans hzb)
  have v1 := Heap.SameBut.update hp z (Obj.mapFields fun vs => vs.setIfInBounds 0 (rawInt h.objs.size))
  have v2 := Heap.SameBut.update (hp.update z (Obj.mapFields fun vs => vs.setIfInBounds 0 (rawInt h.objs.size))) z (Obj.mapFields fun vs => vs.setIfInBounds 1 (Value.bool false))
  have hzF : ((hp.update z (Obj.mapFields fun vs => vs.setIfInBounds 0 (rawInt h.objs.size))).update z (Obj.mapFields fun vs => vs.setIfInBounds 1 (Value.bool false))).get? z = some { cls := .type "zip", dict := none, data := .fields #[rawInt h.objs.size, .bool false, .bool false, .ref TI, .ref TO], slots := #[] } := by
    rw [Heap.get?_update_self _ (Heap.get?_update_self _ hzp rfl) rfl]
    simp [Obj.mapFields]
  have fwd : ∀ c o, c ≠ z → hc.get? c = some o → ((hp.update z (Obj.mapFields fun vs => vs.setIfInBounds 0 (rawInt h.objs.size))).update z (Obj.mapFields fun vs => vs.setIfInBounds 1 (Value.bool false))).get? c = some o := fun c o ne e => ((v2.2 c ne).trans (v1.2 c ne)).trans (old c o e)
  have szF := (v2.1.trans v1.1).trans szp
  have newF := ((v2.2 h.objs.size (Nat.ne_of_gt (Heap.lt_size hz'))).trans (v1.2 h.objs.size (Nat.ne_of_gt (Heap.lt_size hz')))).trans new
  generalize (hp.update z (Obj.mapFields fun vs => vs.setIfInBounds 0 (rawInt h.objs.size))).update z (Obj.mapFields fun vs => vs.setIfInBounds 1 (Value.bool false)) = hF at hzF fwd szF newF ⊢
  refine q x y hF tb p1 p2 hzF (fwd TO _ D.dOz hOc) (D1.frame _ _ _ (Draws.but D1 (Draws.but D1 (Draws.but D1 sa D.fO.1 tt) D.f2 kb) D.fO.1 uu) fun c hm o e => fwd c o (fun j => D.fz.1 (j ▸ hm)) e)
    (D2.frame _ _ _ (Draws.but D2 sb D.fO.2 uu) fun c hm o e => fwd c o (fun j => D.fz.2 (j ▸ hm)) e) newF szF fun c o n1 n2 n3 n4 e => fwd c o n1 ?_
  rw [uu.2 c n2, kb.2 c n4, tt.2 c n2, ka.2 c n3, zz.2 c n1]
  exact e
end
section
variable {prog : Program} {w : World} {A : Around} {E : Value → Shared → Prop} {z TI TO i1 i2 : Addr} {fp1 fp2 : List Addr} {n1 n2 k : Nat} {P1 P2 : Nat → Value → Prop} {S1 S2 : Nat → Heap → Prop} {a b : Value}
set_option maxHeartbeats 2000000 in
theorem zip_end {s : Shared} {Q : Fin → Shared → Prop} (D1 : PySem.Draws prog w A i1 fp1 n1 P1 S1) (D2 : PySem.Draws prog w A i2 fp2 n2 P2 S2) (D : ZipSep z TI TO i1 i2 fp1 fp2)
    (hz : IsZip s.heap z TI TO .none) (hT : IsPair s.heap TI (.ref i1) (.ref i2)) (hO : IsPair s.heap TO a b) (h1 : S1 k s.heap) (h2 : S2 k s.heap) (hend : k = n1 ∨ (k < n1 ∧ k = n2))
    (q : ∀ h' e t, ZKeep z TO i1 i2 s.heap h' → (∃ o, h'.get? e = some o ∧ o.cls = .type "StopIteration") → E (.ref e) { s with heap := h', toks := t }) : wpAny (model prog w) A (Builtin.«zip.__next__» ⟨[.ref z], []⟩) Q E s := by
  obtain ⟨h, g, dr, tk, os⟩ := s
  have hz' : h.get? z = some _ := hz
  have hT' : h.get? TI = some _ := hT
  have zz := Heap.SameBut.update h z (Obj.mapFields fun vs => vs.setIfInBounds 0 Value.ellipsis)
  have hzz : (h.update z (Obj.mapFields fun vs => vs.setIfInBounds 0 Value.ellipsis)).get? z = some { cls := .type "zip", dict := none, data := .fields #[.ellipsis, .bool false, .bool false, .ref TI, .ref TO], slots := #[] } := by
    rw [Heap.get?_update_self _ hz' rfl]
    simp [Obj.mapFields]
  rcases hend with rfl | ⟨l1, rfl⟩
  · wp_walk using wpAny_onRaise, D1.done
    all_goals try exact Draws.but D1 h1 D.fz.1 zz
    intro hx e kx ⟨oe, xe, xc⟩
    have hzx : hx.get? z = some _ := kx z _ D.d1z.symm hzz
    have nez : e ≠ z := fun y => by
      subst y
      rw [hzx] at xe
      cases xe
      simp at xc
    wp_walk
    have vv := Heap.SameBut.update hx z (Obj.mapFields fun vs => vs.setIfInBounds 0 Value.none)
    exact q _ e _ (fun c o m1 m2 m3 m4 y => (vv.2 c m1).trans (kx c o m3 ((zz.2 c m1).trans y))) ⟨oe, (vv.2 e nez).trans xe, xc⟩
  · wp_walk using wpAny_onRaise, D1.item k _ _ _ l1
    all_goals try exact Draws.but D1 h1 D.fz.1 zz
    intro x ha ta p1 sa ka
    replace ka : Heap.SameBut i1 (h.update z _) ha := ka
    have hOa : ha.get? TO = some _ := ((ka.2 TO D.dO1).trans (zz.2 TO D.dOz)).trans hO
    have tt := Heap.SameBut.update ha TO (Obj.mapSeq fun vs => vs.setIfInBounds 0 x)
    wp_walk using wpAny_onRaise, wpAny_updateSeq hOa rfl, D2.done
    all_goals try exact Draws.but D2 (Draws.but D2 (Draws.but D2 h2 D.fz.2 zz) D.f1 ka) D.fO.2 tt
    intro hx e kx ⟨oe, xe, xc⟩
    replace kx : Heap.ExtBut i2 (ha.update TO _) hx := kx
    have hzx : hx.get? z = some _ := kx z _ D.d2z.symm ((tt.2 z D.dOz.symm).trans ((ka.2 z D.d1z.symm).trans hzz))
    have nez : e ≠ z := fun y => by
      subst y
      rw [hzx] at xe
      cases xe
      simp at xc
    wp_walk
    have vv := Heap.SameBut.update hx z (Obj.mapFields fun vs => vs.setIfInBounds 0 Value.none)
    exact q _ e _ (fun c o m1 m2 m3 m4 y => (vv.2 c m1).trans (kx c o m4 ((tt.2 c m2).trans ((ka.2 c m3).trans ((zz.2 c m1).trans y))))) ⟨oe, (vv.2 e nez).trans xe, xc⟩
end
/-! ### a list (true) or a tuple (false) that is walked -/
noncomputable def Sq (b : Bool) (K : PySem.W.Frag) (H : Hp) (a : Addr) (xs : List V) : Prop := match b with
  | true => SqL K H a xs
  | false => SqT K H a xs
theorem Inv.sq {X : Cx} {pins : List (Addr × Obj)} {σ : St} {H : Hp} {s : Shared} {b : Bool} {a : Addr} {xs : List V} (I : Inv X pins σ H s) (h : Sq b X.K H a xs) : ∃ its : List Value, Vals xs its ∧ isSq b s.heap a its.toArray ∧ xs.length ≤ sizeLine := by
  cases b with
  | true =>
    obtain ⟨its, rv, p, hz⟩ := I.list h
    obtain ⟨o, eo, ec, n, ed⟩ := p.isList
    exact ⟨its, rv, ⟨o, n, eo, ec, ed⟩, hz⟩
  | false =>
    obtain ⟨its, rv, ⟨o, eo, ec, n, ed⟩, hz⟩ := I.tuple h
    exact ⟨its, rv, ⟨o, n, eo, ec, ed⟩, hz⟩
theorem Inv.sq_inj {X : Cx} {pins : List (Addr × Obj)} {σ : St} {H : Hp} {s : Shared} {b : Bool} {a : Addr} {xs ys : List V} (I : Inv X pins σ H s) (h : Sq b X.K H a xs) (h' : Sq b X.K H a ys) : xs = ys := by
  cases b with
  | true => exact I.list_inj h h'
  | false => exact I.tuple_inj h h'
theorem itOf.up {b : Bool} {h h' : Heap} {it a : Addr} {i : Nat} (x : itOf b h it a i) (k : ∀ o, h.get? it = some o → h'.get? it = some o) : itOf b h' it a i := k _ x
theorem itOf.obj {b : Bool} {h : Heap} {it a : Addr} {i : Nat} (x : itOf b h it a i) : ∃ o, h.get? it = some o ∧ ∀ v, o.data ≠ .cell v := ⟨_, x, fun v z => by cases z⟩
theorem isSq.obj {b : Bool} {h : Heap} {a : Addr} {its : Array Value} (x : isSq b h a its) : ∃ o, h.get? a = some o := let ⟨o, _, e, _⟩ := x; ⟨o, e⟩
/-! ### several records have turned; an untracked object is tracked -/
section
variable {X : Cx} {pins : List (Addr × Obj)} {σ : St} {H : Hp} {s : Shared} {h' : Heap}
theorem Inv.turnedL {t' : Nat} {ch : List Addr} (I : Inv X pins σ H s) (k : ∀ b o, b ∉ ch → s.heap.get? b = some o → h'.get? b = some o) (hf : ∀ b ∈ ch, FpOk X pins H b) : Inv X pins σ H { s with heap := h', toks := t' } := by
  have nit : ∀ b u, H b = some u → b ∉ ch := fun b u e z => by rw [(hf b z).1] at e; cases e
  refine I.step (g' := s.gens) (d' := s.drawn) (ch := ch) (fun b hb => ⟨(hf b hb).2.2.2.1, (hf b hb).2.1, (hf b hb).2.2.2.2.1, (hf b hb).2.2.2.2.2⟩) (fun b o _ _ hc e _ => k b o hc e) (fun b o _ _ hc e _ => ⟨o.slots, k b o hc e⟩) (fun _ _ _ _ n => n)
    (fun b o hc e => ⟨o, k b o hc e⟩) (fun _ _ e => e) (fun _ _ _ e => e) (fun b ps e => ⟨#[], by rw [e]; simp⟩) (fun m hm => ?_) (fun b u e => ?_) I.bare
  · obtain ⟨o, es, ep, ho, r⟩ := hm
    exact ⟨o, es, ep, k _ o (fun z => (hf _ z).2.1 rfl) ho, r⟩
  · refine (I.hok b u e).stay (fun c v hc q => k c v ?_ q) (fun _ q => q) fun _ _ q => q
    rcases hc with z | z
    · rw [z]; exact nit b u e
    · exact nit c _ z
theorem Inv.track {p : Addr} {o : HO} (I : Inv X pins σ H s) (f : FpOk X pins H p) (new : ObjOk X.prog X.w (upd H p o) s.heap p o) : Inv X pins σ (upd H p o) s := by
  have hp := f.1
  refine I.step (g' := s.gens) (d' := s.drawn) (t' := s.toks) (h' := s.heap) (ch := [p]) (fun b hb => ?_) (fun b o _ _ _ e _ => e) (fun b o _ _ _ e _ => ⟨o.slots, e⟩) (fun b o hc e n => ?_)
    (fun b o _ e => ⟨o, e⟩) (fun b xs e => by rw [upd_ne (ne_of_none e hp)]; exact e) (fun b o u e => by rw [upd_ne (ne_of_none e hp)]; exact e) (fun b ps e => ⟨#[], by rw [upd_ne (ne_of_none e hp), e]; simp⟩) (fun m hm => hm) (fun b u e => ?_) I.bare
  · have e := List.mem_singleton.mp hb
    subst e
    exact ⟨f.2.2.2.1, f.2.1, f.2.2.2.2.1, f.2.2.2.2.2⟩
  · rw [upd_ne (fun z => hc (by rw [z]; exact List.mem_singleton.mpr rfl))]; exact n
  · by_cases hb : b = p
    · subst hb
      rw [upd_same] at e
      cases e
      exact new
    · rw [upd_ne hb] at e
      exact (I.hok b u e).stay (fun c v _ q => q) (fun c q => by rw [upd_ne (ne_of_none q hp)]; exact q) fun c xs q => by rw [upd_ne (ne_of_none q hp)]; exact q
end
end L2
namespace L2
open PySem PySem.Spec PyProof.Rows
set_option maxRecDepth 100000
section
variable {prog : Program} {w : World} {A : Around} {E : Value → Shared → Prop} {s : Shared}
/-- an iterator's turn by what its __next__ does -/
theorem pyNext_of {T id : String} {v : Value} {Q : Option Value → Shared → Prop} (ty : s.TypeIs v T) (sl : Slot T (Str.ofString "__next__") id)
    (h : wpAny (model prog w) A (call (.builtin id) [v]) (fun x s' => Q (some x) s') (fun e s' => ∃ c o, e = .ref c ∧ s'.heap.get? c = some o ∧ o.cls = .type "StopIteration" ∧ Q none s') s) : wpAny (model prog w) A (pyNext v) Q E s := by
  unfold pyNext
  refine wpAny_bind (wpAny_attempt (wpAny_callSpecial?_slot ty sl (wpAny_mono h (fun x s' y => wpAny_pure y) fun e s' y => ?_)))
  obtain ⟨c, o, rfl, e1, e2, y⟩ := y
  exact wpAny_bind (wpAny_isInstance (b := true) ⟨o, e1, e2⟩ isSubtype_stop (wpAny_pure y))
theorem pyIter_sq (b : Bool) {a : Addr} {its : Array Value} {Q : Value → Shared → Prop} (e : isSq b s.heap a its) (q : Q (.ref s.heap.objs.size) { s with heap := s.heap.push (itRec b a 0) }) : wpAny (model prog w) A (pyIter (.ref a)) Q E s := by
  obtain ⟨o, n, eo, ec, ed⟩ := e
  cases b
  · exact wpAny_pyIter_tuple ⟨o, eo, ec, n, ed⟩ q
  · exact wpAny_pyIter_list ⟨o, eo, ec, n, ed⟩ q
end
/-- a zip just made -/
structure ZipNew (b1 b2 : Bool) (l1 l2 : Addr) (h h' : Heap) : Prop where
  zip : IsZip h' (h.objs.size + 4) (h.objs.size + 2) (h.objs.size + 3) .none
  tin : IsPair h' (h.objs.size + 2) (.ref h.objs.size) (.ref (h.objs.size + 1))
  out : IsPair h' (h.objs.size + 3) .none .none
  one : itOf b1 h' h.objs.size l1 0
  two : itOf b2 h' (h.objs.size + 1) l2 0
  old : ∀ c o, h.get? c = some o → h'.get? c = some o
theorem isSq.up {b : Bool} {h h' : Heap} {a : Addr} {its : Array Value} (x : isSq b h a its) (k : ∀ o, h.get? a = some o → h'.get? a = some o) : isSq b h' a its := by
  obtain ⟨o, n, eo, r⟩ := x
  exact ⟨o, n, k o eo, r⟩
theorem mk_zip (b1 b2 : Bool) (l1 l2 : Addr) (xs ys : Array Value) :
    Meets (Builtin.«zip.__new__» ⟨[.type "zip", .ref l1, .ref l2], []⟩) (fun _ R s => (isSq b1 s.heap l1 xs ∧ isSq b2 s.heap l2 ys) ∧
      ∀ h', ZipNew b1 b2 l1 l2 s.heap h' → R (.ok (.ret (.ref (s.heap.objs.size + 4)))) { s with heap := h' }) :=
  .of_wp fun prog w A R s hyp => by
    obtain ⟨h, g, dr, tk, os⟩ := s
    obtain ⟨⟨q1, q2⟩, fin⟩ := hyp
    have sub := sub_zip
    have q2' : isSq b2 (Shared.mk (h.push (itRec b1 l1 0)) g dr tk os).heap l2 ys := q2.up fun o e => Heap.get?_push_of_some _ e
    wp_walk using pyIter_sq b1 q1, pyIter_sq b2 q2'
    dsimp only
    have z1 := Heap.size_push h (itRec b1 l1 0)
    generalize e1 : h.push (itRec b1 l1 0) = ha at *
    have z2 := Heap.size_push ha (itRec b2 l2 0)
    generalize e2 : ha.push (itRec b2 l2 0) = hb at *
    generalize e3 : hb.push _ = hc
    have z3 : hc.objs.size = hb.objs.size + 1 := by rw [← e3]; exact Heap.size_push ..
    generalize e4 : hc.push _ = hd
    have z4 : hd.objs.size = hc.objs.size + 1 := by rw [← e4]; exact Heap.size_push ..
    rw [z1] at z2
    rw [z2] at z3
    rw [z3] at z4
    have a1 : ha.get? h.objs.size = some (itRec b1 l1 0) := by rw [← e1]; exact Heap.get?_push_size _ rfl
    have a2 : hb.get? (h.objs.size + 1) = some (itRec b2 l2 0) := by rw [← e2, ← z1]; exact Heap.get?_push_size _ rfl
    have a3 : hc.get? (h.objs.size + 2) = some { cls := .type "tuple", data := .seq #[.ref h.objs.size, .ref (h.objs.size + 1)] } := by
      rw [← e3, ← z2, ← z1]
      exact Heap.get?_push_size _ rfl
    have a4 : hd.get? (h.objs.size + 3) = some { cls := .type "tuple", data := .seq #[.none, .none] } := by
      rw [← e4, ← z3]
      exact Heap.get?_push_size _ rfl
    have u1 : ∀ c o, h.get? c = some o → ha.get? c = some o := fun c o y => by rw [← e1]; exact Heap.get?_push_of_some _ y
    have u2 : ∀ c o, ha.get? c = some o → hb.get? c = some o := fun c o y => by rw [← e2]; exact Heap.get?_push_of_some _ y
    have u3 : ∀ c o, hb.get? c = some o → hc.get? c = some o := fun c o y => by rw [← e3]; exact Heap.get?_push_of_some _ y
    have u4 : ∀ c o, hc.get? c = some o → hd.get? c = some o := fun c o y => by rw [← e4]; exact Heap.get?_push_of_some _ y
    have u5 : ∀ (r : Obj) c o, hd.get? c = some o → (hd.push r).get? c = some o := fun r c o y => Heap.get?_push_of_some _ y
    rw [z2, z3, z4]
    refine ⟨_, rfl, fin _ ⟨?_, u5 _ _ _ (u4 _ _ a3), u5 _ _ _ a4, u5 _ _ _ (u4 _ _ (u3 _ _ (u2 _ _ a1))), u5 _ _ _ (u4 _ _ (u3 _ _ a2)), fun c o y => u5 _ _ _ (u4 _ _ (u3 _ _ (u2 _ _ (u1 _ _ y))))⟩⟩
    rw [← z4]
    exact Heap.get?_push_size _ rfl
section
variable {prog : Program} {w : World} {A : Around} {E : Value → Shared → Prop} {s : Shared}
theorem call_zip (b1 b2 : Bool) {l1 l2 : Addr} {xs ys : Array Value} {Q : Value → Shared → Prop} (q1 : isSq b1 s.heap l1 xs) (q2 : isSq b2 s.heap l2 ys)
    (q : ∀ h', ZipNew b1 b2 l1 l2 s.heap h' → Q (.ref (s.heap.objs.size + 4)) { s with heap := h' }) : wpAny (model prog w) A (call (.type "zip") [.ref l1, .ref l2]) Q E s :=
  callType_new F.called_zip (by decide) (F.typeCall_zip_2 _ _) (F.newCall_zip_2 _ _) (fun v => F.args_object_init_3 v _ _) F.entry_zip_new (mk_zip b1 b2 l1 l2 xs ys) ⟨⟨q1, q2⟩, fun h' N => ⟨⟨_, N.zip, rfl⟩, q h' N⟩⟩
end
/-! ### the turns -/
/-- a pair is handed out, a new tuple -/
noncomputable def Itz (K : PySem.W.Frag) (b1 b2 : Bool) (l1 l2 : Addr) : It :=
  ⟨fun i H => ∃ xs ys x y, Sq b1 K H l1 xs ∧ Sq b2 K H l2 ys ∧ xs[i]? = some x ∧ ys[i]? = some y,
   fun i H v H' => ∃ p x y, v = .ref p ∧ H p = none ∧ H' = upd H p (.tup [x, y]) ∧ (∀ xs, Sq b1 K H l1 xs → xs[i]? = some x) ∧ ∀ ys, Sq b2 K H l2 ys → ys[i]? = some y,
   fun i H => ∃ xs ys, Sq b1 K H l1 xs ∧ Sq b2 K H l2 ys ∧ (i = xs.length ∨ (i < xs.length ∧ i = ys.length))⟩
theorem pair_ok {P : Program} {w : World} {H : Hp} {h : Heap} {p : Addr} {x y : V} {u v : Value} (hp : IsPair h p u v) (rx : RelV x u) (ry : RelV y v) : ObjOk P w H h p (.tup [x, y]) :=
  ⟨by show 2 ≤ sizeLine; decide, [u, v], .cons rx (.cons ry .nil), _, hp, rfl, rfl, _, rfl⟩

structure ZipAt (z TI TO i1 i2 l1 l2 : Addr) : Prop where
  sep : ZipSep z TI TO i1 i2 [i1, l1] [i2, l2]
  n1 : l1 ≠ i1
  n2 : l2 ≠ i2

theorem turn_zip {P : Program} {w : World} {K : PySem.W.Frag} {es : List Expr} {kt : Nat} {pt : Pos} (b1 b2 : Bool) {z TI TO i1 i2 l1 l2 : Addr} (D : ZipAt z TI TO i1 i2 l1 l2) :
    Turn P w K (.Tuple es kt pt) (Itz K b1 b2 l1 l2) [z, TI, TO, i1, i2] z (fun i h => IsZip h z TI TO .none ∧ IsPair h TI (.ref i1) (.ref i2) ∧ (∃ a b, IsPair h TO a b) ∧ itOf b1 h i1 l1 i ∧ itOf b2 h i2 l2 i) where
  mem := by simp
  obj := fun i h st b hb => by
    obtain ⟨hz, hTI, ⟨a, c, hTO⟩, h1, h2⟩ := st
    simp only [List.mem_cons, or_false, List.not_mem_nil] at hb
    rcases hb with rfl | rfl | rfl | rfl | rfl
    · exact ⟨_, hz, fun v q => by cases q⟩
    · exact ⟨_, hTI, fun v q => by cases q⟩
    · exact ⟨_, hTO, fun v q => by cases q⟩
    · exact h1.obj
    · exact h2.obj
  keep := fun i h h' st k => by
    obtain ⟨hz, hTI, ⟨a, c, hTO⟩, h1, h2⟩ := st
    exact ⟨k z (by simp) _ hz, k TI (by simp) _ hTI, ⟨a, c, k TO (by simp) _ hTO⟩, h1.up fun o e => k i1 (by simp) o e, h2.up fun o e => k i2 (by simp) o e⟩
  item := by
    intro X hP hw hK hc i pins s σ H E I hf st hg
    subst hP hw hK
    obtain ⟨hz, hTI, ⟨ta, tb, hTO⟩, h1, h2⟩ := st
    obtain ⟨xs, ys, x, y, hq1, hq2, hx, hy⟩ := hg
    obtain ⟨is1, rv1, p1, hz1⟩ := I.sq hq1
    obtain ⟨is2, rv2, p2, hz2⟩ := I.sq hq2
    obtain ⟨u, hu, ru⟩ := rv1.get hx
    obtain ⟨v, hv, rv⟩ := rv2.get hy
    have lx : i < is1.toArray.size := by rw [List.size_toArray]; exact (List.getElem?_eq_some_iff.mp hu).1
    have ly : i < is2.toArray.size := by rw [List.size_toArray]; exact (List.getElem?_eq_some_iff.mp hv).1
    have hh : X.A.in1.handled = none := I.ok.hd hc
    have hzlt : z < s.heap.objs.size := Heap.lt_size hz
    refine pyNext_of ⟨_, hz, rfl⟩ F.slot_zip_next (wpAny_call_entry F.slot_zip_next ⟨_, hz, rfl⟩ F.entry_zip_next (zip_go (draws_sq b1 hh i1 l1 D.n1 is1.toArray) (draws_sq b2 hh i2 l2 D.n2 is2.toArray) D.sep hz hTI hTO ⟨h1, p1⟩ ⟨h2, p2⟩ lx ly fun u' v' h' tk e1 e2 a1 a2 a3 a4 a5 a6 hk => ?_) (F.args_zip_next_1 _))
    have eu : u' = u := by
      have e1' : is1.toArray[i]? = some u' := e1
      rw [List.getElem?_toArray, hu] at e1'
      exact (Option.some.inj e1').symm
    have ev : v' = v := by
      have e2' : is2.toArray[i]? = some v' := e2
      rw [List.getElem?_toArray, hv] at e2'
      exact (Option.some.inj e2').symm
    subst eu ev
    refine ⟨_, rfl, wpAny_letOwnedTupleGo_zip a1 fun h'' hz'' sb => ?_⟩
    have hk' : ∀ b o, b ∉ [z, TI, TO, i1, i2] → s.heap.get? b = some o → h''.get? b = some o := fun b o hb e => by
      have : b ≠ z ∧ b ≠ TI ∧ b ≠ TO ∧ b ≠ i1 ∧ b ≠ i2 := by simpa using hb
      exact (sb.2 b this.1).trans (hk b o this.1 this.2.2.1 this.2.2.2.1 this.2.2.2.2 e)
    have I1 : Inv X pins σ H { s with heap := h'', toks := tk } := I.turnedL hk' hf
    have hpz : s.heap.objs.size ≠ z := Nat.ne_of_gt hzlt
    have hp2 : IsPair h'' s.heap.objs.size u' v' := (sb.2 _ hpz).trans a5
    have fp : FpOk X pins H s.heap.objs.size := I.fpOk (Nat.le_refl _) (I.hok.fresh (Nat.le_refl _))
    have I2 := I1.track (o := .tup [x, y]) fp (pair_ok hp2 ru rv)
    have up : ∀ b, b ≠ z → ∀ o, h'.get? b = some o → h''.get? b = some o := fun b hb o e => (sb.2 b hb).trans e
    refine ⟨.ref s.heap.objs.size, _, I2, rfl, ⟨_, x, y, rfl, fp.1, rfl, fun xs' q => by rw [I.sq_inj q hq1]; exact hx, fun ys' q => by rw [I.sq_inj q hq2]; exact hy⟩, ⟨hz'', up _ D.sep.dTz _ (hk _ _ D.sep.dTz D.sep.dTO D.sep.dT1 D.sep.dT2 hTI), ⟨_, _, up _ D.sep.dOz _ a2⟩, a3.1.up fun o e => up _ D.sep.d1z o e, a4.1.up fun o e => up _ D.sep.d2z o e⟩, fun b hb => ?_⟩
    rw [upd_ne]
    · exact (hf b hb).1
    · obtain ⟨o, e⟩ : ∃ o, s.heap.get? b = some o := by
        simp only [List.mem_cons, or_false, List.not_mem_nil] at hb
        rcases hb with rfl | rfl | rfl | rfl | rfl
        · exact ⟨_, hz⟩
        · exact ⟨_, hTI⟩
        · exact ⟨_, hTO⟩
        · exact ⟨_, h1.obj.choose_spec.1⟩
        · exact ⟨_, h2.obj.choose_spec.1⟩
      exact Nat.ne_of_lt (Heap.lt_size e)
  done := by
    intro X hP hw hK hc i pins s σ H E I hf st hg
    subst hP hw hK
    obtain ⟨hz, hTI, ⟨ta, tb, hTO⟩, h1, h2⟩ := st
    obtain ⟨xs, ys, hq1, hq2, hx⟩ := hg
    obtain ⟨is1, rv1, p1, hz1⟩ := I.sq hq1
    obtain ⟨is2, rv2, p2, hz2⟩ := I.sq hq2
    have hh : X.A.in1.handled = none := I.ok.hd hc
    have ll1 := rv1.length
    have ll2 := rv2.length
    refine pyNext_of ⟨_, hz, rfl⟩ F.slot_zip_next (wpAny_call_entry F.slot_zip_next ⟨_, hz, rfl⟩ F.entry_zip_next (zip_end (draws_sq b1 hh i1 l1 D.n1 is1.toArray) (draws_sq b2 hh i2 l2 D.n2 is2.toArray) D.sep hz hTI hTO ⟨h1, p1⟩ ⟨h2, p2⟩ ?_ fun h' e tk hk ⟨o, e1, e2⟩ => ⟨e, o, rfl, e1, e2, ?_⟩) (F.args_zip_next_1 _))
    · rw [List.size_toArray, List.size_toArray]
      lia
    · refine ⟨rfl, I.turnedL (fun b o hb y => ?_) hf⟩
      have : b ≠ z ∧ b ≠ TI ∧ b ≠ TO ∧ b ≠ i1 ∧ b ≠ i2 := by simpa using hb
      exact hk b o this.1 this.2.2.1 this.2.2.2.1 this.2.2.2.2 y
  self := fun _ _ _ _ _ st h => wpAny_pyIter_zip st.1 h

theorem addr_ne {n : Nat} (i j : Nat) (h : i ≠ j := by decide) : @Ne Addr (n + i) (n + j) := fun z => h (Nat.add_left_cancel z)
theorem addr_gt {n : Nat} {l : Addr} (i : Nat) (h : l < n) : @Ne Addr (n + i) l := Nat.ne_of_gt (Nat.lt_of_lt_of_le h (Nat.le_add_right n i))
theorem notin2 {a b c : Addr} (h1 : a ≠ b) (h2 : a ≠ c) : a ∉ [b, c] := by simp [h1, h2]
theorem bt_zip : bootBuiltins "zip" = some (.type "zip") := by decide +kernel

section
variable {X : Cx}
noncomputable def iZip (K : PySem.W.Frag) (b1 b2 : Bool) (t : TA) : TI := fun σ H R => t σ H fun vs H1 => ∃ l1 l2, vs = [.ref l1, .ref l2] ∧ (∃ xs, Sq b1 K H1 l1 xs) ∧ (∃ ys, Sq b2 K H1 l2 ys) ∧ R (Itz K b1 b2 l1 l2) H1
theorem pi_zip (b1 b2 : Bool) {a b : Expr} {ta : TA} {p pos pt : Pos} {es : List Expr} {kt : Nat} (hg : Gl X "zip") (hm : X.mg "zip" = none) (ha : PA X [a, b] ta) (hs : starEach [a, b] X.env = [(false, eval a X.env), (false, eval b X.env)] := by rfl) (hs2 : starEach [b] X.env = [(false, eval b X.env)] := by rfl) :
    PI X (.Tuple es kt pt) (.Call (.Name "zip" p) [a, b] [] pos) (iZip X.K b1 b2 ta) := by
  intro pins s σ H R I h
  refine Call_ (ld_blt I hg hm bt_zip (PyProof.Rows.callWith_type1 (thn (ha pos pins s σ H _ I h) fun us s1 ⟨vs, H1, I1, r1, q1⟩ => ?_) (by rw [hs, hs2]) (by rw [hs2]; rfl)))
  obtain ⟨l1, l2, e, ⟨xs, hq1⟩, ⟨ys, hq2⟩, q⟩ := q1
  subst e
  cases r1 with
  | cons r rr =>
    cases rr with
    | cons r' rr =>
      cases rr
      cases r
      cases r'
      obtain ⟨is1, rv1, p1, hz1⟩ := I1.sq hq1
      obtain ⟨is2, rv2, p2, hz2⟩ := I1.sq hq2
      have a1 : l1 < s1.heap.objs.size := by obtain ⟨_, e⟩ := p1.obj; exact Heap.lt_size e
      have a2 : l2 < s1.heap.objs.size := by obtain ⟨_, e⟩ := p2.obj; exact Heap.lt_size e
      refine call_zip b1 b2 p1 p2 fun h' N => wpAny_pyIter_zip N.zip ?_
      refine ⟨_, _, _, _, H1, rfl, I1.kept (t' := s1.toks) N.old, turn_zip b1 b2 (z := s1.heap.objs.size + 4) (TI := s1.heap.objs.size + 2) (TO := s1.heap.objs.size + 3) (i1 := s1.heap.objs.size) (i2 := s1.heap.objs.size + 1) ⟨?_, Nat.ne_of_lt a1, Nat.ne_of_lt (Nat.lt_succ_of_lt a2)⟩, ⟨N.zip, N.tin, ⟨_, _, N.out⟩, N.one, N.two⟩, fun b hb => ?_, q⟩
      · exact ⟨addr_ne 2 4, addr_ne 3 4, addr_ne 0 4, addr_ne 1 4, addr_ne 2 3, addr_ne 2 0, addr_ne 2 1, addr_ne 3 0, addr_ne 3 1, addr_ne 0 1, ⟨notin2 (addr_ne 4 0) (addr_gt 4 a1), notin2 (addr_ne 4 1) (addr_gt 4 a2)⟩,
          ⟨notin2 (addr_ne 3 0) (addr_gt 3 a1), notin2 (addr_ne 3 1) (addr_gt 3 a2)⟩, notin2 (addr_ne 1 0) (addr_gt 1 a1), notin2 (addr_ne 0 1) (addr_gt 0 a2)⟩
      · have hb' : s1.heap.objs.size ≤ b := by
          simp only [List.mem_cons, or_false, List.not_mem_nil] at hb
          rcases hb with rfl | rfl | rfl | rfl | rfl
          · exact Nat.le_add_right _ 4
          · exact Nat.le_add_right _ 2
          · exact Nat.le_add_right _ 3
          · exact Nat.le_refl _
          · exact Nat.le_add_right _ 1
        exact I1.fpOk hb' (I1.hok.fresh hb')
end
end L2
namespace L2
open PySem PySem.Spec PyProof.Rows
set_option maxRecDepth 100000

theorem Same.sq {K : PySem.W.Frag} {H H' : Hp} {a : Addr} {xs : List V} {b : Bool} (e : Same H H') (h : Sq b K H a xs) : Sq b K H' a xs := by
  cases b with
  | true => exact e.seq h
  | false =>
    rcases h with h | h
    · refine .inl ?_
      rcases h with h | ⟨o, h⟩
      · exact .inl (e _ _ h)
      · exact .inr ⟨o, e _ _ h⟩
    · exact .inr h
theorem Same.seqT {K : PySem.W.Frag} {H H' : Hp} {a : Addr} {xs : List V} (e : Same H H') (h : SqT K H a xs) : SqT K H' a xs := e.sq (b := false) h
theorem Same.upd {H : Hp} {p : Addr} {o : HO} (h : H p = none) : Same H (upd H p o) := fun b u e => by rw [upd_ne (ne_of_none e h)]; exact e

/-! ### t * n, t + u, t[a:b] of tuples: a tuple with these items, new or not -/
noncomputable def AnyT (K : PySem.W.Frag) (H : Hp) (xs : List V) (Q : VK) : Prop := ∀ p H', Same H H' → SqT K H' p xs → Q (.ref p) H'
theorem AnyT.old {K : PySem.W.Frag} {H : Hp} {xs : List V} {Q : VK} {p : Addr} (h : AnyT K H xs Q) (q : SqT K H p xs) : Q (.ref p) H := h p H (.refl H) q
theorem AnyT.new {K : PySem.W.Frag} {H : Hp} {xs : List V} {Q : VK} {p : Addr} (h : AnyT K H xs Q) (n : H p = none) : Q (.ref p) (upd H p (.tup xs)) := h p _ (.upd n) (.of upd_same)

/-! ### list(range(..)) -/
section
variable {X : Cx}
/-! ### sum(a list of ints) -/
/-! ### isinstance(x, T) of a builtin T -/
theorem call_isinst {T : String} : CallR X (.builtin "isinstance") (fun xs H Q => ∃ x t b, xs = [x, .ty T] ∧ TyOf X.K H x t ∧ PySem.W.kitOne X.K t (.type T) = some b ∧ Q (.bl b) H) := by
  intro pins s σ H vs us Q I r h
  obtain ⟨x, t, b, rfl, ty, e, q⟩ := h
  obtain ⟨u, v, rfl, ru, rv⟩ := vals2 r
  cases rv
  exact isinst_ok I ru ty e fun tk => ⟨.bl b, H, I.tok tk, rfl, q⟩
end

/-! ### what a value is, to its end -/
mutual
inductive HasD (K : PySem.W.Frag) (H : Hp) : V → PySem.W.Dat → Prop
  | none : HasD K H .non .none
  | bool (b : Bool) : HasD K H (.bl b) (.bool b)
  | int (i : Int) : HasD K H (.int i) (.int i)
  | str (x : Str) : HasD K H (.str x) (.str x)
  | tuple {a : Addr} {xs : List V} {ds : List PySem.W.Dat} : SqT K H a xs → HasA K H xs ds → HasD K H (.ref a) (.tuple ds)
  | list {a : Addr} {xs : List V} {ds : List PySem.W.Dat} : SqL K H a xs → HasA K H xs ds → HasD K H (.ref a) (.list ds)
inductive HasA (K : PySem.W.Frag) (H : Hp) : List V → List PySem.W.Dat → Prop
  | nil : HasA K H [] []
  | cons {v : V} {vs : List V} {d : PySem.W.Dat} {ds : List PySem.W.Dat} : HasD K H v d → HasA K H vs ds → HasA K H (v :: vs) (d :: ds)
end
mutual
theorem HasD.reads {X : Cx} {pins : List (Addr × Obj)} {σ : St} {H : Hp} {s : Shared} (I : Inv X pins σ H s) : ∀ {v : V} {d : PySem.W.Dat} {u : Value}, HasD X.K H v d → RelV v u → ∃ as, Reads s.heap u (PySem.W.kqdP d) as
  | _, _, u, .none, r => by cases (show u = Value.none from r); exact ⟨_, .none⟩
  | _, _, u, .bool b, r => by cases (show u = Value.bool b from r); exact ⟨_, .bool b⟩
  | _, _, u, .int i, r => by obtain ⟨t, rfl⟩ := r; exact ⟨_, .int i t⟩
  | _, _, u, .str x, r => by obtain ⟨t, rfl⟩ := r; exact ⟨_, .str x t⟩
  | _, _, u, .tuple (a := a) h q, r => by
    cases (show u = Value.ref a from r)
    obtain ⟨its, rv, ⟨o, ho, hc, n, hd⟩, _⟩ := I.tuple h
    obtain ⟨as, z⟩ := HasA.reads I q rv
    rw [PySem.W.kqdP]
    exact ⟨as, .tuple ho hc hd (by simpa using z)⟩
  | _, _, u, .list (a := a) h q, r => by
    cases (show u = Value.ref a from r)
    obtain ⟨its, rv, p, _⟩ := I.list h
    obtain ⟨o, ho, hc, n, hd⟩ := p.isList
    obtain ⟨as, z⟩ := HasA.reads I q rv
    rw [PySem.W.kqdP]
    exact ⟨_, .list ho hc hd (by simpa using z)⟩
theorem HasA.reads {X : Cx} {pins : List (Addr × Obj)} {σ : St} {H : Hp} {s : Shared} (I : Inv X pins σ H s) : ∀ {vs : List V} {ds : List PySem.W.Dat} {us : List Value}, HasA X.K H vs ds → Vals vs us → ∃ as, ReadsAll s.heap us (PySem.W.kqdPs ds) as
  | _, _, _, .nil, .nil => ⟨_, .nil⟩
  | _, _, _, .cons h q, .cons r rr => by
    obtain ⟨as, z⟩ := HasD.reads I h r
    obtain ⟨bs, y⟩ := HasA.reads I q rr
    rw [PySem.W.kqdPs]
    exact ⟨_, .cons z y⟩
end
section
variable {X : Cx}
open Classical in
noncomputable def rEqD (K : PySem.W.Frag) (neg : Bool) : R2 := fun x y H Q => ∃ d e, HasD K H x d ∧ HasD K H y e ∧ PySem.W.kqdOk 8 d = true ∧ PySem.W.kqdOk 8 e = true ∧ Q (.bl (if neg then !decide (d = e) else decide (d = e))) H
open Classical in
theorem eqv_dec {d e : PySem.W.Dat} (hd : PySem.W.kqdOk 8 d = true) (he : PySem.W.kqdOk 8 e = true) : PyData.eqv (PySem.W.kqdP d) (PySem.W.kqdP e) = decide (d = e) := by
  exact Bool.eq_iff_iff.mpr ((PySem.W.kqd_eqv 8 d e 8 hd he).trans decide_eq_true_iff.symm)
theorem shaped_of {d : PySem.W.Dat} (hd : PySem.W.kqdOk 8 d = true) : SeqAt.shaped (PySem.W.kqdP d) = true := by
  have l := PySem.W.kqd_lay 8 d hd
  unfold SeqAt.shaped
  rw [l.1, Bool.true_and]
  exact decide_eq_true (Nat.le_trans l.2 (by decide))
theorem op_eqD (hu : X.A.units + 64 < cLine) : OpR X (compareOp .Eq) (rEqD X.K false) := by
  intro pins s σ H x y v u Q I rx ry h
  obtain ⟨d, e, hx, hy, hd, he, q⟩ := h
  obtain ⟨as, ra⟩ := hx.reads I rx
  obtain ⟨bs, rb⟩ := hy.reads I ry
  refine eq_dataH ra rb (shaped_of hd) (shaped_of he) hu ?_
  rw [eqv_dec hd he]
  exact ⟨.bl _, H, I, rfl, q⟩
end

/-! ### data of ints -/
end L2
namespace L2
open PySem PySem.Spec PyProof.Rows
set_option maxRecDepth 100000

end L2
namespace L2
open PySem PySem.Spec PyProof.Rows

/-! ### the block's scope, checked -/
noncomputable def blkCheck (oN : List Str) (osc : Scope) (N : List Str) (own : Nat) (caps : List Nat) (scope : Scope) : Bool :=
  decide (scope.kind = .function) && decide N.Nodup && decide (scope.names.map (·.1)).Nodup &&
  scope.names.all (fun x => x.2 != .free || (decide (osc.names.lookup x.1 = some .cell) || decide (osc.names.lookup x.1 = some .free))) &&
  decide (N.length = own + caps.length) && decide (caps.map (fun i => oN[i]?) = (N.drop own).map some) && (N.drop own).all (fun x => decide (scope.names.lookup x = some .free))
theorem BlkScope.mk' {oN : List Str} {osc : Scope} {N : List Str} {own : Nat} {caps : List Nat} {scope : Scope} (h : blkCheck oN osc N own caps scope = true) : BlkScope oN osc N own caps scope := by
  unfold blkCheck at h
  simp only [Bool.and_eq_true, decide_eq_true_eq, List.all_eq_true, Bool.or_eq_true, bne_iff_ne, ne_eq] at h
  obtain ⟨⟨⟨⟨⟨⟨h1, h2⟩, h3⟩, h4⟩, h5⟩, h6⟩, h7⟩ := h
  exact ⟨h1, h2, h3, fun x hx hk => (h4 x hx).elim (fun z => absurd hk z) id, h5, h6, h7⟩

/-! ### comprehensions, in the forms one uses: the heap grows, the captured names cp stay -/
/-- behind a turn with n own names -/
noncomputable def CpN (n : Nat) (cp : St) (H1 : Hp) (P : Hp → List V → Prop) : St → Hp → List V → Prop := fun σ H zs => (∃ o : St, o.length = n ∧ σ = o ++ cp) ∧ Same H1 H ∧ P H zs
section
variable {K : PySem.W.Frag} {H1 : Hp} {cp : St} {g : TG} {tt : TT} {te : TE} {Q : VK} {xs ys : List V} {l1 l2 a : Addr} {b1 b2 b : Bool} {n own : Nat} {J : It}
/-- any iterator that goes n turns over whatever grows out of H1 -/
theorem comp_any (Pv : Nat → Hp → List V → Prop) (hn : n ≤ sizeLine) (h0 : Pv 0 H1 []) (hlen : ∀ i H zs, Pv i H zs → zs.length ≤ i)
    (hgo : ∀ i H, Same H1 H → i < n → J.go i H) (hstop : ∀ H, Same H1 H → J.stop n H)
    (step : ∀ i o H zs, i < n → o.length = own → Same H1 H → Pv i H zs → ∀ x H2, J.yld i H x H2 → g x (o ++ cp) H2 fun σ3 H3 => tt σ3 H3 fun c H4 => if c = true then te σ3 H4 fun v H5 => CpN own cp H1 (Pv (i + 1)) σ3 H5 (zs ++ [v]) else CpN own cp H1 (Pv (i + 1)) σ3 H4 zs)
    (done : ∀ H zs, Same H1 H → Pv n H zs → ∀ p, H p = none → Q (.ref p) (upd H p (.lst zs))) :
    ∃ W : Nat → Nat → St → Hp → List V → Prop, (∃ m, W 0 m (List.replicate own none ++ cp) H1 []) ∧ CompW J g tt te Q W := by
  refine ⟨fun i m σ H zs => m = n - i ∧ i ≤ n ∧ CpN own cp H1 (Pv i) σ H zs, ⟨n, by simp, Nat.zero_le _, ⟨_, by simp, rfl⟩, .refl _, h0⟩, ?_⟩
  rintro i m σ H zs ⟨rfl, hi, ⟨o, ho, rfl⟩, sm, pv⟩
  have hl := hlen _ _ _ pv
  by_cases hlt : i < n
  · exact .inr ⟨hgo i H sm hlt, by lia, CpN own cp H1 (Pv (i + 1)), fun σ2 H2 zs2 q => ⟨n - (i + 1), by lia, rfl, hlt, q⟩, step i o H zs hlt ho sm pv⟩
  · have e : i = n := by lia
    subst e
    exact .inl ⟨hstop H sm, by lia, done H zs sm pv⟩
theorem one_of {o : St} (h : o.length = 1) : ∃ x, o = [x] := by
  match o, h with
  | [x], _ => exact ⟨x, rfl⟩
theorem two_of {o : St} (h : o.length = 2) : ∃ x y, o = [x, y] := by
  match o, h with
  | [x, y], _ => exact ⟨x, y, rfl⟩
/-- .. for x in a list or tuple -/
theorem comp_list (Pv : Nat → Hp → List V → Prop) (hq : SqL K H1 a xs) (hz : xs.length ≤ sizeLine) (h0 : Pv 0 H1 []) (hlen : ∀ i H zs, Pv i H zs → zs.length ≤ i)
    (step : ∀ i x H zs, xs[i]? = some x → Same H1 H → Pv i H zs → tt (some x :: cp) H fun c H4 => if c = true then te (some x :: cp) H4 fun v H5 => CpN 1 cp H1 (Pv (i + 1)) (some x :: cp) H5 (zs ++ [v]) else CpN 1 cp H1 (Pv (i + 1)) (some x :: cp) H4 zs)
    (done : ∀ H zs, Same H1 H → Pv xs.length H zs → ∀ p, H p = none → Q (.ref p) (upd H p (.lst zs))) :
    ∃ W : Nat → Nat → St → Hp → List V → Prop, (∃ m, W 0 m (List.replicate 1 none ++ cp) H1 []) ∧ CompW (Itl K a) (gName 0) tt te Q W := by
  refine comp_any (n := xs.length) Pv hz h0 hlen (fun i H sm hi => ⟨xs, xs[i], sm.seq hq, by simp [hi]⟩) (fun H sm => ⟨xs, sm.seq hq, Nat.le_refl _⟩) (fun i o H zs hi ho sm pv x H2 y => ?_) done
  obtain ⟨w, rfl⟩ := one_of ho
  obtain ⟨rfl, y⟩ := y
  exact step i x _ zs (y xs (sm.seq hq)) sm pv
/-- .. for k in range(..) -/
theorem comp_rng {lo : Int} (Pv : Nat → Hp → List V → Prop) (hz : n ≤ sizeLine) (h0 : Pv 0 H1 []) (hlen : ∀ i H zs, Pv i H zs → zs.length ≤ i)
    (step : ∀ i H zs, i < n → Same H1 H → Pv i H zs → tt (some (.int (lo + (i : Nat))) :: cp) H fun c H4 => if c = true then te (some (.int (lo + (i : Nat))) :: cp) H4 fun v H5 => CpN 1 cp H1 (Pv (i + 1)) (some (.int (lo + (i : Nat))) :: cp) H5 (zs ++ [v]) else CpN 1 cp H1 (Pv (i + 1)) (some (.int (lo + (i : Nat))) :: cp) H4 zs)
    (done : ∀ H zs, Same H1 H → Pv n H zs → ∀ p, H p = none → Q (.ref p) (upd H p (.lst zs))) :
    ∃ W : Nat → Nat → St → Hp → List V → Prop, (∃ m, W 0 m (List.replicate 1 none ++ cp) H1 []) ∧ CompW (Itr lo n) (gName 0) tt te Q W := by
  refine comp_any (n := n) Pv hz h0 hlen (fun i H sm hi => hi) (fun H sm => Nat.le_refl _) (fun i o H zs hi ho sm pv x H2 y => ?_) done
  obtain ⟨w, rfl⟩ := one_of ho
  obtain ⟨rfl, rfl⟩ := y
  exact step i _ zs hi sm pv
/-- two names out of a pair -/
noncomputable abbrev gPair (K : PySem.W.Frag) (i j : Nat) : TG := gTup K 2 (gCons (gName i) (gCons (gName j) gNil))
theorem gPair_at {p : Addr} {x y : V} {i j : Nat} {σ : St} {H : Hp} {R : St → Hp → Prop} (h : SqT K H p [x, y]) (q : R ((σ.set i (some x)).set j (some y)) H) : gPair K i j (.ref p) σ H R :=
  ⟨p, [x, y], rfl, h, rfl, x, [y], rfl, y, [], rfl, rfl, q⟩
theorem comp_zip (Pv : Nat → Hp → List V → Prop) (hq1 : Sq b1 K H1 l1 xs) (hq2 : Sq b2 K H1 l2 ys) (hl : xs.length = ys.length) (hz : xs.length ≤ sizeLine) (h0 : Pv 0 H1 []) (hlen : ∀ i H zs, Pv i H zs → zs.length ≤ i) (mono : ∀ i H H' zs, Same H H' → Pv i H zs → Pv i H' zs)
    (step : ∀ i x y H zs, xs[i]? = some x → ys[i]? = some y → Same H1 H → Pv i H zs → tt (some x :: some y :: cp) H fun c H4 => if c = true then te (some x :: some y :: cp) H4 fun v H5 => CpN 2 cp H1 (Pv (i + 1)) (some x :: some y :: cp) H5 (zs ++ [v]) else CpN 2 cp H1 (Pv (i + 1)) (some x :: some y :: cp) H4 zs)
    (done : ∀ H zs, Same H1 H → Pv xs.length H zs → ∀ p, H p = none → Q (.ref p) (upd H p (.lst zs))) :
    ∃ W : Nat → Nat → St → Hp → List V → Prop, (∃ m, W 0 m (List.replicate 2 none ++ cp) H1 []) ∧ CompW (Itz K b1 b2 l1 l2) (gPair K 0 1) tt te Q W := by
  refine comp_any (n := xs.length) Pv hz h0 hlen (fun i H sm hi => ⟨xs, ys, xs[i], ys[i], sm.sq hq1, sm.sq hq2, by simp [hi], by simp [hl ▸ hi]⟩) (fun H sm => ⟨xs, ys, sm.sq hq1, sm.sq hq2, .inl rfl⟩) (fun i o H zs hi ho sm pv v H2 yl => ?_) done
  obtain ⟨w1, w2, rfl⟩ := two_of ho
  obtain ⟨p, x, y, rfl, hp, rfl, hx, hy⟩ := yl
  refine gPair_at (.of upd_same) ?_
  have s2 : Same H (upd H p (.tup [x, y])) := .upd hp
  exact step i x y _ zs (hx xs (sm.sq hq1)) (hy ys (sm.sq hq2)) (sm.trans s2) (mono _ _ _ _ s2 pv)
end

/-! ### for over zip, enumerate -/
section
variable {K : PySem.W.Frag} {a l1 l2 : Addr} {xs ys : List V} {b b1 b2 : Bool} {tb : TS} {D : Ends} {σ : St} {H : Hp} {i j : Nat}
end
end L2
namespace L2
open PySem PySem.Spec PyProof.Rows
/-! ### isinstance of what is read -/
theorem kit_int_int (K : PySem.W.Frag) : PySem.W.kitOne K (.type "int") (.type "int") = some true := by kernel_rfl
theorem kit_tuple_tuple (K : PySem.W.Frag) : PySem.W.kitOne K (.type "tuple") (.type "tuple") = some true := by kernel_rfl
theorem kit_str_int (K : PySem.W.Frag) : PySem.W.kitOne K (.type "str") (.type "int") = some false := by kernel_rfl
section
variable {X : Cx}
theorem call_isinstT {T : String} : CallR X (.builtin "isinstance") (fun xs H Q => ∃ a ys b, xs = [.ref a, .ty T] ∧ SqT X.K H a ys ∧ PySem.W.kitOne X.K (.type "tuple") (.type T) = some b ∧ Q (.bl b) H) := by
  intro pins s σ H vs us Q I r h
  obtain ⟨a, ys, b, rfl, hq, e, q⟩ := h
  obtain ⟨u, v, rfl, ru, rv⟩ := vals2 r
  cases ru
  cases rv
  obtain ⟨its, rr, ⟨o, h1, h2, _⟩, _⟩ := I.tuple hq
  exact PySem.W.kia_one PySem.W.kitx_tuple I.kIn ⟨o, h1, h2⟩ e (fun z => nomatch z) fun tk => ⟨.bl b, H, I.tok tk, rfl, q⟩
end
/-! ### values -/
theorem relTy (n : String) : RelV (.ty n) (.type n) := rfl
/-- a name of a builtin type as a value -/
theorem pe_ty {X : Cx} {x : Str} {T : String} {pos : Pos} (hg : Gl X x) (hm : X.mg x = none) (hv : bootBuiltins x = some (.type T)) (hn : x ≠ "__name__" := by decide) (hd : (x == ("__debug__" : Str)) = false := by decide) : PE X (.Name x pos) (tC (.ty T)) := pe_bltn hg hm hv (relTy T) hn hd
end L2
namespace L2
open PySem PySem.Spec PyProof.Rows
/-! ### a display of written ints -/
noncomputable def constInts : List Expr → Option (List Int)
  | [] => some []
  | .Constant (.int i) _ _ :: es => (constInts es).map (i :: ·)
  | _ => none
theorem pa_ints {X : Cx} : ∀ (es : List Expr) (ns : List Int), constInts es = some ns → PA X es (fun _ H Q => Q (ns.map V.int) H)
  | [], ns, h => by
    cases h
    exact pa_nil
  | .Constant (.int i) j pos :: es, ns, h => by
    unfold constInts at h
    cases e : constInts es with
    | none => rw [e] at h; cases h
    | some ms =>
      rw [e] at h
      have h' : i :: ms = ns := Option.some.inj h
      subst h'
      exact pa_cons pe_int (pa_ints es ms e) rfl
  | .Constant .none _ _ :: _, _, h => by cases h
  | .Constant (.bool _) _ _ :: _, _, h => by cases h
  | .Constant (.str _) _ _ :: _, _, h => by cases h
  | .Constant (.bytes _) _ _ :: _, _, h => by cases h
  | .Constant .ellipsis _ _ :: _, _, h => by cases h
  | .Name .. :: _, _, h => by cases h
/-- a fresh object is written again -/
theorem Same.write {H H' : Hp} {l : Addr} {o : HO} (sm : Same H H') (h : H l = none) : Same H (L2.upd H' l o) := fun b u e => by rw [upd_ne (ne_of_none e h)]; exact sm b u e
end L2

namespace L2
open PySem PySem.Spec PyProof.Rows
end L2

namespace L2
end L2
namespace L2
open PySem PySem.Spec PyProof.Rows
/-! ### the rules that name the written part, with it named: for a comprehension's block -/
section
variable {X : Cx} (K : PySem.W.Frag) (hK : X.K = K)
include hK
theorem ixL : IxR X (rIxL K) := hK ▸ ix_list
theorem ixT : IxR X (rIxT K) := hK ▸ ix_tup
theorem slL : SlR X (rSlL K) := hK ▸ sl_list
theorem cLen : CallR X (.builtin "len") (fun xs H Q => ∃ p ys, xs = [.ref p] ∧ (SqL K H p ys ∨ SqT K H p ys) ∧ Q (.int ys.length) H) := hK ▸ call_len_seq
theorem cTuple : CallR X (.type "tuple") (fun xs H Q => ∃ p ys, xs = [.ref p] ∧ ((SqL K H p ys ∧ ∀ l, H l = none → Q (.ref l) (upd H l (.tup ys))) ∨ (SqT K H p ys ∧ Q (.ref p) H))) := hK ▸ call_tuple_of
theorem cIsT {T : String} : CallR X (.builtin "isinstance") (fun xs H Q => ∃ a ys b, xs = [.ref a, .ty T] ∧ SqT K H a ys ∧ PySem.W.kitOne K (.type "tuple") (.type T) = some b ∧ Q (.bl b) H) := hK ▸ call_isinstT
theorem opEqD (hu : X.A.units + 64 < cLine) : OpR X (compareOp .Eq) (rEqD K false) := hK ▸ op_eqD hu
theorem opIn : OpR X (compareOp .In) (rIn K false) := hK ▸ op_in_seq
theorem opNotIn : OpR X (compareOp .NotIn) (rIn K true) := hK ▸ op_notIn_seq
theorem piList {tg l : Expr} {tl : TE} (hl : PE X l tl) : PI X tg l (iList K tl) := hK ▸ pi_list hl
theorem piTup {tg l : Expr} {tl : TE} (hl : PE X l tl) : PI X tg l (iTup K tl) := hK ▸ pi_tup hl
theorem piZip (b1 b2 : Bool) {a b : Expr} {ta : TA} {p pos pt : Pos} {es : List Expr} {kt : Nat} (hg : Gl X "zip") (hm : X.mg "zip" = none) (ha : PA X [a, b] ta) (hs : starEach [a, b] X.env = [(false, eval a X.env), (false, eval b X.env)] := by rfl) (hs2 : starEach [b] X.env = [(false, eval b X.env)] := by rfl) :
    PI X (.Tuple es kt pt) (.Call (.Name "zip" p) [a, b] [] pos) (iZip K b1 b2 ta) := hK ▸ pi_zip b1 b2 hg hm ha hs hs2
theorem pgTup {es : List Expr} {k : Nat} {t : TGs} {n : Nat} {pos : Pos} (hc : X.calm = true) (h : PGs X es t)
    (hn : (assignEach es X.env).length = n := by rfl) (hst : (assignEach es X.env).findIdx? (·.1) = none := by rfl) : PG X (.Tuple es k pos) (gTup K n t) := hK ▸ pg_tup hc h hn hst
end
theorem bt_tuple : bootBuiltins "tuple" = some (.type "tuple") := by decide +kernel
theorem bt_int : bootBuiltins "int" = some (.type "int") := by decide +kernel
theorem bt_str : bootBuiltins "str" = some (.type "str") := by decide +kernel
theorem bt_isinstance : bootBuiltins "isinstance" = some (.builtin "isinstance") := by decide +kernel
theorem bt_len : bootBuiltins "len" = some (.builtin "len") := by decide +kernel
end L2
namespace L2
end L2

namespace L2
open PySem
/-- a display of written ints, behind a wall (so that nobody runs it) -/
structure PAI (X : Cx) (es : List Expr) (ns : List Int) : Prop where
  get : PA X es (fun _ H Q => Q (ns.map V.int) H)
theorem pai {X : Cx} {es : List Expr} {ns : List Int} (h : constInts es = some ns) : PAI X es ns := ⟨pa_ints es ns h⟩
noncomputable def tInts (ns : List Int) : TE := tLst (fun _ H Q => Q (ns.map V.int) H)
theorem pe_ints {X : Cx} {es : List Expr} {ns : List Int} {pos : Pos} (h : PAI X es ns) : PE X (.List es pos) (tInts ns) := pe_lst h.get
end L2
namespace L2
open PySem PySem.Spec PyProof.Rows
set_option maxRecDepth 100000
/-! ### a, b = a list -/
section
variable {X : Cx} {pos : Pos}
noncomputable def gLst (K : PySem.W.Frag) (n : Nat) (t : TGs) : TG := fun v σ H Q => ∃ a xs, v = .ref a ∧ SqL K H a xs ∧ xs.length = n ∧ t xs σ H Q
theorem pg_lst {es : List Expr} {k n : Nat} {t : TGs} (hc : X.calm = true) (h : PGs X es t) (hn : (assignEach es X.env).length = n := by rfl) (hst : (assignEach es X.env).findIdx? (·.1) = none := by rfl) : PG X (.Tuple es k pos) (gLst X.K n t) := by
  rintro pins s σ H v u Q I r ⟨a, xs, rfl, hq, hl, hw⟩
  cases r
  obtain ⟨its, rv, pl, _⟩ := I.list hq
  have sz : its.toArray.size = n := by rw [List.size_toArray, ← rv.length, hl]
  rw [assign_Tuple]
  refine wpAny_bind (wpAny_standAt ?_)
  unfold unpack
  rw [hst, hn, ← sz]
  refine wpAny_bind (wpAny_holding (PySem.W.kun_itemsOf (I.ok.hd hc) pl.isList fun h' ex => ?_))
  exact h pins _ σ H xs _ Q (I.kept (t' := s.toks) fun b o e => ex b o (Nat.ne_of_lt (Heap.lt_size e)) e) (by simpa using rv) hw
end
/-! ### range(0, j, 2) -/
end L2
namespace L2
open PySem PySem.Spec PyProof.Rows
set_option maxRecDepth 100000
/-! ### t + u of any two tuples -/
theorem add_none (l b : Addr) (its its2 : Array Value) (n n2 : Nat) (dd dd2 : Option Addr) (sl sl2 : Array (Option Value)) (he : its.isEmpty = true) :
    Meets (Builtin.«tuple.__add__» ⟨[.ref l, .ref b], []⟩) (fun _ R s => s.heap.get? l = some { cls := .type "tuple", dict := dd, data := .seq its n, slots := sl } ∧ s.heap.get? b = some { cls := .type "tuple", dict := dd2, data := .seq its2 n2, slots := sl2 } ∧ R (.ok (.ret (.ref b))) s) :=
  .of_wp fun _ _ _ _ s h => by
    obtain ⟨hpA, gA, dA, tkA, osA⟩ := s
    have at0 := h.1
    have at1 := h.2.1
    have f2 := AutoSeq1.sub_tuple_tuple
    wp_walk using AutoSeq1.wpAny_loadPart' at0, AutoSeq1.wpAny_loadPart' at1
    exact ⟨_, rfl, h.2.2⟩
noncomputable def rCatA (K : PySem.W.Frag) : R2 := fun x y H Q => ∃ a b xs ys, x = .ref a ∧ y = .ref b ∧ SqT K H a xs ∧ SqT K H b ys ∧ xs.length + ys.length ≤ sizeLine ∧ AnyT K H (xs ++ ys) Q
theorem op_catA {X : Cx} : OpR X (binaryOp .Add) (rCatA X.K) := by
  rintro pins s σ H x y v u Q I rx ry ⟨a, b, xs, ys, rfl, rfl, ha, hb, hz, q⟩
  by_cases hx : xs = []
  · subst hx
    cases rx
    cases ry
    obtain ⟨its, r1, ⟨⟨c1, d1, t1, s1⟩, o1, e1, n1, f1⟩, _⟩ := I.tuple ha
    obtain ⟨its2, r2, ⟨⟨c2, d2, t2, s2⟩, o2, e2, n2, f2⟩, _⟩ := I.tuple hb
    simp only at e1 f1 e2 f2
    subst e1 f1 e2 f2
    cases r1
    refine concat_meets ⟨_, o1, rfl⟩ ⟨_, o2, rfl⟩ noFill_tuple_add seq_tuple_add PySem.F.slot_tuple_add PySem.F.entry_tuple_add (PySem.F.args_tuple_add_2 _ _) (add_none a b _ _ _ _ d1 d2 s1 s2 rfl) ⟨o1, o2, ?_⟩
    exact ⟨.ref b, H, I, rfl, q.old hb⟩
  · refine op_catT pins s σ H _ _ v u Q I rx ry ⟨a, b, xs, ys, rfl, rfl, ha, hb, hx, hz, fun hy => ?_, fun _ p hp => q.new hp⟩
    subst hy
    exact q.old (by rw [List.append_nil]; exact ha)
theorem opCatA {X : Cx} (K : PySem.W.Frag) (hK : X.K = K) : OpR X (binaryOp .Add) (rCatA K) := hK ▸ op_catA
end L2
namespace L2
open PySem PySem.Spec PyProof.Rows
set_option maxRecDepth 100000
/-! ### all(a list of truths), any(..) -/
theorem bools_as : ∀ {bs : List Bool} {its : List Value}, Vals (bs.map V.bl) its → its = bs.map Value.bool
  | [], _, .nil => rfl
  | b :: bs, _, .cons r rr => by
    cases r
    rw [bools_as rr]; rfl
theorem rng_map (d : Bool) (bs : List Bool) : (List.range bs.length).map (fun i => (bs[i]?).getD d) = bs := by
  apply List.ext_getElem
  · simp
  · intro i h1 h2
    simp [List.getElem?_eq_getElem h2]
theorem rng_all (bs : List Bool) : ((List.range bs.length).all fun i => (bs[i]?).getD true) = bs.all id := by
  have e := congrArg (fun l => List.all l id) (rng_map true bs)
  rw [← e]
  simp only [List.all_map]; rfl
section
variable {X : Cx}
theorem call_all (hc : X.calm = true) : CallR X (.builtin "all") (fun xs H Q => ∃ p bs, xs = [.ref p] ∧ SqL X.K H p (List.map V.bl bs) ∧ Q (.bl (bs.all id)) H) := by
  intro pins s σ H vs us Q I r h
  obtain ⟨p, bs, rfl, hq, q⟩ := h
  obtain ⟨u, rfl, ru⟩ := vals1 r
  cases ru
  obtain ⟨its, rv, pl, hz⟩ := I.list hq
  have e := bools_as rv
  subst e
  have hl := pl.isList
  have hlt : p < s.heap.objs.size := by obtain ⟨_, e, _⟩ := hl; exact Heap.lt_size e
  apply call_all_walk
  apply wpAny_pyIter_list hl
  refine ⟨s.heap.objs.size, [s.heap.objs.size, p], [s.heap.objs.size], (bs.map Value.bool).toArray.size, _, _, fun i => (bs[i]?).getD true, rfl, Walks.list (A := X.A.in1) (I.ok.hd hc) _ p (Nat.ne_of_lt hlt) (bs.map Value.bool).toArray,
    ⟨⟨_, Heap.get?_push_size _ rfl, rfl, rfl⟩, hl.push _⟩, fun i v s1 Q1 E1 hP hQ => ?_, fun h1 tk1 hk => ?_⟩
  · have hP : (bs.map Value.bool)[i]? = some v := by simpa using hP
    rw [List.getElem?_map] at hP
    cases e : bs[i]? with
    | none => rw [e] at hP; cases hP
    | some b =>
      rw [e] at hP
      cases hP
      dsimp only at hQ
      rw [e, Option.getD_some] at hQ
      exact wpAny_truthy_bool hQ
  · have e : ((List.range (bs.map Value.bool).toArray.size).all fun i => (bs[i]?).getD true) = bs.all id := by
      rw [List.size_toArray, List.length_map]; exact rng_all bs
    rw [e]
    refine ⟨.bl _, H, I.kept (fun b x e => hk b x (fun hm => by rw [List.mem_singleton.mp hm] at e; exact Nat.lt_irrefl _ (Heap.lt_size e)) (Heap.get?_push_of_some _ e)), rfl, q⟩
theorem cAll (K : PySem.W.Frag) (hK : X.K = K) (hc : X.calm = true) : CallR X (.builtin "all") (fun xs H Q => ∃ p bs, xs = [.ref p] ∧ SqL K H p (List.map V.bl bs) ∧ Q (.bl (bs.all id)) H) := hK ▸ call_all hc
theorem bt_all : bootBuiltins "all" = some (.builtin "all") := by decide +kernel
end
end L2
/-! THE MATHEMATICS of rows of numbers (plain Lean). -/
namespace Bw
noncomputable def primesL : List Int := [2, 3, 5, 7, 11, 13, 17, 19, 23, 29, 31, 37, 41, 43, 47, 53, 59, 61, 67, 71, 73, 79, 83, 89, 97]
theorem prime_pos : ∀ p ∈ primesL, 2 ≤ p ∧ p ≤ 97 := by decide +kernel
end Bw
/-! THE MATHEMATICS 2: spans over a prime, echelons (plain Lean). -/
namespace Bw
noncomputable abbrev Fn := Nat → Int
noncomputable def eqm (p : Int) (u v : Fn) : Prop := ∀ j, p ∣ u j - v j
/-- what vectors span -/
inductive Sp (p : Int) (R : Fn → Prop) : Fn → Prop
  | zero : Sp p R (fun _ => 0)
  | add {v r : Fn} (c : Int) : Sp p R v → R r → Sp p R (fun j => v j + c * r j)
  | cong {u v : Fn} : Sp p R v → eqm p v u → Sp p R u
section
variable {p : Int} {R R' : Fn → Prop}
end
/-- a row as a vector -/
noncomputable def fn (r : List Int) : Fn := fun j => r.getD j 0
/-- rows of numbers of p -/
noncomputable def Rw (p : Int) (n : Nat) (r : List Int) : Prop := r.length = n ∧ ∀ x ∈ r, 0 ≤ x ∧ x < p
/-! ### adding a row -/
section
variable {p : Int} {n place : Nat} {lead row : List Int}
end
/-! ### the program's reduced -/
/-! ### coefficients -/
end Bw
/-! THE MATHEMATICS 3: the reduced list is one; a list kept by first places. -/
namespace Bw
/-! ### rows kept by their first places -/
end Bw
/-! rows kept: one more; what a list of places and of leads tells -/
namespace Bw
end Bw
/-! factors: products with the rows of a list and with those of its span -/
namespace Bw
end Bw
/-! the factors, one by one; the asked rows -/
namespace Bw
structure FI (p : Int) (c : Nat) (D : List (List Int)) (ls : List Nat) (i : Nat) (fs : List Int) : Prop where
  rw : Rw p c fs
  lt : ∀ i' l, i' < i → ls[i']? = some l → l < c
  at_ : ∀ i' l r, i' < i → ls[i']? = some l → D[i']? = some r → fs.getD l 0 = r.getD c 0
  off : ∀ k, (∀ i', i' < i → ls[i']? ≠ some k) → fs.getD k 0 = 0
end Bw
/-! sums of rows and factors: both ways -/
namespace Bw
/-- the numbers of the rows at a place -/
noncomputable def col (rs : List (List Int)) (j : Nat) : Fn := fn (rs.map fun q => q.getD j 0)
end Bw
/-! families in steps: how many there can be; the rows that are barred -/
namespace Bw
/-! ### a barred row -/
end Bw
/-! the law's own rank: rows taken from behind, by their last places -/
namespace Bw
end Bw
/-! the barred rows as they are made -/
namespace Bw
section
variable {p : Int} {n : Nat} {D : List (List Int)} {ls : List Nat}
end
end Bw
namespace L2
open PySem Bw
/-! ### a list of rows that are lists, each at an address that N allows -/
section
variable {N : Addr → Prop} {H H' : Hp} {LS : List V} {L : List (List Int)} {l a : Addr} {o : HO} {r : List Int}
end
end L2
namespace L2
open PySem PySem.Spec PyProof.Rows
set_option maxRecDepth 100000
/-! ### xs.insert(k, y) -/
end L2
namespace L2
open PySem Bw
/-! ### lists of rows: more -/
end L2
set_option linter.all false
set_option maxRecDepth 100000
namespace L2
open PySem PySem.Spec PyProof.Rows

/-! ### lists of pairs as tables -/
section
variable {κ : Type} [DecidableEq κ]
noncomputable def valV (kvs : List (κ × V)) (k : κ) : Option V := (kvs.find? fun kv => decide (kv.1 = k)).map (·.2)
/-- in its place, or at the end -/
noncomputable def putK (kvs : List (κ × V)) (k : κ) (v : V) : List (κ × V) :=
  if (kvs.any fun kv => decide (kv.1 = k)) = true then kvs.map (fun kv => if kv.1 = k then (kv.1, v) else kv) else kvs ++ [(k, v)]
theorem valV_pos {p : κ × V} {r : List (κ × V)} {k : κ} (e : p.1 = k) : valV (p :: r) k = some p.2 := by simp [valV, List.find?_cons, e]
theorem valV_neg {p : κ × V} {r : List (κ × V)} {k : κ} (e : ¬ p.1 = k) : valV (p :: r) k = valV r k := by simp [valV, List.find?_cons, e]
theorem valV_any (k : κ) : ∀ kvs : List (κ × V), (kvs.any fun kv => decide (kv.1 = k)) = (valV kvs k).isSome
  | [] => rfl
  | p :: r => by
    rw [List.any_cons]
    by_cases e : p.1 = k
    · simp only [valV_pos e, decide_eq_true e, Bool.true_or, Option.isSome_some]
    · rw [valV_neg e, decide_eq_false e, Bool.false_or]; exact valV_any k r
theorem valV_map (k j : κ) (y : V) : ∀ kvs : List (κ × V), valV (kvs.map fun kv => if kv.1 = k then (kv.1, y) else kv) j = (valV kvs j).map fun x => if j = k then y else x
  | [] => rfl
  | p :: r => by
    have ih := valV_map k j y r
    rw [List.map_cons]
    by_cases h : p.1 = k
    · rw [if_pos h]
      by_cases e : p.1 = j
      · rw [valV_pos (p := (p.1, y)) e, valV_pos e, Option.map_some, if_pos (e.symm.trans h)]
      · rw [valV_neg (p := (p.1, y)) e, valV_neg e, ih]
    · rw [if_neg h]
      by_cases e : p.1 = j
      · rw [valV_pos (p := p) e, valV_pos e, Option.map_some, if_neg (fun z => h (e.trans z))]
      · rw [valV_neg (p := p) e, valV_neg e, ih]
theorem valV_snoc (k j : κ) (y : V) : ∀ kvs : List (κ × V), valV kvs k = none → valV (kvs ++ [(k, y)]) j = if j = k then some y else valV kvs j
  | [], _ => by
    by_cases e : k = j
    · rw [if_pos e.symm]; exact valV_pos (p := (k, y)) e
    · rw [if_neg (fun z => e z.symm)]; exact valV_neg (p := (k, y)) e
  | p :: r, hn => by
    rw [List.cons_append]
    have hk : ¬ p.1 = k := fun z => by rw [valV_pos z] at hn; cases hn
    rw [valV_neg hk] at hn
    have ih := valV_snoc k j y r hn
    by_cases e : p.1 = j
    · rw [valV_pos e, valV_pos e, if_neg (fun z => hk (e.trans z))]
    · rw [valV_neg e, valV_neg e, ih]
theorem valV_put (kvs : List (κ × V)) (k j : κ) (y : V) : valV (putK kvs k y) j = if j = k then some y else valV kvs j := by
  unfold putK
  by_cases a : (kvs.any fun kv => decide (kv.1 = k)) = true
  · rw [if_pos a, valV_map]
    rw [valV_any] at a
    by_cases e : j = k
    · obtain ⟨x, hx⟩ := Option.isSome_iff_exists.mp a
      rw [if_pos e, e, hx, Option.map_some, if_pos rfl]
    · rw [if_neg e]
      cases valV kvs j with
      | none => rfl
      | some x => rw [Option.map_some, if_neg e]
  · rw [if_neg a]
    refine valV_snoc k j y kvs ?_
    rw [valV_any] at a
    cases q : valV kvs k with
    | none => rfl
    | some x => rw [q] at a; exact (a rfl).elim
theorem length_putK (kvs : List (κ × V)) (k : κ) (v : V) : (putK kvs k v).length ≤ kvs.length + 1 := by
  unfold putK
  split
  · rw [List.length_map]; lia
  · rw [List.length_append, List.length_cons, List.length_nil]; lia
theorem putK_new {kvs : List (κ × V)} {k : κ} (v : V) (h : valV kvs k = none) : putK kvs k v = kvs ++ [(k, v)] := by
  unfold putK
  rw [valV_any, h]
  exact if_neg (by decide)

theorem RelO.isSome_eq {o : Option V} {u : Option Value} (r : RelO o u) : o.isSome = u.isSome := by
  cases o with
  | none => cases u with
    | none => rfl
    | some _ => exact (show False from r).elim
  | some _ => cases u with
    | none => exact (show False from r).elim
    | some _ => rfl
theorem RelO.getD {o : Option V} {u : Option Value} {d : V} {d' : Value} (r : RelO o u) (rd : RelV d d') : RelV (o.getD d) (u.getD d') := by
  cases o with
  | none => cases u with
    | none => exact rd
    | some _ => exact (show False from r).elim
  | some _ => cases u with
    | none => exact (show False from r).elim
    | some _ => exact r

/-- raw tables of the same keys -/
theorem KV.val {kvs : List (κ × V)} {vs : List (κ × Value)} (r : KV kvs vs) (k : κ) : RelO (valV kvs k) (valueAt vs k) := by
  unfold KV at r
  induction r with
  | nil => exact True.intro
  | @cons p q ps qs h t ih =>
    obtain ⟨h1, h2⟩ := h
    by_cases e : p.1 = k
    · have e' : q.1 = k := h1.symm.trans e
      have b : valueAt (q :: qs) k = some q.2 := by simp [valueAt, List.find?_cons, e']
      rw [valV_pos e, b]; exact h2
    · have e' : ¬ q.1 = k := fun z => e (h1.trans z)
      have b : valueAt (q :: qs) k = valueAt qs k := by simp [valueAt, List.find?_cons, e']
      rw [valV_neg e, b]; exact ih
theorem KV.any {kvs : List (κ × V)} {vs : List (κ × Value)} (r : KV kvs vs) (k : κ) : (kvs.any fun kv => decide (kv.1 = k)) = vs.any fun kv => decide (kv.1 = k) := by
  unfold KV at r
  induction r with
  | nil => rfl
  | cons h t ih => rw [List.any_cons, List.any_cons, ih, h.1]
theorem KV.repl {kvs : List (κ × V)} {vs : List (κ × Value)} (r : KV kvs vs) (k : κ) {y : V} {u : Value} (ry : RelV y u) :
    KV (kvs.map fun kv => if kv.1 = k then (kv.1, y) else kv) (vs.map fun kv => if kv.1 = k then (kv.1, u) else kv) := by
  unfold KV at r ⊢
  induction r with
  | nil => exact .nil
  | @cons p q ps qs h t ih =>
    rw [List.map_cons, List.map_cons]
    refine .cons ?_ ih
    obtain ⟨h1, h2⟩ := h
    by_cases e : p.1 = k
    · rw [if_pos e, if_pos (h1.symm.trans e)]; exact ⟨h1, ry⟩
    · rw [if_neg e, if_neg (fun z => e (h1.trans z))]; exact ⟨h1, h2⟩
theorem KV.put {kvs : List (κ × V)} {vs : List (κ × Value)} (r : KV kvs vs) (k : κ) {y : V} {u : Value} (ry : RelV y u) : KV (putK kvs k y) (stored vs k u) := by
  unfold putK stored
  rw [r.any k]
  by_cases e : (vs.any fun kv => decide (kv.1 = k)) = true
  · rw [if_pos e, if_pos e]; exact r.repl k ry
  · rw [if_neg e, if_neg e]; exact Paired.snoc r ⟨rfl, ry⟩
theorem KV.length {kvs : List (κ × V)} {vs : List (κ × Value)} (r : KV kvs vs) : kvs.length = vs.length := Paired.length r
end

/-! ### a tracked dict, its keys ints and texts or tuples of these -/
theorem kV_is {P : Program} {w : World} {k : Key} {u : Value} (r : RelV (kV k) u) : (mixKind P w).is k u = true := by
  cases k with
  | inl i => obtain ⟨t, e⟩ := (show ∃ t, u = Value.int i t from r); subst e; exact mixKind_int P w i t
  | inr x => obtain ⟨t, e⟩ := (show ∃ t, u = Value.str x t from r); subst e; exact mixKind_str P w x t
theorem items_are {P : Program} {w : World} : ∀ {ks : List Key} {us : List Value}, Vals (ks.map kV) us → ItemsAre (mixKind P w) ks us
  | [], _, r => by rw [List.map_nil] at r; cases r; exact .nil
  | k :: ks, _, r => by
    rw [List.map_cons] at r
    cases r with
    | cons h t => exact .cons (kV_is h) (items_are t)

/-- raw entries of a dict with tuple keys -/
noncomputable abbrev KT (H : Hp) : List (List Key × V) → List (List Key × Addr × Value) → Prop := Paired fun p q => p.1 = q.1 ∧ H q.2.1 = some (.tup (p.1.map kV)) ∧ RelV p.2 q.2.2
theorem KT.val {H : Hp} {kvs : List (List Key × V)} {xs : List (List Key × Addr × Value)} (r : KT H kvs xs) (k : List Key) : RelO (valV kvs k) ((atKey xs k).map (·.2)) := by
  induction r with
  | nil => exact True.intro
  | @cons p q ps qs h t ih =>
    obtain ⟨h1, _, h2⟩ := h
    by_cases e : p.1 = k
    · have e' : q.1 = k := h1.symm.trans e
      have b : atKey (q :: qs) k = some q.2 := by simp [atKey, List.find?_cons, e']
      rw [valV_pos e, b]; exact h2
    · have e' : ¬ q.1 = k := fun z => e (h1.trans z)
      have b : atKey (q :: qs) k = atKey qs k := by simp [atKey, List.find?_cons, e']
      rw [valV_neg e, b]; exact ih
theorem KT.repl {H : Hp} {kvs : List (List Key × V)} {xs : List (List Key × Addr × Value)} (r : KT H kvs xs) (k : List Key) {y : V} {u : Value} (ry : RelV y u) :
    KT H (kvs.map fun kv => if kv.1 = k then (kv.1, y) else kv) (xs.map (putAt k u)) := by
  induction r with
  | nil => exact .nil
  | @cons p q ps qs h t ih =>
    rw [List.map_cons, List.map_cons]
    refine .cons ?_ ih
    obtain ⟨h1, h2, h3⟩ := h
    unfold putAt
    by_cases e : p.1 = k
    · rw [if_pos e, if_pos (h1.symm.trans e)]; exact ⟨h1, h2, ry⟩
    · rw [if_neg e, if_neg (fun z => e (h1.trans z))]; exact ⟨h1, h2, h3⟩
theorem KT.put {H : Hp} {kvs : List (List Key × V)} {xs : List (List Key × Addr × Value)} (r : KT H kvs xs) (k : List Key) {b : Addr} {y : V} {u : Value} (hb : H b = some (.tup (k.map kV))) (ry : RelV y u) :
    KT H (putK kvs k y) (storedH xs k b u) := by
  have e : (kvs.any fun kv => decide (kv.1 = k)) = (atKey xs k).isSome := by
    rw [valV_any, (r.val k).isSome_eq, Option.isSome_map]
  unfold putK storedH
  rw [e]
  by_cases q : (atKey xs k).isSome = true
  · rw [if_pos q, if_pos q]; exact r.repl k ry
  · rw [if_neg q, if_neg q]; exact Paired.snoc r ⟨rfl, hb, ry⟩
theorem KT.keeps {H H' : Hp} {kvs : List (List Key × V)} {xs : List (List Key × Addr × Value)} (r : KT H kvs xs) (ht : ∀ b ys, H b = some (.tup ys) → H' b = some (.tup ys)) : KT H' kvs xs :=
  Paired.mapP r fun _ _ z => ⟨z.1, ht _ _ z.2.1, z.2.2⟩

section
variable {P : Program} {w : World} {H : Hp} {h : Heap} {a : Addr}
theorem rd_of {u : HO} (ok : HOk P w H h) (e : Rd H a u) : ObjOk P w H h a u := e.ok ok
theorem dk_rd {kvs : List (Key × V)} (ok : HOk P w H h) (e : Rd H a (.dK kvs)) : kvs.length ≤ sizeLine ∧ (a == sysModules) = false ∧ ∃ vs, KV kvs vs ∧ h.DictOf (mixKind P w) a vs :=
  show ObjOk P w H h a (.dK kvs) from rd_of ok e
theorem dk_of {kvs : List (Key × V)} (ok : HOk P w H h) (e : H a = some (.dK kvs)) : kvs.length ≤ sizeLine ∧ (a == sysModules) = false ∧ ∃ vs, KV kvs vs ∧ h.DictOf (mixKind P w) a vs := dk_rd ok (.inl e)
/-- a tracked tuple of ints and texts is a key -/
theorem key_of {ks : List Key} (ok : HOk P w H h) (e : H a = some (.tup (ks.map kV))) : (tupleKind (mixKind P w)).is h ks a := by
  obtain ⟨_, its, r, o, h1, h2, _, n, h3⟩ := (show ObjOk P w H h a (.tup (ks.map kV)) from ok a _ e)
  exact ⟨o, its.toArray, n, h1, h2, h3, by simpa using items_are r⟩
theorem dt_rd {kvs : List (List Key × V)} (ok : HOk P w H h) (e : Rd H a (.dT kvs)) : kvs.length ≤ sizeLine ∧ (a == sysModules) = false ∧
    ∃ xs, KT H kvs xs ∧ h.DictOfH (tupleKind (mixKind P w)) a xs := by
  obtain ⟨z, y, xs, r, o, es, ep, h1, h2, h3, h4, h5⟩ := (show ObjOk P w H h a (.dT kvs) from rd_of ok e)
  refine ⟨z, y, xs, r, o, es, ep, h1, h2, h3, h4, fun x hx => ?_, h5⟩
  have all : ∀ {l : List (List Key × V)} {m : List (List Key × Addr × Value)}, KT H l m → ∀ x ∈ m, (tupleKind (mixKind P w)).is h x.1 x.2.1 := by
    intro l m q
    induction q with
    | nil => intro x hx; exact nomatch hx
    | @cons p q ps qs hq t ih =>
      intro x hx
      rcases List.mem_cons.mp hx with e | hx
      · subst e
        exact key_of ok (by rw [← hq.1]; exact hq.2.1)
      · exact ih x hx
  exact all r x hx
theorem dt_of {kvs : List (List Key × V)} (ok : HOk P w H h) (e : H a = some (.dT kvs)) : kvs.length ≤ sizeLine ∧ (a == sysModules) = false ∧
    ∃ xs, KT H kvs xs ∧ h.DictOfH (tupleKind (mixKind P w)) a xs := dt_rd ok (.inl e)
end

/-- what the dict at a holds at the key y -/
noncomputable def DGet (H : Hp) (a : Addr) (y : V) (r : Option V) : Prop :=
  (∃ kvs k, Rd H a (.dK kvs) ∧ y = kV k ∧ r = valV kvs k) ∨ ∃ kvs k b, Rd H a (.dT kvs) ∧ y = .ref b ∧ H b = some (.tup (k.map kV)) ∧ r = valV kvs k
/-- the heap behind a[y] = v -/
noncomputable def DPut (H : Hp) (a : Addr) (y v : V) (H' : Hp) : Prop :=
  (∃ kvs k, H a = some (.dK kvs) ∧ y = kV k ∧ kvs.length < sizeLine ∧ H' = upd H a (.dK (putK kvs k v))) ∨
  ∃ kvs k b, H a = some (.dT kvs) ∧ y = .ref b ∧ H b = some (.tup (k.map kV)) ∧ kvs.length < sizeLine ∧ H' = upd H a (.dT (putK kvs k v))
theorem DGet.k {H : Hp} {a : Addr} {kvs : List (Key × V)} {k : Key} (e : H a = some (.dK kvs)) : DGet H a (kV k) (valV kvs k) := .inl ⟨kvs, k, .inl e, rfl, rfl⟩
theorem DPut.k {H : Hp} {a : Addr} {kvs : List (Key × V)} {k : Key} {v : V} (e : H a = some (.dK kvs)) (hl : kvs.length < sizeLine) : DPut H a (kV k) v (upd H a (.dK (putK kvs k v))) := .inl ⟨kvs, k, e, rfl, hl, rfl⟩
section
variable {X : Cx} {pins : List (Addr × Obj)} {σ : St} {H : Hp} {s : Shared} {a : Addr} {y v : V} {u r : Value} {o : Option V} {A : Around} {E : Value → Shared → Prop}

theorem Inv.big (I : Inv X pins σ H s) : sysModules < s.heap.objs.size := by
  have h : mainGlobals < s.heap.objs.size := (I.mod.glob.keeps I.bk).lt
  exact Nat.lt_trans (by decide) h

/-- d[y], there -/
theorem d_getItem {Q : Value → Shared → Prop} (hu : A.units + 1 < cLine) (I : Inv X pins σ H s) (g : DGet H a y (some v)) (ry : RelV y u) (h : ∀ w' s', Inv X pins σ H s' → RelV v w' → Q w' s') :
    wpAny (model X.prog X.w) A (getItem (.ref a) u) Q E s := by
  rcases g with ⟨kvs, k, e, ey, l⟩ | ⟨kvs, k, b, e, ey, eb, l⟩
  · subst ey
    obtain ⟨z, hd, vs, rel, dd⟩ := dk_rd I.hok e
    obtain ⟨w', hw, rw'⟩ := RelO.some_of (v := v) (o := valueAt vs k) (by rw [l]; exact rel.val k)
    exact wpAny_getItem_of (kV_is ry) dd.mapOf hw (h w' _ (I.tok _) rw')
  · subst ey
    cases (show u = Value.ref b from ry)
    obtain ⟨z, hd, xs, rel, dd⟩ := dt_rd I.hok e
    obtain ⟨w', hw, rw'⟩ := RelO.some_of (v := v) (o := (atKey xs k).map (·.2)) (by rw [l]; exact rel.val k)
    obtain ⟨p, hp, hp2⟩ := Option.map_eq_some_iff.mp hw
    refine wpAny_getItem_heap (tupleKind_room_in1 hu) (key_of I.hok eb) dd hp ?_
    rw [hp2]
    exact h w' _ (I.tok _) rw'
/-- a dict's object is replaced -/
theorem d_write {h' : Heap} {t' : Nat} {ob : HO} (I : Inv X pins σ H s) (mu : Mut (H a)) (hs : Heap.SameBut a s.heap h') (he : ∃ q, h'.get? a = some q) (new : ObjOk X.prog X.w (upd H a ob) h' a ob) :
    Inv X pins σ (upd H a ob) { s with heap := h', toks := t' } :=
  I.write (x := a) (e := a) mu (.inl rfl) (fun b q hb z => (hs.2 b hb).trans z) he new
theorem dk_new {P : Program} {w : World} {H' : Hp} {h' : Heap} {kvs : List (Key × V)} {vs : List (Key × Value)} (z : kvs.length ≤ sizeLine) (hd : (a == sysModules) = false) (rel : KV kvs vs) (dd : h'.DictOf (mixKind P w) a vs) :
    ObjOk P w H' h' a (.dK kvs) := ⟨z, hd, vs, rel, dd⟩
/-- d[y] = v -/
theorem d_setItem {H' : Hp} {Q : Unit → Shared → Prop} (hu : A.units + 1 < cLine) (I : Inv X pins σ H s) (g : DPut H a y v H') (ry : RelV y u) (rv : RelV v r) (h : ∀ s', Inv X pins σ H' s' → Q () s') :
    wpAny (model X.prog X.w) A (setItem (.ref a) u r) Q E s := by
  rcases g with ⟨kvs, k, e, ey, l, eH⟩ | ⟨kvs, k, b, e, ey, eb, l, eH⟩
  · subst ey eH
    obtain ⟨z, hd, vs, rel, dd⟩ := dk_of I.hok e
    have hz : vs.length ≤ sizeLine := by rw [← rel.length]; exact z
    have hl : (putK kvs k v).length ≤ sizeLine := by have := length_putK kvs k v; lia
    refine wpAny_setItem_pairs (hsz := hz) (kV_is ry) dd fun h' dd' hs => h _ ?_
    have he : ∃ q, h'.get? a = some q := let ⟨q, _, _, hq, _⟩ := dd'; ⟨q, hq⟩
    exact d_write I (by rw [e]; exact True.intro) hs he (dk_new hl hd (rel.put k rv) dd')
  · subst ey eH
    cases (show u = Value.ref b from ry)
    obtain ⟨z, hd, xs, rel, dd⟩ := dt_of I.hok e
    have hz : xs.length ≤ sizeLine := by rw [← Paired.length rel]; exact z
    have hl : (putK kvs k v).length ≤ sizeLine := by have := length_putK kvs k v; lia
    refine wpAny_setItem_heap (hsz := hz) (tupleKind_room_in1 hu) (key_of I.hok eb) dd fun h' dd' hs => h _ ?_
    obtain ⟨q, es, ep, hq, h2, h3, h4, _, h5⟩ := dd'
    refine d_write I (by rw [e]; exact True.intro) hs ⟨q, hq⟩ ⟨hl, hd, _, (rel.put k eb rv).keeps fun c ys ec => ?_, q, es, ep, hq, h2, h3, h4, h5⟩
    rw [upd_ne (ne_of ec e (fun z => nomatch z))]
    exact ec
end

section
variable {X : Cx} {pins : List (Addr × Obj)} {σ : St} {H : Hp} {s : Shared} {a : Addr} {kvs : List (Key × V)} {k : Key} {u : Value} {A : Around} {E : Value → Shared → Prop}
end

/-! ### readings and rules -/
/-- the element of a subscription, not a slice -/
noncomputable def NoSl (i : Expr) : Prop := ∀ ov iv, subscripted i false ov iv = operate [ov, iv] (getItem ov iv)
theorem subD_of {prog : Program} {w : World} {A : Around} {E : Value → Shared → Prop} {s : Shared} {env : Env} {value slice : Expr} {pos : Pos} {T id : String} {Q : Value → Shared → Prop}
    (hl : typeLookup (.type T) "__getitem__" = pure (some (.builtin id))) (hs : NoSl slice)
    (h : wpAny (model prog w) A (eval value env) (fun o s₁ => wpAny (model prog w) A (eval slice env) (fun i s₂ => s₂.TypeIs o T ∧ wpAny (model prog w) A (getItem o i) Q E s₂) E s₁) E s) :
    wpAny (model prog w) A (eval (.Subscript value slice pos) env) Q E s := by
  refine Subscript_ (wpAny_mono h (fun o s₁ h₁ => wpAny_mono h₁ (fun i s₂ h₂ => ?_) fun _ _ x => x) fun _ _ x => x)
  obtain ⟨hT, h₂⟩ := h₂
  unfold subscriptTail
  refine wpAny_bind ?_
  rw [getitemInPython_of_ne hT.not_modules]
  refine wpAny_bind (wpAny_specialOf hT hl ?_)
  have fin : wpAny (model prog w) A (subscripted slice false o i) (fun r s₃ => wpAny (model prog w) A (letTemporaryGo value o r >>= fun _ => pure r) Q E s₃) E s₂ := by
    rw [hs o i]
    exact wpAny_operating (wpAny_mono h₂ (fun r s₃ h₃ => wpAny_bind (wpAny_letTemporaryGo (wpAny_pure h₃))) fun _ _ x => x)
  first
    | exact wpAny_pure (wpAny_bind fin)
    | exact wpAny_bind (wpAny_pure (wpAny_bind fin))
    | exact wpAny_bind fin

theorem dict_typeIs {X : Cx} {pins : List (Addr × Obj)} {σ : St} {H : Hp} {s : Shared} {a : Addr} {y : V} {o : Option V} (I : Inv X pins σ H s) (g : DGet H a y o) : s.TypeIs (.ref a) "dict" := by
  rcases g with ⟨kvs, k, e, _, _⟩ | ⟨kvs, k, b, e, _, _, _⟩
  · obtain ⟨_, _, vs, _, dd⟩ := dk_rd I.hok e
    exact dd.typeIs
  · obtain ⟨_, _, xs, _, dd⟩ := dt_rd I.hok e
    exact dd.typeIs
/-- d[y] -/
noncomputable def tDGet (td ty : TE) : TE := fun σ H Q => td σ H fun x H1 => ty σ H1 fun y H2 => ∃ a v, x = .ref a ∧ DGet H2 a y (some v) ∧ Q v H2
/-- d[y] = v -/
noncomputable def sDPut (td ty tv : TE) : TS := fun D σ H => tv σ H fun v H1 => td σ H1 fun x H2 => ty σ H2 fun y H3 => ∃ a H4, x = .ref a ∧ DPut H3 a y v H4 ∧ D.nx σ H4
section
variable {X : Cx} {o i e value : Expr} {pos pos' tpos : Pos} {td ty tv : TE}
theorem pe_dget (hu : X.A.units + 1 < cLine) (ho : PE X o td) (hi : PE X i ty) (hs : NoSl i) : PE X (.Subscript o i pos) (tDGet td ty) := by
  intro pins s σ H Q I h
  refine subD_of PySem.F.slot_dict_getitem.lookup hs (thn (ho pins s σ H _ I h) fun u s1 ⟨x, H1, I1, rx, q1⟩ => thn (hi pins s1 σ H1 _ I1 q1) fun iv s2 ⟨y, H2, I2, ry, a, v, ex, g, q2⟩ => ?_)
  subst ex
  obtain rfl : u = Value.ref a := rx
  exact ⟨dict_typeIs I2 g, d_getItem hu I2 g ry fun w' s3 I3 rw' => ⟨v, H2, I3, rw', q2⟩⟩
theorem ps_dput (hu : X.A.units + 1 < cLine) (ho : PE X o td) (hi : PE X i ty) (hv : PE X value tv) (hs : swapsWith value (some (.Subscript o i pos')) pos.line X.env = pure false) :
    PS X (.Assign [.Subscript o i pos'] value pos) (sDPut td ty tv) := by
  intro pins s σ H D I h
  refine wpAny_Assign_Subscript (thn (hv pins s σ H _ I h) fun r s1 ⟨v, H1, I1, rv, q1⟩ => thn (ho pins s1 σ H1 _ I1 q1) fun u s2 ⟨x, H2, I2, rx, q2⟩ => thn (hi pins s2 σ H2 _ I2 q2) fun iv s3 ⟨y, H3, I3, ry, a, H4, ex, g, q3⟩ => ?_) hs
  subst ex
  obtain rfl : u = Value.ref a := rx
  exact d_setItem hu I3 g ry rv fun s4 I4 => ⟨σ, H4, I4, q3⟩
end

/-! ### displays -/
theorem dk_empty {P : Program} {w : World} {H : Hp} (h : Heap) (hb : sysModules < h.objs.size) : ObjOk P w H (h.push { cls := .type "dict", data := .dict #[] }) h.objs.size (.dK []) :=
  ⟨Nat.zero_le _, beq_eq_false_iff_ne.mpr (Ne.symm (Nat.ne_of_lt hb)), [], .nil, Heap.DictOf.new h⟩
/-- {}, to be a dict of the kind that is wanted -/
noncomputable def tDNewK : TE := fun _ H Q => ∀ p, H p = none → Q (.ref p) (upd H p (.dK []))
section
variable {X : Cx} {pos : Pos}
theorem pe_dnewK : PE X (.Dict [] [] pos) tDNewK := fun pins s σ H Q I h =>
  wpAny_Dict_empty ⟨.ref s.heap.objs.size, _, I.laid (a := s.heap.objs.size) (o := .dK []) (t' := s.toks) (fun _ _ q => Heap.get?_push_of_some _ q) (Nat.le_refl _) (dk_empty s.heap I.big), rfl, h _ (I.hok.fresh (Nat.le_refl _))⟩
end

/-- the pairs of a display, from the left -/
noncomputable def tPairs : List (TE × TE) → St → Hp → (List (V × V) → Hp → Prop) → Prop
  | [], _, H, Q => Q [] H
  | (tk, tv) :: r, σ, H, Q => tk σ H fun x H1 => tv σ H1 fun y H2 => tPairs r σ H2 fun ps H3 => Q ((x, y) :: ps) H3
noncomputable abbrev VV : List (V × V) → List (Value × Value) → Prop := Paired fun p q => RelV p.1 q.1 ∧ RelV p.2 q.2
noncomputable def PPs (X : Cx) (pos : Pos) (keys : List (Option Expr)) (values : List Expr) (trs : List (TE × TE)) : Prop :=
  ∀ (pins : List (Addr × Obj)) (s : Shared) (σ : St) (H : Hp) (Q : List (V × V) → Hp → Prop), Inv X pins σ H s → tPairs trs σ H Q →
    wpAny (model X.prog X.w) X.A (evalPairs (pairTrees keys values X.env pos)) (fun vs s' => ∃ ps H', Inv X pins σ H' s' ∧ VV ps vs ∧ Q ps H') X.xe s
theorem pps_nil {X : Cx} {pos : Pos} : PPs X pos [] [] [] := fun pins s σ H Q I h => pairTrees_nil_walk ⟨[], H, I, .nil, h⟩
theorem pps_cons {X : Cx} {pos : Pos} {k v : Expr} {ks : List (Option Expr)} {vs : List Expr} {tk tv : TE} {trs : List (TE × TE)} (hk : PE X k tk) (hv : PE X v tv) (hr : PPs X pos ks vs trs) :
    PPs X pos (some k :: ks) (v :: vs) ((tk, tv) :: trs) := fun pins s σ H Q I h =>
  pairTrees_cons_walk (thn (hk pins s σ H _ I h) fun u s1 ⟨x, H1, I1, rx, q1⟩ => thn (hv pins s1 σ H1 _ I1 q1) fun w2 s2 ⟨y, H2, I2, ry, q2⟩ =>
    thn (hr pins s2 σ H2 _ I2 q2) fun ws s3 ⟨ps, H3, I3, rel, q3⟩ => ⟨(x, y) :: ps, H3, I3, .cons ⟨rx, ry⟩ rel, q3⟩)

noncomputable def mergeK (kvs more : List (Key × V)) : List (Key × V) := more.foldl (fun acc kv => putK acc kv.1 kv.2) kvs
theorem KV.merge : ∀ {more : List (Key × V)} {rs : List (Key × Value)} {kvs : List (Key × V)} {vs : List (Key × Value)}, KV more rs → KV kvs vs → KV (mergeK kvs more) (merged vs rs) := by
  intro more rs kvs vs r
  unfold KV at r
  induction r generalizing kvs vs with
  | nil => intro q; exact q
  | @cons p q ps qs h t ih =>
    intro r0
    have e : KV (putK kvs p.1 p.2) (stored vs q.1 q.2) := by
      have := r0.put p.1 h.2
      rw [← h.1]; exact this
    exact ih e
theorem length_mergeK : ∀ (more kvs : List (Key × V)), (mergeK kvs more).length ≤ kvs.length + more.length
  | [], kvs => by show kvs.length ≤ kvs.length + 0; lia
  | p :: r, kvs => by
    have h1 := length_mergeK r (putK kvs p.1 p.2)
    have h2 := length_putK kvs p.1 p.2
    show (mergeK (putK kvs p.1 p.2) r).length ≤ _
    rw [List.length_cons]; lia
theorem carries_of {P : Program} {w : World} : ∀ {kvs : List (Key × V)} {ws : List (Value × Value)}, VV (kvs.map fun kv => (kV kv.1, kv.2)) ws → ∃ rs, Carries (mixKind P w) ws rs ∧ KV kvs rs
  | [], _, r => by rw [List.map_nil] at r; cases r; exact ⟨[], True.intro, .nil⟩
  | p :: kvs, _, r => by
    rw [List.map_cons] at r
    cases r with
    | @cons a b as bs h t =>
      obtain ⟨rs, c, q⟩ := carries_of (P := P) (w := w) t
      obtain ⟨b1, b2⟩ := b
      exact ⟨(p.1, b2) :: rs, ⟨kV_is h.1, rfl, c⟩, .cons ⟨rfl, h.2⟩ q⟩
/-- {k: v, ..} with keys ints and texts; the new dict stands empty while the pairs are made -/
noncomputable def tDisp (trs : List (TE × TE)) : TE := fun σ H Q => ∀ p, H p = none → tPairs trs σ (upd H p (.dK [])) fun ps H2 => H2 p = some (.dK []) ∧ ∃ kvs : List (Key × V), ps = kvs.map (fun kv => (kV kv.1, kv.2)) ∧ kvs.length ≤ 15 ∧ Q (.ref p) (upd H2 p (.dK (mergeK [] kvs)))
theorem pe_disp {X : Cx} {pos : Pos} {keys : List (Option Expr)} {values : List Expr} {trs : List (TE × TE)} (h : PPs X pos keys values trs) (hall : keys.all (·.isSome) = true) (hl : keys.length = values.length) (h0 : keys ≠ [])
    (h15 : keys.length ≤ 15) : PE X (.Dict keys values pos) (tDisp trs) := by
  intro pins s σ H Q I q
  have hn := I.hok.fresh (Nat.le_refl s.heap.objs.size)
  have I1 := I.laid (a := s.heap.objs.size) (o := .dK []) (h' := s.heap.push { cls := .type "dict", data := .dict #[] }) (t' := s.toks) (fun _ _ q => Heap.get?_push_of_some _ q) (Nat.le_refl _) (dk_empty s.heap I.big)
  refine wpAny_Dict_walk (knd := mixKind X.prog X.w) hall hl h0 h15 (thn (h pins _ σ _ _ I1 (q _ hn)) fun ws s2 ⟨ps, H2, I2, rel, e, kvs, ep, lk, q2⟩ => ?_)
  subst ep
  obtain ⟨rs, c, rk⟩ := carries_of (P := X.prog) (w := X.w) rel
  obtain ⟨z, hd, vs0, r0, dd⟩ := dk_of I2.hok e
  cases r0
  refine ⟨rs, c, dd, fun h' dd' hs => ⟨.ref s.heap.objs.size, _, ?_, rfl, q2⟩⟩
  have hz : (mergeK [] kvs).length ≤ sizeLine := by
    have h1 := length_mergeK kvs []
    rw [List.length_nil] at h1
    rw [sizeLine_eq]; lia
  have he : ∃ q, h'.get? s.heap.objs.size = some q := let ⟨q, _, _, hq, _⟩ := dd'; ⟨q, hq⟩
  exact d_write I2 (by rw [e]; exact True.intro) hs he (dk_new hz hd (rk.merge .nil) dd')

/-! ### methods -/
/-- a method call o.m(e) of a built-in, with one argument: what must be seen of the text -/
structure M1 (X : Cx) (o : Expr) (m : Str) (apos : Pos) (e : Expr) (cpos : Pos) : Prop where
  base : attributeBase o m X.env (eval o X.env) = eval o X.env
  few : ((backTo cpos (starEach [e] X.env)).all (fun x => !x.1) && (backToKw cpos (keywordEach [] X.env)).all (fun x => x.1.isSome)
    && decide (([e] : List Expr).length + ([] : List Keyword).length + (if ([] : List Keyword).isEmpty then 0 else 1) < 30)) = true
  line : (apos.endLine == cpos.line) = true
  trees : backTo cpos (starEach [e] X.env) = [(false, eval e X.env)]
structure M2 (X : Cx) (o : Expr) (m : Str) (apos : Pos) (e f : Expr) (cpos : Pos) : Prop where
  base : attributeBase o m X.env (eval o X.env) = eval o X.env
  few : ((backTo cpos (starEach [e, f] X.env)).all (fun x => !x.1) && (backToKw cpos (keywordEach [] X.env)).all (fun x => x.1.isSome)
    && decide (([e, f] : List Expr).length + ([] : List Keyword).length + (if ([] : List Keyword).isEmpty then 0 else 1) < 30)) = true
  line : (apos.endLine == cpos.line) = true
  trees : backTo cpos (starEach [e, f] X.env) = [(false, eval e X.env), (false, eval f X.env)]

/-- a is a dict, whatever its keys -/
noncomputable def IsD (H : Hp) (a : Addr) : Prop := (∃ kvs, Rd H a (.dK kvs)) ∨ ∃ kvs, Rd H a (.dT kvs)
theorem isD_at {X : Cx} {pins : List (Addr × Obj)} {σ : St} {H : Hp} {s : Shared} {a : Addr} (I : Inv X pins σ H s) (d : IsD H a) :
    s.TypeIs (.ref a) "dict" ∧ (∀ b, Value.ref a = .ref b → ∃ ob, s.heap.get? b = some ob ∧ ob.dict = none) ∧ (a == sysModules) = false := by
  rcases d with ⟨kvs, e⟩ | ⟨kvs, e⟩
  · obtain ⟨_, hd, vs, _, dd⟩ := dk_rd I.hok e
    refine ⟨dd.typeIs, fun b q => ?_, hd⟩
    cases q
    obtain ⟨ob, _, _, h1, h2, _⟩ := dd
    exact ⟨ob, h1, h2.2.1⟩
  · obtain ⟨_, hd, xs, _, dd⟩ := dt_rd I.hok e
    refine ⟨dd.typeIs, fun b q => ?_, hd⟩
    cases q
    obtain ⟨ob, _, _, h1, h2, _⟩ := dd
    exact ⟨ob, h1, h2.2.1⟩

section
variable {X : Cx} {pins : List (Addr × Obj)} {σ : St} {H : Hp} {s : Shared} {a : Addr} {y d : V} {u r : Value} {o : Option V} {A : Around} {E : Value → Shared → Prop}
/-- d.get(y, x) -/
theorem d_get2 {Q : Value → Shared → Prop} (hu : A.units + 1 < cLine) (I : Inv X pins σ H s) (g : DGet H a y o) (ry : RelV y u) (rd : RelV d r) (h : ∀ w' s', Inv X pins σ H s' → RelV (o.getD d) w' → Q w' s') :
    wpAny (model X.prog X.w) A (call (.builtin "dict.get") [.ref a, u, r]) Q E s := by
  rcases g with ⟨kvs, k, e, ey, l⟩ | ⟨kvs, k, b, e, ey, eb, l⟩
  · subst ey
    obtain ⟨z, hd, vs, rel, dd⟩ := dk_rd I.hok e
    refine call_meetsIn PySem.F.slot_dict_get dd.typeIs PySem.F.entry_dict_get (PySem.F.args_dict_get_3 _ _ _) (meets_dict_get_default (mixKind X.prog X.w) a (kV_is ry) hd r) ⟨_, dd.mapOf, h _ _ (I.tok _) ?_⟩
    rw [l]
    exact (rel.val k).getD rd
  · subst ey
    cases (show u = Value.ref b from ry)
    obtain ⟨z, hd, xs, rel, dd⟩ := dt_rd I.hok e
    refine call_meetsIn PySem.F.slot_dict_get dd.typeIs PySem.F.entry_dict_get (PySem.F.args_dict_get_3 _ _ _) (meetsH_dict_get_default (tupleKind (mixKind X.prog X.w)) a b hd r) ⟨tupleKind_room_in1 hu, k, xs, key_of I.hok eb, dd, h _ _ (I.tok _) ?_⟩
    rw [l]
    exact (rel.val k).getD rd
end

noncomputable def tDGet2 (td ty tx : TE) : TE := fun σ H Q => td σ H fun x H1 => ∃ a, x = .ref a ∧ IsD H1 a ∧ ty σ H1 fun y H2 => tx σ H2 fun z H3 => ∃ o, DGet H3 a y o ∧ Q (o.getD z) H3
section
variable {X : Cx} {o e f : Expr} {apos cpos : Pos} {td ty tx : TE}
theorem pe_dget2 (hu : X.A.units + 1 < cLine) (ho : PE X o td) (he : PE X e ty) (hf : PE X f tx) (m : M2 X o "get" apos e f cpos) : PE X (.Call (.Attribute o "get" apos) [e, f] [] cpos) (tDGet2 td ty tx) := by
  intro pins s σ H Q I h
  refine wpAny_Call_method m.base m.few m.line PySem.F.plainAttrs_dict PySem.F.slot_dict_get PySem.F.type_dict_get (thn (ho pins s σ H _ I h) fun u s1 ⟨x, H1, I1, rx, a, ex, d, q1⟩ => ?_)
  subst ex
  obtain rfl : u = Value.ref a := rx
  obtain ⟨t1, t2, _⟩ := isD_at I1 d
  refine ⟨t1, t2, ?_⟩
  rw [m.trees]
  refine Calls.callWith_builtin rfl (Calls.evalArgs_plain (Calls.spliced_cons (thn (he pins s1 σ H1 _ I1 q1) fun iv s2 ⟨y, H2, I2, ry, q2⟩ =>
    Calls.spliced_cons (thn (hf pins s2 σ H2 _ I2 q2) fun fv s3 ⟨z, H3, I3, rz, ov, g, q3⟩ => Calls.spliced_nil ?_))))
  exact d_get2 hu I3 g ry rz fun w' s4 I4 rw' => ⟨_, H3, I4, rw', q3⟩
end

/-! ### dict(d): a copy -/
section
variable {X : Cx} {pins : List (Addr × Obj)} {σ : St} {H : Hp} {s : Shared} {a : Addr} {kvs : List (Key × V)} {A : Around} {E : Value → Shared → Prop}
end

section
variable {X : Cx} {pins : List (Addr × Obj)} {σ : St} {H : Hp} {s : Shared} {a : Addr} {y : V} {u : Value} {A : Around} {E : Value → Shared → Prop}
end
end L2
namespace HT
open PySem PySem.Spec PyProof.Rows
set_option maxRecDepth 100000
variable {prog : Program} {w : World} {A : Around} {E : Value → Shared → Prop} {s : Shared}
end HT
namespace L2
open PySem PySem.Spec PyProof.Rows
end L2
namespace L2
open PySem PySem.Spec PyProof.Rows
set_option maxRecDepth 100000
/-! ### any(a tuple of whole numbers) -/
section
variable {X : Cx}
end
section
variable {K : PySem.W.Frag} {H1 : Hp} {cp : St} {tt : TT} {te : TE} {Q : VK} {xs ys : List V} {l1 l2 : Addr} {b1 b2 : Bool}
end
end L2
namespace L2
open PySem PySem.Spec PyProof.Rows
set_option maxRecDepth 100000
set_option maxHeartbeats 3900000
/-! ### lambdas that a def makes: its code's table, what is made, calls of it -/
section
variable {X : Cx}
end
/-! ### defs whose promise hangs on the state at their entry -/
structure RunS (P : Program) (w : World) (K : PySem.W.Frag) (mg : Str → Option Value) (base : Heap) (k : Nat) (f : Addr) (fd : FuncData) (ps : List Str) (sp : Shared → Sp) : Prop where
  len : ∀ s vs H Q E, sp s vs H Q E → vs.length = ps.length
  run : ∀ (A : Around) (outer : List Env) (s : Shared) (H : Hp) (args : Args) (us : List Value) (vs : List V) (Q : VK) (E : XK), Room k A → Env0 P w K mg base A outer s H → BindsTo s fd args (ps.zip us) → Vals vs us → sp s vs H Q E →
    codeAny (model P w) A (.call (.ref f) args) (CR CX0 outer P w H s Q E) s
section
variable {P : Program} {w : World} {K : PySem.W.Frag} {mg : Str → Option Value} {base : Heap}
theorem Fun.okS {x qual : Str} {st : Stmt} {f : Addr} {fd : FuncData} {N ps : List Str} {k : Nat} {sp : Shared → Sp} (F : Fun K x qual st f fd) (S : FnScope N ps (defScope st)) (len : ∀ s vs H Q E, sp s vs H Q E → vs.length = ps.length)
    (hbody : ∀ (cdv : Value) (A : Around) (outer : List Env) (s : Shared) (H : Hp) (vs : List V) (Q : VK) (E : XK), Room k (A.deeper (envOfC qual (defScope st) s.heap.objs.size f cdv)) → sp s vs H Q E →
      ∃ t, PSs (cxOf CX0 P w K mg base N qual (defScope st) f cdv A outer s H E).nox (defBody st) t ∧ t { nx := fun _ H' => Q .non H', rt := Q } (start N vs) H) : RunS P w K mg base (k + 1) f fd ps sp := by
  obtain ⟨oc, od, kV, doc, pm, an, cdv, ct, osl, rfl, lk, hcd⟩ := F.ex
  refine ⟨len, fun A outer s H args us vs Q E hr e0 hb r hsp => ?_⟩
  have hl := len _ _ _ _ _ hsp
  have KX : K.In s.heap := e0.mod.kin.keeps fun b o e => (e0.bs b o e).1
  have lim : s.heap.NoLimit := e0.mod.nolimit.keeps fun b o e => (e0.bs b o e).1
  have hkind : ∀ y ∈ ps.zip us, (defScope st).names.lookup y.1 = some .local ∨ ((defScope st).names.lookup y.1 = some .cell ∧ ((cellsFrom (s.heap.objs.size + 1) (defScope st).names []).lookup y.1).isSome = true) := fun ⟨n, v⟩ hy => by
    rcases S.par n (List.of_mem_zip hy).1 with q | q
    · exact .inl q
    · exact .inr ⟨q, PySem.W.cellsFrom_some _ _ _ (.inl q)⟩
  refine codeAny_call_function hr.depth (KX _ _ lk) rfl S.co S.gen rfl (PySem.W.codeRec_of KX hcd) (hb _ _ _ _ ?_)
  refine wpAny_newFunctionEnv_cells S.kind hkind fun env he s1 x => ?_
  subst he
  refine ⟨lim.keeps x.toInCall.keep, codeAny_func ?_⟩
  obtain ⟨t, ht, hq⟩ := hbody cdv A outer s H vs Q E (hr.deeper _) hsp
  have I : Inv (cxOf CX0 P w K mg base N qual (defScope st) f cdv A outer s H E) [] (start N vs) H s1 := inv_start S hr.hd e0 hl r x
  refine wpAny_mono (ht.nox [] s1 (start N vs) H _ I hq) (fun fl s' hs => ?_) fun e s' hs => hs
  have fin : ∀ {σ' : St} {H' : Hp} {v : V} {u : Value}, Inv (cxOf CX0 P w K mg base N qual (defScope st) f cdv A outer s H E) [] σ' H' s' → RelV v u → Q v H' → CE outer P w H s Q u s' :=
    fun {σ' H' v u} J rv q => ⟨v, H', J.os, J.bare, J.base, J.hok, rv, q⟩
  cases fl with
  | ret u =>
    obtain ⟨v, σ', H', J, rv, q⟩ := hs
    exact fin J rv q
  | next =>
    obtain ⟨σ', H', J, q⟩ := hs
    exact fin (v := V.non) (u := Value.none) J rfl q
  | brk =>
    obtain ⟨_, _, _, q⟩ := hs
    exact False.elim q
  | cont =>
    obtain ⟨_, _, _, q⟩ := hs
    exact False.elim q
end
section
variable {X : Cx} {k : Nat} {f : Addr} {fd : FuncData} {ps : List Str} {x : Str} {p pos : Pos} {e : Expr} {es : List Expr} {t : TA} {te : TE}
theorem pe_callS {sp : Shared → Sp} (F : RunS X.prog X.w X.K X.mg X.base k f fd ps sp) (hr : Room k X.A) (hg : Gl X x) (hm : X.mg x = some (.ref f)) (hk : PySem.W.keepIn X.K (.ref f) = true) (hb : Binds X.K fd ps [])
    (ha : PA X (e :: es) t) (hdb : (x == ("__debug__" : Str)) = false := by decide) (he : starEach (e :: es) X.env = (false, eval e X.env) :: starEach es X.env := by rfl) (hpl : (backTo pos (starEach es X.env)).any (·.1) = false := by rfl) :
    PE X (.Call (.Name x p) (e :: es) [] pos) (fun σ H Q => t σ H fun vs H1 => ∀ pins s, Inv X pins σ H1 s → sp s vs H1 Q E0) := by
  intro pins s σ H Q I h
  refine wpAny_Call_Name_kw (ld_glob I hg hm ?_ hdb)
  refine PySem.W.callWith_K (h₀ := X.base) I.ok.mod.kin hk (thn (ha pos pins s σ H _ I h) fun us s1 ⟨vs, H1, I1, r, q⟩ => ⟨I1.kIn, ?_⟩) he hpl
  have hs := q pins s1 I1
  have hl : us.length = ps.length := by rw [← r.length]; exact F.len _ _ _ _ _ hs
  have hbb := hb s1 us I1.kIn (by rw [List.append_nil]; exact hl)
  rw [List.append_nil] at hbb
  refine wpAny_call (codeAny_mono (F.run X.A X.stack s1 H1 ⟨us, []⟩ us vs Q E0 hr I1.env0 hbb r hs) fun r s' hq => ?_)
  cases r with
  | error e => exact False.elim hq
  | ok fl =>
    cases fl with
    | ret u => exact I1.after hq
    | next => exact False.elim hq
    | brk => exact False.elim hq
    | cont => exact False.elim hq
end
/-! ### the lambda's own run -/
section
variable {P : Program} {w : World} {K : PySem.W.Frag} {mg : Str → Option Value} {base : Heap}
end
end L2
namespace L2
open PySem PySem.Spec PyProof.Rows
set_option maxRecDepth 100000
set_option maxHeartbeats 3900000
/-! ### a def whose code is known; the law's call where defs make lambdas -/
section
variable {P : Program} {w : World} {K : PySem.W.Frag} {mg : Str → Option Value} {base : Heap}
end
end L2
/-! a dict that stands at the top of a module, its keys texts: d[x], x in d, d.get(x, y) -/
namespace L2
open PySem PySem.Spec PyProof.Rows
set_option maxRecDepth 100000
/-- the dict at a holds D -/
noncomputable def VTab (h : Heap) (a : Addr) (D : List (Str × V)) : Prop := KTD.TabOf (fun (v : V) (u : Value) => RelV v u) h a D
noncomputable def vLook : V → Value → Bool
  | .non, .none => true
  | .bl b, .bool c => b == c
  | .int i, .int j _ => i == j
  | .str x, .str y _ => x == y
  | .ref a, .ref b => a == b
  | _, _ => false
theorem vLook_is (v : V) (u : Value) (h : vLook v u = true) : RelV v u := by
  cases v <;> cases u <;> first | exact Bool.noConfusion h | rfl | (have e := beq_iff_eq.mp h; subst e; first | rfl | exact ⟨_, rfl⟩)
noncomputable def vOf : Value → V
  | .bool b => .bl b
  | .int i _ => .int i
  | .str x _ => .str x
  | .ref a => .ref a
  | _ => .non
/-- the dict at a, as the written part has it -/
noncomputable def tabV (K : PySem.W.Frag) (a : Addr) : List (Str × V) := match K.lookup a with
  | some ⟨_, _, .dict es _, _⟩ => es.toList.map fun e => ((match e.key with | .str x _ => x | _ => ""), vOf e.val)
  | _ => []
noncomputable def okTab (K : PySem.W.Frag) (a : Addr) : Bool := KTD.tabLook vLook (fun b => K.lookup b) a (tabV K a)
theorem vtab_of {K : PySem.W.Frag} {h : Heap} {a : Addr} (X : K.In h) (e : okTab K a = true) : VTab h a (tabV K a) := KTD.tab_of_look vLook_is (fun b o q => X b o q) e
theorem VTab.typeIs {s : Shared} {a : Addr} {D : List (Str × V)} (T : VTab s.heap a D) : s.TypeIs (.ref a) "dict" := by
  obtain ⟨_, o, _, _, ho, hc, _⟩ := T
  exact ⟨o, ho, hc.1⟩
theorem VTab.noDict {h : Heap} {a : Addr} {D : List (Str × V)} (T : VTab h a D) : ∀ b, Value.ref a = .ref b → ∃ ob, h.get? b = some ob ∧ ob.dict = none := fun b e => by
  cases e
  obtain ⟨_, o, _, _, ho, hc, _⟩ := T
  exact ⟨o, ho, hc.2.1⟩
section
variable {prog : Program} {w : World} {A : Around} {E : Value → Shared → Prop} {s : Shared} {a : Addr} {D : List (Str × V)} {x : Str} {tk : Tok}
theorem kd_find {Q : Option Value → Shared → Prop} (T : VTab s.heap a D) (h1 : ∀ v u, KTD.datumAt x D = some v → RelV v u → Q (some u) { s with toks := s.toks + 1 }) (h2 : KTD.datumAt x D = none → Q none { s with toks := s.toks + 1 }) :
    wpAny (model prog w) A (dictGet a (.str x tk)) Q E s := by
  obtain ⟨_, o, es, ep, ho, hc, hd, hr⟩ := T
  have hal : (es.all fun e => isExactStrKey e.key) = true := by
    have z := hr.exact
    obtain ⟨l⟩ := es
    simpa using z
  have hf : findBy (fun k v => v.isStr k) es x = (es.toList.find? fun e => e.key.isStr x).map (·.val) := by obtain ⟨l⟩ := es; simp [findBy]
  have hq : Q (findBy (fun k v => v.isStr k) es x) { s with toks := s.toks + 1 } := by
    rw [hf]
    cases e : KTD.datumAt x D with
    | none => rw [hr.find_none e]; exact h2 e
    | some v => obtain ⟨u, z1, z2⟩ := hr.find_some e; rw [z1]; exact h1 v u e z2
  rw [findBy_of_findIdx?] at hq
  unfold dictGet
  refine wpAny_bind (wpAny_pyHash_str (wpAny_bind (KTD.kt_dictFind_strs (s := { s with toks := s.toks + 1 }) ho hd hal ?_)))
  cases e : es.findIdx? fun e => e.key.isStr x with
  | none => rw [e] at hq; exact wpAny_pure hq
  | some i => rw [e] at hq; exact wpAny_bind (wpAny_dictEntries (s := { s with toks := s.toks + 1 }) ho hd (wpAny_pure hq))
theorem kd_item {Q : Value → Shared → Prop} {v : V} (T : VTab s.heap a D) (hv : KTD.datumAt x D = some v) (h : ∀ u, RelV v u → Q u { s with toks := s.toks + 1 }) : wpAny (model prog w) A (getItem (.ref a) (.str x tk)) Q E s := by
  unfold getItem
  try (with_reducible refine wpAny_holding ?_)
  refine wpAny_bind (wpAny_sequenceKey (T.typeIs) (by decide) ?_)
  refine wpAny_bind (wpAny_callSpecial?_slot (name := Str.ofString "__getitem__") T.typeIs PySem.F.slot_dict_getitem (wpAny_call_entry PySem.F.slot_dict_getitem T.typeIs PySem.F.entry_dict_getitem ?_ (PySem.F.args_dict_getitem_2 _ _)))
  show wpAny _ _ (dictGet a (.str x tk) >>= _) _ _ s
  exact wpAny_bind (kd_find T (fun v' u e r => by rw [hv] at e; cases e; exact wpAny_pure ⟨u, rfl, wpAny_pure (h u r)⟩) fun e => by rw [hv] at e; cases e)
theorem kd_in {Q : Value → Shared → Prop} (T : VTab s.heap a D) (h : Q (.bool (KTD.datumAt x D).isSome) { s with toks := s.toks + 1 }) : wpAny (model prog w) A (compareOp .In (.str x tk) (.ref a)) Q E s := by
  show wpAny _ _ (do return .bool (← contains (.ref a) (.str x tk))) Q E s
  refine wpAny_bind ?_
  unfold contains
  try (with_reducible refine wpAny_holding ?_)
  refine wpAny_bind (wpAny_specialOf T.typeIs PySem.F.slot_dict_contains.lookup ?_)
  show wpAny _ _ (if (some (Value.builtin "dict.__contains__") == some Value.none) = true then _ else _) _ _ s
  rw [if_neg (by decide)]
  refine wpAny_bind (wpAny_callSpecialUnlessNone?_slot (name := Str.ofString "__contains__") T.typeIs PySem.F.slot_dict_contains (wpAny_call_entry PySem.F.slot_dict_contains T.typeIs PySem.F.entry_dict_contains ?_ (PySem.F.args_dict_contains_2 _ _)))
  show wpAny _ _ (dictGet a (.str x tk) >>= _) _ _ s
  refine wpAny_bind (kd_find T (fun v u e _ => ?_) fun e => ?_)
  · rw [e] at h
    exact (wpAny_pure ⟨_, rfl, wpAny_truthy_bool (wpAny_pure h)⟩)
  · rw [e] at h
    show wpAny _ _ (Builtin.Dict.pendingKey? a (.str x tk) >>= _) _ _ _
    exact wpAny_bind (wpAny_pendingKey_other T.1 (wpAny_pure ⟨_, rfl, wpAny_truthy_bool (wpAny_pure h)⟩))
theorem kd_meets {dflt : Value} : MeetsIn prog w (Builtin.«dict.get» ⟨[.ref a, .str x tk, dflt], []⟩) (fun _ R s => VTab s.heap a D ∧ (∀ v u, KTD.datumAt x D = some v → RelV v u → R (.ok (.ret u)) { s with toks := s.toks + 1 }) ∧ (KTD.datumAt x D = none → R (.ok (.ret dflt)) { s with toks := s.toks + 1 })) :=
  .of_wp fun A₁ R s ⟨T, h1, h2⟩ => by
    show wpAny _ _ (dictGet a (.str x tk) >>= _) _ _ s
    refine wpAny_bind (kd_find T (fun v u e r => wpAny_pure ⟨u, rfl, h1 v u e r⟩) fun e => ?_)
    show wpAny _ _ (Builtin.Dict.missed a (.str x tk) >>= _) _ _ _
    exact wpAny_bind (wpAny_missed_other T.1 (wpAny_pure ⟨dflt, rfl, h2 e⟩))
theorem kd_get2 {Q : Value → Shared → Prop} {dflt : Value} (T : VTab s.heap a D) (h1 : ∀ v u, KTD.datumAt x D = some v → RelV v u → Q u { s with toks := s.toks + 1 }) (h2 : KTD.datumAt x D = none → Q dflt { s with toks := s.toks + 1 }) :
    wpAny (model prog w) A (call (.builtin "dict.get") [.ref a, .str x tk, dflt]) Q E s :=
  call_meetsIn PySem.F.slot_dict_get T.typeIs PySem.F.entry_dict_get (PySem.F.args_dict_get_3 _ _ _) (kd_meets (D := D)) ⟨T, h1, h2⟩
end
section
variable {X : Cx} {o i e f : Expr} {pos apos cpos : Pos} {td ty tx : TE} {a : Addr} {D : List (Str × V)}
/-- d[x] -/
noncomputable def tKix (a : Addr) (D : List (Str × V)) (td ty : TE) : TE := fun σ H Q => td σ H fun u H1 => ty σ H1 fun y H2 => ∃ x v, u = .ref a ∧ y = .str x ∧ KTD.datumAt x D = some v ∧ Q v H2
theorem pe_kix (hT : ∀ h, X.K.In h → VTab h a D) (ho : PE X o td) (hi : PE X i ty) (hs : NoSl i) : PE X (.Subscript o i pos) (tKix a D td ty) := by
  intro pins s σ H Q I h
  refine subD_of PySem.F.slot_dict_getitem.lookup hs (thn (ho pins s σ H _ I h) fun u s1 ⟨x', H1, I1, rx, q1⟩ => thn (hi pins s1 σ H1 _ I1 q1) fun iv s2 ⟨y, H2, I2, ry, x, v, ex, ey, g, q2⟩ => ?_)
  subst ex ey
  obtain rfl : u = Value.ref a := rx
  obtain ⟨tk, rfl⟩ := ry
  exact ⟨(hT _ I2.kIn).typeIs, kd_item (hT _ I2.kIn) g fun u r => ⟨v, H2, I2.tok _, r, q2⟩⟩
/-- x in d -/
noncomputable def tKin (a : Addr) (D : List (Str × V)) (ty td : TE) : TE := fun σ H Q => ty σ H fun y H1 => td σ H1 fun u H2 => ∃ x, u = .ref a ∧ y = .str x ∧ Q (.bl (KTD.datumAt x D).isSome) H2
theorem pc_kin (hT : ∀ h, X.K.In h → VTab h a D) (hi : PE X i ty) (ho : PE X o td) : PC X .In i o (tKin a D ty td) := by
  intro pins s σ H Q I h
  refine thn (hi pins s σ H _ I h) fun iv s1 ⟨y, H1, I1, ry, q1⟩ => thn (ho pins s1 σ H1 _ I1 q1) fun u s2 ⟨x', H2, I2, rx, x, ex, ey, q2⟩ => ?_
  subst ex ey
  obtain rfl : u = Value.ref a := rx
  obtain ⟨tk, rfl⟩ := ry
  exact kd_in (hT _ I2.kIn) ⟨.bl _, H2, I2.tok _, rfl, q2⟩
/-- d.get(x, y) -/
noncomputable def tKget (a : Addr) (D : List (Str × V)) (td ty tx : TE) : TE := fun σ H Q => td σ H fun u H1 => u = .ref a ∧ ty σ H1 fun y H2 => tx σ H2 fun z H3 => ∃ x, y = .str x ∧ Q ((KTD.datumAt x D).getD z) H3
theorem pe_kget2 (hT : ∀ h, X.K.In h → VTab h a D) (ho : PE X o td) (he : PE X e ty) (hf : PE X f tx) (m : M2 X o "get" apos e f cpos) : PE X (.Call (.Attribute o "get" apos) [e, f] [] cpos) (tKget a D td ty tx) := by
  intro pins s σ H Q I h
  refine wpAny_Call_method m.base m.few m.line PySem.F.plainAttrs_dict PySem.F.slot_dict_get PySem.F.type_dict_get (thn (ho pins s σ H _ I h) fun u s1 ⟨x', H1, I1, rx, ex, q1⟩ => ?_)
  subst ex
  obtain rfl : u = Value.ref a := rx
  refine ⟨(hT _ I1.kIn).typeIs, (hT _ I1.kIn).noDict, ?_⟩
  rw [m.trees]
  refine Calls.callWith_builtin rfl (Calls.evalArgs_plain (Calls.spliced_cons (thn (he pins s1 σ H1 _ I1 q1) fun iv s2 ⟨y, H2, I2, ry, q2⟩ => Calls.spliced_cons (thn (hf pins s2 σ H2 _ I2 q2) fun fv s3 ⟨z, H3, I3, rz, x, ey, q3⟩ => Calls.spliced_nil ?_))))
  subst ey
  obtain ⟨tk, rfl⟩ := ry
  refine kd_get2 (hT _ I3.kIn) (fun v u e r => ⟨v, H3, I3.tok _, r, ?_⟩) fun e => ⟨z, H3, I3.tok _, rz, ?_⟩
  · rw [e] at q3; exact q3
  · rw [e] at q3; exact q3
end
end L2
/-! range(i, -1, -1); a comprehension over a range whose element changes the heap -/
namespace L2
open PySem PySem.Spec PyProof.Rows
set_option maxRecDepth 100000
/-- hi, hi - 1, .. (n of them) -/
noncomputable def Itd (hi : Int) (n : Nat) : It := ⟨fun i _ => i < n, fun i H x H' => H' = H ∧ x = .int (hi - i), fun i _ => n ≤ i⟩
theorem turn_down {P : Program} {w : World} {K : PySem.W.Frag} {tg : Expr} (it : Addr) (hi : Int) (n : Nat) : Turn P w K tg (Itd hi n) [it] it (fun i h => IsRangeIter h it (hi + (i : Nat) * (-1)) ((n : Int) - (i : Nat)) (-1)) where
  mem := by simp
  obj := fun i h st b hb => by
    have e : b = it := by simpa using hb
    subst e
    refine ⟨_, st, fun v z => ?_⟩
    cases (show Data.fields _ = Data.cell v from z)
  keep := fun i h h' st k => k it (by simp) _ st
  item := by
    intro X hP hw hK hc i pins s σ H E I hf st hg
    subst hP hw hK
    obtain ⟨f0, f1, f2, f3, f4, f5⟩ := hf it (by simp)
    refine (Walks.range (prog := X.prog) (w := X.w) (I.ok.hd hc) it hi (-1) n).item i s _ _ hg st fun v h' tk hv st' kk => ?_
    obtain ⟨t, rfl⟩ := hv
    have I1 : Inv X pins σ H { s with heap := h', toks := tk } := I.turned (fun b o hb e => kk b o (by simpa using hb) e) f0 f1 f3 f4 f5
    refine ⟨_, rfl, go_of (s := { s with heap := h', toks := tk }) (n := "range_iterator") st' rfl rfl (by decide) ⟨.int (hi - i), H, I1, ⟨t, ?_⟩, ⟨rfl, rfl⟩, st', fun b hb => (hf b hb).1⟩⟩
    rw [Int.mul_neg, Int.mul_one, Int.sub_eq_add_neg]
  done := by
    intro X hP hw hK hc i pins s σ H E I hf st hg
    subst hP hw hK
    obtain ⟨f0, f1, f2, f3, f4, f5⟩ := hf it (by simp)
    exact wpAny_pyNext_range_end (I.ok.hd hc) st (by have : n ≤ i := hg; lia) fun h' eb => ⟨rfl, I.turned (t' := s.toks) (fun b o hb e => eb b o hb e) f0 f1 f3 f4 f5⟩
  self := fun _ _ _ _ _ st h => wpAny_pyIter_rangeiter st h
theorem size_down {i : Int} (h : -1 ≤ i) : Builtin.Range.rangeSize i (-1) (-1) = i + 1 := by
  (unfold Builtin.Range.rangeSize)
  rw [if_neg (by decide)]
  split
  · rw [show (-(-1) : Int) = 1 from rfl, Int.ediv_one]; lia
  · lia
theorem small_down {i : Int} (h : -1 ≤ i) (h2 : i < 2 ^ 61) : Builtin.Range.small i (-1) (-1) = true := by
  unfold Builtin.Range.small
  rw [size_down h]
  simp only [Builtin.Range.rangeFitsLong, Bool.and_eq_true, Bool.or_eq_true, decide_eq_true_eq, beq_iff_eq]
  exact ⟨⟨⟨⟨⟨by lia, by lia⟩, by decide, by decide⟩, by decide, by decide⟩, by lia, by lia⟩, .inr (by decide)⟩
section
variable {X : Cx} {tg : Expr}
noncomputable def iDown (ta : TA) : TI := fun σ H R => ta σ H fun vs H1 => ∃ i : Int, vs = [.int i, .int (-1), .int (-1)] ∧ (-1 ≤ i ∧ i < 2 ^ 61) ∧ R (Itd i (i + 1).toNat) H1
theorem down_it {pins : List (Addr × Obj)} {σ : St} {H : Hp} {s : Shared} {R : It → Hp → Prop} {E : Value → Shared → Prop} {i : Int} {t u v : Tok} {tk : Nat} (I : Inv X pins σ H s) (h1 : -1 ≤ i) (h2 : i < 2 ^ 61) (q : R (Itd i (i + 1).toNat) H) :
    wpAny (model X.prog X.w) X.A (pyIter (.ref s.heap.objs.size)) (PIE X pins σ tg R) E { s with heap := s.heap.push { cls := .type "range", data := .fields #[.int i t, .int (-1) u, .int (-1) v] }, toks := tk } := by
  refine wpAny_pyIter_range (IsRange.new ..) (small_down h1 h2) ?_
  have I1 : Inv X pins σ H { s with heap := s.heap.push { cls := .type "range", data := .fields #[.int i t, .int (-1) u, .int (-1) v] }, toks := tk } := I.kept fun b o e => Heap.get?_push_of_some _ e
  generalize s.heap.push { cls := .type "range", data := .fields #[.int i t, .int (-1) u, .int (-1) v] } = h3 at I1 ⊢
  refine ⟨h3.objs.size, [h3.objs.size], _, _, H, rfl, I1.kept (t' := tk) fun b o e => Heap.get?_push_of_some _ e, turn_down _ i (i + 1).toNat, ?_, fun b hb => ?_, q⟩
  · show IsRangeIter _ _ (i + ((0 : Nat) : Int) * (-1)) ((((i + 1).toNat : Nat) : Int) - ((0 : Nat) : Int)) (-1)
    rw [show i + ((0 : Nat) : Int) * (-1) = i by simp, show (((i + 1).toNat : Nat) : Int) - ((0 : Nat) : Int) = Builtin.Range.rangeSize i (-1) (-1) by rw [size_down h1]; lia]
    exact Heap.get?_push_size _ rfl
  · have e : b = h3.objs.size := by simpa using hb
    subst e
    exact I1.fpOk (Nat.le_refl _) (I1.hok.fresh (Nat.le_refl _))
theorem pi_down {a b c : Expr} {ta : TA} {p pos : Pos} (hg : Gl X "range") (hm : X.mg "range" = none) (ha : PA X [a, b, c] ta) (hs : starEach [a, b, c] X.env = (false, eval a X.env) :: starEach [b, c] X.env := by rfl) (hs2 : (backTo pos (starEach [b, c] X.env)).any (·.1) = false := by rfl) :
    PI X tg (.Call (.Name "range" p) [a, b, c] [] pos) (iDown ta) := by
  intro pins s σ H R I h
  refine Call_ (ld_blt I hg hm boot_range (PyProof.Rows.callWith_type1 (thn (ha pos pins s σ H _ I h) fun us s1 ⟨vs, H1, I1, r1, q1⟩ => ?_) hs hs2))
  obtain ⟨i, e, ⟨q1, q2⟩, q⟩ := q1
  subst e
  cases r1 with
  | cons r rr =>
    cases rr with
    | cons r' rr =>
      cases rr with
      | cons r2 rr =>
        cases rr
        obtain ⟨t, rfl⟩ := r
        obtain ⟨t', rfl⟩ := r'
        obtain ⟨t2, rfl⟩ := r2
        exact call_range_3 (by decide) (down_it I1 q1 q2 q) (Or.inl (PyProof.noPylong_small (by lia)))
end
theorem for_down {hi : Int} {n : Nat} {g : TG} {tb : TS} {D : Ends} {σ : St} {H : Hp} (Pv : Nat → St → Hp → Prop) (h0 : Pv 0 σ H)
    (hs : ∀ i σ H, i < n → Pv i σ H → g (.int (hi - (i : Nat))) σ H fun σ2 H2 => tb { D with nx := Pv (i + 1), ct := Pv (i + 1), bk := D.nx } σ2 H2) (hd : ∀ σ H, Pv n σ H → D.nx σ H) :
    ∃ W : Nat → Nat → St → Hp → Prop, (∃ m, W 0 m σ H) ∧ ∀ i m σ H, W i m σ H →
      ((Itd hi n).stop i H ∧ D.nx σ H) ∨ ((Itd hi n).go i H ∧ ∃ N : St → Hp → Prop, (∀ σ' H', N σ' H' → ∃ m', m' < m ∧ W (i + 1) m' σ' H') ∧ ∀ x H', (Itd hi n).yld i H x H' → g x σ H' fun σ2 H2 => tb { D with nx := N, ct := N, bk := D.nx } σ2 H2) := by
  refine ⟨fun i m σ H => m = n - i ∧ i ≤ n ∧ Pv i σ H, ⟨n, by simp, Nat.zero_le _, h0⟩, ?_⟩
  rintro i m σ H ⟨rfl, hi', p⟩
  by_cases hlt : i < n
  · exact .inr ⟨hlt, Pv (i + 1), fun σ' H' p' => ⟨n - (i + 1), by lia, rfl, hlt, p'⟩, fun x H' ⟨z1, z2⟩ => by subst z1 z2; exact hs i σ _ hlt p⟩
  · have e : i = n := by lia
    subst e
    exact .inl ⟨Nat.le_refl _, hd σ H p⟩
/-- behind a turn -/
noncomputable def CpF (cp : St) (P : Hp → List V → Prop) : St → Hp → List V → Prop := fun σ H zs => (∃ o : St, o.length = 1 ∧ σ = o ++ cp) ∧ P H zs
theorem CpF.mk {cp : St} {P : Hp → List V → Prop} {x : Option V} {H : Hp} {zs : List V} (h : P H zs) : CpF cp P (x :: cp) H zs := ⟨⟨[x], rfl, rfl⟩, h⟩
/-- a comprehension over a range: whatever the element does to the heap -/
theorem comp_rngF {cp : St} {te : TE} {Q : VK} {n : Nat} {H1 : Hp} {lo : Int} (Pv : Nat → Hp → List V → Prop) (hz : n ≤ sizeLine) (h0 : Pv 0 H1 []) (hlen : ∀ i H zs, Pv i H zs → zs.length ≤ i)
    (step : ∀ i H zs, i < n → Pv i H zs → te (some (.int (lo + (i : Nat))) :: cp) H fun v H5 => CpF cp (Pv (i + 1)) (some (.int (lo + (i : Nat))) :: cp) H5 (zs ++ [v])) (done : ∀ H zs, Pv n H zs → ∀ p, H p = none → Q (.ref p) (upd H p (.lst zs))) :
    ∃ W : Nat → Nat → St → Hp → List V → Prop, (∃ m, W 0 m (List.replicate 1 none ++ cp) H1 []) ∧ CompW (Itr lo n) (gName 0) tTrue te Q W := by
  refine ⟨fun i m σ H zs => m = n - i ∧ i ≤ n ∧ CpF cp (Pv i) σ H zs, ⟨n, by simp, Nat.zero_le _, ⟨_, by simp, rfl⟩, h0⟩, ?_⟩
  rintro i m σ H zs ⟨rfl, hi, ⟨o, ho, rfl⟩, pv⟩
  have hl := hlen _ _ _ pv
  by_cases hlt : i < n
  · refine .inr ⟨hlt, by lia, CpF cp (Pv (i + 1)), fun σ2 H2 zs2 q => ⟨n - (i + 1), by lia, rfl, hlt, q⟩, fun x H2 y => ?_⟩
    obtain ⟨z, rfl⟩ := one_of ho
    obtain ⟨rfl, rfl⟩ := y
    exact step i _ zs hlt pv
  · have e : i = n := by lia
    subst e
    exact .inl ⟨Nat.le_refl _, by lia, done H zs pv⟩
end L2
/-! what stays where lists and dicts change; a function handed in, of any arguments -/
namespace L2
open PySem PySem.Spec PyProof.Rows
set_option maxRecDepth 100000
noncomputable def Tup (H H' : Hp) : Prop := ∀ b o, H b = some o → ((∃ xs, o = .tup xs) ∨ ∃ ob u, o = .frz ob u) → H' b = some o
theorem Tup.trans {H H1 H2 : Hp} (a : Tup H H1) (b : Tup H1 H2) : Tup H H2 := fun c o h k => b c o (a c o h k) k
theorem Same.tup {H H' : Hp} (s : Same H H') : Tup H H' := fun b o h _ => s b o h
theorem Tup.upd {H : Hp} {a : Addr} {o : HO} (h : ∀ u, H a = some u → (∃ xs, u = .lst xs) ∨ ∃ kvs, u = .dK kvs) : Tup H (upd H a o) := fun b u e k => by
  have ne : b ≠ a := fun z => by
    subst z
    rcases h u e with ⟨xs, rfl⟩ | ⟨kvs, rfl⟩ <;> rcases k with ⟨_, z⟩ | ⟨_, _, z⟩ <;> cases z
  rw [upd_ne ne]
  exact e
theorem Tup.lst {H : Hp} {a : Addr} {xs : List V} {o : HO} (h : H a = some (.lst xs)) : Tup H (L2.upd H a o) := Tup.upd fun u e => .inl ⟨xs, by rw [h] at e; exact (Option.some.inj e).symm⟩
theorem Tup.dct {H : Hp} {a : Addr} {kvs : List (Key × V)} {o : HO} (h : H a = some (.dK kvs)) : Tup H (L2.upd H a o) := Tup.upd fun u e => .inr ⟨kvs, by rw [h] at e; exact (Option.some.inj e).symm⟩
theorem Tup.seqT {K : PySem.W.Frag} {H H' : Hp} {a : Addr} {xs : List V} (e : Tup H H') (h : SqT K H a xs) : SqT K H' a xs := by
  rcases h with h | h
  · refine .inl ?_
    rcases h with h | ⟨o, h⟩
    · exact .inl (e _ _ h (.inl ⟨xs, rfl⟩))
    · exact .inr ⟨o, e _ _ h (.inr ⟨o, _, rfl⟩)⟩
  · exact .inr h
/-- a thing made later is written -/
theorem Same.put {H H' : Hp} {a : Addr} {o : HO} (s : Same H H') (h : H a = none) : Same H (L2.upd H' a o) := fun b u e => by
  rw [upd_ne (ne_of_none e h)]
  exact s b u e
/-- a function handed in: it is there, and keeps R -/
structure FnV (P : Program) (w : World) (K : PySem.W.Frag) (mg : Str → Option Value) (base : Heap) (k : Nat) (s : Shared) (H : Hp) (f : Addr) (R : List V → Hp → VK → Prop) : Prop where
  here : (∃ φ : Heap → Prop, H f = some (.ext φ) ∧ ∀ h, φ h → PySem.W.FnAt f h) ∨ ∀ h, K.In h → PySem.W.FnAt f h
  run : ∀ (A : Around) (outer : List Env) (s' : Shared) (H' : Hp) (vs : List V) (us : List Value) (Q : VK), Room k A → Env0 P w K mg base A outer s' H' → Same H H' →
    (∀ c o, s.heap.get? c = some o → H c = none → H' c = none ∧ ∃ sl, s'.heap.get? c = some { o with slots := sl }) → Vals vs us → R vs H' Q → codeAny (model P w) A (.call (.ref f) ⟨us, []⟩) (CR CX0 outer P w H' s' Q E0) s'
theorem FnV.ofK {P : Program} {w : World} {K : PySem.W.Frag} {mg : Str → Option Value} {base : Heap} {k : Nat} {s : Shared} {H : Hp} {f : Addr} {fd : FuncData} {ps : List Str} {sp : Sp} {x qual : Str} {st : Stmt} (F : FnOk P w K mg base CX0 k f fd ps sp) (G : Fun K x qual st f fd) (hb : Binds K fd ps []) :
    FnV P w K mg base k s H f (fun vs H' Q => sp vs H' Q E0) := by
  refine ⟨.inr fun h X => ?_, fun A outer s' H' vs us Q hr e0 _ _ r q => ?_⟩
  · obtain ⟨oc, od, kV, doc, pm, an, cdv, ct, osl, rfl, lk, _⟩ := G.ex
    exact ⟨_, _, _, _, X _ _ lk⟩
  · have KX : K.In s'.heap := e0.mod.kin.keeps fun b o e => (e0.bs b o e).1
    have hl : us.length = ps.length := by rw [← r.length]; exact F.len _ _ _ _ q
    have hbb := hb s' us KX (by rw [List.append_nil]; exact hl)
    rw [List.append_nil] at hbb
    exact F.run A outer s' H' ⟨us, []⟩ us vs Q E0 hr e0 hbb r q
section
variable {X : Cx} {k : Nat} {f : Addr} {x : Str} {p pos : Pos} {e : Expr} {es : List Expr} {t : TA} {R : List V → Hp → VK → Prop}
theorem pe_callFn {i : Nat} (L : FnV X.prog X.w X.K X.mg X.base k X.s₀ X.H₀ f R) (hr : Room k X.A) (hex : X.ex = []) (hN : X.N[i]? = some x) (hv : Vis X.env.scope x) (ha : PA X (e :: es) t)
    (hd : (x == ("__debug__" : Str)) = false := by decide) (hcd : (x == ("__classdict__" : Str)) = false := by decide) (he : starEach (e :: es) X.env = (false, eval e X.env) :: starEach es X.env := by rfl) (hpl : (backTo pos (starEach es X.env)).any (·.1) = false := by rfl) :
    PE X (.Call (.Name x p) (e :: es) [] pos) (fun σ H Q => σ[i]? = some (some (.ref f)) ∧ Same X.H₀ H ∧ t σ H fun vs H1 => Same X.H₀ H1 ∧ R vs H1 Q) := by
  intro pins s σ H Q I ⟨hσ, sm, h⟩
  have fnat : ∀ {σ : St} {H1 : Hp} {s1 : Shared}, Inv X pins σ H1 s1 → Same X.H₀ H1 → PySem.W.FnAt f s1.heap := fun I1 sm1 => by
    rcases L.here with ⟨φ, hφ, hfn⟩ | z
    · exact hfn _ (I1.hok f _ (sm1 _ _ hφ)).1
    · exact z _ I1.kIn
  refine wpAny_Call_Name_kw (thn (pe_var hN hv hd hcd pins s σ H (fun v H1 => v = .ref f ∧ H1 = H) I ⟨_, hσ, rfl, rfl⟩) fun u s1 ⟨v, H1, I1, r, e1, e2⟩ => ?_)
  subst e1 e2
  cases r
  refine PySem.W.callWith_F (fnat I1 sm) (thn (ha pos pins s1 σ H1 _ I1 h) fun us s2 ⟨vs, H2, I2, rv, sm2, hq⟩ => ⟨fnat I2 sm2, ?_⟩) he hpl
  refine wpAny_call (codeAny_mono (L.run X.A X.stack s2 H2 vs us Q hr I2.env0 sm2 (fun c o hc hn => ?_) rv hq) fun r s' hq => ?_)
  · have hcx : c ∉ X.ex := by rw [hex]; simp
    exact ⟨I2.base.free c o hc hn hcx, I2.base.any hc hn hcx⟩
  cases r with
  | error e => exact False.elim hq
  | ok fl =>
    cases fl with
    | ret u => exact I2.after hq
    | next => exact False.elim hq
    | brk => exact False.elim hq
    | cont => exact False.elim hq
end
/-- o.pop(), within a comprehension too -/
theorem pe_pop {X : Cx} (K : PySem.W.Frag) (hK : X.K = K) {o : Expr} {to : TE} {apos cpos : Pos} (ho : PE X o to) (hbase : attributeBase o "pop" X.env (eval o X.env) = eval o X.env := by rfl) (hline : (apos.endLine == cpos.line) = true := by rfl) :
    PE X (.Call (.Attribute o "pop" apos) [] [] cpos) (tBM0 K "list" rPop to) := hK ▸ pe_bm0 PySem.F.plainAttrs_list PySem.F.slot_list_pop PySem.F.type_list_pop mt_pop ho hbase hline
end L2
/-! what is barred by what is barred; one row more -/
namespace Bw
end Bw
/-! deeds that keep the span -/
namespace Bw
section
variable {p : Int} {n : Nat} {L L' L'' : List (List Int)}
end
end Bw
namespace S21
open PySem L2 Bw
set_option maxHeartbeats 3900000
noncomputable def top (i : Nat) : Stmt := PySem.Challenge.pw_bentwires_k12_no_drawing.main.body.getD i (.Pass ⟨0, 0, 0, 0⟩)
noncomputable abbrev s_read : Stmt := top 12
noncomputable abbrev s_word_of : Stmt := top 13
noncomputable abbrev s_is_number : Stmt := top 14
noncomputable abbrev s_numbers_fit : Stmt := top 15
noncomputable abbrev s_parts_fit : Stmt := top 16
noncomputable abbrev s_folded : Stmt := top 17
noncomputable abbrev s_all_folded : Stmt := top 18
noncomputable abbrev s_measured : Stmt := top 19
noncomputable abbrev s_measure : Stmt := top 20
noncomputable abbrev s_joined_sides : Stmt := top 21
noncomputable abbrev s_first_unmet : Stmt := top 22
noncomputable abbrev sPrime : Stmt := top 24
noncomputable abbrev s_law_words : Stmt := top 25
noncomputable abbrev s_law_other : Stmt := top 26
noncomputable abbrev s_law_spoiled : Stmt := top 27
noncomputable abbrev sNumber : Stmt := top 28
noncomputable abbrev s_law_shape : Stmt := top 29
noncomputable abbrev s_law_meet : Stmt := top 30
noncomputable abbrev s_law_right : Stmt := top 31
noncomputable abbrev s_law : Stmt := top 32

/-- what the module's names are -/
structure Txt (mg : Str → Option Value) : Prop where
  range : mg "range" = none
  zip : mg "zip" = none
  tuple : mg "tuple" = none
  list : mg "list" = none
  int : mg "int" = none
  bool : mg "bool" = none
  isinstance : mg "isinstance" = none
  len : mg "len" = none
  sum : mg "sum" = none
  max : mg "max" = none
  min : mg "min" = none
  enumerate : mg "enumerate" = none
  any : mg "any" = none
  all : mg "all" = none
  str : mg "str" = none
theorem bt_max : bootBuiltins "max" = some (.builtin "max") := by decide +kernel
theorem iteNe {c A B : Prop} [Decidable c] (h1 : ¬ c → A) (h2 : c → B) : if (!decide c) = true then A else B := by
  by_cases h : c
  · exact iteNS h (h2 h)
  · rw [decide_eq_false h]; exact iteT (h1 h)

section
variable {K : PySem.W.Frag}
end

/-! ### an item of a list of bounded ints -/
/-- a statement, then the others: what holds between them -/
theorem seq_by {s1 s2 : TS} {D : Ends} {σ : St} {H : Hp} (J : St → Hp → Prop) (h : ∀ N : St → Hp → Prop, (∀ σ H, J σ H → N σ H) → s1 { D with nx := N } σ H) (hr : ∀ σ H, J σ H → s2 D σ H) : tSeq s1 s2 D σ H := h _ hr
end S21
namespace L2
open PySem PySem.Spec PyProof.Rows
set_option maxHeartbeats 3900000
section
variable {P : Program} {w : World} {K : PySem.W.Frag} {mg : Str → Option Value} {base : Heap}
end
end L2
/-! the law's own reduced list -/
namespace Bw
end Bw
/-! rows in steps: what is left of a row by them; the greedy walk through lists that grow -/
namespace Bw
section
variable {p : Int} {n : Nat}
end
end Bw
namespace S21
open PySem L2 Bw
set_option maxHeartbeats 3900000
/-! ### all_folded -/
noncomputable def dParts : List (Str × V) := [("times", .int 1), ("back", .int 1), ("beside", .int 2), ("then", .int 2)]
/-- how many parts a word has -/
noncomputable def pcI (x : Str) : Nat := if x = "times" ∨ x = "back" then 1 else if x = "beside" ∨ x = "then" then 2 else 0
theorem pc_is (x : Str) : (PyProof.Rows.KTD.datumAt x dParts).getD (.int 0) = .int (pcI x) := by
  unfold dParts pcI
  simp only [PyProof.Rows.KTD.datumAt, decide_eq_true_eq]
  by_cases h1 : x = "times"
  · simp [h1]
  · by_cases h2 : x = "back"
    · simp [h2]
    · by_cases h3 : x = "beside"
      · subst h3; rfl
      · by_cases h4 : x = "then"
        · subst h4; rfl
        · simp [h1, h2, h3, h4]
theorem pc_le (x : Str) : pcI x ≤ 2 := by
  unfold pcI
  split
  · lia
  · split <;> lia
structure Parts (K : PySem.W.Frag) (mg : Str → Option Value) (aP : Addr) : Prop where
  nm : mg "PARTS" = some (.ref aP)
  tab : ∀ h, K.In h → VTab h aP dParts
theorem npt : (["part", "values"] : List Str).Nodup := by decide +kernel
section
variable {P : Program} {w : World} {K : PySem.W.Frag} {mg : Str → Option Value} {base : Heap}
/-- words are gone through from the last one to the first; G i vs: behind the places from i on the values vs stand -/
structure FoldAsk (k : Nat) (P : Program) (w : World) (K : PySem.W.Frag) (mg : Str → Option Value) (base : Heap) (s : Shared) (H : Hp) (Q : VK) (aw f : Addr) (ws : List V) (R : List V → Hp → VK → Prop) (G : Nat → List V → Hp → Prop) : Prop where
  wds : SqT K H aw ws
  len : ws.length ≤ 200
  fn : FnV P w K mg base k s H f R
  g0 : G ws.length [] H
  mono : ∀ i vs H1 H2, G i vs H1 → Tup H1 H2 → G i vs H2
  few : ∀ i vs H1, G i vs H1 → vs.length ≤ 200
  kind : ∀ i, i < ws.length → (∃ x, ws[i]? = some (.str x)) ∨ ∃ n, ws[i]? = some (.int n)
  num : ∀ i n vs H1, ws[i]? = some (.int n) → G (i + 1) vs H1 → G i (vs ++ [.int n]) H1
  word : ∀ i x vs H1, ws[i]? = some (.str x) → G (i + 1) vs H1 → ∃ rest ps, vs = rest ++ ps.reverse ∧ ps.length = pcI x ∧
    ∀ pa H2 Q', Tup H1 H2 → H2 pa = some (.lst ps) → (∀ v H3, Same H2 H3 → G i (rest ++ [v]) H3 → Q' v H3) → R [.int i, .str x, .ref pa] H2 Q'
  first : ∃ x, ws[0]? = some (.str x)
  fin : ∀ td kvs vs v H', Same H H' → H' td = some (.dK kvs) → valV kvs (Sum.inl 0) = some v → G 0 (vs ++ [v]) H' → Q (.ref td) H'
noncomputable def spFold (k : Nat) (P : Program) (w : World) (K : PySem.W.Frag) (mg : Str → Option Value) (base : Heap) (s : Shared) : Sp := fun vs H Q _ => ∃ (aw f : Addr) (ws : List V) (R : List V → Hp → VK → Prop) (G : Nat → List V → Hp → Prop), vs = [.ref aw, .ref f] ∧ FoldAsk k P w K mg base s H Q aw f ws R G
noncomputable abbrev nAf : List Str := ["words", "made", "told", "values", "place", "word", "parts"]
theorem scAf : FnScope ["words", "made", "told", "values", "place", "word", "parts"] ["words", "made"] (defScope s_all_folded) := ⟨rfl, rfl, rfl, by decide +kernel, rfl, by decide +kernel, by decide +kernel⟩
/-- between the turns: j words are done -/
noncomputable def WAf (K : PySem.W.Frag) (aw f td vl : Addr) (ws : List V) (G : Nat → List V → Hp → Prop) (H : Hp) (j : Nat) (σ : St) (H' : Hp) : Prop := Same H H' ∧ ∃ (s4 s5 s6 : Option V) (kvs : List (Key × V)) (vs : List V),
  σ = [some (.ref aw), some (.ref f), some (.ref td), some (.ref vl), s4, s5, s6] ∧ H' td = some (.dK kvs) ∧ H' vl = some (.lst vs) ∧ kvs.length ≤ j ∧ G (ws.length - j) vs H' ∧
  (∀ x, ws[ws.length - j]? = some (.str x) → ∃ rest v, vs = rest ++ [v] ∧ valV kvs (Sum.inl ((ws.length - j : Nat) : Int)) = some v)
theorem ok_fold {k : Nat} {aP f : Addr} {fd : FuncData} (F : Fun K "all_folded" "all_folded" s_all_folded f fd) (T : Txt mg) (PT : Parts K mg aP) : RunS P w K mg base (k + 1) f fd ["words", "made"] (spFold k P w K mg base) := by
  refine F.okS scAf (fun s vs H Q E h => ?_) (fun cdv A outer s H vs Q E hr h => ?_)
  · obtain ⟨aw, f, ws, R, G, rfl, _⟩ := h
    rfl
  · obtain ⟨aw, fm, ws, R, G, rfl, D⟩ := h
    have hu := hr.units
    have hu1 := hu_of hr
    refine ⟨_, pss_cons (ps_set (i := 2) scAf.nd rfl (Or.inl rfl) pe_dnewK)
      (pss_cons (ps_set (i := 3) scAf.nd rfl (Or.inr rfl) (pe_lst pa_nil))
      (pss_cons (ps_for PassesOwn.never rfl (pi_down rfl T.range (pa_cons (pe_op op_sub (pe_callB (cLen K rfl) rfl T.len bt_len (pa_cons (pv 0) pa_nil)) pe_int) (pa_cons (pe_un un_neg pe_int) (pa_cons (pe_un un_neg pe_int) pa_nil)))) (pg_name (i := 4) scAf.nd rfl (Or.inl rfl))
        (pss_cons (ps_set (i := 5) scAf.nd rfl (Or.inl rfl) (pe_ix (ixT K rfl) (pv 0) (pv 4) (fun _ _ => rfl)))
        (pss_one (ps_if (pt_val (pe_callB (call_isinst (T := "int")) rfl T.isinstance bt_isinstance (pa_cons (pv 5) (pa_cons (pe_ty rfl T.int bt_int) pa_nil))))
          (pss_one (ps_expr (pe_bm PySem.F.plainAttrs_list PySem.F.slot_list_append PySem.F.type_list_append mt_append (pv 3) (pa_cons (pv 5) pa_nil))))
          (pss_cons (ps_setComp (N := ["part", "values"]) (own := 1) (caps := [3]) (i := 6) rfl scAf.nd rfl rfl (pi_range1 rfl T.range (pa_cons (pe_kget2 PT.tab (pe_glob (v := .ref _) rfl PT.nm rfl) (pv 5) pe_int ⟨rfl, rfl, rfl, rfl⟩) pa_nil)) (show BlkScope nAf (defScope s_all_folded) ["part", "values"] 1 [3] _ from .mk' (by decide +kernel))
            (fun _ _ _ _ _ => pg_name (i := 0) npt rfl (Or.inl rfl)) (fun _ _ _ _ _ => pts_nil) (fun _ _ _ _ _ => pe_pop K rfl (pv 1)))
          (pss_cons (ps_dput hu1 (pv 2) (pv 4) (by exact pe_callFn (i := 1) D.fn hr rfl rfl (Or.inl rfl) (pa_cons (pv 4) (pa_cons (pv 5) (pa_cons (pv 6) pa_nil)))) rfl)
          (pss_one (ps_expr (pe_bm PySem.F.plainAttrs_list PySem.F.slot_list_append PySem.F.type_list_append mt_append (pv 3) (pa_cons (pe_dget hu1 (pv 2) (pv 4) (fun _ _ => rfl)) pa_nil))))))))))
      (pss_one (ps_ret (pv 2))))), ?_⟩
    have hz : (1000 : Nat) ≤ sizeLine := by decide
    have hl := D.len
    intro td htd
    refine ⟨(by show 0 ≤ sizeLine; lia), fun vl hvl => ?_⟩
    have nvt : vl ≠ td := fun z => by rw [z, upd_same] at hvl; cases hvl
    have hvl0 : H vl = none := by rw [upd_ne nvt] at hvl; exact hvl
    have s2 : Same H (upd (upd H td (.dK [])) vl (.lst [])) := (Same.upd htd).trans (.upd hvl)
    refine ⟨_, rfl, aw, ws, rfl, .inr (s2.seqT D.wds), _, _, rfl, rfl, _, rfl, _, rfl, _, rfl, ⟨by lia, by lia⟩, ?_⟩
    have en : ((ws.length : Int) - 1 + 1).toNat = ws.length := by lia
    rw [en]
    refine for_down (WAf K aw fm td vl ws G H) ⟨s2, none, none, none, [], [], rfl, ?_, upd_same, Nat.zero_le _, D.mono _ _ _ _ D.g0 s2.tup, fun x hx => ?_⟩ ?_ ?_
    · rw [upd_ne (Ne.symm nvt)]; exact upd_same
    · rw [Nat.sub_zero, List.getElem?_eq_none (Nat.le_refl _)] at hx; cases hx
    · rintro j σ H' hj ⟨sm, s4, s5, s6, kvs, vs, rfl, htd', hvl', hk, hG, _⟩
      obtain ⟨i, hi⟩ : ∃ i, ws.length = i + 1 + j := ⟨ws.length - 1 - j, by lia⟩
      have e1 : (ws.length : Int) - 1 - (j : Nat) = ((i : Nat) : Int) := by lia
      have e2 : ws.length - j = i + 1 := by lia
      have e3 : ws.length - (j + 1) = i := by lia
      rw [e1]
      rw [e2] at hG
      have hfew := D.few _ _ _ hG
      rcases D.kind i (by lia) with ⟨x, hx⟩ | ⟨n, hx⟩
      · obtain ⟨rest, ps, rfl, hps, hmade⟩ := D.word i x vs H' hx hG
        refine ⟨_, rfl, _, rfl, aw, _, ((i : Nat) : Int), _, rfl, rfl, sm.seqT D.wds, atI_nat (j := i) hx, ?_⟩
        refine ⟨_, rfl, .str x, .type "str", false, rfl, .str x, kit_str_int K, false, rfl, iteF ?_⟩
        have hpc := pc_le x
        refine ⟨rfl, _, rfl, x, rfl, ((pcI x : Nat) : Int), by rw [pc_is], by lia, by lia, ?_⟩
        refine comp_rngF (cp := [some (.ref vl)]) (n := pcI x) (lo := 0) (fun k Hx zs => zs = ps.take k ∧ Hx vl = some (.lst (rest ++ (ps.drop k).reverse)) ∧ ∀ b, b ≠ vl → Hx b = H' b) (by lia) ⟨rfl, hvl', fun _ _ => rfl⟩ (fun k Hx zs h => by rw [h.1]; exact List.length_take_le _ _) ?_ ?_
        · rintro k Hx zs hk' ⟨rfl, h1, h2⟩
          have hlt : k < ps.length := by lia
          have ex : rest ++ (ps.drop k).reverse = (rest ++ (ps.drop (k + 1)).reverse) ++ [ps[k]] := by rw [List.drop_eq_getElem_cons hlt, List.reverse_cons, List.append_assoc]
          rw [ex] at h1
          refine ⟨_, rfl, .inl ⟨rfl, _, .of h1⟩, vl, _, ps[k], rfl, rfl, h1, by simp, CpF.mk ⟨?_, ?_, fun b hb => ?_⟩⟩
          · rw [List.take_add_one, List.getElem?_eq_getElem hlt]; rfl
          · rw [upd_same, List.dropLast_concat]
          · rw [upd_ne hb]; exact h2 b hb
        · rintro Hx zs ⟨rfl, h1, h2⟩ pa hpa
          rw [List.take_of_length_le (by lia)]
          rw [List.drop_eq_nil_of_le (by lia), List.reverse_nil, List.append_nil] at h1
          have ntv : td ≠ vl := Ne.symm nvt
          have keep : ∀ b o, b ≠ vl → H' b = some o → (upd Hx pa (.lst ps)) b = some o := fun b o nb e => by
            have h3 : Hx b = some o := by rw [h2 b nb]; exact e
            rw [upd_ne (ne_of_none h3 hpa)]; exact h3
          have sH2 : Same H (upd Hx pa (.lst ps)) := fun b o e => keep b o (ne_of_none e hvl0) (sm b o e)
          have tp : Tup H' (upd Hx pa (.lst ps)) := fun b o e k => keep b o (fun z => by
            subst z
            rw [hvl'] at e
            cases e
            rcases k with ⟨_, z⟩ | ⟨_, _, z⟩ <;> cases z) e
          have g1 : (upd Hx pa (.lst ps)) pa = some (.lst ps) := upd_same
          have g2 : (upd Hx pa (.lst ps)) vl = some (.lst rest) := by rw [upd_ne (ne_of_none h1 hpa)]; exact h1
          have g3 : (upd Hx pa (.lst ps)) td = some (.dK kvs) := keep _ _ ntv htd'
          generalize upd Hx pa (.lst ps) = H2 at sH2 tp g1 g2 g3
          refine ⟨rfl, sH2, _, rfl, _, rfl, _, rfl, sH2, hmade pa H2 _ tp g1 fun v H3 s3 hG3 => ?_⟩
          have hrl : rest.length ≤ 200 := by rw [List.length_append] at hfew; lia
          refine ⟨_, rfl, _, rfl, td, _, rfl, DPut.k (k := Sum.inl ((i : Nat) : Int)) (s3 _ _ g3) (by lia), ?_⟩
          have hv4 : (upd H3 td (.dK (putK kvs (Sum.inl ((i : Nat) : Int)) v))) vl = some (.lst rest) := by rw [upd_ne nvt]; exact s3 _ _ g2
          have hd4 : (upd H3 td (.dK (putK kvs (Sum.inl ((i : Nat) : Int)) v))) td = some (.dK (putK kvs (Sum.inl ((i : Nat) : Int)) v)) := upd_same
          have hval : valV (putK kvs (Sum.inl ((i : Nat) : Int)) v) (Sum.inl ((i : Nat) : Int)) = some v := by rw [valV_put, if_pos rfl]
          refine ⟨_, rfl, .inl ⟨rfl, _, .of hv4⟩, _, rfl, _, rfl, td, v, rfl, hval ▸ DGet.k (k := Sum.inl ((i : Nat) : Int)) hd4, vl, rest, _, rfl, rfl, hv4, by lia, ?_⟩
          refine ⟨((sH2.trans s3).put htd).put hvl0, _, _, _, _, _, rfl, by rw [upd_ne ntv]; exact hd4, upd_same, ?_, ?_, fun x' _ => ⟨rest, v, rfl, by rw [e3]; exact hval⟩⟩
          · have := length_putK kvs (Sum.inl ((i : Nat) : Int)) v
            lia
          · rw [e3]
            exact D.mono _ _ _ _ hG3 ((Tup.dct (s3 _ _ g3)).trans (Tup.lst hv4))
      · refine ⟨_, rfl, _, rfl, aw, _, ((i : Nat) : Int), _, rfl, rfl, sm.seqT D.wds, atI_nat (j := i) hx, ?_⟩
        refine ⟨_, rfl, .int n, .type "int", true, rfl, .int n, kit_int_int K, true, rfl, iteT ?_⟩
        refine ⟨_, rfl, .inl ⟨rfl, _, .of hvl'⟩, _, rfl, vl, vs, _, rfl, rfl, hvl', by lia, ?_⟩
        have ntv : td ≠ vl := Ne.symm nvt
        refine ⟨sm.put hvl0, _, _, _, kvs, _, rfl, by rw [upd_ne ntv]; exact htd', upd_same, Nat.le_succ_of_le hk, ?_, fun x' hx' => ?_⟩
        · rw [e3]
          exact D.mono _ _ _ _ (D.num i n vs H' hx hG) (Tup.lst hvl')
        · rw [e3, hx] at hx'
          cases hx'
    · rintro σ H' ⟨sm, s4, s5, s6, kvs, vs, rfl, htd', hvl', hk, hG, hf⟩
      obtain ⟨x, hx⟩ := D.first
      rw [Nat.sub_self] at hG hf
      obtain ⟨rest, v, rfl, hv⟩ := hf x hx
      exact ⟨_, rfl, D.fin td kvs rest v H' sm htd' hv hG⟩
end
end S21
/-! a lambda of any number of names, as a function handed in -/
namespace L2
open PySem PySem.Spec PyProof.Rows
set_option maxRecDepth 100000
section
variable {P : Program} {w : World} {K : PySem.W.Frag} {mg : Str → Option Value} {base : Heap}
end
end L2
namespace S21
open PySem L2 Bw
set_option maxHeartbeats 3900000
/-! ### tables of the module: what they hold -/
noncomputable def valsI : List Value → List Int → Bool
  | [], [] => true
  | .int i _ :: vs, n :: ns => i == n && valsI vs ns
  | _, _ => false
theorem valsI_is : ∀ (vs : List Value) (ns : List Int), valsI vs ns = true → Vals (ns.map V.int) vs
  | [], [], _ => .nil
  | .int i t :: vs, n :: ns, h => by
    have h' : (i == n && valsI vs ns) = true := h
    rw [Bool.and_eq_true] at h'
    have e : i = n := beq_iff_eq.mp h'.1
    exact .cons ⟨t, by rw [e]⟩ (valsI_is vs ns h'.2)
  | [], _ :: _, h => nomatch h
  | .none :: _, [], h => nomatch h
  | v :: vs, [], h => by cases v <;> exact nomatch h
  | v :: vs, n :: ns, h => by
    cases v with
    | int i t =>
      have h' : (i == n && valsI vs ns) = true := h
      rw [Bool.and_eq_true] at h'
      have e : i = n := beq_iff_eq.mp h'.1
      exact .cons ⟨t, by rw [e]⟩ (valsI_is vs ns h'.2)
    | _ => exact nomatch h
/-- a tuple of numbers that stands in the module -/
noncomputable def intsAt (K : PySem.W.Frag) (t : Addr) (ns : List Int) : Bool := match K.lookup t with
  | some ⟨.type "tuple", _, .seq its _, _⟩ => decide (its.size ≤ 1000) && valsI its.toList ns
  | _ => false
theorem intsAt_is {K : PySem.W.Frag} {t : Addr} {ns : List Int} (h : intsAt K t ns = true) (H : Hp) : SqT K H t (ns.map V.int) := by
  unfold intsAt at h
  split at h
  case h_2 => exact nomatch h
  case h_1 d its n sl ho =>
    rw [Bool.and_eq_true] at h
    exact .inr ⟨_, its, n, ho, rfl, rfl, Nat.le_trans (of_decide_eq_true h.1) (by decide), valsI_is _ _ h.2⟩
section
variable {P : Program} {w : World} {K : PySem.W.Frag} {mg : Str → Option Value} {base : Heap}
theorem scMs : FnScope ["place", "word", "parts", "unmet"] ["place", "word", "parts"] (defScope s_measure) := ⟨rfl, rfl, rfl, by decide +kernel, rfl, by decide +kernel, by decide +kernel⟩
/-! ### folded, measured, wires -/
/-- a function handed in, handed on -/
theorem FnV.on {X : Cx} {pins : List (Addr × Obj)} {σ : St} {H1 : Hp} {s1 : Shared} {k : Nat} {f : Addr} {R : List V → Hp → VK → Prop} (I : Inv X pins σ H1 s1) (hex : X.ex = []) (sm : Same X.H₀ H1) (L : FnV P w K mg base k X.s₀ X.H₀ f R) : FnV P w K mg base k s1 H1 f R := by
  refine ⟨?_, fun A outer s' H' vs us Q hr e0 sm' hk rv hQ => L.run A outer s' H' vs us Q hr e0 (sm.trans sm') (fun c o hc hn => ?_) rv hQ⟩
  · rcases L.here with ⟨φ, h1, h2⟩ | h
    · exact .inl ⟨φ, sm _ _ h1, h2⟩
    · exact .inr h
  · have hcx : c ∉ X.ex := by rw [hex]; simp
    obtain ⟨sl, h3⟩ := I.base.any hc hn hcx
    obtain ⟨h4, sl', h5⟩ := hk c _ h3 (I.base.free c o hc hn hcx)
    exact ⟨h4, sl', h5⟩
theorem FoldAsk.on {k : Nat} {X : Cx} {pins : List (Addr × Obj)} {σ : St} {H1 : Hp} {s1 : Shared} {Q Q1 : VK} {aw f : Addr} {ws : List V} {R : List V → Hp → VK → Prop} {G : Nat → List V → Hp → Prop} (I : Inv X pins σ H1 s1) (hex : X.ex = []) (sm : Same X.H₀ H1)
    (D : FoldAsk k P w K mg base X.s₀ X.H₀ Q aw f ws R G) (q : ∀ u H', Same H1 H' → Q u H' → Q1 u H') : FoldAsk k P w K mg base s1 H1 Q1 aw f ws R G :=
  ⟨sm.seqT D.wds, D.len, FnV.on I hex sm D.fn, D.mono _ _ _ _ D.g0 sm.tup, D.mono, D.few, D.kind, D.num, D.word, D.first, fun td kvs vs v H' s' h1 h2 h3 => q _ _ s' (D.fin td kvs vs v H' (sm.trans s') h1 h2 h3)⟩
noncomputable def QFold (Q : VK) : VK := fun u H' => ∃ td kvs v, u = .ref td ∧ H' td = some (.dK kvs) ∧ valV kvs (Sum.inl 0) = some v ∧ Q v H'
noncomputable def spFolded (k : Nat) (P : Program) (w : World) (K : PySem.W.Frag) (mg : Str → Option Value) (base : Heap) (s : Shared) : Sp := fun vs H Q _ => ∃ (aw f : Addr) (ws : List V) (R : List V → Hp → VK → Prop) (G : Nat → List V → Hp → Prop), vs = [.ref aw, .ref f] ∧ FoldAsk k P w K mg base s H (QFold Q) aw f ws R G
theorem scFo : FnScope ["words", "made"] ["words", "made"] (defScope s_folded) := ⟨rfl, rfl, rfl, by decide +kernel, rfl, by decide +kernel, by decide +kernel⟩
theorem ok_folded {k : Nat} {f fA : Addr} {fd fdA : FuncData} (F : Fun K "folded" "folded" s_folded f fd)
    (GA : RunS P w K mg base (k + 1) fA fdA ["words", "made"] (spFold k P w K mg base)) (kA : PySem.W.keepIn K (.ref fA) = true) (bA : Binds K fdA ["words", "made"] []) (mA : mg "all_folded" = some (.ref fA)) : RunS P w K mg base (k + 2) f fd ["words", "made"] (spFolded k P w K mg base) := by
  refine F.okS scFo (fun s vs H Q E h => ?_) (fun cdv A outer s H vs Q E hr h => ?_)
  · obtain ⟨aw, f, ws, R, G, rfl, _⟩ := h
    rfl
  · obtain ⟨aw, fm, ws, R, G, rfl, D⟩ := h
    refine ⟨_, pss_one (ps_ret (pe_dget (hu_of hr) (pe_callS GA hr rfl mA kA bA (pa_cons (pv 0) (pa_cons (pv 1) pa_nil))) pe_int (fun _ _ => rfl))), ?_⟩
    refine ⟨_, rfl, _, rfl, fun pins s1 I => ⟨aw, fm, ws, R, G, rfl, FoldAsk.on I rfl (.refl _) D fun u H' _ ⟨td, kvs, v, e, h1, h2, h3⟩ => ?_⟩⟩
    exact ⟨td, v, e, h2 ▸ DGet.k (k := Sum.inl 0) h1, h3⟩
end
end S21
/-! texts: join, split, str, int, a walk over the signs, an int asked for in a dict of texts -/
namespace L2
open PySem PySem.Spec PyProof.Rows PySem.Builtin PySem.Builtin.Str
set_option maxRecDepth 100000
section
variable {X : Cx}
theorem vals_strs : ∀ {ys : List Str} {us : List Value}, Vals (ys.map V.str) us → StrsAre us ys
  | [], _, .nil => .nil
  | y :: ys, _, .cons r rr => by
    obtain ⟨t, rfl⟩ := r
    exact .cons y t (vals_strs rr)
theorem strs_vals : ∀ l : List (Str × Tok), Vals ((l.map (·.1)).map V.str) (strValues l)
  | [] => .nil
  | (_, t) :: l => .cons ⟨t, rfl⟩ (strs_vals l)
/-- sep.join(a list of texts) -/
theorem mt_join : MtR X "str.join" (fun x xs H Q => ∃ sep l ys, x = .str sep ∧ xs = [.ref l] ∧ SqL X.K H l (ys.map V.str) ∧ (ys.map (·.length)).sum + ys.length * sep.length ≤ 16777216 ∧ Q (.str (Txt.join sep ys)) H) := by
  intro pins s σ H x xs v us Q I rx rs h
  obtain ⟨sep, l, ys, rfl, rfl, hq, hz, q⟩ := h
  obtain ⟨t, rfl⟩ := rx
  obtain ⟨u, rfl, ru⟩ := Vals.one rs
  cases (show u = Value.ref l from ru)
  obtain ⟨its, rv, pl, _⟩ := I.list hq
  exact join_list pl.isList (by simpa using vals_strs rv) hz fun t' k => ⟨.str _, H, I.tok _, ⟨t', rfl⟩, q⟩
theorem split_new {prog : Program} {w : World} {A : Around} {E : Value → Shared → Prop} {s : Shared} {x y : Str} {t u : Tok} {Q : Value → Shared → Prop} (c0 : (y.length == 0) = false) (cz : x.length + 2 ≤ sizeLine)
    (q : ∀ l k, l.map (·.1) = Txt.split x y → Q (.ref s.heap.objs.size) { s with heap := s.heap.push { cls := .type "list", data := .seq (strValues l).toArray }, toks := k }) :
    wpAny (model prog w) A (call (.builtin "str.split") [Value.str x t, Value.str y u]) Q E s := by
  have cl := StrLaws.occ_length_le x y 0 x.length (x.length + 1)
  have cn : (Builtin.Str.partsBetween x (Builtin.Str.occurrences x y 0 x.length (x.length + 1)) y.length).length ≤ sizeLine := by
    rw [length_partsBetween]; lia
  cases c1 : (decide (x.length < y.length) || decide (Builtin.Str.strKind x < Builtin.Str.strKind y)) with
  | true => exact call_meets F.slot_str_split (typeIs_str _ _ _) F.entry_str_split (F.args_str_split_2 _ _) (meets_str_split_cannot_occur x y t u c1) (q [(x, t)] s.toks (if_pos c1).symm)
  | false =>
    have e1 : Txt.split x y = _ := if_neg (ne_true_of_eq_false c1)
    cases c2 : (Builtin.Str.occurrences x y 0 x.length (x.length + 1)).isEmpty with
    | true => exact call_meets F.slot_str_split (typeIs_str _ _ _) F.entry_str_split (F.args_str_split_2 _ _) (meets_str_split_not_found x y t u c1 c0 c2) (q [(x, t)] s.toks (e1.trans (if_pos c2)).symm)
    | false =>
      refine call_meets F.slot_str_split (typeIs_str _ _ _) F.entry_str_split (F.args_str_split_2 _ _) (meets_str_split_sep x y t u c1 c0 c2 (by lia) cn) ?_
      have e2 := numbered_texts s.toks (Builtin.Str.partsBetween x (Builtin.Str.occurrences x y 0 x.length (x.length + 1)) y.length)
      show wants Q E _ { s with toks := _, heap := s.heap.push { cls := .type "list", data := .seq (strsFrom s.toks (Builtin.Str.partsBetween x (Builtin.Str.occurrences x y 0 x.length (x.length + 1)) y.length)).toArray } }
      rw [strsFrom_eq]
      exact q (numbered s.toks _) _ (e2.trans (e1.trans (if_neg (ne_true_of_eq_false c2))).symm)
/-- text.split(sep) -/
theorem mt_split : MtR X "str.split" (fun x xs H Q => ∃ z sep, x = .str z ∧ xs = [.str sep] ∧ (sep.length == 0) = false ∧ z.length + 2 ≤ sizeLine ∧ (Txt.split z sep).length ≤ sizeLine ∧ ∀ l, H l = none → Q (.ref l) (upd H l (.lst ((Txt.split z sep).map V.str)))) := by
  intro pins s σ H x xs v us Q I rx rs h
  obtain ⟨z, sep, rfl, rfl, hs, hz, hl, q⟩ := h
  obtain ⟨t, rfl⟩ := rx
  obtain ⟨u, rfl, tu, rfl⟩ := Vals.one rs
  refine split_new hs hz fun l k e => ?_
  have I1 : Inv X pins σ (upd H s.heap.objs.size (.lst ((Txt.split z sep).map V.str))) { s with heap := s.heap.push { cls := .type "list", data := .seq (strValues l).toArray }, toks := k } := by
    refine I.laid (fun b o e => Heap.get?_push_of_some _ e) (Nat.le_refl _) ?_
    rw [← e] at hl ⊢
    exact ⟨by rw [List.length_map]; exact hl, strValues l, 0, strs_vals l, Heap.get?_push_size _ rfl⟩
  exact ⟨.ref s.heap.objs.size, _, I1, rfl, q _ (I.hok.fresh (Nat.le_refl _))⟩
theorem call_str_str : CallR X (.type "str") (fun xs H Q => ∃ x, xs = [.str x] ∧ Q (.str x) H) := by
  intro pins s σ H xs us Q I r h
  obtain ⟨x, rfl, q⟩ := h
  obtain ⟨u, rfl, t, rfl⟩ := vals1 r
  exact PySem.P.str_of_str ⟨.str x, H, I, ⟨t, rfl⟩, q⟩
/-- str of a text or a number -/
theorem call_str2 : CallR X (.type "str") (fun xs H Q => (∃ x, xs = [.str x] ∧ Q (.str x) H) ∨ (∃ i, xs = [.int i] ∧ i.natAbs.log2 < 1920 ∧ Q (.str (toString i)) H)) := call_str_str.or call_str_int
/-- int of a text -/
theorem call_int_text : CallR X (.type "int") (fun xs H Q => ∃ x n, xs = [.str x] ∧ PySem.intText? x = some n ∧ x.length ≤ 640 ∧ Q (.int n) H) := by
  intro pins s σ H xs us Q I r h
  obtain ⟨x, n, rfl, hn, hl, q⟩ := h
  obtain ⟨u, rfl, t, rfl⟩ := vals1 r
  exact PySem.W.KIN.call_text hn hl ⟨.int n, H, I.tok _, ⟨_, rfl⟩, q⟩
end
/-! ### an int, asked for in a dict of texts -/
section
variable {prog : Program} {w : World} {A : Around} {E : Value → Shared → Prop} {s : Shared} {a : Addr} {D : List (Str × V)} {n : Int} {tk : Tok}
theorem walk_int {Q : Option Nat → Shared → Prop} {o : Obj} {es : Array DictEntry} {ep : Nat} {hsh : Int} (ho : s.heap.get? a = some o) (hd : o.data = .dict es ep) (hal : (es.all fun e => isExactStrKey e.key) = true) (h : Q none s) :
    ∀ places : List Nat, wpAny (model prog w) A (dictWalkPlain a (.int n tk) hsh es places) Q E s := by
  intro places
  unfold dictWalkPlain
  refine wpAny_bind ?_
  refine wpAny_forIn_list _ (fun _ b s' => s' = s ∧ b = (none, ())) _ ?_ ?_ _ _ ⟨rfl, rfl⟩
  · rintro x rest b s' ⟨rfl, rfl⟩
    cases he : es[x]? with
    | none => exact wpAny_pure ⟨rfl, rfl⟩
    | some e =>
      dsimp only
      have z := Array.all_eq_true'.mp hal e (Array.mem_of_getElem? he)
      obtain ⟨y, ty, hk⟩ : ∃ y ty, e.key = .str y ty := by
        cases hk : e.key <;> rw [hk] at z <;> first | exact ⟨_, _, rfl⟩ | exact nomatch z
      by_cases hh : (e.hash == hsh) = true
      · rw [if_pos hh, hk]
        refine wpAny_bind (wpAny_dictEpoch ho hd (wpAny_bind (SeqAt.EqAt.str_int y ty n tk _ _ _ _ (wpAny_bind (wpAny_dictEpoch ho hd ?_)))))
        show wpAny _ _ (if ((ep != ep) = true) then _ else _) _ E _
        rw [if_neg (by simp)]
        exact wpAny_bind (wpAny_rule (wpAny_pure ⟨rfl, rfl⟩))
      · rw [if_neg hh]
        exact wpAny_pure ⟨rfl, rfl⟩
  · rintro b s' ⟨rfl, rfl⟩
    exact wpAny_pure h
theorem kd_findI {Q : Option Value → Shared → Prop} (T : VTab s.heap a D) (h : Q none { s with toks := s.toks + 1 }) : wpAny (model prog w) A (dictGet a (.int n tk)) Q E s := by
  obtain ⟨_, o, es, ep, ho, hc, hd, hr⟩ := T
  have hal : (es.all fun e => isExactStrKey e.key) = true := by
    have z := hr.exact
    obtain ⟨l⟩ := es
    simpa using z
  unfold dictGet
  refine wpAny_bind (wpAny_pyHash_int (wpAny_bind ?_))
  unfold dictFind
  try with_reducible refine wpAny_holding ?_
  refine wpAny_bind (wpAny_dictEntries ho hd (?_))
  dsimp only
  rw [if_pos ?_]
  · refine walk_int (s := { s with toks := s.toks + 1 }) ho hd hal ?_ _
    exact wpAny_pure h
  · rw [List.all_cons, List.all_eq_true.mpr, Bool.and_true]
    · rfl
    · intro v hv
      obtain ⟨i, _, hi⟩ := (List.mem_filterMap.mp hv)
      cases he : es[i]? with
      | none => (rw [he] at hi); cases hi
      | some e =>
        rw [he] at hi
        obtain rfl : e.key = v := (by simpa using hi)
        have z := Array.all_eq_true'.mp hal e (Array.mem_of_getElem? he)
        cases hk : e.key <;> rw [hk] at z <;> first | rfl | exact nomatch z
end
/-! ### the signs of a text -/
noncomputable def Its (x : Str) : It := ⟨fun i _ => i < x.cps.size, fun i H v H' => H' = H ∧ ∃ c, x.cps[i]? = some c ∧ v = .str ⟨#[c]⟩, fun i _ => x.cps.size ≤ i⟩
theorem turn_signs {P : Program} {w : World} {K : PySem.W.Frag} {tg : Expr} (it : Addr) (x : Str) (t : Tok) : Turn P w K tg (Its x) [it] it (fun i h => h.IsStrIter it "str_ascii_iterator" x t i) := by
  refine ⟨List.mem_singleton.mpr rfl, fun i h st b hb => ?_, fun i h h' st q => ?_, ?_, ?_, fun _ _ _ _ _ st q => wpAny_pyIter_striter_ascii st q⟩
  · cases List.mem_singleton.mp hb
    obtain ⟨o, h1, h2, h3⟩ := st
    exact ⟨o, h1, fun v z => by rw [h3] at z; cases z⟩
  · obtain ⟨o, h1, r⟩ := st
    exact ⟨o, q it (List.mem_singleton.mpr rfl) o h1, r⟩
  · rintro X rfl rfl rfl hc i pins s σ H E I hf st hg
    obtain ⟨f0, f1, _, f3, f4, f5⟩ := hf it (List.mem_singleton.mpr rfl)
    refine (Walks.strAscii (I.ok.hd hc) it x t).item i s _ _ hg st fun v h' tk hv st' kk => ?_
    obtain ⟨c, u, hcu, rfl⟩ := hv
    have I1 := I.turned (h' := h') (t' := tk) (it := it) (fun b o hb e => kk b o (fun z => hb (List.mem_singleton.mp z)) e) f0 f1 f3 f4 f5
    obtain ⟨o, e1, e2, e3⟩ := id st'
    exact ⟨_, rfl, go_of (s := { s with heap := h', toks := tk }) (n := "str_ascii_iterator") e1 e2 e3 (by decide) ⟨.str ⟨#[c]⟩, H, I1, ⟨u, rfl⟩, ⟨rfl, c, hcu, rfl⟩, st', fun b hb => (hf b hb).1⟩⟩
  · rintro X rfl rfl rfl hc i pins s σ H E I hf st hg
    obtain ⟨f0, f1, _, f3, f4, f5⟩ := hf it (List.mem_singleton.mpr rfl)
    have hg : x.cps.size ≤ i := hg
    exact wpAny_pyNext_ascii_end (I.ok.hd hc) st (by simp [hg]) fun h' eb => ⟨rfl, I.turned (t' := s.toks) (fun b o hb e => eb b o hb e) f0 f1 f3 f4 f5⟩
noncomputable def iSgn (tl : TE) : TI := fun σ H R => tl σ H fun x H1 => ∃ z, x = .str z ∧ z.cps.all (· < 128) = true ∧ R (Its z) H1
theorem pi_signs {X : Cx} {tg l : Expr} {tl : TE} (hl : PE X l tl) : PI X tg l (iSgn tl) := by
  intro pins s σ H R I h
  refine thn (hl pins s σ H _ I h) fun v s1 ⟨x, H1, I1, r1, z, e, ha, q⟩ => ?_
  subst e
  obtain ⟨t, rfl⟩ := r1
  refine wpAny_pyIter_ascii ha ?_
  refine ⟨s1.heap.objs.size, [s1.heap.objs.size], _, _, H1, rfl, I1.kept (t' := s1.toks) fun b o e => Heap.get?_push_of_some _ e, turn_signs _ z t, ⟨_, Heap.get?_push_size _ rfl, rfl, rfl⟩, fun b hb => ?_, q⟩
  cases List.mem_singleton.mp hb
  exact I1.fpOk (Nat.le_refl _) (I1.hok.fresh (Nat.le_refl _))
theorem comp_signs {H1 : Hp} {cp : St} {tt : TT} {te : TE} {Q : VK} {z : Str} (Pv : Nat → Hp → List V → Prop) (hz : z.cps.size ≤ sizeLine) (h0 : Pv 0 H1 []) (hlen : ∀ i H zs, Pv i H zs → zs.length ≤ i)
    (step : ∀ i c H zs, z.cps[i]? = some c → Same H1 H → Pv i H zs → tt (some (.str ⟨#[c]⟩) :: cp) H fun b H4 => if b = true then te (some (.str ⟨#[c]⟩) :: cp) H4 fun v H5 => CpN 1 cp H1 (Pv (i + 1)) (some (.str ⟨#[c]⟩) :: cp) H5 (zs ++ [v]) else CpN 1 cp H1 (Pv (i + 1)) (some (.str ⟨#[c]⟩) :: cp) H4 zs)
    (done : ∀ H zs, Same H1 H → Pv z.cps.size H zs → ∀ p, H p = none → Q (.ref p) (upd H p (.lst zs))) :
    ∃ W : Nat → Nat → St → Hp → List V → Prop, (∃ m, W 0 m (List.replicate 1 none ++ cp) H1 []) ∧ CompW (Its z) (gName 0) tt te Q W := by
  refine comp_any (n := z.cps.size) Pv hz h0 hlen (fun i H sm hi => hi) (fun H sm => Nat.le_refl _) (fun i o H zs hi ho sm pv x H2 y => ?_) done
  obtain ⟨w, rfl⟩ := one_of ho
  obtain ⟨rfl, c, hc, rfl⟩ := y
  exact step i c _ zs hc sm pv
/-! ### d.get(x, y), x a text or a number -/
section
variable {X : Cx} {o i e f : Expr} {pos apos cpos : Pos} {td ty tx : TE} {a : Addr} {D : List (Str × V)}
theorem kd_getI {prog : Program} {w : World} {A : Around} {E : Value → Shared → Prop} {s : Shared} {n : Int} {tk : Tok} {Q : Value → Shared → Prop} {dflt : Value} (T : VTab s.heap a D) (h : Q dflt { s with toks := s.toks + 1 }) :
    wpAny (model prog w) A (call (.builtin "dict.get") [.ref a, .int n tk, dflt]) Q E s := by
  have M : MeetsIn prog w (Builtin.«dict.get» ⟨[.ref a, .int n tk, dflt], []⟩) (fun _ R s => VTab s.heap a D ∧ R (.ok (.ret dflt)) { s with toks := s.toks + 1 }) := .of_wp fun A₁ R s ⟨T, h2⟩ => by
    show wpAny _ _ (dictGet a (.int n tk) >>= _) _ _ s
    refine wpAny_bind (kd_findI T ?_)
    show wpAny _ _ (Builtin.Dict.missed a (.int n tk) >>= _) _ _ _
    exact wpAny_bind (wpAny_missed_other T.1 (wpAny_pure ⟨dflt, rfl, h2⟩))
  exact call_meetsIn PySem.F.slot_dict_get T.typeIs PySem.F.entry_dict_get (PySem.F.args_dict_get_3 _ _ _) M ⟨T, h⟩
noncomputable def tKgetM (a : Addr) (D : List (Str × V)) (td ty tx : TE) : TE := fun σ H Q => td σ H fun u H1 => u = .ref a ∧ ty σ H1 fun y H2 => tx σ H2 fun z H3 => (∃ x, y = .str x ∧ Q ((PyProof.Rows.KTD.datumAt x D).getD z) H3) ∨ ∃ n, y = .int n ∧ Q z H3
theorem pe_kgetM (hT : ∀ h, X.K.In h → VTab h a D) (ho : PE X o td) (he : PE X e ty) (hf : PE X f tx) (m : M2 X o "get" apos e f cpos) : PE X (.Call (.Attribute o "get" apos) [e, f] [] cpos) (tKgetM a D td ty tx) := by
  intro pins s σ H Q I h
  refine wpAny_Call_method m.base m.few m.line PySem.F.plainAttrs_dict PySem.F.slot_dict_get PySem.F.type_dict_get (thn (ho pins s σ H _ I h) fun u s1 ⟨x', H1, I1, rx, ex, q1⟩ => ?_)
  subst ex
  obtain rfl : u = Value.ref a := rx
  refine ⟨(hT _ I1.kIn).typeIs, (hT _ I1.kIn).noDict, ?_⟩
  rw [m.trees]
  refine Calls.callWith_builtin rfl (Calls.evalArgs_plain (Calls.spliced_cons (thn (he pins s1 σ H1 _ I1 q1) fun iv s2 ⟨y, H2, I2, ry, q2⟩ => Calls.spliced_cons (thn (hf pins s2 σ H2 _ I2 q2) fun fv s3 ⟨z, H3, I3, rz, q3⟩ => Calls.spliced_nil ?_))))
  rcases q3 with ⟨x, ey, q3⟩ | ⟨n, ey, q3⟩
  · subst ey
    obtain ⟨tk, rfl⟩ := ry
    refine kd_get2 (hT _ I3.kIn) (fun v u e r => ⟨v, H3, I3.tok _, r, ?_⟩) fun e => ⟨z, H3, I3.tok _, rz, ?_⟩
    · rw [e] at q3; exact q3
    · rw [e] at q3; exact q3
  · subst ey
    obtain ⟨tk, rfl⟩ := ry
    exact kd_getI (hT _ I3.kIn) ⟨z, H3, I3.tok _, rz, q3⟩
end
end L2
namespace S21
open PySem L2 Bw
set_option maxHeartbeats 3900000
/-! ### drawings as trees, whether their parts meet or not -/
inductive Dw where
  | box (x : Str) (l r : Nat)
  | times (n : Int)
  | back (d : Dw)
  | beside (a b : Dw)
  | thn (a b : Dw)
noncomputable def sideL : List (Str × Nat × Nat) := [("id", 1, 1), ("swap", 2, 2), ("copy", 1, 2), ("end", 1, 0), ("add", 2, 1), ("none", 0, 1), ("cup", 0, 2), ("empty", 0, 0), ("late", 1, 1)]
noncomputable def keysL : List Str := ["id", "swap", "copy", "end", "add", "none", "times", "cup", "empty", "late"]
noncomputable def orN : Option Nat → Option Nat → Option Nat
  | some i, _ => some i
  | none, x => x
namespace Dw
noncomputable def words : Dw → List V
  | box x _ _ => [.str x]
  | times n => [.str "times", .int n]
  | back d => .str "back" :: d.words
  | beside a b => .str "beside" :: (a.words ++ b.words)
  | thn a b => .str "then" :: (a.words ++ b.words)
noncomputable def sides : Dw → Nat × Nat
  | box _ l r => (l, r)
  | times _ => (1, 1)
  | back d => (d.sides.2, d.sides.1)
  | beside a b => (a.sides.1 + b.sides.1, a.sides.2 + b.sides.2)
  | thn a b => (a.sides.1, b.sides.2)
noncomputable abbrev lft (d : Dw) : Nat := d.sides.1
noncomputable abbrev rgt (d : Dw) : Nat := d.sides.2
/-- each word by itself is right -/
noncomputable def ok (p : Int) : Dw → Prop
  | box x l r => (x, l, r) ∈ sideL
  | times n => 0 ≤ n ∧ n < p
  | back d => d.ok p
  | beside a b => a.ok p ∧ b.ok p
  | thn a b => a.ok p ∧ b.ok p
/-- the first then that does not meet, by the place of the first word -/
noncomputable def unm : Nat → Dw → Option Nat
  | i, back d => unm (i + 1) d
  | i, beside a b => orN (unm (i + 1) a) (unm (i + 1 + a.words.length) b)
  | i, thn a b => match orN (unm (i + 1) a) (unm (i + 1 + a.words.length) b) with
    | some j => some j
    | none => if a.rgt = b.lft then none else some i
  | _, _ => none
theorem pos (d : Dw) : 1 ≤ d.words.length := by cases d <;> simp [words]
end Dw
/-! ### what is left behind the first i words -/
inductive It2 where
  | num (n : Int)
  | drw (d : Dw)
namespace It2
noncomputable def words : It2 → List V
  | num n => [.int n]
  | drw d => d.words
noncomputable def head : It2 → V
  | num n => .int n
  | drw (.box x _ _) => .str x
  | drw (.times _) => .str "times"
  | drw (.back _) => .str "back"
  | drw (.beside _ _) => .str "beside"
  | drw (.thn _ _) => .str "then"
noncomputable def kids : It2 → List It2
  | num _ => []
  | drw (.box _ _ _) => []
  | drw (.times n) => [num n]
  | drw (.back d) => [drw d]
  | drw (.beside a b) => [drw a, drw b]
  | drw (.thn a b) => [drw a, drw b]
noncomputable def ok (p : Int) : It2 → Prop
  | num _ => True
  | drw d => d.ok p
theorem words_eq (t : It2) : t.words = t.head :: t.kids.flatMap words := by
  cases t with
  | num n => rfl
  | drw d => cases d <;> simp [words, head, kids, Dw.words]
theorem ok_kids {p : Int} {t : It2} (h : t.ok p) : ∀ u ∈ t.kids, u.ok p := by
  cases t with
  | num n => intro u hu; cases hu
  | drw d =>
    cases d with
    | box => intro u hu; cases hu
    | times n => intro u hu; rw [List.mem_singleton.mp hu]; exact True.intro
    | back d => intro u hu; rw [List.mem_singleton.mp hu]; exact h
    | beside a b =>
      intro u hu
      rcases (List.mem_cons.mp hu) with z | z
      · rw [z]; exact h.1
      · rw [List.mem_singleton.mp z]; exact h.2
    | thn a b =>
      intro u hu
      rcases (List.mem_cons.mp hu) with z | z
      · rw [z]; exact h.1
      · rw [List.mem_singleton.mp z]; exact h.2
end It2
noncomputable def sf2 : List It2 → Nat → List It2
  | ts, 0 => ts
  | [], _ + 1 => []
  | t :: ts, i + 1 => sf2 (t.kids ++ ts) i
theorem sf2_nil : ∀ i, sf2 [] i = []
  | 0 => rfl
  | _ + 1 => rfl
theorem sf2_words : ∀ (i : Nat) (ts : List It2), (sf2 ts i).flatMap It2.words = (ts.flatMap It2.words).drop i
  | 0, ts => by simp [sf2]
  | i + 1, [] => by simp [sf2]
  | i + 1, t :: ts => by
    show (sf2 (t.kids ++ ts) i).flatMap It2.words = _
    rw [sf2_words i, List.flatMap_append, List.flatMap_cons, It2.words_eq t]
    simp
theorem It2.pos (t : It2) : 1 ≤ t.words.length := by
  rw [It2.words_eq]; simp
theorem flat_pos : ∀ {ts : List It2}, ts ≠ [] → 0 < (ts.flatMap It2.words).length
  | [], h => absurd rfl h
  | t :: ts, _ => by
    rw [List.flatMap_cons, List.length_append]
    have := t.pos
    lia
theorem flat_few : ∀ ts : List It2, ts.length ≤ (ts.flatMap It2.words).length
  | [] => Nat.le_refl _
  | t :: ts => by
    rw [List.flatMap_cons, List.length_append, List.length_cons]
    have := t.pos
    have := flat_few ts
    lia
theorem sf2_end {ts : List It2} : sf2 ts (ts.flatMap It2.words).length = [] := by
  cases h : sf2 ts (ts.flatMap It2.words).length with
  | nil => rfl
  | cons t r =>
    have z := sf2_words (ts.flatMap It2.words).length ts
    rw [h, List.drop_length] at z
    have := flat_pos (ts := t :: r) (by simp)
    rw [z] at this
    exact absurd this (by simp)
theorem sf2_few {ts : List It2} {i : Nat} : (sf2 ts i).length ≤ (ts.flatMap It2.words).length := by
  have := flat_few (sf2 ts i)
  rw [sf2_words, List.length_drop] at this
  lia
theorem sf2_succ : ∀ (i : Nat) (ts : List It2) {t : It2} {r : List It2}, sf2 ts i = t :: r → sf2 ts (i + 1) = t.kids ++ r
  | 0, ts, t, r, h => by
    have h : ts = t :: r := h
    subst h
    rfl
  | i + 1, [], t, r, h => by simp [sf2] at h
  | i + 1, u :: ts, t, r, h => sf2_succ i (u.kids ++ ts) h
theorem sf2_at {ts : List It2} {i : Nat} (h : i < (ts.flatMap It2.words).length) : ∃ t r, sf2 ts i = t :: r ∧ (ts.flatMap It2.words)[i]? = some t.head ∧ sf2 ts (i + 1) = t.kids ++ r := by
  have z := sf2_words i ts
  cases e : sf2 ts i with
  | nil =>
    rw [e] at z
    have z : [] = (ts.flatMap It2.words).drop i := z
    have := congrArg List.length z
    rw [List.length_drop] at this
    simp only [List.length_nil] at this
    lia
  | cons t r =>
    refine ⟨t, r, rfl, ?_, sf2_succ i ts e⟩
    rw [e, List.flatMap_cons, It2.words_eq] at z
    have := congrArg (fun l => l[0]?) z
    simp only [List.cons_append, List.getElem?_cons_zero, List.getElem?_drop, Nat.add_zero] at this
    exact this.symm
theorem sf2_ok {p : Int} : ∀ (i : Nat) {ts : List It2}, (∀ t ∈ ts, t.ok p) → ∀ t ∈ sf2 ts i, t.ok p
  | 0, ts, h => h
  | i + 1, [], h => by intro t ht; rw [sf2_nil] at ht; cases ht
  | i + 1, t :: ts, h => sf2_ok i (ts := t.kids ++ ts) fun u hu => by
    rcases (List.mem_append.mp hu) with z | z
    · exact It2.ok_kids (h t List.mem_cons_self) u z
    · exact h u (List.mem_cons_of_mem _ z)
end S21
namespace S21
open PySem L2 Bw
set_option maxHeartbeats 3900000
/-! ### the table of sides -/
noncomputable def sideT : List (Str × Nat × Nat) := ("times", 1, 1) :: sideL
noncomputable def sidesOk (K : PySem.W.Frag) (aS : Addr) : Bool := okTab K aS && decide ((tabV K aS).map (·.1) = keysL) && sideT.all fun e =>
  (match PyProof.Rows.KTD.datumAt e.1 (tabV K aS) with | some (.ref t) => intsAt K t [(e.2.1 : Int), (e.2.2 : Int)] | _ => false)
structure SideT (K : PySem.W.Frag) (mg : Str → Option Value) (aS : Addr) : Prop where
  nm : mg "SIDES" = some (.ref aS)
  ok : sidesOk K aS = true
theorem datum_none {x : Str} : ∀ {D : List (Str × V)}, x ∉ D.map (·.1) → PyProof.Rows.KTD.datumAt x D = none
  | [], _ => rfl
  | (k, v) :: D, h => by
    have h1 : x ≠ k := fun z => h (by rw [z]; exact List.mem_cons_self)
    unfold PyProof.Rows.KTD.datumAt
    rw [decide_eq_false h1, if_neg Bool.false_ne_true]
    exact datum_none fun z => h (List.mem_cons_of_mem _ z)
theorem datum_some {x : Str} : ∀ {D : List (Str × V)}, x ∈ D.map (·.1) → (PyProof.Rows.KTD.datumAt x D).isSome = true
  | [], h => by cases h
  | (k, v) :: D, h => by
    unfold PyProof.Rows.KTD.datumAt
    by_cases h1 : x = k
    · rw [decide_eq_true h1, if_pos rfl]; rfl
    · rw [decide_eq_false h1, if_neg Bool.false_ne_true]
      exact datum_some (by rcases (List.mem_cons.mp h) with z | z; exact absurd z h1; exact z)
section
variable {K : PySem.W.Frag} {mg : Str → Option Value} {aS : Addr}
theorem SideT.tab (B : SideT K mg aS) : ∀ h, K.In h → VTab h aS (tabV K aS) := fun h X => by
  have z := B.ok
  unfold sidesOk at z
  rw [Bool.and_eq_true, Bool.and_eq_true] at z
  exact vtab_of X z.1.1
theorem SideT.keys (B : SideT K mg aS) : (tabV K aS).map (·.1) = keysL := by
  have z := B.ok
  unfold sidesOk at z
  rw [Bool.and_eq_true, Bool.and_eq_true] at z
  exact of_decide_eq_true z.1.2
theorem SideT.at_ (B : SideT K mg aS) {x : Str} {l r : Nat} (h : (x, l, r) ∈ sideT) : ∃ t, PyProof.Rows.KTD.datumAt x (tabV K aS) = some (.ref t) ∧ ∀ H, SqT K H t [.int (l : Int), .int (r : Int)] := by
  have z := B.ok
  unfold sidesOk at z
  rw [Bool.and_eq_true] at z
  have z2 := List.all_eq_true.mp z.2 _ h
  split at z2
  · rename_i t e
    exact ⟨t, e, fun H => intsAt_is z2 H⟩
  · exact nomatch z2
theorem SideT.none (B : SideT K mg aS) {x : Str} (h : x ∉ keysL) : PyProof.Rows.KTD.datumAt x (tabV K aS) = none := datum_none (by rw [B.keys]; exact h)
end
/-! ### the wires of a part, as measured -/
noncomputable def uV : Option Nat → V
  | none => .non
  | some i => .int (i : Int)
noncomputable def MeU (K : PySem.W.Frag) (H : Hp) (a : Addr) (m : Nat × Nat × Option Nat) : Prop := SqT K H a [.int (m.1 : Int), .int (m.2.1 : Int), uV m.2.2]
noncomputable def MesU (K : PySem.W.Frag) (H : Hp) (ps : List V) (ms : List (Nat × Nat × Option Nat)) : Prop := ps.length = ms.length ∧ ∀ (i : Nat) (v : V) (m : Nat × Nat × Option Nat), ps[i]? = some v → ms[i]? = some m → ∃ a, v = .ref a ∧ MeU K H a m
theorem MesU.one {K : PySem.W.Frag} {H : Hp} {a : Addr} {m : Nat × Nat × Option Nat} (h : MeU K H a m) : MesU K H [.ref a] [m] := ⟨rfl, fun i v m' e1 e2 => by
  match i, e1, e2 with
  | 0, e1, e2 => cases e1; cases e2; exact ⟨a, rfl, h⟩
  | i + 1, e1, _ => simp at e1⟩
theorem MesU.two {K : PySem.W.Frag} {H : Hp} {a b : Addr} {m n : Nat × Nat × Option Nat} (h : MeU K H a m) (h' : MeU K H b n) : MesU K H [.ref a, .ref b] [m, n] := ⟨rfl, fun i v m' e1 e2 => by
  match i, e1, e2 with
  | 0, e1, e2 => cases e1; cases e2; exact ⟨a, rfl, h⟩
  | 1, e1, e2 => cases e1; cases e2; exact ⟨b, rfl, h'⟩
  | i + 2, e1, _ => simp at e1⟩
noncomputable def firstU (ms : List (Nat × Nat × Option Nat)) : Option Nat := (ms.filterMap (·.2.2)).head?
theorem first_one (m : Nat × Nat × Option Nat) : firstU [m] = m.2.2 := by
  unfold firstU
  cases h : m.2.2 <;> simp [h]
theorem first_two (m n : Nat × Nat × Option Nat) : firstU [m, n] = orN m.2.2 n.2.2 := by
  unfold firstU
  cases h : m.2.2 <;> cases h' : n.2.2 <;> simp [h, h', orN]
theorem nunm2 : (["part"] : List Str).Nodup := by decide +kernel
section
variable {P : Program} {w : World} {K : PySem.W.Frag} {mg : Str → Option Value} {base : Heap}
/-! ### first_unmet -/
noncomputable def spUnm2 (K : PySem.W.Frag) : Sp := fun vs H Q _ => ∃ (pa : Addr) (ps : List V) (ms : List (Nat × Nat × Option Nat)), vs = [.ref pa] ∧ H pa = some (.lst ps) ∧ ps.length ≤ 10 ∧ MesU K H ps ms ∧ ∀ H', Same H H' → Q (uV (firstU ms)) H'
theorem scUn2 : FnScope ["parts", "unmet"] ["parts"] (defScope s_first_unmet) := ⟨rfl, rfl, rfl, by decide +kernel, rfl, by decide +kernel, by decide +kernel⟩
theorem ok_unm2 {f : Addr} {fd : FuncData} (F : Fun K "first_unmet" "first_unmet" s_first_unmet f fd) : FnOk P w K mg base CX0 1 f fd ["parts"] (spUnm2 K) := by
  refine F.ok scUn2 (fun vs H Q E h => ?_) (fun cdv A outer s H vs Q E hr h => ?_)
  · obtain ⟨pa, ps, ms, rfl, _⟩ := h
    rfl
  · obtain ⟨pa, ps, ms, rfl, hp, hl, hm, q⟩ := h
    have z : (10 : Nat) ≤ sizeLine := by decide
    refine ⟨_, pss_cons (ps_setComp (i := 1) (N := ["part"]) (own := 1) (caps := []) rfl scUn2.nd rfl rfl (piList K rfl (pv 0)) (show BlkScope ["parts", "unmet"] (defScope s_first_unmet) ["part"] 1 [] _ from .mk' (by decide +kernel)) (fun _ _ _ _ _ => pg_name (i := 0) nunm2 rfl (Or.inl rfl))
        (fun _ _ _ _ _ => pts_one (pt_cmpR op_notN (pe_ix (ixT K rfl) (pv 0) pe_int (fun _ _ => rfl)) pe_non (nomark _))) (fun _ _ _ _ _ => pe_ix (ixT K rfl) (pv 0) pe_int (fun _ _ => rfl)))
      (pss_one (ps_ret (pe_ifExp (pt_truth (pv 1) (fun _ => rfl)) (pe_ix (ixL K rfl) (pv 1) pe_int (fun _ _ => rfl)) pe_non))), ?_⟩
    refine ⟨_, rfl, pa, rfl, ⟨_, .of hp⟩, comp_list (cp := []) (fun i H' zs => zs = ((ms.take i).filterMap (·.2.2)).map (fun j : Nat => V.int (j : Int))) (.of hp) (by lia) rfl (fun i H' zs e => ?_) ?_ ?_⟩
    · rw [e, List.length_map]
      exact Nat.le_trans (List.length_filterMap_le _ _) (List.length_take_le _ _)
    · rintro i x H1 zs hx sm rfl
      have hi : i < ms.length := by rw [← hm.1]; exact (List.getElem?_eq_some_iff.mp hx).1
      obtain ⟨a, rfl, ha⟩ := hm.2 i x ms[i] hx (List.getElem?_eq_getElem hi)
      have et : ms.take (i + 1) = ms.take i ++ [ms[i]] := by rw [List.take_add_one, List.getElem?_eq_getElem hi]; rfl
      refine ⟨_, rfl, a, _, 2, uV ms[i].2.2, rfl, rfl, sm.seqT ha, atI_nat (j := 2) rfl, rfl, _, rfl, ?_⟩
      cases hu : ms[i].2.2 with
      | none =>
        refine iteNe (fun h => absurd rfl h) (fun _ => ⟨⟨[_], rfl, rfl⟩, sm, ?_⟩)
        rw [et, List.filterMap_append]
        simp [hu]
      | some j =>
        rw [decide_eq_false (show ¬ uV (some j) = V.non from fun z => nomatch z)]
        refine iteT ⟨_, rfl, a, _, 2, uV ms[i].2.2, rfl, rfl, sm.seqT ha, atI_nat (j := 2) rfl, ⟨⟨[_], rfl, rfl⟩, sm, ?_⟩⟩
        rw [et, List.filterMap_append, hu]
        simp [hu, uV]
    · rintro H1 zs sm rfl lu hlu
      rw [List.take_of_length_le (by rw [← hm.1]; exact Nat.le_refl _)]
      unfold firstU at q
      cases hz : ms.filterMap (·.2.2) with
      | nil =>
        rw [hz] at q
        refine ⟨_, rfl, _, .inl ⟨[], .of upd_same, rfl⟩, iteF ?_⟩
        exact q _ (sm.trans (.upd hlu))
      | cons j js =>
        rw [hz] at q
        refine ⟨_, rfl, _, .inl ⟨_, .of upd_same, rfl⟩, iteT ?_⟩
        exact ⟨_, rfl, lu, _, 0, _, rfl, rfl, .of upd_same, atI_nat (j := 0) rfl, q _ (sm.trans (.upd hlu))⟩
/-! ### joined_sides -/
noncomputable def spJs2 (K : PySem.W.Frag) : Sp := fun vs H Q _ => ∃ (x : Str) (pa : Addr) (ps : List V), vs = [.str x, .ref pa] ∧ H pa = some (.lst ps) ∧
  ((∃ (a : Addr) (m : Nat × Nat × Option Nat), x = "back" ∧ ps = [.ref a] ∧ MeU K H a m ∧ AnyT K H [.int (m.2.1 : Int), .int (m.1 : Int)] Q) ∨
   (∃ (a b : Addr) (m n : Nat × Nat × Option Nat), x = "beside" ∧ ps = [.ref a, .ref b] ∧ MeU K H a m ∧ MeU K H b n ∧ AnyT K H [.int ((m.1 + n.1 : Nat) : Int), .int ((m.2.1 + n.2.1 : Nat) : Int)] Q) ∨
   (∃ (a b : Addr) (m n : Nat × Nat × Option Nat), x = "then" ∧ ps = [.ref a, .ref b] ∧ MeU K H a m ∧ MeU K H b n ∧ AnyT K H [.int (m.1 : Int), .int (n.2.1 : Int)] Q))
theorem scJs2 : FnScope ["word", "parts"] ["word", "parts"] (defScope s_joined_sides) := ⟨rfl, rfl, rfl, by decide +kernel, rfl, by decide +kernel, by decide +kernel⟩
theorem ok_js2 {f : Addr} {fd : FuncData} (F : Fun K "joined_sides" "joined_sides" s_joined_sides f fd) : FnOk P w K mg base CX0 1 f fd ["word", "parts"] (spJs2 K) := by
  refine F.ok scJs2 (fun vs H Q E h => ?_) (fun cdv A outer s H vs Q E hr h => ?_)
  · obtain ⟨x, pa, ps, rfl, _⟩ := h
    rfl
  · obtain ⟨x, pa, ps, rfl, hp, h⟩ := h
    refine ⟨_, pss_cons (ps_if (pt_cmpR op_eq (pv 0) pe_str (nomark _)) (pss_one (ps_ret (pe_tup (pa_cons (pe_ix (ixT K rfl) (pe_ix (ixL K rfl) (pv 1) pe_int (fun _ _ => rfl)) pe_int (fun _ _ => rfl)) (pa_cons (pe_ix (ixT K rfl) (pe_ix (ixL K rfl) (pv 1) pe_int (fun _ _ => rfl)) pe_int (fun _ _ => rfl)) pa_nil))))) pss_nil)
      (pss_cons (ps_if (pt_cmpR op_eq (pv 0) pe_str (nomark _)) (pss_one (ps_ret (pe_tup (pa_cons (pe_op op_add (pe_ix (ixT K rfl) (pe_ix (ixL K rfl) (pv 1) pe_int (fun _ _ => rfl)) pe_int (fun _ _ => rfl)) (pe_ix (ixT K rfl) (pe_ix (ixL K rfl) (pv 1) pe_int (fun _ _ => rfl)) pe_int (fun _ _ => rfl)))
        (pa_cons (pe_op op_add (pe_ix (ixT K rfl) (pe_ix (ixL K rfl) (pv 1) pe_int (fun _ _ => rfl)) pe_int (fun _ _ => rfl)) (pe_ix (ixT K rfl) (pe_ix (ixL K rfl) (pv 1) pe_int (fun _ _ => rfl)) pe_int (fun _ _ => rfl))) pa_nil))))) pss_nil)
      (pss_one (ps_ret (pe_tup (pa_cons (pe_ix (ixT K rfl) (pe_ix (ixL K rfl) (pv 1) pe_int (fun _ _ => rfl)) pe_int (fun _ _ => rfl)) (pa_cons (pe_ix (ixT K rfl) (pe_ix (ixL K rfl) (pv 1) pe_int (fun _ _ => rfl)) pe_int (fun _ _ => rfl)) pa_nil)))))), ?_⟩
    have z2 : 2 ≤ sizeLine := by decide
    rcases h with ⟨a, m, rfl, rfl, ha, q⟩ | ⟨a, b, m, n, rfl, rfl, ha, hb, q⟩ | ⟨a, b, m, n, rfl, rfl, ha, hb, q⟩
    · refine ⟨_, rfl, rfl, _, rfl, ?_⟩
      rw [decide_eq_true rfl]
      exact iteT ⟨_, rfl, pa, _, 0, .ref a, rfl, rfl, .of hp, atI_nat (j := 0) rfl, a, _, 1, _, rfl, rfl, ha, atI_nat (j := 1) rfl, _, rfl, pa, _, 0, .ref a, rfl, rfl, .of hp, atI_nat (j := 0) rfl, a, _, 0, _, rfl, rfl, ha, atI_nat (j := 0) rfl, z2, fun t ht => q.new ht⟩
    · refine ⟨_, rfl, rfl, _, rfl, ?_⟩
      rw [decide_eq_false (by decide)]
      refine iteF ⟨_, rfl, rfl, _, rfl, ?_⟩
      rw [decide_eq_true rfl]
      rw [Int.natCast_add, Int.natCast_add] at q
      exact iteT ⟨_, rfl, pa, _, 0, .ref a, rfl, rfl, .of hp, atI_nat (j := 0) rfl, a, _, 0, .int (m.1 : Int), rfl, rfl, ha, atI_nat (j := 0) rfl, _, rfl, pa, _, 1, .ref b, rfl, rfl, .of hp, atI_nat (j := 1) rfl, b, _, 0, .int (n.1 : Int), rfl, rfl, hb, atI_nat (j := 0) rfl, _, _, rfl, rfl,
        _, rfl, pa, _, 0, .ref a, rfl, rfl, .of hp, atI_nat (j := 0) rfl, a, _, 1, .int (m.2.1 : Int), rfl, rfl, ha, atI_nat (j := 1) rfl, _, rfl, pa, _, 1, .ref b, rfl, rfl, .of hp, atI_nat (j := 1) rfl, b, _, 1, .int (n.2.1 : Int), rfl, rfl, hb, atI_nat (j := 1) rfl, _, _, rfl, rfl, z2, fun t ht => q.new ht⟩
    · refine ⟨_, rfl, rfl, _, rfl, ?_⟩
      rw [decide_eq_false (by decide)]
      refine iteF ⟨_, rfl, rfl, _, rfl, ?_⟩
      rw [decide_eq_false (by decide)]
      exact iteF ⟨_, rfl, pa, _, 0, .ref a, rfl, rfl, .of hp, atI_nat (j := 0) rfl, a, _, 0, .int (m.1 : Int), rfl, rfl, ha, atI_nat (j := 0) rfl, _, rfl, pa, _, 1, .ref b, rfl, rfl, .of hp, atI_nat (j := 1) rfl, b, _, 1, .int (n.2.1 : Int), rfl, rfl, hb, atI_nat (j := 1) rfl, z2, fun t ht => q.new ht⟩
end
end S21
namespace S21
open PySem L2 Bw
set_option maxHeartbeats 3900000
inductive MeAsk2 (K : PySem.W.Frag) (i : Nat) (x : Str) (ps : List V) (H : Hp) (Q : VK) : Prop where
  | box (l r : Nat) (h : (x, l, r) ∈ sideT) (q : AnyT K H [.int (l : Int), .int (r : Int), .non] Q)
  | back (a : Addr) (m : Nat × Nat × Option Nat) (h : x = "back") (hp : ps = [.ref a]) (ha : MeU K H a m) (q : AnyT K H [.int (m.2.1 : Int), .int (m.1 : Int), uV m.2.2] Q)
  | beside (a b : Addr) (m n : Nat × Nat × Option Nat) (h : x = "beside") (hp : ps = [.ref a, .ref b]) (ha : MeU K H a m) (hb : MeU K H b n) (q : AnyT K H [.int ((m.1 + n.1 : Nat) : Int), .int ((m.2.1 + n.2.1 : Nat) : Int), uV (orN m.2.2 n.2.2)] Q)
  | thn (a b : Addr) (m n : Nat × Nat × Option Nat) (h : x = "then") (hp : ps = [.ref a, .ref b]) (ha : MeU K H a m) (hb : MeU K H b n)
    (q : AnyT K H [.int (m.1 : Int), .int (n.2.1 : Int), uV (match orN m.2.2 n.2.2 with | some j => some j | none => if m.2.1 = n.1 then none else some i)] Q)
theorem nkeys : Str.ofString "back" ∉ keysL ∧ Str.ofString "beside" ∉ keysL ∧ Str.ofString "then" ∉ keysL := by decide +kernel
theorem uV_some {j : Nat} : ¬ uV (some j) = V.non := fun z => nomatch z
section
variable {P : Program} {w : World} {K : PySem.W.Frag} {mg : Str → Option Value} {base : Heap}
/-! ### measure, of any word -/
noncomputable def spMeas3 (K : PySem.W.Frag) : Sp := fun vs H Q _ => ∃ (i : Nat) (x : Str) (pa : Addr) (ps : List V), vs = [.int (i : Int), .str x, .ref pa] ∧ H pa = some (.lst ps) ∧ MeAsk2 K i x ps H Q
theorem ok_meas3 {aS f fU fJ : Addr} {fd fdU fdJ : FuncData} (F : Fun K "measure" "measure" s_measure f fd) (B : SideT K mg aS)
    (GU : FnOk P w K mg base CX0 1 fU fdU ["parts"] (spUnm2 K)) (kU : PySem.W.keepIn K (.ref fU) = true) (bU : Binds K fdU ["parts"] []) (mU : mg "first_unmet" = some (.ref fU))
    (GJ : FnOk P w K mg base CX0 1 fJ fdJ ["word", "parts"] (spJs2 K)) (kJ : PySem.W.keepIn K (.ref fJ) = true) (bJ : Binds K fdJ ["word", "parts"] []) (mJ : mg "joined_sides" = some (.ref fJ)) :
    FnOk P w K mg base CX0 2 f fd ["place", "word", "parts"] (spMeas3 K) := by
  refine F.ok scMs (fun vs H Q E h => ?_) (fun cdv A outer s H vs Q E hr h => ?_)
  · obtain ⟨i, x, pa, ps, rfl, _⟩ := h
    rfl
  · obtain ⟨i, x, pa, ps, rfl, hp, h⟩ := h
    obtain ⟨nb, ns, nt⟩ := nkeys
    refine ⟨_, pss_cons (ps_if (pt_cmp (pc_kin B.tab (pv 1) (pe_glob (v := .ref _) rfl B.nm rfl)) rfl) (pss_one (ps_ret (pe_op (opCatA K rfl) (pe_kix B.tab (pe_glob (v := .ref _) rfl B.nm rfl) (pv 1) (fun _ _ => rfl)) (pe_tup (pa_cons pe_non pa_nil))))) pss_nil)
      (pss_cons (ps_set (i := 3) scMs.nd rfl (Or.inl rfl) (pe_call GU hr rfl mU kU bU .nil pass0 (pa_cons (pv 2) pa_nil)))
      (pss_cons (ps_if (PW.pt (pw_and (pt_cmpR op_eq (pv 1) pe_str (nomark _)) (pw_and (pt_cmpR op_isN (pv 3) pe_non (nomark _)) (pw_and1 (pt_cmpR op_ne (pe_ix (ixT K rfl) (pe_ix (ixL K rfl) (pv 2) pe_int (fun _ _ => rfl)) pe_int (fun _ _ => rfl)) (pe_ix (ixT K rfl) (pe_ix (ixL K rfl) (pv 2) pe_int (fun _ _ => rfl)) pe_int (fun _ _ => rfl)) (nomark _))))))
        (pss_one (ps_set (i := 3) scMs.nd rfl (Or.inl rfl) (pv 0))) pss_nil)
      (pss_one (ps_ret (pe_op (opCatA K rfl) (pe_call GJ hr rfl mJ kJ bJ .nil pass0 (pa_cons (pv 1) (pa_cons (pv 2) pa_nil))) (pe_tup (pa_cons (pv 3) pa_nil))))))), ?_⟩
    have z1 : 1 ≤ sizeLine := by decide
    have joint : PyProof.Rows.KTD.datumAt x (tabV K aS) = none → ∀ {u : TS} {D : Ends}, u D [some (.int (i : Int)), some (.str x), some (.ref pa), none] H → tSeq (tIfS (tB (tKin aS (tabV K aS) (tVar 1) (tC (.ref aS)))) (tRet (tOp (rCatA K) (tKix aS (tabV K aS) (tC (.ref aS)) (tVar 1)) (tTup (tCons (tC .non) tNil)))) tNext) u D [some (.int (i : Int)), some (.str x), some (.ref pa), none] H := fun e {u D} h => by
      refine ⟨_, rfl, x, rfl, rfl, _, rfl, ?_⟩
      rw [e]
      exact iteF h
    cases h with
    | box l r hx q =>
      obtain ⟨t, e, ht⟩ := B.at_ hx
      refine ⟨_, rfl, x, rfl, rfl, _, rfl, ?_⟩
      rw [e]
      refine iteT ⟨_, rfl, x, _, rfl, rfl, e, z1, fun t1 g1 => ?_⟩
      exact ⟨t, t1, _, _, rfl, rfl, ht _, .of upd_same, (by show 2 + 1 ≤ sizeLine; decide), fun a' H' s' h' => q a' H' ((Same.upd g1).trans s') h'⟩
    | back a m hx hps ha q =>
      subst hx
      subst hps
      refine joint (B.none nb) ⟨_, rfl, pa, _, [m], rfl, hp, by simp, .one ha, fun H1 s1 => ?_⟩
      rw [first_one]
      refine ⟨_, rfl, rfl, _, rfl, ?_⟩
      rw [decide_eq_false (by decide)]
      refine iteF (iteF ?_)
      refine ⟨_, rfl, _, rfl, _, pa, _, rfl, s1 _ _ hp, .inl ⟨a, m, rfl, rfl, s1.seqT ha, fun t H2 s2 ht => ⟨_, rfl, z1, fun t1 g1 => ?_⟩⟩⟩
      exact ⟨t, t1, _, _, rfl, rfl, (Same.upd g1).seqT ht, .of upd_same, (by show 2 + 1 ≤ sizeLine; decide), fun a' H' s' h' => q a' H' ((s1.trans s2).trans ((Same.upd g1).trans s')) h'⟩
    | beside a b m n hx hps ha hb q =>
      subst hx
      subst hps
      refine joint (B.none ns) ⟨_, rfl, pa, _, [m, n], rfl, hp, by simp, .two ha hb, fun H1 s1 => ?_⟩
      rw [first_two]
      refine ⟨_, rfl, rfl, _, rfl, ?_⟩
      rw [decide_eq_false (by decide)]
      refine iteF (iteF ?_)
      refine ⟨_, rfl, _, rfl, _, pa, _, rfl, s1 _ _ hp, .inr (.inl ⟨a, b, m, n, rfl, rfl, s1.seqT ha, s1.seqT hb, fun t H2 s2 ht => ⟨_, rfl, z1, fun t1 g1 => ?_⟩⟩)⟩
      exact ⟨t, t1, _, _, rfl, rfl, (Same.upd g1).seqT ht, .of upd_same, (by show 2 + 1 ≤ sizeLine; decide), fun a' H' s' h' => q a' H' ((s1.trans s2).trans ((Same.upd g1).trans s')) h'⟩
    | thn a b m n hx hps ha hb q =>
      subst hx
      subst hps
      refine joint (B.none nt) ⟨_, rfl, pa, _, [m, n], rfl, hp, by simp, .two ha hb, fun H1 s1 => ?_⟩
      rw [first_two]
      have rest : ∀ {u : Option Nat} {D : Ends}, D.rt = Q → AnyT K H [.int (m.1 : Int), .int (n.2.1 : Int), uV u] Q → tRet (tOp (rCatA K) (tCall (spJs2 K) [] E0 (tCons (tVar 1) (tCons (tVar 2) tNil))) (tTup (tCons (tVar 3) tNil))) D [some (.int (i : Int)), some (.str (Str.ofString "then")), some (.ref pa), some (uV u)] H1 := fun {u D} hD q => by
        refine ⟨_, rfl, _, rfl, _, pa, _, rfl, s1 _ _ hp, .inr (.inr ⟨a, b, m, n, rfl, rfl, s1.seqT ha, s1.seqT hb, fun t H2 s2 ht => ⟨_, rfl, z1, fun t1 g1 => ?_⟩⟩)⟩
        refine ⟨t, t1, _, _, rfl, rfl, (Same.upd g1).seqT ht, .of upd_same, (by show 2 + 1 ≤ sizeLine; decide), fun a' H' s' h' => ?_⟩
        show D.rt _ _
        rw [hD]
        exact q a' H' ((s1.trans s2).trans ((Same.upd g1).trans s')) h'
      refine ⟨_, rfl, rfl, _, rfl, ?_⟩
      rw [decide_eq_true rfl]
      refine iteT ⟨_, rfl, rfl, _, rfl, ?_⟩
      cases hu : orN m.2.2 n.2.2 with
      | some j =>
        rw [hu] at q
        rw [decide_eq_false uV_some]
        exact iteF (iteF (rest (u := some j) rfl q))
      | none =>
        rw [hu] at q
        rw [decide_eq_true (show uV none = V.non from rfl)]
        refine iteT ⟨_, rfl, pa, _, 0, .ref a, rfl, rfl, .of (s1 _ _ hp), atI_nat (j := 0) rfl, a, _, 1, .int (m.2.1 : Int), rfl, rfl, s1.seqT ha, atI_nat (j := 1) rfl, _, rfl, pa, _, 1, .ref b, rfl, rfl, .of (s1 _ _ hp), atI_nat (j := 1) rfl, b, _, 0, .int (n.1 : Int), rfl, rfl, s1.seqT hb, atI_nat (j := 0) rfl, rfl, _, rfl, iteNe (fun z => ?_) (fun z => ?_)⟩
        · have z' : ¬ m.2.1 = n.1 := fun e => z (by rw [e])
          rw [show (match (none : Option Nat) with | some j => some j | none => if m.2.1 = n.1 then none else some i) = some i from if_neg z'] at q
          exact ⟨_, rfl, rest (u := some i) rfl q⟩
        · have z' : m.2.1 = n.1 := by injection z with z; exact Int.ofNat.inj z
          rw [show (match (none : Option Nat) with | some j => some j | none => if m.2.1 = n.1 then none else some i) = none from if_pos z'] at q
          exact rest (u := none) rfl q
end
end S21
namespace S21
open PySem L2 Bw
set_option maxHeartbeats 3900000
noncomputable def ItmU (K : PySem.W.Frag) (H : Hp) (i : Nat) : It2 → V → Prop
  | .num n, v => v = .int n
  | .drw d, v => ∃ a, v = .ref a ∧ MeU K H a (d.lft, d.rgt, d.unm i)
inductive ItmsU (K : PySem.W.Frag) (H : Hp) : Nat → List It2 → List V → Prop where
  | nil {i : Nat} : ItmsU K H i [] []
  | cons {i : Nat} {t : It2} {ts : List It2} {v : V} {vs : List V} (h : ItmU K H i t v) (r : ItmsU K H (i + t.words.length) ts vs) : ItmsU K H i (t :: ts) (v :: vs)
section
variable {K : PySem.W.Frag} {H H' : Hp}
theorem ItmU.tup {i : Nat} {t : It2} {v : V} (h : ItmU K H i t v) (s : Tup H H') : ItmU K H' i t v := by
  cases t with
  | num n => exact h
  | drw d =>
    obtain ⟨a, e, hf⟩ := h
    exact ⟨a, e, s.seqT hf⟩
theorem ItmsU.tup {i : Nat} {ts : List It2} {vs : List V} (h : ItmsU K H i ts vs) (s : Tup H H') : ItmsU K H' i ts vs := by
  induction h with
  | nil => exact .nil
  | cons h r ih => exact .cons (h.tup s) ih
theorem ItmsU.len {i : Nat} {ts : List It2} {vs : List V} (h : ItmsU K H i ts vs) : vs.length = ts.length := by
  induction h with
  | nil => rfl
  | cons h r ih => rw [List.length_cons, List.length_cons, ih]
theorem ItmsU.split : ∀ {i : Nat} {ts us : List It2} {vs : List V}, ItmsU K H i (ts ++ us) vs → ∃ xs ys, vs = xs ++ ys ∧ ItmsU K H i ts xs ∧ ItmsU K H (i + (ts.flatMap It2.words).length) us ys
  | i, [], us, vs, h => ⟨[], vs, rfl, .nil, h⟩
  | i, t :: ts, us, _, .cons h r => by
    obtain ⟨xs, ys, e, h1, h2⟩ := ItmsU.split (ts := ts) r
    refine ⟨_ :: xs, ys, by rw [e]; rfl, .cons h h1, ?_⟩
    rw [List.flatMap_cons, List.length_append, ← Nat.add_assoc]
    exact h2
end
theorem side_pc : ∀ e ∈ sideL, pcI e.1 = 0 := by decide +kernel
theorem pc_t2 : pcI (Str.ofString "times") = 1 ∧ pcI (Str.ofString "back") = 1 ∧ pcI (Str.ofString "beside") = 2 ∧ pcI (Str.ofString "then") = 2 := by decide +kernel
section
variable {P : Program} {w : World} {K : PySem.W.Frag} {mg : Str → Option Value} {base : Heap}
theorem scMd2 : FnScope ["words"] ["words"] (defScope s_measured) := ⟨rfl, rfl, rfl, by decide +kernel, rfl, by decide +kernel, by decide +kernel⟩
noncomputable def spMeasd3 (K : PySem.W.Frag) : Sp := fun vs H Q _ => ∃ (p : Int) (aw : Addr) (d : Dw), vs = [.ref aw] ∧ d.ok p ∧ d.words.length ≤ 200 ∧ SqT K H aw d.words ∧ ∀ v H', Same H H' → MeU K H' v (d.lft, d.rgt, d.unm 0) → Q (.ref v) H'
theorem ok_measd3 {f fF fM : Addr} {fd fdF fdM : FuncData} (F : Fun K "measured" "measured" s_measured f fd)
    (GF : RunS P w K mg base 4 fF fdF ["words", "made"] (spFolded 2 P w K mg base)) (kF : PySem.W.keepIn K (.ref fF) = true) (bF : Binds K fdF ["words", "made"] []) (mF : mg "folded" = some (.ref fF))
    (GM : FnOk P w K mg base CX0 2 fM fdM ["place", "word", "parts"] (spMeas3 K)) (FM : Fun K "measure" "measure" s_measure fM fdM) (bM : Binds K fdM ["place", "word", "parts"] []) (mM : mg "measure" = some (.ref fM)) : FnOk P w K mg base CX0 5 f fd ["words"] (spMeasd3 K) := by
  refine F.ok scMd2 (fun vs H Q E h => ?_) (fun cdv A outer s H vs Q E hr h => ?_)
  · obtain ⟨p, aw, d, rfl, _⟩ := h
    rfl
  · obtain ⟨p, aw, d, rfl, hd, hdl, hw, q⟩ := h
    obtain ⟨pc1, pc2, pc3, pc4⟩ := pc_t2
    have ew : ([It2.drw d]).flatMap It2.words = d.words := by simp [It2.words]
    have hwf : ∀ t ∈ [It2.drw d], t.ok p := fun t ht => by rw [List.mem_singleton.mp ht]; exact hd
    refine ⟨_, pss_one (ps_ret (pe_callS GF hr rfl mF kF bF (pa_cons (pv 0) (pa_cons (pe_glob (v := .ref _) rfl mM rfl) pa_nil)))), ?_⟩
    refine ⟨_, rfl, fun pins s1 I => ⟨aw, fM, d.words, fun vs H' Q => spMeas3 K vs H' Q E0, fun i vs H' => ItmsU K H' i (sf2 [.drw d] i) vs.reverse, rfl, ?_⟩⟩
    refine ⟨hw, hdl, FnV.ofK GM FM bM, ?_, fun i vs H1 H2 h tp => h.tup tp, fun i vs H1 h => ?_, fun i hi => ?_, fun i n vs H1 h g => ?_, fun i x vs H1 h g => ?_, ?_, fun td kvs vs v H' s' h1 h2 h3 => ?_⟩
    · show ItmsU K H d.words.length (sf2 [.drw d] d.words.length) _
      have e := sf2_end (ts := [.drw d])
      rw [ew] at e
      rw [e]
      exact .nil
    · have e := h.len
      have z := sf2_few (ts := [.drw d]) (i := i)
      rw [List.length_reverse] at e
      rw [ew] at z
      lia
    · obtain ⟨t, r, e1, e2, e3⟩ := sf2_at (ts := [.drw d]) (i := i) (by rw [ew]; exact hi)
      rw [ew] at e2
      rw [e2]
      cases t with
      | num n => exact .inr ⟨n, rfl⟩
      | drw d' => cases d' <;> exact .inl ⟨_, rfl⟩
    · obtain ⟨t, r, e1, e2, e3⟩ := sf2_at (ts := [.drw d]) (i := i) (by rw [ew]; exact (List.getElem?_eq_some_iff.mp h).1)
      rw [ew, h] at e2
      cases t with
      | num m =>
        have e2 : n = m := V.int.inj (Option.some.inj e2)
        subst e2
        have g : ItmsU K H1 (i + 1) (sf2 [.drw d] (i + 1)) vs.reverse := g
        rw [e3] at g
        show ItmsU K H1 i (sf2 [.drw d] i) (vs ++ [V.int n]).reverse
        rw [e1, List.reverse_append]
        exact .cons rfl g
      | drw d' => cases d' <;> cases e2
    · obtain ⟨t, r, e1, e2, e3⟩ := sf2_at (ts := [.drw d]) (i := i) (by rw [ew]; exact (List.getElem?_eq_some_iff.mp h).1)
      rw [ew, h] at e2
      have hti : t.ok p := sf2_ok i hwf t (by rw [e1]; exact List.mem_cons_self)
      have g : ItmsU K H1 (i + 1) (sf2 [.drw d] (i + 1)) vs.reverse := g
      rw [e3] at g
      obtain ⟨xs, ys, ev, g1, g2⟩ := g.split
      have el2 : i + 1 + (t.kids.flatMap It2.words).length = i + t.words.length := by rw [It2.words_eq t, List.length_cons]; lia
      rw [el2] at g2
      have ev' : vs = ys.reverse ++ xs.reverse := by rw [← List.reverse_append, ← ev, List.reverse_reverse]
      refine ⟨ys.reverse, xs, ev', ?_, ?_⟩
      · have el := g1.len
        rw [el]
        cases t with
        | num m => cases e2
        | drw d' =>
          cases d' with
          | box x' l' r' =>
            have e2 : x = x' := V.str.inj (Option.some.inj e2)
            subst e2
            exact (side_pc _ hti).symm
          | times n => have e2 : x = _ := V.str.inj (Option.some.inj e2); subst e2; exact pc1.symm
          | back d' => have e2 : x = _ := V.str.inj (Option.some.inj e2); subst e2; exact pc2.symm
          | beside a b => have e2 : x = _ := V.str.inj (Option.some.inj e2); subst e2; exact pc3.symm
          | thn a b => have e2 : x = _ := V.str.inj (Option.some.inj e2); subst e2; exact pc4.symm
      · intro pa H2 Q' tp hp hq
        refine ⟨i, _, pa, _, rfl, hp, ?_⟩
        have g1 := g1.tup tp
        have g2 := g2.tup tp
        have fin : ∀ v H3, Same H2 H3 → ItmU K H3 i t (.ref v) → Q' (.ref v) H3 := fun v H3 s3 hv => hq (.ref v) H3 s3 (by
          show ItmsU K H3 i (sf2 [.drw d] i) _
          rw [e1, List.reverse_append, List.reverse_reverse]
          exact .cons hv (g2.tup s3.tup))
        cases t with
        | num m => cases e2
        | drw d' =>
          cases d' with
          | box x' l' r' =>
            have e2 : x = x' := V.str.inj (Option.some.inj e2)
            subst e2
            exact .box _ _ (List.mem_cons_of_mem _ hti) fun v H3 s3 hv => fin v H3 s3 ⟨v, rfl, hv⟩
          | times n =>
            have e2 : x = _ := V.str.inj (Option.some.inj e2)
            subst e2
            exact .box 1 1 List.mem_cons_self fun v H3 s3 hv => fin v H3 s3 ⟨v, rfl, hv⟩
          | back d' =>
            have e2 : x = _ := V.str.inj (Option.some.inj e2)
            cases g1 with
            | cons h1 r1 =>
              cases r1
              obtain ⟨a, rfl, hf⟩ := h1
              exact .back a _ e2 rfl hf fun v H3 s3 hv => fin v H3 s3 ⟨v, rfl, hv⟩
          | beside a b =>
            have e2 : x = _ := V.str.inj (Option.some.inj e2)
            cases g1 with
            | cons h1 r1 =>
              cases r1 with
              | cons h2 r2 =>
                cases r2
                obtain ⟨a1, rfl, hf⟩ := h1
                obtain ⟨a2, rfl, hf2⟩ := h2
                exact .beside a1 a2 _ _ e2 rfl hf hf2 fun v H3 s3 hv => fin v H3 s3 ⟨v, rfl, hv⟩
          | thn a b =>
            have e2 : x = _ := V.str.inj (Option.some.inj e2)
            cases g1 with
            | cons h1 r1 =>
              cases r1 with
              | cons h2 r2 =>
                cases r2
                obtain ⟨a1, rfl, hf⟩ := h1
                obtain ⟨a2, rfl, hf2⟩ := h2
                exact .thn a1 a2 _ _ e2 rfl hf hf2 fun v H3 s3 hv => fin v H3 s3 ⟨v, rfl, hv⟩
    · cases d <;> exact ⟨_, rfl⟩
    · have h3 : ItmsU K H' 0 [.drw d] (vs ++ [v]).reverse := h3
      rw [List.reverse_append] at h3
      cases h3 with
      | cons hv r =>
        obtain ⟨a, rfl, hf⟩ := hv
        exact ⟨td, kvs, _, rfl, h1, h2, q a H' s' hf⟩
end
end S21
namespace S21
open PySem L2 Bw
set_option maxHeartbeats 3900000
theorem bt_str : bootBuiltins "str" = some (.type "str") := by decide +kernel
/-! ### numbers as texts -/
noncomputable def numS (n : Nat) : Str := Str.ofString (toString (n : Int))
noncomputable def figs : Str := "0123456789"
noncomputable def numOk (n : Nat) : Bool := !(keysL.contains (numS n)) && (PyProof.Rows.KTD.datumAt (numS n) dParts).isNone && (numS n).cps.all (· < 128) && ((numS n).cps.all fun c => 48 ≤ c && c ≤ 57) && ((numS n).length == if n < 10 then 1 else 2) &&
  (match (numS n).cps.toList with | c :: _ => decide ((⟨#[c]⟩ : Str) = Str.ofString "0") == (n == 0) | [] => false) && (n != 0 || numS n == Str.ofString "0")
theorem num_ok : (List.range 98).all numOk = true := by decide +kernel
structure NumS (n : Nat) : Prop where
  nk : numS n ∉ keysL
  np : PyProof.Rows.KTD.datumAt (numS n) dParts = none
  asc : (numS n).cps.all (· < 128) = true
  dig : ∀ (i c : Nat), (numS n).cps[i]? = some c → 48 ≤ c ∧ c ≤ 57
  len : (numS n).length = if n < 10 then 1 else 2
  fst : ∃ c, (numS n).cps.toList[0]? = some c ∧ ((⟨#[c]⟩ : Str) = Str.ofString "0" ↔ n = 0)
  nil : n = 0 → numS n = Str.ofString "0"
theorem num_of {n : Nat} (h : n < 98) : NumS n := by
  have z := List.all_eq_true.mp num_ok n (List.mem_range.mpr h)
  unfold numOk at z
  simp only [Bool.and_eq_true] at z
  obtain ⟨⟨⟨⟨⟨⟨z1, z2⟩, z3⟩, z4⟩, z5⟩, z6⟩, z7⟩ := z
  refine ⟨fun m => ?_, Option.isNone_iff_eq_none.mp z2, z3, fun i c hc => ?_, eq_of_beq z5, ?_, fun e => ?_⟩
  · rw [List.contains_iff_mem.mpr m] at z1
    exact nomatch z1
  · have := Array.all_eq_true'.mp z4 c (Array.mem_of_getElem? hc)
    simpa using this
  · cases e : (numS n).cps.toList with
    | nil => rw [e] at z6; exact nomatch z6
    | cons c r =>
      rw [e] at z6
      have z6 := eq_of_beq z6
      refine ⟨c, rfl, ?_⟩
      by_cases hn : n = 0
      · subst hn
        exact ⟨fun _ => rfl, fun _ => of_decide_eq_true z6⟩
      · rw [beq_eq_false_iff_ne.mpr hn] at z6
        exact ⟨fun h => absurd h (of_decide_eq_false z6), fun h => absurd h hn⟩
  · subst e
    exact eq_of_beq z7
theorem nsgn : (["sign"] : List Str).Nodup := by decide +kernel
section
variable {P : Program} {w : World} {K : PySem.W.Frag} {mg : Str → Option Value} {base : Heap}
/-! ### is_number, of a number of p -/
theorem scIn : FnScope ["p", "piece"] ["p", "piece"] (defScope s_is_number) := ⟨rfl, rfl, rfl, by decide +kernel, rfl, by decide +kernel, by decide +kernel⟩
end
end S21
namespace S21
open PySem L2 Bw
set_option maxHeartbeats 3900000
/-! ### words joined by blanks are split at them -/
theorem cut_at {α : Type} {c : α} : ∀ {x y X Y : List α}, c ∉ x → c ∉ y → x ++ c :: X = y ++ c :: Y → x = y ∧ X = Y
  | [], [], _, _, _, _, h => ⟨rfl, (List.cons.inj h).2⟩
  | [], b :: y, _, _, _, hy, h => absurd (by rw [(List.cons.inj h).1]; exact List.mem_cons_self) hy
  | a :: x, [], _, _, hx, _, h => absurd (by rw [← (List.cons.inj h).1]; exact List.mem_cons_self) hx
  | a :: x, b :: y, X, Y, hx, hy, h => by
    obtain ⟨h1, h2⟩ := List.cons.inj h
    obtain ⟨h3, h4⟩ := cut_at (fun z => hx (List.mem_cons_of_mem _ z)) (fun z => hy (List.mem_cons_of_mem _ z)) h2
    exact ⟨by rw [h1, h3], h4⟩
theorem signs_cat (x y : Str) : (x ++ y).cps.toList = x.cps.toList ++ y.cps.toList := by
  show (x.cps ++ y.cps).toList = _
  exact Array.toList_append
theorem join_inj {c : Nat} : ∀ {xs ys : List Str}, xs ≠ [] → ys ≠ [] → (∀ x ∈ xs, c ∉ x.cps.toList) → (∀ y ∈ ys, c ∉ y.cps.toList) → Str.join ⟨#[c]⟩ xs = Str.join ⟨#[c]⟩ ys → xs = ys
  | [], _, h, _, _, _, _ => absurd rfl h
  | _ :: _, [], _, h, _, _, _ => absurd rfl h
  | [x], [y], _, _, _, _, h => by
    have h : x = y := h
    rw [h]
  | [x], y :: y' :: r, _, _, hx, _, h => by
    have h : x = y ++ ⟨#[c]⟩ ++ Str.join ⟨#[c]⟩ (y' :: r) := h
    refine absurd ?_ (hx x List.mem_cons_self)
    rw [h, signs_cat, signs_cat]
    exact List.mem_append_left _ (List.mem_append_right _ (List.mem_singleton.mpr rfl))
  | x :: x' :: r, [y], _, _, _, hy, h => by
    have h : x ++ ⟨#[c]⟩ ++ Str.join ⟨#[c]⟩ (x' :: r) = y := h
    refine absurd ?_ (hy y List.mem_cons_self)
    rw [← h, signs_cat, signs_cat]
    exact List.mem_append_left _ (List.mem_append_right _ (List.mem_singleton.mpr rfl))
  | x :: x' :: r, y :: y' :: q, _, _, hx, hy, h => by
    have h : x ++ ⟨#[c]⟩ ++ Str.join ⟨#[c]⟩ (x' :: r) = y ++ ⟨#[c]⟩ ++ Str.join ⟨#[c]⟩ (y' :: q) := h
    have e := congrArg (fun s => s.cps.toList) h
    simp only [signs_cat, List.append_assoc] at e
    obtain ⟨e1, e2⟩ := cut_at (hx x List.mem_cons_self) (hy y List.mem_cons_self) e
    have i1 : x = y := Str.ext' (Array.toList_inj.mp e1)
    have i2 := join_inj (xs := x' :: r) (ys := y' :: q) (by simp) (by simp) (fun z hz => hx z (List.mem_cons_of_mem _ hz)) (fun z hz => hy z (List.mem_cons_of_mem _ hz)) (Str.ext' (Array.toList_inj.mp e2))
    rw [i1, i2]
theorem split_join {c : Nat} {xs : List Str} (h : xs ≠ []) (hx : ∀ x ∈ xs, c ∉ x.cps.toList) : Txt.split (Str.join ⟨#[c]⟩ xs) ⟨#[c]⟩ = xs :=
  join_inj (by
    have := PyProof.Rows.split_pos (Str.join ⟨#[c]⟩ xs) ⟨#[c]⟩
    intro z
    rw [z] at this
    exact absurd this (by decide)) h (StrLaws.split_free _ c) hx (StrLaws.join_split _ _)
/-! ### words as texts -/
noncomputable def wdS : V → Str
  | .str x => x
  | .int n => numS n.toNat
  | _ => Str.empty
noncomputable def allW : List Str := ["id", "swap", "copy", "end", "add", "none", "times", "cup", "empty", "late", "back", "beside", "then"]
/-- a word, or a number of p -/
noncomputable def WdOk (p : Int) (v : V) : Prop := (∃ x, v = .str x ∧ x ∈ allW) ∨ ∃ n : Nat, v = .int (n : Int) ∧ (n : Int) < p
theorem Dw.wds {p : Int} : ∀ {d : Dw}, d.ok p → ∀ v ∈ d.words, WdOk p v
  | .box x l r, h, v, hv => by
    rw [List.mem_singleton.mp hv]
    refine .inl ⟨x, rfl, ?_⟩
    have z : (sideL.all fun e => allW.contains e.1) = true := by decide +kernel
    exact List.contains_iff_mem.mp (List.all_eq_true.mp z _ h)
  | .times n, h, v, hv => by
    rcases (List.mem_cons.mp hv) with z | z
    · exact .inl ⟨_, z, by decide +kernel⟩
    · refine .inr ⟨n.toNat, ?_, ?_⟩
      · rw [List.mem_singleton.mp z]
        have h : 0 ≤ n ∧ n < p := h
        rw [show ((n.toNat : Nat) : Int) = n by lia]
      · have h : 0 ≤ n ∧ n < p := h
        lia
  | .back d, h, v, hv => by
    rcases (List.mem_cons.mp hv) with z | z
    · exact .inl ⟨_, z, by decide +kernel⟩
    · exact Dw.wds (d := d) h v z
  | .beside a b, h, v, hv => by
    rcases (List.mem_cons.mp hv) with z | z
    · exact .inl ⟨_, z, by decide +kernel⟩
    · rcases (List.mem_append.mp z) with z | z
      · exact Dw.wds (d := a) h.1 v z
      · exact Dw.wds (d := b) h.2 v z
  | .thn a b, h, v, hv => by
    rcases (List.mem_cons.mp hv) with z | z
    · exact .inl ⟨_, z, by decide +kernel⟩
    · rcases (List.mem_append.mp z) with z | z
      · exact Dw.wds (d := a) h.1 v z
      · exact Dw.wds (d := b) h.2 v z
theorem blank_is : Str.ofString " " = ⟨#[32]⟩ := by decide
theorem sum_le_mul {α : Type} (f : α → Nat) (B : Nat) : ∀ l : List α, (∀ x ∈ l, f x ≤ B) → (l.map f).sum ≤ l.length * B
  | [], _ => by simp
  | a :: l, h => by
    have h1 := h a List.mem_cons_self
    have h2 := sum_le_mul f B l fun x hx => h x (List.mem_cons_of_mem _ hx)
    rw [List.map_cons, List.sum_cons, List.length_cons, Nat.succ_mul]
    lia
end S21
namespace S21
open PySem L2 Bw
set_option maxHeartbeats 3900000
/-! ### numbers stand behind times alone -/
noncomputable def isI : V → Bool
  | .int _ => true
  | _ => false
theorem WdOk.flat {p : Int} {v : V} (h : WdOk p v) : (∃ x, v = .str x) ∨ ∃ n, v = .int n := by
  rcases h with ⟨x, rfl, _⟩ | ⟨n, rfl, _⟩
  · exact .inl ⟨x, rfl⟩
  · exact .inr ⟨_, rfl⟩
theorem naw : (["ahead", "word"] : List Str).Nodup := by decide +kernel
theorem npp : (["piece", "p"] : List Str).Nodup := by decide +kernel
section
variable {P : Program} {w : World} {K : PySem.W.Frag} {mg : Str → Option Value} {base : Heap}
theorem cIs {X : Cx} (K : PySem.W.Frag) (hK : X.K = K) {T : String} : CallR X (.builtin "isinstance") (fun xs H Q => ∃ x t b, xs = [x, .ty T] ∧ TyOf K H x t ∧ PySem.W.kitOne K t (.type T) = some b ∧ Q (.bl b) H) := hK ▸ call_isinst
/-! ### word_of -/
theorem scWo : FnScope ["p", "piece"] ["p", "piece"] (defScope s_word_of) := ⟨rfl, rfl, rfl, by decide +kernel, rfl, by decide +kernel, by decide +kernel⟩
/-! ### shown -/
theorem log_small {n : Nat} (h : n < 98) : ((n : Int).natAbs.log2 < 1920) := by
  have e : (n : Int).natAbs = n := rfl
  rw [e]
  exact Nat.lt_of_le_of_lt (Nat.log2_le_self n) (by lia)
/-! ### numbers_fit -/
theorem scNf : FnScope ["words"] ["words"] (defScope s_numbers_fit) := ⟨rfl, rfl, rfl, by decide +kernel, rfl, by decide +kernel, by decide +kernel⟩
/-! ### parts_fit -/
theorem scPf : FnScope ["words", "due", "word"] ["words"] (defScope s_parts_fit) := ⟨rfl, rfl, rfl, by decide +kernel, rfl, by decide +kernel, by decide +kernel⟩
end
end S21
namespace S21
open PySem L2 Bw
set_option maxHeartbeats 3900000
/-! ### all pieces that the law puts together -/
noncomputable def oth12 : List Str := (["id", "swap", "copy", "end", "add", "none", "cup", "empty", "late", "times", "back", "beside", "then", "0", "1", "01", "00", "-1", "", "ID", "Then", "thens", "copyy", "ad", "time", "times0", "100", "1.0", "+1", "x", "idd", "bac", "1_0", "id,", "then.", "097", "96"] : List String).map Str.ofString
noncomputable def pieces : List Str := oth12 ++ (List.range 99).map numS
theorem num_ok98 : numOk 98 = true := by decide +kernel
theorem num_is {n : Nat} (h : n < 99) : NumS n := by
  by_cases e : n < 98
  · exact num_of e
  have e : n = 98 := by lia
  subst e
  have z := num_ok98
  unfold numOk at z
  simp only [Bool.and_eq_true] at z
  obtain ⟨⟨⟨⟨⟨⟨z1, z2⟩, z3⟩, z4⟩, z5⟩, z6⟩, z7⟩ := z
  refine ⟨fun m => ?_, Option.isNone_iff_eq_none.mp z2, z3, fun i c hc => ?_, eq_of_beq z5, ?_, fun e => ?_⟩
  · rw [List.contains_iff_mem.mpr m] at z1
    exact nomatch z1
  · have := Array.all_eq_true'.mp z4 c (Array.mem_of_getElem? hc)
    simpa using this
  · cases e : (numS 98).cps.toList with
    | nil => rw [e] at z6; exact nomatch z6
    | cons c r =>
      rw [e] at z6
      have z6 := eq_of_beq z6
      exact ⟨c, rfl, ⟨fun h => absurd h (of_decide_eq_false z6), fun h => absurd h (by decide)⟩⟩
  · exact absurd e (by decide)
noncomputable def figB (c : Nat) : Bool := !(Builtin.Str.occurrences figs ⟨#[c]⟩ 0 figs.length 1).isEmpty
noncomputable def digB (x : Str) : Bool := x.cps.toList.all figB
/-- of a piece that is no number as written: no figures only, or a nought ahead, or too long -/
noncomputable def pcOk (x : Str) : Bool := x.cps.all (· < 128) && decide (x.length ≤ 10) && (x == Str.ofString "" || !digB x || (match x.cps.toList with | c :: _ => ((⟨#[c]⟩ : Str) == Str.ofString "0") || decide (3 ≤ x.length) || (List.range 99).any (fun n => numS n == x) | [] => false))
theorem oth_ok : oth12.all pcOk = true := by decide +kernel
theorem num_dig : (List.range 99).all (fun n => digB (numS n)) = true := by decide +kernel
theorem num_nd : ((List.range 99).map numS).Nodup := by decide +kernel
theorem numS_inj {n m : Nat} (hn : n < 99) (hm : m < 99) (h : numS n = numS m) : n = m := by
  have e1 : ((List.range 99).map numS)[n]? = some (numS n) := by rw [List.getElem?_map, List.getElem?_range hn]; rfl
  have e2 : ((List.range 99).map numS)[m]? = some (numS n) := by rw [List.getElem?_map, List.getElem?_range hm, h]; rfl
  obtain ⟨h1, e1⟩ := List.getElem?_eq_some_iff.mp e1
  obtain ⟨h2, e2⟩ := List.getElem?_eq_some_iff.mp e2
  exact (List.getElem_inj num_nd).mp (e1.trans e2.symm)
/-- a number of p, as it is written -/
noncomputable def isNumP (p : Int) (x : Str) : Bool := (List.range p.toNat).any fun n => numS n == x
theorem isNumP_iff {p : Int} {x : Str} : isNumP p x = true ↔ ∃ n : Nat, (n : Int) < p ∧ x = numS n := by
  unfold isNumP
  rw [List.any_eq_true]
  constructor
  · rintro ⟨n, h1, h2⟩
    exact ⟨n, by have := List.mem_range.mp h1; lia, (eq_of_beq h2).symm⟩
  · rintro ⟨n, h1, h2⟩
    exact ⟨n, List.mem_range.mpr (by lia), by rw [h2]; exact beq_self_eq_true _⟩
structure Pc (x : Str) : Prop where
  asc : x.cps.all (· < 128) = true
  len : x.length ≤ 10
  sort : x = Str.ofString "" ∨ digB x = false ∨ (digB x = true ∧ ∃ c, x.cps.toList[0]? = some c ∧ ((⟨#[c]⟩ : Str) = Str.ofString "0" ∨ ((⟨#[c]⟩ : Str) ≠ Str.ofString "0" ∧ (3 ≤ x.length ∨ ∃ n, n < 99 ∧ x = numS n))))
theorem pc_of {x : Str} (h : x ∈ pieces) : Pc x := by
  unfold pieces at h
  rcases (List.mem_append.mp h) with h | h
  · have z := List.all_eq_true.mp oth_ok x h
    unfold pcOk at z
    simp only [Bool.and_eq_true, Bool.or_eq_true, decide_eq_true_eq, beq_iff_eq, Bool.not_eq_true'] at z
    obtain ⟨⟨z1, z2⟩, z3⟩ := z
    refine ⟨z1, z2, ?_⟩
    rcases z3 with (z3 | z3) | z3
    · exact .inl z3
    · exact .inr (.inl z3)
    · by_cases hd : digB x = false
      · exact .inr (.inl hd)
      · refine .inr (.inr ⟨by simpa using hd, ?_⟩)
        cases e : x.cps.toList with
        | nil => rw [e] at z3; exact nomatch z3
        | cons c r =>
          rw [e] at z3
          simp only [Bool.or_eq_true, beq_iff_eq, decide_eq_true_eq, List.any_eq_true] at z3
          refine ⟨c, rfl, ?_⟩
          by_cases h0 : (⟨#[c]⟩ : Str) = Str.ofString "0"
          · exact .inl h0
          · refine .inr ⟨h0, ?_⟩
            rcases z3 with (z | z) | ⟨n, hn, z⟩
            · exact absurd z h0
            · exact .inl z
            · exact .inr ⟨n, List.mem_range.mp hn, z.symm⟩
  · obtain ⟨n, hn, rfl⟩ := List.mem_map.mp h
    have hn := List.mem_range.mp hn
    have N := num_is hn
    have hd := List.all_eq_true.mp num_dig n (List.mem_range.mpr hn)
    refine ⟨N.asc, by rw [N.len]; split <;> lia, .inr (.inr ⟨hd, ?_⟩)⟩
    obtain ⟨c, hc, h0⟩ := N.fst
    refine ⟨c, hc, ?_⟩
    by_cases e : (⟨#[c]⟩ : Str) = Str.ofString "0"
    · exact .inl e
    · exact .inr ⟨e, .inr ⟨n, hn, rfl⟩⟩
section
variable {P : Program} {w : World} {K : PySem.W.Frag} {mg : Str → Option Value} {base : Heap}
/-! ### is_number, of any piece -/
noncomputable def spIsG : Sp := fun vs H Q _ => ∃ (p : Int) (x : Str), vs = [.int p, .str x] ∧ x ∈ pieces ∧ 2 ≤ p ∧ p ≤ 97 ∧ ∀ H', Same H H' → Q (.bl (isNumP p x)) H'
theorem num_not {p : Int} {x : Str} (hp : p ≤ 97) (h : ∀ n : Nat, n < 99 → x = numS n → False) : isNumP p x = false := by
  cases e : isNumP p x with
  | false => rfl
  | true =>
    obtain ⟨n, h1, h2⟩ := isNumP_iff.mp e
    exact (h n (by lia) h2).elim
theorem ok_isG {tf : Tok} {f : Addr} {fd : FuncData} (F : Fun K "is_number" "is_number" s_is_number f fd) (T : Txt mg) (FG : mg "FIGURES" = some (.str figs tf)) : FnOk P w K mg base CX0 1 f fd ["p", "piece"] spIsG := by
  refine F.ok scIn (fun vs H Q E h => ?_) (fun cdv A outer s H vs Q E hr h => ?_)
  · obtain ⟨p, x, rfl, _⟩ := h
    rfl
  · obtain ⟨p, x, rfl, hx, p2, hp, q⟩ := h
    have N := pc_of hx
    have z : (1000 : Nat) ≤ sizeLine := by decide
    have hl10 := N.len
    have hcs : x.cps.size = x.length := rfl
    refine ⟨_, pss_cons (ps_if (PW.pt (pw_or (pt_cmpR op_eq (pv 1) pe_str (nomark _)) (pw_or1 (pt_not (pt_val (pe_callB (cAll K rfl rfl) rfl T.all bt_all (pa_cons (pe_comp (N := ["sign"]) (own := 1) (caps := []) rfl (pi_signs (pv 1)) (show BlkScope ["p", "piece"] (defScope s_is_number) ["sign"] 1 [] _ from .mk' (by decide +kernel))
          (fun _ _ _ _ _ => pg_name (i := 0) nsgn rfl (Or.inl rfl)) (fun _ _ _ _ _ => pts_nil) (fun _ _ _ _ _ => pe_cmpR op_in_str (pv 0) (pe_glob (v := .str figs) rfl FG ⟨_, rfl⟩) rfl)) pa_nil))))))) (pss_one (ps_ret pe_bl)) pss_nil)
      (pss_cons (ps_if (pt_cmpR op_eq (pe_ix ix_str (pv 1) pe_int (fun _ _ => rfl)) pe_str (nomark _)) (pss_one (ps_ret (pe_cmpR op_eq (pv 1) pe_str (nomark _)))) pss_nil)
      (pss_one (ps_ret (pe_and (pe_cmpR op_le (pe_callB call_len_str rfl T.len bt_len (pa_cons (pv 1) pa_nil)) (pe_callB call_len_str rfl T.len bt_len (pa_cons (pe_callTy call_str_int rfl T.str bt_str (pa_cons (pv 0) pa_nil)) pa_nil)) (nomark _))
        (pe_one (pe_cmpR op_lt (pe_callTy call_int_text rfl T.int bt_int (pa_cons (pv 1) pa_nil)) (pv 0) (nomark _))))))), ?_⟩
    refine ⟨_, rfl, rfl, _, rfl, ?_⟩
    by_cases hz : x = Str.ofString ""
    · rw [decide_eq_true (show V.str x = V.str (Str.ofString "") by rw [hz])]
      have hf : isNumP p x = false := num_not hp fun n hn e => by
        have := (num_is hn).len
        rw [← e, hz] at this
        split at this <;> exact absurd this (by decide)
      refine iteT (iteT ?_)
      have := q H (.refl _)
      rw [hf] at this
      exact this
    rw [decide_eq_false (show ¬ V.str x = V.str (Str.ofString "") from fun e => hz (V.str.inj e))]
    refine iteF ⟨_, rfl, x, rfl, N.asc, comp_signs (cp := []) (fun i H' zs => zs = ((x.cps.toList.take i).map figB).map V.bl) (by lia) rfl (fun i H' zs e => by rw [e, List.length_map, List.length_map]; exact List.length_take_le _ _) ?_ ?_⟩
    · rintro i c H1 zs hc sm rfl
      have hc' : x.cps.toList[i]? = some c := by rw [Array.getElem?_toList]; exact hc
      refine ⟨_, rfl, _, _, rfl, rfl, ⟨⟨[_], rfl, rfl⟩, sm, ?_⟩⟩
      rw [List.take_add_one, hc', List.map_append, List.map_append]
      rfl
    · rintro H1 zs sm rfl l hl
      have et : x.cps.toList.take x.cps.size = x.cps.toList := List.take_of_length_le (by rw [Array.length_toList]; exact Nat.le_refl _)
      rw [et]
      refine ⟨l, _, rfl, .of upd_same, digB x, ?_, ?_⟩
      · unfold digB
        rw [List.all_map]
        rfl
      have sH : Same H (upd H1 l (.lst ((x.cps.toList.map figB).map V.bl))) := sm.trans (.upd hl)
      generalize upd H1 l (.lst ((x.cps.toList.map figB).map V.bl)) = H2 at sH ⊢
      rcases N.sort with h | h | ⟨h, c, hc, h0⟩
      · exact absurd h hz
      · have hf : isNumP p x = false := num_not hp fun n hn e => by
          have := List.all_eq_true.mp num_dig n (List.mem_range.mpr hn)
          rw [← e, h] at this
          exact nomatch this
        rw [h]
        refine iteT ?_
        have := q H2 sH
        rw [hf] at this
        exact this
      rw [h]
      refine iteF ?_
      refine ⟨_, rfl, x, 0, c, rfl, rfl, by lia, atI_nat (j := 0) hc, rfl, _, rfl, ?_⟩
      rcases h0 with h0 | ⟨h0, h1⟩
      · rw [decide_eq_true (show V.str (⟨#[c]⟩ : Str) = V.str (Str.ofString "0") by rw [h0])]
        refine iteT ⟨_, rfl, rfl, ?_⟩
        have := q H2 sH
        have e : isNumP p x = decide (V.str x = V.str (Str.ofString "0")) := by
          by_cases ex : x = Str.ofString "0"
          · rw [decide_eq_true (by rw [ex]), isNumP_iff]
            exact ⟨0, by lia, by rw [ex]; exact ((num_is (n := 0) (by decide)).nil rfl).symm⟩
          · rw [decide_eq_false fun z => ex (V.str.inj z)]
            refine num_not hp fun n hn e => ex ?_
            obtain ⟨c', hc', k⟩ := (num_is hn).fst
            rw [← e, hc] at hc'
            cases hc'
            have n0 := k.mp h0
            rw [e, (num_is hn).nil n0]
        rw [e] at this
        exact this
      · rw [decide_eq_false (show ¬ V.str (⟨#[c]⟩ : Str) = V.str (Str.ofString "0") from fun e => h0 (V.str.inj e))]
        obtain ⟨m, rfl⟩ : ∃ m : Nat, p = (m : Int) := ⟨p.toNat, by lia⟩
        have M := num_of (n := m) (by lia)
        have hm2 : (numS m).length ≤ 2 := by rw [M.len]; split <;> lia
        have hlog : ((m : Int).natAbs.log2 < 1920) := by
          have : (m : Int).natAbs = m := rfl
          rw [this]
          exact Nat.lt_of_le_of_lt (Nat.log2_le_self m) (by lia)
        refine iteF ⟨_, rfl, x, rfl, by lia, _, rfl, (m : Int), rfl, hlog, numS m, rfl, by lia, _, _, rfl, rfl, _, rfl, ?_⟩
        rcases h1 with h1 | ⟨n, hn, rfl⟩
        · rw [decide_eq_false (show ¬ (x.length : Int) ≤ ((numS m).length : Int) by lia)]
          have hf : isNumP (m : Int) x = false := num_not hp fun n hn e => by
            have := (num_is hn).len
            rw [← e] at this
            split at this <;> lia
          have := q H2 sH
          rw [hf] at this
          exact iteF this
        · have NN := num_is hn
          by_cases hnm : n < m
          · have ht : isNumP (m : Int) (numS n) = true := isNumP_iff.mpr ⟨n, by lia, rfl⟩
            rw [decide_eq_true (show ((numS n).length : Int) ≤ ((numS m).length : Int) by rw [NN.len, M.len]; split <;> split <;> lia)]
            refine iteT ⟨_, rfl, numS n, (n : Int), rfl, PySem.W.KIN.num_reads (by lia) (by lia), by lia, _, rfl, _, _, rfl, rfl, ?_⟩
            show Q (V.bl (decide ((n : Int) < (m : Int)))) H2
            rw [decide_eq_true (by lia : (n : Int) < (m : Int))]
            have := q H2 sH
            rw [ht] at this
            exact this
          · have hf : isNumP (m : Int) (numS n) = false := by
              cases e : isNumP (m : Int) (numS n) with
              | false => rfl
              | true =>
                obtain ⟨k, hk, e⟩ := isNumP_iff.mp e
                have := numS_inj hn (by lia) e
                lia
            have := q H2 sH
            rw [hf] at this
            refine ite2 (fun _ => ?_) (fun _ => this)
            refine ⟨_, rfl, numS n, (n : Int), rfl, PySem.W.KIN.num_reads (by lia) (by lia), by lia, _, rfl, _, _, rfl, rfl, ?_⟩
            show Q (V.bl (decide ((n : Int) < (m : Int)))) H2
            rw [decide_eq_false (by lia : ¬ (n : Int) < (m : Int))]
            exact this
end
end S21
/-! exceptions of the program's own classes: `raise C(..)`, a call that passes one on, `try: f(..)` / `except W as e: x = e`, and isinstance of what was caught -/
namespace L2
open PySem PySem.Spec PyProof.Rows
set_option maxRecDepth 100000
theorem ObjOk.obj {P : Program} {w : World} {H : Hp} {h : Heap} {a : Addr} {o : HO} (x : ObjOk P w H h a o) : ∃ u, h.get? a = some u := by
  cases o with
  | lst xs => exact let ⟨_, _, _, _, e⟩ := x; ⟨_, e⟩
  | tup xs => exact let ⟨_, _, _, u, e, _⟩ := x; ⟨u, e⟩
  | dK kvs => exact let ⟨_, _, _, _, u, _, _, e, _⟩ := x; ⟨u, e⟩
  | dT kvs => exact let ⟨_, _, _, _, u, _, _, e, _⟩ := x; ⟨u, e⟩
  | set S n => exact let ⟨u, _, _, _, e, _⟩ := x; ⟨u, e⟩
  | ins C dx fs => exact let ⟨_, _, _, e, _⟩ := x; ⟨_, e⟩
  | own y => exact x
  | xd fs => exact let ⟨_, ⟨u, _, _, e, _⟩, _⟩ := x; ⟨u, e⟩
  | rng lo hi => exact let ⟨_, _, _, e⟩ := x; ⟨_, e⟩
  | frz ob u => exact ⟨_, x.1⟩
  | tbl ps => exact ⟨_, x⟩
  | met f y => exact ⟨_, x⟩
  | ext φ => exact x.2.1
section
variable {P : Program} {w : World} {fs fs' : List Addr} {H H1 : Hp} {h h1 h2 B : Heap}
theorem Un.fly (u : Un fs' [] H H1 h h1) (k : B.StaysIn h2) (q7 : ∀ b o, h.get? b = some o → b ∉ fs → ∃ o', B.get? b = some o' ∧ (H b = none → o' = o))
    (sl : ∀ b o, b ∈ fs → h.get? b = some o → ∃ z, h2.get? b = some { o with slots := z }) : Un fs [] H H1 h h2 where
  keep := fun b o q n hb _ => let ⟨o', e, z⟩ := q7 b o q hb; k b o (z n ▸ e)
  slot := fun b o q _ hb _ => sl b o hb q
  free := u.free
  there := fun b o q _ => by
    by_cases hb : b ∈ fs
    · exact let ⟨_, e⟩ := sl b o hb q; ⟨_, e⟩
    · exact let ⟨o', e, _⟩ := q7 b o q hb; ⟨o', k b o' e⟩
  tups := u.tups
  frzs := u.frzs
  tbls := u.tbls
theorem HOk.fly (x : HOk P w H h1) (q6 : ∀ b u, H b = some u → ∃ o, B.get? b = some o) (k1 : B.StaysIn h1) (k2 : B.StaysIn h2) : HOk P w H h2 := fun a o e =>
  (x a o e).stay (fun b u hb q => by
    have t : ∃ v, B.get? b = some v := by
      rcases hb with rfl | hb
      · exact q6 _ _ e
      · exact q6 _ _ hb
    obtain ⟨v, hv⟩ := t
    have z := k1 b v hv
    rw [q] at z
    cases z
    exact k2 b _ hv) (fun _ q => q) fun _ _ q => q
end
theorem frs_in {l : List Env} : ∀ env ∈ l, ∀ a, env.frame = some a → a ∈ frs l := fun env he a ha => List.mem_filterMap.mpr ⟨env, he, ha⟩

section
variable {P : Program} {w : World} {K : PySem.W.Frag} {mg : Str → Option Value} {base : Heap} {N : List Str} {qual : Str} {scope : Scope} {f C : Addr} {cd : Value} {A : Around} {outer : List Env} {s : Shared} {H : Hp} {E : XK}
end
section
variable {P : Program} {w : World} {K : PySem.W.Frag} {mg : Str → Option Value} {base : Heap}
/-- a def whose body may be left by an exception -/
theorem Fun.okX {CX : CXT} {x qual : Str} {st : Stmt} {f : Addr} {fd : FuncData} {N ps : List Str} {k : Nat} {sp : Sp} (F : Fun K x qual st f fd) (S : FnScope N ps (defScope st)) (len : ∀ vs H Q E, sp vs H Q E → vs.length = ps.length)
    (hb : ∀ (cdv : Value) (A : Around) (outer : List Env) (s : Shared) (H : Hp) (vs : List V) (Q : VK) (E : XK), Room k (A.deeper (envOfC qual (defScope st) s.heap.objs.size f cdv)) → sp vs H Q E →
      ∃ t, PSs (cxOf CX P w K mg base N qual (defScope st) f cdv A outer s H E) (defBody st) t ∧ t { nx := fun _ H' => Q .non H', rt := Q } (start N vs) H) : FnOk P w K mg base CX (k + 1) f fd ps sp := by
  obtain ⟨oc, od, kV, doc, pm, an, cdv, ct, osl, rfl, lk, hcd⟩ := F.ex
  exact fn_of lk hcd S len fun A outer s H vs Q E hr hsp => hb cdv A outer s H vs Q E hr hsp
end
/-! ### raise C(..) -/
theorem own_obj {K : PySem.W.Frag} {h : Heap} {C : Addr} {bmB : List Value} {newId : String} (X : K.In h) (q : PySem.W.excIn K C bmB newId = true) :
    ∃ bm N nm q bs hdct sn sub ab col dd k0 k1 k2 k3 k5 mN, h.get? C = some (excClassObj nm q C N bs bm hdct sn sub ab col dd k0 k1 k2 k3 k5 newId) ∧ h.Ns N mN ∧ mN "__init__" = none ∧ OwnTail h bmB bm := by
  unfold PySem.W.excIn at q
  split at q
  case h_2 => exact nomatch q
  case h_1 dd cd sl ho =>
    split at q
    case h_2 => exact nomatch q
    case h_1 C' bm k0 k1 k2 k3 n k5 hm hs =>
      rw [Bool.and_eq_true, Bool.and_eq_true, Bool.and_eq_true, Bool.and_eq_true, Bool.and_eq_true] at q
      obtain ⟨⟨⟨⟨⟨e1, e2⟩, e3⟩, e4⟩, e5⟩, e6⟩ := q
      have e1 : C' = C := beq_iff_eq.mp e1
      have e2 : n = newId := beq_iff_eq.mp e2
      have e3 : cd.hasDel = false := by simpa using e3
      have e6 := beq_iff_eq.mp e6
      subst e1 e2
      obtain ⟨nm, bs, mr, ns, qn, hd, sn, sub, ab, col, dl⟩ := cd
      have hm : mr = .ref C' :: bm := hm
      have e3 : dl = false := e3
      have es : sl = #[k0, k1, k2, k3, some (.builtin n), k5] := Array.toList_inj.mp hs
      subst hm e3 es
      exact ⟨bm, ns, nm, qn, bs, hd, sn, sub, ab, col, dd, k0, k1, k2, k3, k5, _, X _ _ ho, .of_isNs (PySem.W.isNs_of_in X e5), PySem.W.nsMap_none_of_in X e5 e6, PySem.W.tail_of_in X e4⟩
section
variable {X : Cx} {x : Str} {np cpos pos : Pos} {C : Addr} {bmB : List Value} {B newId initId : String} {e₀ : Expr} {rest : List Expr} {t : TA} {E : XK}
theorem ps_raise (hc : X.calm = true) (hg : Gl X x) (hmC : X.mg x = some (.ref C)) (hin : PySem.W.excIn X.K C bmB newId = true) (FB : ExcBaseFacts B newId initId bmB) (ha : PA X (e₀ :: rest) t)
    (hE : ∀ {pins : List (Addr × Obj)} {σ : St} {H : Hp} {s : Shared} {h' : Heap} {ea : Addr} {us : List Value}, Inv X pins σ H s → Heap.MadeExcOf s.heap h' ea (.ref C) us → E (.ref C) none H → X.xe (.ref ea) { s with heap := h' })
    (hd : (x == ("__debug__" : Str)) = false := by decide) (he : starEach (e₀ :: rest) X.env = (false, eval e₀ X.env) :: starEach rest X.env := by rfl) (hpl : (backTo cpos (starEach rest X.env)).any (·.1) = false := by rfl) :
    PS X (.Raise (some (.Call (.Name x np) (e₀ :: rest) [] cpos)) none pos) (fun _ σ H => t σ H fun vs H1 => vs.length ≤ sizeLine ∧ E (.ref C) none H1) := by
  intro pins s σ H D I h
  obtain ⟨bm, N, nm, q, bs, hdct, sn, sub, ab, col, dd, k0, k1, k2, k3, k5, mN, hC, hN, hni, T⟩ := own_obj I.ok.mod.kin hin
  have hh := I.ok.hd hc
  have hpp : (backTo cpos (starEach (e₀ :: rest) X.env)).any (·.1) = false := by rw [he]; exact hpl
  refine wpAny_Raise_call_subT (nm := nm) (q := q) (C := C) (N := N) (bs := bs) (bm := bm) (hdct := hdct) (sn := sn) (sub := sub) (ab := ab) (col := col) (dd := dd) (k0 := k0) (k1 := k1) (k2 := k2) (k3 := k3) (k5 := k5) (mN := mN) FB (T.hasType FB.hasBase) hh hpp hni ?_
  refine ld_glob I hg hmC ⟨rfl, ?_⟩ hd
  have hpa := ha cpos pins s σ H _ I h
  rw [he] at hpa ⊢
  exact Calls.evalArgs_plain (thn hpa fun us s1 ⟨vs, H1, I1, r, z, q1⟩ => ⟨rfl, r.length ▸ z, I1.bk _ _ hC, hN.keeps I1.bk, T.keeps I1.bk, fun h' e hm => hE I1 hm q1⟩)
end
/-! ### a name goes -/
theorem Inv.goes {X : Cx} {pins : List (Addr × Obj)} {σ : St} {H : Hp} {s : Shared} {h' : Heap} {n : Str} {i tk : Nat} {m : Str → Option Value} {v : Option Value} (I : Inv X pins σ H s) (hN : X.N.Nodup) (hi : X.N[i]? = some n)
    (hm : ∀ (j : Nat) (x : Str) (v : V), X.N[j]? = some x → σ[j]? = some (some v) → Vis X.env.scope x → ∃ u, RelV v u ∧ Look X.env s.heap m x u)
    (hn : s.heap.Ns X.env.locals m) (hn' : h'.Ns X.env.locals (fun x => if x = n then v else m x)) (hs : Heap.SameBut X.env.locals s.heap h') : Inv X pins (σ.set i none) H { s with heap := h', toks := tk } := by
  obtain ⟨oL, _, _, hoL, _⟩ := id hn
  have ne0 : ∀ b o, X.s₀.heap.get? b = some o → b ≠ X.env.locals := fun b o e => Nat.ne_of_lt (Nat.lt_of_lt_of_le (Heap.lt_size e) I.ok.above)
  refine ⟨I.ok, I.os, I.bare, ⟨fun b o e n hb hx => ?_, fun b o e n hb hx => ?_, I.base.free, fun b o e hx => ?_, I.base.tups, I.base.frzs, I.base.tbls⟩, ⟨_, hn', fun j y v' e1 e2 e3 => ?_⟩, fun y c e => ?_, I.free, I.freeC, fun p hp => ?_, ?_, by simpa using I.len⟩
  · exact (hs.2 b (ne0 b o e)).trans (I.base.keep b o e n hb hx)
  · exact let ⟨sl, z⟩ := I.base.slot b o e n hb hx; ⟨sl, (hs.2 b (ne0 b o e)).trans z⟩
  · exact let ⟨o', z⟩ := I.base.there b o e hx; ⟨o', (hs.2 b (ne0 b o e)).trans z⟩
  · by_cases hj : j = i
    · subst hj
      rw [List.getElem?_set] at e2
      rw [if_pos rfl] at e2
      split at e2 <;> cases e2
    · rw [List.getElem?_set_ne (Ne.symm hj)] at e2
      obtain ⟨u, r, q⟩ := hm j y v' e1 e2 e3
      refine ⟨u, r, ?_⟩
      rcases q with ⟨k, e⟩ | ⟨k, c, e, z⟩
      · have nyn : y ≠ n := fun z => hj (nodup_ix hN e1 (z ▸ hi))
        exact .inl ⟨k, by show (if y = n then v else m y) = some u; rw [if_neg nyn]; exact e⟩
      · exact .inr ⟨k, c, e, z.sameBut hs (I.cne y c e)⟩
  · exact let ⟨w, z⟩ := I.cell y c e; ⟨w, z.sameBut hs (I.cne y c e)⟩
  · exact let ⟨e, n, ne, r⟩ := I.pin p hp; ⟨(hs.2 p.1 ne).trans e, n, ne, r⟩
  · intro b ob e
    have nl : ∀ c, H c ≠ none → c ≠ X.env.locals := fun c z q => z (q ▸ I.free)
    refine (I.hok b ob e).stay (fun c u hc q => (hs.2 c (nl c ?_)).trans q) (fun _ q => q) fun _ _ q => q
    rcases hc with rfl | hc
    · rw [e]; exact fun z => nomatch z
    · rw [hc]; exact fun z => nomatch z
end L2
namespace L2
open PySem PySem.Spec PyProof.Rows
/-! ### over a list or a tuple, told by a bool -/
end L2
namespace L2
open PySem PySem.Spec PyProof.Rows
open PySem.W (Looks)
open PySem.Builtin PySem.Builtin.ObjectAttr PySem.Builtin.Getset_descriptor
set_option maxRecDepth 100000
theorem Un.more {fs : List Addr} {H H1 : Hp} {h h1 : Heap} {ea : Addr} {u : HO} (x : Un fs [] H H1 h h1) (hn : H1 ea = none) (hne : ∀ b o, h.get? b = some o → H b = none → b ≠ ea) : Un fs [] H (upd H1 ea u) h h1 where
  keep := x.keep
  slot := x.slot
  free := fun b o q n z => by rw [upd_ne (hne b o q n)]; exact x.free b o q n z
  there := x.there
  tups := fun b xs q => by rw [upd_ne (ne_of_none (x.tups b xs q) hn)]; exact x.tups b xs q
  frzs := fun b o xs q => by rw [upd_ne (ne_of_none (x.frzs b o xs q) hn)]; exact x.frzs b o xs q
  tbls := fun b ps q => let ⟨m, z⟩ := x.tbls b ps q; ⟨m, by rw [upd_ne (ne_of_none z hn)]; exact z⟩
section
variable {X : Cx} {C W ea : Addr} {pins : List (Addr × Obj)} {σ : St} {H1 H' : Hp} {s1 s' : Shared} {B : Heap} {a0 : Value}
end
section
variable {X : Cx} {C W f : Addr} {k : Nat} {fd : FuncData} {ps : List Str} {sp : Sp} {x wn n y : Str} {p cp ep wp np yp ap hp pos : Pos} {e : Expr} {es : List Expr} {t : TA} {ix ie : Nat}
end
/-! ### isinstance of an exception -/
structure ExcK (K : PySem.W.Frag) (C : Addr) : Prop where
  cls : (PySem.W.clsIn K C).isSome = true
  ga : PySem.W.findIn K (.ref C) "__getattribute__" = some (some (.builtin "BaseException.__getattribute__"))
  gt : PySem.W.findIn K (.ref C) "__getattr__" = some none
  cl : PySem.W.findIn K (.ref C) "__class__" = some (some (.builtin "object.__class__"))
  gn : PySem.W.specialIn K (.builtin "object.__class__") "__get__" = some (some (.builtin "getset_descriptor.__get__"))
  tk : PySem.W.takesIn K (.builtin "object.__class__") = some true
  mo : PySem.W.mroIn K C (.type "object") = some true
  mb : PySem.W.mroIn K C (.type "BaseException") = some true
noncomputable def ExcAt (C a : Addr) (h : Heap) : Prop := ∃ o, h.get? a = some o ∧ o.cls = .ref C
section
variable {prog : Program} {w : World} {A : Around} {E : Value → Shared → Prop} {K : PySem.W.Frag} {C a : Addr}
theorem ExcAt.ty {M : Model} {h : Heap} (p : ExcAt C a h) : Looks M h (typeOf (.ref a)) (.ref C) := by
  obtain ⟨o, h1, h2⟩ := p
  exact h2 ▸ Looks.andThen (Looks.ld h1) .now
theorem exc_get {R : Result → Shared → Prop} {s : Shared} {tp : Value} (X : K.In s.heap) (Z : ExcK K C) (p : ExcAt C a s.heap) (h : R (.ok (.ret (.ref C))) s) :
    codeAny (model prog w) A (.call (.builtin "getset_descriptor.__get__") ⟨[.builtin "object.__class__", .ref a, tp], []⟩) R s := by
  obtain ⟨hh, g, d, t, os⟩ := s
  have T0 := p.ty (M := model prog w)
  have T1 := PySem.W.looks_mroIn (M := model prog w) X Z.mo
  refine codeAny_call_builtin PySem.W.KF.slot_gs.plain PySem.W.KF.entry_gs (PySem.W.KF.slot_gs.check _ _ _ _ _ _ _ _ PySem.W.KF.type_class (PySem.W.KF.args_gs _ _ _) ?_)
  unfold Builtin.«getset_descriptor.__get__»; unfold descrGet
  rw [PySem.W.dga_obj]
  refine wpAny_bind (wpAny_pure ?_)
  unfold descrGetter descrCheckInstance; unfold descrNameAndClass isInstance
  simp only [PySem.W.KF.owner_class]
  repeat lk
  refine ⟨Code.quiet_builtin _ (by decide +kernel), codeAny_builtin PySem.W.KF.entry_class ?_⟩
  unfold Builtin.«object.__class__»; unfold shownTypeOf
  repeat lk
  exact h
theorem exc_find {M : Model} {h : Heap} (X : K.In h) (Z : ExcK K C) : Looks M h (find (.ref a) (.ref C) "__class__") (.bind (.builtin "getset_descriptor.__get__") (.builtin "object.__class__")) := by
  have L3 := PySem.W.looks_takesIn (M := M) X Z.tk
  refine (PySem.W.looks_findIn (M := M) X Z.cl).andThen ((show Looks M h (getOf (some (.builtin "object.__class__"))) _ from PySem.W.looks_specialIn X Z.gn).andThen ?_)
  exact (show Looks M h (dataDescriptor? (some (.builtin "object.__class__")) (some (.builtin "getset_descriptor.__get__"))) (some (.builtin "getset_descriptor.__get__", .builtin "object.__class__")) from L3.andThen .now).andThen (Looks.tag .now)
theorem exc_check {M : Model} {nm : Value} {s : Shared} {Q : Unit → Shared → Prop} (TB : Looks M s.heap (isInstance (.ref a) (.type "BaseException")) true) (q : Q () s) :
    wpAny M A (checkBuiltinCall "BaseException.__getattribute__" ⟨[.ref a, nm], []⟩) Q E s := by
  have k1 : builtinKind "BaseException.__getattribute__" = some .slot := by decide +kernel
  have k2 : splitId "BaseException.__getattribute__" = some ("BaseException", "__getattribute__") := by decide +kernel
  exact @PySem.W.check_slot M A E s "BaseException.__getattribute__" "BaseException" "__getattribute__" (.ref a) [nm] [] Q k1 k2 TB (PySem.F.args_bexc_ga (.ref a) nm) q
theorem exc_look {tk : Tok} {Q : Fin → Shared → Prop} {s : Shared} (X : K.In s.heap) (Z : ExcK K C) (p : ExcAt C a s.heap) (h : Q (.done (.ret (.ref C))) s) : wpAny (model prog w) A (Builtin.«object.__getattribute__» ⟨[.ref a, .str "__class__" tk], []⟩) Q E s := by
  obtain ⟨hh, g, d, t, os⟩ := s
  have T0 := p.ty (M := model prog w)
  have T3 := exc_find (a := a) (M := model prog w) X Z
  unfold Builtin.«object.__getattribute__»; refine wpAny_bind (wpAny_pure ?_)
  refine wpAny_bind (wpAny_pure ?_)
  refine wpAny_bind (T0.at (wpAny_bind (T3.at ?_)))
  dsimp only
  show wpAny _ _ (holding [_] (call _ [_, _, _]) >>= ret) _ _ _
  exact wpAny_bind (wpAny_holding (wpAny_call (exc_get (s := ⟨hh, g, d, t, os⟩) X Z p (wpAny_pure h))))
theorem exc_class {Q : Option Value → Shared → Prop} {s : Shared} (X : K.In s.heap) (Z : ExcK K C) (p : ExcAt C a s.heap) (h : Q (some (.ref C)) { s with toks := s.toks + 1 }) : wpAny (model prog w) A (getAttr? (.ref a) "__class__") Q E s := by
  obtain ⟨hh, g, d, t, os⟩ := s
  have T0 := p.ty (M := model prog w)
  have T1 := PySem.W.looks_findIn (M := model prog w) X Z.ga
  have T2 := PySem.W.looks_findIn (M := model prog w) X Z.gt
  have T3 := exc_find (a := a) (M := model prog w) X Z
  have TB : Looks (model prog w) hh (isInstance (.ref a) (.type "BaseException")) true := T0.andThen (PySem.W.looks_mroIn X Z.mb)
  unfold getAttr?; unfold getAttrBy? getAttrBy
  refine wpAny_bind (wpAny_mkText (wpAny_bind (wpAny_attempt (wpAny_holding (wpAny_bind (T0.at (wpAny_bind (T1.at ?_))))))))
  show wpAny _ _ (getAttrByItsOwn _ _ _ _ _ _) _ _ _
  unfold getAttrByItsOwn
  refine wpAny_bind (T2.at (wpAny_bind (wpAny_attempt (wpAny_holding ?_))))
  show wpAny _ _ (boundAndCalled _ _ _) _ _ _
  unfold boundAndCalled
  rw [PySem.F.attr_ValueError.ga.bind (.ref a)]
  refine wpAny_bind (wpAny_pure ?_)
  refine wpAny_call (codeAny_call_builtin PySem.F.attr_ValueError.ga.plain PySem.F.entry_bexc_ga ?_)
  dsimp only [List.cons_append, List.nil_append]
  refine exc_check (s := ⟨hh, g, d, t + 1, os⟩) TB ?_
  refine exc_look (s := ⟨hh, g, d, t + 1, os⟩) X Z p ?_
  refine PySem.W.handed_on rfl ?_
  exact wpAny_pure h
theorem kitx_exc (Z : ExcK K C) : PySem.W.KitX K (.ref a) (.ref C) (ExcAt C a) where
  ty := fun _ _ _ p => p.ty
  it := fun M h X p => by
    obtain ⟨cd, hc⟩ := Option.isSome_iff_exists.mp Z.cls
    unfold PySem.W.clsIn at hc
    split at hc
    · rename_i ho
      intro A' Q' E' s' k q
      unfold isType loadHead
      exact wpAny_bind (wpAny_loadPart (k _ _ (X C _ ho)) (wpAny_pure q))
    · cases hc
  ne := fun h tp dd is n sl X htp => by
    refine Bool.eq_false_iff.mpr (fun q => ?_)
    have e : C = tp := Value.ref.inj (beq_iff_eq.mp q)
    subst e
    obtain ⟨cd, hc⟩ := Option.isSome_iff_exists.mp Z.cls
    unfold PySem.W.clsIn at hc
    split at hc
    · rename_i ho
      have z := (X C _ ho).symm.trans htp
      cases z
    · cases hc
  ca := fun X p k => exc_class X Z p k
end
section
variable {X : Cx} (K : PySem.W.Frag) (hK : X.K = K)
include hK
end
theorem bt_ValueError : bootBuiltins "ValueError" = some (.type "ValueError") := by decide +kernel
end L2
/-! an exception that has names of its own: they stay while it flies -/
namespace L2
open PySem PySem.Spec PyProof.Rows
set_option maxRecDepth 100000
/-- what the object at e has for its names -/
noncomputable def DcAt (e : Addr) (dx : Option Addr) (h : Heap) : Prop := ∃ o, h.get? e = some o ∧ o.dict = dx
theorem dict_mapFields {o : Obj} {vs : Array Value} (hd : o.data = .fields vs) (f : Array Value → Array Value) : (Obj.mapFields f o).dict = o.dict := by
  obtain ⟨c, d, dt, sl⟩ := o; cases hd; rfl
section
variable {M : Model} {A : Around} {E : Value → Shared → Prop} {s : Shared} {base : Heap} {env : Env} {outer l : List Env} {L e : Addr} {oe : Obj} {vs : Array Value} {head a0 cls fl : Value} {hadNext : Bool} {Q : Unit → Shared → Prop} {dx : Option Addr}
theorem entryD (hfr : A.frames = some (env :: outer)) (hl : s.heap.FunFrames base (env :: outer)) (hf : env.frame = some L) (he : s.heap.get? e = some oe) (hkb : base.StaysIn s.heap) (hen : base.get? e = none) (hd : oe.data = .fields vs) (hsz : 1 < vs.size)
    (h0 : vs[0]? = some a0) (h : ∀ h', Heap.NotedW base (env :: outer) e oe.cls a0 (rawInt L) s.heap h' → DcAt e oe.dict h' → Q () { s with heap := h' }) : wpAny M A (do let a ← frameOf env; let pl ← entryPlaceOf L hadNext; let b ← EntryCells.newEntry head a .none (rawInt L) .none pl; setField (.ref e) 1 b) Q E s := by
  have nin : e ∉ (env :: outer).filterMap (·.frame) := fun z => by
    obtain ⟨_, o, q, nf⟩ := hl.mem z
    rw [he] at q; cases q; exact nf vs hd
  refine wpAny_bind (wpAny_frameOf_fun hfr hl hf fun h1 k1 => wpAny_bind (wpAny_entryPlaceOf fun pl hpl => ?_))
  unfold EntryCells.newEntry newFields; generalize ho : ([head, .ref L, .none, rawInt L, .none] ++ (if pl.isEmpty then List.replicate 6 Value.none else pl)).toArray = ar
  have ha3 : ar[3]? = some (rawInt L) := by rw [← ho]; rfl
  have e1 : h1.get? e = some oe := (k1.2.1 e nin).trans he
  have b1 : base.StaysIn h1 := fun b o q => (k1.2.1 b fun z => by rw [(hl.mem z).1] at q; cases q).trans (hkb b o q)
  refine wpAny_bind (wpAny_newObj_type ?_ (ho ▸ hpl.sizeOk5 _ _ _ _ _))
  show wpAny M A (setField (Value.ref e) 1 (.ref h1.objs.size)) Q E { s with heap := h1.push { cls := .type "traceback", data := .fields ar } }
  generalize hT : ({ cls := .type "traceback", data := .fields ar } : Obj) = oT
  have dT : oT.data = .fields ar := by rw [← hT]
  have e2 := Heap.get?_push_of_some oT e1
  refine wpAny_setField e2 hd hsz ?_
  have d3 := Obj.data_mapFields hd (·.setIfInBounds 1 (Value.ref h1.objs.size))
  have e3 := Heap.get?_update_self (Obj.mapFields (·.setIfInBounds 1 (Value.ref h1.objs.size))) e2 (Obj.isFreed_of_fields d3)
  have ne : h1.objs.size ≠ e := Nat.ne_of_gt (Heap.lt_size e1)
  have t3 := (Heap.get?_update_other (h1.push oT) (Obj.mapFields (·.setIfInBounds 1 (Value.ref h1.objs.size))) ne.symm).trans (Heap.get?_push_size h1 (by rw [← hT]; rfl))
  have kp : ∀ b o, b ≠ e → h1.get? b = some o → ((h1.push oT).update e (Obj.mapFields (·.setIfInBounds 1 (Value.ref h1.objs.size)))).get? b = some o := fun b o n q => by
    rw [Heap.get?_update_other _ _ n.symm]; exact Heap.get?_push_of_some _ q
  have nr : ∀ b o, s.heap.get? b = some o → (∀ ws, o.data ≠ .fields ws) → b ≠ e := fun b o q nf z => by
    subst z; rw [he] at q; cases q; exact nf vs hd
  refine h _ ⟨fun b o q => kp b o (fun z => by rw [z, hen] at q; cases q) (b1 b o q), hl.of_keeps fun b o q nf => ?_, ?_, fun b o q nf => ?_⟩ ⟨_, e3, dict_mapFields hd _⟩
  · exact let ⟨_, z⟩ := k1.2.2 b o q; ⟨_, kp b _ (nr b o q nf) z, rfl⟩
  · exact ⟨_, _, h1.objs.size, _, _, e3, ⟨Obj.cls_mapFields _ _, by rw [Array.getElem?_setIfInBounds_ne (by decide)]; exact h0⟩, d3, by simp [hsz], b1.fresh, ne, t3, dT, ha3⟩
  · exact let ⟨sl, z⟩ := k1.2.2 b o q; ⟨sl, kp b _ (nr b o q nf) z⟩
/-- the frame is told to an exception that flies -/
theorem noteD (hfr : A.frames = some (env :: outer)) (hf : env.frame = some L) (fl : Heap.FlyingW base (env :: outer) e cls a0 s.heap) (hx : DcAt e dx s.heap)
    (h : ∀ h', Heap.HeldW base (env :: outer) e cls a0 L h' → s.heap.UpToSlots h' → DcAt e dx h' → Q () { s with heap := h' }) : wpAny M A (noteFrame (.ref e) env) Q E s := by
  obtain ⟨f1, f2, f3, oe, vs, T, oT, ts, he, ⟨rfl, h0⟩, hd, h1, nT, ne, hT, dT, h3⟩ := fl
  obtain ⟨o2, q2, rfl⟩ := hx
  rw [he] at q2; cases q2
  unfold noteFrame
  simp only [hf]
  refine wpAny_bind (wpAny_field he hd h1 ?_); rw [if_pos (by simp : (Value.ref T != Value.none) = true)]
  refine wpAny_bind (wpAny_field hT dT h3 ?_)
  rw [if_neg (by simp [rawInt] : ¬ ((Value.none == rawInt L) = true))]
  refine wpAny_bind (wpAny_setField hT dT (Array.getElem?_eq_some_iff.mp h3).1 ?_)
  have ot : ∀ b, b ≠ T → (s.heap.update T (Obj.mapFields (·.setIfInBounds 3 Value.none))).get? b = s.heap.get? b := fun b n => Heap.get?_update_other _ _ n.symm
  have nr : ∀ b o, s.heap.get? b = some o → (∀ ws, o.data ≠ .fields ws) → b ≠ T := fun b o q nf z => by
    subst z; rw [hT] at q; cases q; exact nf ts dT
  refine entryD hfr (f3.of_keeps fun b o q nf => ⟨o, (ot b (nr b o q nf)).trans q, rfl⟩) hf ((ot e ne.symm).trans he) (fun b o q => (ot b fun z => by rw [z, nT] at q; cases q).trans (f1 b o q)) f2 hd (Array.getElem?_eq_some_iff.mp h1).1 h0
    fun h' ⟨x1, x2, x3, x4⟩ dd => h h' ⟨x1, f2, x2, x3⟩ (fun b o q nf => x4 b o ((ot b (nr b o q nf)).trans q) nf) dd
theorem landT (f1 : base.StaysIn s.heap) (f2 : base.get? e = none) (f3 : s.heap.FunFrames base l) (tr : s.heap.TracedAtW base e cls a0 fl) (hx : DcAt e dx s.heap) (h : ∀ h', Heap.FlyingW base l e cls a0 h' → s.heap.UpToSlots h' → DcAt e dx h' → Q () { s with heap := h' }) : wpAny M A (setFlight (.ref e) none) Q E s := by
  obtain ⟨oe, vs, T, oT, ts, he, hc, hd, h1, nT, ne, hT, dT, h3⟩ := tr
  obtain ⟨o2, q2, rfl⟩ := hx
  rw [he] at q2; cases q2
  have ot : ∀ b, b ≠ T → (s.heap.update T (Obj.mapFields (·.setIfInBounds 3 ((none : Option Addr).elim Value.none fun f => rawInt f)))).get? b = s.heap.get? b := fun b n => Heap.get?_update_other _ _ n.symm
  have nr : ∀ b o, s.heap.get? b = some o → (∀ ws, o.data ≠ .fields ws) → b ≠ T := fun b o q nf z => by
    subst z; rw [hT] at q; cases q; exact nf ts dT
  have z3 := (Array.getElem?_eq_some_iff.mp h3).1
  unfold setFlight
  refine wpAny_bind (wpAny_field he hd h1 ?_); rw [if_pos (by simp : (Value.ref T != Value.none) = true)]
  have e5 := (ot e ne.symm).trans he
  refine wpAny_setField hT dT z3 (h _ ⟨fun b o q => (ot b fun z => by rw [z, nT] at q; cases q).trans (f1 b o q), f2, f3.of_keeps fun b o q nf => ⟨o, (ot b (nr b o q nf)).trans q, rfl⟩, ?_⟩ (fun b o q nf => ⟨o.slots, (ot b (nr b o q nf)).trans q⟩) ⟨_, e5, rfl⟩)
  exact ⟨oe, vs, T, _, _, e5, hc, hd, h1, nT, ne, Heap.get?_update_self _ hT (Obj.isFreed_of_fields (Obj.data_mapFields dT _)), Obj.data_mapFields dT _, by simp [z3]⟩
theorem landD (fl : Heap.HeldW base l e cls a0 L s.heap) (hx : DcAt e dx s.heap) (h : ∀ h', Heap.FlyingW base l e cls a0 h' → s.heap.UpToSlots h' → DcAt e dx h' → Q () { s with heap := h' }) : wpAny M A (setFlight (.ref e) none) Q E s := landT fl.1 fl.2.1 fl.2.2.1 fl.2.2.2 hx h
theorem landA (fl : Heap.FlyingW base l e cls a0 s.heap) (hx : DcAt e dx s.heap) (h : ∀ h', Heap.FlyingW base l e cls a0 h' → s.heap.UpToSlots h' → DcAt e dx h' → Q () { s with heap := h' }) : wpAny M A (setFlight (.ref e) none) Q E s := landT fl.1 fl.2.1 fl.2.2.1 fl.2.2.2.at hx h
/-- .. the one that it was raised in -/
theorem leaveD1 (hfr : A.frames = some (env :: outer)) (hf : env.frame = some L) (hl : s.heap.FunFrames base (env :: outer)) (he : s.heap.get? e = some oe) (hkb : base.StaysIn s.heap) (hen : base.get? e = none) (hd : oe.data = .fields vs) (h1 : vs[1]? = some .none) (h0 : vs[0]? = some a0)
    (h : ∀ h', Heap.FlyingW base outer e oe.cls a0 h' → s.heap.UpToSlots h' → DcAt e oe.dict h' → Q () { s with heap := h' }) : wpAny M A (leaving env (.ref e)) Q E s := by
  unfold leaving noteFrame
  simp only [hf]
  refine wpAny_bind (wpAny_bind (wpAny_field he hd h1 ?_)); rw [if_neg (by decide)]
  refine entryD hfr hl hf he hkb hen hd (Array.getElem?_eq_some_iff.mp h1).1 h0 fun h2 ⟨x1, x2, x3, x4⟩ d2 => landD (s := { s with heap := h2 }) ⟨x1, hen, x2, x3⟩ d2 fun h3 q3 u3 d3 => ?_
  obtain ⟨k1, k2, ⟨_, _, k3⟩, k4⟩ := q3
  exact h h3 ⟨k1, k2, k3, k4⟩ (Heap.UpToSlots.trans x4 u3) d3
end
end L2
/-! self.x = v where self is an exception that has no names yet -/
namespace L2
open PySem PySem.Spec PyProof.Rows PySem.W Builtin Builtin.ObjectAttr
set_option maxRecDepth 100000
noncomputable abbrev veL : List Value := [.type "ValueError", .type "Exception", .type "BaseException", .type "object"]
section
variable {K : PySem.W.Frag} {prog : Program} {w : World} {A : Around} {E : Value → Shared → Prop} {s : Shared} {e C W : Addr} {o : Obj} {vs : Array Value} {cd : ClassData} {name : Str} {v : Value} {Q : Unit → Shared → Prop}
theorem exc_store (X : K.In s.heap) (hx : s.heap.get? e = some o) (hc : o.cls = .ref C) (hdt : o.data = .fields vs) (hdn : o.dict = none) (hcd : clsIn K C = some cd) (hm : cd.mro = .ref C :: .ref W :: veL) (hhd : cd.hasDict = true)
    (h1 : findIn K (.ref C) "__setattr__" = some (some (.builtin "object.__setattr__"))) (h2 : findIn K (.ref C) name = some none)
    (hq : ∀ h' tk', h'.get? e = some { o with dict := some s.heap.objs.size } → h'.Ns1 s.heap.objs.size (fun y => if y = name then some v else none) → (∀ b u, b ≠ e → s.heap.get? b = some u → h'.get? b = some u) → Q () { s with heap := h', toks := tk' }) :
    wpAny (model prog w) A (setAttr (.ref e) name v) Q E s := by
  have SF := PySem.F.store_ValueError
  have ty : Looks (model prog w) s.heap (typeOf (.ref e)) (.ref C) := hc ▸ (Looks.ld hx).andThen .now
  have mr : Looks (model prog w) s.heap (mroOf (.ref C)) cd.mro := (looks_clsIn X hcd).andThen .now
  have sub : Looks (model prog w) s.heap (isInstance (.ref e) (.type "object")) true := ty.andThen (looks_mroIn X (by unfold mroIn; rw [hcd, Option.bind_some, hm]; rfl))
  obtain ⟨hp, g, d, tk, os⟩ := s; dsimp only at X hx hq ty mr sub
  have lk := looks_findIn (M := model prog w) (h := hp) X h1
  have fb := SF.slot.bind (.ref e)
  unfold setAttr callSpecial? specialOf; refine wpAny_bind (wpAny_mkText ?_)
  refine wpAny_bind (wpAny_bind (wpAny_bind (ty.here (lk.here (wpAny_holding (wpAny_bind ?_))))))
  rw [fb]
  refine wpAny_pure (wpAny_bind (wpAny_call (codeAny_call_builtin SF.slot.plain SF.entry (@check_slot (model prog w) _ _ _ "object.__setattr__" "object" "__setattr__" (.ref e) [.str name tk, v] [] _ SF.kind SF.split sub (SF.args (.ref e) (.str name tk) v) ?_))))
  have ps := SF.passes (.ref e)
  show wpAny _ _ («object.__setattr__» ⟨[.ref e, .str name tk, v], []⟩) _ _ ⟨hp, g, d, tk + 1, os⟩
  rw [osa_eq, refuse_eq]
  refine wpAny_bind (wpAny_bind (ty.here (wpAny_bind (mr.here ?_))))
  rw [hm, refuseLoop_ref, refuseLoop_ref, ps]
  refine wpAny_pure (wpAny_bind (ty.here (wpAny_bind ((looks_findIn (M := model prog w) (h := hp) X h2).here ?_))))
  refine wpAny_bind (wpAny_pure ?_)
  obtain ⟨oc, od, odt, osl⟩ := o; dsimp only at hc hdt hdn
  subst hc hdt hdn
  have cl := looks_clsIn (M := model prog w) (h := hp) X hcd
  refine wpAny_bind (wpAny_pure (wpAny_bind (wpAny_bind (wpAny_loadPart hx (wpAny_bind (cl.here ?_))))))
  rw [hhd]
  generalize hD : ({ cls := .type "dict", data := .dict #[] } : Obj) = oD
  have x1 : (hp.push oD).get? e = some _ := Heap.get?_push_of_some oD hx
  have ne : e ≠ hp.objs.size := Nat.ne_of_lt (Heap.lt_size hx)
  subst oD
  refine wpAny_bind (wpAny_alloc' (wpAny_bind (wpAny_update' x1 (wpAny_pure ?_))))
  have g1 : ((hp.push { cls := .type "dict", data := .dict #[] }).update e fun o => { cls := o.cls, dict := some hp.objs.size, data := o.data, slots := o.slots }).get? hp.objs.size = some { cls := .type "dict", data := .dict #[] } :=
    (Heap.get?_update_ne _ _ _ _ ne.symm).trans (Heap.get?_push_at rfl rfl)
  have n1 : Heap.Ns _ hp.objs.size (fun _ => none) := ⟨_, #[], _, g1, rfl, fun z q => absurd q (by simp), fun _ => rfl⟩
  show wpAny _ _ (storeInDict hp.objs.size (.str name tk) name v) _ _ _
  unfold storeInDict newKeyGuard; refine wpAny_bind (wpAny_pure (wpAny_bind (wpAny_nsSet1 (Heap.Ns1.of_empty n1) fun h' n2 hs => ?_)))
  obtain ⟨u, _, _, hu, hud, hcn⟩ := n2.count (Within.cons name v Within.nil)
  refine wpAny_bind (wpAny_lookBehind hu (by rw [hud]; exact pastItsLine_dict (Nat.le_trans hcn (by rw [List.length_cons, List.length_nil, sizeLine_eq]; lia))) ?_)
  wp_walk
  refine hq h' _ ?_ n2 fun b u n q => (hs.2 b (Nat.ne_of_lt (Heap.lt_size q))).trans ((Heap.get?_update_ne _ _ _ _ n).trans (Heap.get?_push_of_some _ q))
  exact (hs.2 e ne).trans (Heap.get?_update_self _ x1 rfl)
end
end L2
/-! W.__init__(self, m) where self is an exception and W has none of its own -/
namespace L2
open PySem PySem.Spec PyProof.Rows PySem.W Builtin Builtin.ObjectAttr
set_option maxRecDepth 100000
/-- a made exception, its names -/
noncomputable abbrev exB (C t : Addr) (dx : Option Addr) : Obj := { cls := .ref C, dict := dx, data := .fields #[.ref t, .none, .none, .none, .bool false, .none] }
section
variable {K : PySem.W.Frag} {prog : Program} {w : World} {A : Around} {E : Value → Shared → Prop} {s : Shared} {e C W t : Addr} {cd : ClassData} {m : Value} {dx : Option Addr} {Q : Value → Shared → Prop}
theorem exc_init (X : K.In s.heap) (hx : s.heap.get? e = some (exB C t dx)) (hcd : clsIn K C = some cd) (hm : cd.mro = .ref C :: .ref W :: veL)
    (hq : ∀ h', h'.get? e = some (exB C s.heap.objs.size dx) → h'.get? s.heap.objs.size = some { cls := .type "tuple", data := .seq #[m] } → (∀ b u, b ≠ e → s.heap.get? b = some u → h'.get? b = some u) → Q .none { s with heap := h' }) :
    wpAny (model prog w) A (call (.builtin "ValueError.__init__") [.ref e, m]) Q E s := by
  have F := PySem.F.excBase_ValueError
  have ty : Looks (model prog w) s.heap (typeOf (.ref e)) (.ref C) := (Looks.ld hx).andThen .now
  have sub : Looks (model prog w) s.heap (isInstance (.ref e) (.type "ValueError")) true := ty.andThen (looks_mroIn X (by unfold mroIn; rw [hcd, Option.bind_some, hm]; rfl))
  obtain ⟨oC, hC, dC⟩ : ∃ oC : Obj, s.heap.get? C = some oC ∧ oC.data = .cls cd := by
    unfold clsIn at hcd
    split at hcd
    · rename_i q; cases hcd; exact ⟨_, X _ _ q, rfl⟩
    · cases hcd
  have ck : ∀ {Q' : Unit → Shared → Prop} {A' : Around} {E' : Value → Shared → Prop}, Q' () s → wpAny (model prog w) A' (checkBuiltinCall "ValueError.__init__" ⟨[.ref e, m], []⟩) Q' E' s := fun q => by
    have ns := F.noStar
    simp only [checkBuiltinCall, F.initKind, F.initSplit, F.initRow]; refine wpAny_bind (sub.here ?_)
    simp only [Bool.not_true, Bool.false_eq_true, if_false]; repeat (first | (with_reducible refine wpAny_load hC ?_; rw [dC]) | wp_step)
    exact q
  obtain ⟨hp, g, d, tk, os⟩ := s; refine wpAny_call (codeAny_call_builtin F.init.plain F.initEntry (ck ?_))
  show wpAny _ _ («BaseException.__init__» ⟨[.ref e, m], []⟩) _ _ ⟨hp, g, d, tk, os⟩
  wp_walk
  have x1 : (hp.push { cls := .type "tuple", data := .seq #[m] }).get? e = some (exB C t dx) := Heap.get?_push_of_some _ hx
  have ne : e ≠ hp.objs.size := Nat.ne_of_lt (Heap.lt_size hx)
  exact hq _ (Heap.get?_update_self _ x1 rfl) ((Heap.get?_update_ne _ _ _ _ ne.symm).trans (Heap.get?_push_at rfl rfl)) fun b u n q => (Heap.get?_update_ne _ _ _ _ n).trans (Heap.get?_push_of_some _ q)
end
end L2
/-! W.__init__, read from the class W -/
namespace L2
open PySem PySem.Spec PyProof.Rows PySem.W Builtin Builtin.ObjectAttr
set_option maxRecDepth 100000
section
variable {prog : Program} {w : World} {A : Around} {E : Value → Shared → Prop} {s : Shared} {W : Addr}
/-- what W.__init__ needs of W -/
structure InitAt (K : PySem.W.Frag) (W : Addr) : Prop where
  hg : specialIn K (.ref W) "__getattribute__" = some (some (.builtin "type.__getattribute__"))
  hr : readsIn K W (.type "type") = true
  hf : findCls K (.ref W) (.type "type") "__init__" = some (.val (.builtin "ValueError.__init__"))
theorem cls_init {K : PySem.W.Frag} {pl : Sem Bool} {Q : Value × List Value → Shared → Prop} (X : K.In s.heap) (Z : InitAt K W) (h : Q (.builtin "ValueError.__init__", []) { s with toks := s.toks + 1 }) :
    wpAny (model prog w) A (getMethod (.ref W) "__init__" pl) Q E s :=
  method_cls X Z.hg (cls_value X Z.hr Z.hf rfl h)
end
end L2
/-! the body of an exception's own __init__: W.__init__(self, f"..{e}.."), self.x = e -/
namespace L2
open PySem PySem.Spec PyProof.Rows PySem.W
set_option maxRecDepth 100000
/-- an exception that is being made: its class, its names -/
noncomputable def exX (C a : Addr) (dx : Option Addr) : HO := .ext fun h => ∃ t, h.get? a = some (exB C t dx)
theorem exX_ok {P : Program} {w : World} {H : Hp} {h : Heap} {C a t : Addr} {dx : Option Addr} (e : h.get? a = some (exB C t dx)) : ObjOk P w H h a (exX C a dx) := ⟨⟨t, e⟩, ⟨_, e⟩, fun _ _ ⟨t, z⟩ k => ⟨t, k _ z⟩⟩
/-- what is needed of an exception's class that is over W, which is over ValueError -/
structure BadK (K : PySem.W.Frag) (C W : Addr) (name : Str) : Prop where
  cd : ∃ cd, clsIn K C = some cd ∧ cd.mro = .ref C :: .ref W :: veL ∧ cd.hasDict = true
  sa : findIn K (.ref C) "__setattr__" = some (some (.builtin "object.__setattr__"))
  nm : findIn K (.ref C) name = some none
  ini : InitAt K W
section
variable {X : Cx} {a b : Str} {e : Expr} {te : TE} {ja jb : Nat} {pa pb pf pos : Pos}
/-- f"a{e}b" of a number -/
noncomputable def tFs (a b : Str) (te : TE) : TE := fun σ H Q => te σ H fun v H' => ∃ n : Int, v = .int n ∧ n.natAbs.log2 < 1920 ∧ (Str.empty ++ a ++ (toString n : Str) ++ b).length ≤ sizeLine ∧ Q (.str (Str.empty ++ a ++ (toString n : Str) ++ b)) H'
theorem strLen_left {x y : Str} {n : Nat} (h : (x ++ y).length ≤ n) : x.length ≤ n := by rw [strLen_append] at h; lia
theorem pe_fs (he : PE X e te) (hz : a.length ≤ sizeLine) : PE X (.JoinedStr [.Constant (.str a) ja pa, .FormattedValue e (-1) none pf, .Constant (.str b) jb pb] pos) (tFs a b te) := by
  intro pins s σ H Q I h
  refine JoinedStr_many (joinParts_cons (Calls.Constant_str ⟨?_, joinParts_cons (FormattedValue_plain (thn (he pins _ σ H _ (I.tok _) h) fun v s1 ⟨x, H1, I1, r, n, hx, hl, hs, q⟩ => ?_))⟩))
  · rw [strLen_append]; exact Nat.le_trans (by show 0 + a.length ≤ a.length; lia) hz
  · subst hx
    obtain ⟨u, rfl⟩ : ∃ u, v = .int n u := r
    refine formatField_int_small hl ⟨strLen_left hs, joinParts_cons (Calls.Constant_str ⟨hs, joinParts_nil ⟨.str _, H1, (I1.tok _), ⟨_, rfl⟩, q⟩ hs⟩)⟩
end
section
variable {X : Cx} {C W a : Addr} {name wn : Str} {o value e : Expr} {es : List Expr} {ta tv : TE} {t : TA} {pos pos' np apos cpos : Pos}
/-- W.__init__(self, m) -/
noncomputable def tIni (K : PySem.W.Frag) (W : Addr) (t : TA) : TE := fun σ H Q => t σ H fun vs H1 => ∃ a m C dx nm, vs = [.ref a, .str m] ∧ H1 a = some (exX C a dx) ∧ BadK K C W nm ∧ Q .non H1
theorem upd_self {H : Hp} {a : Addr} {o : HO} (h : H a = some o) : upd H a o = H := by
  funext b
  by_cases hb : b = a
  · subst hb; rw [upd_same, h]
  · rw [upd_ne hb]
theorem pe_ini (hg : Gl X wn) (hm : X.mg wn = some (.ref W)) (Z : InitAt X.K W) (ha : PA X (e :: es) t) (hdb : (wn == ("__debug__" : Str)) = false := by decide)
    (hbase : attributeBase (.Name wn np) "__init__" X.env (eval (.Name wn np) X.env) = eval (.Name wn np) X.env := by rfl)
    (hfew : methodCallForm ((e :: es).length + ([] : List Keyword).length) (backTo cpos (starEach (e :: es) X.env)) (backToKw cpos (keywordEach [] X.env)) = true := by rfl)
    (hline : (apos.endLine == cpos.line) = true := by rfl) (hs : starEach (e :: es) X.env = (false, eval e X.env) :: starEach es X.env := by rfl) (hplain : (backTo cpos (starEach es X.env)).any (·.1) = false := by rfl) :
    PE X (.Call (.Attribute (.Name wn np) "__init__" apos) (e :: es) [] cpos) (tIni X.K W t) := by
  intro pins s σ H Q I h
  rw [arm_eval_Call, hbase]
  refine wpAny_bind (ld_glob I hg hm (wpAny_bind (wpAny_standAt ?_)) hdb)
  have hpos : methodCallPos true (.Name wn np) X.env apos cpos = pure cpos := by unfold methodCallPos; simp [hline]
  unfold methodCall
  rw [hfew]
  refine wpAny_bind (wpAny_holding (cls_init I.kIn Z (wpAny_bind (wpAny_of_eq hpos ?_))))
  have hA := ha cpos pins _ σ H _ (I.tok (s.toks + 1)) h
  rw [hs] at hA ⊢
  refine Calls.callWith_builtin (by show (false || (backTo cpos (starEach es X.env)).any (·.1)) = false; rw [hplain] <;> rfl) (Calls.evalArgs_plain ?_)
  refine thn hA fun us s2 ⟨vs, H2, I2, r2, a, m, C, dx, nm, ev, ea, B, q⟩ => ?_
  subst ev
  obtain ⟨cd, c1, c2, c3⟩ := B.cd
  cases r2 with
  | cons ra r2 => cases r2 with
    | cons rm r2 => cases r2 with
      | nil =>
        obtain rfl := ra
        obtain ⟨⟨t0, e0⟩, _, _⟩ := I2.hok a _ ea
        refine exc_init I2.kIn e0 c1 c2 fun h' g1 g2 k => ?_
        have J := I2.write (h' := h') (t' := s2.toks) (o := exX C a dx) (by rw [ea]; trivial) (.inl rfl) k ⟨_, g1⟩ (exX_ok g1)
        rw [upd_self ea] at J
        exact ⟨.non, H2, J, rfl, q⟩
end
end L2
namespace L2
open PySem PySem.Spec PyProof.Rows PySem.W
set_option maxRecDepth 100000
theorem upd_new {P : Program} {w : World} {H : Hp} {h : Heap} {a : Addr} {u : HO} (x : HOk P w H h) (hn : H a = none) (new : ObjOk P w (upd H a u) h a u) : HOk P w (upd H a u) h := fun b v q => by
  by_cases hb : b = a
  · subst hb
    rw [upd_same] at q
    cases q
    exact new
  · rw [upd_ne hb] at q
    exact (x b v q).stay (fun _ _ _ z => z) (fun c z => by rw [upd_ne (ne_of_none z hn)]; exact z) fun c xs z => by rw [upd_ne (ne_of_none z hn)]; exact z
/-- the names of an exception that has one -/
theorem xd_ok {P : Program} {w : World} {H : Hp} {h : Heap} {dx : Addr} {name : Str} {y : V} {u : Value} (n : h.Ns1 dx (fun z => if z = name then some u else none)) (r : RelV y u) : ObjOk P w H h dx (.xd [(name, y)]) :=
  ⟨_, n, fun f => by
    by_cases hf : f = name
    · subst hf; simp only [List.lookup_cons, beq_self_eq_true, if_true]; exact r
    · have : (f == name) = false := by simpa using hf
      simp only [List.lookup_cons, this, List.lookup_nil, if_neg hf]
      trivial⟩
section
variable {X : Cx} {name : Str} {o value : Expr} {ta tv : TE} {pos pos' : Pos}
/-- self.name = value: the exception gets names of its own -/
noncomputable def sPut (K : PySem.W.Frag) (ta tv : TE) (name : Str) : TS := fun D σ H => tv σ H fun y H1 => ta σ H1 fun x H2 => ∃ a C W, x = .ref a ∧ H2 a = some (exX C a none) ∧ BadK K C W name ∧ ∀ dx, H2 dx = none → D.nx σ (upd (upd H2 a (exX C a (some dx))) dx (.xd [(name, y)]))
theorem ps_put (ha : PE X o ta) (hv : PE X value tv) (hs : swapsWith value (some (.Attribute o name pos')) pos.line X.env = pure false := by rfl) : PS X (.Assign [.Attribute o name pos'] value pos) (sPut X.K ta tv name) := by
  intro pins s σ H D I h
  refine plainObj_wpAny_Assign_Attribute (thn (hv pins s σ H _ I h) fun u s1 ⟨y, H1, I1, ry, q⟩ => thn (ha pins s1 σ H1 _ I1 q) fun ov s2 ⟨x, H2, I2, rx, a, C, W, ex, ea, B, q2⟩ => ?_) hs
  subst ex
  obtain rfl : ov = Value.ref a := rx
  obtain ⟨cd, c1, c2, c3⟩ := B.cd
  obtain ⟨⟨t0, e0⟩, _, _⟩ := I2.hok a _ ea
  refine exc_store I2.kIn e0 rfl rfl rfl c1 c2 c3 B.sa B.nm fun h' tk' g1 n1 k => ?_
  have hn := I2.hok.fresh (Nat.le_refl s2.heap.objs.size)
  have ne : s2.heap.objs.size ≠ a := (Nat.ne_of_lt (Heap.lt_size e0)).symm
  have mu : Mut (H2 a) := by rw [ea]; trivial
  have hn' : (upd H2 a (exX C a (some s2.heap.objs.size))) s2.heap.objs.size = none := by rw [upd_ne ne]; exact hn
  have J := I2.un (h' := h') (t' := tk') ((Un.write (o := exX C a (some s2.heap.objs.size)) mu (.inl rfl) k ⟨_, g1⟩).more (u := .xd [(name, y)]) hn' fun b o e _ z => by subst z; exact absurd (Heap.lt_size e) (Nat.lt_irrefl _))
    (upd_new (I2.hok.write mu (.inl rfl) k ⟨_, g1⟩ (exX_ok g1)) hn' (xd_ok n1 ry))
  exact ⟨σ, _, J, q2 _ hn⟩
end
end L2
/-! C(..) where the exception's class C has an __init__ of its own and stands over another class of the program -/
namespace L2
open PySem PySem.Spec PyProof.Rows PySem.W
set_option maxRecDepth 100000
section
variable {h : Heap} {prog : Program} {w : World} {A : Around} {E : Value → Shared → Prop} {d : Drawn} {g : Array GenState} {os : OsState} {t : Nat}
variable {nm q : Str} {C N fI : Addr} {bs bm bmB rest : List Value} {hdct ab : Bool} {sn : List Str} {sub : List Value} {col : Option Bool} {dd : Option Addr} {k0 k1 k2 k3 k5 : Option Value} {B newId initId : String} {mN : Str → Option Value} {oI : Obj}
theorem type_callI {Q : Fin → Shared → Prop} (F : ExcBaseFacts B newId initId bmB) (T : OwnTail h bmB bm) (hC : h.get? C = some (excClassObj nm q C N bs bm hdct sn sub ab col dd k0 k1 k2 k3 k5 newId)) (hn : h.Ns N mN) (hi : mN "__init__" = some (.ref fI)) (hf : h.get? fI = some oI) (hfc : oI.cls = .type "function")
    (hq : ∀ h' e, h.objs.size ≤ e → Heap.MadeExcOf h h' e (.ref C) rest → wpAny (model prog w) A (call (.ref fI) (.ref e :: rest)) (fun r s' => r = .none ∧ Q (.done (.ret (.ref e))) s') E ⟨h', g, d, t, os⟩) (hrest : rest.length ≤ sizeLine) : wpAny (model prog w) A (Builtin.«type.__call__» ⟨.ref C :: rest, []⟩) Q E ⟨h, g, d, t, os⟩ := by
  repeat (first | with_reducible refine wpAny_madeBy_exc hC ?_ | with_reducible refine wpAny_loadPart_at hC ?_ | wp_step)
  refine codeAny_call_builtin_code (Code.quiet_builtin _ F.quiet) (wpAny_check_new_subT F T hC (codeAny_exc_new_subT F T hC ?_ hrest))
  show wpAny _ _ _ _ _ _
  generalize ho : (⟨.type "tuple", none, .seq rest.toArray, #[]⟩ : Obj) = o1
  generalize hx : (⟨.ref C, none, .fields #[.ref h.objs.size, .none, .none, .none, .bool false, .none], #[]⟩ : Obj) = o2
  have kp : ∀ b u, h.get? b = some u → ((h.push o1).push o2).get? b = some u := fun b u z => Heap.get?_push_of_some o2 (Heap.get?_push_of_some o1 z)
  have C1 := kp _ _ hC
  have n1 : ((h.push o1).push o2).Ns N mN := hn.keeps kp
  have T1 := T.keeps kp
  have e1 : ((h.push o1).push o2).get? (h.objs.size + 1) = some o2 := by rw [← ho, ← hx]; heap_get
  have f1 := kp _ _ hf
  have cC : (Value.ref C :: bm).contains (.ref C) = true := by simp
  have c2 : o2.cls = .ref C := by rw [← hx]
  unfold isInstance
  repeat (first | (with_reducible refine wpAny_loadPart_at e1 ?_; rw [c2]) | (with_reducible refine wpAny_isSubtype_exc C1 ?_; rw [cC]) | wp_step)
  refine wpAny_typeLookup_tail C1 n1 T1 F.mroIs F.init.lookup ?_
  rw [hi]; refine wpAny_holding (wpAny_bind ?_)
  unfold bindSpecial
  refine wpAny_bind (wpAny_typeOf (T := "function") ⟨_, f1, hfc⟩ ?_)
  rw [if_pos (by decide)]
  have mk : Heap.MadeExcOf h ((h.push o1).push o2) (h.objs.size + 1) (.ref C) rest :=
    ⟨kp, Heap.get?_none_of_le (Nat.le_succ _), h.objs.size, by rw [e1, ← hx], Heap.get?_none_of_le (Nat.le_refl _), by rw [← ho]; exact Heap.get?_push_of_some _ (Heap.get?_push_at rfl rfl)⟩
  refine wpAny_pure (wpAny_bind (wpAny_mono (hq _ _ (Nat.le_succ _) mk) (fun r s' hr => ?_) fun _ _ z => z))
  obtain ⟨rfl, z⟩ := hr
  wp_walk
  exact z
theorem callI {Q : Value → Shared → Prop} (F : ExcBaseFacts B newId initId bmB) (T : OwnTail h bmB bm) (hC : h.get? C = some (excClassObj nm q C N bs bm hdct sn sub ab col dd k0 k1 k2 k3 k5 newId)) (hn : h.Ns N mN) (hi : mN "__init__" = some (.ref fI)) (hf : h.get? fI = some oI) (hfc : oI.cls = .type "function")
    (hq : ∀ h' e, h.objs.size ≤ e → Heap.MadeExcOf h h' e (.ref C) rest → wpAny (model prog w) (A.under (.builtin "type.__call__" ⟨.ref C :: rest, []⟩)) (call (.ref fI) (.ref e :: rest)) (fun r s' => r = .none ∧ Q (.ref e) s') E ⟨h', g, d, t, os⟩) (hrest : rest.length ≤ sizeLine) : wpAny (model prog w) A (call (.ref C) rest) Q E ⟨h, g, d, t, os⟩ := by
  have l1 := tc_lookup
  have l2 := tc_bind (.ref C)
  have ty : (⟨h, g, d, t, os⟩ : Shared).TypeIs (.ref C) "type" := ⟨_, hC, rfl⟩
  refine wpAny_call (codeAny_of_tree (show wpAny _ _ (callAny (.ref C) _) _ _ _ from ?_)); repeat (any_goals (first | with_reducible refine wpAny_loadPart_at hC ?_ | assumption | wp_step))
  exact ⟨rfl, codeAny_call_builtin_at (Code.quiet_builtin _ (by decide +kernel)) entry_typeCall (wpAny_check_type_call_sub hC (type_callI F T hC hn hi hf hfc (fun h' e l m => hq h' e l m) hrest))⟩
end
end L2
/-! an exception with names of its own is raised, and passed on -/
namespace L2
open PySem PySem.Spec PyProof.Rows
set_option maxRecDepth 100000
/-- no longer tracked -/
noncomputable def rmH (a : Addr) (H : Hp) : Hp := fun b => if b = a then none else H b
theorem rmH_ne {a b : Addr} {H : Hp} (h : b ≠ a) : rmH a H b = H b := if_neg h
theorem rmH_some {a b : Addr} {H : Hp} {o : HO} (h : rmH a H b = some o) : b ≠ a ∧ H b = some o := by
  unfold rmH at h
  split at h
  · cases h
  · exact ⟨by assumption, h⟩
theorem HOk.rm {P : Program} {w : World} {H : Hp} {h : Heap} {a : Addr} {φ : Heap → Prop} (x : HOk P w H h) (e : H a = some (.ext φ)) : HOk P w (rmH a H) h := fun b u q => by
  obtain ⟨_, q⟩ := rmH_some q
  exact (x b u q).stay (fun _ _ _ z => z) (fun c z => (rmH_ne fun y => by rw [y, e] at z; cases z).trans z) fun c xs z => (rmH_ne fun y => by rw [y, e] at z; cases z).trans z
theorem Un.rm {fs : List Addr} {H H1 : Hp} {h h1 : Heap} {a : Addr} {φ : Heap → Prop} (x : Un fs [] H H1 h h1) (e : H1 a = some (.ext φ)) : Un fs [] H (rmH a H1) h h1 where
  keep := x.keep
  slot := x.slot
  free := fun b o q m z => by
    by_cases hb : b = a
    · exact if_pos hb
    · exact (rmH_ne hb).trans (x.free b o q m z)
  there := x.there
  tups := fun b xs q => (rmH_ne fun y => by have z := x.tups b xs q; rw [y, e] at z; cases z).trans (x.tups b xs q)
  frzs := fun b o u q => (rmH_ne fun y => by have z := x.frzs b o u q; rw [y, e] at z; cases z).trans (x.frzs b o u q)
  tbls := fun b ps q => let ⟨m, z⟩ := x.tbls b ps q; ⟨m, (rmH_ne fun y => by rw [y, e] at z; cases z).trans z⟩
/-- an exception flies to the callers: its class, the address of its names where it has any -/
inductive CX2 (P : Program) (w : World) (outer : List Env) (H : Hp) (s : Shared) (E : XK) (e : Value) (s' : Shared) : Prop where
  | mk (C ea : Addr) (dx : Option Addr) (B : Heap) (a0 : Value) (H' : Hp) (q0 : e = .ref ea) (q1 : s'.os = s.os) (q2 : AllBare s'.gens) (q3 : Un (frs outer) [] H H' s.heap s'.heap) (q4 : HOk P w H' s'.heap)
      (q5 : Heap.FlyingW B outer ea (.ref C) a0 s'.heap) (q6 : ∀ b u, H' b = some u → ∃ o, B.get? b = some o)
      (q7 : ∀ b o, s.heap.get? b = some o → b ∉ frs outer → ∃ o', B.get? b = some o' ∧ (H b = none → o' = o)) (q9 : DcAt ea dx s'.heap) (q8 : E (.ref C) dx H') : CX2 P w outer H s E e s'
section
variable {P : Program} {w : World} {K : PySem.W.Frag} {mg : Str → Option Value} {base : Heap} {N : List Str} {qual : Str} {scope : Scope} {f C : Addr} {cd : Value} {A : Around} {outer : List Env} {s : Shared} {H : Hp} {E : XK}
/-- made here: it leaves the frame -/
theorem raise3 {pins : List (Addr × Obj)} {σ : St} {H1 : Hp} {s1 : Shared} {ea : Addr} {dx : Option Addr} (I : Inv (cxOf (CX2 P w) P w K mg base N qual scope f cd A outer s H E) pins σ H1 s1) (ex : H1 ea = some (exX C ea dx)) (new : ∀ b o, s.heap.get? b = some o → b ≠ ea)
    (hE : E (.ref C) dx (rmH ea H1)) : (cxOf (CX2 P w) P w K mg base N qual scope f cd A outer s H E).xe (.ref ea) s1 := by
  have stk : s1.heap.FunFrames base (envOfC qual scope s.heap.objs.size f cd :: outer) := I.stack
  have fre : ∀ b ∈ frs (envOfC qual scope s.heap.objs.size f cd :: outer), H1 b = none := I.stkFree
  have bas : Un (frs outer) [] H H1 s.heap s1.heap := I.base
  have fun1 : s1.heap.FunFrames base outer := I.funs
  have hok1 : HOk P w H1 s1.heap := I.hok
  have os1 : s1.os = s.os := I.os
  have frm : (A.deeper (envOfC qual scope s.heap.objs.size f cd)).frames = some (envOfC qual scope s.heap.objs.size f cd :: outer) := I.ok.frames
  obtain ⟨⟨t, e0⟩, _, _⟩ := hok1 ea _ ex
  have hin : ∀ b, b ∈ frs (envOfC qual scope s.heap.objs.size f cd :: outer) → b = s.heap.objs.size ∨ b ∈ frs outer := fun b hb => List.mem_cons.mp hb
  generalize hB : PySem.W.hideAll s1.heap (ea :: frs (envOfC qual scope s.heap.objs.size f cd :: outer)) = B
  have ofB : ∀ b o, B.get? b = some o → s1.heap.get? b = some o := fun b o q => PySem.W.of_hideAll _ (hB ▸ q)
  have inB : ∀ b o, s1.heap.get? b = some o → b ≠ ea → b ∉ frs (envOfC qual scope s.heap.objs.size f cd :: outer) → B.get? b = some o := fun b o q n m => hB ▸ PySem.W.hideAll_get _ q fun z => (List.mem_cons.mp z).elim n m
  refine leaveD1 (base := B) frm rfl (hB ▸ PySem.W.funFrames_hide stk fun env he a ha => List.mem_cons_of_mem _ (frs_in env he a ha)) e0 ofB (hB ▸ PySem.W.hideAll_none _ List.mem_cons_self) rfl rfl rfl fun h2 fly up dc => ?_
  have q7 : ∀ b o, s.heap.get? b = some o → b ∉ frs outer → ∃ o', B.get? b = some o' ∧ (H b = none → o' = o) := fun b o q hb => by
    obtain ⟨o1, e1⟩ := bas.there b o q (by simp)
    have lt := Heap.lt_size q
    refine ⟨o1, inB b o1 e1 (new b o q) fun z => (hin b z).elim (Nat.ne_of_lt lt) hb, fun n => ?_⟩
    have e2 := bas.keep b o q n hb (by simp)
    rw [e1] at e2
    exact Option.some.inj e2
  have q6 : ∀ b u, rmH ea H1 b = some u → ∃ o, B.get? b = some o := fun b u e => by
    obtain ⟨n, e⟩ := rmH_some e
    obtain ⟨o, q⟩ := (hok1 b u e).obj
    exact ⟨o, inB b o q n fun z => by rw [fre b z] at e; cases e⟩
  refine ⟨C, ea, dx, B, _, rmH ea H1, rfl, os1, I.bare, Un.fly (bas.rm ex) fly.1 q7 (fun b o hb q => ?_), HOk.fly (hok1.rm ex) q6 ofB fly.1, fly, q6, q7, dc, hE⟩
  obtain ⟨_, o2, ho2, nf⟩ := fun1.mem hb
  obtain ⟨z, e1⟩ := bas.any q (I.ok.frf b hb) (by simp)
  rw [ho2] at e1
  cases e1
  exact let ⟨z2, e3⟩ := up b _ ho2 nf; ⟨z2, e3⟩
theorem raise2 {pins : List (Addr × Obj)} {σ : St} {H1 : Hp} {s1 : Shared} {ea : Addr} {dx : Option Addr} (I : Inv (cxOf (CX2 P w) P w K mg base N qual scope f cd A outer s H E) pins σ H1 s1) (ex : H1 ea = some (exX C ea dx)) (new : s.heap.objs.size ≤ ea)
    (hE : E (.ref C) dx (rmH ea H1)) : (cxOf (CX2 P w) P w K mg base N qual scope f cd A outer s H E).xe (.ref ea) s1 := raise3 I ex (fun _ _ q => Nat.ne_of_lt (Nat.lt_of_lt_of_le (Heap.lt_size q) new)) hE
end
end L2
/-! raise C(e), where C has an __init__ of its own -/
namespace L2
open PySem PySem.Spec PyProof.Rows PySem.W
set_option maxRecDepth 100000
theorem ns_at {K : PySem.W.Frag} {h : Heap} {N : Addr} {m : Str → Option Value} {n : Str} {v : Value} (X : K.In h) (G : h.Ns N m) (e : nsIn K N n = some (some v)) : m n = some v := by
  obtain ⟨o, es, ep, ho, hd, _, hf⟩ := G; unfold nsIn at e
  split at e
  case h_2 => cases e
  case h_1 c dd es' n' sl hl =>
    have z := X _ _ hl
    rw [ho] at z
    cases z
    dsimp only at hd
    cases hd
    split at e
    · rename_i en he
      cases e
      rw [← hf, nsFind, findBy, ← Array.find?_toList, he]; rfl
    · split at e <;> cases e
/-- the class at C has its own __init__, at fI, and stands over others of the program and ValueError -/
noncomputable def initIn (K : PySem.W.Frag) (C fI : Addr) : Bool := match K.lookup C with
  | some ⟨.type "type", _, .cls ck, sl⟩ => (match ck.mro, sl.toList with
    | .ref c :: tl, [_, _, _, _, some (.builtin n), _] => decide (c = C) && ((n == "ValueError.__new__") && (!ck.hasDel && (tailIn K veL tl && (nsOkIn K ck.ns && (nsIn K ck.ns "__init__" == some (some (.ref fI)))))))
    | _, _ => false)
  | _ => false
theorem init_obj {K : PySem.W.Frag} {h : Heap} {C fI : Addr} (X : K.In h) (q : initIn K C fI = true) :
    ∃ bm N nm q bs hdct sn sub ab col dd k0 k1 k2 k3 k5 mN, h.get? C = some (excClassObj nm q C N bs bm hdct sn sub ab col dd k0 k1 k2 k3 k5 "ValueError.__new__") ∧ h.Ns N mN ∧ mN "__init__" = some (.ref fI) ∧ OwnTail h veL bm := by
  unfold initIn at q
  split at q
  case h_2 => exact nomatch q
  case h_1 dd cd sl ho =>
    split at q
    case h_2 => exact nomatch q
    case h_1 c tl k0 k1 k2 k3 n k5 hm hs =>
      simp only [Bool.and_eq_true, decide_eq_true_eq, beq_iff_eq, Bool.not_eq_true'] at q
      obtain ⟨e1, e2, e3, e4, e5, e6⟩ := q
      subst e1 e2
      obtain ⟨nm, bs, mr, ns, qn, hd, sn, sub, ab, col, dl⟩ := cd
      dsimp only at hm e3 e5 e6
      subst hm e3
      obtain rfl : sl = #[k0, k1, k2, k3, some (.builtin _), k5] := Array.toList_inj.mp hs
      have nn : h.Ns ns _ := .of_isNs (isNs_of_in X e5)
      exact ⟨tl, ns, nm, qn, bs, hd, sn, sub, ab, col, dd, k0, k1, k2, k3, k5, _, X _ _ ho, nn, ns_at X nn e6, tail_of_in X e4⟩
section
variable {M : Model} {A : Around} {E : Value → Shared → Prop} {env : Env} {nm q : Str} {C N : Addr} {bs bm : List Value} {hdct ab : Bool} {sn : List Str} {sub : List Value} {col : Option Bool} {dd : Option Addr} {k0 k1 k2 k3 k5 : Option Value} {newId : String}
theorem raiseStmtD {s : Shared} {x : Sem Value} {Q : Flow → Shared → Prop} (hb : bm.contains (.type "BaseException") = true) (hh : A.handled = none)
    (h : wpAny M A x (fun v s1 => ∃ e t dx, v = .ref e ∧ s1.heap.get? C = some (excClassObj nm q C N bs bm hdct sn sub ab col dd k0 k1 k2 k3 k5 newId) ∧ s1.heap.get? e = some (exB C t dx) ∧ E (.ref e) s1) E s) : wpAny M A (raiseStmt env (some x) none) Q E s := by
  have cB : (Value.ref C :: bm).contains (.type "BaseException") = true := by rw [List.contains_cons, hb, Bool.or_true]
  unfold raiseStmt
  refine wpAny_bind (wpAny_mono h (fun v s1 h1 => ?_) fun _ _ z => z)
  obtain ⟨e, t, dx, rfl, hC, he, hE⟩ := h1
  obtain ⟨hp, g, d, tk, os⟩ := s1
  repeat (first | with_reducible refine wpAny_loadPart_at he ?_ | with_reducible refine wpAny_loadPart_at hC ?_ | (with_reducible refine wpAny_isSubtype_exc hC ?_; rw [cB]) | wp_step)
  exact (wpAny_raiseNew_none (hh) hE)
end
section
variable {X : Cx} {x : Str} {np cpos pos : Pos} {C fI : Addr} {fd : FuncData} {ps : List Str} {k : Nat} {sp : Sp} {e₀ : Expr} {es : List Expr} {t : TA} {E : XK}
theorem ps_raiseI (hc : X.calm = true) (hg : Gl X x) (hmC : X.mg x = some (.ref C)) (hin : initIn X.K C fI = true) (hft : typeIn X.K (.ref fI) = some (.type "function")) (G : FnOk X.prog X.w X.K X.mg X.base CX0 k fI fd ps sp) (hr : Room (k + 1) X.A) (hbd : Binds X.K fd ps []) (ha : PA X (e₀ :: es) t)
    (hE : ∀ {pins : List (Addr × Obj)} {σ : St} {H : Hp} {s : Shared} {ea : Addr} {dx : Option Addr}, Inv X pins σ H s → H ea = some (exX C ea dx) → X.s₀.heap.objs.size ≤ ea → E (.ref C) dx (rmH ea H) → X.xe (.ref ea) s)
    (hd : (x == ("__debug__" : Str)) = false := by decide) (he : starEach (e₀ :: es) X.env = (false, eval e₀ X.env) :: starEach es X.env := by rfl) (hpl : (backTo cpos (starEach es X.env)).any (·.1) = false := by rfl) :
    PS X (.Raise (some (.Call (.Name x np) (e₀ :: es) [] cpos)) none pos) (fun _ σ H => t σ H fun vs H1 => vs.length ≤ sizeLine ∧ ∀ ea, H1 ea = none → sp (.ref ea :: vs) (upd H1 ea (exX C ea none)) (fun v H2 => v = .non ∧ ∃ dx, H2 ea = some (exX C ea dx) ∧ E (.ref C) dx (rmH ea H2)) fun _ _ _ => False) := by
  intro pins s σ H D I h
  have FB := PySem.F.excBase_ValueError
  obtain ⟨bm, N, nm, q, bs, hdct, sn, sub, ab, col, dd, k0, k1, k2, k3, k5, mN, hC, hN, hi, T⟩ := init_obj I.ok.mod.kin hin
  have hh := I.ok.hd hc
  have hpp : (backTo cpos (starEach (e₀ :: es) X.env)).any (·.1) = false := by rw [he]; exact hpl
  rw [arm_exec_Raise]
  refine wpAny_bind (wpAny_standAt (raiseStmtD (C := C) (nm := nm) (q := q) (N := N) (bs := bs) (bm := bm) (hdct := hdct) (sn := sn) (sub := sub) (ab := ab) (col := col) (dd := dd) (k0 := k0) (k1 := k1) (k2 := k2) (k3 := k3) (k5 := k5) (newId := "ValueError.__new__") (T.hasType FB.hasBase) hh ?_))
  refine wpAny_bind (wpAny_mono (wpAny_Call_ofName (ld_glob I hg hmC ?_ hd)) (fun v s3 h3 => wpAny_bind (wpAny_standAt (wpAny_pure h3))) fun _ _ z => z)
  unfold callWith
  have hpa := ha cpos pins s σ H _ I h
  rw [he] at hpa hpp ⊢
  refine wpAny_bind (wpAny_holding (Calls.evalArgs_plain (thn hpa fun us s1 ⟨vs, H1, I1, r, z, q1⟩ => wpAny_bind (wpAny_standAt ?_))))
  simp only [hpp]
  have hC1 := I1.bk _ _ hC
  have hN1 := hN.keeps I1.bk
  have T1 := T.keeps I1.bk
  have len : us.length ≤ sizeLine := r.length ▸ z
  obtain ⟨oI, hf, hfc⟩ : ∃ oI : Obj, s1.heap.get? fI = some oI ∧ oI.cls = .type "function" := by
    obtain ⟨o, h1, h2⟩ := Option.map_eq_some_iff.mp (show (X.K.lookup fI).map (·.cls) = some (.type "function") from hft)
    exact ⟨o, I1.kIn _ _ h1, h2⟩
  have szz := I1.sz
  obtain ⟨hp, g, d, tk, os⟩ := s1
  refine wpAny_bind (wpAny_keeperOf_exc hC1 (wpAny_bind (callI FB T1 hC1 hN1 hi hf hfc (fun h' e le hm => ?_) len)))
  obtain ⟨t0, he0, _, _⟩ := hm.there
  have fr := I1.hok.fresh le
  have J := I1.laid (h' := h') (t' := tk) (o := exX C e none) hm.keeps le (exX_ok he0)
  have hl : (.ref e :: us : List Value).length = ps.length := by
    have := G.len _ _ _ _ (q1 e fr)
    rw [← this, List.length_cons, List.length_cons, r.length]
  have hbb := hbd _ (.ref e :: us) J.kIn (by rw [List.append_nil]; exact hl)
  rw [List.append_nil] at hbb
  refine wpAny_call (codeAny_mono (G.run _ X.stack _ _ ⟨.ref e :: us, []⟩ (.ref e :: us) (.ref e :: vs) _ _ (hr.make C us []) (J.env0.make C us []) hbb (.cons rfl r) (q1 e fr)) fun rs s' hq => ?_)
  cases rs with
  | ok fl =>
    cases fl with
    | ret u =>
      obtain ⟨v, H', I', rv, hv, dx, e2, q'⟩ := J.after hq
      subst hv
      obtain rfl : u = .none := rv
      obtain ⟨⟨t1, e1⟩, _, _⟩ := I'.hok e _ e2
      exact ⟨rfl, wpAny_bind (wpAny_holding (wpAny_point (wpAny_pure ⟨e, t1, dx, rfl, I'.bk _ _ hC, e1, hE I' e2 (Nat.le_trans szz le) q'⟩)))⟩
    | next => exact hq.elim
    | brk => exact hq.elim
    | cont => exact hq.elim
  | error e => exact hq.elim
end
end L2
/-! e.x, where e is an exception with names of its own -/
namespace L2
open PySem PySem.Spec PyProof.Rows
open PySem.W (Looks)
open PySem.Builtin PySem.Builtin.ObjectAttr PySem.Builtin.Getset_descriptor
set_option maxRecDepth 100000
section
variable {prog : Program} {w : World} {A : Around} {E : Value → Shared → Prop} {K : PySem.W.Frag} {C a dx : Addr} {o : Obj} {vs : Array Value} {cd : ClassData} {name : Str} {v : Value} {mA : Str → Option Value}
end
end L2
/-! try: f(..) / except W as e: y = e.x -/
namespace L2
open PySem PySem.Spec PyProof.Rows
open PySem.W (Looks)
set_option maxRecDepth 100000
/-- an exception, caught: its class, the address of its names -/
noncomputable def exD (C a : Addr) (dx : Option Addr) : HO := .ext fun h => ∃ o vs, h.get? a = some o ∧ o.cls = .ref C ∧ o.data = .fields vs ∧ o.dict = dx
theorem exD_ok {P : Program} {w : World} {H : Hp} {h : Heap} {C a : Addr} {dx : Option Addr} {l : List Env} {B : Heap} {a0 : Value} (fl : Heap.FlyingW B l a (.ref C) a0 h) (d : DcAt a dx h) : ObjOk P w H h a (exD C a dx) := by
  obtain ⟨o, h1, h2⟩ := d
  obtain ⟨o2, vs, e1, e2, e3, _⟩ := fl.first
  rw [h1] at e1
  cases e1
  exact ⟨⟨o, vs, h1, e2, e3, h2⟩, ⟨_, h1⟩, fun _ _ ⟨o, vs, z, r⟩ k => ⟨o, vs, k _ z, r⟩⟩
section
variable {X : Cx} {C ea : Addr} {pins : List (Addr × Obj)} {σ : St} {H1 H' : Hp} {s1 s' : Shared} {B : Heap} {a0 : Value} {dx : Option Addr}
theorem Inv.caughtD {h2 : Heap} {tk : Nat} (I : Inv X pins σ H1 s1) (os : s'.os = s1.os) (bare : AllBare s'.gens) (un : Un (frs X.stack) [] H1 H' s1.heap s'.heap) (hok : HOk X.prog X.w H' s'.heap) (fly : Heap.FlyingW B X.stack ea (.ref C) a0 s'.heap)
    (q6 : ∀ b u, H' b = some u → ∃ o, B.get? b = some o) (q7 : ∀ b o, s1.heap.get? b = some o → b ∉ frs X.stack → ∃ o', B.get? b = some o' ∧ (H1 b = none → o' = o))
    (fly2 : Heap.FlyingW B X.stack ea (.ref C) a0 h2) (up : s'.heap.UpToSlots h2) (dc : DcAt ea dx h2) : H' ea = none ∧ Inv X pins σ (upd H' ea (exD C ea dx)) { s' with heap := h2, toks := tk } := by
  have hB : B.get? ea = none := fly.2.1
  have hn : H' ea = none := by
    cases e : H' ea with
    | none => rfl
    | some u =>
      obtain ⟨o, z⟩ := q6 _ _ e
      rw [hB] at z
      cases z
  refine ⟨hn, ?_⟩
  have hne : ∀ b o, s1.heap.get? b = some o → H1 b = none → b ≠ ea := fun b o q _ z => by
    subst z
    by_cases hb : b ∈ frs X.stack
    · obtain ⟨_, o1, e1, nf⟩ := fly.2.2.1.mem hb
      obtain ⟨oe, vs, _, _, _, e2, _, hd, _⟩ := fly.2.2.2
      rw [e1] at e2
      cases e2
      exact nf vs hd
    · obtain ⟨o', e, _⟩ := q7 b o q hb
      rw [hB] at e
      cases e
  have u2 : Un (frs X.stack) [] H1 H' s1.heap h2 := Un.fly un fly2.1 q7 fun b o hb q => by
    obtain ⟨z1, e1⟩ := un.any q (I.stkFree b hb) (by simp)
    obtain ⟨_, o3, ho3, nf⟩ := fly.2.2.1.mem hb
    rw [ho3] at e1
    cases e1
    exact let ⟨z3, e3⟩ := up b _ ho3 nf; ⟨z3, e3⟩
  have no : ∀ b ∈ ([] : List Addr), (b ∈ X.ex ∨ X.s₀.heap.objs.size ≤ b) ∧ b ≠ X.env.locals ∧ (∀ x c, X.env.cells.lookup x = some c → c ≠ b) ∧ ∀ p ∈ X.pn ++ pins, p.1 ≠ b := fun b z => nomatch z
  exact I.call' (s' := { s' with heap := h2, toks := tk }) os (u2.more hn hne) (upd_new (HOk.fly hok q6 fly.1 fly2.1) hn (exD_ok fly2 dc)) bare no
end
/-- what e.x needs of the class -/
structure FldK (K : PySem.W.Frag) (C : Addr) (name : Str) : Prop where
  cd : ∃ cd, PySem.W.clsIn K C = some cd ∧ cd.hasDict = true
  Z : ExcK K C
  nm : PySem.W.findIn K (.ref C) name = some none
section
variable {X : Cx} {pins : List (Addr × Obj)} {σ : St} {H : Hp} {s : Shared} {C a dx : Addr} {name : Str} {n : Int} {A : Around} {E : Value → Shared → Prop} {Q : Value → Shared → Prop}
end
section
variable {X : Cx} {W f : Addr} {k : Nat} {fd : FuncData} {ps : List Str} {sp : Sp} {x wn n y fld : Str} {p cp ep wp np yp ap fp hp pos : Pos} {e : Expr} {es : List Expr} {t : TA} {ix ie : Nat}
end
end L2
/-! try: x = f(..) / except W as e: y = e, of any class; isinstance of exceptions however they are tracked; e.x; C(..) as an expression -/
namespace L2
open PySem PySem.Spec PyProof.Rows
open PySem.W (Looks)
set_option maxRecDepth 100000
/-- the object at a is an exception of the class at C -/
noncomputable def IsX (C a : Addr) (o : Option HO) : Prop := ∃ φ, o = some (.ext φ) ∧ ∀ h, φ h → ExcAt C a h
theorem isX_D {C a : Addr} {dx : Option Addr} {o : Option HO} (h : o = some (exD C a dx)) : IsX C a o := ⟨_, h, fun _ ⟨o, _, h1, h2, _⟩ => ⟨o, h1, h2⟩⟩
theorem IsX.at {X : Cx} {pins : List (Addr × Obj)} {σ : St} {H : Hp} {s : Shared} {C a : Addr} (I : Inv X pins σ H s) (x : IsX C a (H a)) : ExcAt C a s.heap := let ⟨_, e, f⟩ := x; f _ (I.hok a _ e).1
theorem call_isinstY {X : Cx} {C : Addr} {c : Value} {cv : V} {b : Bool} (Z : ExcK X.K C) (hc : ∀ u, RelV cv u → u = c) (e : PySem.W.kitOne X.K (.ref C) c = some b) :
    CallR X (.builtin "isinstance") (fun xs H Q => ∃ a, xs = [.ref a, cv] ∧ IsX C a (H a) ∧ Q (.bl b) H) := by
  intro pins s σ H vs us Q I r h
  obtain ⟨a, rfl, ha, q⟩ := h
  obtain ⟨u, v, rfl, ru, rv⟩ := vals2 r
  cases (show u = Value.ref a from ru)
  cases hc v rv
  exact PySem.W.kia_one (kitx_exc Z) I.kIn (ha.at I) e (fun z => nomatch z) fun tk => ⟨.bl b, H, I.tok tk, rfl, q⟩
theorem vals_rfs : ∀ {cs : List Addr} {its : List Value}, Vals (cs.map V.ref) its → its = cs.map Value.ref
  | [], _, .nil => rfl
  | c :: cs, _, .cons r rr => by
    have e := vals_rfs rr
    cases (show _ = Value.ref c from r)
    rw [e]; rfl
section
variable {X : Cx} (K : PySem.W.Frag) (hK : X.K = K)
include hK
theorem cIsY {C D : Addr} {b : Bool} (Z : ExcK K C) (e : PySem.W.kitOne K (.ref C) (.ref D) = some b) : CallR X (.builtin "isinstance") (fun xs H Q => ∃ a, xs = [.ref a, .ref D] ∧ IsX C a (H a) ∧ Q (.bl b) H) := by
  subst hK
  exact call_isinstY (cv := .ref D) Z (fun u z => z) e
theorem cIsYV {C : Addr} {T : String} {b : Bool} (Z : ExcK K C) (e : PySem.W.kitOne K (.ref C) (.type T) = some b) : CallR X (.builtin "isinstance") (fun xs H Q => ∃ a, xs = [.ref a, .ty T] ∧ IsX C a (H a) ∧ Q (.bl b) H) := by
  subst hK
  exact call_isinstY (cv := .ty T) Z (fun u z => z) e
/-- by a tuple of classes -/
theorem cIsYT {C : Addr} {cs : List Addr} {b : Bool} (Z : ExcK K C) (e : PySem.W.kitAny K (.ref C) (cs.map Value.ref) = some b) :
    CallR X (.builtin "isinstance") (fun xs H Q => ∃ a t, xs = [.ref a, .ref t] ∧ IsX C a (H a) ∧ H t = some (.tup (cs.map V.ref)) ∧ Q (.bl b) H) := by
  subst hK
  intro pins s σ H vs us Q I r h
  obtain ⟨a, t, rfl, ha, ht, q⟩ := h
  obtain ⟨u, v, rfl, ru, rv⟩ := vals2 r
  cases (show u = Value.ref a from ru)
  cases (show v = Value.ref t from rv)
  obtain ⟨_, its, rr, o, h1, h2, _, n, h3⟩ := (show ObjOk X.prog X.w H s.heap t (.tup (cs.map V.ref)) from I.hok t _ ht)
  have ei := vals_rfs rr
  subst ei
  obtain ⟨oc, od, oda, osl⟩ := o
  have h2 : oc = .type "tuple" := h2
  have h3 : oda = .seq (cs.map Value.ref).toArray n := h3
  subst h2 h3
  exact PySem.W.kia_tup (kitx_exc Z) I.kIn (ha.at I) h1 e (fun z => nomatch z) fun tk => ⟨.bl b, H, I.tok tk, rfl, q⟩
end
section
variable {X : Cx} {e : Expr} {f : Str} {pos : Pos} {ta : TE}
end
section
variable {X : Cx} {W f : Addr} {k : Nat} {fd : FuncData} {ps : List Str} {sp : Sp} {x wn n y vn : Str} {p cp ep wp np yp ap vp hp pos : Pos} {e : Expr} {es : List Expr} {t : TA} {ix ie iv : Nat}
/-- `try: v = x(e, ..)` / `except W as n: y = n` -/
theorem ps_tryA (hno : ∀ u s, X.xe u s → False) (hstk : X.stack = X.env :: X.outer) (hfr : X.env.frame = some X.env.locals)
    (F : FnOk X.prog X.w X.K X.mg X.base (CX2 X.prog X.w) k f fd ps sp) (hr : Room k X.A) (hg : Gl X x) (hm : X.mg x = some (.ref f)) (hk : PySem.W.keepIn X.K (.ref f) = true) (hb : Binds X.K fd ps []) (ha : PA X (e :: es) t)
    (hgw : Gl X wn) (hmw : X.mg wn = some (.ref W)) (hN : X.N.Nodup) (hv : X.N[iv]? = some vn) (lv : X.env.scope.names.lookup vn = some .local) (hy : X.N[ix]? = some y) (ly : X.env.scope.names.lookup y = some .local) (hn : X.N[ie]? = some n) (ln : X.env.scope.names.lookup n = some .local) (hxe : ix ≠ ie)
    (hdb : (x == ("__debug__" : Str)) = false := by decide) (hdw : (wn == ("__debug__" : Str)) = false := by decide) (hdn : (n == ("__debug__" : Str)) = false := by decide)
    (he : starEach (e :: es) X.env = (false, eval e X.env) :: starEach es X.env := by rfl) (hpl : (backTo cp (starEach es X.env)).any (·.1) = false := by rfl)
    (hs : swapsWith (.Call (.Name x p) (e :: es) [] cp) (some (.Name vn vp)) ep.line X.env = pure false := by rfl) (hs2 : swapsWith (.Name n np) (some (.Name y yp)) ap.line X.env = pure false := by rfl) :
    PS X (.Try [.Assign [.Name vn vp] (.Call (.Name x p) (e :: es) [] cp) ep] [.ExceptHandler (some (.Name wn wp)) (some n) [.Assign [.Name y yp] (.Name n np) ap] hp] [] [] pos)
      (fun D σ H => t σ H fun vs H1 => sp vs H1 (fun v H' => D.nx (σ.set iv (some v)) H') fun c dxo H' => ∃ C, c = .ref C ∧ PySem.W.exmOne X.K (.ref C) (.ref W) = some true ∧
        ∀ ea, H' ea = none → D.nx ((σ.set ix (some (.ref ea))).set ie none) (upd H' ea (exD C ea dxo))) := by
  intro pins s σ H D I h
  refine wpAny_Try_except (wpAny_execs_cons (wpAny_Assign_Name (wpAny_Call_Name_kw (ld_glob I hg hm ?_ hdb)) hs))
  refine PySem.W.callWith_K (h₀ := X.base) I.ok.mod.kin hk (wpAny_mono (ha cp pins s σ H _ I h) (fun us s1 ⟨vs, H1, I1, r, q⟩ => ⟨I1.kIn, ?_⟩) fun _ _ z => (hno _ _ z).elim) he hpl
  have hl : us.length = ps.length := by rw [← r.length]; exact F.len _ _ _ _ q
  have hbb := hb s1 us I1.kIn (by rw [List.append_nil]; exact hl)
  rw [List.append_nil] at hbb
  refine wpAny_call (codeAny_mono (F.run X.A X.stack s1 H1 ⟨us, []⟩ us vs _ _ hr I1.env0 hbb r q) fun r s' hq => ?_)
  cases r with
  | ok fl =>
    cases fl with
    | ret u =>
      obtain ⟨v, H', I', rv, q'⟩ := I1.after hq
      exact store_ok I' hN hv (.inl lv) rv (fun s8 I8 => wpAny_execs_nil (wpAny_execs_nil ⟨_, H', I8, q'⟩)) (.inr lv)
    | next => exact False.elim hq
    | brk => exact False.elim hq
    | cont => exact False.elim hq
  | error e =>
    obtain ⟨C, ea, dxo, B, a0, H', rfl, os, bare, un, hok, fly, q6, q7, dc, C', hc, hex, q8⟩ := hq
    cases hc
    have fl1 : Heap.FlyingW B (X.env :: X.outer) ea (.ref C) a0 s'.heap := hstk ▸ fly
    have frm : X.A.frames = some (X.env :: X.outer) := hstk ▸ I1.ok.frames
    refine noteD frm hfr fl1 dc fun h4 held up4 dc4 => landD held dc4 fun h5 fl5 up5 dc5 => ?_
    have up45 := up4.trans up5
    have fly5 : Heap.FlyingW B X.stack ea (.ref C) a0 h5 := by rw [hstk]; exact fl5
    obtain ⟨_, I5⟩ := I1.caughtD (tk := s'.toks) os bare un hok fly q6 q7 fly5 up45 dc5
    refine wpAny_handleBy_cons (codeAny_handlers_test ?_) (by intro q; cases q)
    refine Calls.Name_function_global I.ok.kind hgw (Calls.loadGlobal_global (by rw [I.ok.glob]; exact I5.mod.glob.keeps I5.bk) hmw ?_) hdw
    obtain ⟨oe, hoe, hce⟩ := fly5.there
    have LT : Looks (model X.prog X.w) h5 (typeOf (.ref ea)) (.ref C) := hce ▸ (Looks.ld hoe).andThen .now
    refine (PySem.W.exm_one (M := model X.prog X.w) I5.kIn LT hex).here ?_
    refine codeAny_handlers_suite_as (landA fl5 dc5 fun h6 fl6 up6 dc6 => ?_)
    have fly6 : Heap.FlyingW B X.stack ea (.ref C) a0 h6 := by rw [hstk]; exact fl6
    obtain ⟨hn0, I6⟩ := I1.caughtD (tk := s'.toks) os bare un hok fly q6 q7 fly6 (up45.trans up6) dc6
    refine store_ok I6 hN hn (.inl ln) (v := .ref ea) rfl (fun s7 I7 => ?_) (.inr ln)
    have hlen : ie < σ.length := by rw [I1.len]; exact (List.getElem?_eq_some_iff.mp hn).1
    obtain ⟨m7, hn7, hl7⟩ := I7.loc
    obtain ⟨u7, r7, lk7⟩ := hl7 ie n (.ref ea) hn (List.getElem?_set_self hlen) (.inl ln)
    have lk7' : X.env.kindOf n = some .local ∧ m7 n = some u7 := by
      rcases lk7 with z | ⟨z, _⟩
      · exact z
      · have ln' : X.env.kindOf n = some .local := ln
        rcases z with z | z <;> (rw [ln'] at z; cases z)
    refine wpAny_execs_cons (wpAny_Assign_Name (wpAny_Name (wpAny_loadName_local I.ok.kind lk7'.1 hn7 lk7'.2 ?_) hdn) hs2)
    refine store_ok I7 hN hy (.inl ly) (v := .ref ea) r7 (fun s8 I8 => ?_) (.inr ly)
    refine wpAny_execs_nil ?_
    obtain ⟨m8, hn8, hl8⟩ := id I8.loc
    have hcls : (X.env.scope.kind == .class || (X.env.scope.kind == .module && X.env.locals != X.env.globals)) = false := by rw [I.ok.kind]; rfl
    refine wpAny_nameGoes_keeps ln hn8 hcls fun h9 v9 hn9 hs9 => ?_
    refine ⟨_, _, I8.goes hN hn hl8 hn8 hn9 hs9, ?_⟩
    have es : ((σ.set ie (some (V.ref ea))).set ix (some (V.ref ea))).set ie none = (σ.set ix (some (V.ref ea))).set ie none := by
      rw [List.set_comm _ _ hxe.symm, List.set_set]
    rw [es]
    exact q8 ea hn0
end
/-! ### C(..) as an expression -/
section
variable {X : Cx} {x : Str} {np cpos : Pos} {C fI : Addr} {fd : FuncData} {ps : List Str} {k : Nat} {sp : Sp} {e₀ : Expr} {es : List Expr} {t : TA} {bmB : List Value} {B newId initId : String}
end
end L2
/-! a comprehension whose element may raise -/
namespace L2
open PySem PySem.Spec PyProof.Rows
set_option maxRecDepth 100000
section
variable {M : Model} {A : Around} {E : Value → Shared → Prop} {s : Shared} {base : Heap} {env : Env} {outer l : List Env} {L e : Addr} {a0 cls fl : Value} {Q : Unit → Shared → Prop} {dx : Option Addr}
/-- the frame is told to an exception, whatever it is held by -/
theorem noteG (hfr : A.frames = some (env :: outer)) (hf : env.frame = some L) (f1 : base.StaysIn s.heap) (f2 : base.get? e = none) (f3 : s.heap.FunFrames base (env :: outer)) (tr : s.heap.TracedAtW base e cls a0 fl) (hx : DcAt e dx s.heap)
    (h : ∀ h', Heap.HeldW base (env :: outer) e cls a0 L h' → s.heap.UpToSlots h' → DcAt e dx h' → Q () { s with heap := h' }) : wpAny M A (noteFrame (.ref e) env) Q E s := by
  by_cases hfl : fl = rawInt L
  · subst hfl
    exact wpAny_noteFrame_againW hf tr (h s.heap ⟨f1, f2, f3, tr⟩ (.refl _) hx)
  obtain ⟨oe, vs, T, oT, ts, he, ⟨rfl, h0⟩, hd, h1, nT, ne, hT, dT, h3⟩ := tr
  obtain ⟨o2, q2, rfl⟩ := hx
  rw [he] at q2; cases q2
  unfold noteFrame
  simp only [hf]
  refine wpAny_bind (wpAny_field he hd h1 ?_); rw [if_pos (by simp : (Value.ref T != Value.none) = true)]
  refine wpAny_bind (wpAny_field hT dT h3 ?_)
  rw [if_neg (by simpa using hfl : ¬ ((fl == rawInt L) = true))]
  refine wpAny_bind (wpAny_setField hT dT (Array.getElem?_eq_some_iff.mp h3).1 ?_)
  have ot : ∀ b, b ≠ T → (s.heap.update T (Obj.mapFields (·.setIfInBounds 3 Value.none))).get? b = s.heap.get? b := fun b n => Heap.get?_update_other _ _ n.symm
  have nr : ∀ b o, s.heap.get? b = some o → (∀ ws, o.data ≠ .fields ws) → b ≠ T := fun b o q nf z => by
    subst z; rw [hT] at q; cases q; exact nf ts dT
  refine entryD hfr (f3.of_keeps fun b o q nf => ⟨o, (ot b (nr b o q nf)).trans q, rfl⟩) hf ((ot e ne.symm).trans he) (fun b o q => (ot b fun z => by rw [z, nT] at q; cases q).trans (f1 b o q)) f2 hd (Array.getElem?_eq_some_iff.mp h1).1 h0
    fun h' ⟨x1, x2, x3, x4⟩ dd => h h' ⟨x1, f2, x2, x3⟩ (fun b o q nf => x4 b o ((ot b (nr b o q nf)).trans q) nf) dd
/-- it leaves a frame -/
theorem leaveG (hfr : A.frames = some (env :: outer)) (hf : env.frame = some L) (f1 : base.StaysIn s.heap) (f2 : base.get? e = none) (f3 : s.heap.FunFrames base (env :: outer)) (tr : s.heap.TracedAtW base e cls a0 fl) (hx : DcAt e dx s.heap)
    (h : ∀ h', Heap.FlyingW base outer e cls a0 h' → s.heap.UpToSlots h' → DcAt e dx h' → Q () { s with heap := h' }) : wpAny M A (leaving env (.ref e)) Q E s := by
  unfold leaving
  refine wpAny_bind (noteG hfr hf f1 f2 f3 tr hx fun h1 q1 u1 d1 => landD (s := { s with heap := h1 }) q1 d1 fun h2 q2 u2 d2 => ?_)
  obtain ⟨k1, k2, ⟨_, _, k3⟩, k4⟩ := q2
  exact h h2 ⟨k1, k2, k3, k4⟩ (u1.trans u2) d2
/-- it goes on from a comprehension -/
theorem passG {wt : String} {cenv : Env} {QV : Value → Shared → Prop} (f1 : base.StaysIn s.heap) (f3 : s.heap.FunFrames base l) (tr : s.heap.TracedAtW base e cls a0 fl) (hx : DcAt e dx s.heap)
    (h : ∀ h' fl', base.StaysIn h' → h'.FunFrames base l → h'.TracedAtW base e cls a0 fl' → s.heap.UpToSlots h' → DcAt e dx h' → E (.ref e) { s with heap := h' }) : wpAny M A (PySem.passOn wt (.ref e) cenv : Sem Value) QV E s := by
  obtain ⟨oe, vs, T, oT, ts, he, hc, hd, h1, nT, ne, hT, dT, h3⟩ := tr
  obtain ⟨o2, q2, rfl⟩ := hx
  rw [he] at q2; cases q2
  have ot : ∀ b, b ≠ T → (s.heap.update T (Obj.mapFields (·.setIfInBounds 3 (cenv.frame.elim Value.none fun f => rawInt f)))).get? b = s.heap.get? b := fun b n => Heap.get?_update_other _ _ n.symm
  have nr : ∀ b o, s.heap.get? b = some o → (∀ ws, o.data ≠ .fields ws) → b ≠ T := fun b o q nf z => by
    subst z; rw [hT] at q; cases q; exact nf ts dT
  have z3 := (Array.getElem?_eq_some_iff.mp h3).1
  unfold PySem.passOn setFlight
  refine wpAny_bind (wpAny_field he hd h1 ?_); rw [if_neg (by simp : ¬ ((Value.ref T == Value.none) = true))]
  refine wpAny_bind (wpAny_bind (wpAny_field he hd h1 ?_)); rw [if_pos (by simp : (Value.ref T != Value.none) = true)]
  have e5 := (ot e ne.symm).trans he
  refine wpAny_setField hT dT z3 (wpAny_throw (h _ (cenv.frame.elim Value.none fun f => rawInt f) (fun b o q => (ot b fun z => by rw [z, nT] at q; cases q).trans (f1 b o q)) (f3.of_keeps fun b o q nf => ⟨o, (ot b (nr b o q nf)).trans q, rfl⟩) ?_ (fun b o q nf => ⟨o.slots, (ot b (nr b o q nf)).trans q⟩) ⟨_, e5, rfl⟩))
  exact ⟨oe, vs, T, _, _, e5, hc, hd, h1, nT, ne, Heap.get?_update_self _ hT (Obj.isFreed_of_fields (Obj.data_mapFields dT _)), Obj.data_mapFields dT _, by simp [z3]⟩
end
theorem ff_move {h h' B B' : Heap} : ∀ {l : List Env}, h.FunFrames B l → (∀ b ∈ frs l, h'.get? b = h.get? b) → (∀ b, B.get? b = none → B'.get? b = none) → h'.FunFrames B' l
  | [], _, _, _ => True.intro
  | env :: l, ⟨hk, ⟨L, o, hf, hn, ho, hd⟩, hr⟩, k, n => ⟨hk, ⟨L, o, hf, n L hn, (k L (frs_in env List.mem_cons_self L hf)).trans ho, hd⟩, ff_move hr (fun b hb => k b (by
      obtain ⟨e', he', ha⟩ := List.mem_filterMap.mp hb
      exact frs_in e' (List.mem_cons_of_mem _ he') b ha)) n⟩
section
variable {P : Program} {w : World} {K : PySem.W.Frag} {mg : Str → Option Value} {base : Heap} {N : List Str} {qual : Str} {scope : Scope} {f C : Addr} {cd : Value} {A : Around} {outer : List Env} {s : Shared} {H : Hp} {E : XK}
/-- what a comprehension's element may raise, seen from around -/
noncomputable def PassC (X : Cx) (E : XK) : Prop := ∀ {pins : List (Addr × Obj)} {σ : St} {H1 : Hp} {s1 : Shared} {e : Value} {s' : Shared} {Ca : Addr} {m : Str → Option Value} {cenv : Env} {acc : Value} {Q : Value → Shared → Prop},
  Inv X pins σ H1 s1 → CX2 X.prog X.w X.stack H1 s1 E e s' → s1.heap.Ns Ca m → H1 Ca = none → Ca ∉ frs X.stack → X.s₀.heap.objs.size ≤ Ca → cenv.frame = X.env.frame →
  notedBy (model X.prog X.w) X.A cenv (fun e' s'' => compPost (model X.prog X.w) X.A X.xe none Q acc Ca (.error e') s'') e s'
theorem passC : PassC (cxOf (CX2 P w) P w K mg base N qual scope f cd A outer s H E) E := by
  intro pins σ H1 s1 e s' Ca m cenv acc Q I hq hn hC hCf hCs hcf
  obtain ⟨C, ea, dx, B, a0, H', rfl, os, bare, un, hok, fly, q6, q7, dc, q8⟩ := hq
  have bas : Un (frs outer) [] H H1 s.heap s1.heap := I.base
  have os1 : s1.os = s.os := I.os
  have frm : (A.deeper (envOfC qual scope s.heap.objs.size f cd)).frames = some (envOfC qual scope s.heap.objs.size f cd :: outer) := I.ok.frames
  have hfr0 : ∀ b ∈ frs outer, H b = none := I.ok.frf
  replace un : Un (frs (envOfC qual scope s.heap.objs.size f cd :: outer)) [] H1 H' s1.heap s'.heap := un
  replace fly : Heap.FlyingW B (envOfC qual scope s.heap.objs.size f cd :: outer) ea (.ref C) a0 s'.heap := fly
  replace q7 : ∀ b o, s1.heap.get? b = some o → b ∉ frs (envOfC qual scope s.heap.objs.size f cd :: outer) → ∃ o', B.get? b = some o' ∧ (H1 b = none → o' = o) := q7
  replace hCf : Ca ∉ frs (envOfC qual scope s.heap.objs.size f cd :: outer) := hCf
  replace hCs : s.heap.objs.size ≤ Ca := hCs
  have sub : ∀ b, b ∈ frs outer → b ∈ frs (envOfC qual scope s.heap.objs.size f cd :: outer) := fun b hb => List.mem_cons_of_mem _ hb
  have hin : ∀ b, b ∈ frs (envOfC qual scope s.heap.objs.size f cd :: outer) → b = s.heap.objs.size ∨ b ∈ frs outer := fun b hb => List.mem_cons.mp hb
  have en : noteFrame (.ref ea) cenv = noteFrame (.ref ea) (envOfC qual scope s.heap.objs.size f cd) := by
    unfold noteFrame PySem.frameOf
    rw [hcf]
    rfl
  obtain ⟨o, es, ep, ho, hd, rr⟩ := hn
  obtain ⟨o', eB, z⟩ := q7 Ca o ho hCf
  obtain rfl := z hC
  have nB : ∀ b, B.get? b = none → b ≠ Ca := fun b q z => by rw [z, eB] at q; cases q
  have nCH : H' Ca = none := un.free Ca _ ho hC (by simp)
  show wpAny _ _ (noteFrame (.ref ea) cenv) _ _ s'
  rw [en]
  refine noteD frm rfl fly dc fun h4 held up4 dc4 => ?_
  show ∃ m, _ ∧ _
  refine ⟨m, ⟨_, es, ep, held.1 _ _ eB, hd, rr⟩, fun h5 sb cv _ => ?_⟩
  generalize hB' : PySem.W.hideAll B [Ca] = B'
  have ofB : ∀ b o, B'.get? b = some o → B.get? b = some o := fun b o q => PySem.W.of_hideAll _ (hB' ▸ q)
  have inB : ∀ b o, B.get? b = some o → b ≠ Ca → B'.get? b = some o := fun b o q n => hB' ▸ PySem.W.hideAll_get _ q fun z => n (List.mem_singleton.mp z)
  have nCB : B'.get? Ca = none := hB' ▸ PySem.W.hideAll_none _ (List.mem_singleton.mpr rfl)
  have nn : ∀ b, B.get? b = none → B'.get? b = none := fun b q => by
    cases z : B'.get? b with
    | none => rfl
    | some o => rw [ofB b o z] at q; cases q
  have g5 : ∀ b, b ≠ Ca → h5.get? b = h4.get? b := fun b n => sb.2 b n
  have f1 : B'.StaysIn h5 := fun b o q => (g5 b fun z => by rw [z, nCB] at q; cases q).trans (held.1 b o (ofB b o q))
  have f3 : h5.FunFrames B' (envOfC qual scope s.heap.objs.size f cd :: outer) := ff_move held.2.2.1 (fun b hb => g5 b fun z => hCf (z ▸ hb)) nn
  have nea : ea ≠ Ca := nB ea held.2.1
  have tr : h5.TracedAtW B' ea (.ref C) a0 (rawInt s.heap.objs.size) := by
    obtain ⟨oe, vs, T, oT, ts, he, hc, hd', h1, nT, ne, hT, dT, h3⟩ := held.2.2.2
    exact ⟨oe, vs, T, oT, ts, (g5 ea nea).trans he, hc, hd', h1, nn T nT, ne, (g5 T (nB T nT)).trans hT, dT, h3⟩
  have dc5 : DcAt ea dx h5 := let ⟨o, q, z⟩ := dc4; ⟨o, (g5 ea nea).trans q, z⟩
  refine passG (s := { s' with heap := h5 }) f1 f3 tr dc5 fun h6 fl6 k1 k2 k3 up6 dc6 => ?_
  show wpAny _ _ (leaving (envOfC qual scope s.heap.objs.size f cd) (.ref ea)) _ _ _
  refine leaveG (s := { s' with heap := h6 }) frm rfl k1 (nn ea held.2.1) k2 k3 dc6 fun h7 fly7 up7 dc7 => ?_
  have q6' : ∀ b u, H' b = some u → ∃ o, B'.get? b = some o := fun b u q => by
    obtain ⟨o, e1⟩ := q6 b u q
    exact ⟨o, inB b o e1 fun z => by rw [z, nCH] at q; cases q⟩
  have q7' : ∀ b o, s.heap.get? b = some o → b ∉ frs outer → ∃ o', B'.get? b = some o' ∧ (H b = none → o' = o) := fun b o q hb => by
    obtain ⟨o1, e1⟩ := bas.there b o q (by simp)
    obtain ⟨o', e2, z⟩ := q7 b o1 e1 fun z => (hin b z).elim (Nat.ne_of_lt (Heap.lt_size q)) hb
    refine ⟨o', inB b o' e2 (Nat.ne_of_lt (Nat.lt_of_lt_of_le (Heap.lt_size q) hCs)), fun n => ?_⟩
    rw [z (bas.free b o q n (by simp))]
    have e3 := bas.keep b o q n hb (by simp)
    rw [e1] at e3
    exact Option.some.inj e3
  refine ⟨C, ea, dx, B', a0, H', rfl, os.trans os1, bare, Un.fly ((bas.mono sub (fun _ z => z)).trans un) fly7.1 q7' (fun b o hb q => ?_), HOk.fly hok q6' (fun b o q => fly.1 b o (ofB b o q)) fly7.1, fly7, q6', q7', dc7, q8⟩
  obtain ⟨z1, e1⟩ := bas.any q (hfr0 b hb) (by simp)
  obtain ⟨z2, e2⟩ := un.any e1 (bas.free b o q (hfr0 b hb) (by simp)) (by simp)
  obtain ⟨_, o3, ho3, nf⟩ := fly.2.2.1.mem (sub b hb)
  rw [ho3] at e2
  cases e2
  obtain ⟨z4, e4⟩ := up4 b _ ho3 nf
  have e5 := (g5 b fun z => hCf (z ▸ sub b hb)).trans e4
  obtain ⟨z6, e6⟩ := up6 b _ e5 nf
  exact let ⟨z7, e7⟩ := up7 b _ e6 nf; ⟨z7, e7⟩
end
end L2
namespace L2
open PySem PySem.Spec PyProof.Rows
set_option maxRecDepth 100000
/-- a block's context in which a call may raise -/
noncomputable def mkX (Y : Cx) (E : XK) : Cx := { Y with xe := fun e s' => ∃ pins σ H1 s1, Inv Y pins σ H1 s1 ∧ CX2 Y.prog Y.w Y.stack H1 s1 E e s' }
section
variable {Y : Cx} {E : XK} {pins : List (Addr × Obj)} {σ : St} {H : Hp} {s : Shared}
theorem Inv.toX (I : Inv Y pins σ H s) : Inv (mkX Y E) pins σ H s := ⟨⟨I.ok.mod, I.ok.kind, I.ok.glob, I.ok.blt, I.ok.above, I.ok.inj, I.ok.has, I.ok.cab, I.ok.hd, I.ok.frames, I.ok.stk, I.ok.exf, I.ok.bs, I.ok.bsz, I.ok.noex, I.ok.exfs, I.ok.funs, I.ok.frf⟩, I.os, I.bare, I.base, I.loc, I.cell, I.free, I.freeC, I.pin, I.hok, I.len⟩
theorem Inv.ofX (I : Inv (mkX Y E) pins σ H s) : Inv Y pins σ H s := ⟨⟨I.ok.mod, I.ok.kind, I.ok.glob, I.ok.blt, I.ok.above, I.ok.inj, I.ok.has, I.ok.cab, I.ok.hd, I.ok.frames, I.ok.stk, I.ok.exf, I.ok.bs, I.ok.bsz, I.ok.noex, I.ok.exfs, I.ok.funs, I.ok.frf⟩, I.os, I.bare, I.base, I.loc, I.cell, I.free, I.freeC, I.pin, I.hok, I.len⟩
theorem passX : Passes (CX2 Y.prog Y.w) (mkX Y E) E := fun pins σ H s _ _ I hq => ⟨pins, σ, H, s, I.ofX, hq⟩
end
section
variable {X : Cx} {tg elt iter : Expr} {ifs : List Expr} {scope : Scope} {pos : Pos} {N : List Str} {own : Nat} {caps : List Nat} {wi : TI} {g : TG} {tt : TT} {te : TE}
theorem comp_runX {pins : List (Addr × Obj)} {σ : St} {H2 : Hp} {s2 : Shared} {J : It} {fp : List Addr} {it : Addr} {tn : Nat → Heap → Prop} {Q : VK} {W : Nat → Nat → St → Hp → List V → Prop} {m0 : Nat}
    {E : Value → Shared → Prop} {E0 : XK} {R : Value → Addr → Result → Shared → Prop} (hc : X.calm = true) (S : BlkScope X.N X.env.scope N own caps scope)
    (hg : ∀ cs C s₀ H₀ ex, PG (blk X N scope cs C s₀ H₀ ex) tg g) (ht : ∀ cs C s₀ H₀ ex, PTs (blk X N scope cs C s₀ H₀ ex) ifs tt) (he : ∀ cs C s₀ H₀ ex, PE (mkX (blk X N scope cs C s₀ H₀ ex) E0) elt te)
    (I2 : Inv X pins σ H2 s2) (T : Turn X.prog X.w X.K tg J fp it tn) (st2 : tn 0 s2.heap) (f2 : ∀ b ∈ fp, FpOk X pins H2 b)
    (w0 : W 0 m0 (blkStart own caps σ) H2 []) (turn : CompW J g tt te Q W)
    (herr : ∀ {H1 : Hp} {s1 : Shared} {e : Value} {s' : Shared} (D C : Addr) (m : Str → Option Value) (cenv : Env), Inv X pins σ H1 s1 → CX2 X.prog X.w X.stack H1 s1 E0 e s' → s1.heap.Ns C m → H1 C = none → C ∉ frs X.stack → X.s₀.heap.objs.size ≤ C → cenv.frame = X.env.frame →
      notedBy (model X.prog X.w) X.A cenv (fun e' s'' => R (.ref D) C (.error e') s'') e s')
    (hpost : ∀ D C s' H' ys, Inv X pins σ (upd H' D (.lst ys)) s' → FpOk X pins (upd H' D (.lst ys)) C → (∃ m, s'.heap.Ns C m) → Q (.ref D) (upd H' D (.lst ys)) → R (.ref D) C (.ok .next) s') :
    wpAny (model X.prog X.w) X.A (newList []) (fun acc s₃ => wpAny (model X.prog X.w) X.A (newFunctionEnv scope X.env.globals (clOf X.env.cells scope.names []) [] X.env.qual none .none (some X.env)) (fun cenv s₄ =>
      codeAny (model X.prog X.w) X.A (.compStart (.ListComp elt [⟨tg, iter, ifs, 0⟩] scope pos) 0 (.ref it) acc { cenv with scope := relabel scope X.env }) (R acc cenv.locals) s₄) E s₃) E s2 := by
  refine wpAny_newObj_type (newEnv_blk ?_)
  dsimp only
  generalize hh3 : s2.heap.push { cls := .type "list", dict := none, data := .seq ([] : List Value).toArray } = h3
  have hC : h3.objs.size = s2.heap.objs.size + 1 := by rw [← hh3, Heap.size_push]
  have up3 : ∀ b o, s2.heap.get? b = some o → h3.get? b = some o := fun b o e => hh3 ▸ Heap.get?_push_of_some _ e
  have I3 : Inv X pins σ H2 { s2 with heap := h3 } := I2.kept (t' := s2.toks) up3
  have gD : h3.get? s2.heap.objs.size = some { cls := .type "list", data := .seq ([] : List Value).toArray } := hh3 ▸ Heap.get?_push_size _ rfl
  have fD : FpOk X pins H2 s2.heap.objs.size := I2.fpOk (Nat.le_refl _) (I2.hok.fresh (Nat.le_refl _))
  have fplt : ∀ b ∈ fp, b < s2.heap.objs.size := fun b hb => by
    obtain ⟨o, e, _⟩ := T.obj 0 _ st2 b hb
    exact Heap.lt_size e
  have hex : ∀ b ∈ s2.heap.objs.size :: fp, FpOk X pins H2 b ∧ b < ({ s2 with heap := h3 } : Shared).heap.objs.size := fun b hb => by
    show _ ∧ b < h3.objs.size
    rw [hC]
    cases hb with
    | head => exact ⟨fD, Nat.lt_succ_self _⟩
    | tail _ hb => exact ⟨f2 b hb, Nat.lt_succ_of_lt (fplt b hb)⟩
  have IB := inv_blk S I3 hex
  -- the block's context
  generalize hY : blk X N scope (blkCells X scope h3.objs.size) h3.objs.size { s2 with heap := h3 } H2 (s2.heap.objs.size :: fp) = Y at IB
  have yP : Y.prog = X.prog := by rw [← hY]; rfl
  have yW : Y.w = X.w := by rw [← hY]; rfl
  have yK : Y.K = X.K := by rw [← hY]; rfl
  have yc : Y.calm = true := by rw [← hY]; exact hc
  have yA : Y.A = X.A := by rw [← hY]; rfl
  have yx : Y.xe = fun _ _ => False := by rw [← hY]; rfl
  have yL : Y.env.locals = h3.objs.size := by rw [← hY]; rfl
  have yex : Y.ex = s2.heap.objs.size :: fp := by rw [← hY]; rfl
  have yfs : Y.fs = frs X.stack := by rw [← hY]; rfl
  have ypn : Y.pn = [] := by rw [← hY]; rfl
  have yenv : Y.env = compEnvC scope (blkCells X scope h3.objs.size) h3.objs.size X.env := by rw [← hY]; rfl
  have yg : PG Y tg g := by rw [← hY]; exact hg _ _ _ _ _
  have yt : PTs Y ifs tt := by rw [← hY]; exact ht _ _ _ _ _
  have ye : PE (mkX Y E0) elt te := by rw [← hY]; exact he _ _ _ _ _
  have yS : Y.stack = X.stack := by rw [← hY]; rfl
  have yb : ∀ {σ' : St} {H' : Hp} {s' : Shared} {pn : List (Addr × Obj)}, Inv Y pn σ' H' s' → Un (frs X.stack) (s2.heap.objs.size :: fp) H2 H' h3 s'.heap := fun {σ' H' s' pn} J => by
    have b := J.base
    rw [yfs, yex] at b
    have e1 : Y.H₀ = H2 := by rw [← hY]; rfl
    have e2 : Y.s₀.heap = h3 := by rw [← hY]; rfl
    rw [e1, e2] at b
    exact b
  have yos : ∀ {σ' : St} {H' : Hp} {s' : Shared} {pn : List (Addr × Obj)}, Inv Y pn σ' H' s' → s'.os = s2.os := fun {σ' H' s' pn} J => by
    have e : Y.s₀.os = s2.os := by rw [← hY]; rfl
    exact J.os.trans e
  have DL : s2.heap.objs.size ≠ Y.env.locals := by rw [yL, hC]; exact Nat.ne_of_lt (Nat.lt_succ_self _)
  have Dfp : s2.heap.objs.size ∉ fp := fun z => Nat.lt_irrefl _ (fplt _ z)
  have exY : ∀ b ∈ s2.heap.objs.size :: fp, b ∈ Y.ex := fun b hb => by rw [yex]; exact hb
  have fpY : ∀ {pn : List (Addr × Obj)} {H' : Hp}, (∀ p ∈ pn, p.1 ∉ fp) → (∀ b ∈ fp, H' b = none) → ∀ b ∈ fp, FpOk Y pn H' b := fun {pn H'} hp hn b hb => by
    have hb' := exY b (List.mem_cons_of_mem _ hb)
    refine ⟨hn b hb, (IB.ok.exf b hb').1, IB.ok.exfs b hb', .inl hb', (IB.ok.exf b hb').2, fun p hp' z => ?_⟩
    rw [ypn, List.nil_append] at hp'
    exact hp p hp' (z ▸ hb)
  have up4 : ∀ b o, h3.get? b = some o → (blkHeap h3 scope).get? b = some o := fun b o e => pushCells_keeps _ _ b o (Heap.get?_push_of_some _ e)
  have st4 : tn 0 (blkHeap h3 scope) := T.keep 0 s2.heap _ st2 fun b _ o e => up4 b o (up3 b o e)
  have gD4 := up4 _ _ gD
  have loop : codeAny (model X.prog X.w) X.A (.compLoop (.ListComp elt [⟨tg, iter, ifs, 0⟩] scope pos) 0 (.ref it) (.ref s2.heap.objs.size) (compEnvC scope (blkCells X scope h3.objs.size) h3.objs.size X.env)) (R (.ref s2.heap.objs.size) h3.objs.size)
      { s2 with heap := blkHeap h3 scope } := by
    refine loop_by (fun n s' => ∃ i σ' H' ys its cap, Inv Y [] σ' H' s' ∧ tn i s'.heap ∧ (∀ b ∈ fp, H' b = none) ∧ H' s2.heap.objs.size = none ∧
      s'.heap.get? s2.heap.objs.size = some { cls := .type "list", data := .seq (its : List Value).toArray cap } ∧ Vals ys its ∧ W i n σ' H' ys) m0
      ⟨0, _, H2, [], [], _, IB, st4, fun b hb => (f2 b hb).1, fD.1, gD4, .nil, w0⟩ ?_
    rintro n s5 ⟨i, σ5, H5, ys, its, cap, I5, t5, fr5, nD5, gD5, rv5, w5⟩
    unfold TurnWp
    dsimp only
    have pin5 : Inv Y [(s2.heap.objs.size, { cls := .type "list", data := .seq its.toArray cap })] σ5 H5 s5 := I5.pins_of fun p hp => by
      have e := List.mem_singleton.mp hp
      subst e
      exact ⟨gD5, nD5, DL, IB.ok.exfs _ (exY _ List.mem_cons_self), fun v z => by cases z⟩
    have pno : ∀ p ∈ [((s2.heap.objs.size : Addr), ({ cls := .type "list", data := .seq its.toArray cap } : Obj))], p.1 ∉ fp := fun p hp => by
      have e := List.mem_singleton.mp hp
      subst e
      exact Dfp
    have fpo : ∀ {H' : Hp}, (∀ b ∈ fp, H' b = none) → ∀ b ∈ fp, FpOk Y [((s2.heap.objs.size : Addr), ({ cls := .type "list", data := .seq its.toArray cap } : Obj))] H' b := fun hn => fpY pno hn
    rcases turn i n σ5 H5 ys w5 with ⟨stop, hz, qn⟩ | ⟨go, hz, NN, hNN, step⟩
    · rw [← yA]
      refine wpAny_mono (T.done Y yP yW yK yc i _ s5 σ5 H5 (fun _ _ => False) pin5 (fpo fr5) t5 stop) (fun r s6 h6 => ?_) fun _ _ f => f.elim
      obtain ⟨hr, I6⟩ := h6
      subst hr
      have hp6 := I6.pin (s2.heap.objs.size, _) (List.mem_append_right _ (List.mem_singleton.mpr rfl))
      have nD : H2 s2.heap.objs.size = none := fD.1
      have base := yb I6
      have un : Un (frs X.stack) (s2.heap.objs.size :: fp) H2 (upd H5 s2.heap.objs.size (.lst ys)) h3 s6.heap := ⟨base.keep, base.slot, fun b o e n hx => by
          rw [upd_ne (fun z => hx (by rw [z]; exact List.mem_cons_self))]; exact base.free b o e n hx, base.there,
        fun b xs e => by rw [upd_ne (ne_of_none e nD)]; exact base.tups b xs e, fun b o u e => by rw [upd_ne (ne_of_none e nD)]; exact base.frzs b o u e, fun b ps e => by
          obtain ⟨more, q⟩ := base.tbls b ps e
          exact ⟨more, by rw [upd_ne (ne_of_none e nD)]; exact q⟩⟩
      have hok : HOk X.prog X.w (upd H5 s2.heap.objs.size (.lst ys)) s6.heap := fun b u e => by
        have hok6 := I6.hok
        rw [yP, yW] at hok6
        by_cases hb : b = s2.heap.objs.size
        · subst hb
          rw [upd_same] at e
          cases e
          exact ⟨hz, its, cap, rv5, hp6.1⟩
        · rw [upd_ne hb] at e
          exact (hok6 b u e).stay (fun c v _ q => q) (fun c q => by rw [upd_ne (ne_of_none q hp6.2.1)]; exact q) fun c xs q => by rw [upd_ne (ne_of_none q hp6.2.1)]; exact q
      have I7 : Inv X pins σ (upd H5 s2.heap.objs.size (.lst ys)) s6 := I3.call' (yos I6) un hok I6.bare fun b hb => by
        have z := (hex b hb).1
        exact ⟨z.2.2.2.1, z.2.1, z.2.2.2.2.1, z.2.2.2.2.2⟩
      have hCn : H5 h3.objs.size = none := by rw [← yL]; exact I6.free
      have CD : h3.objs.size ≠ s2.heap.objs.size := by rw [hC]; exact Nat.succ_ne_self _
      refine hpost _ _ s6 H5 ys I7 (I3.fpOk (Nat.le_refl _) (by rw [upd_ne CD]; exact hCn)) ?_ (qn _ nD5)
      obtain ⟨m, hn, _⟩ := I6.loc
      rw [yL] at hn
      exact ⟨m, hn⟩
    · rw [← yA]
      have lift : ∀ {α : Type} {t : Sem α} {Q1 Q2 : α → Shared → Prop} {s' : Shared}, wpAny (model X.prog X.w) Y.A t Q1 Y.xe s' → (∀ a s'', Q1 a s'' → Q2 a s'') →
          wpAny (model X.prog X.w) Y.A t Q2 (notedBy (model X.prog X.w) Y.A (compEnvC scope (blkCells X scope h3.objs.size) h3.objs.size X.env) fun e s' => R (.ref s2.heap.objs.size) h3.objs.size (.error e) s') s' := fun h k =>
        wpAny_mono h k fun _ _ f => by rw [yx] at f; exact f.elim
      refine lift (T.item Y yP yW yK yc i _ s5 σ5 H5 Y.xe pin5 (fpo fr5) t5 go) fun r s6 h6 => ?_
      obtain ⟨u, hr, h6⟩ := h6
      subst hr
      refine lift h6 fun _ s7 h7 => ?_
      obtain ⟨x, H7, I7, r7, y7, t7, fr7⟩ := h7
      have I7' := I7.pinned (fpo fr7) (T.obj _ _ t7)
      have ha := yg _ s7 σ5 H7 x u _ I7' r7 (step x H7 y7)
      rw [yP, yW, yenv] at ha
      refine lift ha fun _ s8 h8 => ?_
      obtain ⟨σ8, H8, I8, q8⟩ := h8
      have hb := yt _ s8 σ8 H8 _ I8 q8
      rw [yP, yW, yenv] at hb
      refine lift hb fun ok s9 h9 => ?_
      obtain ⟨H9, I9, q9⟩ := h9
      -- what the pins tell
      have after : ∀ {σ' : St} {H' : Hp} {s' : Shared}, Inv Y ([((s2.heap.objs.size : Addr), ({ cls := .type "list", data := .seq its.toArray cap } : Obj))] ++ pinsAt fp s7.heap) σ' H' s' →
          Inv Y [] σ' H' s' ∧ tn (i + 1) s'.heap ∧ (∀ b ∈ fp, H' b = none) ∧ H' s2.heap.objs.size = none ∧ s'.heap.get? s2.heap.objs.size = some { cls := .type "list", data := .seq its.toArray cap } := fun {σ' H' s'} J => by
        have pD := J.pin (s2.heap.objs.size, _) (List.mem_append_right _ (List.mem_append_left _ (List.mem_singleton.mpr rfl)))
        refine ⟨J.pins_of (fun p hp => by cases hp), T.keep _ _ _ t7 fun b hb o e => (J.pin (b, o) (List.mem_append_right _ (List.mem_append_right _ (mem_pinsAt hb e)))).1, fun b hb => ?_, pD.2.1, pD.1⟩
        obtain ⟨o, e, d⟩ := T.obj _ _ t7 b hb
        exact (J.pin (b, o) (List.mem_append_right _ (List.mem_append_right _ (mem_pinsAt hb e)))).2.1
      cases ok with
      | false =>
        rw [if_neg (by decide)] at q9
        rw [if_neg (by decide)]
        obtain ⟨m', hm, w9⟩ := hNN _ _ _ q9
        obtain ⟨a1, a2, a3, a4, a5⟩ := after I9
        exact ⟨m', hm, i + 1, σ8, H9, ys, its, cap, a1, a2, a3, a4, a5, rv5, w9⟩
      | true =>
        rw [if_pos rfl] at q9
        rw [if_pos rfl]
        have hd : wpAny (model Y.prog Y.w) Y.A (eval elt Y.env) _ (mkX Y E0).xe s9 := ye _ s9 σ8 H9 _ I9.toX q9
        rw [yP, yW, yenv] at hd
        refine wpAny_mono hd (fun v s10 h10 => ?_) fun e s' hx => ?err
        case err =>
          obtain ⟨pn, σ1, H1, s1, J, hq⟩ := hx
          rw [yP, yW, yS] at hq
          have hokJ := J.hok
          rw [yP, yW] at hokJ
          have IX : Inv X pins σ H1 s1 := I3.call' (yos J) (yb J) hokJ J.bare fun b hb => by
            have z := (hex b hb).1
            exact ⟨z.2.2.2.1, z.2.1, z.2.2.2.2.1, z.2.2.2.2.2⟩
          obtain ⟨m, hn, _⟩ := J.loc
          have hf := J.free
          rw [yL] at hn hf
          rw [yA]
          refine herr _ _ m _ IX hq hn hf (fun hb => ?_) I3.sz rfl
          obtain ⟨_, o, e1, _⟩ := I3.stack.mem hb
          exact absurd (Heap.lt_size e1) (Nat.lt_irrefl _)
        obtain ⟨y, H10, I10, r10, n10⟩ := h10
        have I10 := I10.ofX
        obtain ⟨m', hm, w10⟩ := hNN _ _ _ n10
        obtain ⟨a1, a2, a3, a4, a5⟩ := after I10
        have hlen := rv5.length
        refine append_at (hsz := by rw [List.size_toArray]; lia) a5 fun h' sb g' => ?_
        have hDx := exY _ (List.mem_cons_self (a := s2.heap.objs.size) (l := fp))
        have I11 : Inv Y [] σ8 H10 { s10 with heap := h' } := a1.turned (t' := s10.toks) (it := s2.heap.objs.size) (fun b o hb e => (sb.2 b hb).trans e) a4 DL (.inl hDx) (IB.ok.exf _ hDx).2 (by rw [ypn]; intro p hp; cases hp)
        refine ⟨m', hm, i + 1, σ8, H10, ys ++ [y], its ++ [v], cap + 1, I11, T.keep _ _ _ a2 fun b hb o e => (sb.2 b (fun z => Dfp (z ▸ hb))).trans e, a3, a4, ?_, rv5.snoc r10, w10⟩
        rw [g', List.push_toArray]
  exact codeAny_compStart_list loop (T.self X.A 0 _ _ _ st4 loop)

theorem pe_compX {E0 : XK} (hX : PassC X E0) (hc : X.calm = true) (hi : PI X tg iter wi) (S : BlkScope X.N X.env.scope N own caps scope)
    (hg : ∀ cs C s₀ H₀ ex, PG (blk X N scope cs C s₀ H₀ ex) tg g) (ht : ∀ cs C s₀ H₀ ex, PTs (blk X N scope cs C s₀ H₀ ex) ifs tt) (he : ∀ cs C s₀ H₀ ex, PE (mkX (blk X N scope cs C s₀ H₀ ex) E0) elt te)
    (hs : ∀ x, foldedSetIterable iter X.env x = pure x := by intro _; rfl) : PE X (.ListComp elt [⟨tg, iter, ifs, 0⟩] scope pos) (tComp wi own caps g tt te) := by
  intro pins s σ H Q I h
  rw [eval_ListComp]
  refine wpAny_comprehension_free (use := none) rfl hs (comp_clos S I) S.kind (fun x hx hl => lookup_of_mem S.ndn (by rw [← hl]; exact hx)) ?_
  refine thn (hi pins s σ H _ I h) fun v s1 h1 => thn h1 fun itv s2 h2 => ?_
  obtain ⟨it, fp, tn, J, H2, e, I2, T, st2, f2, W, ⟨m0, w0⟩, turn⟩ := h2
  subst e
  refine comp_runX hc S hg ht he I2 T st2 f2 w0 turn (fun D C m cenv i1 i2 i3 i4 i5 i6 i7 => hX i1 i2 i3 i4 i5 i6 i7) fun D C s' H' ys I' F' hn q => ?_
  obtain ⟨m, hn⟩ := hn
  refine ⟨m, hn, fun h' sb => ⟨.ref D, _, I'.turned (t' := s'.toks) (fun b o hb e => (sb.2 b hb).trans e) F'.1 F'.2.1 F'.2.2.2.1 F'.2.2.2.2.1 F'.2.2.2.2.2, rfl, q⟩⟩
end
end L2
/-! f"{x!r}b" of a text; raise C(..) of a class without an __init__ of its own, where others may raise too -/
namespace L2
open PySem PySem.Spec PyProof.Rows
set_option maxRecDepth 100000
section
variable {X : Cx} {b : Str} {e : Expr} {te : TE} {jb : Nat} {pb pf pos : Pos}
noncomputable def tRs (b : Str) (te : TE) : TE := fun σ H Q => te σ H fun v H' => ∃ x : Str, v = .str x ∧ (Str.empty ++ reprText x ++ b).length ≤ sizeLine ∧ Q (.str (Str.empty ++ reprText x ++ b)) H'
theorem pe_rs (he : PE X e te) : PE X (.JoinedStr [.FormattedValue e 114 none pf, .Constant (.str b) jb pb] pos) (tRs b te) := by
  intro pins s σ H Q I h
  refine JoinedStr_many (joinParts_cons (wpAny_FormattedValue_repr (thn (he pins s σ H _ I h) fun v s1 ⟨y, H1, I1, r, x, hx, hs, q⟩ => ?_)))
  subst hx
  obtain ⟨u, rfl⟩ : ∃ u, v = .str x u := r
  have h1 : (Str.empty ++ reprText x).length ≤ sizeLine := strLen_left hs
  have h2 : (reprText x).length ≤ sizeLine := by
    rw [strLen_append] at h1
    exact Nat.le_trans (Nat.le_add_left _ _) h1
  refine wpAny_pyReprObj_str (formatField_str (fun t' tk => ⟨h1, joinParts_cons (Calls.Constant_str ⟨hs, joinParts_nil ⟨.str _, H1, ?_, ⟨_, rfl⟩, q⟩ hs⟩)⟩) h2) h2
  exact I1.tok _
end
section
variable {P : Program} {w : World} {K : PySem.W.Frag} {mg : Str → Option Value} {base : Heap} {N : List Str} {qual : Str} {scope : Scope} {f C : Addr} {cd : Value} {A : Around} {outer : List Env} {s : Shared} {H : Hp} {E : XK}
theorem raise2n {pins : List (Addr × Obj)} {σ : St} {H1 : Hp} {s1 : Shared} {h' : Heap} {ea : Addr} {us : List Value} (I : Inv (cxOf (CX2 P w) P w K mg base N qual scope f cd A outer s H E) pins σ H1 s1)
    (hm : Heap.MadeExcOf s1.heap h' ea (.ref C) us) (hE : E (.ref C) none H1) : (cxOf (CX2 P w) P w K mg base N qual scope f cd A outer s H E).xe (.ref ea) { s1 with heap := h' } := by
  obtain ⟨t0, e0, _, _⟩ := hm.there
  have hn : H1 ea = none := by
    cases z : H1 ea with
    | none => rfl
    | some u =>
      obtain ⟨o, w⟩ := (I.hok ea u z).obj
      rw [hm.new] at w
      cases w
  have J := I.un (h' := h') (t' := s1.toks) ((Un.kept hm.keeps).more (u := exX C ea none) hn fun b o w _ z => by rw [z, hm.new] at w; cases w) (upd_new (I.hok.kept hm.keeps) hn (exX_ok e0))
  have bas : Un (frs outer) [] H H1 s.heap s1.heap := I.base
  refine raise3 J upd_same (fun b o q z => ?_) ?_
  · obtain ⟨o1, e1⟩ := bas.there b o q (by simp)
    rw [z, hm.new] at e1
    cases e1
  · have e : rmH ea (upd H1 ea (exX C ea none)) = H1 := by
      funext b
      by_cases hb : b = ea
      · subst hb; rw [hn]; exact if_pos rfl
      · rw [rmH_ne hb, upd_ne hb]
    rw [e]
    exact hE
end
end L2
namespace S21
open PySem L2 Bw
set_option maxHeartbeats 3900000
/-! ### what a piece says -/
noncomputable def valP (x : Str) : Nat := ((List.range 99).find? fun n => numS n == x).getD 0
theorem valP_all : (List.range 99).all (fun n => valP (numS n) == n) = true := by decide +kernel
theorem valP_num {n : Nat} (h : n < 99) : valP (numS n) = n := eq_of_beq (List.all_eq_true.mp valP_all n (List.mem_range.mpr h))
noncomputable def wdOf (p : Int) (x : Str) : Option V := if allW.contains x then some (.str x) else if isNumP p x then some (.int (valP x : Int)) else none
theorem pieces_in : pieces.all (fun x => (keysL.contains x || (PyProof.Rows.KTD.datumAt x dParts).isSome) == allW.contains x) = true := by decide +kernel
noncomputable abbrev msgC : Str := " is no word of a drawing"
theorem pieces_rp : pieces.all (fun x => decide ((Str.empty ++ reprText x ++ msgC).length ≤ 1000)) = true := by decide +kernel
noncomputable abbrev veN : List Value := [.type "ValueError", .type "Exception", .type "BaseException", .type "object"]
theorem wdOf_ok {p : Int} {x : Str} {v : V} (hp : p ≤ 97) (h : wdOf p x = some v) : WdOk p v ∧ wdS v = x := by
  unfold wdOf at h
  split at h
  case isTrue c => cases h; exact ⟨.inl ⟨x, rfl, List.contains_iff_mem.mp c⟩, rfl⟩
  case isFalse c =>
    split at h
    case isFalse => cases h
    case isTrue e =>
      cases h
      obtain ⟨n, h1, rfl⟩ := isNumP_iff.mp e
      rw [valP_num (by lia)]
      exact ⟨.inr ⟨n, rfl, h1⟩, rfl⟩
section
variable {P : Program} {w : World} {K : PySem.W.Frag} {mg : Str → Option Value} {base : Heap}
/-! ### word_of -/
noncomputable def spWoG (CN : Addr) : Sp := fun vs H Q E => ∃ (p : Int) (x : Str), vs = [.int p, .str x] ∧ x ∈ pieces ∧ 2 ≤ p ∧ p ≤ 97 ∧ (∀ v, wdOf p x = some v → ∀ H', Same H H' → Q v H') ∧ (wdOf p x = none → ∀ H', Same H H' → E (.ref CN) none H')
set_option maxRecDepth 100000 in
theorem ok_woG {aS aP f fI CN : Addr} {fd fdI : FuncData} (F : Fun K "word_of" "word_of" s_word_of f fd) (T : Txt mg) (B : SideT K mg aS) (PT : Parts K mg aP)
    (GI : FnOk P w K mg base CX0 1 fI fdI ["p", "piece"] spIsG) (kI : PySem.W.keepIn K (.ref fI) = true) (bI : Binds K fdI ["p", "piece"] []) (mI : mg "is_number" = some (.ref fI))
    (mC : mg "NoDrawing" = some (.ref CN)) (hin : PySem.W.excIn K CN veN "ValueError.__new__" = true) :
    FnOk P w K mg base (CX2 P w) 2 f fd ["p", "piece"] (spWoG CN) := by
  refine F.okX scWo (fun vs H Q E h => ?_) (fun cdv A outer s H vs Q E hr h => ?_)
  · obtain ⟨p, x, rfl, _⟩ := h
    rfl
  · obtain ⟨p, x, rfl, hx, p2, hp, q, qe⟩ := h
    have FB := PySem.F.excBase_ValueError
    have z : (1000 : Nat) ≤ sizeLine := by decide
    refine ⟨_, pss_cons (ps_if (PW.pt (pw_or (pt_cmp (pc_kin B.tab (pv 1) (pe_glob (v := .ref _) rfl B.nm rfl)) rfl) (pw_or1 (pt_cmp (pc_kin PT.tab (pv 1) (pe_glob (v := .ref _) rfl PT.nm rfl)) rfl)))) (pss_one (ps_ret (pv 1))) pss_nil)
      (pss_cons (ps_if (pt_val (pe_call GI hr rfl mI kI bI .nil pass0 (pa_cons (pv 0) (pa_cons (pv 1) pa_nil)))) (pss_one (ps_ret (pe_callTy call_int_text rfl T.int bt_int (pa_cons (pv 1) pa_nil)))) pss_nil)
      (pss_one (ps_raise (E := E) rfl rfl mC hin FB (pa_cons (pe_rs (pv 1)) pa_nil) raise2n))), ?_⟩
    have zi := eq_of_beq (List.all_eq_true.mp pieces_in x hx)
    by_cases hw : allW.contains x = true
    · have q1 := q (.str x) (by unfold wdOf; rw [if_pos hw])
      rw [hw] at zi
      refine ⟨_, rfl, x, rfl, rfl, _, rfl, ?_⟩
      by_cases hk : x ∈ keysL
      · rw [datum_some (by rw [B.keys]; exact hk)]
        exact iteT (iteT ⟨_, rfl, q1 H (.refl _)⟩)
      · rw [B.none hk]
        refine iteF ⟨_, rfl, x, rfl, rfl, _, rfl, ?_⟩
        rw [Bool.or_eq_true] at zi
        rcases zi with z | z
        · exact absurd (List.contains_iff_mem.mp z) hk
        · rw [z]
          exact iteT ⟨_, rfl, q1 H (.refl _)⟩
    · have hw : allW.contains x = false := by simpa using hw
      rw [hw, Bool.or_eq_false_iff] at zi
      obtain ⟨z1, z2⟩ := zi
      have hk : x ∉ keysL := fun m => by rw [List.contains_iff_mem.mpr m] at z1; cases z1
      refine ⟨_, rfl, x, rfl, rfl, _, rfl, ?_⟩
      rw [B.none hk]
      refine iteF ⟨_, rfl, x, rfl, rfl, _, rfl, ?_⟩
      rw [z2]
      refine iteF ⟨_, rfl, _, rfl, p, x, rfl, hx, p2, hp, fun H1 s1 => ⟨_, rfl, ?_⟩⟩
      cases hn : isNumP p x with
      | true =>
        have q1 := q (.int (valP x : Int)) (by unfold wdOf; rw [hw, hn]; rfl)
        obtain ⟨n, h1, rfl⟩ := isNumP_iff.mp hn
        rw [valP_num (by lia)] at q1
        have N := num_is (n := n) (by lia)
        have hl2 : (numS n).length ≤ 2 := by rw [N.len]; split <;> lia
        exact iteT ⟨_, rfl, numS n, (n : Int), rfl, PySem.W.KIN.num_reads (by lia) (by lia), by lia, q1 H1 s1⟩
      | false =>
        have q1 := qe (by unfold wdOf; rw [hw, hn]; rfl)
        have hr1 := of_decide_eq_true (List.all_eq_true.mp pieces_rp x hx)
        refine iteF ⟨_, rfl, x, rfl, by exact Nat.le_trans hr1 z, by show 1 ≤ sizeLine; lia, q1 H1 s1⟩
/-! ### numbers_fit -/
noncomputable def nfZ (ws : List V) : List (V × V) := ([V.str (Str.ofString "")] ++ ws).zip (ws ++ [V.str (Str.ofString "")])
noncomputable def nfB (ws : List V) : Bool := (nfZ ws).all fun q => isI q.2 == decide (q.1 = .str "times")
noncomputable def spNfG (K : PySem.W.Frag) : Sp := fun vs H Q _ => ∃ (p : Int) (aw : Addr) (ws : List V), vs = [.ref aw] ∧ SqT K H aw ws ∧ (∀ v ∈ ws, WdOk p v) ∧ ws.length ≤ 200 ∧ ∀ H', Same H H' → Q (.bl (nfB ws)) H'
set_option maxRecDepth 100000 in
theorem ok_nfG {f : Addr} {fd : FuncData} (F : Fun K "numbers_fit" "numbers_fit" s_numbers_fit f fd) (T : Txt mg) : FnOk P w K mg base CX0 1 f fd ["words"] (spNfG K) := by
  refine F.ok scNf (fun vs H Q E h => ?_) (fun cdv A outer s H vs Q E hr h => ?_)
  · obtain ⟨p, aw, ws, rfl, _⟩ := h
    rfl
  · obtain ⟨p, aw, ws, rfl, hq, hw, hl, q⟩ := h
    have z : (1000 : Nat) ≤ sizeLine := by decide
    refine ⟨_, pss_one (ps_ret (pe_callB (cAll K rfl rfl) rfl T.all bt_all (pa_cons (pe_comp (N := ["ahead", "word"]) (own := 2) (caps := []) rfl
      (piZip K rfl false false rfl T.zip (pa_cons (pe_op (opCatA K rfl) (pe_tup (pa_cons pe_str pa_nil)) (pv 0)) (pa_cons (pe_op (opCatA K rfl) (pv 0) (pe_tup (pa_cons pe_str pa_nil))) pa_nil))) (show BlkScope ["words"] (defScope s_numbers_fit) ["ahead", "word"] 2 [] _ from .mk' (by decide +kernel))
      (fun _ _ _ _ _ => pgTup (n := 2) K rfl rfl (pgs_cons (pg_name (i := 0) naw rfl (Or.inl rfl)) (pgs_cons (pg_name (i := 1) naw rfl (Or.inl rfl)) pgs_nil))) (fun _ _ _ _ _ => pts_nil)
      (fun _ _ _ _ _ => pe_cmpR op_eq (pe_callB (cIs K rfl (T := "int")) rfl T.isinstance bt_isinstance (pa_cons (pv 1) (pa_cons (pe_ty rfl T.int bt_int) pa_nil))) (pe_cmpR op_eq (pv 0) pe_str (nomark _)) (nomark _))) pa_nil))), ?_⟩
    refine ⟨by show 1 ≤ sizeLine; lia, fun t1 h1 => ⟨_, rfl, t1, aw, _, _, rfl, rfl, .of upd_same, (Same.upd h1).seqT hq, by show 1 + _ ≤ sizeLine; lia, fun a H1 s1 ha => ?_⟩⟩
    have s01 := (Same.upd h1 (o := .tup [.str (Str.ofString "")])).trans s1
    refine ⟨_, rfl, by show 1 ≤ sizeLine; lia, fun t2 h2 => ⟨aw, t2, _, _, rfl, rfl, (s01.trans (.upd h2)).seqT hq, .of upd_same, by show _ + 1 ≤ sizeLine; lia, fun b H2 s2 hb => ?_⟩⟩
    have s12 := (Same.upd h2 (o := .tup [.str (Str.ofString "")])).trans s2
    have sA := s01.trans s12
    have ha2 := s12.seqT ha
    have eqL : ([V.str (Str.ofString "")] ++ ws).length = (ws ++ [V.str (Str.ofString "")]).length := by rw [List.length_append, List.length_append]; simp [Nat.add_comm]
    refine ⟨a, b, rfl, ⟨_, ha2⟩, ⟨_, hb⟩, comp_zip (b1 := false) (b2 := false) (cp := []) (fun i H' zs => zs = (((nfZ ws).take i).map fun q => isI q.2 == decide (q.1 = .str "times")).map V.bl) ha2 hb eqL (by rw [List.length_append]; show 1 + _ ≤ sizeLine; lia) rfl (fun i H' zs e => by rw [e, List.length_map, List.length_map]; exact List.length_take_le _ _) (fun i H1 H2 zs _ e => e) ?_ ?_⟩
    · rintro i x y H3 zs hx hy sm rfl
      have ei : (nfZ ws)[i]? = some (x, y) := by unfold nfZ; rw [List.getElem?_zip_eq_some]; exact ⟨hx, hy⟩
      have fin : (((nfZ ws).take i).map fun q => isI q.2 == decide (q.1 = .str "times")).map V.bl ++ [V.bl (isI y == decide (x = .str "times"))] = (((nfZ ws).take (i + 1)).map fun q => isI q.2 == decide (q.1 = .str "times")).map V.bl := by
        rw [List.take_add_one, ei, List.map_append, List.map_append]
        rfl
      have hyk : (∃ x, y = .str x) ∨ ∃ n, y = .int n := by
        rcases (List.mem_append.mp (List.mem_of_getElem? hy)) with h | h
        · exact (hw y h).flat
        · exact .inl ⟨_, List.mem_singleton.mp h⟩
      have hxk : (∃ z, x = .str z) ∨ ∃ n, x = .int n := by
        rcases (List.mem_cons.mp (List.mem_of_getElem? hx)) with h | h
        · exact .inl ⟨_, h⟩
        · exact (hw x h).flat
      have eqx : ∀ {R : VK}, R (.bl (decide (x = .str "times"))) H3 → tOp rEq (tVar 0) (tC (.str (Str.ofString "times"))) [some x, some y] H3 R := fun {R} hR => by
        rcases hxk with ⟨z, rfl⟩ | ⟨n, rfl⟩
        · exact ⟨_, rfl, rfl, hR⟩
        · exact ⟨_, rfl, rfl, hR⟩
      have cmp : ∀ b c : Bool, decide (V.bl b = V.bl c) = (b == c) := fun b c => by cases b <;> cases c <;> rfl
      rcases hyk with ⟨u, rfl⟩ | ⟨n, rfl⟩
      · refine ⟨_, rfl, .str u, .type "str", false, rfl, .str u, kit_str_int K, eqx ⟨rfl, ⟨⟨[_, _], rfl, rfl⟩, sm, ?_⟩⟩⟩
        rw [cmp]
        exact fin
      · refine ⟨_, rfl, .int n, .type "int", true, rfl, .int n, kit_int_int K, eqx ⟨rfl, ⟨⟨[_, _], rfl, rfl⟩, sm, ?_⟩⟩⟩
        rw [cmp]
        exact fin
    · rintro H3 zs sm rfl l hl'
      have en : (nfZ ws).take ([V.str (Str.ofString "")] ++ ws).length = nfZ ws := List.take_of_length_le (by unfold nfZ; rw [List.length_zip]; exact Nat.min_le_left _ _)
      rw [en]
      refine ⟨l, _, rfl, .of upd_same, ?_⟩
      rw [List.all_map]
      exact q _ (sA.trans (sm.trans (.upd hl')))
/-! ### parts_fit -/
noncomputable def pcV : V → Nat
  | .str x => pcI x
  | _ => 0
noncomputable def pfB : Int → List V → Bool
  | due, [] => decide (due = 0)
  | due, v :: ws => if due = 0 then false else pfB (due + ((pcV v : Int) - 1)) ws
theorem pfB_cons (due : Int) (v : V) (ws : List V) : pfB due (v :: ws) = if due = 0 then false else pfB (due + ((pcV v : Int) - 1)) ws := rfl
noncomputable def spPfG (K : PySem.W.Frag) : Sp := fun vs H Q _ => ∃ (p : Int) (aw : Addr) (ws : List V), vs = [.ref aw] ∧ SqT K H aw ws ∧ (∀ v ∈ ws, WdOk p v) ∧ ws.length ≤ 200 ∧ Q (.bl (pfB 1 ws)) H
theorem ok_pfG {aP f : Addr} {fd : FuncData} (F : Fun K "parts_fit" "parts_fit" s_parts_fit f fd) (PT : Parts K mg aP) : FnOk P w K mg base CX0 1 f fd ["words"] (spPfG K) := by
  refine F.ok scPf (fun vs H Q E h => ?_) (fun cdv A outer s H vs Q E hr h => ?_)
  · obtain ⟨p, aw, ws, rfl, _⟩ := h
    rfl
  · obtain ⟨p, aw, ws, rfl, hq, hw, hl, q⟩ := h
    refine ⟨_, pss_cons (ps_set (i := 1) scPf.nd rfl (Or.inl rfl) pe_int)
      (pss_cons (ps_for PassesOwn.never rfl (piTup K rfl (pv 0)) (pg_name (i := 2) scPf.nd rfl (Or.inl rfl))
        (pss_cons (ps_if (pt_cmpR op_eq (pv 1) pe_int (nomark _)) (pss_one (ps_ret pe_bl)) pss_nil)
        (pss_one (ps_aug (i := 1) scPf.nd rfl (Or.inl rfl) (pe_op op_sub (pe_kgetM PT.tab (pe_glob (v := .ref _) rfl PT.nm rfl) (pv 2) pe_int ⟨rfl, rfl, rfl, rfl⟩) pe_int) ip_add))))
      (pss_one (ps_ret (pe_cmpR op_eq (pv 1) pe_int (nomark _))))), ?_⟩
    refine ⟨_, rfl, aw, rfl, ⟨_, hq⟩, for_tup (xs := ws) (fun i σ H' => H' = H ∧ ∃ due s2, σ = [some (.ref aw), some (.int due), s2] ∧ pfB due (ws.drop i) = pfB 1 ws) ⟨rfl, 1, none, rfl, rfl⟩ (fun _ σ H' _ ⟨e, _⟩ => by rw [e]; exact hq) ?_ ?_⟩
    · rintro i x σ H1 hx ⟨rfl, due, s2, rfl, ew⟩
      have hi := (List.getElem?_eq_some_iff.mp hx).1
      rw [List.drop_eq_getElem_cons hi, (List.getElem?_eq_some_iff.mp hx).2] at ew
      rw [pfB_cons] at ew
      refine ⟨_, rfl, rfl, _, rfl, ?_⟩
      by_cases h0 : due = 0
      · rw [if_pos h0] at ew
        rw [decide_eq_true (show V.int due = V.int 0 by rw [h0])]
        refine iteT ?_
        have := q
        rw [← ew] at this
        exact this
      · rw [if_neg h0] at ew
        rw [decide_eq_false (show ¬ V.int due = V.int 0 from fun z => h0 (V.int.inj z))]
        refine iteF ?_
        rcases (hw x (List.mem_of_getElem? hx)).flat with ⟨y, rfl⟩ | ⟨n, rfl⟩
        · refine ⟨_, rfl, rfl, _, rfl, .inl ⟨y, rfl, ?_⟩⟩
          rw [pc_is]
          exact ⟨_, _, rfl, rfl, _, _, rfl, rfl, rfl, _, _, rfl, ew⟩
        · refine ⟨_, rfl, rfl, _, rfl, .inr ⟨n, rfl, ?_⟩⟩
          exact ⟨_, _, rfl, rfl, _, _, rfl, rfl, rfl, _, _, rfl, ew⟩
    · rintro σ H1 ⟨rfl, due, s2, rfl, ew⟩
      rw [List.drop_length] at ew
      have ew : decide (due = 0) = pfB 1 ws := ew
      refine ⟨_, rfl, rfl, ?_⟩
      have e2 : decide (V.int due = V.int 0) = decide (due = 0) := by
        by_cases h : due = 0
        · rw [h]; rfl
        · rw [decide_eq_false h, decide_eq_false fun z => h (V.int.inj z)]
      rw [e2, ew]
      exact q
end
end S21
namespace S21
open PySem L2 Bw
set_option maxHeartbeats 3900000
/-! ### which pieces make up one drawing -/
noncomputable def boxN : List Str := (["id", "swap", "copy", "end", "add", "none", "cup", "empty", "late"] : List String).map Str.ofString
/-- k drawings are due, and ahead of them a number where b says so -/
noncomputable def shp (p : Int) : Nat → Bool → List Str → Bool
  | k, b, [] => decide (k = 0) && !b
  | k, true, x :: ps => isNumP p x && shp p k false ps
  | 0, false, _ :: _ => false
  | k + 1, false, x :: ps => if x = "beside" ∨ x = "then" then shp p (k + 2) false ps else if x = "back" then shp p (k + 1) false ps else if x = "times" then shp p k true ps else boxN.contains x && shp p k false ps
theorem allW_sort : ∀ x ∈ allW, ((x = "beside" ∨ x = "then") ∧ pcI x = 2 ∧ x ≠ "times") ∨ (¬ (x = "beside" ∨ x = "then") ∧ x = "back" ∧ pcI x = 1 ∧ x ≠ "times") ∨ (¬ (x = "beside" ∨ x = "then") ∧ x ≠ "back" ∧ x = "times" ∧ pcI x = 1) ∨ (¬ (x = "beside" ∨ x = "then") ∧ x ≠ "back" ∧ x ≠ "times" ∧ boxN.contains x = true ∧ pcI x = 0) := by decide +kernel
theorem allW_num : ∀ x ∈ allW, digB x = false := by decide +kernel
theorem num_allW : (List.range 99).all (fun n => !allW.contains (numS n) && !boxN.contains (numS n)) = true := by decide +kernel
theorem bx_side : ∀ x ∈ boxN, ∃ l r, (x, l, r) ∈ sideL := by
  intro x hx
  have : ∀ x ∈ boxN, (sideL.any fun e => e.1 == x) = true := by decide +kernel
  obtain ⟨e, he, h2⟩ := List.any_eq_true.mp (this x hx)
  have := eq_of_beq h2
  subst this
  exact ⟨e.2.1, e.2.2, he⟩
theorem numS_not {n : Nat} (h : n < 99) : allW.contains (numS n) = false ∧ boxN.contains (numS n) = false := by
  have := List.all_eq_true.mp num_allW n (List.mem_range.mpr h)
  rw [Bool.and_eq_true] at this
  exact ⟨by simpa using this.1, by simpa using this.2⟩
theorem wds_in : Str.ofString "beside" ∈ allW ∧ Str.ofString "then" ∈ allW ∧ Str.ofString "back" ∈ allW ∧ Str.ofString "times" ∈ allW := by decide +kernel
theorem wdOf_wd {p : Int} {v : V} (hp : p ≤ 97) (h : WdOk p v) : wdOf p (wdS v) = some v := by
  rcases h with ⟨x, rfl, hx⟩ | ⟨n, rfl, hn⟩
  · show wdOf p x = _
    unfold wdOf
    rw [if_pos (List.contains_iff_mem.mpr hx)]
  · show wdOf p (numS n) = _
    unfold wdOf
    rw [(numS_not (by lia)).1, isNumP_iff.mpr ⟨n, hn, rfl⟩, valP_num (by lia)]
    rfl
/-! numbers, one behind the other -/
noncomputable def nfR : V → List V → Bool
  | prev, [] => !decide (prev = .str "times")
  | prev, v :: ws => (isI v == decide (prev = .str "times")) && nfR v ws
theorem nfR_zip : ∀ (ws : List V) (prev : V), ((prev :: ws).zip (ws ++ [V.str (Str.ofString "")])).all (fun q => isI q.2 == decide (q.1 = .str "times")) = nfR prev ws
  | [], prev => by
    show ((isI (V.str (Str.ofString "")) == decide (prev = .str "times")) && true) = _
    rw [Bool.and_true]
    show (false == decide (prev = .str "times")) = !decide (prev = .str "times")
    cases decide (prev = V.str "times") <;> rfl
  | v :: ws, prev => by
    show ((isI v == decide (prev = .str "times")) && ((v :: ws).zip (ws ++ [V.str (Str.ofString "")])).all _) = _
    rw [nfR_zip ws v]
    rfl
theorem nfB_R (ws : List V) : nfB ws = nfR (.str (Str.ofString "")) ws := nfR_zip ws _
theorem tms (x : Str) : decide (V.str x = V.str "times") = decide (x = "times") := by
  by_cases h : x = "times"
  · rw [decide_eq_true h, decide_eq_true (by rw [h])]
  · rw [decide_eq_false h, decide_eq_false fun z => h (V.str.inj z)]
/-- both ways to look at it -/
theorem shp_eq {p : Int} (hp : p ≤ 97) : ∀ {ws : List V} {prev : V} {k : Nat} {b : Bool}, (∀ v ∈ ws, WdOk p v) → b = decide (prev = .str "times") → shp p k b (ws.map wdS) = (nfR prev ws && pfB ((k : Int) + (if b then 1 else 0)) ws)
  | [], prev, k, b, _, hb => by
    show (decide (k = 0) && !b) = (!decide (prev = .str "times") && decide ((k : Int) + (if b = true then 1 else 0) = 0))
    rw [← hb]
    cases b with
    | true => simp
    | false =>
      simp only [Bool.not_false, Bool.and_true, Bool.true_and]
      by_cases h : k = 0
      · rw [h]; rfl
      · rw [decide_eq_false h, decide_eq_false (by show ¬ ((k : Int) + 0 = 0); lia)]
  | v :: ws, prev, k, b, hw, hb => by
    have hv := hw v List.mem_cons_self
    have hws := fun u hu => hw u (List.mem_cons_of_mem _ hu)
    rw [List.map_cons, pfB_cons]
    show _ = (((isI v == decide (prev = .str "times")) && nfR v ws) && _)
    rw [← hb]
    cases b with
    | true =>
      show (isNumP p (wdS v) && shp p k false (ws.map wdS)) = _
      rw [if_neg (by show ¬ ((k : Int) + 1 = 0); lia)]
      rcases hv with ⟨x, rfl, hx⟩ | ⟨n, rfl, hn⟩
      · have : isNumP p x = false := num_not hp fun n hn e => by
          have h1 := List.all_eq_true.mp num_dig n (List.mem_range.mpr hn)
          rw [← e, allW_num x hx] at h1
          cases h1
        show (isNumP p x && _) = ((false == true && _) && _)
        rw [this]
        rfl
      · show (isNumP p (numS n) && _) = ((true == true && nfR (.int n) ws) && pfB ((k : Int) + 1 + (((0 : Nat) : Int) - 1)) ws)
        rw [isNumP_iff.mpr ⟨n, hn, rfl⟩, shp_eq hp (prev := .int (n : Int)) hws (by rw [decide_eq_false fun z => nomatch z]), show (k : Int) + 1 + (((0 : Nat) : Int) - 1) = (k : Int) + (if false = true then 1 else 0) by simp; lia]
        rfl
    | false =>
      show _ = ((isI v == false && nfR v ws) && (if (k : Int) + 0 = 0 then false else pfB ((k : Int) + 0 + ((pcV v : Int) - 1)) ws))
      cases k with
      | zero => simp [shp]
      | succ k =>
        rw [if_neg (by lia)]
        rcases hv with ⟨x, rfl, hx⟩ | ⟨n, rfl, hn⟩
        · show (if x = "beside" ∨ x = "then" then shp p (k + 2) false (ws.map wdS) else if x = "back" then shp p (k + 1) false (ws.map wdS) else if x = "times" then shp p k true (ws.map wdS) else boxN.contains x && shp p k false (ws.map wdS)) = ((false == false && nfR (.str x) ws) && pfB (((k + 1 : Nat) : Int) + 0 + ((pcI x : Int) - 1)) ws)
          rcases allW_sort x hx with ⟨h1, h2, h3⟩ | ⟨h1, h2, h3, h4⟩ | ⟨h1, h2, h3, h4⟩ | ⟨h1, h2, h3, h4, h5⟩
          · rw [if_pos h1, h2, shp_eq hp (prev := .str x) hws (by rw [tms, decide_eq_false h3]), show ((k + 1 : Nat) : Int) + 0 + (((2 : Nat) : Int) - 1) = ((k + 2 : Nat) : Int) + (if false = true then 1 else 0) by simp; lia]
            rfl
          · rw [if_neg h1, if_pos h2, h3, shp_eq hp (prev := .str x) hws (by rw [tms, decide_eq_false h4]), show ((k + 1 : Nat) : Int) + 0 + (((1 : Nat) : Int) - 1) = ((k + 1 : Nat) : Int) + (if false = true then 1 else 0) by simp]
            rfl
          · rw [if_neg h1, if_neg h2, if_pos h3, h4, shp_eq hp (prev := .str x) hws (by rw [tms, decide_eq_true h3]), show ((k + 1 : Nat) : Int) + 0 + (((1 : Nat) : Int) - 1) = ((k : Nat) : Int) + (if true = true then 1 else 0) by simp]
            rfl
          · rw [if_neg h1, if_neg h2, if_neg h3, h4, h5, Bool.true_and, shp_eq hp (prev := .str x) hws (by rw [tms, decide_eq_false h3]), show ((k + 1 : Nat) : Int) + 0 + (((0 : Nat) : Int) - 1) = ((k : Nat) : Int) + (if false = true then 1 else 0) by simp; lia]
            rfl
        · show (if numS n = "beside" ∨ numS n = "then" then shp p (k + 2) false (ws.map wdS) else if numS n = "back" then shp p (k + 1) false (ws.map wdS) else if numS n = "times" then shp p k true (ws.map wdS) else boxN.contains (numS n) && shp p k false (ws.map wdS)) = ((true == false && _) && _)
          obtain ⟨a1, a2⟩ := numS_not (n := n) (by lia)
          obtain ⟨w1, w2, w3, w4⟩ := wds_in
          have no : ∀ y : Str, y ∈ allW → numS n ≠ y := fun y hy z => by rw [← z] at hy; rw [List.contains_iff_mem.mpr hy] at a1; cases a1
          rw [if_neg (by rintro (h | h); exact no _ w1 h; exact no _ w2 h), if_neg (no _ w3), if_neg (no _ w4), a2]
          rfl
/-- what is shaped is a drawing -/
theorem shp_dw {p : Int} : ∀ {ps : List Str}, (∀ k, shp p k false ps = true → ∃ ds : List Dw, ds.length = k ∧ (∀ d ∈ ds, d.ok p) ∧ ps = (ds.flatMap Dw.words).map wdS) ∧
    (∀ k, shp p k true ps = true → ∃ (n : Nat) (ds : List Dw), (n : Int) < p ∧ ds.length = k ∧ (∀ d ∈ ds, d.ok p) ∧ ps = numS n :: (ds.flatMap Dw.words).map wdS)
  | [] => by
    refine ⟨fun k h => ?_, fun k h => ?_⟩
    · have h : (decide (k = 0) && !false) = true := h
      have h : k = 0 := by simpa using h
      subst h
      exact ⟨[], rfl, fun d hd => (nomatch hd), rfl⟩
    · have h : (decide (k = 0) && !true) = true := h
      simp at h
  | x :: ps => by
    obtain ⟨i1, i2⟩ := shp_dw (p := p) (ps := ps)
    refine ⟨fun k h => ?_, fun k h => ?_⟩
    · cases k with
      | zero => exact nomatch (show false = true from h)
      | succ k =>
        have h : (if x = "beside" ∨ x = "then" then shp p (k + 2) false ps else if x = "back" then shp p (k + 1) false ps else if x = "times" then shp p k true ps else boxN.contains x && shp p k false ps) = true := h
        by_cases h1 : x = "beside" ∨ x = "then"
        · rw [if_pos h1] at h
          obtain ⟨ds, e1, e2, rfl⟩ := i1 _ h
          match ds, e1, e2 with
          | a :: b :: ds, e1, e2 =>
            have oa := e2 a List.mem_cons_self
            have ob := e2 b (List.mem_cons_of_mem _ List.mem_cons_self)
            have od := fun d hd => e2 d (List.mem_cons_of_mem _ (List.mem_cons_of_mem _ hd))
            rcases h1 with rfl | rfl
            · refine ⟨.beside a b :: ds, by simpa using e1, fun d hd => ?_, ?_⟩
              · rcases (List.mem_cons.mp hd) with rfl | hd
                · exact ⟨oa, ob⟩
                · exact od d hd
              · simp [Dw.words, List.flatMap_cons, wdS]
            · refine ⟨.thn a b :: ds, by simpa using e1, fun d hd => ?_, ?_⟩
              · rcases (List.mem_cons.mp hd) with rfl | hd
                · exact ⟨oa, ob⟩
                · exact od d hd
              · simp [Dw.words, List.flatMap_cons, wdS]
        rw [if_neg h1] at h
        by_cases h2 : x = "back"
        · rw [if_pos h2] at h
          obtain ⟨ds, e1, e2, rfl⟩ := i1 _ h
          match ds, e1, e2 with
          | a :: ds, e1, e2 =>
            subst h2
            refine ⟨.back a :: ds, by simpa using e1, fun d hd => ?_, ?_⟩
            · rcases (List.mem_cons.mp hd) with rfl | hd
              · exact e2 a List.mem_cons_self
              · exact e2 d (List.mem_cons_of_mem _ hd)
            · simp [Dw.words, List.flatMap_cons, wdS]
        rw [if_neg h2] at h
        by_cases h3 : x = "times"
        · rw [if_pos h3] at h
          obtain ⟨n, ds, hn, e1, e2, rfl⟩ := i2 _ h
          subst h3
          refine ⟨.times (n : Int) :: ds, by simpa using e1, fun d hd => ?_, ?_⟩
          · rcases (List.mem_cons.mp hd) with rfl | hd
            · exact ⟨Int.natCast_nonneg _, hn⟩
            · exact e2 d hd
          · simp [Dw.words, List.flatMap_cons, wdS, numS]
        rw [if_neg h3, Bool.and_eq_true] at h
        obtain ⟨hb, h⟩ := h
        obtain ⟨ds, e1, e2, rfl⟩ := i1 _ h
        obtain ⟨l, r, hs⟩ := bx_side x (List.contains_iff_mem.mp hb)
        refine ⟨.box x l r :: ds, by simpa using e1, fun d hd => ?_, ?_⟩
        · rcases (List.mem_cons.mp hd) with rfl | hd
          · exact hs
          · exact e2 d hd
        · simp [Dw.words, List.flatMap_cons, wdS]
    · have h : (isNumP p x && shp p k false ps) = true := h
      rw [Bool.and_eq_true] at h
      obtain ⟨n, hn, rfl⟩ := isNumP_iff.mp h.1
      obtain ⟨ds, e1, e2, rfl⟩ := i1 _ h.2
      exact ⟨n, ds, hn, e1, e2, rfl⟩
theorem shp_one {p : Int} {ps : List Str} (h : shp p 1 false ps = true) : ∃ d : Dw, d.ok p ∧ ps = d.words.map wdS := by
  obtain ⟨ds, e1, e2, rfl⟩ := shp_dw.1 _ h
  match ds, e1, e2 with
  | [d], _, e2 => exact ⟨d, e2 d List.mem_cons_self, by simp⟩
end S21
namespace S21
open PySem L2 Bw
set_option maxHeartbeats 3900000
section
variable {P : Program} {w : World} {K : PySem.W.Frag} {mg : Str → Option Value} {base : Heap}
/-! ### read, of a text that tells a drawing -/
noncomputable abbrev nRe : List Str := ["p", "text", "words", "unmet"]
theorem scRe : FnScope ["p", "text", "words", "unmet"] ["p", "text"] (defScope s_read) := ⟨rfl, rfl, rfl, by decide +kernel, rfl, by decide +kernel, by decide +kernel⟩
end
end S21
namespace S21
open PySem L2 Bw
set_option maxHeartbeats 3900000
noncomputable def clsBody : Stmt → List Stmt
  | .ClassDef _ _ _ b _ _ _ _ _ _ _ => b
  | _ => []
/-! ### BadWires.__init__ -/
noncomputable abbrev s_bini : Stmt := (clsBody (top 3)).getD 0 (.Pass ⟨0, 0, 0, 0⟩)
noncomputable abbrev msgA : Str := "the drawings of the word then at place "
noncomputable abbrev msgB : Str := " do not meet"
noncomputable def smallN (n : Int) : Prop := n.natAbs.log2 < 1920 ∧ (Str.empty ++ msgA ++ (toString n : Str) ++ msgB).length ≤ sizeLine
theorem small_of : ∀ {n : Nat}, n < 200 → smallN (n : Int) := by
  intro n h
  have : ∀ m : Fin 200, ((m.1 : Int).natAbs.log2 < 1920 ∧ (Str.empty ++ msgA ++ (toString (m.1 : Int) : Str) ++ msgB).length ≤ 1000) := by decide +kernel
  have z : (1000 : Nat) ≤ sizeLine := by decide
  exact ⟨(this ⟨n, h⟩).1, Nat.le_trans (this ⟨n, h⟩).2 z⟩
section
variable {P : Program} {w : World} {K : PySem.W.Frag} {mg : Str → Option Value} {base : Heap}
noncomputable def spBini (C : Addr) : Sp := fun vs H Q _ => ∃ (a : Addr) (n : Int), vs = [.ref a, .int n] ∧ H a = some (exX C a none) ∧ smallN n ∧ ∀ dx, H dx = none → Q .non (upd (upd H a (exX C a (some dx))) dx (.xd [("place", .int n)]))
theorem scBi : FnScope ["self", "place"] ["self", "place"] (defScope s_bini) := ⟨rfl, rfl, rfl, by decide +kernel, rfl, by decide +kernel, by decide +kernel⟩
set_option maxRecDepth 100000 in
theorem ok_bini {f C W : Addr} {fd : FuncData} (F : Fun K "__init__" "BadWires.__init__" s_bini f fd) (mW : mg "WireError" = some (.ref W)) (B : BadK K C W "place") : FnOk P w K mg base CX0 1 f fd ["self", "place"] (spBini C) := by
  refine F.ok scBi (fun vs H Q E h => ?_) (fun cdv A outer s H vs Q E hr h => ?_)
  · obtain ⟨a, n, rfl, _⟩ := h
    rfl
  · obtain ⟨a, n, rfl, ha, hn, q⟩ := h
    refine ⟨_, pss_cons (ps_expr (pe_ini rfl mW B.ini (pa_cons (pv 0) (pa_cons (pe_fs (pv 1) (by decide)) pa_nil)))) (pss_one (ps_put (pv 0) (pv 1))), ?_⟩
    exact ⟨_, rfl, _, rfl, n, rfl, hn.1, hn.2, a, _, C, none, _, rfl, ha, B, _, rfl, _, rfl, a, C, W, rfl, ha, B, q⟩
/-! ### read, of a text that tells a drawing or one whose parts do not meet -/
theorem orN_some {x y : Option Nat} {n : Nat} (h : orN x y = some n) : x = some n ∨ y = some n := by
  cases x with
  | none => exact .inr h
  | some m => exact .inl h
theorem unm_lt : ∀ {d : Dw} {i n : Nat}, d.unm i = some n → n < i + d.words.length
  | .box .., _, _, h => nomatch h
  | .times _, _, _, h => nomatch h
  | .back d, i, n, h => by
    have := unm_lt (d := d) (i := i + 1) h
    show n < i + (d.words.length + 1)
    lia
  | .beside a b, i, n, h => by
    show n < i + ((a.words ++ b.words).length + 1)
    rw [List.length_append]
    rcases orN_some h with h | h
    · have := unm_lt (d := a) h; lia
    · have := unm_lt (d := b) h; lia
  | .thn a b, i, n, h => by
    show n < i + ((a.words ++ b.words).length + 1)
    rw [List.length_append]
    unfold Dw.unm at h
    split at h
    · rename_i j e
      cases h
      rcases orN_some e with h | h
      · have := unm_lt (d := a) h; lia
      · have := unm_lt (d := b) h; lia
    · split at h
      · cases h
      · cases h; lia
end
end S21
namespace S21
open PySem L2 Bw
set_option maxHeartbeats 3900000
theorem map_wdS {p : Int} (hp : p ≤ 97) {zs ws : List V} (h1 : ∀ v ∈ zs, WdOk p v) (h2 : ∀ v ∈ ws, WdOk p v) (e : zs.map wdS = ws.map wdS) : zs = ws := by
  have k : ∀ {us : List V}, (∀ v ∈ us, WdOk p v) → (us.map wdS).map (wdOf p) = us.map some := fun {us} h => by
    rw [List.map_map]
    exact List.map_congr_left fun v hv => wdOf_wd hp (h v hv)
  have := congrArg (List.map (wdOf p)) e
  rw [k h1, k h2] at this
  exact (List.map_inj_right (fun _ _ z => Option.some.inj z)).mp this
section
variable {P : Program} {w : World} {K : PySem.W.Frag} {mg : Str → Option Value} {base : Heap}
/-! ### read, of any text of pieces -/
noncomputable def spRdG (K : PySem.W.Frag) (CN CB : Addr) : Sp := fun vs H Q E => ∃ (p : Int) (x : Str) (ps : List Str), vs = [.int p, .str x] ∧ Txt.split x (Str.ofString " ") = ps ∧ (∀ y ∈ ps, y ∈ pieces) ∧ ps.length ≤ 200 ∧ x.length + 2 ≤ sizeLine ∧ 2 ≤ p ∧ p ≤ 97 ∧
  (shp p 1 false ps = false → ∀ H', Same H H' → E (.ref CN) none H') ∧ (shp p 1 false ps = true → ∃ d : Dw, d.ok p ∧ ps = d.words.map wdS ∧ (d.unm 0 = none → ∀ v H', Same H H' → SqT K H' v d.words → Q (.ref v) H') ∧ ∀ n, d.unm 0 = some n → ∀ dx H', Same H H' → H dx = none → H' dx = some (.xd [("place", .int n)]) → E (.ref CB) (some dx) H')
set_option maxRecDepth 100000 in
theorem ok_rdG {f fW fN fF fM fI CN CB : Addr} {fd fdW fdN fdF fdM fdI : FuncData} (F : Fun K "read" "read" s_read f fd) (T : Txt mg)
    (GW : FnOk P w K mg base (CX2 P w) 2 fW fdW ["p", "piece"] (spWoG CN)) (kW : PySem.W.keepIn K (.ref fW) = true) (bW : Binds K fdW ["p", "piece"] []) (mW : mg "word_of" = some (.ref fW))
    (GN : FnOk P w K mg base CX0 1 fN fdN ["words"] (spNfG K)) (kN : PySem.W.keepIn K (.ref fN) = true) (bN : Binds K fdN ["words"] []) (mN : mg "numbers_fit" = some (.ref fN))
    (GF : FnOk P w K mg base CX0 1 fF fdF ["words"] (spPfG K)) (kF : PySem.W.keepIn K (.ref fF) = true) (bF : Binds K fdF ["words"] []) (mF : mg "parts_fit" = some (.ref fF))
    (GM : FnOk P w K mg base CX0 5 fM fdM ["words"] (spMeasd3 K)) (kM : PySem.W.keepIn K (.ref fM) = true) (bM : Binds K fdM ["words"] []) (mM : mg "measured" = some (.ref fM))
    (mD : mg "NoDrawing" = some (.ref CN)) (hinD : PySem.W.excIn K CN veN "ValueError.__new__" = true)
    (mC : mg "BadWires" = some (.ref CB)) (hin : initIn K CB fI = true) (hft : PySem.W.typeIn K (.ref fI) = some (.type "function")) (GI : FnOk P w K mg base CX0 1 fI fdI ["self", "place"] (spBini CB)) (bI : Binds K fdI ["self", "place"] []) :
    FnOk P w K mg base (CX2 P w) 6 f fd ["p", "text"] (spRdG K CN CB) := by
  refine F.okX scRe (fun vs H Q E h => ?_) (fun cdv A outer s H vs Q E hr h => ?_)
  · obtain ⟨p, x, ps, rfl, _⟩ := h
    rfl
  · obtain ⟨p, x, ps, rfl, es, hps, hl, hx, p2, hp, qn, qd⟩ := h
    have r1 : Room 1 _ := hr.mono (by lia)
    have r2 : Room 2 _ := hr.mono (by lia)
    have FB := PySem.F.excBase_ValueError
    have z : (1000 : Nat) ≤ sizeLine := by decide
    refine ⟨_, pss_cons (ps_set (i := 2) scRe.nd rfl (Or.inl rfl) (pe_callTy (cTuple K rfl) rfl T.tuple bt_tuple (pa_cons (pe_compX (E0 := E) passC (N := ["piece", "p"]) (own := 1) (caps := [0]) rfl (piList K rfl (pe_bm PySem.F.plainAttrs_str PySem.F.slot_str_split PySem.F.type_str_split mt_split (pv 1) (pa_cons pe_str pa_nil)))
          (show BlkScope nRe (defScope s_read) ["piece", "p"] 1 [0] _ from .mk' (by decide +kernel)) (fun _ _ _ _ _ => pg_name (i := 0) npp rfl (Or.inl rfl)) (fun _ _ _ _ _ => pts_nil) (fun _ _ _ _ _ => pe_call GW r2 rfl mW kW bW .nil passX (pa_cons (pv 1) (pa_cons (pv 0) pa_nil)))) pa_nil)))
      (pss_cons (ps_if (PW.pt (pw_or (pt_not (pt_val (pe_call GN r1 rfl mN kN bN .nil pass0 (pa_cons (pv 2) pa_nil)))) (pw_or1 (pt_not (pt_val (pe_call GF r1 rfl mF kF bF .nil pass0 (pa_cons (pv 2) pa_nil))))))) (pss_one (ps_raise (E := E) rfl rfl mD hinD FB (pa_cons pe_str pa_nil) raise2n)) pss_nil)
      (pss_cons (ps_set (i := 3) scRe.nd rfl (Or.inl rfl) (pe_ix (ixT K rfl) (pe_call GM hr rfl mM kM bM .nil pass0 (pa_cons (pv 2) pa_nil)) pe_int (fun _ _ => rfl)))
      (pss_cons (ps_if (pt_cmpR op_notN (pv 3) pe_non (nomark _)) (pss_one (ps_raiseI (E := E) rfl rfl mC hin hft GI r2 bI (pa_cons (pv 3) pa_nil) raise2)) pss_nil)
      (pss_one (ps_ret (pv 2)))))), ?_⟩
    refine ⟨_, rfl, rfl, _, _, rfl, rfl, by decide, hx, by rw [es]; lia, fun ls hls => ?_⟩
    rw [es]
    have bad : ∀ y ∈ ps, wdOf p y = none → shp p 1 false ps = false := fun y hy hn => by
      cases e : shp p 1 false ps with
      | false => rfl
      | true =>
        obtain ⟨d, hd, rfl⟩ := shp_one e
        obtain ⟨v, hv, rfl⟩ := List.mem_map.mp hy
        rw [wdOf_wd hp (Dw.wds hd v hv)] at hn
        cases hn
    have el : (ps.map V.str).length = ps.length := List.length_map _
    refine ⟨ls, rfl, ⟨_, .of upd_same⟩, comp_list (xs := ps.map V.str) (cp := [some (.int p)]) (fun i H' zs => zs.map wdS = ps.take i ∧ ∀ v ∈ zs, WdOk p v) (.of upd_same) (by lia) ⟨rfl, fun v hv => (nomatch hv)⟩ (fun i H' zs ⟨e, _⟩ => by have := congrArg List.length e; rw [List.length_map] at this; rw [this]; exact List.length_take_le _ _) ?_ ?_⟩
    · rintro i x' H1 zs hx' sm ⟨e1, e2⟩
      rw [List.getElem?_map] at hx'
      cases hi : ps[i]? with
      | none => rw [hi] at hx'; cases hx'
      | some y =>
        rw [hi] at hx'
        cases hx'
        have hy := List.mem_of_getElem? hi
        refine ⟨_, rfl, _, rfl, p, y, rfl, hps y hy, p2, hp, fun v hv H2 s2 => ⟨⟨[_], rfl, rfl⟩, sm.trans s2, ?_, fun u hu => ?_⟩, fun hn H2 s2 => qn (bad y hy hn) _ ((Same.upd hls).trans (sm.trans s2))⟩
        · rw [List.map_append, e1, List.take_add_one, hi]
          show _ ++ [wdS v] = _
          rw [(wdOf_ok hp hv).2]
          rfl
        · rcases (List.mem_append.mp hu) with h | h
          · exact e2 u h
          · rw [List.mem_singleton.mp h]
            exact (wdOf_ok hp hv).1
    · rintro H1 zs sm ⟨e1, e2⟩ l hl'
      rw [el, List.take_length] at e1
      have hzl : zs.length = ps.length := by have := congrArg List.length e1; rwa [List.length_map] at this
      refine ⟨l, _, rfl, .inl ⟨.of upd_same, fun t ht => ?_⟩⟩
      have sA : Same H (upd (upd H1 l (.lst zs)) t (.tup zs)) := (Same.upd hls).trans (sm.trans ((Same.upd hl').trans (.upd ht)))
      have gt : SqT K (upd (upd H1 l (.lst zs)) t (.tup zs)) t zs := .of upd_same
      generalize upd (upd H1 l (.lst zs)) t (.tup zs) = H2 at sA gt ⊢
      have key := shp_eq hp (ws := zs) (prev := .str (Str.ofString "")) (k := 1) (b := false) e2 (by rw [tms]; decide)
      rw [e1, ← nfB_R] at key
      have key : shp p 1 false ps = (nfB zs && pfB 1 zs) := key
      refine ⟨_, rfl, p, t, zs, rfl, gt, e2, by lia, fun H3 s3 => ⟨_, rfl, ?_⟩⟩
      cases hnf : nfB zs with
      | false =>
        rw [hnf] at key
        exact iteT (iteT ⟨by show 1 ≤ sizeLine; lia, qn key _ (sA.trans s3)⟩)
      | true =>
        refine iteF ⟨_, rfl, p, t, zs, rfl, s3.seqT gt, e2, by lia, _, rfl, ?_⟩
        cases hpf : pfB 1 zs with
        | false =>
          rw [hnf, hpf] at key
          exact iteT ⟨by show 1 ≤ sizeLine; lia, qn key _ (sA.trans s3)⟩
        | true =>
          rw [hnf, hpf] at key
          obtain ⟨d, hd, ed, q, qe⟩ := qd key
          have ez : zs = d.words := map_wdS hp e2 (Dw.wds hd) (e1.trans ed)
          subst ez
          have hl : d.words.length ≤ 200 := by lia
          refine iteF ?_
          refine ⟨_, rfl, p, t, d, rfl, hd, hl, s3.seqT gt, fun v H4 s4 hv => ⟨v, _, 2, _, rfl, rfl, hv, atI_nat (j := 2) rfl, ?_⟩⟩
          cases hu : d.unm 0 with
          | none =>
            refine ⟨_, rfl, rfl, _, rfl, ?_⟩
            rw [decide_eq_true (show uV none = V.non from rfl)]
            refine iteF ⟨_, rfl, ?_⟩
            exact q hu t H4 (sA.trans (s3.trans s4)) ((s3.trans s4).seqT gt)
          | some n =>
            refine ⟨_, rfl, rfl, _, rfl, ?_⟩
            rw [decide_eq_false (show ¬ uV (some n) = V.non from fun z => nomatch z)]
            refine iteT ⟨_, rfl, by show 1 ≤ sizeLine; lia, fun ea hea => ?_⟩
            have sB := sA.trans (s3.trans s4)
            refine ⟨ea, n, rfl, upd_same, small_of (by have := unm_lt hu; lia), fun dx hdx => ?_⟩
            have ne : dx ≠ ea := fun z => by rw [z, upd_same] at hdx; cases hdx
            have d4 : H4 dx = none := by rw [upd_ne ne] at hdx; exact hdx
            refine ⟨rfl, some dx, (upd_ne ne.symm).trans upd_same, qe n hu dx _ (sB.trans fun b o e => ?_) ?_ ((rmH_ne ne).trans upd_same)⟩
            · have n1 : b ≠ ea := fun z => by rw [z, hea] at e; cases e
              have n2 : b ≠ dx := fun z => by rw [z, d4] at e; cases e
              rw [rmH_ne n1, upd_ne n2, upd_ne n1, upd_ne n1]
              exact e
            · cases e : H dx with
              | none => rfl
              | some o =>
                have := sB dx o e
                rw [d4] at this
                cases this
end
end S21
namespace S21
open PySem L2 Bw
set_option maxHeartbeats 3900000
/-! ### words as data -/
section
variable {K : PySem.W.Frag}
noncomputable def rStr : List V → Hp → VK → Prop := fun xs H Q => (∃ x, xs = [.str x] ∧ Q (.str x) H) ∨ (∃ i : Int, xs = [.int i] ∧ i.natAbs.log2 < 1920 ∧ Q (.str (toString i)) H)
end
theorem call_str3 {X : Cx} : CallR X (.type "str") rStr := call_str2
theorem cutI (ns : List Int) (lo hi : Option Int) : ∃ ms : List Int, cutV (ns.map V.int) lo hi = ms.map V.int ∧ ms.length ≤ ns.length := by
  refine ⟨(ns.drop (HT.sIx ns.length 0 lo)).take (HT.sIx ns.length ns.length hi - HT.sIx ns.length 0 lo), ?_, ?_⟩
  · unfold cutV
    rw [List.length_map, List.map_take, List.map_drop]
  · rw [List.length_take, List.length_drop]
    lia
end S21
/-! for x in reversed(a list); max of three numbers; isinstance of None by a tuple of classes -/
namespace L2
open PySem PySem.Spec PyProof.Rows
set_option maxRecDepth 100000
noncomputable def Itv (K : PySem.W.Frag) (a : Addr) (n : Nat) : It :=
  ⟨fun i H => i < n ∧ ∃ xs, SqL K H a xs ∧ xs.length = n, fun i H x H' => H' = H ∧ ∀ xs, SqL K H a xs → xs.length = n → xs[n - 1 - i]? = some x, fun i _ => i = n⟩
theorem turn_rev {P : Program} {w : World} {K : PySem.W.Frag} {tg : Expr} (a it : Addr) (n : Nat) : Turn P w K tg (Itv K a n) [it] it (fun i h => i ≤ n ∧ h.IsRevIter it a ((n : Int) - 1 - (i : Int))) where
  mem := by simp
  obj := fun i h st b hb => by
    have e : b = it := by simpa using hb
    subst e
    obtain ⟨_, o, e, c, d⟩ := st
    exact ⟨o, e, fun v z => by rw [d] at z; cases z⟩
  keep := fun i h h' st k => ⟨st.1, st.2.at fun o e => k it (by simp) o e⟩
  item := by
    intro X hP hw hK hc i pins s σ H E I hf st hg
    subst hP hw hK
    obtain ⟨hi, xs, hq, hn⟩ := hg
    obtain ⟨its, rv, p, hz⟩ := I.list hq
    have hl := rv.length
    have hx : xs[n - 1 - i]? = some (xs[n - 1 - i]'(by lia)) := List.getElem?_eq_getElem (by lia)
    obtain ⟨u, hu, ru⟩ := rv.get hx
    obtain ⟨f0, f1, f2, f3, f4, f5⟩ := hf it (by simp)
    have hit := st.2
    rw [show (n : Int) - 1 - (i : Int) = ((n - 1 - i : Nat) : Int) by lia] at hit
    refine wpAny_pyNext_rev_item hit p.isList (x := u) (by simpa using hu) fun h' st' sb => ?_
    have I1 : Inv X pins σ H { s with heap := h' } := I.turned (t' := s.toks) (fun b o hb e => (sb.2 b hb).trans e) f0 f1 f3 f4 f5
    rw [show ((n - 1 - i : Nat) : Int) - 1 = (n : Int) - 1 - ((i + 1 : Nat) : Int) by lia] at st'
    obtain ⟨o, e, c, d⟩ := id st'
    exact ⟨u, rfl, go_of (s := { s with heap := h' }) e c d (by decide) ⟨_, H, I1, ru, ⟨rfl, fun ys hy _ => by rw [I.list_inj hy hq]; exact hx⟩, ⟨hi, st'⟩, fun b hb => (hf b hb).1⟩⟩
  done := by
    intro X hP hw hK hc i pins s σ H E I hf st hg
    subst hP hw hK
    have hg : i = n := hg
    subst hg
    obtain ⟨f0, f1, f2, f3, f4, f5⟩ := hf it (by simp)
    have hit := st.2
    rw [show (i : Int) - 1 - (i : Int) = -1 by lia] at hit
    exact wpAny_pyNext_rev_end (I.ok.hd hc) hit fun h' eb => ⟨rfl, I.turned (t' := s.toks) (fun b o hb e => eb b o hb e) f0 f1 f3 f4 f5⟩
  self := fun _ _ _ _ _ st h => wpAny_pyIter_revIter st.2 h
noncomputable def iRev (K : PySem.W.Frag) (t : TA) : TI := fun σ H R => t σ H fun vs H1 => ∃ l xs, vs = [.ref l] ∧ SqL K H1 l xs ∧ R (Itv K l xs.length) H1
theorem bt_reversed : bootBuiltins "reversed" = some (.type "reversed") := by decide +kernel
section
variable {X : Cx} {tg : Expr}
theorem pi_rev (K : PySem.W.Frag) (hK : X.K = K) {a : Expr} {ta : TA} {p pos : Pos} (hg : Gl X "reversed") (hm : X.mg "reversed" = none) (ha : PA X [a] ta) (hs : starEach [a] X.env = [(false, eval a X.env)] := by rfl) :
    PI X tg (.Call (.Name "reversed" p) [a] [] pos) (iRev K ta) := by
  subst hK
  intro pins s σ H R I h
  refine wpAny_Call_Name_kw (ld_blt I hg hm bt_reversed ?_ (by decide) (by decide))
  refine PyProof.Rows.callWith_type1 (thn (ha pos pins s σ H _ I h) fun us s1 ⟨vs, H1, I1, r1, l, xs, ev, hq, q1⟩ => ?_) hs rfl
  subst ev
  obtain ⟨u, rfl, ru⟩ := vals1 r1
  obtain rfl : u = Value.ref l := ru
  obtain ⟨its, rv, p, hz⟩ := I1.list hq
  refine call_reversed_list p.isList ?_
  have e : ((its.toArray.size : Nat) : Int) - 1 = (xs.length : Int) - 1 - ((0 : Nat) : Int) := by rw [List.size_toArray, ← rv.length]; simp
  rw [e]
  have st : ({ s1 with heap := s1.heap.push (revObj l ((xs.length : Int) - 1 - ((0 : Nat) : Int))) } : Shared).heap.IsRevIter s1.heap.objs.size l ((xs.length : Int) - 1 - ((0 : Nat) : Int)) := ⟨_, Heap.get?_push_size _ rfl, rfl, rfl⟩
  refine wpAny_pyIter_revIter st ?_
  refine ⟨s1.heap.objs.size, [s1.heap.objs.size], _, _, H1, rfl, I1.kept (t' := s1.toks) fun b o e => Heap.get?_push_of_some _ e, turn_rev l _ xs.length, ⟨Nat.zero_le _, st⟩, fun b hb => ?_, q1⟩
  have e : b = s1.heap.objs.size := by simpa using hb
  subst e
  exact I1.fpOk (Nat.le_refl _) (I1.hok.fresh (Nat.le_refl _))
theorem call_max3 (hc : X.calm = true) : CallR X (.builtin "max") (fun xs H Q => ∃ i j k, xs = [.int i, .int j, .int k] ∧ ∀ m : Int, Q (.int m) H) := by
  intro pins s σ H xs us Q I r h
  obtain ⟨i, j, k, rfl, q⟩ := h
  cases r with
  | cons r1 r => cases r with
    | cons r2 r => cases r with
      | cons r3 r => cases r with
        | nil =>
          obtain ⟨t1, rfl⟩ := r1
          obtain ⟨t2, rfl⟩ := r2
          obtain ⟨t3, rfl⟩ := r3
          refine max_three_ints (I.ok.hd hc) fun h' tk kk => ?_
          split <;> split <;> first | exact ⟨.int k, H, I.kept kk, ⟨_, rfl⟩, q _⟩ | exact ⟨.int j, H, I.kept kk, ⟨_, rfl⟩, q _⟩ | exact ⟨.int i, H, I.kept kk, ⟨_, rfl⟩, q _⟩
end
section
variable {K : PySem.W.Frag} {a : Addr} {xs : List V} {g : TG} {tb : TS} {D : Ends} {σ : St} {H : Hp}
theorem for_rev (Pv : Nat → St → Hp → Prop) (h0 : Pv 0 σ H) (hq : ∀ k σ H, Pv k σ H → SqL K H a xs)
    (hs : ∀ k x σ H, xs.reverse[k]? = some x → Pv k σ H → g x σ H fun σ2 H2 => tb { D with nx := Pv (k + 1), ct := Pv (k + 1), bk := D.nx } σ2 H2) (hd : ∀ σ H, Pv xs.length σ H → D.nx σ H) :
    ∃ W : Nat → Nat → St → Hp → Prop, (∃ m, W 0 m σ H) ∧ ∀ k m σ H, W k m σ H →
      ((Itv K a xs.length).stop k H ∧ D.nx σ H) ∨ ((Itv K a xs.length).go k H ∧ ∃ N : St → Hp → Prop, (∀ σ' H', N σ' H' → ∃ m', m' < m ∧ W (k + 1) m' σ' H') ∧ ∀ x H', (Itv K a xs.length).yld k H x H' → g x σ H' fun σ2 H2 => tb { D with nx := N, ct := N, bk := D.nx } σ2 H2) := by
  refine ⟨fun k m σ H => m = xs.length - k ∧ k ≤ xs.length ∧ Pv k σ H, ⟨xs.length, by simp, Nat.zero_le _, h0⟩, ?_⟩
  rintro k m σ H ⟨rfl, hk, p⟩
  have q := hq k σ H p
  by_cases hlt : k < xs.length
  · refine .inr ⟨⟨hlt, xs, q, rfl⟩, Pv (k + 1), fun σ' H' p' => ⟨xs.length - (k + 1), by lia, rfl, hlt, p'⟩, fun v H' yl => ?_⟩
    obtain ⟨rfl, hx⟩ := yl
    exact hs k v σ H' (by rw [List.getElem?_reverse hlt]; exact hx xs q rfl) p
  · have e : k = xs.length := by lia
    subst e
    exact .inl ⟨rfl, hd σ H p⟩
end
end L2
namespace S21
open PySem L2 Bw
set_option maxHeartbeats 3900000
theorem nnum : (["number"] : List Str).Nodup := by decide +kernel
theorem iteB {b : Bool} {A B : Prop} (h : b = true) (q : A) : if b = true then A else B := by rw [if_pos h]; exact q
theorem iteN {b : Bool} {A B : Prop} (h : b = false) (q : B) : if b = true then A else B := by rw [if_neg (by rw [h]; decide)]; exact q
theorem seqP {te : TE} {i : Nat} {u : TS} {D : Ends} {σ : St} {H : Hp} (h : te σ H fun x H1 => u D (σ.set i (some x)) H1) : tSeq (tAsg te (gName i)) u D σ H := h
theorem seqQ {t u : TS} {D : Ends} {σ : St} {H : Hp} (h : t { D with nx := u D } σ H) : tSeq t u D σ H := h
theorem in_nums {p : Int} {x : Str} : inV (.str x) (((List.range p.toNat).map numS).map V.str) = isNumP p x := by
  rw [Bool.eq_iff_iff]
  unfold inV isNumP
  rw [List.any_eq_true, List.any_eq_true]
  constructor
  · rintro ⟨v, h1, h2⟩
    obtain ⟨a, h3, rfl⟩ := List.mem_map.mp h1
    obtain ⟨n, h4, rfl⟩ := List.mem_map.mp h3
    exact ⟨n, h4, by simpa [eqV] using h2⟩
  · rintro ⟨n, h1, h2⟩
    exact ⟨_, List.mem_map.mpr ⟨_, List.mem_map.mpr ⟨n, h1, rfl⟩, rfl⟩, by simpa [eqV] using h2⟩
section
variable {P : Program} {w : World} {K : PySem.W.Frag} {mg : Str → Option Value} {base : Heap}
/-! ### _law_number -/
noncomputable def spNum : Sp := fun vs H Q _ => ∃ (p : Int) (x : Str), vs = [.int p, .str x] ∧ 2 ≤ p ∧ p ≤ 97 ∧ ∀ H', Same H H' → Q (.bl (isNumP p x)) H'
theorem scNu : FnScope ["p", "word"] ["p", "word"] (defScope sNumber) := ⟨rfl, rfl, rfl, by decide +kernel, rfl, by decide +kernel, by decide +kernel⟩
theorem ok_num {f : Addr} {fd : FuncData} (F : Fun K "_law_number" "_law_number" sNumber f fd) (T : Txt mg) : FnOk P w K mg base CX0 1 f fd ["p", "word"] spNum := by
  refine F.ok scNu (fun vs H Q E h => ?_) (fun cdv A outer s H vs Q E hr h => ?_)
  · obtain ⟨p, x, rfl, _⟩ := h
    rfl
  · obtain ⟨p, x, rfl, p2, hp, q⟩ := h
    have z : (1000 : Nat) ≤ sizeLine := by decide
    refine ⟨_, pss_one (ps_ret (pe_and (pe_cmpR op_ne (pv 1) pe_str (nomark _)) (pe_one (pe_cmpR (opIn K rfl) (pv 1) (pe_comp (N := ["number"]) (own := 1) (caps := []) rfl (pi_range1 rfl T.range (pa_cons (pv 0) pa_nil)) (show BlkScope ["p", "word"] (defScope sNumber) ["number"] 1 [] _ from .mk' (by decide +kernel))
      (fun _ _ _ _ _ => pg_name (i := 0) nnum rfl (Or.inl rfl)) (fun _ _ _ _ _ => pts_nil) (fun _ _ _ _ _ => pe_callTy call_str3 rfl T.str bt_str (pa_cons (pv 0) pa_nil))) rfl)))), ?_⟩
    refine ⟨_, rfl, rfl, _, rfl, ?_⟩
    by_cases hz : x = Str.ofString ""
    · refine iteN (by simp [hz]) ?_
      have hf : isNumP p x = false := num_not hp fun n hn e => by
        have := (num_is hn).len
        rw [← e, hz] at this
        split at this <;> exact absurd this (by decide)
      have := q H (.refl _)
      rw [hf] at this
      exact this
    · refine iteB (by simpa using fun e => hz e) ⟨_, rfl, _, rfl, p, rfl, by lia, by lia, comp_rng (n := p.toNat) (lo := 0) (cp := []) (fun i H' zs => zs = ((List.range i).map numS).map V.str) (by lia) rfl (fun i H' zs e => by rw [e, List.length_map, List.length_map, List.length_range]; exact Nat.le_refl _) ?_ ?_⟩
      · rintro i H1 zs hi sm rfl
        refine ⟨_, rfl, .inr ⟨_, rfl, ?_, ⟨⟨[_], rfl, rfl⟩, sm, ?_⟩⟩⟩
        · rw [Int.zero_add]
          exact log_small (by lia)
        · rw [Int.zero_add, List.range_succ, List.map_append, List.map_append]
          rfl
      · rintro H1 zs sm rfl l hl
        refine ⟨l, _, rfl, .inl (.of upd_same), rfl, ?_, ?_⟩
        · rw [List.all_map, List.all_eq_true]
          intro _ _
          rfl
        · have := q _ (sm.trans (.upd hl (o := .lst (((List.range p.toNat).map numS).map V.str))))
          rw [← in_nums] at this
          exact this
end
end S21
namespace S21
open PySem L2 Bw
set_option maxHeartbeats 3900000
noncomputable abbrev wDr : Str := Str.ofString "drawing"
noncomputable abbrev wNr : Str := Str.ofString "number"
noncomputable def dueS (k : Nat) (b : Bool) : List Str := List.replicate k wDr ++ (if b then [wNr] else [])
noncomputable def dueL (k : Nat) (b : Bool) : List V := (dueS k b).map V.str
theorem dueL_t (k : Nat) : dueL k true = dueL k false ++ [.str wNr] := by unfold dueL dueS; simp
theorem dueL_f (k : Nat) : dueL (k + 1) false = dueL k false ++ [.str wDr] := by unfold dueL dueS; simp [List.replicate_succ']
theorem dueL_len (k : Nat) (b : Bool) : (dueL k b).length ≤ k + 1 := by
  unfold dueL dueS
  rw [List.length_map, List.length_append, List.length_replicate]
  cases b <;> simp
theorem hasA_strs {K : PySem.W.Frag} {H : Hp} : ∀ (xs : List Str), HasA K H (xs.map V.str) (xs.map PySem.W.Dat.str)
  | [] => .nil
  | x :: xs => .cons (.str x) (hasA_strs xs)
theorem due_ok (k : Nat) (b : Bool) : PySem.W.kqdOk 8 (.list ((dueS k b).map PySem.W.Dat.str)) = true := by
  show ((dueS k b).map PySem.W.Dat.str).all (PySem.W.kqdOk 7) = true
  rw [List.all_map, List.all_eq_true]
  intro x hx
  unfold dueS at hx
  have o1 : PyData.strOk wDr = true := by decide +kernel
  have o2 : PyData.strOk wNr = true := by decide +kernel
  show PyData.strOk x = true
  rcases (List.mem_append.mp hx) with h | h
  · rw [List.eq_of_mem_replicate h]; exact o1
  · cases b
    · exact nomatch h
    · rw [List.mem_singleton.mp h]; exact o2
theorem dr_ne : wDr ≠ wNr := by decide +kernel
theorem due_nil (k : Nat) (b : Bool) : (PySem.W.Dat.list ((dueS k b).map PySem.W.Dat.str) = PySem.W.Dat.list []) ↔ (k = 0 ∧ b = false) := by
  unfold dueS
  cases b <;> cases k <;> simp [List.replicate_succ]
noncomputable def bxV : List V := boxN.map V.str
theorem pc_in : pieces.all (fun x => (inV (.str x) [V.str (Str.ofString "beside"), .str (Str.ofString "then")] == decide (x = "beside" ∨ x = "then")) && (inV (.str x) bxV == boxN.contains x)) = true := by decide +kernel
section
variable {P : Program} {w : World} {K : PySem.W.Frag} {mg : Str → Option Value} {base : Heap}
/-! ### _law_shape -/
noncomputable def spShape : Sp := fun vs H Q _ => ∃ (p : Int) (x : Str) (ps : List Str), vs = [.int p, .str x] ∧ Txt.split x (Str.ofString " ") = ps ∧ (∀ y ∈ ps, y ∈ pieces) ∧ ps.length ≤ 200 ∧ x.length + 2 ≤ sizeLine ∧ 2 ≤ p ∧ p ≤ 97 ∧ ∀ H', Same H H' → Q (.bl (shp p 1 false ps)) H'
theorem scShp : FnScope ["p", "text", "due", "word"] ["p", "text"] (defScope s_law_shape) := ⟨rfl, rfl, rfl, by decide +kernel, rfl, by decide +kernel, by decide +kernel⟩
set_option maxRecDepth 100000 in
theorem ok_shape {f fN : Addr} {fd fdN : FuncData} (F : Fun K "_law_shape" "_law_shape" s_law_shape f fd)
    (GN : FnOk P w K mg base CX0 1 fN fdN ["p", "word"] spNum) (kN : PySem.W.keepIn K (.ref fN) = true) (bN : Binds K fdN ["p", "word"] []) (mN : mg "_law_number" = some (.ref fN)) :
    FnOk P w K mg base CX0 2 f fd ["p", "text"] spShape := by
  refine F.ok scShp (fun vs H Q E h => ?_) (fun cdv A outer s H vs Q E hr h => ?_)
  · obtain ⟨p, x, ps, rfl, _⟩ := h
    rfl
  · obtain ⟨p, x, ps, rfl, es, hps, hl, hx, p2, hp, q⟩ := h
    have z : (1000 : Nat) ≤ sizeLine := by decide
    have hu := hr.units
    refine ⟨_, pss_cons (ps_set (i := 2) scShp.nd rfl (Or.inl rfl) (pe_lst (pa_cons pe_str pa_nil)))
      (pss_cons (ps_for PassesOwn.never rfl (piList K rfl (pe_bm PySem.F.plainAttrs_str PySem.F.slot_str_split PySem.F.type_str_split mt_split (pv 1) (pa_cons pe_str pa_nil))) (pg_name (i := 3) scShp.nd rfl (Or.inl rfl))
        (pss_cons (ps_if (pt_cmpR (opEqD K rfl hu) (pv 2) (pe_lst pa_nil) (nomark _)) (pss_one (ps_ret pe_bl)) pss_nil)
        (pss_one (ps_if (pt_cmpR op_eq (pe_pop K rfl (pv 2)) pe_str (nomark _))
          (pss_one (ps_if (pt_not (pt_val (pe_call GN hr rfl mN kN bN .nil pass0 (pa_cons (pv 0) (pa_cons (pv 3) pa_nil))))) (pss_one (ps_ret pe_bl)) pss_nil))
          (pss_one (ps_if (pt_cmpR (opIn K rfl) (pv 3) (pe_lst (pa_cons pe_str (pa_cons pe_str pa_nil))) rfl) (pss_one (ps_set (i := 2) scShp.nd rfl (Or.inl rfl) (pe_op op_cat (pv 2) (pe_lst (pa_cons pe_str (pa_cons pe_str pa_nil))))))
            (pss_one (ps_if (pt_cmpR op_eq (pv 3) pe_str (nomark _)) (pss_one (ps_set (i := 2) scShp.nd rfl (Or.inl rfl) (pe_op op_cat (pv 2) (pe_lst (pa_cons pe_str pa_nil)))))
              (pss_one (ps_if (pt_cmpR op_eq (pv 3) pe_str (nomark _)) (pss_one (ps_set (i := 2) scShp.nd rfl (Or.inl rfl) (pe_op op_cat (pv 2) (pe_lst (pa_cons pe_str pa_nil)))))
                (pss_one (ps_if (pt_cmpR (opNotIn K rfl) (pv 3) (pe_lst (pa_cons pe_str (pa_cons pe_str (pa_cons pe_str (pa_cons pe_str (pa_cons pe_str (pa_cons pe_str (pa_cons pe_str (pa_cons pe_str (pa_cons pe_str pa_nil)))))))))) rfl) (pss_one (ps_ret pe_bl)) pss_nil))))))))))))
      (pss_one (ps_ret (pe_cmpR (opEqD K rfl hu) (pv 2) (pe_lst pa_nil) (nomark _))))), ?_⟩
    refine ⟨by show 1 ≤ sizeLine; lia, fun l0 h0 => ?_⟩
    have s0 := Same.upd h0 (o := .lst [.str wDr])
    have g0 : (upd H l0 (.lst [.str wDr])) l0 = some (.lst (dueL 1 false)) := upd_same
    generalize upd H l0 (.lst [.str wDr]) = HA at s0 g0 ⊢
    refine ⟨_, rfl, rfl, _, _, rfl, rfl, by decide, hx, by rw [es]; lia, fun ls hls => ?_⟩
    rw [es]
    have s1 := Same.upd hls (o := .lst (ps.map V.str))
    have gs : (upd HA ls (.lst (ps.map V.str))) ls = some (.lst (ps.map V.str)) := upd_same
    have ne0 : l0 ≠ ls := ne_of_none g0 hls
    have g1 := s1 _ _ g0
    have s01 := s0.trans s1
    generalize upd HA ls (.lst (ps.map V.str)) = HB at s1 gs g1 s01 ⊢
    refine ⟨ls, rfl, ⟨_, .of gs⟩, for_list (xs := ps.map V.str) (fun i σ H' => Same H H' ∧ H' ls = some (.lst (ps.map V.str)) ∧ ∃ l k b s3, σ = [some (.int p), some (.str x), some (.ref l), s3] ∧ H' l = some (.lst (dueL k b)) ∧ l ≠ ls ∧ H l = none ∧ k ≤ i + 1 ∧ shp p k b (ps.drop i) = shp p 1 false ps)
      ⟨s01, gs, l0, 1, false, none, rfl, g1, ne0, h0, Nat.le_refl _, rfl⟩ (fun i σ H' _ ⟨_, e, _⟩ => .of e) ?_ ?_⟩
    · rintro i x' σ H1 hx' ⟨sm, gls, l, k, b, s3, rfl, gl, nl, hl0, hk, ew⟩
      rw [List.getElem?_map] at hx'
      cases hi : ps[i]? with
      | none => rw [hi] at hx'; cases hx'
      | some y =>
        rw [hi] at hx'
        cases hx'
        have hiL := (List.getElem?_eq_some_iff.mp hi).1
        rw [List.drop_eq_getElem_cons hiL, (List.getElem?_eq_some_iff.mp hi).2] at ew
        have hy := hps y (List.mem_of_getElem? hi)
        have hpi := List.all_eq_true.mp pc_in y hy
        rw [Bool.and_eq_true, beq_iff_eq, beq_iff_eq] at hpi
        obtain ⟨pi1, pi2⟩ := hpi
        have no : ∀ {H' : Hp}, shp p 1 false ps = false → Same H H' → Q (.bl false) H' := fun e s' => by
          have := q _ s'
          rw [e] at this
          exact this
        refine ⟨_, rfl, by show 0 ≤ sizeLine; lia, fun le hle => ?_⟩
        have s2 := Same.upd hle (o := .lst [])
        have gl2 := s2 _ _ gl
        have gls2 := s2 _ _ gls
        have sm2 := sm.trans s2
        refine ⟨_, _, .list (.of gl2) (hasA_strs (dueS k b)), .list (.of upd_same) .nil, due_ok k b, rfl, _, rfl, ?_⟩
        generalize upd H1 le (.lst []) = H2 at s2 gl2 gls2 sm2 ⊢
        by_cases h00 : k = 0 ∧ b = false
        · obtain ⟨rfl, rfl⟩ := h00
          refine iteB (by simp [dueS]) (no ?_ sm2)
          exact ew.symm
        refine iteN (by simpa using fun e => h00 ((due_nil k b).mp (by simp [e]))) ?_
        -- what is due
        have taken : ∀ {k' : Nat} {y' : Str}, dueL k b = dueL k' false ++ [.str y'] → (upd H2 l (.lst (dueL k' false))) l = some (.lst (dueL k' false)) ∧ (upd H2 l (.lst (dueL k' false))) ls = some (.lst (ps.map V.str)) ∧ Same H (upd H2 l (.lst (dueL k' false))) := fun _ => ⟨upd_same, by rw [upd_ne nl.symm]; exact gls2, sm2.put hl0⟩
        cases b with
        | true =>
          have e := dueL_t k
          obtain ⟨t1, t2, t3⟩ := taken e
          refine ⟨_, rfl, .inl ⟨rfl, _, .of gl2⟩, l, _, .str wNr, rfl, rfl, gl2, by rw [e]; simp, ?_⟩
          rw [e, List.dropLast_concat]
          refine ⟨rfl, _, rfl, iteB (by simp) ?_⟩
          generalize upd H2 l (.lst (dueL k false)) = H3 at t1 t2 t3 ⊢
          have ew : (isNumP p y && shp p k false (ps.drop (i + 1))) = shp p 1 false ps := ew
          refine ⟨_, rfl, _, rfl, p, y, rfl, p2, hp, fun H4 s4 => ⟨_, rfl, ?_⟩⟩
          cases hn : isNumP p y with
          | false =>
            rw [hn] at ew
            exact iteT (no ew.symm (t3.trans s4))
          | true =>
            rw [hn, Bool.true_and] at ew
            exact iteF ⟨t3.trans s4, s4 _ _ t2, l, k, false, _, rfl, s4 _ _ t1, nl, hl0, by lia, ew⟩
        | false =>
          cases k with
          | zero => exact absurd ⟨rfl, rfl⟩ h00
          | succ k =>
            have e := dueL_f k
            obtain ⟨t1, t2, t3⟩ := taken e
            refine ⟨_, rfl, .inl ⟨rfl, _, .of gl2⟩, l, _, .str wDr, rfl, rfl, gl2, by rw [e]; simp, ?_⟩
            rw [e, List.dropLast_concat]
            refine ⟨rfl, _, rfl, iteN (by simp [dr_ne]) ?_⟩
            generalize upd H2 l (.lst (dueL k false)) = H3 at t1 t2 t3 ⊢
            have ew : (if y = "beside" ∨ y = "then" then shp p (k + 2) false (ps.drop (i + 1)) else if y = "back" then shp p (k + 1) false (ps.drop (i + 1)) else if y = "times" then shp p k true (ps.drop (i + 1)) else boxN.contains y && shp p k false (ps.drop (i + 1))) = shp p 1 false ps := ew
            have hkl := dueL_len k false
            -- a longer list
            have more : ∀ {H4 : Hp} {la : Addr} {ys : List V} {k' : Nat} {b' : Bool} {s3 : Option V} {lb : Addr}, Same H3 H4 → H4 lb = none → dueL k false ++ ys = dueL k' b' → k' ≤ i + 1 + 1 → shp p k' b' (ps.drop (i + 1)) = shp p 1 false ps →
                Same H (upd H4 lb (.lst (dueL k false ++ ys))) ∧ (upd H4 lb (.lst (dueL k false ++ ys))) ls = some (.lst (ps.map V.str)) ∧ ∃ l k b s3', [some (V.int p), some (.str x), some (.ref lb), s3] = [some (.int p), some (.str x), some (.ref l), s3'] ∧ (upd H4 lb (.lst (dueL k' b'))) l = some (.lst (dueL k b)) ∧ l ≠ ls ∧ H l = none ∧ k ≤ i + 1 + 1 ∧ shp p k b (ps.drop (i + 1)) = shp p 1 false ps := by
              intro H4 la ys k' b' s3 lb s4 hlb ee hk' ew'
              have nlb : ls ≠ lb := ne_of_none (s4 _ _ t2) hlb
              refine ⟨t3.trans (s4.trans (.upd hlb)), by rw [upd_ne nlb]; exact s4 _ _ t2, lb, k', b', s3, rfl, upd_same, nlb.symm, ?_, hk', ew'⟩
              cases eH : H lb with
              | none => rfl
              | some o => have := (t3.trans s4) _ _ eH; rw [hlb] at this; cases this
            refine ⟨_, rfl, by show 2 ≤ sizeLine; lia, fun la hla => ⟨la, _, rfl, .inl (.of upd_same), rfl, rfl, _, rfl, ?_⟩⟩
            have s4 := Same.upd hla (o := .lst [V.str (Str.ofString "beside"), .str (Str.ofString "then")])
            by_cases h1 : y = "beside" ∨ y = "then"
            · rw [if_pos h1] at ew
              refine iteB (by show inV (.str y) _ = true; rw [pi1, decide_eq_true h1]) ?_
              refine ⟨_, rfl, by show 2 ≤ sizeLine; lia, fun lc hlc => ⟨l, lc, _, _, rfl, rfl, (s4.trans (.upd hlc)) _ _ t1, upd_same, by show _ + 2 ≤ sizeLine; lia, fun lb hlb => ?_⟩⟩
              have ee : dueL k false ++ [V.str wDr, .str wDr] = dueL (k + 2) false := by rw [dueL_f, dueL_f, List.append_assoc]; rfl
              obtain ⟨m1, m2, m3⟩ := more (la := la) (s3 := some (.str y)) (s4.trans (.upd hlc)) hlb ee (by lia) ew
              rw [← ee] at m3
              exact ⟨m1, m2, m3⟩
            rw [if_neg h1] at ew
            refine iteN (by show inV (.str y) _ = false; rw [pi1, decide_eq_false h1]) ?_
            refine ⟨_, rfl, rfl, _, rfl, ?_⟩
            by_cases h2 : y = "back"
            · rw [if_pos h2] at ew
              refine iteB (by simp [h2]) ?_
              refine ⟨_, rfl, by show 1 ≤ sizeLine; lia, fun lc hlc => ⟨l, lc, _, _, rfl, rfl, (s4.trans (.upd hlc)) _ _ t1, upd_same, by show _ + 1 ≤ sizeLine; lia, fun lb hlb => ?_⟩⟩
              have ee : dueL k false ++ [V.str wDr] = dueL (k + 1) false := (dueL_f k).symm
              obtain ⟨m1, m2, m3⟩ := more (la := la) (s3 := some (.str y)) (s4.trans (.upd hlc)) hlb ee (by lia) ew
              rw [← ee] at m3
              exact ⟨m1, m2, m3⟩
            rw [if_neg h2] at ew
            refine iteN (by simpa using h2) ?_
            refine ⟨_, rfl, rfl, _, rfl, ?_⟩
            by_cases h3 : y = "times"
            · rw [if_pos h3] at ew
              refine iteB (by simp [h3]) ?_
              refine ⟨_, rfl, by show 1 ≤ sizeLine; lia, fun lc hlc => ⟨l, lc, _, _, rfl, rfl, (s4.trans (.upd hlc)) _ _ t1, upd_same, by show _ + 1 ≤ sizeLine; lia, fun lb hlb => ?_⟩⟩
              have ee : dueL k false ++ [V.str wNr] = dueL k true := (dueL_t k).symm
              obtain ⟨m1, m2, m3⟩ := more (la := la) (s3 := some (.str y)) (s4.trans (.upd hlc)) hlb ee (by lia) ew
              rw [← ee] at m3
              exact ⟨m1, m2, m3⟩
            rw [if_neg h3] at ew
            refine iteN (by simpa using h3) ?_
            refine ⟨_, rfl, by show 9 ≤ sizeLine; lia, fun lc hlc => ⟨lc, bxV, rfl, .inl (.of upd_same), rfl, rfl, _, rfl, ?_⟩⟩
            have s5 := s4.trans (Same.upd hlc (o := .lst bxV))
            cases hb : boxN.contains y with
            | false =>
              rw [hb] at ew
              refine iteB (by show (!inV (.str y) bxV) = true; rw [pi2, hb]; rfl) ?_
              exact no ew.symm (t3.trans s5)
            | true =>
              rw [hb, Bool.true_and] at ew
              refine iteN (by show (!inV (.str y) bxV) = false; rw [pi2, hb]; rfl) ?_
              exact ⟨t3.trans s5, s5 _ _ t2, l, k, false, _, rfl, s5 _ _ t1, nl, hl0, by lia, ew⟩
    · rintro σ H1 ⟨sm, gls, l, k, b, s3, rfl, gl, nl, hl0, hk, ew⟩
      rw [List.length_map, List.drop_length] at ew
      refine ⟨_, rfl, by show 0 ≤ sizeLine; lia, fun le hle => ?_⟩
      have s2 := Same.upd hle (o := .lst [])
      refine ⟨_, _, .list (.of (s2 _ _ gl)) (hasA_strs (dueS k b)), .list (.of upd_same) .nil, due_ok k b, rfl, ?_⟩
      have ew : (decide (k = 0) && !b) = shp p 1 false ps := ew
      have := q _ (sm.trans s2)
      rw [← ew] at this
      classical
      have e : (decide (k = 0) && !b) = (if false = true then !decide (PySem.W.Dat.list ((dueS k b).map PySem.W.Dat.str) = PySem.W.Dat.list []) else decide (PySem.W.Dat.list ((dueS k b).map PySem.W.Dat.str) = PySem.W.Dat.list [])) := by
        rw [if_neg (by decide)]
        by_cases h : k = 0 ∧ b = false
        · rw [decide_eq_true ((due_nil k b).mpr h), h.1, h.2]; rfl
        · rw [decide_eq_false fun e => h ((due_nil k b).mp e)]
          cases b with
          | true => simp
          | false => simpa using h
      rw [e] at this
      exact this
end
end S21
/-! dicts whose keys are rows of whole numbers, or pairs of such: {}, d[k] = v, d.get(k, x), list(d) -/
namespace L2
open PySem PySem.Spec PyProof.Rows
set_option maxRecDepth 100000
section
variable {prog : Program} {w : World} {κ : Type} [DecidableEq κ] {kd : KeyKind prog w κ}
/-! ### tuples of tuples as keys -/
variable {s : Shared} {A : Around} {E : Value → Shared → Prop}
end
end L2
/-! list(d), whatever the keys of d are -/
namespace L2
open PySem PySem.Spec PyProof.Rows PySem.W
set_option maxRecDepth 100000
section
variable {w : World} {prog : Program}
variable {A : Around} {E : Value → Shared → Prop} {s : Shared} {it d : Addr} {es : Array DictEntry} {i ep : Nat}
end
end L2
/-! such dicts, tracked -/
namespace L2
open PySem PySem.Spec PyProof.Rows PySem.W
set_option maxRecDepth 100000
noncomputable abbrev KAV (κ : Type) := κ × Addr × V
section
variable {P : Program} {w : World} {κ : Type} [DecidableEq κ] {kn : HeapKind P w κ} {H : Hp} {h : Heap} {a : Addr} {xs : List (KAV κ)}
end
section
variable {X : Cx} {κ : Type} [DecidableEq κ] {kn : HeapKind X.prog X.w κ} {R : Hp → κ → Addr → Prop} {pins : List (Addr × Obj)} {σ : St} {H : Hp} {s : Shared} {a b : Addr} {xs : List (KAV κ)} {k : κ} {v d : V} {u r : Value} {A : Around} {E : Value → Shared → Prop}
end
section
variable {X : Cx} {κ : Type} [DecidableEq κ] {kn : HeapKind X.prog X.w κ} {R : Hp → κ → Addr → Prop} {o i e f value : Expr} {pos pos' apos cpos : Pos} {td ty tv tx : TE}
end
/-! ### rows of whole numbers and pairs of such -/
noncomputable abbrev Pr := List Int × List Int
theorem items_int {P : Program} {w : World} : ∀ {ks : List Int} {us : List Value}, Vals (ks.map V.int) us → ItemsAre (intKind P w) ks us
  | [], _, .nil => .nil
  | k :: ks, _, .cons r t => by
    obtain ⟨tk, rfl⟩ := r
    exact .cons (by show Value.isInt k (.int k tk) = true; simp [Value.isInt]) (items_int t)
section
variable {X : Cx} {K : PySem.W.Frag} {P : Program} {w : World} {pins : List (Addr × Obj)} {σ : St} {H : Hp} {s : Shared}
end
/-! ### lists of pairs; x in such a list -/
section
variable {K : PySem.W.Frag} {H H' : Hp} {VS : List V} {ps : List Pr}
end
end L2
namespace S21
open PySem L2 Bw
set_option maxHeartbeats 3900000
/-! ### dicts of texts and rows, as they are written -/
noncomputable def cKey : Option Expr → Option Str
  | some (.Constant (.str x) _ _) => some x
  | _ => none
noncomputable def cRow : Expr → Option (List Int)
  | .Tuple es _ _ => constInts es
  | _ => none
noncomputable def cPairs : List (Option Expr) → List Expr → Option (List (Str × List Int))
  | [], [] => some []
  | k :: ks, v :: vs => match cKey k, cRow v, cPairs ks vs with
    | some x, some r, some ps => some ((x, r) :: ps)
    | _, _, _ => none
  | _, _ => none
noncomputable def cDisp : Expr → Option (List (Str × List Int))
  | .Dict ks vs _ => cPairs ks vs
  | _ => none
noncomputable def tRow (ns : List Int) : TE := tTup (fun _ H Q => Q (ns.map V.int) H)
noncomputable def tPairsR : List (Str × List Int) → List (TE × TE)
  | [] => []
  | p :: ps => (tC (.str p.1), tRow p.2) :: tPairsR ps
theorem key_c {X : Cx} {k : Option Expr} {x : Str} (h : cKey k = some x) : ∃ e, k = some e ∧ PE X e (tC (.str x)) := by
  unfold cKey at h
  split at h
  case h_2 => exact nomatch h
  case h_1 y i pos => cases h; exact ⟨_, rfl, pe_str⟩
theorem row_c {X : Cx} {v : Expr} {r : List Int} (h : cRow v = some r) : PE X v (tRow r) := by
  unfold cRow at h
  split at h
  case h_2 => exact nomatch h
  case h_1 es i pos => exact pe_tup (pa_ints es r h)
theorem pps_c {X : Cx} {pos : Pos} : ∀ (ks : List (Option Expr)) (vs : List Expr) (L : List (Str × List Int)), cPairs ks vs = some L →
    PPs X pos ks vs (tPairsR L) ∧ ks.all (·.isSome) = true ∧ ks.length = L.length ∧ vs.length = L.length
  | [], [], L, h => by cases h; exact ⟨pps_nil, rfl, rfl, rfl⟩
  | [], _ :: _, _, h => nomatch h
  | _ :: _, [], _, h => nomatch h
  | k :: ks, v :: vs, L, h => by
    unfold cPairs at h
    split at h
    case h_2 => exact nomatch h
    case h_1 x r ps h1 h2 h3 =>
      cases h
      obtain ⟨e, rfl, he⟩ := key_c (X := X) h1
      obtain ⟨g1, g2, g3, g4⟩ := pps_c (X := X) (pos := pos) ks vs ps h3
      exact ⟨pps_cons he (row_c h2) g1, by rw [List.all_cons, g2]; rfl, congrArg (· + 1) g3, congrArg (· + 1) g4⟩
theorem pe_cDisp {X : Cx} {e : Expr} {L : List (Str × List Int)} (h : cDisp e = some L) (h0 : L ≠ []) (h15 : L.length ≤ 15) : PE X e (tDisp (tPairsR L)) := by
  unfold cDisp at h
  split at h
  case h_2 => exact nomatch h
  case h_1 ks vs pos =>
    obtain ⟨g1, g2, g3, g4⟩ := pps_c (X := X) (pos := pos) ks vs L h
    exact pe_disp g1 g2 (g3.trans g4.symm) (fun z => by rw [z] at g3; exact h0 (List.eq_nil_of_length_eq_zero g3.symm)) (by rw [g3]; exact h15)
inductive DRel (K : PySem.W.Frag) (H : Hp) : List (Str × List Int) → List (Key × V) → Prop where
  | nil : DRel K H [] []
  | cons {x : Str} {r : List Int} {v : Addr} {L : List (Str × List Int)} {kvs : List (Key × V)} (h : SqT K H v (r.map V.int)) (t : DRel K H L kvs) : DRel K H ((x, r) :: L) ((.inr x, .ref v) :: kvs)
section
variable {K : PySem.W.Frag} {H H' : Hp} {L : List (Str × List Int)} {kvs : List (Key × V)}
theorem DRel.tup (h : DRel K H L kvs) (s : Tup H H') : DRel K H' L kvs := by
  induction h with
  | nil => exact .nil
  | cons h t ih => exact .cons (s.seqT h) ih
theorem DRel.keys (h : DRel K H L kvs) : kvs.map (·.1) = L.map fun p => (Sum.inr p.1 : Key) := by
  induction h with
  | nil => rfl
  | cons h t ih => rw [List.map_cons, List.map_cons, ih]
theorem DRel.get (h : DRel K H L kvs) (x : Str) : (∃ r v, L.lookup x = some r ∧ valV (κ := Key) kvs (.inr x) = some (.ref v) ∧ SqT K H v (r.map V.int)) ∨ (L.lookup x = none ∧ valV (κ := Key) kvs (.inr x) = none) := by
  induction h with
  | nil => exact .inr ⟨rfl, rfl⟩
  | @cons y r v L kvs h t ih =>
    by_cases e : y = x
    · subst e
      exact .inl ⟨r, v, by simp, valV_pos rfl, h⟩
    · have n : (x == y) = false := beq_eq_false_iff_ne.mpr fun z => e z.symm
      rw [List.lookup_cons, n, valV_neg (p := (Sum.inr y, V.ref v)) (fun z => e (Sum.inr.inj z))]
      exact ih
end
theorem mergeK_nd : ∀ (more kvs : List (Key × V)), ((kvs ++ more).map (·.1)).Nodup → mergeK kvs more = kvs ++ more
  | [], kvs, _ => by rw [List.append_nil]; rfl
  | p :: more, kvs, h => by
    have hv : valV kvs p.1 = none := by
      unfold valV
      rw [Option.map_eq_none_iff, List.find?_eq_none]
      intro q hq z
      rw [decide_eq_true_eq] at z
      rw [List.map_append, List.map_cons, List.nodup_append] at h
      exact h.2.2 q.1 (List.mem_map_of_mem hq) p.1 List.mem_cons_self z
    show mergeK (putK kvs p.1 p.2) more = _
    rw [putK_new _ hv, mergeK_nd more (kvs ++ [(p.1, p.2)]) (by rw [List.append_assoc]; exact h), List.append_assoc]
    rfl
theorem pairsR_read {K : PySem.W.Frag} {σ : St} : ∀ (L : List (Str × List Int)) {H : Hp} {Q : List (V × V) → Hp → Prop}, (∀ p ∈ L, p.2.length ≤ 1000) → (∀ kvs H', Same H H' → DRel K H' L kvs → Q (kvs.map fun kv => (kV kv.1, kv.2)) H') → tPairs (tPairsR L) σ H Q
  | [], H, Q, _, q => by
    unfold tPairsR tPairs
    exact q [] H (.refl _) .nil
  | p :: L, H, Q, hl, q => by
    have h0 := hl p List.mem_cons_self
    have h : tRow p.2 σ H (fun y H2 => tPairs (tPairsR L) σ H2 fun ps H3 => Q ((.str p.1, y) :: ps) H3) := by
      refine ⟨by rw [List.length_map]; exact Nat.le_trans h0 (by decide), fun t ht => ?_⟩
      exact pairsR_read (K := K) L (fun x hx => hl x (List.mem_cons_of_mem _ hx)) fun kvs H' s h => q ((.inr p.1, .ref t) :: kvs) H' ((Same.upd ht).trans s) (.cons (s.seqT (.of upd_same)) h)
    unfold tPairsR tPairs
    exact h
theorem dispR_read {K : PySem.W.Frag} {σ : St} {L : List (Str × List Int)} {H : Hp} {Q : VK} (nd : (L.map (·.1)).Nodup) (hL : L.length ≤ 15) (hl : ∀ p ∈ L, p.2.length ≤ 1000) (q : ∀ p kvs H', H p = none → Same H H' → H' p = some (.dK kvs) → DRel K H' L kvs → Q (.ref p) H') : tDisp (tPairsR L) σ H Q := by
  intro p hp
  have hs : Same H (upd H p (.dK [])) := .upd hp
  have hpe : (upd H p (.dK [])) p = some (.dK []) := upd_same
  generalize upd H p (.dK []) = H0 at hs hpe
  refine pairsR_read (K := K) L hl fun kvs H1 s1 r => ?_
  have hp1 := s1 _ _ hpe
  have ek := r.keys
  refine ⟨hp1, kvs, rfl, ?_, ?_⟩
  · have := congrArg List.length ek
    rw [List.length_map, List.length_map] at this
    lia
  · rw [mergeK_nd kvs [] (by
      rw [List.nil_append, ek]
      rw [show (L.map fun p => (Sum.inr p.1 : Key)) = (L.map (·.1)).map Sum.inr by rw [List.map_map]; rfl]
      exact List.Pairwise.map _ (fun a b (h : a ≠ b) (z : Sum.inr a = Sum.inr b) => h (Sum.inr.inj z)) nd), List.nil_append]
    exact q p kvs _ hp (Same.put (hs.trans s1) hp) upd_same (r.tup (Tup.dct hp1))
end S21
namespace S21
open PySem L2 Bw
set_option maxHeartbeats 3900000
/-! ### dicts of texts and pairs -/
noncomputable def EndsX (K : PySem.W.Frag) (H : Hp) (ed : Addr) (f : Str → Option (List Int)) (N : Nat) : Prop := ∃ kvs, H ed = some (.dK kvs) ∧ kvs.length ≤ N ∧ ∀ x : Str, (∃ r v, f x = some r ∧ valV (κ := Key) kvs (.inr x) = some (.ref v) ∧ SqT K H v (r.map V.int)) ∨ (f x = none ∧ valV (κ := Key) kvs (.inr x) = none)
theorem EndsX.mono {K : PySem.W.Frag} {H H' : Hp} {ed : Addr} {f : Str → Option (List Int)} {N : Nat} (h : EndsX K H ed f N) (s : Same H H') : EndsX K H' ed f N := by
  obtain ⟨kvs, e, hn, hx⟩ := h
  refine ⟨kvs, s _ _ e, hn, fun x => ?_⟩
  rcases hx x with ⟨r, v, h1, h2, h3⟩ | h
  · exact .inl ⟨r, v, h1, h2, s.seqT h3⟩
  · exact .inr h
/-- d[y] = (a, b) -/
theorem put_read {K : PySem.W.Frag} {σ : St} {H0 H : Hp} {ed : Addr} {f : Str → Option (List Int)} {N : Nat} {y : Str} {a b : Int} {D : Ends} {iD : Nat} (h2 : σ[iD]? = some (some (.ref ed))) (hE : EndsX K H ed f N) (hN : N ≤ 1000) (s : Same H0 H) (hed : H0 ed = none)
    (k : ∀ H', Same H0 H' → EndsX K H' ed (fun x => if x = y then some [a, b] else f x) (N + 1) → D.nx σ H') : sDPut (tVar iD) (tC (.str y)) (tTup (tCons (tC (.int a)) (tCons (tC (.int b)) tNil))) D σ H := by
  have z1000 : (1000 : Nat) < sizeLine := by decide
  obtain ⟨kvs, e, hn, hx⟩ := hE
  refine ⟨by show 2 ≤ sizeLine; decide, fun t ht => ⟨_, h2, ed, _, rfl, DPut.k (k := .inr y) (Same.upd ht _ _ e) (by lia), ?_⟩⟩
  have st := Same.upd ht (o := .tup [.int a, .int b])
  have e' := st _ _ e
  have gt : SqT K (upd H t (.tup [.int a, .int b])) t ([a, b].map V.int) := .of upd_same
  generalize upd H t (.tup [.int a, .int b]) = H1 at st e' gt ⊢
  have tp : Tup H1 (upd H1 ed (.dK (putK kvs (.inr y) (.ref t)))) := Tup.dct e'
  refine k _ ((s.trans st).write hed) ⟨_, upd_same, ?_, fun x => ?_⟩
  · have := length_mergeK [(.inr y, V.ref t)] kvs
    have e0 : mergeK kvs [(.inr y, V.ref t)] = putK kvs (.inr y) (.ref t) := rfl
    rw [e0] at this
    exact Nat.le_trans this (by simp; lia)
  · dsimp only
    rw [valV_put]
    by_cases c : x = y
    · subst c
      rw [if_pos rfl, if_pos rfl]
      exact .inl ⟨[a, b], t, rfl, rfl, tp.seqT gt⟩
    · rw [if_neg c, if_neg fun z => c (Sum.inr.inj z)]
      rcases hx x with ⟨r, v, h1, h2, h3⟩ | h
      · exact .inl ⟨r, v, h1, h2, tp.seqT (st.seqT h3)⟩
      · exact .inr h
/-! ### what is held: ends -/
end S21
namespace S21
open PySem L2 Bw
set_option maxHeartbeats 3900000
/-! ### whether all drawings meet -/
noncomputable def mB : Dw → Bool
  | .back d => mB d
  | .beside a b => mB a && mB b
  | .thn a b => mB a && mB b && decide (a.rgt = b.lft)
  | _ => true
theorem mB_unm : ∀ {d : Dw} {i : Nat}, mB d = (d.unm i).isNone
  | .box .., _ => rfl
  | .times _, _ => rfl
  | .back d, i => mB_unm (d := d) (i := i + 1)
  | .beside a b, i => by
    show (mB a && mB b) = (orN (a.unm (i + 1)) (b.unm (i + 1 + a.words.length))).isNone
    rw [mB_unm (d := a) (i := i + 1), mB_unm (d := b) (i := i + 1 + a.words.length)]
    cases a.unm (i + 1) <;> cases b.unm (i + 1 + a.words.length) <;> rfl
  | .thn a b, i => by
    show (mB a && mB b && decide (a.rgt = b.lft)) = ((Dw.thn a b).unm i).isNone
    unfold Dw.unm
    rw [mB_unm (d := a) (i := i + 1), mB_unm (d := b) (i := i + 1 + a.words.length)]
    cases a.unm (i + 1) <;> cases b.unm (i + 1 + a.words.length) <;> simp [orN]
    split <;> simp_all
theorem mb_b (a b : Dw) (R : Bool) : (mB (.beside a b) && R) = ((mB a && (mB b && true)) && R) := by
  show ((mB a && mB b) && R) = _
  rw [Bool.and_true]
theorem mb_f (a b : Dw) (R : Bool) (h : ((mB a && (mB b && true)) && R) = false) : (mB (.thn a b) && R) = false := by
  rw [Bool.and_true] at h
  show ((mB a && mB b && decide (a.rgt = b.lft)) && R) = false
  generalize mB a = A at h ⊢
  generalize mB b = B at h ⊢
  generalize decide (a.rgt = b.lft) = D
  cases A <;> cases B <;> cases R <;> cases D <;> first | rfl | (cases h)
theorem mb_t (a b : Dw) (R : Bool) (h : ((mB a && (mB b && true)) && R) = true) : (mB (.thn a b) && R) = decide (V.int (a.sides.2 : Int) = V.int (b.sides.1 : Int)) := by
  rw [Bool.and_true, Bool.and_eq_true, Bool.and_eq_true] at h
  obtain ⟨⟨h1, h2⟩, h3⟩ := h
  show ((mB a && mB b && decide (a.rgt = b.lft)) && R) = _
  rw [h1, h2, h3, Bool.and_true]
  show decide (a.rgt = b.lft) = _
  by_cases h : a.rgt = b.lft
  · rw [decide_eq_true h, decide_eq_true (by show V.int (a.rgt : Int) = V.int (b.lft : Int); rw [h])]
  · rw [decide_eq_false h, decide_eq_false (show ¬ V.int (a.sides.2 : Int) = V.int (b.sides.1 : Int) from fun z => h (Int.ofNat.inj (V.int.inj z)))]
noncomputable def itB : It2 → Bool
  | .num _ => true
  | .drw d => mB d
noncomputable def itS : It2 → Option (Nat × Nat)
  | .num _ => none
  | .drw d => some d.sides
noncomputable def pU (q : Nat × Nat) : List V := [.int (q.1 : Int), .int (q.2 : Int)]
inductive PrU (K : PySem.W.Frag) (H : Hp) : List V → List (Nat × Nat) → Prop
  | nil : PrU K H [] []
  | cons {a : Addr} {q : Nat × Nat} {vs : List V} {qs : List (Nat × Nat)} (h : SqT K H a (pU q)) (t : PrU K H vs qs) : PrU K H (.ref a :: vs) (q :: qs)
theorem PrU.tup {K : PySem.W.Frag} {H H' : Hp} {vs : List V} {qs : List (Nat × Nat)} (h : PrU K H vs qs) (s : Tup H H') : PrU K H' vs qs := by
  induction h with
  | nil => exact .nil
  | cons h _ ih => exact .cons (s.seqT h) ih
theorem EndsX.put {K : PySem.W.Frag} {H : Hp} {ed st : Addr} {f : Str → Option (List Int)} {N : Nat} {xs : List V} {o : HO} (h : EndsX K H ed f N) (g : H st = some (.lst xs)) : EndsX K (L2.upd H st o) ed f N := by
  obtain ⟨kvs, e, hn, hx⟩ := h
  refine ⟨kvs, by rw [upd_ne (show ed ≠ st from fun z => by rw [z, g] at e; cases e)]; exact e, hn, fun x => ?_⟩
  rcases hx x with ⟨r, v, h1, h2, h3⟩ | h
  · exact .inl ⟨r, v, h1, h2, (Tup.lst g).seqT h3⟩
  · exact .inr h
noncomputable abbrev rows6 : List (Str × List Int) := [("swap", [2, 2]), ("copy", [1, 2]), ("end", [1, 0]), ("add", [2, 1]), ("none", [0, 1]), ("cup", [0, 2])]
noncomputable def rowsF (x : Str) : Option (List Int) := if x = "empty" then some [0, 0] else rows6.lookup x
noncomputable abbrev wBk : Str := Str.ofString "back"
noncomputable abbrev wBs : Str := Str.ofString "beside"
noncomputable abbrev wTh : Str := Str.ofString "then"
theorem rowsF_bx : ∀ e ∈ sideL, (rowsF e.1).getD [1, 1] = [(e.2.1 : Int), (e.2.2 : Int)] ∧ e.1 ≠ wBk ∧ inV (.str e.1) [V.str wBs, .str wTh] = false ∧ e.1 ∈ allW := by decide +kernel
theorem rowsF_ts : (rowsF (Str.ofString "times")).getD [1, 1] = [(1 : Int), 1] ∧ Str.ofString "times" ≠ wBk ∧ inV (.str (Str.ofString "times")) [V.str wBs, .str wTh] = false := by decide +kernel
theorem bt_in : inV (.str wBs) [V.str wBs, .str wTh] = true ∧ inV (.str wTh) [V.str wBs, .str wTh] = true ∧ wBs ≠ wBk ∧ wTh ≠ wBk ∧ wTh ≠ wBs ∧ wBk ∈ allW ∧ wBs ∈ allW ∧ wTh ∈ allW ∧ Str.ofString "times" ∈ allW := by decide +kernel
theorem allW_fst : allW.all (fun x => (match x.cps.toList with | c :: _ => !figB c | [] => false) && decide (x.length ≤ 10)) = true := by decide +kernel
theorem num_fst : (List.range 99).all (fun n => (match (numS n).cps.toList with | c :: _ => figB c | [] => false)) = true := by decide +kernel
theorem fst_w {x : Str} (h : x ∈ allW) : (∃ c, x.cps.toList[0]? = some c ∧ figB c = false) ∧ x.length ≤ 10 := by
  have z := List.all_eq_true.mp allW_fst x h
  rw [Bool.and_eq_true] at z
  refine ⟨?_, of_decide_eq_true z.2⟩
  have z := z.1
  cases e : x.cps.toList with
  | nil => rw [e] at z; cases z
  | cons c r => rw [e] at z; exact ⟨c, rfl, by simpa using z⟩
theorem fst_n {n : Nat} (h : n < 99) : ∃ c, (numS n).cps.toList[0]? = some c ∧ figB c = true := by
  have z := List.all_eq_true.mp num_fst n (List.mem_range.mpr h)
  cases e : (numS n).cps.toList with
  | nil => rw [e] at z; cases z
  | cons c r => rw [e] at z; exact ⟨c, rfl, z⟩
noncomputable abbrev rwF : Str → Option (List Int) := fun x => if x = Str.ofString "empty" then some [0, 0] else rows6.lookup x
/-- what stays while the stack changes -/
structure MI (K : PySem.W.Frag) (H : Hp) (ls ed : Addr) (L : List V) (H6 : Hp) : Prop where
  sm : Same H H6
  ls' : H6 ls = some (.lst L)
  ex : EndsX K H6 ed rwF (6 + 1)
theorem MI.mono {K : PySem.W.Frag} {H H6 H7 : Hp} {ls ed : Addr} {L : List V} (h : MI K H ls ed L H6) (s : Same H6 H7) : MI K H ls ed L H7 := ⟨h.sm.trans s, s _ _ h.ls', h.ex.mono s⟩
theorem MI.put {K : PySem.W.Frag} {H H6 : Hp} {ls ed st : Addr} {L xs : List V} {o : HO} (h : MI K H ls ed L H6) (g : H6 st = some (.lst xs)) (hst : H st = none) (ne : st ≠ ls) : MI K H ls ed L (L2.upd H6 st o) := ⟨h.sm.put hst, by rw [upd_ne ne.symm]; exact h.ls', h.ex.put g⟩
section
variable {P : Program} {w : World} {K : PySem.W.Frag} {mg : Str → Option Value} {base : Heap}
/-! ### _law_meet -/
noncomputable def spMeet (K : PySem.W.Frag) : Sp := fun vs H Q _ => ∃ (p : Int) (x : Str) (d : Dw), vs = [.str x] ∧ d.ok p ∧ p ≤ 97 ∧ Txt.split x (Str.ofString " ") = d.words.map wdS ∧ d.words.length ≤ 200 ∧ x.length + 2 ≤ sizeLine ∧ ∀ l m H', Same H H' → H' l = some (.lst [.bl (mB d), .int m]) → Q (.ref l) H'
theorem scMee : FnScope ["text", "stack", "good", "most", "rows", "word", "left", "right", "one", "other"] ["text"] (defScope s_law_meet) := ⟨rfl, rfl, rfl, by decide +kernel, rfl, by decide +kernel, by decide +kernel⟩
noncomputable abbrev rInB : List V → Hp → VK → Prop := fun xs H Q => (∃ i, xs = [.int i] ∧ Q (.int i) H) ∨ ∃ k : Bool, xs = [.bl k] ∧ Q (.int (if k then 1 else 0)) H
noncomputable abbrev rInS : R2 := fun x y H Q => ∃ i j, x = .str i ∧ y = .str j ∧ Q (.bl (!(Builtin.Str.occurrences j i 0 j.length 1).isEmpty)) H
noncomputable abbrev rMx3 : List V → Hp → VK → Prop := fun xs H Q => ∃ i j k, xs = [.int i, .int j, .int k] ∧ ∀ m : Int, Q (.int m) H
noncomputable abbrev rAdd : R2 := rI0 fun i j => .int (i + j)
noncomputable def tTop (K : PySem.W.Frag) : TE := tOp (rIxL K) (tVar 1) (tUn (rU fun i => .int (-i)) (tC (.int 1)))
noncomputable def tPopS (K : PySem.W.Frag) : TE := tBM0 K "list" rPop (tVar 1)
noncomputable def tM1 : TS := tIfS (tTest (tOp rInS (tOp rIxS (tVar 5) (tC (.int 0))) (tC (.str figs)))) tCont tNext
noncomputable def tM2 (K : PySem.W.Frag) : TS := tSeq (tAsg (tPopS K) (gTup K 2 (gCons (gName 6) (gCons (gName 7) gNil)))) (tDrop (tBM K "list" rAppend (tVar 1) (tCons (tTup (tCons (tVar 7) (tCons (tVar 6) tNil))) tNil)))
noncomputable def tM6 (K : PySem.W.Frag) : TS := (tDrop (tBM K "list" rAppend (tVar 1) (tCons (tOp (rIxL K) (tLst (tCons (tTup (tCons (tOp (rIxT K) (tVar 8) (tC (.int 0))) (tCons (tOp (rIxT K) (tVar 9) (tC (.int 1))) tNil))) (tCons (tTup (tCons (tOp rAdd (tOp (rIxT K) (tVar 8) (tC (.int 0))) (tOp (rIxT K) (tVar 9) (tC (.int 0)))) (tCons (tOp rAdd (tOp (rIxT K) (tVar 8) (tC (.int 1))) (tOp (rIxT K) (tVar 9) (tC (.int 1)))) tNil))) tNil)))
    (tCB rInB (tCons (tOp rEq (tVar 5) (tC (.str wBs))) tNil))) tNil)))
noncomputable def tM3 (K : PySem.W.Frag) : TS := tSeq (tAsg (tPopS K) (gName 8)) (tSeq (tAsg (tPopS K) (gName 9)) (tSeq (tAsg (tAndV (tVar 2) (tOrV (tOp rEq (tVar 5) (tC (.str wBs))) (tOp rEq (tOp (rIxT K) (tVar 8) (tC (.int 1))) (tOp (rIxT K) (tVar 9) (tC (.int 0)))))) (gName 2)) (tM6 K)))
noncomputable def tM4 (K : PySem.W.Frag) : TS := tDrop (tBM K "list" rAppend (tVar 1) (tCons (tDGet2 (tVar 4) (tVar 5) (tTup (tCons (tC (.int 1)) (tCons (tC (.int 1)) tNil)))) tNil))
noncomputable def tM5 (K : PySem.W.Frag) : TS := tAsg (tCB rMx3 (tCons (tVar 3) (tCons (tOp (rIxT K) (tTop K) (tC (.int 0))) (tCons (tOp (rIxT K) (tTop K) (tC (.int 1))) tNil)))) (gName 3)
noncomputable def tMB (K : PySem.W.Frag) : TS := tSeq tM1 (tSeq (tIfS (tTest (tOp rEq (tVar 5) (tC (.str wBk)))) (tM2 K) (tIfS (tTest (tOp (rIn K false) (tVar 5) (tLst (tCons (tC (.str wBs)) (tCons (tC (.str wTh)) tNil))))) (tM3 K) (tM4 K))) (tM5 K))
noncomputable def tMt (K : PySem.W.Frag) : TS := tSeq (tAsg (tLst tNil) (gName 1)) (tSeq (tAsg (tC (.bl true)) (gName 2)) (tSeq (tAsg (tC (.int 0)) (gName 3)) (tSeq (tAsg (tDisp (tPairsR rows6)) (gName 4)) (tSeq (sDPut (tVar 4) (tC (.str (Str.ofString "empty"))) (tTup (tCons (tC (.int 0)) (tCons (tC (.int 0)) tNil))))
  (tSeq (tFor (iRev K (tCons (tBM K "str" (fun x xs H Q => ∃ y sep, x = .str y ∧ xs = [.str sep] ∧ (sep.length == 0) = false ∧ y.length + 2 ≤ sizeLine ∧ (Txt.split y sep).length ≤ sizeLine ∧ ∀ l, H l = none → Q (.ref l) (upd H l (.lst ((Txt.split y sep).map V.str)))) (tVar 0) (tCons (tC (.str (Str.ofString " "))) tNil)) tNil)) (gName 5) (tMB K)) (tRet (tLst (tCons (tVar 2) (tCons (tVar 3) tNil)))))))))
set_option maxRecDepth 100000 in
theorem ok_meet {f : Addr} {fd : FuncData} (F : Fun K "_law_meet" "_law_meet" s_law_meet f fd) (T : Txt mg) (mRv : mg "reversed" = none) : FnOk P w K mg base CX0 1 f fd ["text"] (spMeet K) := by
  refine F.ok scMee (fun vs H Q E h => ?_) (fun cdv A outer s H vs Q E hr h => ?_)
  · obtain ⟨p, x, d, rfl, _⟩ := h
    rfl
  · obtain ⟨p, x, d, rfl, hd, hp, es, hl, hx, q⟩ := h
    have z : (1000 : Nat) ≤ sizeLine := by decide
    have hu := hr.units
    have hu1 := Nat.lt_of_le_of_lt (Nat.add_le_add_left (show 1 ≤ 64 by decide) _) hu
    refine ⟨tMt K, ?_, ?_⟩
    · unfold tMt
      refine pss_cons ?_ ?_
      · exact ps_set (i := 1) scMee.nd rfl (Or.inl rfl) (pe_lst pa_nil)
      refine pss_cons ?_ ?_
      · exact ps_set (i := 2) scMee.nd rfl (Or.inl rfl) pe_bl
      refine pss_cons ?_ ?_
      · exact ps_set (i := 3) scMee.nd rfl (Or.inl rfl) pe_int
      refine pss_cons ?_ ?_
      · refine ps_set ?_ ?_ ?_ ?_ ?_ ?_
        · exact scMee.nd
        · rfl
        · exact Or.inl rfl
        · refine pe_cDisp ?_ ?_ ?_
          · kernel_rfl
          · decide
          · decide
        · rfl
        · exact .inl rfl
      refine pss_cons ?_ ?_
      · exact ps_dput hu1 (pv 4) pe_str (pe_tup (pa_cons pe_int (pa_cons pe_int pa_nil))) rfl
      refine pss_cons ?_ ?_
      · refine ps_for PassesOwn.never rfl ?_ ?_ ?_
        · refine pi_rev K rfl rfl mRv ?_
          refine pa_cons ?_ pa_nil ?_
          · exact pe_bm PySem.F.plainAttrs_str PySem.F.slot_str_split PySem.F.type_str_split mt_split (pv 0) (pa_cons pe_str pa_nil)
          · rfl
        · exact pg_name (i := 5) scMee.nd rfl (Or.inl rfl)
        · unfold tMB
          refine pss_cons ?_ ?_
          · exact ps_if (pt_cmpR op_in_str (pe_ix ix_str (pv 5) pe_int (fun _ _ => rfl)) pe_str rfl) (pss_one ps_continue) pss_nil
          refine pss_cons ?_ ?_
          · refine ps_if ?_ ?_ ?_
            · exact pt_cmpR op_eq (pv 5) pe_str (nomark _)
            · unfold tM2 tPopS
              refine pss_cons ?_ ?_
              · exact ps_asg (pe_pop K rfl (pv 1)) (pgTup (n := 2) K rfl rfl (pgs_cons (pg_name (i := 6) scMee.nd rfl (Or.inl rfl)) (pgs_cons (pg_name (i := 7) scMee.nd rfl (Or.inl rfl)) pgs_nil)))
              exact pss_one (ps_expr (pe_bm PySem.F.plainAttrs_list PySem.F.slot_list_append PySem.F.type_list_append mt_append (pv 1) (pa_cons (pe_tup (pa_cons (pv 7) (pa_cons (pv 6) pa_nil))) pa_nil)))
            · refine pss_one ?_
              refine ps_if ?_ ?_ ?_
              · exact pt_cmpR (opIn K rfl) (pv 5) (pe_lst (pa_cons pe_str (pa_cons pe_str pa_nil))) rfl
              · unfold tM3 tPopS tM6
                refine pss_cons ?_ ?_
                · exact ps_set (i := 8) scMee.nd rfl (Or.inl rfl) (pe_pop K rfl (pv 1))
                refine pss_cons ?_ ?_
                · exact ps_set (i := 9) scMee.nd rfl (Or.inl rfl) (pe_pop K rfl (pv 1))
                refine pss_cons ?_ ?_
                · exact ps_set (i := 2) scMee.nd rfl (Or.inl rfl) (pe_and (pv 2) (pe_one (pe_or (pe_cmpR op_eq (pv 5) pe_str (nomark _)) (pe_one (pe_cmpR op_eq (pe_ix (ixT K rfl) (pv 8) pe_int (fun _ _ => rfl)) (pe_ix (ixT K rfl) (pv 9) pe_int (fun _ _ => rfl)) (nomark _))))))
                exact pss_one (ps_expr (pe_bm PySem.F.plainAttrs_list PySem.F.slot_list_append PySem.F.type_list_append mt_append (pv 1) (pa_cons (pe_ix (ixL K rfl) (pe_lst (pa_cons (pe_tup (pa_cons (pe_ix (ixT K rfl) (pv 8) pe_int (fun _ _ => rfl)) (pa_cons (pe_ix (ixT K rfl) (pv 9) pe_int (fun _ _ => rfl)) pa_nil))) (pa_cons (pe_tup (pa_cons (pe_op op_add (pe_ix (ixT K rfl) (pv 8) pe_int (fun _ _ => rfl)) (pe_ix (ixT K rfl) (pv 9) pe_int (fun _ _ => rfl))) (pa_cons (pe_op op_add (pe_ix (ixT K rfl) (pv 8) pe_int (fun _ _ => rfl)) (pe_ix (ixT K rfl) (pv 9) pe_int (fun _ _ => rfl))) pa_nil))) pa_nil)))
                  (pe_callTy call_int1 rfl T.int bt_int (pa_cons (pe_cmpR op_eq (pv 5) pe_str (nomark _)) pa_nil)) (fun _ _ => rfl)) pa_nil)))
              · unfold tM4
                exact pss_one (ps_expr (pe_bm PySem.F.plainAttrs_list PySem.F.slot_list_append PySem.F.type_list_append mt_append (pv 1) (pa_cons (pe_dget2 hu1 (pv 4) (pv 5) (pe_tup (pa_cons pe_int (pa_cons pe_int pa_nil))) ⟨rfl, rfl, rfl, rfl⟩) pa_nil)))
          · unfold tM5 tTop
            exact pss_one (ps_set (i := 3) scMee.nd rfl (Or.inl rfl) (pe_callB (call_max3 rfl) rfl T.max bt_max (pa_cons (pv 3) (pa_cons (pe_ix (ixT K rfl) (pe_ix (ixL K rfl) (pv 1) (pe_un un_neg pe_int) (fun _ _ => rfl)) pe_int (fun _ _ => rfl)) (pa_cons (pe_ix (ixT K rfl) (pe_ix (ixL K rfl) (pv 1) (pe_un un_neg pe_int) (fun _ _ => rfl)) pe_int (fun _ _ => rfl)) pa_nil)))))
      exact pss_one (ps_ret (pe_lst (pa_cons (pv 2) (pa_cons (pv 3) pa_nil))))
    unfold tMt
    refine ⟨by show 0 ≤ sizeLine; lia, fun st hst => ?_⟩
    have s0 := Same.upd hst (o := .lst [])
    have g0 : (upd H st (.lst [])) st = some (.lst []) := upd_same
    generalize upd H st (.lst []) = HA at s0 g0 ⊢
    show tSeq (tAsg (tDisp (tPairsR rows6)) (gName 4)) _ _ [some (.str x), some (.ref st), some (.bl true), some (.int 0), none, none, none, none, none, none] HA
    refine seqP ?_
    refine dispR_read (K := K) (L := rows6) (by decide) (by decide) (by decide) fun ed kvs H2 hed s2 ge hD => ?_
    have E1 : EndsX K H2 ed (fun x => rows6.lookup x) 6 := ⟨kvs, ge, by
      have := congrArg List.length hD.keys
      rw [List.length_map, List.length_map] at this
      rw [this]
      decide, fun x => by
      rcases hD.get x with ⟨r, v, h1, h2, h3⟩ | h
      · exact .inl ⟨r, v, h1, h2, h3⟩
      · exact .inr h⟩
    refine seqQ ?_
    refine put_read (iD := 4) rfl E1 (by decide) s2 hed fun H3 s3 E2 => ?_
    have g3 := s3 _ _ g0
    have sm3 := s0.trans s3
    refine seqQ ?_
    refine ⟨_, rfl, rfl, _, _, rfl, rfl, by decide, hx, by rw [es, List.length_map]; lia, fun ls hls => ?_⟩
    rw [es]
    have s4 := Same.upd hls (o := .lst ((d.words.map wdS).map V.str))
    have gs : (upd H3 ls (.lst ((d.words.map wdS).map V.str))) ls = some (.lst ((d.words.map wdS).map V.str)) := upd_same
    have ne0 : st ≠ ls := ne_of_none g3 hls
    have g4 := s4 _ _ g3
    have sm4 := sm3.trans s4
    have E4 := E2.mono s4
    generalize upd H3 ls (.lst ((d.words.map wdS).map V.str)) = H4 at s4 gs g4 sm4 E4 ⊢
    have ew : ([It2.drw d]).flatMap It2.words = d.words := by simp [It2.words]
    have hwf : ∀ t ∈ [It2.drw d], t.ok p := fun t ht => by rw [List.mem_singleton.mp ht]; exact hd
    have en : ((d.words.map wdS).map V.str).length = d.words.length := by rw [List.length_map, List.length_map]
    have e0 : sf2 [It2.drw d] d.words.length = [] := by have := sf2_end (ts := [It2.drw d]); rw [ew] at this; exact this
    refine ⟨ls, _, rfl, .of gs, for_rev (xs := (d.words.map wdS).map V.str) (fun j σ H' => Same H H' ∧ H' ls = some (.lst ((d.words.map wdS).map V.str)) ∧ EndsX K H' ed (fun x => if x = Str.ofString "empty" then some [0, 0] else rows6.lookup x) (6 + 1) ∧
      ∃ us m s5 s6 s7 s8 s9, σ = [some (.str x), some (.ref st), some (.bl ((sf2 [It2.drw d] (d.words.length - j)).all itB)), some (.int m), some (.ref ed), s5, s6, s7, s8, s9] ∧ H' st = some (.lst us.reverse) ∧ PrU K H' us ((sf2 [It2.drw d] (d.words.length - j)).filterMap itS) ∧ us.length ≤ j)
      ⟨sm4, gs, E4, [], 0, none, none, none, none, none, by rw [Nat.sub_zero, e0]; rfl, g4, by rw [Nat.sub_zero, e0]; exact .nil, Nat.le_refl _⟩ (fun k σ H' ⟨_, e, _⟩ => .of e) ?_ ?_⟩
    · rintro j x' σ H5 hx' ⟨sm, gls, EX, us, m, s5, s6, s7, s8, s9, rfl, gst, hP, hul⟩
      have hj : j < d.words.length := by
        have := (List.getElem?_eq_some_iff.mp hx').1
        rwa [List.length_reverse, en] at this
      obtain ⟨i, hi⟩ : ∃ i, d.words.length - j = i + 1 := ⟨d.words.length - j - 1, by lia⟩
      have hi1 : d.words.length - (j + 1) = i := by lia
      have hil : i < d.words.length := by lia
      rw [List.getElem?_reverse (by rw [en]; exact hj), en, show d.words.length - 1 - j = i by lia, List.getElem?_map, List.getElem?_map] at hx'
      obtain ⟨t, r, e1, e2, e3⟩ := sf2_at (ts := [It2.drw d]) (i := i) (by rw [ew]; exact hil)
      rw [ew] at e2
      rw [e2] at hx'
      have hx' : V.str (wdS t.head) = x' := Option.some.inj hx'
      subst hx'
      have hti : t.ok p := sf2_ok i hwf t (by rw [e1]; exact List.mem_cons_self)
      rw [hi, e3] at hP
      rw [hi, e3, hi1, e1]
      unfold tMB
      dsimp only [gName]
      refine seqQ ?_
      unfold tM1
      have M0 : MI K H ls ed ((d.words.map wdS).map V.str) H5 := ⟨sm, gls, EX⟩
      have hwk := Dw.wds hd t.head (List.mem_of_getElem? e2)
      rcases hwk with ⟨y, hh, hy⟩ | ⟨n, hh, hn⟩
      case inr =>
        rw [hh]
        obtain ⟨c, hc, hf⟩ := fst_n (n := n) (by lia)
        have hl2 : (numS n).length ≤ 2 := by rw [(num_is (n := n) (by lia)).len]; split <;> lia
        refine ⟨_, rfl, numS n, 0, c, rfl, rfl, by lia, atI_nat (j := 0) hc, _, _, rfl, rfl, _, rfl, iteB hf ?_⟩
        cases t with
        | num k => exact ⟨sm, gls, EX, us, m, _, s6, s7, s8, s9, rfl, gst, hP, by lia⟩
        | drw d' => cases d' <;> cases hh
      rw [hh]
      show tIfS _ _ _ _ [some (.str x), some (.ref st), some (.bl ((t.kids ++ r).all itB)), some (.int m), some (.ref ed), some (.str y), s6, s7, s8, s9] H5
      obtain ⟨⟨c, hc, hf⟩, hl10⟩ := fst_w hy
      refine ⟨_, rfl, y, 0, c, rfl, rfl, by lia, atI_nat (j := 0) hc, _, _, rfl, rfl, _, rfl, iteN hf ?_⟩
      -- the end of a turn
      have fin : ∀ {H6 : Hp} {b : Addr} {us' : List V} {qq : Nat × Nat} {g : Bool} {s5 s6 s7 s8 s9 : Option V} {D : Ends}, MI K H ls ed ((d.words.map wdS).map V.str) H6 → H6 st = some (.lst (us'.reverse ++ [.ref b])) → SqT K H6 b (pU qq) → PrU K H6 us' (r.filterMap itS) → us'.length ≤ j → itS t = some qq → g = (t :: r).all itB →
          (∀ σ H', (Same H H' ∧ H' ls = some (.lst ((d.words.map wdS).map V.str)) ∧ EndsX K H' ed (fun x => if x = Str.ofString "empty" then some [0, 0] else rows6.lookup x) (6 + 1) ∧ ∃ us m s5 s6 s7 s8 s9, σ = [some (.str x), some (.ref st), some (.bl ((t :: r).all itB)), some (.int m), some (.ref ed), s5, s6, s7, s8, s9] ∧ H' st = some (.lst us.reverse) ∧ PrU K H' us ((t :: r).filterMap itS) ∧ us.length ≤ j + 1) → D.nx σ H') →
          tM5 K D [some (.str x), some (.ref st), some (.bl g), some (.int m), some (.ref ed), s5, s6, s7, s8, s9] H6 := by
        intro H6 b us' qq g s5 s6 s7 s8 s9 D M g6 hb hr' hul' hit hg hN
        subst hg
        unfold tM5 tTop
        refine ⟨_, rfl, _, rfl, _, rfl, st, _, -1, .ref b, rfl, rfl, .of g6, atI_last _ _, b, _, 0, _, rfl, rfl, hb, atI_nat (j := 0) rfl, _, rfl, _, rfl, st, _, -1, .ref b, rfl, rfl, .of g6, atI_last _ _, b, _, 1, _, rfl, rfl, hb, atI_nat (j := 1) rfl, _, _, _, rfl, fun m' => hN _ _ ?_⟩
        refine ⟨M.sm, M.ls', M.ex, .ref b :: us', m', s5, s6, s7, s8, s9, rfl, by rw [List.reverse_cons]; exact g6, ?_, by rw [List.length_cons]; lia⟩
        rw [List.filterMap_cons, hit]
        exact .cons hb hr'
      have szu : us.reverse.length + 2 ≤ sizeLine := by rw [List.length_reverse]; lia
      refine seqQ ?_
      refine ⟨_, rfl, rfl, _, rfl, ?_⟩
      obtain ⟨bt1, bt2, bt3, bt4, bt5, _⟩ := bt_in
      -- a box
      have box : ∀ {l' r' : Nat} {D : Ends}, (rowsF y).getD [1, 1] = [(l' : Int), (r' : Int)] → y ≠ wBk → inV (.str y) [V.str wBs, .str wTh] = false → itS t = some (l', r') → t.kids.filterMap itS = [] → t.kids.all itB = true → itB t = true →
          (∀ σ H', (Same H H' ∧ H' ls = some (.lst ((d.words.map wdS).map V.str)) ∧ EndsX K H' ed (fun x => if x = Str.ofString "empty" then some [0, 0] else rows6.lookup x) (6 + 1) ∧ ∃ us m s5 s6 s7 s8 s9, σ = [some (.str x), some (.ref st), some (.bl ((t :: r).all itB)), some (.int m), some (.ref ed), s5, s6, s7, s8, s9] ∧ H' st = some (.lst us.reverse) ∧ PrU K H' us ((t :: r).filterMap itS) ∧ us.length ≤ j + 1) → D.nx σ H') →
          (if decide (V.str y = V.str wBk) = true then tM2 K { D with nx := tM5 K D } [some (.str x), some (.ref st), some (.bl ((t.kids ++ r).all itB)), some (.int m), some (.ref ed), some (.str y), s6, s7, s8, s9] H5 else tIfS (tTest (tOp (rIn K false) (tVar 5) (tLst (tCons (tC (.str wBs)) (tCons (tC (.str wTh)) tNil))))) (tM3 K) (tM4 K) { D with nx := tM5 K D } [some (.str x), some (.ref st), some (.bl ((t.kids ++ r).all itB)), some (.int m), some (.ref ed), some (.str y), s6, s7, s8, s9] H5) := by
        intro l' r' D er nb nin hit hk1 hk2 hit2 hN
        refine iteN (by simpa using nb) ?_
        refine ⟨_, rfl, by show 2 ≤ sizeLine; lia, fun la hla => ⟨la, _, rfl, .inl (.of upd_same), rfl, rfl, _, rfl, iteN (by show inV (.str y) _ = false; exact nin) ?_⟩⟩
        have sA := Same.upd hla (o := .lst [V.str wBs, .str wTh])
        have M1 := M0.mono sA
        have gst1 := sA _ _ gst
        have hP1 := hP.tup sA.tup
        generalize upd H5 la (.lst [V.str wBs, .str wTh]) = H6 at sA M1 gst1 hP1 ⊢
        unfold tM4
        obtain ⟨kvs2, g2, gl2, hx2⟩ := M1.ex
        refine ⟨_, rfl, .inl ⟨rfl, _, .of gst1⟩, _, rfl, ed, rfl, .inl ⟨_, .of g2⟩, _, rfl, by show 2 ≤ sizeLine; lia, fun t1 h1 => ⟨_, DGet.k (k := .inr y) (Same.upd h1 _ _ g2), ?_⟩⟩
        have sB := Same.upd h1 (o := .tup [.int 1, .int 1])
        obtain ⟨bt, hg, hbt⟩ : ∃ bt, (valV (κ := Key) kvs2 (.inr y)).getD (.ref t1) = V.ref bt ∧ SqT K (upd H6 t1 (.tup [.int 1, .int 1])) bt (pU (l', r')) := by
          rcases hx2 y with ⟨row, v, e1, e2, e3⟩ | ⟨e1, e2⟩
          · have e1 : rowsF y = some row := e1
            rw [e1] at er
            have er : row = [(l' : Int), (r' : Int)] := er
            subst er
            exact ⟨v, by rw [e2]; rfl, sB.seqT e3⟩
          · have e1 : rowsF y = none := e1
            rw [e1] at er
            have er : [(1 : Int), 1] = [(l' : Int), (r' : Int)] := er
            refine ⟨t1, by rw [e2]; rfl, ?_⟩
            injection er with a1 a2
            injection a2 with a2 _
            unfold pU
            rw [← a1, ← a2]
            exact .of upd_same
        rw [hg]
        refine ⟨st, _, .ref bt, rfl, rfl, sB _ _ gst1, by lia, ?_⟩
        rw [List.filterMap_append, hk1, List.nil_append] at hP1
        have tp : Tup (upd H6 t1 (.tup [.int 1, .int 1])) (upd (upd H6 t1 (.tup [.int 1, .int 1])) st (.lst (us.reverse ++ [.ref bt]))) := Tup.lst (sB _ _ gst1)
        refine fin ((M1.mono sB).put (sB _ _ gst1) hst ne0) upd_same (tp.seqT hbt) ((hP1.tup sB.tup).tup tp) hul hit ?_ hN
        rw [List.all_append, hk2, List.all_cons, hit2]
      -- two of them
      have ap : ∀ {H6 : Hp} {g : Bool} {oa ob : Addr} {vs : List V} {qa qb : Nat × Nat} {D : Ends} {s6 s7 : Option V} (isB : Bool), y = (if isB then wBs else wTh) → MI K H ls ed ((d.words.map wdS).map V.str) H6 → H6 st = some (.lst vs.reverse) → SqT K H6 oa (pU qa) → SqT K H6 ob (pU qb) → PrU K H6 vs (r.filterMap itS) → vs.length ≤ j →
          itS t = some (if isB then (qa.1 + qb.1, qa.2 + qb.2) else (qa.1, qb.2)) → g = (t :: r).all itB → (∀ σ H', (Same H H' ∧ H' ls = some (.lst ((d.words.map wdS).map V.str)) ∧ EndsX K H' ed (fun x => if x = Str.ofString "empty" then some [0, 0] else rows6.lookup x) (6 + 1) ∧ ∃ us m s5 s6 s7 s8 s9, σ = [some (.str x), some (.ref st), some (.bl ((t :: r).all itB)), some (.int m), some (.ref ed), s5, s6, s7, s8, s9] ∧ H' st = some (.lst us.reverse) ∧ PrU K H' us ((t :: r).filterMap itS) ∧ us.length ≤ j + 1) → D.nx σ H') →
          tM6 K { D with nx := tM5 K D } [some (.str x), some (.ref st), some (.bl g), some (.int m), some (.ref ed), some (.str y), s6, s7, some (.ref oa), some (.ref ob)] H6 := by
        intro H6 g oa ob vs qa qb D s6 s7 isB ey M g6 ha hb hr' hvl hit hg hN
        unfold tM6
        refine ⟨_, rfl, .inl ⟨rfl, _, .of g6⟩, _, rfl, oa, _, 0, _, rfl, rfl, ha, atI_nat (j := 0) rfl, _, rfl, ob, _, 1, _, rfl, rfl, hb, atI_nat (j := 1) rfl, by show 2 ≤ sizeLine; lia, fun t2 h2 => ?_⟩
        have q2 := Same.upd h2 (o := .tup (pU (qa.1, qb.2)))
        refine ⟨_, rfl, oa, _, 0, _, rfl, rfl, q2.seqT ha, atI_nat (j := 0) rfl, _, rfl, ob, _, 0, _, rfl, rfl, q2.seqT hb, atI_nat (j := 0) rfl, _, _, rfl, rfl, _, rfl, oa, _, 1, _, rfl, rfl, q2.seqT ha, atI_nat (j := 1) rfl, _, rfl, ob, _, 1, _, rfl, rfl, q2.seqT hb, atI_nat (j := 1) rfl, _, _, rfl, rfl, by show 2 ≤ sizeLine; lia, fun t3 h3 => ⟨by show 2 ≤ sizeLine; lia, fun l4 h4 => ?_⟩⟩
        have q3 := Same.upd h3 (o := .tup [.int ((qa.1 : Int) + (qb.1 : Int)), .int ((qa.2 : Int) + (qb.2 : Int))])
        have q4 := Same.upd h4 (o := .lst [.ref t2, .ref t3])
        have sA : Same H6 (upd (upd (upd H6 t2 (.tup (pU (qa.1, qb.2)))) t3 (.tup [.int ((qa.1 : Int) + (qb.1 : Int)), .int ((qa.2 : Int) + (qb.2 : Int))])) l4 (.lst [.ref t2, .ref t3])) := q2.trans (q3.trans q4)
        have gt2 : SqT K (upd (upd (upd H6 t2 (.tup (pU (qa.1, qb.2)))) t3 (.tup [.int ((qa.1 : Int) + (qb.1 : Int)), .int ((qa.2 : Int) + (qb.2 : Int))])) l4 (.lst [.ref t2, .ref t3])) t2 (pU (qa.1, qb.2)) := (q3.trans q4).seqT (.of upd_same)
        have gt3 : SqT K (upd (upd (upd H6 t2 (.tup (pU (qa.1, qb.2)))) t3 (.tup [.int ((qa.1 : Int) + (qb.1 : Int)), .int ((qa.2 : Int) + (qb.2 : Int))])) l4 (.lst [.ref t2, .ref t3])) t3 (pU (qa.1 + qb.1, qa.2 + qb.2)) := by
          unfold pU
          rw [Int.natCast_add, Int.natCast_add]
          exact q4.seqT (.of upd_same)
        have gl4 : (upd (upd (upd H6 t2 (.tup (pU (qa.1, qb.2)))) t3 (.tup [.int ((qa.1 : Int) + (qb.1 : Int)), .int ((qa.2 : Int) + (qb.2 : Int))])) l4 (.lst [.ref t2, .ref t3])) l4 = some (.lst [.ref t2, .ref t3]) := upd_same
        have M7 := M.mono sA
        have g7 := sA _ _ g6
        have hr7 := hr'.tup sA.tup
        show tOp rEq (tVar 5) (tC (.str wBs)) _ (upd (upd (upd H6 t2 (.tup (pU (qa.1, qb.2)))) t3 (.tup [.int ((qa.1 : Int) + (qb.1 : Int)), .int ((qa.2 : Int) + (qb.2 : Int))])) l4 (.lst [.ref t2, .ref t3])) _
        generalize upd (upd (upd H6 t2 (.tup (pU (qa.1, qb.2)))) t3 (.tup [.int ((qa.1 : Int) + (qb.1 : Int)), .int ((qa.2 : Int) + (qb.2 : Int))])) l4 (.lst [.ref t2, .ref t3]) = H7 at sA gt2 gt3 gl4 M7 g7 hr7 ⊢
        have hsz : vs.reverse.length < sizeLine := by rw [List.length_reverse]; lia
        have tp : ∀ {o : HO}, Tup H7 (upd H7 st o) := Tup.lst g7
        cases isB with
        | true =>
          refine ⟨_, rfl, rfl, .inr ⟨_, rfl, l4, _, 1, .ref t3, rfl, ?_, .of gl4, atI_nat (j := 1) rfl, ?_⟩⟩
          · rw [decide_eq_true (show V.str y = V.str wBs by rw [ey]; rfl)]; rfl
          · exact ⟨st, _, .ref t3, rfl, rfl, g7, hsz, fin (M7.put g7 hst ne0) upd_same (tp.seqT gt3) (hr7.tup tp) hvl hit hg hN⟩
        | false =>
          refine ⟨_, rfl, rfl, .inr ⟨_, rfl, l4, _, 0, .ref t2, rfl, ?_, .of gl4, atI_nat (j := 0) rfl, ?_⟩⟩
          · rw [decide_eq_false (show ¬ V.str y = V.str wBs from fun z => bt5 (by rw [ey] at z; exact V.str.inj z))]; rfl
          · exact ⟨st, _, .ref t2, rfl, rfl, g7, hsz, fin (M7.put g7 hst ne0) upd_same (tp.seqT gt2) (hr7.tup tp) hvl hit hg hN⟩
      cases t with
      | num k => cases hh
      | drw d' =>
        cases d' with
        | box y' l' r' =>
          cases hh
          obtain ⟨o1, o2, o3, _⟩ := rowsF_bx _ hti
          exact box o1 o2 o3 rfl rfl rfl rfl fun σ H' h => h
        | times n' =>
          cases hh
          obtain ⟨o1, o2, o3⟩ := rowsF_ts
          exact box (l' := 1) (r' := 1) o1 o2 o3 rfl rfl rfl rfl fun σ H' h => h
        | back d1 =>
          cases hh
          refine iteB (by simp) ?_
          cases hP with
          | @cons a q0 vs qs ha hr0 =>
            unfold tM2 tPopS
            refine ⟨_, rfl, .inl ⟨rfl, _, .of gst⟩, st, _, .ref a, rfl, rfl, gst, by simp, ?_⟩
            rw [List.reverse_cons, List.dropLast_concat]
            have tp := Tup.lst (o := .lst vs.reverse) gst
            have M1 := M0.put (o := .lst vs.reverse) gst hst ne0
            have g1 : (upd H5 st (.lst vs.reverse)) st = some (.lst vs.reverse) := upd_same
            have ha1 := tp.seqT ha
            have hr1 := hr0.tup tp
            generalize upd H5 st (.lst vs.reverse) = H6 at tp M1 g1 ha1 hr1 ⊢
            refine ⟨a, _, rfl, ha1, rfl, _, _, rfl, _, _, rfl, rfl, ?_⟩
            refine ⟨_, rfl, .inl ⟨rfl, _, .of g1⟩, _, rfl, _, rfl, by show 2 ≤ sizeLine; lia, fun tb htb => ⟨st, _, .ref tb, rfl, rfl, (Same.upd htb) _ _ g1, by rw [List.length_reverse]; rw [List.length_reverse, List.length_cons] at szu; lia, ?_⟩⟩
            have sB := Same.upd htb (o := .tup [.int (d1.sides.2 : Int), .int (d1.sides.1 : Int)])
            have tp2 : Tup (upd H6 tb (.tup [.int (d1.sides.2 : Int), .int (d1.sides.1 : Int)])) (upd (upd H6 tb (.tup [.int (d1.sides.2 : Int), .int (d1.sides.1 : Int)])) st (.lst (vs.reverse ++ [.ref tb]))) := Tup.lst (sB _ _ g1)
            exact fin (qq := (d1.sides.2, d1.sides.1)) ((M1.mono sB).put (sB _ _ g1) hst ne0) upd_same (tp2.seqT (.of upd_same)) ((hr1.tup sB.tup).tup tp2) (by rw [List.length_cons] at hul; lia) rfl rfl fun σ H' h => h
        | beside a b =>
          cases hh
          refine iteN (by simpa using bt3) ?_
          refine ⟨_, rfl, by show 2 ≤ sizeLine; lia, fun la hla => ⟨la, _, rfl, .inl (.of upd_same), rfl, rfl, _, rfl, iteB (by show inV (.str wBs) _ = true; exact bt1) ?_⟩⟩
          have sA := Same.upd hla (o := .lst [V.str wBs, .str wTh])
          have M1 := M0.mono sA
          have gst1 := sA _ _ gst
          have hP1 := hP.tup sA.tup
          generalize upd H5 la (.lst [V.str wBs, .str wTh]) = H6 at sA M1 gst1 hP1 ⊢
          cases hP1 with
          | @cons oa qa vs1 qs1 ha hr0 =>
            cases hr0 with
            | @cons ob qb vs qs hb hr0 =>
              unfold tM3 tPopS
              refine ⟨_, rfl, .inl ⟨rfl, _, .of gst1⟩, st, _, .ref oa, rfl, rfl, gst1, by simp, ?_⟩
              rw [List.reverse_cons, List.dropLast_concat]
              have tp1 := Tup.lst (o := .lst (V.ref ob :: vs).reverse) gst1
              have M2 := M1.put (o := .lst (V.ref ob :: vs).reverse) gst1 hst ne0
              have g2 : (upd H6 st (.lst (V.ref ob :: vs).reverse)) st = some (.lst (V.ref ob :: vs).reverse) := upd_same
              have ha := tp1.seqT ha
              have hb := tp1.seqT hb
              have hr0 := hr0.tup tp1
              generalize upd H6 st (.lst (V.ref ob :: vs).reverse) = H7 at tp1 M2 g2 ha hb hr0 ⊢
              refine ⟨_, rfl, .inl ⟨rfl, _, .of g2⟩, st, _, .ref ob, rfl, rfl, g2, by simp, ?_⟩
              rw [List.reverse_cons, List.dropLast_concat]
              have tp2 := Tup.lst (o := .lst vs.reverse) g2
              have M3 := M2.put (o := .lst vs.reverse) g2 hst ne0
              have g3 : (upd H7 st (.lst vs.reverse)) st = some (.lst vs.reverse) := upd_same
              have ha := tp2.seqT ha
              have hb := tp2.seqT hb
              have hr0 := hr0.tup tp2
              generalize upd H7 st (.lst vs.reverse) = H8 at tp2 M3 g3 ha hb hr0 ⊢
              have hvl : vs.length ≤ j := by rw [List.length_cons, List.length_cons] at hul; lia
              refine ⟨_, rfl, _, rfl, ?_⟩
              generalize hg : ((It2.drw (Dw.beside a b)).kids ++ r).all itB = g0
              have hg : ([It2.drw a, It2.drw b] ++ r).all itB = g0 := hg
              rw [List.all_append] at hg
              have hg : ((mB a && (mB b && true)) && r.all itB) = g0 := hg
              cases g0 with
              | false =>
                have hg' : ((It2.drw (.beside a b)) :: r).all itB = false := (mb_b a b _).trans hg
                refine iteF ?_
                exact ap true rfl M3 g3 ha hb hr0 hvl rfl hg'.symm fun σ H' h => h
              | true =>
                have hg' : ((It2.drw (.beside a b)) :: r).all itB = true := (mb_b a b _).trans hg
                refine iteT ⟨_, rfl, rfl, _, rfl, iteB (by simp) ?_⟩
                exact ap true rfl M3 g3 ha hb hr0 hvl rfl hg'.symm fun σ H' h => h
        | thn a b =>
          cases hh
          refine iteN (by simpa using bt4) ?_
          refine ⟨_, rfl, by show 2 ≤ sizeLine; lia, fun la hla => ⟨la, _, rfl, .inl (.of upd_same), rfl, rfl, _, rfl, iteB (by show inV (.str wTh) _ = true; exact bt2) ?_⟩⟩
          have sA := Same.upd hla (o := .lst [V.str wBs, .str wTh])
          have M1 := M0.mono sA
          have gst1 := sA _ _ gst
          have hP1 := hP.tup sA.tup
          generalize upd H5 la (.lst [V.str wBs, .str wTh]) = H6 at sA M1 gst1 hP1 ⊢
          cases hP1 with
          | @cons oa qa vs1 qs1 ha hr0 =>
            cases hr0 with
            | @cons ob qb vs qs hb hr0 =>
              unfold tM3 tPopS
              refine ⟨_, rfl, .inl ⟨rfl, _, .of gst1⟩, st, _, .ref oa, rfl, rfl, gst1, by simp, ?_⟩
              rw [List.reverse_cons, List.dropLast_concat]
              have tp1 := Tup.lst (o := .lst (V.ref ob :: vs).reverse) gst1
              have M2 := M1.put (o := .lst (V.ref ob :: vs).reverse) gst1 hst ne0
              have g2 : (upd H6 st (.lst (V.ref ob :: vs).reverse)) st = some (.lst (V.ref ob :: vs).reverse) := upd_same
              have ha := tp1.seqT ha
              have hb := tp1.seqT hb
              have hr0 := hr0.tup tp1
              generalize upd H6 st (.lst (V.ref ob :: vs).reverse) = H7 at tp1 M2 g2 ha hb hr0 ⊢
              refine ⟨_, rfl, .inl ⟨rfl, _, .of g2⟩, st, _, .ref ob, rfl, rfl, g2, by simp, ?_⟩
              rw [List.reverse_cons, List.dropLast_concat]
              have tp2 := Tup.lst (o := .lst vs.reverse) g2
              have M3 := M2.put (o := .lst vs.reverse) g2 hst ne0
              have g3 : (upd H7 st (.lst vs.reverse)) st = some (.lst vs.reverse) := upd_same
              have ha := tp2.seqT ha
              have hb := tp2.seqT hb
              have hr0 := hr0.tup tp2
              generalize upd H7 st (.lst vs.reverse) = H8 at tp2 M3 g3 ha hb hr0 ⊢
              have hvl : vs.length ≤ j := by rw [List.length_cons, List.length_cons] at hul; lia
              refine ⟨_, rfl, _, rfl, ?_⟩
              generalize hg : ((It2.drw (Dw.thn a b)).kids ++ r).all itB = g0
              have hg : ([It2.drw a, It2.drw b] ++ r).all itB = g0 := hg
              rw [List.all_append] at hg
              have hg : ((mB a && (mB b && true)) && r.all itB) = g0 := hg
              cases g0 with
              | false =>
                have hg' : ((It2.drw (.thn a b)) :: r).all itB = false := mb_f a b _ hg
                refine iteF ?_
                exact ap false rfl M3 g3 ha hb hr0 hvl rfl hg'.symm fun σ H' h => h
              | true =>
                have hg' : ((It2.drw (.thn a b)) :: r).all itB = decide (V.int (a.sides.2 : Int) = V.int (b.sides.1 : Int)) := mb_t a b _ hg
                refine iteT ⟨_, rfl, rfl, _, rfl, iteN (by simpa using bt5) ?_⟩
                refine ⟨_, rfl, oa, _, 1, _, rfl, rfl, ha, atI_nat (j := 1) rfl, _, rfl, ob, _, 0, _, rfl, rfl, hb, atI_nat (j := 0) rfl, rfl, ?_⟩
                exact ap false rfl M3 g3 ha hb hr0 hvl rfl hg'.symm fun σ H' h => h
    · rintro σ H5 ⟨sm, gls, EX, us, m, s5, s6, s7, s8, s9, rfl, gst, hP, hul⟩
      rw [en, Nat.sub_self]
      refine ⟨_, rfl, _, rfl, by show 2 ≤ sizeLine; lia, fun l hl => ?_⟩
      have e : (sf2 [It2.drw d] 0).all itB = mB d := by show (mB d && true) = mB d; rw [Bool.and_true]
      rw [e]
      exact q l m _ (sm.trans (.upd hl)) upd_same
end
end S21
namespace S21
open PySem L2 Bw
set_option maxHeartbeats 3900000
/-! ### the program's own tables (k14) -/
noncomputable def aOf (K : PySem.W.Frag) (x : Str) : Addr := match PySem.W.nsIn K mainGlobals x with
  | some (some (.ref a)) => a
  | _ => 0
noncomputable def refIn (K : PySem.W.Frag) (x : Str) : Bool := match PySem.W.nsIn K mainGlobals x with
  | some (some (.ref _)) => true
  | _ => false
theorem aOf_is {K : PySem.W.Frag} {x : Str} (h : refIn K x = true) : PySem.W.nsIn K mainGlobals x = some (some (.ref (aOf K x))) := by
  unfold refIn at h
  split at h
  case h_2 => cases h
  case h_1 a e =>
    unfold aOf
    rw [e]
noncomputable def figIn (K : PySem.W.Frag) : Bool := match PySem.W.nsIn K mainGlobals "FIGURES" with
  | some (some (.str x _)) => x == figs
  | _ => false
noncomputable def tabs11 (K : PySem.W.Frag) : Bool := refIn K "PARTS" && refIn K "SIDES" && okTab K (aOf K "PARTS") && decide (tabV K (aOf K "PARTS") = dParts) && sidesOk K (aOf K "SIDES") && figIn K
section
variable {K : PySem.W.Frag} {h : Heap} {mg : Str → Option Value}
theorem parts11 (X : K.In h) (G : h.Ns mainGlobals mg) (e : tabs11 K = true) : Parts K mg (aOf K "PARTS") := by
  simp only [tabs11, Bool.and_eq_true, decide_eq_true_eq] at e
  obtain ⟨⟨⟨⟨⟨e1, _⟩, e4⟩, e5⟩, _⟩, _⟩ := e
  exact ⟨PySem.W.mg_of X G (aOf_is e1), fun h X => e5 ▸ vtab_of X e4⟩
theorem sides11 (X : K.In h) (G : h.Ns mainGlobals mg) (e : tabs11 K = true) : SideT K mg (aOf K "SIDES") := by
  simp only [tabs11, Bool.and_eq_true, decide_eq_true_eq] at e
  obtain ⟨⟨⟨⟨⟨_, e2⟩, _⟩, _⟩, e6⟩, _⟩ := e
  exact ⟨PySem.W.mg_of X G (aOf_is e2), e6⟩
theorem figs11 (X : K.In h) (G : h.Ns mainGlobals mg) (e : tabs11 K = true) : ∃ t, mg "FIGURES" = some (.str figs t) := by
  simp only [tabs11, Bool.and_eq_true, decide_eq_true_eq] at e
  obtain ⟨_, e7⟩ := e
  unfold figIn at e7
  split at e7
  case h_2 => cases e7
  case h_1 x t ex =>
    have := eq_of_beq e7
    subst this
    exact ⟨t, PySem.W.mg_of X G ex⟩
end
section
variable {P : Program} {w : World} {K : PySem.W.Frag} {mg : Str → Option Value} {base : Heap}
end
/-! ### the class BadWires -/
noncomputable def fiOf (K : PySem.W.Frag) : Addr := match PySem.W.clsIn K (aOf K "BadWires") with
  | some cd => (match PySem.W.nsIn K cd.ns "__init__" with
    | some (some (.ref f)) => f
    | _ => 0)
  | none => 0
noncomputable def mroOk (K : PySem.W.Frag) (C W : Addr) : Bool := match PySem.W.clsIn K C with
  | some cd => (cd.mro == .ref C :: .ref W :: veL) && cd.hasDict
  | none => false
noncomputable def iniOk (K : PySem.W.Frag) (W : Addr) : Bool := match PySem.W.findCls K (.ref W) (.type "type") "__init__" with
  | some (.val a) => a == .builtin "ValueError.__init__"
  | _ => false
noncomputable def bad14 (K : PySem.W.Frag) : Bool :=
  refIn K "BadWires" && (refIn K "WireError" && (initIn K (aOf K "BadWires") (fiOf K) && ((PySem.W.typeIn K (.ref (fiOf K)) == some (.type "function")) && (mroOk K (aOf K "BadWires") (aOf K "WireError") &&
  ((PySem.W.findIn K (.ref (aOf K "BadWires")) "__setattr__" == some (some (.builtin "object.__setattr__"))) && ((PySem.W.findIn K (.ref (aOf K "BadWires")) "place" == some none) &&
  ((PySem.W.specialIn K (.ref (aOf K "WireError")) "__getattribute__" == some (some (.builtin "type.__getattribute__"))) && (PySem.W.readsIn K (aOf K "WireError") (.type "type") && (iniOk K (aOf K "WireError") &&
  ((PySem.W.exmOne K (.ref (aOf K "BadWires")) (.ref (aOf K "BadWires")) == some true) && ((PySem.W.findIn K (.ref (aOf K "BadWires")) "__getattribute__" == some (some (.builtin "BaseException.__getattribute__"))) &&
  ((PySem.W.findIn K (.ref (aOf K "BadWires")) "__getattr__" == some none) && ((PySem.W.findIn K (.ref (aOf K "BadWires")) "__class__" == some (some (.builtin "object.__class__"))) &&
  ((PySem.W.specialIn K (.builtin "object.__class__") "__get__" == some (some (.builtin "getset_descriptor.__get__"))) && ((PySem.W.takesIn K (.builtin "object.__class__") == some true) &&
  ((PySem.W.mroIn K (aOf K "BadWires") (.type "object") == some true) && (PySem.W.mroIn K (aOf K "BadWires") (.type "BaseException") == some true)))))))))))))))))
structure Bad14 (K : PySem.W.Frag) (mg : Str → Option Value) : Prop where
  mC : mg "BadWires" = some (.ref (aOf K "BadWires"))
  mW : mg "WireError" = some (.ref (aOf K "WireError"))
  hin : initIn K (aOf K "BadWires") (fiOf K) = true
  hft : PySem.W.typeIn K (.ref (fiOf K)) = some (.type "function")
  B : BadK K (aOf K "BadWires") (aOf K "WireError") "place"
  ex : PySem.W.exmOne K (.ref (aOf K "BadWires")) (.ref (aOf K "BadWires")) = some true
  FK : FldK K (aOf K "BadWires") "place"
theorem bad14_of {K : PySem.W.Frag} {mg : Str → Option Value} {h : Heap} (X : K.In h) (G : h.Ns mainGlobals mg) (e : bad14 K = true) : Bad14 K mg := by
  unfold bad14 at e
  simp only [Bool.and_eq_true, beq_iff_eq] at e
  obtain ⟨h1, h2, h3, h4, h5, h6, h7, h8, h9, h10, h11, h12, h13, h14, h15, h16, h17, h18⟩ := e
  have hc : ∃ cd, PySem.W.clsIn K (aOf K "BadWires") = some cd ∧ cd.mro = .ref (aOf K "BadWires") :: .ref (aOf K "WireError") :: veL ∧ cd.hasDict = true := by
    unfold mroOk at h5
    split at h5
    case h_2 => cases h5
    case h_1 cd q =>
      simp only [Bool.and_eq_true, beq_iff_eq] at h5
      exact ⟨cd, q, h5.1, h5.2⟩
  have hi : PySem.W.findCls K (.ref (aOf K "WireError")) (.type "type") "__init__" = some (.val (.builtin "ValueError.__init__")) := by
    unfold iniOk at h10
    split at h10
    case h_2 => cases h10
    case h_1 a q =>
      rw [beq_iff_eq.mp h10] at q
      exact q
  obtain ⟨cd, c1, c2, c3⟩ := hc
  exact ⟨PySem.W.mg_of X G (aOf_is h1), PySem.W.mg_of X G (aOf_is h2), h3, h4, ⟨⟨cd, c1, c2, c3⟩, h6, h7, ⟨h8, h9, hi⟩⟩, h11, ⟨⟨cd, c1, c3⟩, ⟨by rw [c1]; rfl, h12, h13, h14, h15, h16, h17, h18⟩, h7⟩⟩
end S21
namespace S21
open PySem L2 Bw
set_option maxHeartbeats 3900000
/-! ### the classes of refusals (k13) -/
noncomputable abbrev veC : List Value := [.type "ValueError", .type "Exception", .type "BaseException", .type "object"]
noncomputable def oth13 (K : PySem.W.Frag) : List Addr := [aOf K "BadSides", aOf K "Late", aOf K "NoDrawing", aOf K "NoMove", aOf K "NoRun"]
noncomputable def excB (K : PySem.W.Frag) (C : Addr) : Bool := (PySem.W.clsIn K C).isSome && ((PySem.W.findIn K (.ref C) "__getattribute__" == some (some (.builtin "BaseException.__getattribute__"))) && ((PySem.W.findIn K (.ref C) "__getattr__" == some none) &&
  ((PySem.W.findIn K (.ref C) "__class__" == some (some (.builtin "object.__class__"))) && ((PySem.W.specialIn K (.builtin "object.__class__") "__get__" == some (some (.builtin "getset_descriptor.__get__"))) &&
  ((PySem.W.takesIn K (.builtin "object.__class__") == some true) && ((PySem.W.mroIn K C (.type "object") == some true) && (PySem.W.mroIn K C (.type "BaseException") == some true)))))))
theorem excB_of {K : PySem.W.Frag} {C : Addr} (h : excB K C = true) : ExcK K C := by
  simp only [excB, Bool.and_eq_true, beq_iff_eq] at h
  obtain ⟨h1, h2, h3, h4, h5, h6, h7, h8⟩ := h
  exact ⟨h1, h2, h3, h4, h5, h6, h7, h8⟩
noncomputable def excC (K : PySem.W.Frag) (C : Addr) : Bool := excB K C && ((PySem.W.kitOne K (.ref C) (.ref (aOf K "WireError")) == some true) && (PySem.W.kitOne K (.ref C) (.type "ValueError") == some true))
structure ExcC13 (K : PySem.W.Frag) (C : Addr) : Prop where
  Z : ExcK K C
  kW : PySem.W.kitOne K (.ref C) (.ref (aOf K "WireError")) = some true
  kV : PySem.W.kitOne K (.ref C) (.type "ValueError") = some true
theorem excC_of {K : PySem.W.Frag} {C : Addr} (h : excC K C = true) : ExcC13 K C := by
  simp only [excC, Bool.and_eq_true, beq_iff_eq] at h
  exact ⟨excB_of h.1, h.2.1, h.2.2⟩
noncomputable def bad13 (K : PySem.W.Frag) : Bool := bad14 K && (refIn K "BadSides" && (refIn K "Late" && (refIn K "NoDrawing" && (refIn K "NoMove" && (refIn K "NoRun" && ((PySem.W.nsIn K mainGlobals "ValueError" == some none) &&
  ((PySem.W.exmOne K (.ref (aOf K "BadWires")) (.ref (aOf K "WireError")) == some true) && ((PySem.W.kitAny K (.ref (aOf K "BadWires")) ((oth13 K).map Value.ref) == some false) && ((PySem.W.kitOne K (.ref (aOf K "BadWires")) (.ref (aOf K "NoDrawing")) == some false) &&
  (excC K (aOf K "BadWires") && ((oth13 K).all fun C => excC K C && PySem.W.excIn K C veC "ValueError.__new__")))))))))))
structure Bad13 (K : PySem.W.Frag) (mg : Str → Option Value) : Prop where
  B : Bad14 K mg
  mS : mg "BadSides" = some (.ref (aOf K "BadSides"))
  mL : mg "Late" = some (.ref (aOf K "Late"))
  mN : mg "NoDrawing" = some (.ref (aOf K "NoDrawing"))
  mM : mg "NoMove" = some (.ref (aOf K "NoMove"))
  mR : mg "NoRun" = some (.ref (aOf K "NoRun"))
  val : mg "ValueError" = none
  exm : PySem.W.exmOne K (.ref (aOf K "BadWires")) (.ref (aOf K "WireError")) = some true
  oth : PySem.W.kitAny K (.ref (aOf K "BadWires")) ((oth13 K).map Value.ref) = some false
  kN : PySem.W.kitOne K (.ref (aOf K "BadWires")) (.ref (aOf K "NoDrawing")) = some false
  X0 : ExcC13 K (aOf K "BadWires")
  Xs : ∀ C ∈ oth13 K, ExcC13 K C ∧ PySem.W.excIn K C veC "ValueError.__new__" = true
theorem bad13_of {K : PySem.W.Frag} {mg : Str → Option Value} {h : Heap} (X : K.In h) (G : h.Ns mainGlobals mg) (e : bad13 K = true) : Bad13 K mg := by
  simp only [bad13, Bool.and_eq_true, beq_iff_eq] at e
  obtain ⟨h1, h2, h3, h4, h5, h6, h7, h8, h9, h10, h11, h12⟩ := e
  refine ⟨bad14_of X G h1, PySem.W.mg_of X G (aOf_is h2), PySem.W.mg_of X G (aOf_is h3), PySem.W.mg_of X G (aOf_is h4), PySem.W.mg_of X G (aOf_is h5), PySem.W.mg_of X G (aOf_is h6), PySem.W.mg_none_of X G h7, h8, h9, h10, excC_of h11, fun C hC => ?_⟩
  have := List.all_eq_true.mp h12 C hC
  rw [Bool.and_eq_true] at this
  exact ⟨excC_of this.1, this.2⟩
theorem kit_me (K : PySem.W.Frag) (C : Addr) : PySem.W.kitOne K (.ref C) (.ref C) = some true := by
  unfold PySem.W.kitOne
  rw [if_pos (by simp)]
end S21
namespace S21
open PySem L2 Bw
set_option maxHeartbeats 3900000
noncomputable def oth4 (K : PySem.W.Frag) : List Addr := [aOf K "BadSides", aOf K "Late", aOf K "NoMove", aOf K "NoRun"]
noncomputable def bad12 (K : PySem.W.Frag) : Bool := bad13 K && ((PySem.W.exmOne K (.ref (aOf K "NoDrawing")) (.ref (aOf K "WireError")) == some true) && ((PySem.W.kitAny K (.ref (aOf K "BadWires")) ((oth4 K).map Value.ref) == some false) && ((PySem.W.kitAny K (.ref (aOf K "NoDrawing")) ((oth4 K).map Value.ref) == some false) &&
  ((PySem.W.kitAny K (.type "NoneType") ((oth4 K).map Value.ref) == some false) && ((PySem.W.kitOne K (.ref (aOf K "NoDrawing")) (.ref (aOf K "BadWires")) == some false) && (PySem.W.nsIn K mainGlobals "reversed" == some none))))))
structure Bad12 (K : PySem.W.Frag) (mg : Str → Option Value) : Prop where
  B : Bad13 K mg
  exN : PySem.W.exmOne K (.ref (aOf K "NoDrawing")) (.ref (aOf K "WireError")) = some true
  oB : PySem.W.kitAny K (.ref (aOf K "BadWires")) ((oth4 K).map Value.ref) = some false
  oN : PySem.W.kitAny K (.ref (aOf K "NoDrawing")) ((oth4 K).map Value.ref) = some false
  o0 : PySem.W.kitAny K (.type "NoneType") ((oth4 K).map Value.ref) = some false
  kNB : PySem.W.kitOne K (.ref (aOf K "NoDrawing")) (.ref (aOf K "BadWires")) = some false
  rv : mg "reversed" = none
theorem bad12_of {K : PySem.W.Frag} {mg : Str → Option Value} {h : Heap} (X : K.In h) (G : h.Ns mainGlobals mg) (e : bad12 K = true) : Bad12 K mg := by
  simp only [bad12, Bool.and_eq_true, beq_iff_eq] at e
  obtain ⟨h1, h2, h3, h4, h5, h6, h7⟩ := e
  exact ⟨bad13_of X G h1, h2, h3, h4, h5, h6, PySem.W.mg_none_of X G h7⟩
theorem Bad12.xN {K : PySem.W.Frag} {mg : Str → Option Value} (B : Bad12 K mg) : ExcC13 K (aOf K "NoDrawing") ∧ PySem.W.excIn K (aOf K "NoDrawing") veC "ValueError.__new__" = true := B.B.Xs _ (by unfold oth13; simp)
end S21
namespace S21
open PySem L2 Bw
set_option maxHeartbeats 3900000
section
variable {X : Cx} (K : PySem.W.Frag) (hK : X.K = K)
include hK
/-- isinstance of an exception of any class -/
theorem cIsZ {D : Addr} : CallR X (.builtin "isinstance") (fun xs H Q => ∃ a C b, xs = [.ref a, .ref D] ∧ IsX C a (H a) ∧ ExcK K C ∧ PySem.W.kitOne K (.ref C) (.ref D) = some b ∧ Q (.bl b) H) := by
  subst hK
  intro pins s σ H vs us Q I r ⟨a, C, b, e, x, Z, k, q⟩
  exact cIsY X.K rfl Z k pins s σ H vs us Q I r ⟨a, e, x, q⟩
theorem cIsZV {T : String} : CallR X (.builtin "isinstance") (fun xs H Q => ∃ a C b, xs = [.ref a, .ty T] ∧ IsX C a (H a) ∧ ExcK K C ∧ PySem.W.kitOne K (.ref C) (.type T) = some b ∧ Q (.bl b) H) := by
  subst hK
  intro pins s σ H vs us Q I r ⟨a, C, b, e, x, Z, k, q⟩
  exact cIsYV X.K rfl Z k pins s σ H vs us Q I r ⟨a, e, x, q⟩
/-- of None or of an exception, by a tuple of classes -/
theorem cIsGT {cs : List Addr} : CallR X (.builtin "isinstance") (fun xs H Q => ∃ v t, xs = [v, .ref t] ∧ H t = some (.tup (cs.map V.ref)) ∧ ((v = .non ∧ ∃ b, PySem.W.kitAny K (.type "NoneType") (cs.map Value.ref) = some b ∧ Q (.bl b) H) ∨ ∃ a C b, v = .ref a ∧ IsX C a (H a) ∧ ExcK K C ∧ PySem.W.kitAny K (.ref C) (cs.map Value.ref) = some b ∧ Q (.bl b) H)) := by
  subst hK
  intro pins s σ H vs us Q I r ⟨v, t, e, ht, h⟩
  rcases h with ⟨rfl, b, k, q⟩ | ⟨a, C, b, rfl, x, Z, k, q⟩
  · subst e
    obtain ⟨u, v, rfl, ru, rv⟩ := vals2 r
    cases (show u = Value.none from ru)
    cases (show v = Value.ref t from rv)
    obtain ⟨_, its, rr, o, h1, h2, _, n, h3⟩ := (show ObjOk X.prog X.w H s.heap t (.tup (cs.map V.ref)) from I.hok t _ ht)
    have ei := vals_rfs rr
    subst ei
    obtain ⟨oc, od, oda, osl⟩ := o
    have h2 : oc = .type "tuple" := h2
    have h3 : oda = .seq (cs.map Value.ref).toArray n := h3
    subst h2 h3
    exact PySem.W.kia_tup PySem.W.kitx_none I.kIn True.intro h1 k (fun z => nomatch z) fun tk => ⟨.bl b, H, I.tok tk, rfl, q⟩
  · exact cIsYT X.K rfl Z k pins s σ H vs us Q I r ⟨a, t, e, x, ht, q⟩
end
section
variable {P : Program} {w : World} {K : PySem.W.Frag} {mg : Str → Option Value} {base : Heap}
/-! ### _law_right -/
noncomputable def spRt (K : PySem.W.Frag) : Sp := fun vs H Q _ => ∃ (p : Int) (x : Str) (ps : List Str), vs = [.int p, .str x] ∧ Txt.split x (Str.ofString " ") = ps ∧ (∀ y ∈ ps, y ∈ pieces) ∧ ps.length ≤ 200 ∧ x.length + 2 ≤ sizeLine ∧ 2 ≤ p ∧ p ≤ 97 ∧ ∀ H', Same H H' → Q (.bl true) H'
theorem scRt : FnScope ["p", "text", "shaped", "good", "most", "found", "caught", "e"] ["p", "text"] (defScope s_law_right) := ⟨rfl, rfl, rfl, by decide +kernel, rfl, by decide +kernel, by decide +kernel⟩
set_option maxRecDepth 100000 in
theorem ok_rt {f fR fS fM : Addr} {fd fdR fdS fdM : FuncData} (F : Fun K "_law_right" "_law_right" s_law_right f fd) (T : Txt mg) (B : Bad12 K mg)
    (GR : FnOk P w K mg base (CX2 P w) 6 fR fdR ["p", "text"] (spRdG K (aOf K "NoDrawing") (aOf K "BadWires"))) (kR : PySem.W.keepIn K (.ref fR) = true) (bR : Binds K fdR ["p", "text"] []) (mR : mg "read" = some (.ref fR))
    (GS : FnOk P w K mg base CX0 2 fS fdS ["p", "text"] spShape) (kS : PySem.W.keepIn K (.ref fS) = true) (bS : Binds K fdS ["p", "text"] []) (mS : mg "_law_shape" = some (.ref fS))
    (GM : FnOk P w K mg base CX0 1 fM fdM ["text"] (spMeet K)) (kM : PySem.W.keepIn K (.ref fM) = true) (bM : Binds K fdM ["text"] []) (mM : mg "_law_meet" = some (.ref fM)) :
    FnOk P w K mg base CX0 7 f fd ["p", "text"] (spRt K) := by
  refine F.ok scRt (fun vs H Q E h => ?_) (fun cdv A outer s H vs Q E hr h => ?_)
  · obtain ⟨p, x, ps, rfl, _⟩ := h
    rfl
  · obtain ⟨p, x, ps, rfl, es, hps, hl, hx, p2, hp, q⟩ := h
    have r1 : Room 1 _ := hr.mono (by lia)
    have r2 : Room 2 _ := hr.mono (by lia)
    have z : (1000 : Nat) ≤ sizeLine := by decide
    refine ⟨_, pss_cons (ps_set (i := 2) scRt.nd rfl (Or.inl rfl) (pe_call GS r2 rfl mS kS bS .nil pass0 (pa_cons (pv 0) (pa_cons (pv 1) pa_nil))))
      (pss_cons (ps_set (i := 3) scRt.nd rfl (Or.inl rfl) pe_bl)
      (pss_cons (ps_if (pt_val (pv 2)) (pss_cons (ps_asg (pe_call GM r1 rfl mM kM bM .nil pass0 (pa_cons (pv 1) pa_nil)) (pg_lst (n := 2) rfl (pgs_cons (pg_name (i := 3) scRt.nd rfl (Or.inl rfl)) (pgs_cons (pg_name (i := 4) scRt.nd rfl (Or.inl rfl)) pgs_nil)))) (pss_one (ps_if (pt_cmpR op_gt (pv 4) pe_int (nomark _)) (pss_one (ps_ret pe_bl)) pss_nil))) pss_nil)
      (pss_cons (ps_set (i := 5) scRt.nd rfl (Or.inl rfl) pe_non)
      (pss_cons (ps_set (i := 6) scRt.nd rfl (Or.inl rfl) pe_non)
      (pss_cons (ps_tryA (iv := 5) (ix := 6) (ie := 7) (fun _ _ z => z) rfl rfl GR hr rfl mR kR bR (pa_cons (pv 0) (pa_cons (pv 1) pa_nil)) rfl B.B.B.mW scRt.nd rfl rfl rfl rfl rfl rfl (by decide))
      (pss_cons (ps_if (PW.pt (pw_or (pt_val (pe_callB (cIsGT K rfl (cs := oth4 K)) rfl T.isinstance bt_isinstance (pa_cons (pv 6) (pa_cons (pe_tup (pa_cons (pe_glob (v := .ref _) rfl B.B.mS rfl) (pa_cons (pe_glob (v := .ref _) rfl B.B.mL rfl) (pa_cons (pe_glob (v := .ref _) rfl B.B.mM rfl) (pa_cons (pe_glob (v := .ref _) rfl B.B.mR rfl) pa_nil))))) pa_nil))))
          (pw_or1 (PW.pt (pw_and (pt_cmpR op_notN (pv 6) pe_non (nomark _)) (pw_and1 (pt_not (pt_val (pe_callB (cIsZV K rfl (T := "ValueError")) rfl T.isinstance bt_isinstance (pa_cons (pv 6) (pa_cons (pe_ty rfl B.B.val bt_ValueError) pa_nil))))))))))) (pss_one (ps_ret pe_bl)) pss_nil)
      (pss_cons (ps_if (pt_not (pt_val (pv 2))) (pss_one (ps_ret (pe_and (pe_callB (cIsZ K rfl (D := aOf K "NoDrawing")) rfl T.isinstance bt_isinstance (pa_cons (pv 6) (pa_cons (pe_glob (v := .ref _) rfl B.B.mN rfl) pa_nil))) (pe_one (pe_not (pe_callB (cIsZ K rfl (D := aOf K "BadWires")) rfl T.isinstance bt_isinstance (pa_cons (pv 6) (pa_cons (pe_glob (v := .ref _) rfl B.B.B.mC rfl) pa_nil)))))))) pss_nil)
      (pss_cons (ps_if (pt_not (pt_val (pv 3))) (pss_one (ps_ret (pe_and (pe_callB (cIsZ K rfl (D := aOf K "BadWires")) rfl T.isinstance bt_isinstance (pa_cons (pv 6) (pa_cons (pe_glob (v := .ref _) rfl B.B.B.mC rfl) pa_nil))) (pe_one (pe_not (pe_callB (cIsZ K rfl (D := aOf K "NoDrawing")) rfl T.isinstance bt_isinstance (pa_cons (pv 6) (pa_cons (pe_glob (v := .ref _) rfl B.B.mN rfl) pa_nil)))))))) pss_nil)
      (pss_one (ps_ret (pe_and (pe_cmpR op_isN (pv 6) pe_non (nomark _)) (pe_and (pe_callB (cIsT K rfl (T := "tuple")) rfl T.isinstance bt_isinstance (pa_cons (pv 5) (pa_cons (pe_ty rfl T.tuple bt_tuple) pa_nil))) (pe_one (pe_cmpR op_eq (pe_callB (cLen K rfl) rfl T.len bt_len (pa_cons (pv 5) pa_nil)) (pe_callB (cLen K rfl) rfl T.len bt_len (pa_cons (pe_bm PySem.F.plainAttrs_str PySem.F.slot_str_split PySem.F.type_str_split mt_split (pv 1) (pa_cons pe_str pa_nil)) pa_nil)) (nomark _))))))))))))))), ?_⟩
    have xN := B.xN
    refine ⟨_, rfl, _, rfl, p, x, ps, rfl, es, hps, hl, hx, p2, hp, fun H1 s1 => ?_⟩
    cases hsh : shp p 1 false ps with
    | false =>
      refine ⟨_, rfl, false, rfl, iteF ?_⟩
      refine ⟨_, rfl, _, rfl, p, x, ps, rfl, es, hps, hl, hx, p2, hp, fun _ H2 s2 => ⟨aOf K "NoDrawing", rfl, B.exN, fun ea hea => ?_⟩, fun h => by rw [hsh] at h; cases h⟩
      have s3 := Same.upd hea (o := exD (aOf K "NoDrawing") ea none)
      have ge : (upd H2 ea (exD (aOf K "NoDrawing") ea none)) ea = some (exD (aOf K "NoDrawing") ea none) := upd_same
      generalize upd H2 ea (exD (aOf K "NoDrawing") ea none) = H3 at s3 ge ⊢
      refine ⟨_, rfl, by show 4 ≤ sizeLine; lia, fun t ht => ?_⟩
      have s4 := Same.upd ht (o := .tup ((oth4 K).map V.ref))
      have ge4 := isX_D (s4 _ _ ge)
      refine ⟨_, t, rfl, upd_same, .inr ⟨ea, _, false, rfl, ge4, xN.1.Z, B.oN, false, rfl, iteF ?_⟩⟩
      refine ⟨_, rfl, rfl, _, rfl, iteB (by simp) ⟨_, rfl, ea, _, true, rfl, ge4, xN.1.Z, xN.1.kV, true, rfl, iteF ?_⟩⟩
      refine ⟨_, rfl, false, rfl, iteT ?_⟩
      exact ⟨_, rfl, ea, _, true, rfl, ge4, xN.1.Z, kit_me K _, true, rfl, iteT ⟨_, rfl, ea, _, false, rfl, ge4, xN.1.Z, B.kNB, false, rfl, q _ (s1.trans (s2.trans (s3.trans s4)))⟩⟩
    | true =>
      obtain ⟨d, hd, ed⟩ := shp_one hsh
      have hdl : d.words.length = ps.length := by rw [ed, List.length_map]
      refine ⟨_, rfl, true, rfl, iteT ⟨_, rfl, p, x, d, rfl, hd, hp, es.trans ed, by lia, hx, fun l m H2 s2 gl => ?_⟩⟩
      refine ⟨l, _, rfl, .of gl, rfl, _, _, rfl, _, _, rfl, rfl, ?_⟩
      refine ⟨_, rfl, _, _, rfl, rfl, _, rfl, ite2 (fun _ => q _ (s1.trans s2)) (fun _ => ?_)⟩
      have s12 := s1.trans s2
      refine ⟨_, rfl, _, rfl, p, x, ps, rfl, es, hps, hl, hx, p2, hp, fun h => (by rw [hsh] at h; cases h), fun _ => ⟨d, hd, ed, fun hu v H3 s3 hv => ?_, fun n hu dx H3 s3 hdx hgx => ⟨aOf K "BadWires", rfl, B.B.exm, fun ea hea => ?_⟩⟩⟩
      · have hm : mB d = true := by rw [mB_unm (i := 0), hu]; rfl
        rw [hm]
        refine ⟨_, rfl, by show 4 ≤ sizeLine; lia, fun t ht => ?_⟩
        have s4 := Same.upd ht (o := .tup ((oth4 K).map V.ref))
        refine ⟨_, t, rfl, upd_same, .inl ⟨rfl, false, B.o0, false, rfl, iteF ?_⟩⟩
        refine ⟨_, rfl, rfl, _, rfl, iteN (by simp) (iteF ?_)⟩
        refine ⟨_, rfl, true, rfl, iteF ⟨_, rfl, true, rfl, iteF ?_⟩⟩
        refine ⟨_, rfl, rfl, _, rfl, iteB (by simp) ⟨_, rfl, v, _, true, rfl, s4.seqT hv, kit_tuple_tuple K, true, rfl, iteT ?_⟩⟩
        refine ⟨_, rfl, v, _, rfl, .inr (s4.seqT hv), _, rfl, rfl, _, _, rfl, rfl, by decide, hx, by rw [es]; lia, fun ls hls => ⟨ls, _, rfl, .inl (.of upd_same), rfl, ?_⟩⟩
        rw [es, decide_eq_true (show V.int (d.words.length : Int) = V.int ((ps.map V.str).length : Int) by rw [List.length_map, hdl])]
        exact q _ (s12.trans (s3.trans (s4.trans (.upd hls))))
      · have hm : mB d = false := by rw [mB_unm (i := 0), hu]; rfl
        rw [hm]
        have s3' := Same.upd hea (o := exD (aOf K "BadWires") ea (some dx))
        have ge : (upd H3 ea (exD (aOf K "BadWires") ea (some dx))) ea = some (exD (aOf K "BadWires") ea (some dx)) := upd_same
        generalize upd H3 ea (exD (aOf K "BadWires") ea (some dx)) = H4 at s3' ge ⊢
        refine ⟨_, rfl, by show 4 ≤ sizeLine; lia, fun t ht => ?_⟩
        have s4 := Same.upd ht (o := .tup ((oth4 K).map V.ref))
        have ge4 := isX_D (s4 _ _ ge)
        refine ⟨_, t, rfl, upd_same, .inr ⟨ea, _, false, rfl, ge4, B.B.X0.Z, B.oB, false, rfl, iteF ?_⟩⟩
        refine ⟨_, rfl, rfl, _, rfl, iteB (by simp) ⟨_, rfl, ea, _, true, rfl, ge4, B.B.X0.Z, B.B.X0.kV, true, rfl, iteF ?_⟩⟩
        refine ⟨_, rfl, true, rfl, iteF ⟨_, rfl, false, rfl, iteT ?_⟩⟩
        exact ⟨_, rfl, ea, _, true, rfl, ge4, B.B.X0.Z, kit_me K _, true, rfl, iteT ⟨_, rfl, ea, _, false, rfl, ge4, B.B.X0.Z, B.B.kN, false, rfl, q _ (s12.trans (s3.trans (s3'.trans s4)))⟩⟩
end
end S21
namespace S21
open PySem L2 Bw
set_option maxHeartbeats 3900000
noncomputable abbrev rMd : R2 := rI (fun _ j => 0 < j) fun i j => .int (i % j)
noncomputable def more7 : List Int := [2, 3, 5, 2, 3, 97, 7]
theorem prm_all : ∀ x ∈ primesL ++ more7, x ∈ primesL := by decide +kernel
section
variable {P : Program} {w : World} {K : PySem.W.Frag} {mg : Str → Option Value} {base : Heap}
/-! ### _law_prime -/
noncomputable def spPrm3 : Sp := fun vs H Q _ => ∃ c : Int, vs = [.int c] ∧ ∀ p H', p ∈ primesL → Same H H' → Q (.int p) H'
theorem scPm3 : FnScope ["cell", "primes"] ["cell"] (defScope sPrime) := ⟨rfl, rfl, rfl, by decide +kernel, rfl, by decide +kernel, by decide +kernel⟩
theorem ok_prm3 {f : Addr} {fd : FuncData} (F : Fun K "_law_prime" "_law_prime" sPrime f fd) : FnOk P w K mg base CX0 1 f fd ["cell"] spPrm3 := by
  refine F.ok scPm3 (fun vs H Q E h => ?_) (fun cdv A outer s H vs Q E hr h => ?_)
  · obtain ⟨c, rfl, _⟩ := h
    rfl
  · obtain ⟨c, rfl, q⟩ := h
    refine ⟨tSeq (tAsg (tInts primesL) (gName 1)) (tRet (tOp (rIxL K) (tOp rCat (tVar 1) (tInts more7)) (tOp rMd (tVar 0) (tC (.int 32))))), pss_cons ?_ ?_, ?_⟩
    · refine ps_set ?_ ?_ ?_ ?_ ?_ ?_
      · exact scPm3.nd
      · rfl
      · exact Or.inl rfl
      · refine pe_ints ?_
        exact pai (by kernel_rfl)
      · rfl
      · exact .inl rfl
    · refine pss_one ?_
      refine ps_ret ?_
      refine pe_ix ?_ ?_ ?_ ?_
      · exact ixL K rfl
      · refine pe_op ?_ ?_ ?_
        · exact op_cat
        · exact pv 1
        · refine pe_ints ?_
          exact pai (by kernel_rfl)
      · exact pe_op op_mod (pv 0) pe_int
      · exact fun _ _ => rfl
    refine ⟨(by show 25 ≤ sizeLine; decide), fun l hl => ?_⟩
    dsimp only [gName]
    refine ⟨_, rfl, (by show 7 ≤ sizeLine; decide), fun l2 hl2 => ⟨l, l2, _, _, rfl, rfl, Same.upd hl2 _ _ upd_same, upd_same, (by show 25 + 7 ≤ sizeLine; decide), fun l3 hl3 => ?_⟩⟩
    have b0 := Int.emod_nonneg c (show (32 : Int) ≠ 0 by decide)
    have b1 := Int.emod_lt_of_pos c (show (0 : Int) < 32 by decide)
    obtain ⟨i, hi⟩ : ∃ i : Nat, c % 32 = (i : Int) := ⟨(c % 32).toNat, by lia⟩
    obtain ⟨x, hx⟩ : ∃ x, (primesL ++ more7)[i]? = some x := ⟨_, List.getElem?_eq_getElem (show i < (primesL ++ more7).length by show i < 32; lia)⟩
    refine ⟨_, rfl, c, 32, rfl, rfl, (by decide : (0 : Int) < 32), l3, _, c % 32, .int x, rfl, rfl, .of upd_same, ?_, q x _ (prm_all x (List.mem_of_getElem? hx)) ((Same.upd hl).trans ((Same.upd hl2).trans (.upd hl3)))⟩
    rw [hi, ← List.map_append]
    exact atI_nat (by rw [List.getElem?_map, hx]; rfl)
end
end S21
namespace S21
open PySem L2 Bw
set_option maxHeartbeats 3900000
/-! ### displays of written texts -/
noncomputable def constStrs : List Expr → Option (List Str)
  | [] => some []
  | e :: es => match e with
    | .Constant (.str x) _ _ => (constStrs es).map (x :: ·)
    | _ => none
noncomputable def tStrs (xs : List Str) : TA := fun _ H Q => Q (xs.map V.str) H
theorem pa_strs {X : Cx} : ∀ (es : List Expr) (xs : List Str), constStrs es = some xs → PA X es (tStrs xs)
  | [], xs, h => by
    cases h
    exact pa_nil
  | e :: es, xs, h => by
    unfold constStrs at h
    split at h
    case h_2 => cases h
    case h_1 x j pos =>
      cases e : constStrs es with
      | none => rw [e] at h; cases h
      | some ms =>
        rw [e] at h
        have h' : x :: ms = xs := Option.some.inj h
        subst h'
        exact pa_cons pe_str (pa_strs es ms e) rfl
/-! ### _law_other -/
noncomputable def oA : List Str := (["id", "swap", "copy", "end", "add", "none", "cup", "empty", "late", "times", "back", "beside", "then", "0"] : List String).map Str.ofString
noncomputable def oB (m : Nat) : List Str := (["1", "01", "00"] : List String).map Str.ofString ++ [numS m, numS (m - 1), numS (m + 1)] ++ (["-1", "", "ID", "Then", "thens", "copyy", "ad"] : List String).map Str.ofString
noncomputable def oC : List Str := (["time", "times0", "100", "1.0", "+1", "x", "idd", "bac", "1_0", "id,", "then.", "097", "96"] : List String).map Str.ofString
theorem oAC_in : ∀ y ∈ oA ++ oC ++ (["1", "01", "00", "-1", "", "ID", "Then", "thens", "copyy", "ad"] : List String).map Str.ofString, oth12.contains y = true := by decide +kernel
theorem log_sm {n : Nat} (h : n < 200) : ((n : Int).natAbs.log2 < 1920) := by
  have e : (n : Int).natAbs = n := rfl
  rw [e]
  exact Nat.lt_of_le_of_lt (Nat.log2_le_self n) (by lia)
theorem in_pc {y : Str} (h : oth12.contains y = true) : y ∈ pieces := List.mem_append_left _ (List.contains_iff_mem.mp h)
theorem num_pc {n : Nat} (h : n < 99) : numS n ∈ pieces := List.mem_append_right _ (List.mem_map.mpr ⟨n, List.mem_range.mpr h, rfl⟩)
theorem oABC_in {m : Nat} (h : m ≤ 97) : ∀ y ∈ (oA ++ oB m) ++ oC, y ∈ pieces := by
  intro y hy
  rcases (List.mem_append.mp hy) with hy | hy
  · rcases (List.mem_append.mp hy) with hy | hy
    · exact in_pc (oAC_in y (List.mem_append_left _ (List.mem_append_left _ hy)))
    · unfold oB at hy
      rcases (List.mem_append.mp hy) with hy | hy
      · rcases (List.mem_append.mp hy) with hy | hy
        · exact in_pc (oAC_in y (List.mem_append_right _ (by
            obtain ⟨a, ha, rfl⟩ := List.mem_map.mp hy
            exact List.mem_map.mpr ⟨a, List.mem_append_left (as := ["1", "01", "00"]) ["-1", "", "ID", "Then", "thens", "copyy", "ad"] ha, rfl⟩)))
        · simp only [List.mem_cons, List.not_mem_nil, or_false] at hy
          rcases hy with rfl | rfl | rfl
          · exact num_pc (by lia)
          · exact num_pc (by lia)
          · exact num_pc (by lia)
      · exact in_pc (oAC_in y (List.mem_append_right _ (by
          obtain ⟨a, ha, rfl⟩ := List.mem_map.mp hy
          exact List.mem_map.mpr ⟨a, List.mem_append_right (bs := ["-1", "", "ID", "Then", "thens", "copyy", "ad"]) ["1", "01", "00"] ha, rfl⟩)))
  · exact in_pc (oAC_in y (List.mem_append_left _ (List.mem_append_right _ hy)))
section
variable {P : Program} {w : World} {K : PySem.W.Frag} {mg : Str → Option Value} {base : Heap}
noncomputable def spOth : Sp := fun vs H Q _ => ∃ (p n : Int), vs = [.int p, .int n] ∧ 2 ≤ p ∧ p ≤ 97 ∧ ∀ y H', y ∈ pieces → Same H H' → Q (.str y) H'
theorem scOt : FnScope ["p", "number", "some"] ["p", "number"] (defScope s_law_other) := ⟨rfl, rfl, rfl, by decide +kernel, rfl, by decide +kernel, by decide +kernel⟩
noncomputable def oD : List Str := (["-1", "", "ID", "Then", "thens", "copyy", "ad"] : List String).map Str.ofString
noncomputable def tOB : TA := tCons (tC (.str (Str.ofString "1"))) (tCons (tC (.str (Str.ofString "01"))) (tCons (tC (.str (Str.ofString "00"))) (tCons (tCB rStr (tCons (tVar 0) tNil)) (tCons (tCB rStr (tCons (tOp (rI0 fun i j => .int (i - j)) (tVar 0) (tC (.int 1))) tNil)) (tCons (tCB rStr (tCons (tOp (rI0 fun i j => .int (i + j)) (tVar 0) (tC (.int 1))) tNil)) (tStrs oD))))))
noncomputable def tOth (K : PySem.W.Frag) : TS := tSeq (tAsg (tLst (tStrs oA)) (gName 2)) (tSeq (tAsg (tOp rCat (tVar 2) (tLst tOB)) (gName 2)) (tSeq (tAsg (tOp rCat (tVar 2) (tLst (tStrs oC))) (gName 2)) (tRet (tOp (rIxL K) (tVar 2) (tOp (rI (fun _ j => 0 < j) fun i j => .int (i % j)) (tVar 1) (tCB (fun xs H Q => ∃ p ys, xs = [.ref p] ∧ (SqL K H p ys ∨ SqT K H p ys) ∧ Q (.int ys.length) H) (tCons (tVar 2) tNil)))))))
set_option maxRecDepth 100000 in
theorem ok_oth {f : Addr} {fd : FuncData} (F : Fun K "_law_other" "_law_other" s_law_other f fd) (T : Txt mg) : FnOk P w K mg base CX0 1 f fd ["p", "number"] spOth := by
  refine F.ok scOt (fun vs H Q E h => ?_) (fun cdv A outer s H vs Q E hr h => ?_)
  · obtain ⟨p, n, rfl, _⟩ := h
    rfl
  · obtain ⟨p, n, rfl, p2, p97, q⟩ := h
    have z : (1000 : Nat) ≤ sizeLine := by decide
    refine ⟨tOth K, ?_, ?_⟩
    · unfold tOth
      refine pss_cons ?_ ?_
      · refine ps_set ?_ ?_ ?_ ?_ ?_ ?_
        · exact scOt.nd
        · rfl
        · exact Or.inl rfl
        · refine pe_lst ?_
          refine pa_strs _ _ ?_
          kernel_rfl
        · rfl
        · exact .inl rfl
      refine pss_cons ?_ ?_
      · refine ps_set ?_ ?_ ?_ ?_ ?_ ?_
        · exact scOt.nd
        · rfl
        · exact Or.inl rfl
        · refine pe_op ?_ ?_ ?_
          · exact op_cat
          · exact pv 2
          · refine pe_lst ?_
            unfold tOB
            refine pa_cons pe_str ?_ ?_
            · refine pa_cons pe_str ?_ ?_
              · refine pa_cons pe_str ?_ ?_
                · refine pa_cons ?_ ?_ ?_
                  · exact pe_callTy call_str3 rfl T.str bt_str (pa_cons (pv 0) pa_nil)
                  · refine pa_cons ?_ ?_ ?_
                    · exact pe_callTy call_str3 rfl T.str bt_str (pa_cons (pe_op op_sub (pv 0) pe_int) pa_nil)
                    · refine pa_cons ?_ ?_ ?_
                      · exact pe_callTy call_str3 rfl T.str bt_str (pa_cons (pe_op op_add (pv 0) pe_int) pa_nil)
                      · refine pa_strs _ _ ?_
                        kernel_rfl
                      · rfl
                    · rfl
                  · rfl
                · rfl
              · rfl
            · rfl
        · rfl
        · exact .inl rfl
      refine pss_cons ?_ ?_
      · refine ps_set ?_ ?_ ?_ ?_ ?_ ?_
        · exact scOt.nd
        · rfl
        · exact Or.inl rfl
        · refine pe_op ?_ ?_ ?_
          · exact op_cat
          · exact pv 2
          · refine pe_lst ?_
            refine pa_strs _ _ ?_
            kernel_rfl
        · rfl
        · exact .inl rfl
      refine pss_one ?_
      refine ps_ret ?_
      exact pe_ix (ixL K rfl) (pv 2) (pe_op op_mod (pv 1) (pe_callB (cLen K rfl) rfl T.len bt_len (pa_cons (pv 2) pa_nil))) (fun _ _ => rfl)
    unfold tOth tOB
    obtain ⟨m, rfl⟩ : ∃ m : Nat, p = (m : Int) := ⟨p.toNat, by lia⟩
    refine ⟨by show 14 ≤ sizeLine; lia, fun l1 h1 => ?_⟩
    have s1 := Same.upd h1 (o := .lst (oA.map V.str))
    have g1 : (upd H l1 (.lst (oA.map V.str))) l1 = some (.lst (oA.map V.str)) := upd_same
    show tSeq _ _ _ [some (.int (m : Int)), some (.int n), some (.ref l1)] (upd H l1 (.lst (oA.map V.str)))
    generalize upd H l1 (.lst (oA.map V.str)) = H1 at s1 g1 ⊢
    refine ⟨_, rfl, _, rfl, .inr ⟨(m : Int), rfl, log_small (by lia), _, rfl, _, _, rfl, rfl, .inr ⟨((m - 1 : Nat) : Int), by rw [show ((m - 1 : Nat) : Int) = (m : Int) - 1 by lia], log_small (by lia), _, rfl, _, _, rfl, rfl, .inr ⟨((m + 1 : Nat) : Int), rfl, log_sm (by lia), by show 13 ≤ sizeLine; lia, fun l2 h2 => ?_⟩⟩⟩⟩
    have s2 := Same.upd h2 (o := .lst ((oB m).map V.str))
    refine ⟨l1, l2, oA.map V.str, (oB m).map V.str, rfl, rfl, s2 _ _ g1, upd_same, by show 14 + 13 ≤ sizeLine; lia, fun l3 h3 => ?_⟩
    have s3 := s2.trans (Same.upd h3 (o := .lst ((oA ++ oB m).map V.str)))
    have g3 : (upd (upd H1 l2 (.lst ((oB m).map V.str))) l3 (.lst ((oA ++ oB m).map V.str))) l3 = some (.lst ((oA ++ oB m).map V.str)) := upd_same
    show tSeq _ _ _ [some (.int (m : Int)), some (.int n), some (.ref l3)] (upd (upd H1 l2 (.lst ((oB m).map V.str))) l3 (.lst ((oA ++ oB m).map V.str)))
    generalize upd (upd H1 l2 (.lst ((oB m).map V.str))) l3 (.lst ((oA ++ oB m).map V.str)) = H3 at s3 g3 ⊢
    refine ⟨_, rfl, by show 13 ≤ sizeLine; lia, fun l4 h4 => ?_⟩
    have s4 := Same.upd h4 (o := .lst (oC.map V.str))
    refine ⟨l3, l4, (oA ++ oB m).map V.str, oC.map V.str, rfl, rfl, s4 _ _ g3, upd_same, by show 27 + 13 ≤ sizeLine; lia, fun l5 h5 => ?_⟩
    rw [← List.map_append]
    have s5 := s4.trans (Same.upd h5 (o := .lst (((oA ++ oB m) ++ oC).map V.str)))
    have g5 : (upd (upd H3 l4 (.lst (oC.map V.str))) l5 (.lst (((oA ++ oB m) ++ oC).map V.str))) l5 = some (.lst (((oA ++ oB m) ++ oC).map V.str)) := upd_same
    dsimp only [gName]
    generalize upd (upd H3 l4 (.lst (oC.map V.str))) l5 (.lst (((oA ++ oB m) ++ oC).map V.str)) = H5 at s5 g5 ⊢
    have b0 := Int.emod_nonneg n (show (40 : Int) ≠ 0 by decide)
    have b1 := Int.emod_lt_of_pos n (show (0 : Int) < 40 by decide)
    obtain ⟨i, hi⟩ : ∃ i : Nat, n % 40 = (i : Int) := ⟨(n % 40).toNat, by lia⟩
    have hl : ((oA ++ oB m) ++ oC).length = 40 := rfl
    obtain ⟨y, hy⟩ : ∃ y, ((oA ++ oB m) ++ oC)[i]? = some y := ⟨_, List.getElem?_eq_getElem (show i < ((oA ++ oB m) ++ oC).length by rw [hl]; lia)⟩
    refine ⟨_, rfl, _, rfl, _, rfl, l5, _, rfl, .inl (.of g5), n, 40, rfl, rfl, (by decide : (0 : Int) < 40), l5, _, n % 40, .str y, rfl, rfl, .of g5, ?_, q y _ (oABC_in (by lia) y (List.mem_of_getElem? hy)) (s1.trans (s3.trans s5))⟩
    rw [hi]
    exact atI_nat (by rw [List.getElem?_map, hy]; rfl)
end
end S21
namespace S21
open PySem L2 Bw
set_option maxHeartbeats 3900000
theorem cutS (ws : List Str) (lo hi : Option Int) : ∃ us : List Str, cutV (ws.map V.str) lo hi = us.map V.str ∧ us.length ≤ ws.length ∧ ∀ y ∈ us, y ∈ ws := by
  refine ⟨(ws.drop (HT.sIx ws.length 0 lo)).take (HT.sIx ws.length ws.length hi - HT.sIx ws.length 0 lo), ?_, ?_, fun y hy => ?_⟩
  · unfold cutV
    rw [List.length_map, List.map_take, List.map_drop]
  · rw [List.length_take, List.length_drop]
    lia
  · exact List.mem_of_mem_drop (List.mem_of_mem_take hy)
section
variable {P : Program} {w : World} {K : PySem.W.Frag} {mg : Str → Option Value} {base : Heap}
/-! ### _law_spoiled -/
noncomputable def spSpo : Sp := fun vs H Q _ => ∃ (p n : Int) (l : Addr) (ws : List Str), vs = [.int p, .ref l, .int n] ∧ 2 ≤ p ∧ p ≤ 97 ∧ H l = some (.lst (ws.map V.str)) ∧ 1 ≤ ws.length ∧ ws.length ≤ 60 ∧ (∀ y ∈ ws, y ∈ pieces) ∧
  ∀ (l' : Addr) (us : List Str) (H' : Hp), Same H H' → H' l' = some (.lst (us.map V.str)) → us.length ≤ 130 → (∀ y ∈ us, y ∈ pieces) → Q (.ref l') H'
theorem scSpo : FnScope ["p", "words", "number", "way", "at"] ["p", "words", "number"] (defScope s_law_spoiled) := ⟨rfl, rfl, rfl, by decide +kernel, rfl, by decide +kernel, by decide +kernel⟩
theorem pc_e : Str.ofString "" ∈ pieces := in_pc (by decide +kernel)
set_option maxRecDepth 100000 in
theorem ok_spo {f fO : Addr} {fd fdO : FuncData} (F : Fun K "_law_spoiled" "_law_spoiled" s_law_spoiled f fd) (T : Txt mg)
    (GO : FnOk P w K mg base CX0 1 fO fdO ["p", "number"] spOth) (kO : PySem.W.keepIn K (.ref fO) = true) (bO : Binds K fdO ["p", "number"] []) (mO : mg "_law_other" = some (.ref fO)) :
    FnOk P w K mg base CX0 2 f fd ["p", "words", "number"] spSpo := by
  refine F.ok scSpo (fun vs H Q E h => ?_) (fun cdv A outer s H vs Q E hr h => ?_)
  · obtain ⟨p, n, l, ws, rfl, _⟩ := h
    rfl
  · obtain ⟨p, n, l, ws, rfl, p2, p97, gl, hw1, hw60, hws, q⟩ := h
    have z : (1000 : Nat) ≤ sizeLine := by decide
    refine ⟨_, pss_cons (ps_set (i := 3) scSpo.nd rfl (Or.inl rfl) (pe_op op_mod (pv 2) pe_int))
      (pss_cons (ps_set (i := 2) scSpo.nd rfl (Or.inl rfl) (pe_op op_fdiv (pv 2) pe_int))
      (pss_cons (ps_set (i := 4) scSpo.nd rfl (Or.inl rfl) (pe_op op_mod (pv 2) (pe_callB (cLen K rfl) rfl T.len bt_len (pa_cons (pv 1) pa_nil))))
      (pss_cons (ps_set (i := 2) scSpo.nd rfl (Or.inl rfl) (pe_op op_fdiv (pv 2) (pe_callB (cLen K rfl) rfl T.len bt_len (pa_cons (pv 1) pa_nil))))
      (pss_cons (ps_if (pt_cmpR op_eq (pv 3) pe_int (nomark _)) (pss_one (ps_ret (pe_op op_cat (pe_slice (slL K rfl) (pv 1) po_none (po_some (pv 4))) (pe_slice (slL K rfl) (pv 1) (po_some (pe_op op_add (pv 4) pe_int)) po_none)))) pss_nil)
      (pss_cons (ps_if (pt_cmpR op_eq (pv 3) pe_int (nomark _)) (pss_one (ps_ret (pe_op op_cat (pe_op op_cat (pe_slice (slL K rfl) (pv 1) po_none (po_some (pv 4))) (pe_lst (pa_cons (pe_call GO hr rfl mO kO bO .nil pass0 (pa_cons (pv 0) (pa_cons (pv 2) pa_nil))) pa_nil))) (pe_slice (slL K rfl) (pv 1) (po_some (pv 4)) po_none)))) pss_nil)
      (pss_cons (ps_if (pt_cmpR (opIn K rfl) (pv 3) (pe_tup (pa_cons pe_int (pa_cons pe_int (pa_cons pe_int pa_nil)))) rfl) (pss_one (ps_ret (pe_op op_cat (pe_op op_cat (pe_slice (slL K rfl) (pv 1) po_none (po_some (pv 4))) (pe_lst (pa_cons (pe_call GO hr rfl mO kO bO .nil pass0 (pa_cons (pv 0) (pa_cons (pv 2) pa_nil))) pa_nil))) (pe_slice (slL K rfl) (pv 1) (po_some (pe_op op_add (pv 4) pe_int)) po_none)))) pss_nil)
      (pss_cons (ps_if (pt_cmpR op_eq (pv 3) pe_int (nomark _)) (pss_one (ps_ret (pe_slice (slL K rfl) (pv 1) po_none (po_some (pv 4))))) pss_nil)
      (pss_cons (ps_if (pt_cmpR op_eq (pv 3) pe_int (nomark _)) (pss_one (ps_ret (pe_op op_cat (pv 1) (pe_slice (slL K rfl) (pv 1) (po_some (pv 4)) po_none)))) pss_nil)
      (pss_cons (ps_if (pt_cmpR op_eq (pv 3) pe_int (nomark _)) (pss_one (ps_ret (pe_op op_cat (pe_slice (slL K rfl) (pv 1) (po_some (pv 4)) po_none) (pe_slice (slL K rfl) (pv 1) po_none (po_some (pv 4)))))) pss_nil)
      (pss_cons (ps_if (pt_cmpR op_eq (pv 3) pe_int (nomark _)) (pss_one (ps_ret (pe_ix (ixL K rfl) (pe_lst (pa_cons (pe_op op_cat (pe_lst (pa_cons pe_str pa_nil)) (pv 1)) (pa_cons (pe_op op_cat (pv 1) (pe_lst (pa_cons pe_str pa_nil))) pa_nil))) (pe_op op_mod (pv 2) pe_int) (fun _ _ => rfl)))) pss_nil)
      (pss_one (ps_ret (pv 1))))))))))))), ?_⟩
    have hl0 : (0 : Int) < ((ws.map V.str).length : Int) := by rw [List.length_map]; lia
    refine ⟨_, rfl, n, 10, rfl, rfl, (by decide : (0 : Int) < 10), ?_⟩
    refine ⟨_, rfl, n, 10, rfl, rfl, ⟨by decide, by decide⟩, ?_⟩
    refine ⟨_, rfl, _, rfl, l, _, rfl, .inl (.of gl), n / 10, _, rfl, rfl, hl0, ?_⟩
    refine ⟨_, rfl, _, rfl, l, _, rfl, .inl (.of gl), n / 10, _, rfl, rfl, ⟨by lia, by rw [List.length_map]; lia⟩, ?_⟩
    dsimp only [gName]
    generalize n / 10 / ((ws.map V.str).length : Int) = nn
    generalize n % 10 = way
    generalize n / 10 % ((ws.map V.str).length : Int) = at'
    obtain ⟨ua, ea, na, ma⟩ := cutS ws none (some at')
    obtain ⟨ub, eb, nb, mb⟩ := cutS ws (some (at' + 1)) none
    obtain ⟨uc, ec, nc, mc⟩ := cutS ws (some at') none
    have pa := fun y hy => hws y (ma y hy)
    have pb := fun y hy => hws y (mb y hy)
    have pc := fun y hy => hws y (mc y hy)
    have two : ∀ {us vs : List Str}, (∀ y ∈ us, y ∈ pieces) → (∀ y ∈ vs, y ∈ pieces) → ∀ y ∈ us ++ vs, y ∈ pieces := fun h1 h2 y hy => (List.mem_append.mp hy).elim (h1 y) (h2 y)
    have fin : ∀ {H1 H2 : Hp} {l1 l2 : Addr} {us vs : List Str}, Same H H2 → H2 l1 = some (.lst (us.map V.str)) → H2 l2 = some (.lst (vs.map V.str)) → us.length ≤ 70 → vs.length ≤ 60 → (∀ y ∈ us, y ∈ pieces) → (∀ y ∈ vs, y ∈ pieces) → rCat (.ref l1) (.ref l2) H2 Q := by
      intro H1 H2 l1 l2 us vs sm g1 g2 n1 n2 m1 m2
      refine ⟨l1, l2, _, _, rfl, rfl, g1, g2, by rw [List.length_map, List.length_map]; lia, fun l3 h3 => ?_⟩
      rw [← List.map_append]
      exact q l3 _ _ (sm.trans (.upd h3)) upd_same (by rw [List.length_append]; lia) (two m1 m2)
    -- way 1
    refine ⟨_, rfl, rfl, _, rfl, ite2 (fun _ => ?_) (fun _ => ?_)⟩
    · refine ⟨_, rfl, _, rfl, _, rfl, l, _, rfl, .of gl, fun l1 h1 => ?_⟩
      rw [ea]
      have s1 := Same.upd h1 (o := .lst (ua.map V.str))
      refine ⟨_, rfl, _, rfl, _, _, rfl, rfl, _, rfl, l, _, rfl, .of (s1 _ _ gl), fun l2 h2 => ?_⟩
      rw [eb]
      have s2 := Same.upd h2 (o := .lst (ub.map V.str))
      exact fin (H1 := H) (s1.trans s2) (s2 _ _ upd_same) upd_same (by lia) (by lia) pa pb
    -- way 2
    have mid : ∀ {H1 : Hp} {l1 : Addr} {y : Str} {R : VK}, H1 l1 = some (.lst (ua.map V.str)) → y ∈ pieces → (∀ l3 H3, Same H1 H3 → H3 l3 = some (.lst ((ua ++ [y]).map V.str)) → R (.ref l3) H3) → 1 ≤ sizeLine ∧ ∀ l2, H1 l2 = none → rCat (.ref l1) (.ref l2) (upd H1 l2 (.lst [.str y])) R := by
      intro H1 l1 y R g1 hy hR
      refine ⟨by lia, fun l2 h2 => ⟨l1, l2, _, [.str y], rfl, rfl, Same.upd h2 _ _ g1, upd_same, by rw [List.length_map]; show _ + 1 ≤ _; lia, fun l3 h3 => ?_⟩⟩
      have e : ua.map V.str ++ [V.str y] = (ua ++ [y]).map V.str := by rw [List.map_append]; rfl
      rw [e]
      exact hR l3 _ ((Same.upd h2).trans (.upd h3)) upd_same
    refine ⟨_, rfl, rfl, _, rfl, ite2 (fun _ => ?_) (fun _ => ?_)⟩
    · refine ⟨_, rfl, _, rfl, _, rfl, l, _, rfl, .of gl, fun l1 h1 => ?_⟩
      rw [ea]
      have s1 := Same.upd h1 (o := .lst (ua.map V.str))
      refine ⟨_, rfl, _, rfl, p, nn, rfl, p2, p97, fun y H2 hy s2 => mid (s2 _ _ upd_same) hy fun l3 H3 s3 g3 => ?_⟩
      have s13 := s1.trans (s2.trans s3)
      refine ⟨_, rfl, _, rfl, _, rfl, l, _, rfl, .of (s13 _ _ gl), fun l4 h4 => ?_⟩
      rw [ec]
      have s4 := Same.upd h4 (o := .lst (uc.map V.str))
      exact fin (H1 := H) (s13.trans s4) (s4 _ _ g3) upd_same (by rw [List.length_append]; show _ + 1 ≤ _; lia) (by lia) (two pa fun y' hy' => by rw [List.mem_singleton.mp hy']; exact hy) pc
    -- ways 3, 4, 5
    refine ⟨_, rfl, by show 3 ≤ sizeLine; lia, fun t3 h3 => ⟨t3, _, rfl, .inr (.of upd_same), rfl, rfl, _, rfl, ?_⟩⟩
    have s0 := Same.upd h3 (o := .tup [.int 3, .int 4, .int 5])
    have gl := s0 _ _ gl
    have q : ∀ (l' : Addr) (us : List Str) (H' : Hp), Same (upd H t3 (.tup [.int 3, .int 4, .int 5])) H' → H' l' = some (.lst (us.map V.str)) → us.length ≤ 130 → (∀ y ∈ us, y ∈ pieces) → Q (.ref l') H' := fun l' us H' sm => q l' us H' (s0.trans sm)
    clear fin
    generalize upd H t3 (.tup [.int 3, .int 4, .int 5]) = H at s0 gl q ⊢
    have fin : ∀ {H1 H2 : Hp} {l1 l2 : Addr} {us vs : List Str}, Same H H2 → H2 l1 = some (.lst (us.map V.str)) → H2 l2 = some (.lst (vs.map V.str)) → us.length ≤ 70 → vs.length ≤ 60 → (∀ y ∈ us, y ∈ pieces) → (∀ y ∈ vs, y ∈ pieces) → rCat (.ref l1) (.ref l2) H2 Q := by
      intro H1 H2 l1 l2 us vs sm g1 g2 n1 n2 m1 m2
      refine ⟨l1, l2, _, _, rfl, rfl, g1, g2, by rw [List.length_map, List.length_map]; lia, fun l3 h3 => ?_⟩
      rw [← List.map_append]
      exact q l3 _ _ (sm.trans (.upd h3)) upd_same (by rw [List.length_append]; lia) (two m1 m2)
    refine ite2 (fun _ => ?_) (fun _ => ?_)
    · refine ⟨_, rfl, _, rfl, _, rfl, l, _, rfl, .of gl, fun l1 h1 => ?_⟩
      rw [ea]
      have s1 := Same.upd h1 (o := .lst (ua.map V.str))
      refine ⟨_, rfl, _, rfl, p, nn, rfl, p2, p97, fun y H2 hy s2 => mid (s2 _ _ upd_same) hy fun l3 H3 s3 g3 => ?_⟩
      have s13 := s1.trans (s2.trans s3)
      refine ⟨_, rfl, _, rfl, _, _, rfl, rfl, _, rfl, l, _, rfl, .of (s13 _ _ gl), fun l4 h4 => ?_⟩
      rw [eb]
      have s4 := Same.upd h4 (o := .lst (ub.map V.str))
      exact fin (H1 := H) (s13.trans s4) (s4 _ _ g3) upd_same (by rw [List.length_append]; show _ + 1 ≤ _; lia) (by lia) (two pa fun y' hy' => by rw [List.mem_singleton.mp hy']; exact hy) pb
    -- way 6
    refine ⟨_, rfl, rfl, _, rfl, ite2 (fun _ => ?_) (fun _ => ?_)⟩
    · refine ⟨_, rfl, _, rfl, _, rfl, l, _, rfl, .of gl, fun l1 h1 => ?_⟩
      rw [ea]
      exact q l1 ua _ (.upd h1) upd_same (by lia) pa
    -- way 7
    refine ⟨_, rfl, rfl, _, rfl, ite2 (fun _ => ?_) (fun _ => ?_)⟩
    · refine ⟨_, rfl, _, rfl, _, rfl, _, rfl, l, _, rfl, .of gl, fun l1 h1 => ?_⟩
      rw [ec]
      have s1 := Same.upd h1 (o := .lst (uc.map V.str))
      exact fin (H1 := H) s1 (s1 _ _ gl) upd_same (by lia) (by lia) hws pc
    -- way 8
    refine ⟨_, rfl, rfl, _, rfl, ite2 (fun _ => ?_) (fun _ => ?_)⟩
    · refine ⟨_, rfl, _, rfl, _, rfl, l, _, rfl, .of gl, fun l1 h1 => ?_⟩
      rw [ec]
      have s1 := Same.upd h1 (o := .lst (uc.map V.str))
      refine ⟨_, rfl, _, rfl, _, rfl, l, _, rfl, .of (s1 _ _ gl), fun l2 h2 => ?_⟩
      rw [ea]
      have s2 := Same.upd h2 (o := .lst (ua.map V.str))
      exact fin (H1 := H) (s1.trans s2) (s2 _ _ upd_same) upd_same (by lia) (by lia) pc pa
    -- way 9
    refine ⟨_, rfl, rfl, _, rfl, ite2 (fun _ => ?_) (fun _ => ?_)⟩
    · refine ⟨by show 1 ≤ sizeLine; lia, fun l1 h1 => ?_⟩
      have s1 := Same.upd h1 (o := .lst [.str (Str.ofString "")])
      refine ⟨_, rfl, l1, l, _, _, rfl, rfl, upd_same, s1 _ _ gl, by rw [List.length_map]; show 1 + _ ≤ _; lia, fun l2 h2 => ?_⟩
      have s2 := Same.upd h2 (o := .lst ([V.str (Str.ofString "")] ++ ws.map V.str))
      have s12 := s1.trans s2
      refine ⟨_, rfl, by show 1 ≤ sizeLine; lia, fun l3 h3 => ?_⟩
      have s3 := Same.upd h3 (o := .lst [.str (Str.ofString "")])
      refine ⟨l, l3, _, _, rfl, rfl, (s12.trans s3) _ _ gl, upd_same, by rw [List.length_map]; show _ + 1 ≤ _; lia, fun l4 h4 => ?_⟩
      have s4 := Same.upd h4 (o := .lst (ws.map V.str ++ [V.str (Str.ofString "")]))
      refine ⟨by show 2 ≤ sizeLine; lia, fun l5 h5 => ?_⟩
      have s5 := Same.upd h5 (o := .lst [.ref l2, .ref l4])
      have g2 := (s3.trans (s4.trans s5)) _ _ (upd_same (H := upd H l1 (.lst [.str (Str.ofString "")])) (a := l2) (o := .lst ([V.str (Str.ofString "")] ++ ws.map V.str)))
      have g4 := s5 _ _ (upd_same (a := l4) (o := .lst (ws.map V.str ++ [V.str (Str.ofString "")])))
      have sm := s12.trans (s3.trans (s4.trans s5))
      have b0 := Int.emod_nonneg nn (show (2 : Int) ≠ 0 by decide)
      have b1 := Int.emod_lt_of_pos nn (show (0 : Int) < 2 by decide)
      rcases (show nn % 2 = 0 ∨ nn % 2 = 1 by lia) with e | e
      · refine ⟨_, rfl, nn, 2, rfl, rfl, (by decide : (0 : Int) < 2), l5, _, 0, .ref l2, rfl, by show V.int (nn % 2) = _; rw [e], .of upd_same, atI_nat (j := 0) rfl, ?_⟩
        exact q l2 ([Str.ofString ""] ++ ws) _ sm (by rw [List.map_append]; exact g2) (by rw [List.length_append]; show 1 + _ ≤ _; lia) (two (fun y hy => by rw [List.mem_singleton.mp hy]; exact pc_e) hws)
      · refine ⟨_, rfl, nn, 2, rfl, rfl, (by decide : (0 : Int) < 2), l5, _, 1, .ref l4, rfl, by show V.int (nn % 2) = _; rw [e], .of upd_same, atI_nat (j := 1) rfl, ?_⟩
        exact q l4 (ws ++ [Str.ofString ""]) _ sm (by rw [List.map_append]; exact g4) (by rw [List.length_append]; show _ + 1 ≤ _; lia) (two hws (fun y hy => by rw [List.mem_singleton.mp hy]; exact pc_e))
    exact ⟨_, rfl, q l ws _ (.refl _) gl (by lia) hws⟩
end
end S21
namespace S21
open PySem L2 Bw
set_option maxHeartbeats 3900000
noncomputable def oE : List Str := (["id", "swap", "copy", "end", "add", "none", "cup", "empty", "late", "times"] : List String).map Str.ofString
noncomputable def oF : List Str := (["back", "beside", "then", "then"] : List String).map Str.ofString
theorem oEF_in : ∀ y ∈ oE ++ oF, oth12.contains y = true := by decide +kernel
noncomputable def inc (k : Nat) : Int := if k ≤ 9 then 0 else if k = 10 then 1 else 2
theorem inc_at : ∀ k : Fin 14, atI (([0, 1, 2, 2, 2] : List Int).map V.int) (if ((k.1 : Int) - 9 > 0) then (k.1 : Int) - 9 else 0) = some (.int (inc k.1)) := by decide +kernel
section
variable {P : Program} {w : World} {K : PySem.W.Frag} {mg : Str → Option Value} {base : Heap}
/-! ### _law_words -/
noncomputable def spWds : Sp := fun vs H Q _ => ∃ (p n : Int), vs = [.int p, .int n] ∧ 2 ≤ p ∧ p ≤ 97 ∧ ∀ (l : Addr) (ws : List Str) (H' : Hp), Same H H' → H' l = some (.lst (ws.map V.str)) → 1 ≤ ws.length → ws.length ≤ 60 → (∀ y ∈ ws, y ∈ pieces) → Q (.ref l) H'
theorem scWds : FnScope ["p", "number", "some", "words", "due", "kind"] ["p", "number"] (defScope s_law_words) := ⟨rfl, rfl, rfl, by decide +kernel, rfl, by decide +kernel, by decide +kernel⟩
noncomputable abbrev rLn (K : PySem.W.Frag) : List V → Hp → VK → Prop := fun xs H Q => ∃ p ys, xs = [.ref p] ∧ (SqL K H p ys ∨ SqT K H p ys) ∧ Q (.int ys.length) H
noncomputable abbrev rMx2 : List V → Hp → VK → Prop := fun xs H Q => ∃ i j : Int, xs = [.int i, .int j] ∧ Q (.int (if j > i then j else i)) H
noncomputable abbrev rMd2 : R2 := rI (fun _ j => 0 < j) fun i j => .int (i % j)
noncomputable abbrev rDv2 : R2 := rI CDiv fun i j => .int (i / j)
noncomputable abbrev rAd2 : R2 := rI0 fun i j => .int (i + j)
noncomputable abbrev rSu2 : R2 := rI0 fun i j => .int (i - j)
noncomputable def tW1 : TS := tAsg (tOp rMd2 (tVar 1) (tC (.int 14))) (gName 5)
noncomputable def tW2 : TS := tAsg (tOp rDv2 (tVar 1) (tC (.int 14))) (gName 1)
noncomputable def tW3 (K : PySem.W.Frag) : TS := tIfS (tTest (tOp (rI0 fun i j => .bl (decide (j < i))) (tOp rAd2 (tCB (rLn K) (tCons (tVar 3) tNil)) (tVar 4)) (tC (.int 12)))) (tAsg (tOp rMd2 (tVar 5) (tC (.int 9))) (gName 5)) tNext
noncomputable def tW4 (K : PySem.W.Frag) : TS := tAsg (tOp rAd2 (tOp rSu2 (tVar 4) (tC (.int 1))) (tOp (rIxL K) (tInts [0, 1, 2, 2, 2]) (tCB rMx2 (tCons (tC (.int 0)) (tCons (tOp rSu2 (tVar 5) (tC (.int 9))) tNil))))) (gName 4)
noncomputable def tW5 (K : PySem.W.Frag) : TS := tDrop (tBM K "list" rAppend (tVar 3) (tCons (tOp (rIxL K) (tVar 2) (tVar 5)) tNil))
noncomputable def tW6 (K : PySem.W.Frag) : TS := tIfS (tTest (tOp rEq (tVar 5) (tC (.int 9)))) (tSeq (tDrop (tBM K "list" rAppend (tVar 3) (tCons (tCB rStr (tCons (tOp rMd2 (tVar 1) (tVar 0)) tNil)) tNil))) (tAsg (tOp rDv2 (tVar 1) (tVar 0)) (gName 1))) tNext
noncomputable def tWB (K : PySem.W.Frag) : TS := tSeq tW1 (tSeq tW2 (tSeq (tW3 K) (tSeq (tW4 K) (tSeq (tW5 K) (tW6 K)))))
noncomputable def tWds (K : PySem.W.Frag) : TS := tSeq (tAsg (tLst (tStrs oE)) (gName 2)) (tSeq (tAsg (tOp rCat (tVar 2) (tLst (tStrs oF))) (gName 2)) (tSeq (tAsg (tLst tNil) (gName 3)) (tSeq (tAsg (tC (.int 1)) (gName 4)) (tSeq (tWhile (tTest (tOp (rI0 fun i j => .bl (decide (j < i))) (tVar 4) (tC (.int 0)))) (tWB K)) (tRet (tVar 3))))))
set_option maxRecDepth 100000 in
theorem ok_wds {f : Addr} {fd : FuncData} (F : Fun K "_law_words" "_law_words" s_law_words f fd) (T : Txt mg) : FnOk P w K mg base CX0 1 f fd ["p", "number"] spWds := by
  refine F.ok scWds (fun vs H Q E h => ?_) (fun cdv A outer s H vs Q E hr h => ?_)
  · obtain ⟨p, n, rfl, _⟩ := h
    rfl
  · obtain ⟨p, n, rfl, p2, p97, q⟩ := h
    have z : (1000 : Nat) ≤ sizeLine := by decide
    refine ⟨tWds K, ?_, ?_⟩
    · unfold tWds
      refine pss_cons ?_ ?_
      · refine ps_set ?_ ?_ ?_ ?_ ?_ ?_
        · exact scWds.nd
        · rfl
        · exact Or.inl rfl
        · refine pe_lst ?_
          refine pa_strs _ _ ?_
          kernel_rfl
        · rfl
        · exact .inl rfl
      refine pss_cons ?_ ?_
      · refine ps_set ?_ ?_ ?_ ?_ ?_ ?_
        · exact scWds.nd
        · rfl
        · exact Or.inl rfl
        · refine pe_op ?_ ?_ ?_
          · exact op_cat
          · exact pv 2
          · refine pe_lst ?_
            refine pa_strs _ _ ?_
            kernel_rfl
        · rfl
        · exact .inl rfl
      refine pss_cons ?_ ?_
      · exact ps_set (i := 3) scWds.nd rfl (Or.inl rfl) (pe_lst pa_nil)
      refine pss_cons ?_ ?_
      · exact ps_set (i := 4) scWds.nd rfl (Or.inl rfl) pe_int
      refine pss_cons ?_ ?_
      · refine ps_while PassesOwn.never ?_ ?_
        · exact pt_cmpR op_gt (pv 4) pe_int (nomark _)
        · unfold tWB
          refine pss_cons ?_ ?_
          · exact ps_set (i := 5) scWds.nd rfl (Or.inl rfl) (pe_op op_mod (pv 1) pe_int)
          refine pss_cons ?_ ?_
          · exact ps_set (i := 1) scWds.nd rfl (Or.inl rfl) (pe_op op_fdiv (pv 1) pe_int)
          refine pss_cons ?_ ?_
          · exact ps_if (pt_cmpR op_gt (pe_op op_add (pe_callB (cLen K rfl) rfl T.len bt_len (pa_cons (pv 3) pa_nil)) (pv 4)) pe_int (nomark _)) (pss_one (ps_set (i := 5) scWds.nd rfl (Or.inl rfl) (pe_op op_mod (pv 5) pe_int))) pss_nil
          refine pss_cons ?_ ?_
          · unfold tW4
            refine ps_set ?_ ?_ ?_ ?_ ?_ ?_
            · exact scWds.nd
            · rfl
            · exact Or.inl rfl
            · refine pe_op ?_ ?_ ?_
              · exact op_add
              · exact pe_op op_sub (pv 4) pe_int
              · refine pe_ix ?_ ?_ ?_ ?_
                · exact ixL K rfl
                · refine pe_ints ?_
                  exact pai (by kernel_rfl)
                · exact pe_callB (call_max2 rfl) rfl T.max bt_max (pa_cons pe_int (pa_cons (pe_op op_sub (pv 5) pe_int) pa_nil))
                · exact fun _ _ => rfl
            · rfl
            · exact .inl rfl
          refine pss_cons ?_ ?_
          · exact ps_expr (pe_bm PySem.F.plainAttrs_list PySem.F.slot_list_append PySem.F.type_list_append mt_append (pv 3) (pa_cons (pe_ix (ixL K rfl) (pv 2) (pv 5) (fun _ _ => rfl)) pa_nil))
          refine pss_one ?_
          unfold tW6
          refine ps_if ?_ ?_ ?_
          · exact pt_cmpR op_eq (pv 5) pe_int (nomark _)
          · refine pss_cons ?_ ?_
            · exact ps_expr (pe_bm PySem.F.plainAttrs_list PySem.F.slot_list_append PySem.F.type_list_append mt_append (pv 3) (pa_cons (pe_callTy call_str3 rfl T.str bt_str (pa_cons (pe_op op_mod (pv 1) (pv 0)) pa_nil)) pa_nil))
            · exact pss_one (ps_set (i := 1) scWds.nd rfl (Or.inl rfl) (pe_op op_fdiv (pv 1) (pv 0)))
          · exact pss_nil
      exact pss_one (ps_ret (pv 3))
    unfold tWds
    refine ⟨by show 10 ≤ sizeLine; lia, fun l1 h1 => ?_⟩
    have s1 := Same.upd h1 (o := .lst (oE.map V.str))
    refine ⟨_, rfl, by show 4 ≤ sizeLine; lia, fun l2 h2 => ⟨l1, l2, oE.map V.str, oF.map V.str, rfl, rfl, Same.upd h2 _ _ upd_same, upd_same, by show 10 + 4 ≤ sizeLine; lia, fun l3 h3 => ?_⟩⟩
    rw [← List.map_append]
    have s3 : Same H (upd (upd (upd H l1 (.lst (oE.map V.str))) l2 (.lst (oF.map V.str))) l3 (.lst ((oE ++ oF).map V.str))) := s1.trans ((Same.upd h2).trans (.upd h3))
    have g3 : (upd (upd (upd H l1 (.lst (oE.map V.str))) l2 (.lst (oF.map V.str))) l3 (.lst ((oE ++ oF).map V.str))) l3 = some (.lst ((oE ++ oF).map V.str)) := upd_same
    show tSeq (tAsg (tLst tNil) (gName 3)) _ _ [some (.int p), some (.int n), some (.ref l3), none, none, none] (upd (upd (upd H l1 (.lst (oE.map V.str))) l2 (.lst (oF.map V.str))) l3 (.lst ((oE ++ oF).map V.str)))
    generalize upd (upd (upd H l1 (.lst (oE.map V.str))) l2 (.lst (oF.map V.str))) l3 (.lst ((oE ++ oF).map V.str)) = HA at s3 g3 ⊢
    refine ⟨by show 0 ≤ sizeLine; lia, fun lw hlw => ?_⟩
    have s4 := Same.upd hlw (o := .lst [])
    have gw : (upd HA lw (.lst [])) lw = some (.lst (([] : List Str).map V.str)) := upd_same
    have nlw : l3 ≠ lw := ne_of_none g3 hlw
    have g4 := s4 _ _ g3
    have sm4 := s3.trans s4
    have Hlw : H lw = none := by
      cases e : H lw with
      | none => rfl
      | some o => have := s3 _ _ e; rw [hlw] at this; cases this
    show tSeq (tWhile _ _) _ _ [some (.int p), some (.int n), some (.ref l3), some (.ref lw), some (.int 1), none] (upd HA lw (.lst []))
    generalize upd HA lw (.lst []) = HB at s4 gw g4 sm4 ⊢
    refine seq_by (fun σ H' => Same H H' ∧ ∃ (ws : List Str) (nn due : Int) (s5 : Option V), σ = [some (.int p), some (.int nn), some (.ref l3), some (.ref lw), some (.int due), s5] ∧ H' lw = some (.lst (ws.map V.str)) ∧ (∀ y ∈ ws, y ∈ pieces) ∧ 1 ≤ ws.length ∧ ws.length ≤ 60) ?_ ?_
    · intro N hN
      refine ⟨fun m σ H' => Same H H' ∧ H' l3 = some (.lst ((oE ++ oF).map V.str)) ∧ ∃ (ws : List Str) (nn due : Int) (s5 : Option V), σ = [some (.int p), some (.int nn), some (.ref l3), some (.ref lw), some (.int due), s5] ∧ H' lw = some (.lst (ws.map V.str)) ∧ (∀ y ∈ ws, y ∈ pieces) ∧ (0 ≤ due ∧ (ws.length : Int) + 2 * due ≤ 27 ∧ (ws.length = 0 → due = 1)) ∧ m = 2 * (13 - ws.length) + due.toNat, ⟨_, sm4, g4, [], n, 1, none, rfl, gw, fun y hy => (nomatch hy), ⟨by lia, by show ((0 : Nat) : Int) + 2 * 1 ≤ 27; lia, fun _ => rfl⟩, rfl⟩, ?_⟩
      rintro m σ H1 ⟨sm, gl, ws, nn, due, s5, rfl, gws, hws, ⟨d0, d1, d2⟩, rfl⟩
      refine ⟨_, rfl, _, _, rfl, rfl, _, rfl, ite2 (fun hc => ?_) (fun hc => ?_)⟩
      case refine_2 =>
        have hc : ¬ (0 < due) := fun h => hc (decide_eq_true h)
        exact hN _ _ ⟨sm, ws, nn, due, s5, rfl, gws, hws, by
          rcases Nat.eq_zero_or_pos ws.length with h | h
          · have := d2 h; lia
          · exact h, by lia⟩
      have hc : 0 < due := of_decide_eq_true hc
      refine ⟨fun σ' H'' => ∃ m', m' < 2 * (13 - ws.length) + due.toNat ∧ Same H H'' ∧ H'' l3 = some (.lst ((oE ++ oF).map V.str)) ∧ ∃ (ws : List Str) (nn due : Int) (s5 : Option V), σ' = [some (.int p), some (.int nn), some (.ref l3), some (.ref lw), some (.int due), s5] ∧ H'' lw = some (.lst (ws.map V.str)) ∧ (∀ y ∈ ws, y ∈ pieces) ∧ (0 ≤ due ∧ (ws.length : Int) + 2 * due ≤ 27 ∧ (ws.length = 0 → due = 1)) ∧ m' = 2 * (13 - ws.length) + due.toNat, fun σ' H'' ⟨m', h1, h2⟩ => ⟨m', h1, h2⟩, ?_⟩
      unfold tWB
      refine ⟨_, rfl, nn, 14, rfl, rfl, (by decide : (0 : Int) < 14), ?_⟩
      refine ⟨_, rfl, nn, 14, rfl, rfl, ⟨by decide, by decide⟩, ?_⟩
      have b0 := Int.emod_nonneg nn (show (14 : Int) ≠ 0 by decide)
      have b1 := Int.emod_lt_of_pos nn (show (0 : Int) < 14 by decide)
      show tSeq (tW3 K) _ _ [some (.int p), some (.int (nn / 14)), some (.ref l3), some (.ref lw), some (.int due), some (.int (nn % 14))] H1
      generalize nn / 14 = n2
      obtain ⟨k0, hk0⟩ : ∃ k0 : Nat, nn % 14 = (k0 : Int) := ⟨(nn % 14).toNat, by lia⟩
      rw [hk0]
      refine seq_by (fun σ H' => H' = H1 ∧ ∃ k : Nat, σ = [some (.int p), some (.int n2), some (.ref l3), some (.ref lw), some (.int due), some (.int (k : Int))] ∧ k < 14 ∧ (k < 9 ∨ (ws.length : Int) + due ≤ 12)) ?_ ?_
      · intro N2 hN2
        unfold tW3
        refine ⟨_, rfl, lw, _, rfl, .inl (.of gws), _, rfl, _, _, rfl, rfl, _, _, rfl, rfl, _, rfl, ite2 (fun h12 => ?_) (fun h12 => ?_)⟩
        · refine ⟨_, rfl, (k0 : Int), 9, rfl, rfl, (by decide : (0 : Int) < 9), ?_⟩
          have c0 := Int.emod_nonneg (k0 : Int) (show (9 : Int) ≠ 0 by decide)
          have c1 := Int.emod_lt_of_pos (k0 : Int) (show (0 : Int) < 9 by decide)
          exact hN2 _ _ ⟨rfl, ((k0 : Int) % 9).toNat, by rw [Int.toNat_of_nonneg c0]; rfl, by lia, .inl (by lia)⟩
        · have h12 : ¬ ((12 : Int) < ((ws.map V.str).length : Int) + due) := fun h => h12 (decide_eq_true h)
          rw [List.length_map] at h12
          exact hN2 _ _ ⟨rfl, k0, rfl, by lia, .inr (by lia)⟩
      rintro σ2 H2 ⟨rfl, k, rfl, hk, hk2⟩
      unfold tW4
      refine ⟨_, rfl, _, _, rfl, rfl, by show 5 ≤ sizeLine; lia, fun li hli => ?_⟩
      have sI := Same.upd hli (o := .lst (([0, 1, 2, 2, 2] : List Int).map V.int))
      refine ⟨_, rfl, _, _, rfl, rfl, _, _, rfl, li, _, _, _, rfl, rfl, .of upd_same, inc_at ⟨k, hk⟩, _, _, rfl, rfl, ?_⟩
      have sm3 := sm.trans sI
      have gl := sI _ _ gl
      have gws := sI _ _ gws
      show tSeq (tW5 K) _ _ [some (.int p), some (.int n2), some (.ref l3), some (.ref lw), some (.int (due - 1 + inc k)), some (.int (k : Int))] (upd H2 li (.lst (([0, 1, 2, 2, 2] : List Int).map V.int)))
      generalize upd H2 li (.lst (([0, 1, 2, 2, 2] : List Int).map V.int)) = H3 at sI sm3 gl gws ⊢
      have hlen : (oE ++ oF).length = 14 := rfl
      obtain ⟨y, hy⟩ : ∃ y, (oE ++ oF)[k]? = some y := ⟨_, List.getElem?_eq_getElem (show k < (oE ++ oF).length by rw [hlen]; exact hk)⟩
      have hyp := in_pc (oEF_in y (List.mem_of_getElem? hy))
      have hsz : (ws.map V.str).length < sizeLine := by rw [List.length_map]; lia
      unfold tW5
      refine ⟨_, rfl, .inl ⟨rfl, _, .of gws⟩, _, rfl, _, rfl, l3, _, (k : Int), .str y, rfl, rfl, .of gl, atI_nat (by rw [List.getElem?_map, hy]; rfl), lw, _, _, rfl, rfl, gws, hsz, ?_⟩
      have e1 : ws.map V.str ++ [V.str y] = (ws ++ [y]).map V.str := by rw [List.map_append]; rfl
      rw [e1]
      have sm4' := sm3.put (o := .lst ((ws ++ [y]).map V.str)) Hlw
      have gl4 : (upd H3 lw (.lst ((ws ++ [y]).map V.str))) l3 = some (.lst ((oE ++ oF).map V.str)) := by rw [upd_ne nlw]; exact gl
      have gw4 : (upd H3 lw (.lst ((ws ++ [y]).map V.str))) lw = some (.lst ((ws ++ [y]).map V.str)) := upd_same
      generalize upd H3 lw (.lst ((ws ++ [y]).map V.str)) = H4 at sm4' gl4 gw4 ⊢
      have mem1 : ∀ u ∈ ws ++ [y], u ∈ pieces := fun u hu => (List.mem_append.mp hu).elim (hws u) fun h => by rw [List.mem_singleton.mp h]; exact hyp
      have len1 : (ws ++ [y]).length = ws.length + 1 := by rw [List.length_append]; rfl
      unfold tW6
      have hinc : inc k = 0 ∨ (inc k = 1 ∧ k = 10) ∨ (inc k = 2 ∧ 11 ≤ k) := by
        unfold inc
        split
        · exact .inl rfl
        · split
          · exact .inr (.inl ⟨rfl, by lia⟩)
          · exact .inr (.inr ⟨rfl, by lia⟩)
      have hinc9 : k ≤ 9 → inc k = 0 := fun h => by unfold inc; rw [if_pos h]
      refine ⟨_, rfl, rfl, _, rfl, ite2 (fun h9 => ?_) (fun h9 => ?_)⟩
      · have h9 : k = 9 := by
          have : (k : Int) = 9 := V.int.inj (of_decide_eq_true h9)
          lia
        have i0 := hinc9 (by lia)
        have r0 := Int.emod_nonneg n2 (show p ≠ 0 by lia)
        have r1 := Int.emod_lt_of_pos n2 (show 0 < p by lia)
        obtain ⟨r, hr'⟩ : ∃ r : Nat, n2 % p = (r : Int) := ⟨(n2 % p).toNat, by lia⟩
        refine ⟨_, rfl, .inl ⟨rfl, _, .of gw4⟩, _, rfl, _, rfl, n2, p, rfl, rfl, (show 0 < p by lia), .inr ⟨n2 % p, rfl, by rw [hr']; exact log_sm (by lia), lw, _, _, rfl, rfl, gw4, by rw [List.length_map, len1]; lia, ?_⟩⟩
        rw [hr']
        have e2 : (ws ++ [y]).map V.str ++ [V.str (toString (r : Int))] = (ws ++ [y] ++ [numS r]).map V.str := by rw [show (ws ++ [y] ++ [numS r]).map V.str = (ws ++ [y]).map V.str ++ [numS r].map V.str from List.map_append]; rfl
        rw [e2]
        have sm5 := sm4'.put (o := .lst ((ws ++ [y] ++ [numS r]).map V.str)) Hlw
        have gl5 : (upd H4 lw (.lst ((ws ++ [y] ++ [numS r]).map V.str))) l3 = some (.lst ((oE ++ oF).map V.str)) := by rw [upd_ne nlw]; exact gl4
        refine ⟨_, rfl, _, rfl, n2, p, rfl, rfl, ⟨by lia, by lia⟩, ?_⟩
        have len2 : (ws ++ [y] ++ [numS r]).length = ws.length + 2 := by rw [List.length_append, len1]; rfl
        refine ⟨_, ?_, sm5, gl5, ws ++ [y] ++ [numS r], n2 / p, due - 1 + inc k, _, rfl, upd_same, fun u hu => (List.mem_append.mp hu).elim (mem1 u) fun h => by rw [List.mem_singleton.mp h]; exact num_pc (by lia), ⟨by lia, by rw [len2]; lia, fun h => by rw [len2] at h; lia⟩, rfl⟩
        rw [len2]
        lia
      · refine ⟨_, ?_, sm4', gl4, ws ++ [y], n2, due - 1 + inc k, _, rfl, gw4, mem1, ⟨by lia, by rw [len1]; lia, fun h => by rw [len1] at h; lia⟩, rfl⟩
        rw [len1]
        lia
    rintro σ H1 ⟨sm, ws, nn, due, s5, rfl, gws, hws, h1', h2'⟩
    exact ⟨_, rfl, q lw ws _ sm gws h1' h2' hws⟩
end
end S21
namespace S21
open PySem L2 Bw
set_option maxHeartbeats 3900000
theorem pc_free : pieces.all (fun x => !(x.cps.toList.contains 32)) = true := by decide +kernel
theorem emp_split : Txt.split (Txt.join (Str.ofString " ") []) (Str.ofString " ") = [Str.ofString ""] := by decide +kernel
/-- the pieces of a text put together of pieces -/
theorem jn_split {us : List Str} (h : ∀ y ∈ us, y ∈ pieces) : (∀ y ∈ Txt.split (Txt.join (Str.ofString " ") us) (Str.ofString " "), y ∈ pieces) ∧ (Txt.split (Txt.join (Str.ofString " ") us) (Str.ofString " ")).length ≤ us.length + 1 := by
  cases us with
  | nil =>
    rw [emp_split]
    exact ⟨fun y hy => by rw [List.mem_singleton.mp hy]; exact pc_e, Nat.le_refl _⟩
  | cons x r =>
    have e : Txt.split (Txt.join (Str.ofString " ") (x :: r)) (Str.ofString " ") = x :: r := by
      rw [blank_is, eq_of_beq (PyProof.Rows.join_closes (ys := x :: r) (rfl : (⟨#[32]⟩ : Str) = ⟨#[32]⟩))]
      refine split_join (by simp) fun y hy hc => ?_
      have := List.all_eq_true.mp pc_free y (h y hy)
      rw [List.contains_iff_mem.mpr hc] at this
      cases this
    rw [e]
    exact ⟨h, by lia⟩
theorem jn_len {us : List Str} (h : ∀ y ∈ us, y ∈ pieces) : (us.map (·.length)).sum + us.length * (Str.ofString " ").length ≤ us.length * 11 := by
  have e : (Str.ofString " ").length = 1 := by decide
  have := sum_le_mul (fun x : Str => x.length) 10 us fun x hx => (pc_of (h x hx)).len
  rw [e]
  lia
theorem jn_fit {us : List Str} (h : ∀ y ∈ us, y ∈ pieces) : (Txt.join (Str.ofString " ") us).length ≤ us.length * 11 := by
  have h1 := jn_len h
  have h2 := StrLaws.join_length_le (Str.ofString " ") us
  rw [blank_is] at h1 h2 ⊢
  rw [eq_of_beq (PyProof.Rows.join_closes (ys := us) (rfl : (⟨#[32]⟩ : Str) = ⟨#[32]⟩))]
  lia
theorem four_ok : ([Str.ofString "", Str.ofString " ", Str.ofString "times", Str.ofString "3"].all fun x => (Txt.split x (Str.ofString " ")).all (fun y => pieces.contains y) && decide ((Txt.split x (Str.ofString " ")).length ≤ 200) && decide (x.length ≤ 10)) = true := by decide +kernel
theorem four_of {x : Str} (h : x ∈ [Str.ofString "", Str.ofString " ", Str.ofString "times", Str.ofString "3"]) : (∀ y ∈ Txt.split x (Str.ofString " "), y ∈ pieces) ∧ (Txt.split x (Str.ofString " ")).length ≤ 200 ∧ x.length ≤ 10 := by
  have := List.all_eq_true.mp four_ok x h
  simp only [Bool.and_eq_true, decide_eq_true_eq] at this
  exact ⟨fun y hy => List.contains_iff_mem.mp (List.all_eq_true.mp this.1.1 y hy), this.1.2, this.2⟩
section
variable {P : Program} {w : World} {K : PySem.W.Frag} {mg : Str → Option Value} {base : Heap}
/-! ### law -/
noncomputable def spLaw12 (K : PySem.W.Frag) : Sp := fun vs H Q _ => ∃ (a : Addr) (ns : List Int), vs = [.ref a] ∧ SqL K H a (ns.map V.int) ∧ ns.length ≤ 63 ∧ ∀ H', Q (.bl true) H'
theorem scL12 : FnScope ["script", "cell", "p", "words", "text"] ["script"] (defScope s_law) := ⟨rfl, rfl, rfl, by decide +kernel, rfl, by decide +kernel, by decide +kernel⟩
theorem ok_isG2 {f : Addr} {fd : FuncData} (F : Fun K "is_number" "is_number" s_is_number f fd) (T : Txt mg) (FG : ∃ t, mg "FIGURES" = some (.str figs t)) : FnOk P w K mg base CX0 1 f fd ["p", "piece"] spIsG := let ⟨_, h⟩ := FG; ok_isG F T h
set_option maxRecDepth 100000 in
theorem ok_law12 {f fP fW fS fR : Addr} {fd fdP fdW fdS fdR : FuncData} (F : Fun K "law" "law" s_law f fd) (T : Txt mg)
    (GP : FnOk P w K mg base CX0 1 fP fdP ["cell"] spPrm3) (kP : PySem.W.keepIn K (.ref fP) = true) (bP : Binds K fdP ["cell"] []) (mP : mg "_law_prime" = some (.ref fP))
    (GW : FnOk P w K mg base CX0 1 fW fdW ["p", "number"] spWds) (kW : PySem.W.keepIn K (.ref fW) = true) (bW : Binds K fdW ["p", "number"] []) (mW : mg "_law_words" = some (.ref fW))
    (GS : FnOk P w K mg base CX0 2 fS fdS ["p", "words", "number"] spSpo) (kS : PySem.W.keepIn K (.ref fS) = true) (bS : Binds K fdS ["p", "words", "number"] []) (mS : mg "_law_spoiled" = some (.ref fS))
    (GR : FnOk P w K mg base CX0 7 fR fdR ["p", "text"] (spRt K)) (kR : PySem.W.keepIn K (.ref fR) = true) (bR : Binds K fdR ["p", "text"] []) (mR : mg "_law_right" = some (.ref fR)) : FnOk P w K mg base CX0 8 f fd ["script"] (spLaw12 K) := by
  refine F.ok scL12 (fun vs H Q E h => ?_) (fun cdv A outer s H vs Q E hr h => ?_)
  · obtain ⟨a, ns, rfl, _⟩ := h
    rfl
  · obtain ⟨a, ns, rfl, ha, hn, q⟩ := h
    have r1 : Room 1 _ := hr.mono (by lia)
    have r2 : Room 2 _ := hr.mono (by lia)
    have z : (10000 : Nat) ≤ sizeLine := by decide
    refine ⟨_, pss_cons (ps_for PassesOwn.never rfl (piList K rfl (pe_op op_cat (pe_slice (slL K rfl) (pv 0) po_none (po_some pe_int)) (pe_lst (pa_cons (pe_callB (cLen K rfl) rfl T.len bt_len (pa_cons (pv 0) pa_nil)) pa_nil)))) (pg_name (i := 1) scL12.nd rfl (Or.inl rfl))
        (pss_cons (ps_set (i := 2) scL12.nd rfl (Or.inl rfl) (pe_call GP r1 rfl mP kP bP .nil pass0 (pa_cons (pv 1) pa_nil)))
        (pss_cons (ps_set (i := 3) scL12.nd rfl (Or.inl rfl) (pe_call GW r1 rfl mW kW bW .nil pass0 (pa_cons (pv 2) (pa_cons (pe_op op_mod (pe_op op_fdiv (pe_op op_fdiv (pv 1) pe_int) pe_int) (pe_op op_pow pe_int pe_int)) pa_nil))))
        (pss_cons (ps_set (i := 4) scL12.nd rfl (Or.inl rfl) (pe_bm PySem.F.plainAttrs_str PySem.F.slot_str_join PySem.F.type_str_join mt_join pe_str (pa_cons (pe_call GS r2 rfl mS kS bS .nil pass0 (pa_cons (pv 2) (pa_cons (pv 3) (pa_cons (pe_op op_fdiv (pv 1) pe_int) pa_nil)))) pa_nil)))
        (pss_one (ps_if (PW.pt (pw_or (pt_not (pt_val (pe_call GR hr rfl mR kR bR .nil pass0 (pa_cons (pv 2) (pa_cons (pv 4) pa_nil)))))
          (pw_or1 (pt_not (pt_val (pe_call GR hr rfl mR kR bR .nil pass0 (pa_cons (pv 2) (pa_cons (pe_bm PySem.F.plainAttrs_str PySem.F.slot_str_join PySem.F.type_str_join mt_join pe_str (pa_cons (pv 3) pa_nil)) pa_nil)))))))) (pss_one (ps_ret pe_bl)) pss_nil))))))
      (pss_one (ps_ret (pe_and (pe_call GR hr rfl mR kR bR .nil pass0 (pa_cons pe_int (pa_cons pe_str pa_nil))) (pe_and (pe_call GR hr rfl mR kR bR .nil pass0 (pa_cons pe_int (pa_cons pe_str pa_nil))) (pe_and (pe_call GR hr rfl mR kR bR .nil pass0 (pa_cons pe_int (pa_cons pe_str pa_nil))) (pe_one (pe_call GR hr rfl mR kR bR .nil pass0 (pa_cons pe_int (pa_cons pe_str pa_nil))))))))), ?_⟩
    obtain ⟨ms, ems, lms⟩ := cutI ns none (some 63)
    refine ⟨_, rfl, 63, rfl, a, _, rfl, ha, fun l1 h1 => ?_⟩
    rw [ems]
    have s1 := Same.upd h1 (o := .lst (ms.map V.int))
    refine ⟨_, rfl, a, _, rfl, .inl (s1.sq (b := true) ha), ?_⟩
    refine ⟨by show 1 ≤ sizeLine; lia, fun l2 h2 => ?_⟩
    refine ⟨l1, l2, _, _, rfl, rfl, (Same.upd h2) _ _ upd_same, upd_same, by rw [List.length_map]; show _ + 1 ≤ _; lia, fun l3 h3 => ?_⟩
    have el : ms.map V.int ++ [V.int ((ns.map V.int).length : Int)] = (ms ++ [((ns.map V.int).length : Int)]).map V.int := by rw [List.map_append]; rfl
    rw [el]
    generalize ms ++ [((ns.map V.int).length : Int)] = cs
    have g3 : (upd (upd (upd H l1 (.lst (ms.map V.int))) l2 (.lst [V.int ((ns.map V.int).length : Int)])) l3 (.lst (cs.map V.int))) l3 = some (.lst (cs.map V.int)) := upd_same
    generalize upd (upd (upd H l1 (.lst (ms.map V.int))) l2 (.lst [V.int ((ns.map V.int).length : Int)])) l3 (.lst (cs.map V.int)) = H3 at g3 ⊢
    refine ⟨l3, rfl, ⟨_, .of g3⟩, for_list (xs := cs.map V.int) (fun i σ H' => H' l3 = some (.lst (cs.map V.int)) ∧ ∃ s1 s2 s3 s4, σ = [some (.ref a), s1, s2, s3, s4]) ⟨g3, none, none, none, none, rfl⟩ (fun i σ H' _ h => .of h.1) ?_ ?_⟩
    · rintro i x σ H' hx ⟨g, _, _, _, _, rfl⟩
      obtain ⟨c, _, rfl⟩ := List.mem_map.mp (List.mem_of_getElem? hx)
      refine ⟨_, rfl, c, rfl, fun p H4 hp s4 => ?_⟩
      obtain ⟨p2, p97⟩ := prime_pos p hp
      dsimp only [gName]
      refine ⟨_, rfl, _, rfl, c, 32, rfl, rfl, ⟨by decide, by decide⟩, _, 400, rfl, rfl, ⟨by decide, by decide⟩, 10, 40, rfl, rfl, ⟨by decide, by decide, by decide⟩, _, _, rfl, rfl, (by decide : (0 : Int) < 10 ^ (40 : Int).toNat), p, _, rfl, p2, p97, fun l ws H5 s5 gl w1 w60 hws => ?_⟩
      dsimp only [gName]
      refine ⟨rfl, _, rfl, _, rfl, _, rfl, c, 32, rfl, rfl, ⟨by decide, by decide⟩, p, c / 32, l, ws, rfl, p2, p97, gl, w1, w60, hws, fun l' us H6 s6 gl' u130 hus => ?_⟩
      have b1 := jn_split hus
      have b2 := jn_len hus
      have b3 := jn_fit hus
      refine ⟨_, l', us, rfl, rfl, .of gl', by lia, ?_⟩
      dsimp only [gName]
      refine ⟨_, rfl, _, rfl, p, _, _, rfl, rfl, b1.1, by lia, by lia, p2, p97, fun H7 s7 => ⟨true, rfl, iteF ?_⟩⟩
      have c1 := jn_split hws
      have c2 := jn_len hws
      have c3 := jn_fit hws
      have gl7 := (s6.trans s7) _ _ gl
      refine ⟨_, rfl, rfl, _, rfl, _, l, ws, rfl, rfl, .of gl7, by lia, p, _, _, rfl, rfl, c1.1, by lia, by lia, p2, p97, fun H8 s8 => ⟨true, rfl, iteF ?_⟩⟩
      exact ⟨(s4.trans (s5.trans (s6.trans (s7.trans s8)))) _ _ g, _, _, _, _, rfl⟩
    · rintro σ H' ⟨g, _, _, _, _, rfl⟩
      have f1 := four_of (x := Str.ofString "") (by simp)
      have f2 := four_of (x := Str.ofString " ") (by simp)
      have f3 := four_of (x := Str.ofString "times") (by simp)
      have f4 := four_of (x := Str.ofString "3") (by simp)
      refine ⟨2, _, _, rfl, rfl, f1.1, f1.2.1, by lia, by decide, by decide, fun H1 _ => ⟨true, rfl, iteT ?_⟩⟩
      refine ⟨2, _, _, rfl, rfl, f2.1, f2.2.1, by lia, by decide, by decide, fun H2 _ => ⟨true, rfl, iteT ?_⟩⟩
      refine ⟨5, _, _, rfl, rfl, f3.1, f3.2.1, by lia, by decide, by decide, fun H3 _ => ⟨true, rfl, iteT ?_⟩⟩
      exact ⟨5, _, _, rfl, rfl, f4.1, f4.2.1, by lia, by decide, by decide, fun H4 _ => q _⟩
end
end S21
namespace S21
open PySem L2 Bw
set_option maxHeartbeats 3900000
theorem us1 {fd : FuncData} {ps : List Str} : ∀ (us : List Value), us.length = 1 → (∀ a0, bindArgs fd ⟨[a0], []⟩ = pure (ps.zip [a0])) → bindArgs fd ⟨us, []⟩ = pure (ps.zip us)
  | [a0], _, h => h a0
theorem us2 {fd : FuncData} {ps : List Str} : ∀ (us : List Value), us.length = 2 → (∀ a0 a1, bindArgs fd ⟨[a0, a1], []⟩ = pure (ps.zip [a0, a1])) → bindArgs fd ⟨us, []⟩ = pure (ps.zip us)
  | [a0, a1], _, h => h a0 a1
theorem us3 {fd : FuncData} {ps : List Str} : ∀ (us : List Value), us.length = 3 → (∀ a0 a1 a2, bindArgs fd ⟨[a0, a1, a2], []⟩ = pure (ps.zip [a0, a1, a2])) → bindArgs fd ⟨us, []⟩ = pure (ps.zip us)
  | [a0, a1, a2], _, h => h a0 a1 a2
theorem all_mk {l : PySem.W.OpenLaw} {w : World} {K : PySem.W.Frag} {h : Heap} {mg : Str → Option Value} {CB fI : Addr} {odI anI : Option Addr} {slI : Array (Option Value)} {ocI kVI dcI pmI cdI ctI : Value} {fa f1 f2 f3 f4 f5 f6 f7 f8 f9 f10 f11 f12 f13 f14 f15 f16 f17 f18 f19 f20 : Addr} (X : K.In h) (G : h.Ns mainGlobals mg) (hfa : mg "law" = some (.ref fa))
    {od1 an1 od2 an2 od3 an3 od4 an4 od5 an5 od6 an6 od7 an7 od8 an8 od9 an9 od10 an10 od11 an11 od12 an12 od13 an13 od14 an14 od15 an15 od16 an16 od17 an17 od18 an18 od19 an19 od20 an20 : Option Addr} {sl1 sl2 sl3 sl4 sl5 sl6 sl7 sl8 sl9 sl10 sl11 sl12 sl13 sl14 sl15 sl16 sl17 sl18 sl19 sl20 : Array (Option Value)} {oc1 kV1 dc1 pm1 cd1 ct1 oc2 kV2 dc2 pm2 cd2 ct2 oc3 kV3 dc3 pm3 cd3 ct3 oc4 kV4 dc4 pm4 cd4 ct4 oc5 kV5 dc5 pm5 cd5 ct5 oc6 kV6 dc6 pm6 cd6 ct6 oc7 kV7 dc7 pm7 cd7 ct7 oc8 kV8 dc8 pm8 cd8 ct8 oc9 kV9 dc9 pm9 cd9 ct9 oc10 kV10 dc10 pm10 cd10 ct10 oc11 kV11 dc11 pm11 cd11 ct11 oc12 kV12 dc12 pm12 cd12 ct12 oc13 kV13 dc13 pm13 cd13 ct13 oc14 kV14 dc14 pm14 cd14 ct14 oc15 kV15 dc15 pm15 cd15 ct15 oc16 kV16 dc16 pm16 cd16 ct16 oc17 kV17 dc17 pm17 cd17 ct17 oc18 kV18 dc18 pm18 cd18 ct18 oc19 kV19 dc19 pm19 cd19 ct19 oc20 kV20 dc20 pm20 cd20 ct20 : Value}
    (a1 : PySem.W.nsIn K mainGlobals "read" = some (some (.ref f1))) (l1 : K.lookup f1 = some ⟨oc1, od1, .func (PySem.W.fnOf "read" "read" (defArgs s_read) (defBody s_read) (defScope s_read) .none kV1 dc1 pm1 an1 cd1 ct1), sl1⟩) (c1 : PySem.W.codeIn K cd1 "read" = true) (k1 : PySem.W.keepIn K (.ref f1) = true)
    (a2 : PySem.W.nsIn K mainGlobals "word_of" = some (some (.ref f2))) (l2 : K.lookup f2 = some ⟨oc2, od2, .func (PySem.W.fnOf "word_of" "word_of" (defArgs s_word_of) (defBody s_word_of) (defScope s_word_of) .none kV2 dc2 pm2 an2 cd2 ct2), sl2⟩) (c2 : PySem.W.codeIn K cd2 "word_of" = true) (k2 : PySem.W.keepIn K (.ref f2) = true)
    (a3 : PySem.W.nsIn K mainGlobals "is_number" = some (some (.ref f3))) (l3 : K.lookup f3 = some ⟨oc3, od3, .func (PySem.W.fnOf "is_number" "is_number" (defArgs s_is_number) (defBody s_is_number) (defScope s_is_number) .none kV3 dc3 pm3 an3 cd3 ct3), sl3⟩) (c3 : PySem.W.codeIn K cd3 "is_number" = true) (k3 : PySem.W.keepIn K (.ref f3) = true)
    (a4 : PySem.W.nsIn K mainGlobals "numbers_fit" = some (some (.ref f4))) (l4 : K.lookup f4 = some ⟨oc4, od4, .func (PySem.W.fnOf "numbers_fit" "numbers_fit" (defArgs s_numbers_fit) (defBody s_numbers_fit) (defScope s_numbers_fit) .none kV4 dc4 pm4 an4 cd4 ct4), sl4⟩) (c4 : PySem.W.codeIn K cd4 "numbers_fit" = true) (k4 : PySem.W.keepIn K (.ref f4) = true)
    (a5 : PySem.W.nsIn K mainGlobals "parts_fit" = some (some (.ref f5))) (l5 : K.lookup f5 = some ⟨oc5, od5, .func (PySem.W.fnOf "parts_fit" "parts_fit" (defArgs s_parts_fit) (defBody s_parts_fit) (defScope s_parts_fit) .none kV5 dc5 pm5 an5 cd5 ct5), sl5⟩) (c5 : PySem.W.codeIn K cd5 "parts_fit" = true) (k5 : PySem.W.keepIn K (.ref f5) = true)
    (a6 : PySem.W.nsIn K mainGlobals "folded" = some (some (.ref f6))) (l6 : K.lookup f6 = some ⟨oc6, od6, .func (PySem.W.fnOf "folded" "folded" (defArgs s_folded) (defBody s_folded) (defScope s_folded) .none kV6 dc6 pm6 an6 cd6 ct6), sl6⟩) (c6 : PySem.W.codeIn K cd6 "folded" = true) (k6 : PySem.W.keepIn K (.ref f6) = true)
    (a7 : PySem.W.nsIn K mainGlobals "all_folded" = some (some (.ref f7))) (l7 : K.lookup f7 = some ⟨oc7, od7, .func (PySem.W.fnOf "all_folded" "all_folded" (defArgs s_all_folded) (defBody s_all_folded) (defScope s_all_folded) .none kV7 dc7 pm7 an7 cd7 ct7), sl7⟩) (c7 : PySem.W.codeIn K cd7 "all_folded" = true) (k7 : PySem.W.keepIn K (.ref f7) = true)
    (a8 : PySem.W.nsIn K mainGlobals "measured" = some (some (.ref f8))) (l8 : K.lookup f8 = some ⟨oc8, od8, .func (PySem.W.fnOf "measured" "measured" (defArgs s_measured) (defBody s_measured) (defScope s_measured) .none kV8 dc8 pm8 an8 cd8 ct8), sl8⟩) (c8 : PySem.W.codeIn K cd8 "measured" = true) (k8 : PySem.W.keepIn K (.ref f8) = true)
    (a9 : PySem.W.nsIn K mainGlobals "measure" = some (some (.ref f9))) (l9 : K.lookup f9 = some ⟨oc9, od9, .func (PySem.W.fnOf "measure" "measure" (defArgs s_measure) (defBody s_measure) (defScope s_measure) .none kV9 dc9 pm9 an9 cd9 ct9), sl9⟩) (c9 : PySem.W.codeIn K cd9 "measure" = true) (k9 : PySem.W.keepIn K (.ref f9) = true)
    (a10 : PySem.W.nsIn K mainGlobals "joined_sides" = some (some (.ref f10))) (l10 : K.lookup f10 = some ⟨oc10, od10, .func (PySem.W.fnOf "joined_sides" "joined_sides" (defArgs s_joined_sides) (defBody s_joined_sides) (defScope s_joined_sides) .none kV10 dc10 pm10 an10 cd10 ct10), sl10⟩) (c10 : PySem.W.codeIn K cd10 "joined_sides" = true) (k10 : PySem.W.keepIn K (.ref f10) = true)
    (a11 : PySem.W.nsIn K mainGlobals "first_unmet" = some (some (.ref f11))) (l11 : K.lookup f11 = some ⟨oc11, od11, .func (PySem.W.fnOf "first_unmet" "first_unmet" (defArgs s_first_unmet) (defBody s_first_unmet) (defScope s_first_unmet) .none kV11 dc11 pm11 an11 cd11 ct11), sl11⟩) (c11 : PySem.W.codeIn K cd11 "first_unmet" = true) (k11 : PySem.W.keepIn K (.ref f11) = true)
    (a12 : PySem.W.nsIn K mainGlobals "_law_prime" = some (some (.ref f12))) (l12 : K.lookup f12 = some ⟨oc12, od12, .func (PySem.W.fnOf "_law_prime" "_law_prime" (defArgs sPrime) (defBody sPrime) (defScope sPrime) .none kV12 dc12 pm12 an12 cd12 ct12), sl12⟩) (c12 : PySem.W.codeIn K cd12 "_law_prime" = true) (k12 : PySem.W.keepIn K (.ref f12) = true)
    (a13 : PySem.W.nsIn K mainGlobals "_law_words" = some (some (.ref f13))) (l13 : K.lookup f13 = some ⟨oc13, od13, .func (PySem.W.fnOf "_law_words" "_law_words" (defArgs s_law_words) (defBody s_law_words) (defScope s_law_words) .none kV13 dc13 pm13 an13 cd13 ct13), sl13⟩) (c13 : PySem.W.codeIn K cd13 "_law_words" = true) (k13 : PySem.W.keepIn K (.ref f13) = true)
    (a14 : PySem.W.nsIn K mainGlobals "_law_other" = some (some (.ref f14))) (l14 : K.lookup f14 = some ⟨oc14, od14, .func (PySem.W.fnOf "_law_other" "_law_other" (defArgs s_law_other) (defBody s_law_other) (defScope s_law_other) .none kV14 dc14 pm14 an14 cd14 ct14), sl14⟩) (c14 : PySem.W.codeIn K cd14 "_law_other" = true) (k14 : PySem.W.keepIn K (.ref f14) = true)
    (a15 : PySem.W.nsIn K mainGlobals "_law_spoiled" = some (some (.ref f15))) (l15 : K.lookup f15 = some ⟨oc15, od15, .func (PySem.W.fnOf "_law_spoiled" "_law_spoiled" (defArgs s_law_spoiled) (defBody s_law_spoiled) (defScope s_law_spoiled) .none kV15 dc15 pm15 an15 cd15 ct15), sl15⟩) (c15 : PySem.W.codeIn K cd15 "_law_spoiled" = true) (k15 : PySem.W.keepIn K (.ref f15) = true)
    (a16 : PySem.W.nsIn K mainGlobals "_law_number" = some (some (.ref f16))) (l16 : K.lookup f16 = some ⟨oc16, od16, .func (PySem.W.fnOf "_law_number" "_law_number" (defArgs sNumber) (defBody sNumber) (defScope sNumber) .none kV16 dc16 pm16 an16 cd16 ct16), sl16⟩) (c16 : PySem.W.codeIn K cd16 "_law_number" = true) (k16 : PySem.W.keepIn K (.ref f16) = true)
    (a17 : PySem.W.nsIn K mainGlobals "_law_shape" = some (some (.ref f17))) (l17 : K.lookup f17 = some ⟨oc17, od17, .func (PySem.W.fnOf "_law_shape" "_law_shape" (defArgs s_law_shape) (defBody s_law_shape) (defScope s_law_shape) .none kV17 dc17 pm17 an17 cd17 ct17), sl17⟩) (c17 : PySem.W.codeIn K cd17 "_law_shape" = true) (k17 : PySem.W.keepIn K (.ref f17) = true)
    (a18 : PySem.W.nsIn K mainGlobals "_law_meet" = some (some (.ref f18))) (l18 : K.lookup f18 = some ⟨oc18, od18, .func (PySem.W.fnOf "_law_meet" "_law_meet" (defArgs s_law_meet) (defBody s_law_meet) (defScope s_law_meet) .none kV18 dc18 pm18 an18 cd18 ct18), sl18⟩) (c18 : PySem.W.codeIn K cd18 "_law_meet" = true) (k18 : PySem.W.keepIn K (.ref f18) = true)
    (a19 : PySem.W.nsIn K mainGlobals "_law_right" = some (some (.ref f19))) (l19 : K.lookup f19 = some ⟨oc19, od19, .func (PySem.W.fnOf "_law_right" "_law_right" (defArgs s_law_right) (defBody s_law_right) (defScope s_law_right) .none kV19 dc19 pm19 an19 cd19 ct19), sl19⟩) (c19 : PySem.W.codeIn K cd19 "_law_right" = true) (k19 : PySem.W.keepIn K (.ref f19) = true)
    (a20 : PySem.W.nsIn K mainGlobals "law" = some (some (.ref f20))) (l20 : K.lookup f20 = some ⟨oc20, od20, .func (PySem.W.fnOf "law" "law" (defArgs s_law) (defBody s_law) (defScope s_law) .none kV20 dc20 pm20 an20 cd20 ct20), sl20⟩) (c20 : PySem.W.codeIn K cd20 "law" = true) (k20 : PySem.W.keepIn K (.ref f20) = true)
    (z1 : PySem.W.nsIn K mainGlobals "range" = some none) (z2 : PySem.W.nsIn K mainGlobals "zip" = some none) (z3 : PySem.W.nsIn K mainGlobals "tuple" = some none) (z4 : PySem.W.nsIn K mainGlobals "list" = some none) (z5 : PySem.W.nsIn K mainGlobals "int" = some none) (z6 : PySem.W.nsIn K mainGlobals "bool" = some none) (z7 : PySem.W.nsIn K mainGlobals "isinstance" = some none) (z8 : PySem.W.nsIn K mainGlobals "len" = some none) (z9 : PySem.W.nsIn K mainGlobals "sum" = some none) (z10 : PySem.W.nsIn K mainGlobals "max" = some none) (z11 : PySem.W.nsIn K mainGlobals "min" = some none) (z12 : PySem.W.nsIn K mainGlobals "enumerate" = some none) (z13 : PySem.W.nsIn K mainGlobals "any" = some none) (z14 : PySem.W.nsIn K mainGlobals "all" = some none) (z15 : PySem.W.nsIn K mainGlobals "str" = some none)
    (aC : PySem.W.nsIn K mainGlobals "BadWires" = some (some (.ref CB))) (aI : PySem.W.findIn K (.ref CB) "__init__" = some (some (.ref fI))) (lI : K.lookup fI = some ⟨ocI, odI, .func (PySem.W.fnOf "__init__" "BadWires.__init__" (defArgs s_bini) (defBody s_bini) (defScope s_bini) .none kVI dcI pmI anI cdI ctI), slI⟩) (cI : PySem.W.codeIn K cdI "BadWires.__init__" = true) (kI : PySem.W.keepIn K (.ref fI) = true)
    (hx1 : tabs11 K = true) (hx2 : (bad12 K && (fiOf K == fI)) = true) :
    ∃ fd : FuncData, (∀ (s : Shared) (v : Value), BindsTo s fd ⟨[v], []⟩ [("script", v)]) ∧ ∀ base : Heap, K.In base → base.Ns mainGlobals mg → FnOk l.prog w K mg base CX0 8 fa fd ["script"] (spLaw12 K) := by
  have e := hfa.symm.trans (PySem.W.mg_of X G a20)
  cases e
  have T : Txt mg := ⟨PySem.W.mg_none_of X G z1, PySem.W.mg_none_of X G z2, PySem.W.mg_none_of X G z3, PySem.W.mg_none_of X G z4, PySem.W.mg_none_of X G z5, PySem.W.mg_none_of X G z6, PySem.W.mg_none_of X G z7, PySem.W.mg_none_of X G z8, PySem.W.mg_none_of X G z9, PySem.W.mg_none_of X G z10, PySem.W.mg_none_of X G z11, PySem.W.mg_none_of X G z12, PySem.W.mg_none_of X G z13, PySem.W.mg_none_of X G z14, PySem.W.mg_none_of X G z15⟩
  rw [Bool.and_eq_true, beq_iff_eq] at hx2
  obtain ⟨hx2, rfl⟩ := hx2
  have BX := bad12_of X G hx2
  have B := BX.B.B
  have FI := fun_mk (st := s_bini) lI cI kI
  have bI := FI.binds (ps := ["self", "place"]) fun _ _ _ _ _ _ us hl => us2 us hl fun _ _ => rfl
  have F1 := fun_mk (st := s_read) l1 c1 k1
  have F2 := fun_mk (st := s_word_of) l2 c2 k2
  have F3 := fun_mk (st := s_is_number) l3 c3 k3
  have F4 := fun_mk (st := s_numbers_fit) l4 c4 k4
  have F5 := fun_mk (st := s_parts_fit) l5 c5 k5
  have F6 := fun_mk (st := s_folded) l6 c6 k6
  have F7 := fun_mk (st := s_all_folded) l7 c7 k7
  have F8 := fun_mk (st := s_measured) l8 c8 k8
  have F9 := fun_mk (st := s_measure) l9 c9 k9
  have F10 := fun_mk (st := s_joined_sides) l10 c10 k10
  have F11 := fun_mk (st := s_first_unmet) l11 c11 k11
  have F12 := fun_mk (st := sPrime) l12 c12 k12
  have F13 := fun_mk (st := s_law_words) l13 c13 k13
  have F14 := fun_mk (st := s_law_other) l14 c14 k14
  have F15 := fun_mk (st := s_law_spoiled) l15 c15 k15
  have F16 := fun_mk (st := sNumber) l16 c16 k16
  have F17 := fun_mk (st := s_law_shape) l17 c17 k17
  have F18 := fun_mk (st := s_law_meet) l18 c18 k18
  have F19 := fun_mk (st := s_law_right) l19 c19 k19
  have F20 := fun_mk (st := s_law) l20 c20 k20
  have b1 := F1.binds (ps := ["p", "text"]) fun _ _ _ _ _ _ us hl => us2 us hl fun _ _ => rfl
  have m1 := PySem.W.mg_of X G a1
  have b2 := F2.binds (ps := ["p", "piece"]) fun _ _ _ _ _ _ us hl => us2 us hl fun _ _ => rfl
  have m2 := PySem.W.mg_of X G a2
  have b3 := F3.binds (ps := ["p", "piece"]) fun _ _ _ _ _ _ us hl => us2 us hl fun _ _ => rfl
  have m3 := PySem.W.mg_of X G a3
  have b4 := F4.binds (ps := ["words"]) fun _ _ _ _ _ _ us hl => us1 us hl fun _ => rfl
  have m4 := PySem.W.mg_of X G a4
  have b5 := F5.binds (ps := ["words"]) fun _ _ _ _ _ _ us hl => us1 us hl fun _ => rfl
  have m5 := PySem.W.mg_of X G a5
  have b6 := F6.binds (ps := ["words", "made"]) fun _ _ _ _ _ _ us hl => us2 us hl fun _ _ => rfl
  have m6 := PySem.W.mg_of X G a6
  have b7 := F7.binds (ps := ["words", "made"]) fun _ _ _ _ _ _ us hl => us2 us hl fun _ _ => rfl
  have m7 := PySem.W.mg_of X G a7
  have b8 := F8.binds (ps := ["words"]) fun _ _ _ _ _ _ us hl => us1 us hl fun _ => rfl
  have m8 := PySem.W.mg_of X G a8
  have b9 := F9.binds (ps := ["place", "word", "parts"]) fun _ _ _ _ _ _ us hl => us3 us hl fun _ _ _ => rfl
  have m9 := PySem.W.mg_of X G a9
  have b10 := F10.binds (ps := ["word", "parts"]) fun _ _ _ _ _ _ us hl => us2 us hl fun _ _ => rfl
  have m10 := PySem.W.mg_of X G a10
  have b11 := F11.binds (ps := ["parts"]) fun _ _ _ _ _ _ us hl => us1 us hl fun _ => rfl
  have m11 := PySem.W.mg_of X G a11
  have b12 := F12.binds (ps := ["cell"]) fun _ _ _ _ _ _ us hl => us1 us hl fun _ => rfl
  have m12 := PySem.W.mg_of X G a12
  have b13 := F13.binds (ps := ["p", "number"]) fun _ _ _ _ _ _ us hl => us2 us hl fun _ _ => rfl
  have m13 := PySem.W.mg_of X G a13
  have b14 := F14.binds (ps := ["p", "number"]) fun _ _ _ _ _ _ us hl => us2 us hl fun _ _ => rfl
  have m14 := PySem.W.mg_of X G a14
  have b15 := F15.binds (ps := ["p", "words", "number"]) fun _ _ _ _ _ _ us hl => us3 us hl fun _ _ _ => rfl
  have m15 := PySem.W.mg_of X G a15
  have b16 := F16.binds (ps := ["p", "word"]) fun _ _ _ _ _ _ us hl => us2 us hl fun _ _ => rfl
  have m16 := PySem.W.mg_of X G a16
  have b17 := F17.binds (ps := ["p", "text"]) fun _ _ _ _ _ _ us hl => us2 us hl fun _ _ => rfl
  have m17 := PySem.W.mg_of X G a17
  have b18 := F18.binds (ps := ["text"]) fun _ _ _ _ _ _ us hl => us1 us hl fun _ => rfl
  have m18 := PySem.W.mg_of X G a18
  have b19 := F19.binds (ps := ["p", "text"]) fun _ _ _ _ _ _ us hl => us2 us hl fun _ _ => rfl
  have m19 := PySem.W.mg_of X G a19
  exact ⟨PySem.W.fnOf "law" "law" (defArgs s_law) (defBody s_law) (defScope s_law) .none kV20 dc20 pm20 an20 cd20 ct20, fun s v => .of_eq rfl, fun base _ _ => ok_law12 F20 T (ok_prm3 F12) k12 b12 m12 (ok_wds F13 T) k13 b13 m13 (ok_spo F15 T (ok_oth F14 T) k14 b14 m14) k15 b15 m15 (ok_rt F19 T BX (ok_rdG F1 T (ok_woG F2 T (sides11 X G hx1) (parts11 X G hx1) (ok_isG2 F3 T (figs11 X G hx1)) k3 b3 m3 BX.B.mN BX.xN.2) k2 b2 m2 (ok_nfG F4 T) k4 b4 m4 (ok_pfG F5 (parts11 X G hx1)) k5 b5 m5 (ok_measd3 F8 (ok_folded F6 (ok_fold F7 T (parts11 X G hx1)) k7 b7 m7) k6 b6 m6 (ok_meas3 F9 (sides11 X G hx1) (ok_unm2 F11) k11 b11 m11 (ok_js2 F10) k10 b10 m10) F9 b9 m9) k8 b8 m8 BX.B.mN BX.xN.2 B.mC B.hin B.hft (ok_bini FI B.mW B.B) bI) k1 b1 m1 (ok_shape F17 (ok_num F16 T) k16 b16 m16) k17 b17 m17 (ok_meet F18 T BX.rv) k18 b18 m18) k19 b19 m19⟩
theorem walk {l : PySem.W.OpenLaw} {q : Program} {loose : List Str} {XP : (Str → Option Value) → Heap → Prop} {YP : World → Heap → Prop} {d : DefRec} {K : Params → PySem.W.Frag} (hn : l.most = some 63) (hdf : d.params.defaults = [])
    (hY : ∀ (w : World) (h : Heap), YP w h → (K w.params).In h)
    (F : ∀ (w : World) (mg : Str → Option Value) (fa : Addr) (h : Heap), (K w.params).In h → h.Ns mainGlobals mg → mg d.name = some (.ref fa) →
      ∃ fd : FuncData, (∀ (s : Shared) (u : Value), BindsTo s fd ⟨[u], []⟩ [("script", u)]) ∧ ∀ base : Heap, (K w.params).In base → base.Ns mainGlobals mg → FnOk l.prog w (K w.params) mg base CX0 8 fa fd ["script"] (spLaw12 (K w.params))) :
    PySem.W.WalkO q loose XP YP l.row.toRowW d [] (fun f vs => PySem.call f vs) :=
  L2.walk_of (n := 63) (k := 8) (x := "script") (CX := fun _ => CX0) (sp := fun w => spLaw12 (K w.params)) hn (by decide) hdf ⟨rfl, by decide, by decide⟩ hY F (fun _ _ a ns hl _ hS => ⟨a, ns, rfl, hS, hl, fun _ => rfl⟩) fun _ _ _ _ _ z => z
end S21
structure PySem.W.Fast:Prop where
 (tw6709051818025658152 tw7249660227384139210 tw7306568623531200429 tw9341335053989170858 tw15709057679333601926 tw10968962742880201691 tw4913337131563425503 tw6416781233279678968 tw13010792969304783270 tw13877550011941034081 tw14796804034774062109 tw9994209333033392125 tw12777495343310566974 tw4173639416085548701 tw526802968126363362 tw12602693280528129123 tw3519260815640003768 tw17482541933822736447 tw18233749537382658327 tw6352741320705464556 tw793861042512563552 tw7524555260207052921 tw1603971569908094315 tw11708181245686723594 tw587561812345418379 tw914680880740038833 tw12672675181489817275 tw18439688423878451091 tw3371920480401436212 tw17373686159181750357 tw10186337185961334498 tw1507515004524825265 tw15928814978534037320 tw5530246008570820944 tw12096322662237932692 tw4828559288661768856 tw3752080474242000614 tw17441744549176475227 tw15795770085969851099 tw16319473178870946039 tw2508626321362239688 tw17766077464389298464 tw4344710493265290783 tw12444323176396811654 tw601981446229281298 tw116286935488813295 tw6070408652022231633 tw4603854305733849287 tw7715547452895613758 tw10967884758478368401 tw14214445509748333259 tw1256130980412843674 tw5454229058357450783 tw7568552996954106699 tw12117537502298837899 tw16871299895432647229 tw3007072535890879822 tw196549956033011142 tw10481896932864095564 tw1231220832170281043 tw11844773260232414820 tw5204735916499859292 tw13090691590881975174 tw15285423082921360622 tw17366817325622002111 tw12795235936814119862 tw15962621191543373479 tw16406062984042074139 tw17494838630022921494 tw4567024136661170001 tw13119423981591466560 tw14485421135427877333 tw13138188857249368974 tw3405705973495614972 tw3631716474581041053 tw1270820502918212957 tw11884608739952786597 tw15784347543481084845 tw15735626338347267385 tw81465168152461048 tw14711772989374645850 tw7245384784364985564 tw2297164909560535424 tw14633680679408557907 tw12945415963043367509 tw12885975365995766219 tw2863010242676725609 tw188454313581650980 tw7067877301813772030 tw8953868556749557440 tw8591734251841762145 tw11016020131480334563 tw288389126069872732 tw9575211271222126585 tw15640129666408025738 tw11590131563557575181 tw14313550587692159639 tw847125970889212539 tw4800347572560752246 tw17225144061497340796:True)
open PySem PySem.W PyProof.Rows
set_option maxRecDepth 100000 in
set_option maxHeartbeats 0 in
theorem PySem.Challenge.cw_bentwires_k12_no_drawing_holds : PySem.Challenge.rw_bentwires_k12_no_drawing.Holds := by
  w_on; o_law; k_head; (case hw => w_witness2)
  k_fill
  refine S21.walk (l := PySem.Challenge.rw_bentwires_k12_no_drawing) rfl rfl (fun w h Y => PySem.W.kIn_of Y) ?F
  case F =>
    intro w mg fa h KX G hmg
    refine' S21.all_mk KX G hmg ?a1 ?l1 ?c1 ?k1 ?a2 ?l2 ?c2 ?k2 ?a3 ?l3 ?c3 ?k3 ?a4 ?l4 ?c4 ?k4 ?a5 ?l5 ?c5 ?k5 ?a6 ?l6 ?c6 ?k6 ?a7 ?l7 ?c7 ?k7 ?a8 ?l8 ?c8 ?k8 ?a9 ?l9 ?c9 ?k9 ?a10 ?l10 ?c10 ?k10 ?a11 ?l11 ?c11 ?k11 ?a12 ?l12 ?c12 ?k12 ?a13 ?l13 ?c13 ?k13 ?a14 ?l14 ?c14 ?k14 ?a15 ?l15 ?c15 ?k15 ?a16 ?l16 ?c16 ?k16 ?a17 ?l17 ?c17 ?k17 ?a18 ?l18 ?c18 ?k18 ?a19 ?l19 ?c19 ?k19 ?a20 ?l20 ?c20 ?k20 ?z1 ?z2 ?z3 ?z4 ?z5 ?z6 ?z7 ?z8 ?z9 ?z10 ?z11 ?z12 ?z13 ?z14 ?z15 ?aC ?aI ?lI ?cI ?kI ?hx1 ?hx2
    (case a1 => k_is)
    (case l1 => k_is)
    (case c1 => k_is)
    (case k1 => k_is)
    (case a2 => k_is)
    (case l2 => k_is)
    (case c2 => k_is)
    (case k2 => k_is)
    (case a3 => k_is)
    (case l3 => k_is)
    (case c3 => k_is)
    (case k3 => k_is)
    (case a4 => k_is)
    (case l4 => k_is)
    (case c4 => k_is)
    (case k4 => k_is)
    (case a5 => k_is)
    (case l5 => k_is)
    (case c5 => k_is)
    (case k5 => k_is)
    (case a6 => k_is)
    (case l6 => k_is)
    (case c6 => k_is)
    (case k6 => k_is)
    (case a7 => k_is)
    (case l7 => k_is)
    (case c7 => k_is)
    (case k7 => k_is)
    (case a8 => k_is)
    (case l8 => k_is)
    (case c8 => k_is)
    (case k8 => k_is)
    (case a9 => k_is)
    (case l9 => k_is)
    (case c9 => k_is)
    (case k9 => k_is)
    (case a10 => k_is)
    (case l10 => k_is)
    (case c10 => k_is)
    (case k10 => k_is)
    (case a11 => k_is)
    (case l11 => k_is)
    (case c11 => k_is)
    (case k11 => k_is)
    (case a12 => k_is)
    (case l12 => k_is)
    (case c12 => k_is)
    (case k12 => k_is)
    (case a13 => k_is)
    (case l13 => k_is)
    (case c13 => k_is)
    (case k13 => k_is)
    (case a14 => k_is)
    (case l14 => k_is)
    (case c14 => k_is)
    (case k14 => k_is)
    (case a15 => k_is)
    (case l15 => k_is)
    (case c15 => k_is)
    (case k15 => k_is)
    (case a16 => k_is)
    (case l16 => k_is)
    (case c16 => k_is)
    (case k16 => k_is)
    (case a17 => k_is)
    (case l17 => k_is)
    (case c17 => k_is)
    (case k17 => k_is)
    (case a18 => k_is)
    (case l18 => k_is)
    (case c18 => k_is)
    (case k18 => k_is)
    (case a19 => k_is)
    (case l19 => k_is)
    (case c19 => k_is)
    (case k19 => k_is)
    (case a20 => k_is)
    (case l20 => k_is)
    (case c20 => k_is)
    (case k20 => k_is)
    (case z1 => k_is)
    (case z2 => k_is)
    (case z3 => k_is)
    (case z4 => k_is)
    (case z5 => k_is)
    (case z6 => k_is)
    (case z7 => k_is)
    (case z8 => k_is)
    (case z9 => k_is)
    (case z10 => k_is)
    (case z11 => k_is)
    (case z12 => k_is)
    (case z13 => k_is)
    (case z14 => k_is)
    (case z15 => k_is)
    (case aC => k_is)
    (case aI => k_is)
    (case lI => k_is)
    (case cI => k_is)
    (case kI => k_is)
    (case hx1 => kernel_rfl)
    (case hx2 => kernel_rfl)
#print axioms PySem.Challenge.cw_bentwires_k12_no_drawing_holds
