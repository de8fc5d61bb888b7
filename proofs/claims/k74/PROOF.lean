import PyProof.Rows.All
import KE.KLam
import Wide.All
import OpenK.AllK
import Wide.FinOn
import Lean
import PyProof.EqAt
import PyProof.EqKinds
import PyProof.TupleCall
import PySem.Challenge.RW_bentwires_k74_least
set_option maxHeartbeats 3900000
set_option maxRecDepth 100000
set_option Elab.async false
set_option Elab.async false
set_option linter.all false
namespace L2
open PySem PySem.Spec PyProof.Rows
noncomputable abbrev Key := Sum Int Str
noncomputable def keyIs : Key → Value → Bool
  | .inl k, v => Value.isInt k v
  | .inr x, v => Value.isStrOf x v
noncomputable def keyH (w : World) : Key → Int
  | .inl k => hashInt k
  | .inr x => hashStr w x
theorem keyIs_shape : ∀ {k : Key} {v : Value}, keyIs k v = true → (∃ i t, k = Sum.inl i ∧ v = Value.int i t) ∨ (∃ x t, k = Sum.inr x ∧ v = Value.str x t)
  | .inl i, v, h => by
    obtain ⟨t, e⟩ := Value.isInt_shape (k := i) (v := v) h
    exact .inl ⟨i, t, rfl, e⟩
  | .inr x, v, h => by
    obtain ⟨t, e⟩ := Value.isStrOf_shape (x := x) (v := v) h
    exact .inr ⟨x, t, rfl, e⟩
theorem key_ll (a b : Int) : decide ((Sum.inl a : Key) = Sum.inl b) = (a == b) := by
  by_cases e : a = b
  · subst e; simp
  · have h : ¬ (Sum.inl a : Key) = Sum.inl b := fun q => e (Sum.inl.inj q)
    rw [decide_eq_false h]
    exact (beq_eq_false_iff_ne.mpr e).symm
theorem key_rr (a b : Str) : decide ((Sum.inr a : Key) = Sum.inr b) = decide (a = b) := by
  by_cases e : a = b
  · subst e; simp
  · have h : ¬ (Sum.inr a : Key) = Sum.inr b := fun q => e (Sum.inr.inj q)
    rw [decide_eq_false h, decide_eq_false e]
theorem key_lr (a : Int) (b : Str) : decide ((Sum.inl a : Key) = Sum.inr b) = false := decide_eq_false (fun q => nomatch q)
theorem key_rl (a : Str) (b : Int) : decide ((Sum.inr a : Key) = Sum.inl b) = false := decide_eq_false (fun q => nomatch q)
noncomputable def mixKind (prog : Program) (w : World) : PySem.KeyKind prog w Key where
  is := keyIs
  hash := keyH w
  inj := fun v a b ha hb => by
    rcases keyIs_shape ha with ⟨i, t, rfl, rfl⟩ | ⟨x, t, rfl, rfl⟩
    · rcases keyIs_shape hb with ⟨j, u, rfl, e⟩ | ⟨y, u, rfl, e⟩
      · injection e with e1 _; rw [e1]
      · exact nomatch e
    · rcases keyIs_shape hb with ⟨j, u, rfl, e⟩ | ⟨y, u, rfl, e⟩
      · exact nomatch e
      · injection e with e1 _; rw [e1]
  byValue := fun k v h => by
    rcases keyIs_shape h with ⟨i, t, rfl, rfl⟩ | ⟨x, t, rfl, rfl⟩ <;> rfl
  pyHash := fun hv h => by
    rcases keyIs_shape hv with ⟨i, t, rfl, rfl⟩ | ⟨x, t, rfl, rfl⟩
    · exact wpAny_pyHash_int h
    · exact wpAny_pyHash_str h
  eqBool := fun hu hv h => by
    rcases keyIs_shape hu with ⟨i, t, rfl, rfl⟩ | ⟨x, t, rfl, rfl⟩
    · rcases keyIs_shape hv with ⟨j, u, rfl, rfl⟩ | ⟨y, u, rfl, rfl⟩
      · rw [key_ll] at h; exact wpAny_eqBool_int h
      · rw [key_lr] at h; exact SeqAt.EqAt.int_str i t y u _ _ _ _ h
    · rcases keyIs_shape hv with ⟨j, u, rfl, rfl⟩ | ⟨y, u, rfl, rfl⟩
      · rw [key_rl] at h; exact SeqAt.EqAt.str_int x t j u _ _ _ _ h
      · rw [key_rr] at h; exact wpAny_eqBool_str h
  «strs» := fun k x t v h => by
    rcases keyIs_shape h with ⟨i, u, rfl, e⟩ | ⟨y, u, rfl, e⟩
    · exact nomatch e
    · injection e with e1 _
      subst e1
      cases v <;> rfl
inductive V where
  | non | bl (b : Bool) | int (i : Int) | str (x : Str) | byt (b : Array UInt8) | flt (b : UInt64) | ref (a : Addr) | ty (n : String)
  deriving DecidableEq
noncomputable def RelV : V → Value → Prop
  | .non, u => u = Value.none
  | .bl b, u => u = Value.bool b
  | .int i, u => ∃ t, u = Value.int i t
  | .str x, u => ∃ t, u = Value.str x t
  | .byt b, u => ∃ t, u = Value.bytes b t
  | .flt b, u => ∃ t, u = Value.float b t
  | .ref a, u => u = Value.ref a
  | .ty n, u => u = Value.type n
noncomputable abbrev Vals : List V → List Value → Prop := Paired RelV
theorem Vals.length {xs : List V} {us : List Value} (r : Vals xs us) : xs.length = us.length := Paired.length r
theorem Vals.get : ∀ {xs : List V} {us : List Value} {i : Nat} {x : V}, Vals xs us → xs[i]? = some x → ∃ u, us[i]? = some u ∧ RelV x u
  | _, _, _, _, .nil, e => by simp at e
  | _, _, 0, _, .cons r _, e => by simp at e; subst e; exact ⟨_, rfl, r⟩
  | _, _, i + 1, x, .cons _ t, e => by
    obtain ⟨u, h1, h2⟩ := Vals.get (i := i) (x := x) t (by simpa using e)
    exact ⟨u, by simpa using h1, h2⟩
theorem Vals.set {x : V} {u : Value} (r : RelV x u) : ∀ {xs : List V} {us : List Value} (i : Nat), Vals xs us → Vals (xs.set i x) (us.set i u)
  | _, _, _, .nil => .nil
  | _, _, 0, .cons _ t => .cons r t
  | _, _, i + 1, .cons q t => .cons q (Vals.set r i t)
theorem Vals.append : ∀ {xs ys : List V} {us ws : List Value}, Vals xs us → Vals ys ws → Vals (xs ++ ys) (us ++ ws)
  | _, _, _, _, .nil, s => s
  | _, _, _, _, .cons r t, s => .cons r (Vals.append t s)
theorem Vals.take : ∀ {xs : List V} {us : List Value} (n : Nat), Vals xs us → Vals (xs.take n) (us.take n)
  | _, _, 0, _ => .nil
  | _, _, _ + 1, .nil => .nil
  | _, _, n + 1, .cons r t => .cons r (Vals.take n t)
theorem Vals.drop : ∀ {xs : List V} {us : List Value} (n : Nat), Vals xs us → Vals (xs.drop n) (us.drop n)
  | _, _, 0, r => r
  | _, _, _ + 1, .nil => .nil
  | _, _, n + 1, .cons _ t => Vals.drop n t
noncomputable def RelO : Option V → Option Value → Prop
  | some v, some u => RelV v u
  | none, none => True
  | _, _ => False
noncomputable def KV {κ : Type} : List (κ × V) → List (κ × Value) → Prop := Paired fun (p : κ × V) (q : κ × Value) => p.1 = q.1 ∧ RelV p.2 q.2
noncomputable def kV : Key → V
  | .inl i => .int i
  | .inr x => .str x
inductive HO where
  | lst (xs : List V)
  | tup (xs : List V)
  | dK (kvs : List (Key × V)) | dT (kvs : List (List Key × V))
  | set (S : Int → Bool) (n : Nat)
  | ins (C dx : Addr) (fs : List (Str × V))
  | own (x : Addr)
  | xd (fs : List (Str × V))
  | met (f x : Addr)
  | rng (lo hi : Int)
  | frz (o : Obj) (u : HO)
  | tbl (ps : Array Value)
  | ext (φ : Heap → Prop)
noncomputable abbrev Hp := Addr → Option HO
noncomputable def upd (H : Hp) (a : Addr) (o : HO) : Hp := fun b => if b = a then some o else H b
theorem upd_same {H : Hp} {a : Addr} {o : HO} : upd H a o a = some o := by unfold upd; rw [if_pos rfl]
theorem upd_ne {H : Hp} {a b : Addr} {o : HO} (h : b ≠ a) : upd H a o b = H b := by unfold upd; rw [if_neg h]
theorem ne_of_none {H : Hp} {a b : Addr} {o : HO} (h : H a = some o) (h' : H b = none) : a ≠ b := by
  intro e; subst e; rw [h] at h'; cases h'
section
variable (P : Program) (w : World)
noncomputable def ObjOk (H : Hp) (h : Heap) (a : Addr) : HO → Prop
  | .lst xs => xs.length ≤ sizeLine ∧ ∃ (its : List Value) (n : Nat), Vals xs its ∧ h.get? a = some { cls := .type "list", data := .seq its.toArray n }
  | .tup xs => xs.length ≤ sizeLine ∧ ∃ its : List Value, Vals xs its ∧ IsTup h a its.toArray
  | .dK kvs => kvs.length ≤ sizeLine ∧ (a == sysModules) = false ∧ ∃ vs, KV kvs vs ∧ h.DictOf (mixKind P w) a vs
  | .dT kvs => kvs.length ≤ sizeLine ∧ (a == sysModules) = false ∧ ∃ xs : List (List Key × Addr × Value),
      Paired (fun (p : List Key × V) (q : List Key × Addr × Value) => p.1 = q.1 ∧ H q.2.1 = some (.tup (p.1.map kV)) ∧ RelV p.2 q.2.2) kvs xs ∧
      ∃ o es ep, h.get? a = some o ∧ o.ExactDict ∧ o.data = .dict es ep ∧ es.toList = xs.map (entryOfKey (tupleKind (mixKind P w))) ∧ (xs.map (·.1)).Nodup
  | .set S n => h.SetOf (intKind P w) a S n
  | .ins C dx fs => H dx = some (.own a) ∧ fs.length ≤ 1000 ∧ dx ≠ a ∧ h.get? a = some (PySem.W.instObj C dx) ∧
      ∃ mA, h.Ns1 dx mA ∧ (∀ f, RelO (fs.lookup f) (mA f)) ∧ PySem.Within mA (fs.map (·.1))
  | .own _ => ∃ o, h.get? a = some o
  | .xd fs => ∃ mA, h.Ns1 a mA ∧ ∀ f, RelO (fs.lookup f) (mA f)
  | .rng lo hi => ∃ t u v, h.get? a = some { cls := .type "range", data := .fields #[.int lo t, .int hi u, .int 1 v] }
  | .frz o u => h.get? a = some o ∧ ObjOk H h a u
  | .tbl ps => h.get? a = some { cls := .none, data := .fields ps }
  | .met f x => h.get? a = some (PySem.W.methodObj (.ref f) (.ref x))
  | .ext φ => φ h ∧ (∃ o, h.get? a = some o) ∧ ∀ h1 h2 : Heap, φ h1 → (∀ o, h1.get? a = some o → h2.get? a = some o) → φ h2
noncomputable def HOk (H : Hp) (h : Heap) : Prop := ∀ a o, H a = some o → ObjOk P w H h a o
end
section
variable {P : Program} {w : World} {H H' : Hp} {h h' : Heap} {a : Addr} {o : HO}
theorem ObjOk.lt (x : ObjOk P w H h a o) : a < h.objs.size := by
  cases o with
  | lst xs => obtain ⟨_, _, _, _, e⟩ := x; exact Heap.lt_size e
  | tup xs => obtain ⟨_, _, _, p⟩ := x; exact p.lt
  | dK kvs => obtain ⟨_, _, _, _, o, _, _, e, _⟩ := x; exact Heap.lt_size e
  | dT kvs => obtain ⟨_, _, _, _, o, _, _, e, _⟩ := x; exact Heap.lt_size e
  | set S n => obtain ⟨o, _, _, _, e, _⟩ := x; exact Heap.lt_size e
  | ins C dx fs => obtain ⟨_, _, _, e, _⟩ := x; exact Heap.lt_size e
  | own y => obtain ⟨_, e⟩ := x; exact Heap.lt_size e
  | xd fs => obtain ⟨_, ⟨_, _, _, e, _⟩, _⟩ := x; exact Heap.lt_size e
  | rng lo hi => obtain ⟨_, _, _, e⟩ := x; exact Heap.lt_size e
  | frz ob u => obtain ⟨e, _⟩ := x; exact Heap.lt_size e
  | tbl ps => exact Heap.lt_size (show h.get? a = some _ from x)
  | met f y => exact Heap.lt_size (show h.get? a = some _ from x)
  | ext φ => obtain ⟨_, ⟨_, e⟩, _⟩ := x; exact Heap.lt_size e
theorem Paired.mapP {α β : Type} {F G : α → β → Prop} : ∀ {l₁ : List α} {l₂ : List β}, Paired F l₁ l₂ → (∀ a b, F a b → G a b) → Paired G l₁ l₂
  | _, _, .nil, _ => .nil
  | _, _, .cons r t, f => .cons (f _ _ r) (Paired.mapP t f)
theorem ObjOk.stay (x : ObjOk P w H h a o) (k : ∀ b u, (b = a ∨ H b = some (.own a)) → h.get? b = some u → h'.get? b = some u)
    (ho : ∀ b, H b = some (.own a) → H' b = some (.own a)) (ht : ∀ b xs, H b = some (.tup xs) → H' b = some (.tup xs)) : ObjOk P w H' h' a o := by
  induction o with
  | lst xs => obtain ⟨z, its, n, r, e⟩ := x; exact ⟨z, its, n, r, k _ _ (.inl rfl) e⟩
  | tup xs => obtain ⟨z, its, r, ob, e, c⟩ := x; exact ⟨z, its, r, ob, k _ _ (.inl rfl) e, c⟩
  | dK kvs => obtain ⟨z, y, vs, r, ob, es, ep, e, c⟩ := x; exact ⟨z, y, vs, r, ob, es, ep, k _ _ (.inl rfl) e, c⟩
  | dT kvs =>
    obtain ⟨z, y, xs, r, ob, es, ep, e, c⟩ := x
    exact ⟨z, y, xs, Paired.mapP r fun p q z => ⟨z.1, ht _ _ z.2.1, z.2.2⟩, ob, es, ep, k _ _ (.inl rfl) e, c⟩
  | set S n => obtain ⟨ob, es, ep, t, e, c⟩ := x; exact ⟨ob, es, ep, t, k _ _ (.inl rfl) e, c⟩
  | ins C dx fs =>
    obtain ⟨d, z, ne, e, mA, ⟨od, es, ep, e2, c⟩, r⟩ := x
    exact ⟨ho _ d, z, ne, k _ _ (.inl rfl) e, mA, ⟨od, es, ep, k _ _ (.inr d) e2, c⟩, r⟩
  | own y => obtain ⟨ob, e⟩ := x; exact ⟨ob, k _ _ (.inl rfl) e⟩
  | xd fs => obtain ⟨mA, ⟨od, es, ep, e, c⟩, r⟩ := x; exact ⟨mA, ⟨od, es, ep, k _ _ (.inl rfl) e, c⟩, r⟩
  | rng lo hi => obtain ⟨t, u, v, e⟩ := x; exact ⟨t, u, v, k _ _ (.inl rfl) e⟩
  | frz ob u ih => obtain ⟨e, q⟩ := x; exact ⟨k _ _ (.inl rfl) e, ih q⟩
  | tbl ps =>
    have e : h.get? a = some { cls := .none, data := .fields ps } := x
    show h'.get? a = some { cls := .none, data := .fields ps }
    exact k a _ (.inl rfl) e
  | met f y =>
    have e : h.get? a = some (PySem.W.methodObj (.ref f) (.ref y)) := x
    show h'.get? a = some (PySem.W.methodObj (.ref f) (.ref y))
    exact k a _ (.inl rfl) e
  | ext φ => obtain ⟨p, ⟨o, e⟩, st⟩ := x; exact ⟨st _ _ p fun o q => k _ _ (.inl rfl) q, ⟨o, k _ _ (.inl rfl) e⟩, st⟩
theorem HOk.lt (x : HOk P w H h) (e : H a = some o) : a < h.objs.size := (x a o e).lt
theorem HOk.fresh (x : HOk P w H h) (e : h.objs.size ≤ a) : H a = none := by
  cases q : H a with
  | none => rfl
  | some u => exact absurd (Nat.lt_of_lt_of_le (x.lt q) e) (Nat.lt_irrefl _)
theorem HOk.kept (x : HOk P w H h) (k : ∀ b u, h.get? b = some u → h'.get? b = some u) : HOk P w H h' := fun a o e =>
  (x a o e).stay (fun b u _ q => k b u q) (fun _ q => q) fun _ _ q => q
theorem HOk.laid (x : HOk P w H h) (k : ∀ b u, h.get? b = some u → h'.get? b = some u) (hp : h.objs.size ≤ a) (new : ObjOk P w (upd H a o) h' a o) : HOk P w (upd H a o) h' := fun b u e => by
  have hn := x.fresh hp
  by_cases hb : b = a
  · subst hb; rw [upd_same] at e; cases e; exact new
  · rw [upd_ne hb] at e
    exact (x b u e).stay (fun c v _ q => k c v q) (fun c q => by rw [upd_ne (ne_of_none q hn)]; exact q) fun c xs q => by rw [upd_ne (ne_of_none q hn)]; exact q
end
noncomputable def Rd (H : Hp) (a : Addr) (u : HO) : Prop := H a = some u ∨ ∃ o, H a = some (.frz o u)
theorem Rd.ok {P : Program} {w : World} {H : Hp} {h : Heap} {a : Addr} {u : HO} (r : Rd H a u) (x : HOk P w H h) : ObjOk P w H h a u := by
  rcases r with r | ⟨o, r⟩
  · exact x a u r
  · obtain ⟨_, q⟩ := x a _ r
    exact q
noncomputable def Mut : Option HO → Prop
  | some (.lst _) => True
  | some (.dK _) => True
  | some (.dT _) => True
  | some (.set _ _) => True
  | some (.ins _ _ _) => True
  | some (.ext _) => True
  | _ => False
section
variable {P : Program} {w : World} {H : Hp} {h h' : Heap} {x e : Addr} {o' : HO}
theorem HOk.write (ok : HOk P w H h) (mu : Mut (H x)) (he : e = x ∨ H e = some (.own x)) (k : ∀ b u, b ≠ e → h.get? b = some u → h'.get? b = some u) (heo : ∃ u, h'.get? e = some u)
    (new : ObjOk P w (upd H x o') h' x o') : HOk P w (upd H x o') h' := fun b u q => by
  have nown : ∀ c y, H c = some (.own y) → c ≠ x := fun c y r z => by subst z; rw [r] at mu; exact mu
  have ntup : ∀ c xs, H c = some (.tup xs) → c ≠ x := fun c xs r z => by subst z; rw [r] at mu; exact mu
  by_cases hb : b = x
  · subst hb; rw [upd_same] at q; cases q; exact new
  · rw [upd_ne hb] at q
    by_cases hbe : b = e
    · have q' : H b = some (.own x) := by
        rcases he with z | z
        · exact absurd (hbe.trans z) hb
        · rw [hbe]; exact z
      rw [q] at q'; cases q'
      obtain ⟨v, hv⟩ := heo
      exact ⟨v, by rw [hbe]; exact hv⟩
    · refine (ok b u q).stay (fun c v hc r => k c v ?_ r) (fun c r => by rw [upd_ne (nown c b r)]; exact r) fun c xs r => by rw [upd_ne (ntup c xs r)]; exact r
      rcases hc with rfl | hc
      · exact hbe
      · rintro rfl
        rcases he with z | z
        · exact nown c b hc z
        · rw [hc] at z; cases z; exact hb rfl
end
structure Un (fs ex : List Addr) (H H' : Hp) (h h' : Heap) : Prop where
  keep : ∀ b o, h.get? b = some o → H b = none → b ∉ fs → b ∉ ex → h'.get? b = some o
  slot : ∀ b o, h.get? b = some o → H b = none → b ∈ fs → b ∉ ex → ∃ sl, h'.get? b = some { o with slots := sl }
  free : ∀ b o, h.get? b = some o → H b = none → b ∉ ex → H' b = none
  there : ∀ b o, h.get? b = some o → b ∉ ex → ∃ o', h'.get? b = some o'
  tups : ∀ b xs, H b = some (.tup xs) → H' b = some (.tup xs)
  frzs : ∀ b o u, H b = some (.frz o u) → H' b = some (.frz o u)
  tbls : ∀ b ps, H b = some (.tbl ps) → ∃ more, H' b = some (.tbl (ps ++ more))
section
variable {fs fs' ex ex' : List Addr} {H H1 H2 : Hp} {h h1 h2 h' : Heap} {a x e : Addr} {o : HO}
theorem Un.any (u : Un fs ex H H1 h h1) {b : Addr} {ob : Obj} (q : h.get? b = some ob) (n : H b = none) (hx : b ∉ ex) : ∃ sl, h1.get? b = some { ob with slots := sl } := by
  by_cases hb : b ∈ fs
  · exact u.slot b ob q n hb hx
  · exact ⟨ob.slots, u.keep b ob q n hb hx⟩
theorem Un.kept (k : ∀ b u, h.get? b = some u → h'.get? b = some u) : Un fs ex H H h h' :=
  ⟨fun b ob q _ _ _ => k b ob q, fun b ob q _ _ _ => ⟨ob.slots, k b ob q⟩, fun _ _ _ n _ => n, fun b ob q _ => ⟨ob, k b ob q⟩, fun _ _ q => q, fun _ _ _ q => q, fun _ ps q => ⟨#[], by rw [q]; simp⟩⟩
theorem Un.refl : Un fs ex H H h h := Un.kept fun _ _ q => q
theorem Un.laid (k : ∀ b u, h.get? b = some u → h'.get? b = some u) (hp : h.objs.size ≤ a) (hn : H a = none) : Un fs ex H (upd H a o) h h' where
  keep := fun b u q _ _ _ => k b u q
  slot := fun b u q _ _ _ => ⟨u.slots, k b u q⟩
  free := fun b u q n _ => by rw [upd_ne (Nat.ne_of_lt (Nat.lt_of_lt_of_le (Heap.lt_size q) hp))]; exact n
  there := fun b u q _ => ⟨u, k b u q⟩
  tups := fun b xs q => by rw [upd_ne (ne_of_none q hn)]; exact q
  frzs := fun b u xs q => by rw [upd_ne (ne_of_none q hn)]; exact q
  tbls := fun b ps q => ⟨#[], by rw [upd_ne (ne_of_none q hn), q]; simp⟩
theorem Un.write (mu : Mut (H x)) (he : e = x ∨ H e = some (.own x)) (k : ∀ b u, b ≠ e → h.get? b = some u → h'.get? b = some u) (heo : ∃ u, h'.get? e = some u) : Un fs ex H (upd H x o) h h' := by
  have hx : ∀ b, H b = none → b ≠ x := fun b n z => by subst z; rw [n] at mu; exact mu
  have hb : ∀ b, H b = none → b ≠ e := fun b n z => by
    subst z
    rcases he with r | r
    · exact hx b n r
    · rw [n] at r; cases r
  have hm : ∀ b u, H b = some u → ¬ Mut (some u) → b ≠ x := fun b u q nm z => by subst z; rw [q] at mu; exact nm mu
  refine ⟨fun b u q n _ _ => k b u (hb b n) q, fun b u q n _ _ => ⟨u.slots, k b u (hb b n) q⟩, fun b u q n _ => by rw [upd_ne (hx b n)]; exact n, fun b u q _ => ?_,
    fun b xs q => by rw [upd_ne (hm b _ q fun z => z)]; exact q, fun b u xs q => by rw [upd_ne (hm b _ q fun z => z)]; exact q, fun b ps q => ⟨#[], by rw [upd_ne (hm b _ q fun z => z), q]; simp⟩⟩
  by_cases hbe : b = e
  · subst hbe; exact heo
  · exact ⟨u, k b u hbe q⟩
end
noncomputable def trk (h : Heap) (H : Hp) : List Addr := (List.range h.objs.size).filter fun a => (H a).isSome
noncomputable def hidT (h : Heap) (H : Hp) : Heap := PySem.W.hideAll h (trk h H)
theorem hidT_size (h : Heap) (H : Hp) : (hidT h H).objs.size = h.objs.size := PySem.W.hideAll_size _ _
theorem hidT_get {h : Heap} {H : Hp} {b : Addr} {o : Obj} (e : h.get? b = some o) (n : H b = none) : (hidT h H).get? b = some o :=
  PySem.W.hideAll_get _ e fun hm => by
    have q : (H b).isSome = true := (List.mem_filter.mp hm).2
    rw [n] at q; simp at q
theorem of_hidT {h : Heap} {H : Hp} {b : Addr} {o : Obj} (e : (hidT h H).get? b = some o) : h.get? b = some o ∧ H b = none := by
  have e' : h.get? b = some o := PySem.W.of_hideAll (trk h H) e
  refine ⟨e', ?_⟩
  cases q : H b with
  | none => rfl
  | some x =>
    have hm : b ∈ trk h H := List.mem_filter.mpr ⟨List.mem_range.mpr (Heap.lt_size e'), by simp [q]⟩
    have z : (hidT h H).get? b = none := PySem.W.hideAll_none (trk h H) hm
    rw [z] at e; cases e
noncomputable def allNews (g h : Heap) (L : Addr) : List (Addr × Obj) := (List.range h.objs.size).filterMap fun a => if a = L ∨ (g.get? a).isSome = true then none else (h.get? a).map fun o => (a, o)
noncomputable def rest (g h : Heap) (L d : Addr) : List (Addr × Obj) := (allNews g h L).filter fun p => decide (p.1 ≠ d)
structure Mod (K : PySem.W.Frag) (mg : Str → Option Value) (base : Heap) : Prop where
  kin : K.In base
  glob : base.Ns mainGlobals mg
  blt : ∃ mb, base.Ns builtinsNs mb ∧ ∀ x : Str, x ≠ "__name__" → mb x = bootBuiltins x
  nolimit : base.NoLimit
structure Cx where
  prog : Program
  w : World
  K : PySem.W.Frag
  mg : Str → Option Value
  base : Heap
  A : Around
  N : List Str
  s₀ : Shared
  H₀ : Hp
  env : Env
  outer : List Env
  stack : List Env
  ex : List Addr
  fn : Str → Bool
  calm : Bool
  pn : List (Addr × Obj)
  xe : Value → Shared → Prop
noncomputable def frs (l : List Env) : List Addr := l.filterMap (·.frame)
noncomputable abbrev Cx.fs (X : Cx) : List Addr := frs X.outer
noncomputable def Vis (sc : Scope) (x : Str) : Prop := sc.names.lookup x = some .local ∨ sc.names.lookup x = some .cell ∨ sc.names.lookup x = some .free
noncomputable def Loc (sc : Scope) (x : Str) : Prop := sc.names.lookup x = some .local ∨ sc.names.lookup x = some .cell
noncomputable def Look (env : Env) (h : Heap) (m : Str → Option Value) (x : Str) (u : Value) : Prop :=
  (env.kindOf x = some .local ∧ m x = some u) ∨ ((env.kindOf x = some .cell ∨ env.kindOf x = some .free) ∧ ∃ c, env.cells.lookup x = some c ∧ h.IsCell c (some u))
structure Cx.Ok (X : Cx) : Prop where
  mod : Mod X.K X.mg X.base
  kind : X.env.scope.kind = .function
  glob : X.env.globals = mainGlobals
  blt : X.env.builtins = builtinsNs
  above : X.s₀.heap.objs.size ≤ X.env.locals
  inj : ∀ x y c, X.env.cells.lookup x = some c → X.env.cells.lookup y = some c → x = y
  has : ∀ x, (X.env.kindOf x = some .cell ∨ X.env.kindOf x = some .free) → ∃ c, X.env.cells.lookup x = some c
  cab : ∀ x c, X.fn x = true → X.env.cells.lookup x = some c → X.s₀.heap.objs.size ≤ c
  hd : X.calm = true → X.A.handled = none
  frames : X.A.frames = some X.stack
  stk : X.stack = X.outer ∨ (X.stack = X.env :: X.outer ∧ X.env.frame = some X.env.locals)
  exf : ∀ b ∈ X.ex, b ≠ X.env.locals ∧ ∀ x c, X.env.cells.lookup x = some c → c ≠ b
  bs : ∀ b o, X.base.get? b = some o → X.s₀.heap.get? b = some o ∧ X.H₀ b = none
  bsz : X.base.objs.size ≤ X.s₀.heap.objs.size
  noex : ∀ b o, X.base.get? b = some o → b ∉ X.ex
  exfs : ∀ b ∈ X.ex, b ∉ X.fs
  funs : X.s₀.heap.FunFrames X.base X.outer
  frf : ∀ b ∈ X.fs, X.H₀ b = none
structure Inv (X : Cx) (pins : List (Addr × Obj)) (σ : List (Option V)) (H : Hp) (s : Shared) : Prop where
  ok : X.Ok
  os : s.os = X.s₀.os
  bare : AllBare s.gens
  base : Un X.fs X.ex X.H₀ H X.s₀.heap s.heap
  loc : ∃ m, s.heap.Ns X.env.locals m ∧ ∀ (i : Nat) (x : Str) (v : V), X.N[i]? = some x → σ[i]? = some (some v) → Vis X.env.scope x → ∃ u, RelV v u ∧ Look X.env s.heap m x u
  cell : ∀ x c, X.env.cells.lookup x = some c → ∃ v, s.heap.IsCell c v
  free : H X.env.locals = none
  freeC : ∀ x c, X.env.cells.lookup x = some c → H c = none
  pin : ∀ p ∈ X.pn ++ pins, s.heap.get? p.1 = some p.2 ∧ H p.1 = none ∧ p.1 ≠ X.env.locals ∧ p.1 ∉ X.fs ∧ ∀ v, p.2.data ≠ .cell v
  hok : HOk X.prog X.w H s.heap
  len : σ.length = X.N.length
section
variable {X : Cx} {pins : List (Addr × Obj)} {σ : List (Option V)} {H H' : Hp} {s : Shared} {h' : Heap}
theorem Cx.Ok.nofr (ok : X.Ok) {b : Addr} {o : Obj} (e : X.base.get? b = some o) : b ∉ X.fs := fun hb => by
  have := (ok.funs.mem hb).1
  rw [e] at this; cases this
theorem Inv.bs (I : Inv X pins σ H s) : ∀ b o, X.base.get? b = some o → s.heap.get? b = some o ∧ H b = none := fun b o e =>
  ⟨I.base.keep b o (I.ok.bs b o e).1 (I.ok.bs b o e).2 (I.ok.nofr e) (I.ok.noex b o e), I.base.free b o (I.ok.bs b o e).1 (I.ok.bs b o e).2 (I.ok.noex b o e)⟩
theorem Inv.bk (I : Inv X pins σ H s) : ∀ b o, X.base.get? b = some o → s.heap.get? b = some o := fun b o e => (I.bs b o e).1
theorem Inv.mod (I : Inv X pins σ H s) : Mod X.K X.mg X.base := I.ok.mod
theorem Inv.kIn (I : Inv X pins σ H s) : X.K.In s.heap := I.ok.mod.kin.keeps I.bk
theorem Inv.lt (I : Inv X pins σ H s) : X.env.locals < s.heap.objs.size := let ⟨_, hn, _⟩ := I.loc; hn.lt
theorem Inv.sz (I : Inv X pins σ H s) : X.s₀.heap.objs.size ≤ s.heap.objs.size := Nat.le_trans I.ok.above (Nat.le_of_lt I.lt)
theorem Inv.nofs (I : Inv X pins σ H s) {a : Addr} (h : s.heap.objs.size ≤ a) : a ∉ X.fs := fun hb => by
  obtain ⟨_, o, ho, _⟩ := I.ok.funs.mem hb
  exact absurd (Nat.lt_of_lt_of_le (Heap.lt_size ho) (Nat.le_trans I.sz h)) (Nat.lt_irrefl _)
theorem Inv.cne (I : Inv X pins σ H s) : ∀ x c, X.env.cells.lookup x = some c → c ≠ X.env.locals := fun x c e z => by
  obtain ⟨v, o, ho, hd⟩ := I.cell x c e
  obtain ⟨m, ⟨o', es, ep, ho', hd', _⟩, _⟩ := I.loc
  rw [z, ho'] at ho; cases ho; rw [hd'] at hd; cases hd
theorem Inv.funs (I : Inv X pins σ H s) : s.heap.FunFrames X.base X.outer := by
  have all : ∀ (l : List Env), (∀ b ∈ frs l, b ∈ X.fs) → X.s₀.heap.FunFrames X.base l → s.heap.FunFrames X.base l := by
    intro l
    induction l with
    | nil => intro _ _; trivial
    | cons env r ih =>
      intro hs hl
      obtain ⟨hk, ⟨L, o, hf, hn, ho, hd⟩, hr⟩ := hl
      have hL : L ∈ X.fs := hs L (by unfold frs; rw [List.filterMap_cons, hf]; exact List.mem_cons_self)
      obtain ⟨sl, e⟩ := I.base.slot L o ho (I.ok.frf L hL) hL fun z => I.ok.exfs L z hL
      exact ⟨hk, ⟨L, _, hf, hn, e, hd⟩, ih (fun b hb => hs b (by unfold frs; rw [List.filterMap_cons, hf]; exact List.mem_cons_of_mem _ hb)) hr⟩
  exact all X.outer (fun _ hb => hb) I.ok.funs
theorem Inv.stack (I : Inv X pins σ H s) : s.heap.FunFrames X.base X.stack := by
  rcases I.ok.stk with e | ⟨e, hf⟩
  · rw [e]; exact I.funs
  · rw [e]
    obtain ⟨m, hn, _⟩ := I.loc
    refine .cons (by rw [I.ok.kind]; decide) hf hn ?_ I.funs
    exact Heap.get?_none_of_le (Nat.le_trans I.ok.bsz I.ok.above)
theorem Inv.stkSub (I : Inv X pins σ H s) : ∀ b ∈ frs X.stack, b ∈ X.env.locals :: X.fs := fun b hb => by
  rcases I.ok.stk with e | ⟨e, hf⟩
  · rw [e] at hb; exact List.mem_cons_of_mem _ hb
  · rw [e] at hb
    unfold frs at hb
    rw [List.filterMap_cons, hf] at hb
    exact hb
theorem Inv.stkFree (I : Inv X pins σ H s) : ∀ b ∈ frs X.stack, H b = none := fun b hb => by
  rcases List.mem_cons.mp (I.stkSub b hb) with e | hb
  · rw [e]; exact I.free
  · obtain ⟨_, o, ho, _⟩ := I.ok.funs.mem hb
    exact I.base.free b o ho (I.ok.frf b hb) fun z => I.ok.exfs b z hb
theorem Inv.step {g' : Array GenState} {t' : Nat} {d' : Drawn} {ch : List Addr} (I : Inv X pins σ H s)
    (hch : ∀ b ∈ ch, (b ∈ X.ex ∨ X.s₀.heap.objs.size ≤ b) ∧ b ≠ X.env.locals ∧ (∀ x c, X.env.cells.lookup x = some c → c ≠ b) ∧ ∀ p ∈ X.pn ++ pins, p.1 ≠ b)
    (keep : ∀ b o, b ≠ X.env.locals → b ∉ X.fs → b ∉ ch → s.heap.get? b = some o → H b = none → h'.get? b = some o)
    (slot : ∀ b o, b ≠ X.env.locals → b ∈ X.fs → b ∉ ch → s.heap.get? b = some o → H b = none → ∃ sl, h'.get? b = some { o with slots := sl }) (free : ∀ b o, b ∉ ch → s.heap.get? b = some o → H b = none → H' b = none)
    (there : ∀ b o, b ∉ ch → s.heap.get? b = some o → ∃ o', h'.get? b = some o')
    (tups : ∀ b xs, H b = some (.tup xs) → H' b = some (.tup xs)) (frzs : ∀ b o u, H b = some (.frz o u) → H' b = some (.frz o u)) (tbls : ∀ b ps, H b = some (.tbl ps) → ∃ more, H' b = some (.tbl (ps ++ more)))
    (ns : ∀ m, s.heap.Ns X.env.locals m → h'.Ns X.env.locals m) (hok : HOk X.prog X.w H' h') (hg : AllBare g') :
    Inv X pins σ H' { s with heap := h', gens := g', drawn := d', toks := t' } := by
  have neL : ∀ b o, X.s₀.heap.get? b = some o → b ≠ X.env.locals := fun b o e => Nat.ne_of_lt (Nat.lt_of_lt_of_le (Heap.lt_size e) I.ok.above)
  have neC : ∀ b o, X.s₀.heap.get? b = some o → b ∉ X.ex → b ∉ ch := fun b o e hx hb => by
    rcases (hch b hb).1 with z | z
    · exact hx z
    · exact absurd (Nat.lt_of_lt_of_le (Heap.lt_size e) z) (Nat.lt_irrefl _)
  have cellK : ∀ x c, X.env.cells.lookup x = some c → ∀ v, s.heap.IsCell c v → h'.IsCell c v := fun x c e v ⟨o, ho, hd⟩ => by
    have nch : c ∉ ch := fun z => (hch c z).2.2.1 x c e rfl
    by_cases hc : c ∈ X.fs
    · obtain ⟨sl, q⟩ := slot c o (I.cne x c e) hc nch ho (I.freeC x c e)
      exact ⟨_, q, hd⟩
    · exact ⟨o, keep c o (I.cne x c e) hc nch ho (I.freeC x c e), hd⟩
  refine ⟨I.ok, I.os, hg, ⟨fun b o e n hb hx => ?_, fun b o e n hb hx => ?_, fun b o e n hx => ?_, fun b o e hx => ?_, fun b xs e => tups b xs (I.base.tups b xs e), fun b o xs e => frzs b o xs (I.base.frzs b o xs e), fun b ps e => ?_⟩, ?_, fun x c e => ?_, ?_, fun x c e => ?_, fun p hp => ?_, hok, I.len⟩
  · exact keep b o (neL b o e) hb (neC b o e hx) (I.base.keep b o e n hb hx) (I.base.free b o e n hx)
  · obtain ⟨sl, e1⟩ := I.base.slot b o e n hb hx
    obtain ⟨sl', e2⟩ := slot b _ (neL b o e) hb (neC b o e hx) e1 (I.base.free b o e n hx)
    exact ⟨sl', e2⟩
  · obtain ⟨o', e1⟩ := I.base.there b o e hx
    exact free b o' (neC b o e hx) e1 (I.base.free b o e n hx)
  · obtain ⟨o', e1⟩ := I.base.there b o e hx
    exact there b o' (neC b o e hx) e1
  · obtain ⟨m1, e1⟩ := I.base.tbls b ps e
    obtain ⟨m2, e2⟩ := tbls b _ e1
    exact ⟨m1 ++ m2, by rw [e2, Array.append_assoc]⟩
  · obtain ⟨m, hn, hl⟩ := I.loc
    refine ⟨m, ns m hn, fun i x v e1 e2 e3 => ?_⟩
    obtain ⟨u, r, l⟩ := hl i x v e1 e2 e3
    refine ⟨u, r, ?_⟩
    rcases l with l | ⟨k, c, e, z⟩
    · exact .inl l
    · exact .inr ⟨k, c, e, cellK x c e _ z⟩
  · obtain ⟨v, z⟩ := I.cell x c e
    exact ⟨v, cellK x c e v z⟩
  · obtain ⟨m, ⟨o, _, _, ho, _⟩, _⟩ := I.loc
    exact free _ o (fun z => (hch _ z).2.1 rfl) ho I.free
  · obtain ⟨v, o, ho, hd⟩ := I.cell x c e
    exact free c o (fun z => (hch c z).2.2.1 x c e rfl) ho (I.freeC x c e)
  · obtain ⟨e, n, ne, nf, d⟩ := I.pin p hp
    have nch : p.1 ∉ ch := fun z => (hch p.1 z).2.2.2 p hp rfl
    exact ⟨keep p.1 p.2 ne nf nch e n, free p.1 p.2 nch e n, ne, nf, d⟩
theorem Inv.un {t' : Nat} (I : Inv X pins σ H s) (u : Un X.fs [] H H' s.heap h') (hok : HOk X.prog X.w H' h') : Inv X pins σ H' { s with heap := h', toks := t' } := by
  obtain ⟨m, ⟨o, es, ep, ho, r⟩, _⟩ := id I.loc
  obtain ⟨sl, hL⟩ := u.any ho I.free (by simp)
  exact I.step (g' := s.gens) (d' := s.drawn) (ch := []) (fun _ z => nomatch z) (fun b o _ hb _ e n => u.keep b o e n hb (by simp)) (fun b o _ hb _ e n => u.slot b o e n hb (by simp)) (fun b o _ e n => u.free b o e n (by simp)) (fun b o _ e => u.there b o e (by simp)) u.tups u.frzs u.tbls (fun m' hm => by
    obtain ⟨o', es', ep', ho', r'⟩ := hm
    rw [ho] at ho'; cases ho'
    exact ⟨_, es', ep', hL, r'⟩) hok I.bare
theorem Inv.call {g' : Array GenState} {t' : Nat} {d' : Drawn} {ch : List Addr} (I : Inv X pins σ H s) (u : Un (frs X.stack) ch H H' s.heap h') (hok : HOk X.prog X.w H' h') (hg : AllBare g')
    (hch : ∀ b ∈ ch, (b ∈ X.ex ∨ X.s₀.heap.objs.size ≤ b) ∧ b ≠ X.env.locals ∧ (∀ x c, X.env.cells.lookup x = some c → c ≠ b) ∧ ∀ p ∈ X.pn ++ pins, p.1 ≠ b) :
    Inv X pins σ H' { s with heap := h', gens := g', drawn := d', toks := t' } := by
  obtain ⟨m, ⟨o, es, ep, ho, r⟩, _⟩ := id I.loc
  obtain ⟨sl, hL⟩ := u.any ho I.free fun z => (hch _ z).2.1 rfl
  exact I.step (ch := ch) hch (fun b o hL hb hc e n => u.keep b o e n (fun z => (List.mem_cons.mp (I.stkSub b z)).elim hL hb) hc) (fun b o _ _ hc e n => u.any e n hc) (fun b o hc e n => u.free b o e n hc) (fun b o hc e => u.there b o e hc) u.tups u.frzs u.tbls (fun m' hm => by
    obtain ⟨o', es', ep', ho', r'⟩ := hm
    rw [ho] at ho'; cases ho'
    exact ⟨_, es', ep', hL, r'⟩) hok hg
theorem Inv.turned {t' : Nat} {it : Addr} (I : Inv X pins σ H s) (k : ∀ b o, b ≠ it → s.heap.get? b = some o → h'.get? b = some o) (hn : H it = none) (hL : it ≠ X.env.locals)
    (h1 : it ∈ X.ex ∨ X.s₀.heap.objs.size ≤ it) (h2 : ∀ x c, X.env.cells.lookup x = some c → c ≠ it) (h3 : ∀ p ∈ X.pn ++ pins, p.1 ≠ it) : Inv X pins σ H { s with heap := h', toks := t' } := by
  have nit : ∀ b u, H b = some u → b ≠ it := fun b u e z => by rw [z, hn] at e; cases e
  refine I.step (g' := s.gens) (d' := s.drawn) (ch := [it]) (fun b hb => ?_) (fun b o _ _ hc e _ => k b o (fun z => hc (by simp [z])) e) (fun b o _ _ hc e _ => ⟨o.slots, k b o (fun z => hc (by simp [z])) e⟩) (fun _ _ _ _ n => n)
    (fun b o hc e => ⟨o, k b o (fun z => hc (by simp [z])) e⟩) (fun _ _ e => e) (fun _ _ _ e => e) (fun b ps e => ⟨#[], by rw [e]; simp⟩) (fun m hm => ?_) (fun b u e => ?_) I.bare
  · have e : b = it := by simpa using hb
    subst e
    exact ⟨h1, hL, h2, h3⟩
  · obtain ⟨o, es, ep, ho, r⟩ := hm
    exact ⟨o, es, ep, k _ o (Ne.symm hL) ho, r⟩
  · refine (I.hok b u e).stay (fun c v hc q => k c v ?_ q) (fun _ q => q) fun _ _ q => q
    rcases hc with z | z
    · rw [z]; exact nit b u e
    · exact nit c _ z
theorem Inv.tok (I : Inv X pins σ H s) (t : Nat) : Inv X pins σ H { s with toks := t } := I.un (h' := s.heap) (t' := t) Un.refl I.hok
theorem Inv.kept {t' : Nat} (I : Inv X pins σ H s) (k : ∀ b u, s.heap.get? b = some u → h'.get? b = some u) : Inv X pins σ H { s with heap := h', toks := t' } := I.un (Un.kept k) (I.hok.kept k)
theorem Inv.laid {a : Addr} {o : HO} {t' : Nat} (I : Inv X pins σ H s) (k : ∀ b u, s.heap.get? b = some u → h'.get? b = some u) (hp : s.heap.objs.size ≤ a) (new : ObjOk X.prog X.w (upd H a o) h' a o) :
    Inv X pins σ (upd H a o) { s with heap := h', toks := t' } := I.un (Un.laid k hp (I.hok.fresh hp)) (I.hok.laid k hp new)
theorem Inv.write {x e : Addr} {o : HO} {t' : Nat} (I : Inv X pins σ H s) (mu : Mut (H x)) (he : e = x ∨ H e = some (.own x)) (k : ∀ b u, b ≠ e → s.heap.get? b = some u → h'.get? b = some u) (heo : ∃ u, h'.get? e = some u)
    (new : ObjOk X.prog X.w (upd H x o) h' x o) : Inv X pins σ (upd H x o) { s with heap := h', toks := t' } := I.un (Un.write mu he k heo) (I.hok.write mu he k heo new)
theorem Inv.pins_of {pins' : List (Addr × Obj)} (I : Inv X pins σ H s) (h : ∀ p ∈ pins', s.heap.get? p.1 = some p.2 ∧ H p.1 = none ∧ p.1 ≠ X.env.locals ∧ p.1 ∉ X.fs ∧ ∀ v, p.2.data ≠ .cell v) : Inv X pins' σ H s :=
  ⟨I.ok, I.os, I.bare, I.base, I.loc, I.cell, I.free, I.freeC, fun p hp => (List.mem_append.mp hp).elim (fun z => I.pin p (List.mem_append_left _ z)) (h p), I.hok, I.len⟩
theorem nodup_ix {N : List Str} (hN : N.Nodup) {i j : Nat} {x : Str} (a : N[i]? = some x) (b : N[j]? = some x) : i = j := by
  obtain ⟨h1, e1⟩ := List.getElem?_eq_some_iff.mp a
  obtain ⟨h2, e2⟩ := List.getElem?_eq_some_iff.mp b
  exact (List.getElem_inj hN).mp (e1.trans e2.symm)
theorem store_ok2 {M : Model} {A : Around} {E : Value → Shared → Prop} {i : Nat} {x : Str} {v : V} {u : Value} {Q : Unit → Shared → Prop} (I : Inv X pins σ H s) (hN : X.N.Nodup) (hi : X.N[i]? = some x) (hx : Loc X.env.scope x) (r : RelV v u)
    (h : ∀ s', Inv X pins (σ.set i (some v)) H s' → (∃ a, Heap.SameBut a s.heap s'.heap ∧ (a = X.env.locals ∨ X.env.cells.lookup x = some a)) → Q () s') (hf : X.fn x = true ∨ X.env.scope.names.lookup x = some .local := by first | exact .inl rfl | exact .inr rfl | assumption) : wpAny M A (storeName X.env x u) Q E s := by
  obtain ⟨m, hn, hl⟩ := id I.loc
  have hcls : (X.env.scope.kind == .class || (X.env.scope.kind == .module && X.env.locals != X.env.globals)) = false := by rw [I.ok.kind]; rfl
  have hiσ : i < σ.length := by rw [I.len]; exact (List.getElem?_eq_some_iff.mp hi).1
  have cne := I.cne
  have tracked : ∀ {a : Addr} {h' : Heap}, (∃ o, s.heap.get? a = some o ∧ H a = none) → Heap.SameBut a s.heap h' → HOk X.prog X.w H h' := fun {a h'} ha hs b ob e => by
    obtain ⟨_, _, hfree⟩ := ha
    refine (I.hok b ob e).stay (fun c w' hc q => (hs.2 c ?_).trans q) (fun _ q => q) fun _ _ q => q
    rintro rfl
    rcases hc with rfl | hc
    · rw [hfree] at e; cases e
    · rw [hfree] at hc; cases hc
  rcases hx with hk | hk
  · refine wpAny_storeName_local hk hn (fun h' hn' hs => ?_) hcls
    obtain ⟨oL, _, _, hoL, _⟩ := id hn
    refine h _ ⟨I.ok, I.os, I.bare, ⟨fun b o e n hb hx => ?_, fun b o e n hb hx => ?_, I.base.free, fun b o e hx => ?_, I.base.tups, I.base.frzs, I.base.tbls⟩, ⟨_, hn', fun j y v' e1 e2 e3 => ?_⟩, fun y c e => ?_, I.free, I.freeC, fun p hp => ?_, tracked ⟨oL, hoL, I.free⟩ hs, by simpa using I.len⟩ ⟨_, hs, .inl rfl⟩
    · exact (hs.2 b (Nat.ne_of_lt (Nat.lt_of_lt_of_le (Heap.lt_size e) I.ok.above))).trans (I.base.keep b o e n hb hx)
    · obtain ⟨sl, e1⟩ := I.base.slot b o e n hb hx
      exact ⟨sl, (hs.2 b (Nat.ne_of_lt (Nat.lt_of_lt_of_le (Heap.lt_size e) I.ok.above))).trans e1⟩
    · obtain ⟨o', e1⟩ := I.base.there b o e hx
      exact ⟨o', (hs.2 b (Nat.ne_of_lt (Nat.lt_of_lt_of_le (Heap.lt_size e) I.ok.above))).trans e1⟩
    · by_cases hj : j = i
      · subst hj
        rw [hi] at e1; cases e1
        rw [List.getElem?_set_self hiσ] at e2
        cases e2
        exact ⟨u, r, .inl ⟨hk, by simp⟩⟩
      · rw [List.getElem?_set_ne (Ne.symm hj)] at e2
        obtain ⟨u', r', q⟩ := hl j y v' e1 e2 e3
        refine ⟨u', r', ?_⟩
        rcases q with ⟨k, e⟩ | ⟨k, c, e, z⟩
        · refine .inl ⟨k, ?_⟩
          have : y ≠ x := fun e => hj (nodup_ix hN e1 (e ▸ hi))
          simp [this, e]
        · exact .inr ⟨k, c, e, z.sameBut hs (cne y c e)⟩
    · obtain ⟨w', z⟩ := I.cell y c e
      exact ⟨w', z.sameBut hs (cne y c e)⟩
    · obtain ⟨e, n, ne, nf, d⟩ := I.pin p hp
      exact ⟨(hs.2 p.1 ne).trans e, n, ne, nf, d⟩
  · have hfn : X.fn x = true := by
      rcases hf with z | z
      · exact z
      · rw [z] at hk; cases hk
    obtain ⟨c, hc⟩ := I.ok.has x (.inl hk)
    obtain ⟨w', z⟩ := I.cell x c hc
    refine wpAny_storeName_cell I.ok.kind hk hc z (fun h' hc' hs => ?_)
    obtain ⟨oc, hoc, hocd⟩ := id z
    refine h { s with heap := h' } ⟨I.ok, I.os, I.bare, ⟨fun b o e n hb hx => ?_, fun b o e n hb hx => ?_, I.base.free, fun b o e hx => ?_, I.base.tups, I.base.frzs, I.base.tbls⟩, ⟨m, hn.sameBut hs (Ne.symm (cne x c hc)), fun j y v' e1 e2 e3 => ?_⟩, fun y c' e => ?_, I.free, I.freeC, fun p hp => ?_, tracked ⟨oc, hoc, I.freeC x c hc⟩ hs, by simpa using I.len⟩ ⟨c, hs, .inr hc⟩
    · exact (hs.2 b (Nat.ne_of_lt (Nat.lt_of_lt_of_le (Heap.lt_size e) (I.ok.cab x c hfn hc)))).trans (I.base.keep b o e n hb hx)
    · obtain ⟨sl, e1⟩ := I.base.slot b o e n hb hx
      exact ⟨sl, (hs.2 b (Nat.ne_of_lt (Nat.lt_of_lt_of_le (Heap.lt_size e) (I.ok.cab x c hfn hc)))).trans e1⟩
    · obtain ⟨o', e1⟩ := I.base.there b o e hx
      exact ⟨o', (hs.2 b (Nat.ne_of_lt (Nat.lt_of_lt_of_le (Heap.lt_size e) (I.ok.cab x c hfn hc)))).trans e1⟩
    · by_cases hj : j = i
      · subst hj
        rw [hi] at e1; cases e1
        rw [List.getElem?_set_self hiσ] at e2
        cases e2
        exact ⟨u, r, .inr ⟨.inl hk, c, hc, hc'⟩⟩
      · rw [List.getElem?_set_ne (Ne.symm hj)] at e2
        obtain ⟨u', r', q⟩ := hl j y v' e1 e2 e3
        refine ⟨u', r', ?_⟩
        rcases q with q | ⟨k, c', e, z'⟩
        · exact .inl q
        · refine .inr ⟨k, c', e, z'.sameBut hs ?_⟩
          rintro rfl
          exact hj (nodup_ix hN e1 (I.ok.inj _ _ _ e hc ▸ hi))
    · by_cases hcc : c' = c
      · subst hcc; exact ⟨_, hc'⟩
      · obtain ⟨w2, z2⟩ := I.cell y c' e
        exact ⟨w2, z2.sameBut hs hcc⟩
    · obtain ⟨e, n, ne, nf, d⟩ := I.pin p hp
      refine ⟨(hs.2 p.1 ?_).trans e, n, ne, nf, d⟩
      intro q
      rw [q, hoc] at e
      have q' : oc = p.2 := Option.some.inj e
      exact d w' (by rw [← q']; exact hocd)
theorem store_ok {M : Model} {A : Around} {E : Value → Shared → Prop} {i : Nat} {x : Str} {v : V} {u : Value} {Q : Unit → Shared → Prop} (I : Inv X pins σ H s) (hN : X.N.Nodup) (hi : X.N[i]? = some x) (hx : Loc X.env.scope x) (r : RelV v u)
    (h : ∀ s', Inv X pins (σ.set i (some v)) H s' → Q () s') (hf : X.fn x = true ∨ X.env.scope.names.lookup x = some .local := by first | exact .inl rfl | exact .inr rfl | assumption) : wpAny M A (storeName X.env x u) Q E s :=
  store_ok2 I hN hi hx r (fun s' I' _ => h s' I') hf
theorem Inv.call' {s' : Shared} {ch : List Addr} (I : Inv X pins σ H s) (ho : s'.os = s.os) (u : Un (frs X.stack) ch H H' s.heap s'.heap) (hok : HOk X.prog X.w H' s'.heap) (hg : AllBare s'.gens)
    (hch : ∀ b ∈ ch, (b ∈ X.ex ∨ X.s₀.heap.objs.size ≤ b) ∧ b ≠ X.env.locals ∧ (∀ x c, X.env.cells.lookup x = some c → c ≠ b) ∧ ∀ p ∈ X.pn ++ pins, p.1 ≠ b) : Inv X pins σ H' s' := by
  obtain ⟨h', g', d', t', o'⟩ := s'
  have e : o' = s.os := ho
  subst e
  exact I.call (g' := g') (t' := t') (d' := d') u hok hg hch
end
noncomputable abbrev XK := Value → Option Addr → Hp → Prop
noncomputable abbrev St := List (Option V)
noncomputable abbrev VK := V → Hp → Prop
noncomputable abbrev TE := St → Hp → VK → Prop
noncomputable abbrev TT := St → Hp → (Bool → Hp → Prop) → Prop
noncomputable abbrev TA := St → Hp → (List V → Hp → Prop) → Prop
structure Ends where
  nx : St → Hp → Prop
  rt : VK
  bk : St → Hp → Prop := fun _ _ => False
  ct : St → Hp → Prop := fun _ _ => False
noncomputable abbrev TS := Ends → St → Hp → Prop
noncomputable def EP (X : Cx) (pins : List (Addr × Obj)) (σ : St) (Q : VK) (u : Value) (s' : Shared) : Prop := ∃ v H', Inv X pins σ H' s' ∧ RelV v u ∧ Q v H'
noncomputable def TP (X : Cx) (pins : List (Addr × Obj)) (σ : St) (Q : Bool → Hp → Prop) (b : Bool) (s' : Shared) : Prop := ∃ H', Inv X pins σ H' s' ∧ Q b H'
noncomputable def AP (X : Cx) (pins : List (Addr × Obj)) (σ : St) (Q : List V → Hp → Prop) (us : List Value) (s' : Shared) : Prop := ∃ vs H', Inv X pins σ H' s' ∧ Vals vs us ∧ Q vs H'
noncomputable def SP (X : Cx) (pins : List (Addr × Obj)) (D : Ends) (f : Flow) (s' : Shared) : Prop :=
  match f with
  | .next => ∃ σ' H', Inv X pins σ' H' s' ∧ D.nx σ' H'
  | .brk => ∃ σ' H', Inv X pins σ' H' s' ∧ D.bk σ' H'
  | .cont => ∃ σ' H', Inv X pins σ' H' s' ∧ D.ct σ' H'
  | .ret u => ∃ v σ' H', Inv X pins σ' H' s' ∧ RelV v u ∧ D.rt v H'
noncomputable def PE (X : Cx) (e : Expr) (t : TE) : Prop :=
  ∀ (pins : List (Addr × Obj)) (s : Shared) (σ : St) (H : Hp) (Q : VK), Inv X pins σ H s → t σ H Q → wpAny (model X.prog X.w) X.A (eval e X.env) (EP X pins σ Q) X.xe s
noncomputable def PT (X : Cx) (e : Expr) (t : TT) : Prop :=
  ∀ (pins : List (Addr × Obj)) (s : Shared) (σ : St) (H : Hp) (Q : Bool → Hp → Prop), Inv X pins σ H s → t σ H Q → wpAny (model X.prog X.w) X.A (isTrue e X.env (eval e X.env)) (TP X pins σ Q) X.xe s
noncomputable def PW (X : Cx) (e : Expr) (t : TT) : Prop :=
  ∀ (whole : Sem Value) (pins : List (Addr × Obj)) (s : Shared) (σ : St) (H : Hp) (Q : Bool → Hp → Prop), Inv X pins σ H s → t σ H Q → wpAny (model X.prog X.w) X.A (isTrue e X.env whole) (TP X pins σ Q) X.xe s
theorem PW.pt {X : Cx} {e : Expr} {t : TT} (h : PW X e t) : PT X e t := h _
noncomputable def PA (X : Cx) (es : List Expr) (t : TA) : Prop :=
  ∀ (pos : Pos) (pins : List (Addr × Obj)) (s : Shared) (σ : St) (H : Hp) (Q : List V → Hp → Prop), Inv X pins σ H s → t σ H Q → wpAny (model X.prog X.w) X.A (spliced (backTo pos (starEach es X.env))) (AP X pins σ Q) X.xe s
noncomputable def PS (X : Cx) (st : Stmt) (t : TS) : Prop :=
  ∀ (pins : List (Addr × Obj)) (s : Shared) (σ : St) (H : Hp) (D : Ends), Inv X pins σ H s → t D σ H → wpAny (model X.prog X.w) X.A (exec st X.env) (SP X pins D) X.xe s
noncomputable def PSs (X : Cx) (st : List Stmt) (t : TS) : Prop :=
  ∀ (pins : List (Addr × Obj)) (s : Shared) (σ : St) (H : Hp) (D : Ends), Inv X pins σ H s → t D σ H → wpAny (model X.prog X.w) X.A (execs st X.env) (SP X pins D) X.xe s
theorem thn {α : Type} {t : Sem α} {Q Q' : α → Shared → Prop} {M : Model} {A : Around} {E : Value → Shared → Prop} {s : Shared} (h : wpAny M A t Q E s) (hQ : ∀ a s, Q a s → Q' a s) : wpAny M A t Q' E s := wpAny_mono h hQ fun _ _ x => x
section
variable {X : Cx}
inductive Ask_tVar (i : Nat) (σ : St) (H : Hp) (Q : VK) : Prop where
  | mk (v : _) (q0_ : σ[i]? = some (some v)) (q1_ : Q v H) : Ask_tVar i σ H Q
noncomputable def tVar (i : Nat) : TE := fun σ H Q => Ask_tVar i σ H Q
noncomputable def tC (v : V) : TE := fun _ H Q => Q v H
theorem pe_var {i : Nat} {x : Str} {pos : Pos} (hN : X.N[i]? = some x) (hv : Vis X.env.scope x) (hd : (x == ("__debug__" : Str)) = false := by decide) (hcd : (x == ("__classdict__" : Str)) = false := by decide) : PE X (.Name x pos) (tVar i) := by
  intro pins s σ H Q I h
  obtain ⟨v, e, h⟩ := h
  obtain ⟨m, hn, hl⟩ := I.loc
  obtain ⟨u, r, l⟩ := hl i x v hN e hv
  have fin : EP X pins σ Q u s := ⟨v, H, I, r, h⟩
  rcases l with ⟨hk, hm⟩ | ⟨hk, c, hc, hcell⟩
  · exact wpAny_Name (wpAny_loadName_local I.ok.kind hk hn hm fin) hd
  · rcases hk with hk | hk
    · exact wpAny_Name (wpAny_loadName_cell I.ok.kind hk hc hcell fin) hd
    · exact wpAny_Name (wpAny_loadName_free I.ok.kind hk hc hcell fin hcd) hd
theorem pe_int {i j pos} : PE X (.Constant (.int i) j pos) (tC (.int i)) := fun _ _ _ H _ I h => wpAny_Constant_int ⟨.int i, H, I.tok _, ⟨_, rfl⟩, h⟩
theorem pe_bl {b j pos} : PE X (.Constant (.bool b) j pos) (tC (.bl b)) := fun _ _ _ H _ I h => Constant_bool ⟨.bl b, H, I, rfl, h⟩
theorem pe_str {x j pos} : PE X (.Constant (.str x) j pos) (tC (.str x)) := fun _ _ _ H _ I h => Calls.Constant_str ⟨.str x, H, I.tok _, ⟨_, rfl⟩, h⟩
noncomputable def Gl (X : Cx) (x : Str) : Prop := X.env.kindOf x = some .globalImplicit
theorem ld_glob {E : Value → Shared → Prop} {pins : List (Addr × Obj)} {s : Shared} {σ : St} {H : Hp} {x : Str} {u : Value} {pos : Pos} {Q : Value → Shared → Prop} (I : Inv X pins σ H s) (hg : Gl X x) (hm : X.mg x = some u) (h : Q u s)
    (hd : (x == ("__debug__" : Str)) = false := by decide) : wpAny (model X.prog X.w) X.A (eval (.Name x pos) X.env) Q E s :=
  Calls.Name_function_global I.ok.kind hg (Calls.loadGlobal_global (by rw [I.ok.glob]; exact I.mod.glob.keeps I.bk) hm h) hd
theorem ld_blt {E : Value → Shared → Prop} {pins : List (Addr × Obj)} {s : Shared} {σ : St} {H : Hp} {x : Str} {u : Value} {pos : Pos} {Q : Value → Shared → Prop} (I : Inv X pins σ H s) (hg : Gl X x) (hm : X.mg x = none) (hv : bootBuiltins x = some u) (h : Q u s)
    (hn : x ≠ "__name__" := by decide) (hd : (x == ("__debug__" : Str)) = false := by decide) : wpAny (model X.prog X.w) X.A (eval (.Name x pos) X.env) Q E s := by
  obtain ⟨mb, h1, h2⟩ := I.mod.blt
  exact Calls.Name_function_global I.ok.kind hg (Calls.loadGlobal_builtin (by rw [I.ok.glob]; exact I.mod.glob.keeps I.bk) hm (by rw [I.ok.blt]; exact h1.keeps I.bk) ((h2 x hn).trans hv) h) hd
theorem pe_bltn {x : Str} {v : V} {u : Value} {pos : Pos} (hg : Gl X x) (hm : X.mg x = none) (hv : bootBuiltins x = some u) (r : RelV v u) (hn : x ≠ "__name__" := by decide) (hd : (x == ("__debug__" : Str)) = false := by decide) : PE X (.Name x pos) (tC v) :=
  fun _ _ _ H _ I h => ld_blt I hg hm hv ⟨v, H, I, r, h⟩ hn hd
variable {a b : Expr} {ta tb : TE} {pos : Pos}
noncomputable def tB (t : TE) : TT := fun σ H Q => t σ H fun x H1 => ∃ c, x = .bl c ∧ Q c H1
theorem pt_val {e : Expr} {t : TE} (h : PE X e t) (he : ∀ whole, isTrue e X.env whole = (do let v ← whole; standAt e.pos; holding [v] (truthy v)) := by intro _; rfl) : PT X e (tB t) := by
  intro pins s σ H Q I hw
  refine isTrue_plain (thn (h pins s σ H _ I hw) fun v s1 ⟨x, H1, I1, r1, q1⟩ => ?_) (he _)
  obtain ⟨d, rfl, q⟩ := q1
  cases r1
  exact wpAny_truthy_bool ⟨H1, I1, q⟩
variable {tA tB' : TT} {rest : List Expr}
noncomputable def tAnd (t u : TT) : TT := fun σ H Q => t σ H fun c H1 => if c = true then u σ H1 Q else Q false H1
noncomputable def tOr (t u : TT) : TT := fun σ H Q => t σ H fun c H1 => if c = true then Q true H1 else u σ H1 Q
noncomputable def tNot (t : TT) : TT := fun σ H Q => t σ H fun c H1 => Q (!c) H1
theorem pw_and1 (ha : PT X a tA) : PW X (.BoolOp .And [a] pos) tA := by
  intro wh pins s σ H Q I h
  refine isTrue_and (thn (ha pins s σ H Q I h) fun c s1 e => ?_)
  cases c with
  | true => exact isTrue_and_nil e
  | false => exact e
theorem pw_or1 (ha : PT X a tA) : PW X (.BoolOp .Or [a] pos) tA := by
  intro wh pins s σ H Q I h
  refine isTrue_or (thn (ha pins s σ H Q I h) fun c s1 e => ?_)
  cases c with
  | false => exact isTrue_or_nil e
  | true => exact e
theorem pw_and (ha : PT X a tA) (hb : PW X (.BoolOp .And (b :: rest) pos) tB') : PW X (.BoolOp .And (a :: b :: rest) pos) (tAnd tA tB') := by
  intro wh pins s σ H Q I h
  refine isTrue_and (thn (ha pins s σ H _ I h) fun c s1 ⟨H1, I1, q1⟩ => ?_)
  cases c with
  | true => exact hb wh pins s1 σ H1 Q I1 q1
  | false => exact ⟨H1, I1, q1⟩
theorem pw_or (ha : PT X a tA) (hb : PW X (.BoolOp .Or (b :: rest) pos) tB') : PW X (.BoolOp .Or (a :: b :: rest) pos) (tOr tA tB') := by
  intro wh pins s σ H Q I h
  refine isTrue_or (thn (ha pins s σ H _ I h) fun c s1 ⟨H1, I1, q1⟩ => ?_)
  cases c with
  | true => exact ⟨H1, I1, q1⟩
  | false => exact hb wh pins s1 σ H1 Q I1 q1
theorem pt_not (ha : PT X a tA) : PT X (.UnaryOp .Not a pos) (tNot tA) := by
  intro pins s σ H Q I h
  exact isTrue_not (ha pins s σ H (fun c H1 => Q (!c) H1) I h)
noncomputable def tIf (t : TT) (ta tb : TE) : TE := fun σ H Q => t σ H fun c H1 => if c = true then ta σ H1 Q else tb σ H1 Q
theorem pe_ifExp {c : Expr} (hc : PT X c tA) (ha : PE X a ta) (hb : PE X b tb) : PE X (.IfExp c a b pos) (tIf tA ta tb) := by
  intro pins s σ H Q I h
  refine wpAny_IfExp (thn (hc pins s σ H _ I h) fun d s1 ⟨H1, I1, q1⟩ => ?_)
  cases d with
  | true => exact ha pins s1 σ H1 Q I1 q1
  | false => exact hb pins s1 σ H1 Q I1 q1
end
noncomputable def SqL (K : PySem.W.Frag) (H : Hp) (a : Addr) (xs : List V) : Prop :=
  Rd H a (.lst xs) ∨
    ∃ (o : Obj) (its : Array Value) (n : Nat), K.lookup a = some o ∧ o.cls = .type "list" ∧ o.dict = none ∧ o.data = .seq its n ∧ its.size ≤ sizeLine ∧ Vals xs its.toList
noncomputable def SqT (K : PySem.W.Frag) (H : Hp) (a : Addr) (xs : List V) : Prop :=
  Rd H a (.tup xs) ∨
    ∃ (o : Obj) (its : Array Value) (n : Nat), K.lookup a = some o ∧ o.cls = .type "tuple" ∧ o.data = .seq its n ∧ its.size ≤ sizeLine ∧ Vals xs its.toList
noncomputable def absV : Value → Option V
  | .none => some .non
  | .bool b => some (.bl b)
  | .int i _ => some (.int i)
  | .str x _ => some (.str x)
  | .bytes b _ => some (.byt b)
  | .float b _ => some (.flt b)
  | .ref a => some (.ref a)
  | .type n => some (.ty n)
  | _ => none
theorem RelV.abs {x : V} {u : Value} (r : RelV x u) : absV u = some x := by
  cases x with
  | non => cases r; rfl
  | bl _ => cases r; rfl
  | int _ => obtain ⟨t, rfl⟩ := r; rfl
  | str _ => obtain ⟨t, rfl⟩ := r; rfl
  | byt _ => obtain ⟨t, rfl⟩ := r; rfl
  | flt _ => obtain ⟨t, rfl⟩ := r; rfl
  | ref _ => cases r; rfl
  | ty _ => cases r; rfl
theorem RelV.inj {x y : V} {u : Value} (r : RelV x u) (q : RelV y u) : x = y := Option.some.inj (r.abs.symm.trans q.abs)
theorem Vals.inj : ∀ {xs ys : List V} {us : List Value}, Vals xs us → Vals ys us → xs = ys
  | _, _, _, .nil, .nil => rfl
  | _, _, _, .cons r t, .cons r' t' => by rw [r.inj r', Vals.inj t t']
section
variable {X : Cx} {pins : List (Addr × Obj)} {σ : St} {H : Hp} {s : Shared} {a : Addr} {xs ys : List V}
theorem SqL.of {K : PySem.W.Frag} (h : H a = some (.lst xs)) : SqL K H a xs := .inl (.inl h)
theorem SqT.of {K : PySem.W.Frag} (h : H a = some (.tup xs)) : SqT K H a xs := .inl (.inl h)
theorem Inv.list (I : Inv X pins σ H s) (h : SqL X.K H a xs) : ∃ its : List Value, Vals xs its ∧ PlainL s.heap a its.toArray ∧ xs.length ≤ sizeLine := by
  rcases h with h | ⟨o, its, n, hk, hc, hd, hs, hz, r⟩
  · obtain ⟨z, its, n, r, e⟩ := h.ok I.hok
    exact ⟨its, r, ⟨_, n, e, rfl, rfl, rfl⟩, z⟩
  · refine ⟨its.toList, r, ⟨o, n, I.kIn a o hk, hc, hd, by simpa using hs⟩, ?_⟩
    have e := r.length
    simp only [Array.length_toList] at e
    lia
theorem Inv.tuple (I : Inv X pins σ H s) (h : SqT X.K H a xs) : ∃ its : List Value, Vals xs its ∧ IsTup s.heap a its.toArray ∧ xs.length ≤ sizeLine := by
  rcases h with h | ⟨o, its, n, hk, hc, hs, hz, r⟩
  · obtain ⟨z, its, r, p⟩ := h.ok I.hok
    exact ⟨its, r, p, z⟩
  · refine ⟨its.toList, r, ⟨o, I.kIn a o hk, hc, n, by simpa using hs⟩, ?_⟩
    have e := r.length
    simp only [Array.length_toList] at e
    lia
theorem Inv.list_inj (I : Inv X pins σ H s) (h : SqL X.K H a xs) (h' : SqL X.K H a ys) : xs = ys := by
  obtain ⟨its, r, ⟨o, n, e, _, _, d⟩, _⟩ := I.list h
  obtain ⟨its', r', ⟨o', n', e', _, _, d'⟩, _⟩ := I.list h'
  rw [e] at e'; cases e'
  rw [d] at d'
  injection d' with d1 _
  have : its = its' := by simpa using congrArg Array.toList d1
  subst this
  exact r.inj r'
theorem Inv.tuple_inj (I : Inv X pins σ H s) (h : SqT X.K H a xs) (h' : SqT X.K H a ys) : xs = ys := by
  obtain ⟨its, r, ⟨o, e, _, n, d⟩, _⟩ := I.tuple h
  obtain ⟨its', r', ⟨o', e', _, n', d'⟩, _⟩ := I.tuple h'
  rw [e] at e'; cases e'
  rw [d] at d'
  injection d' with d1 _
  have : its = its' := by simpa using congrArg Array.toList d1
  subst this
  exact r.inj r'
end
noncomputable abbrev Cx.wish (X : Cx) (E : Value → Shared → Prop) : Cx := { X with xe := E }
noncomputable abbrev Cx.nox (X : Cx) : Cx := X.wish fun _ _ => False
theorem Cx.Ok.wish {X : Cx} (ok : X.Ok) (E : Value → Shared → Prop) : (X.wish E).Ok :=
  ⟨ok.mod, ok.kind, ok.glob, ok.blt, ok.above, ok.inj, ok.has, ok.cab, ok.hd, ok.frames, ok.stk, ok.exf, ok.bs, ok.bsz, ok.noex, ok.exfs, ok.funs, ok.frf⟩
theorem Cx.Ok.unwish {X : Cx} {E : Value → Shared → Prop} (ok : (X.wish E).Ok) : X.Ok :=
  ⟨ok.mod, ok.kind, ok.glob, ok.blt, ok.above, ok.inj, ok.has, ok.cab, ok.hd, ok.frames, ok.stk, ok.exf, ok.bs, ok.bsz, ok.noex, ok.exfs, ok.funs, ok.frf⟩
section
variable {X : Cx} {pins : List (Addr × Obj)} {σ : St} {H : Hp} {s : Shared} {E : Value → Shared → Prop}
theorem Inv.wish (I : Inv X pins σ H s) (E : Value → Shared → Prop) : Inv (X.wish E) pins σ H s := ⟨I.ok.wish E, I.os, I.bare, I.base, I.loc, I.cell, I.free, I.freeC, I.pin, I.hok, I.len⟩
theorem Inv.unwish (I : Inv (X.wish E) pins σ H s) : Inv X pins σ H s := ⟨I.ok.unwish, I.os, I.bare, I.base, I.loc, I.cell, I.free, I.freeC, I.pin, I.hok, I.len⟩
theorem SP.unwish {D : Ends} {f : Flow} {s' : Shared} (h : SP (X.wish E) pins D f s') : SP X pins D f s' := by
  cases f with
  | next => obtain ⟨σ', H', I, q⟩ := h; exact ⟨σ', H', I.unwish, q⟩
  | brk => obtain ⟨σ', H', I, q⟩ := h; exact ⟨σ', H', I.unwish, q⟩
  | cont => obtain ⟨σ', H', I, q⟩ := h; exact ⟨σ', H', I.unwish, q⟩
  | ret u => obtain ⟨v, σ', H', I, r, q⟩ := h; exact ⟨v, σ', H', I.unwish, r, q⟩
theorem PE.nox {e : Expr} {t : TE} (h : PE X.nox e t) : PE X e t := fun pins s σ H Q I hw =>
  wpAny_mono (h pins s σ H Q (I.wish _) hw) (fun _ _ ⟨v, H', I', r, q⟩ => ⟨v, H', I'.unwish, r, q⟩) fun _ _ z => False.elim z
theorem PSs.nox {st : List Stmt} {t : TS} (h : PSs X.nox st t) : PSs X st t := fun pins s σ H D I hw =>
  wpAny_mono (h pins s σ H D (I.wish _) hw) (fun _ _ q => q.unwish) fun _ _ z => False.elim z
end
section
variable {X : Cx} {st : Stmt} {rest : List Stmt} {t u : TS} {e : Expr} {te : TE} {pos : Pos}
noncomputable def tNext : TS := fun D σ H => D.nx σ H
noncomputable def tSeq (t u : TS) : TS := fun D σ H => t { D with nx := u D } σ H
theorem pss_nil : PSs X [] tNext := fun _ _ σ H _ I h => wpAny_execs_nil ⟨σ, H, I, h⟩
theorem pss_cons (h1 : PS X st t) (h2 : PSs X rest u) : PSs X (st :: rest) (tSeq t u) := by
  intro pins s σ H D I h
  refine wpAny_execs_cons (thn (h1 pins s σ H { D with nx := u D } I h) fun f s1 q => ?_)
  cases f with
  | next =>
    obtain ⟨σ', H', I', q⟩ := q
    exact h2 pins s1 σ' H' D I' q
  | ret v => exact q
  | brk => exact q
  | cont => exact q
theorem pss_one (h1 : PS X st t) : PSs X [st] t := by
  intro pins s σ H D I h
  refine wpAny_execs_cons (thn (h1 pins s σ H D I h) fun f s1 q => ?_)
  cases f with
  | next => exact wpAny_execs_nil q
  | ret v => exact q
  | brk => exact q
  | cont => exact q
theorem Inv.quiet {pins : List (Addr × Obj)} {σ : St} {H : Hp} {s : Shared} (I : Inv X pins σ H s) : interactive X.env = false := by simp [interactive, I.ok.kind]
noncomputable def tDrop (te : TE) : TS := fun D σ H => te σ H fun _ H1 => D.nx σ H1
theorem ps_expr (he : PE X e te) (hs : swapsWith e none pos.line X.env = pure false := by rfl) : PS X (.Expr e pos) (tDrop te) := by
  intro pins s σ H D I h
  exact wpAny_Expr_any (thn (he pins s σ H _ I h) fun v s1 ⟨x, H1, I1, r1, q1⟩ => ⟨σ, H1, I1, q1⟩) I.quiet hs
noncomputable def tRet (te : TE) : TS := fun D σ H => te σ H D.rt
theorem ps_ret (he : PE X e te) : PS X (.Return (some e) pos) (tRet te) := by
  intro pins s σ H D I h
  exact wpAny_Return_some (thn (he pins s σ H _ I h) fun v s1 ⟨x, H1, I1, r1, q1⟩ => ⟨x, σ, H1, I1, r1, q1⟩)
noncomputable def tIfS (c : TT) (t u : TS) : TS := fun D σ H => c σ H fun b H1 => if b = true then t D σ H1 else u D σ H1
theorem ps_if {c : Expr} {a b : List Stmt} {tc : TT} (hc : PT X c tc) (ha : PSs X a t) (hb : PSs X b u) : PS X (.If c a b pos) (tIfS tc t u) := by
  intro pins s σ H D I h
  refine wpAny_If (thn (hc pins s σ H _ I h) fun d s1 ⟨H1, I1, q1⟩ => ?_)
  cases d with
  | true => exact ha pins s1 σ H1 D I1 q1
  | false => exact hb pins s1 σ H1 D I1 q1
end
noncomputable abbrev TG := V → St → Hp → (St → Hp → Prop) → Prop
noncomputable abbrev TGs := List V → St → Hp → (St → Hp → Prop) → Prop
noncomputable def PG (X : Cx) (target : Expr) (t : TG) : Prop :=
  ∀ (pins : List (Addr × Obj)) (s : Shared) (σ : St) (H : Hp) (v : V) (u : Value) (Q : St → Hp → Prop), Inv X pins σ H s → RelV v u → t v σ H Q →
    wpAny (model X.prog X.w) X.A (assign target X.env u) (fun _ s' => ∃ σ' H', Inv X pins σ' H' s' ∧ Q σ' H') X.xe s
noncomputable def PGs (X : Cx) (ts : List Expr) (t : TGs) : Prop :=
  ∀ (pins : List (Addr × Obj)) (s : Shared) (σ : St) (H : Hp) (vs : List V) (us : List Value) (Q : St → Hp → Prop), Inv X pins σ H s → Vals vs us → t vs σ H Q →
    wpAny (model X.prog X.w) X.A (assignInOrder ((assignEach ts X.env).map (·.2)) us) (fun _ s' => ∃ σ' H', Inv X pins σ' H' s' ∧ Q σ' H') X.xe s
noncomputable abbrev TSet := V → V → V → Hp → (Hp → Prop) → Prop
noncomputable def PSet (X : Cx) (t : TSet) : Prop :=
  ∀ (pins : List (Addr × Obj)) (s : Shared) (σ : St) (H : Hp) (o i v : V) (ov iv u : Value) (Q : Hp → Prop), Inv X pins σ H s → RelV o ov → RelV i iv → RelV v u → t o i v H Q →
    wpAny (model X.prog X.w) X.A (setItem ov iv u) (fun _ s' => ∃ H', Inv X pins σ H' s' ∧ Q H') X.xe s
section
variable {X : Cx} {pos : Pos}
noncomputable def gName (i : Nat) : TG := fun v σ H Q => Q (σ.set i (some v)) H
theorem pg_name {i : Nat} {x : Str} (hN : X.N.Nodup) (hi : X.N[i]? = some x) (hx : Loc X.env.scope x) (hf : X.fn x = true ∨ X.env.scope.names.lookup x = some .local := by first | exact .inl rfl | exact .inr rfl | assumption) : PG X (.Name x pos) (gName i) := by
  intro pins s σ H v u Q I r h
  exact wpAny_assign_Name (store_ok I hN hi hx r (fun s' I' => ⟨_, H, I', h⟩) hf)
noncomputable def gNil : TGs := fun vs σ H Q => vs = [] ∧ Q σ H
noncomputable def gCons (t : TG) (u : TGs) : TGs := fun vs σ H Q => ∃ v r, vs = v :: r ∧ t v σ H fun σ' H' => u r σ' H' Q
theorem pgs_nil : PGs X [] gNil := by
  intro pins s σ H vs us Q I r h
  obtain ⟨e, h⟩ := h
  subst e
  cases r
  exact assignInOrder_nil ⟨σ, H, I, h⟩
theorem pgs_cons {e : Expr} {es : List Expr} {t : TG} {u : TGs} (h1 : PG X e t) (h2 : PGs X es u)
    (hs : (assignEach (e :: es) X.env).map (·.2) = assign e X.env :: (assignEach es X.env).map (·.2) := by rfl) : PGs X (e :: es) (gCons t u) := by
  intro pins s σ H vs us Q I r h
  obtain ⟨v, vr, e1, h⟩ := h
  subst e1
  cases r with
  | cons r rr =>
    rw [hs]
    refine assignInOrder_cons (thn (h1 pins s σ H _ _ _ I r h) fun _ s1 ⟨σ1, H1, I1, q1⟩ => ?_)
    exact h2 pins s1 σ1 H1 _ _ Q I1 rr q1
noncomputable def gTup (K : PySem.W.Frag) (n : Nat) (t : TGs) : TG := fun v σ H Q => ∃ a xs, v = .ref a ∧ SqT K H a xs ∧ xs.length = n ∧ t xs σ H Q
theorem pg_tup {es : List Expr} {k : Nat} {t : TGs} {n : Nat} (hc : X.calm = true) (h : PGs X es t)
    (hn : (assignEach es X.env).length = n := by rfl) (hst : (assignEach es X.env).findIdx? (·.1) = none := by rfl) : PG X (.Tuple es k pos) (gTup X.K n t) := by
  intro pins s σ H v u Q I r hw
  obtain ⟨a, xs, e1, hq, hl, hw⟩ := hw
  subst e1
  cases r
  obtain ⟨its, rv, ht, hz⟩ := I.tuple hq
  refine assign_Tuple_tuple (I.ok.hd hc) ht (by simp [hn, ← hl, rv.length]) hst fun h' hx => ?_
  have I1 : Inv X pins σ H { s with heap := h' } := I.kept (t' := s.toks) fun b o e => hx b o (Nat.ne_of_lt (Heap.lt_size e)) e
  exact h pins _ σ H xs _ Q I1 (by simpa using rv) hw
noncomputable def gSub (to ti : TE) (t : TSet) : TG := fun v σ H Q => to σ H fun o H1 => ti σ H1 fun i H2 => t o i v H2 fun H3 => Q σ H3
theorem pg_sub {o i : Expr} {to ti : TE} {t : TSet} (ho : PE X o to) (hi : PE X i ti) (hs : PSet X t)
    (ha : ∀ v, assign (.Subscript o i pos) X.env v = (do
      let ov ← holding [v] (eval o X.env)
      let iv ← holding [v, ov] (eval i X.env)
      standAt pos
      holding [v, ov, iv] (setItem ov iv v)
      release [v, ov, iv] []) := by intro _; rfl) : PG X (.Subscript o i pos) (gSub to ti t) := by
  intro pins s σ H v u Q I r h
  rw [ha]
  refine wpAny_bind (wpAny_holding (thn (ho pins s σ H _ I h) fun ov s1 ⟨x, H1, I1, r1, q1⟩ => ?_))
  refine wpAny_bind (wpAny_holding (thn (hi pins s1 σ H1 _ I1 q1) fun iv s2 ⟨y, H2, I2, r2, q2⟩ => ?_))
  refine wpAny_bind (wpAny_standAt (wpAny_bind (wpAny_holding (thn (hs pins s2 σ H2 x y v ov iv u _ I2 r1 r2 r q2) fun _ s3 ⟨H3, I3, q3⟩ => ?_))))
  exact wpAny_release ⟨σ, H3, I3, q3⟩
noncomputable def tAsg (te : TE) (g : TG) : TS := fun D σ H => te σ H fun x H1 => g x σ H1 D.nx
theorem ps_asg {tg e : Expr} {te : TE} {g : TG} (he : PE X e te) (hg : PG X tg g) (hs : swapsWithSole [tg] e pos.line X.env = pure false := by rfl) (hw : swappedStores [tg] e X.env = pure none := by rfl)
    (h1 : (assignEach [tg] X.env).map (·.2) = [assign tg X.env] := by rfl) : PS X (.Assign [tg] e pos) (tAsg te g) := by
  intro pins s σ H D I h
  refine wpAny_Assign_stores (thn (he pins s σ H _ I h) fun v s1 ⟨x, H1, I1, r1, q1⟩ => ?_) hs hw
  rw [h1]
  exact thn (hg pins s1 σ H1 x v _ I1 r1 q1) fun _ s2 q => q
theorem ps_set {i : Nat} {x : Str} {e : Expr} {te : TE} {pos' : Pos} (hN : X.N.Nodup) (hi : X.N[i]? = some x) (hx : Loc X.env.scope x) (he : PE X e te) (hs : swapsWith e (some (.Name x pos')) pos.line X.env = pure false := by rfl) (hf : X.fn x = true ∨ X.env.scope.names.lookup x = some .local := by first | exact .inl rfl | exact .inr rfl | assumption) :
    PS X (.Assign [.Name x pos'] e pos) (tAsg te (gName i)) := by
  intro pins s σ H D I h
  refine wpAny_Assign_Name (thn (he pins s σ H _ I h) fun v s1 ⟨y, H1, I1, r1, q1⟩ => ?_) hs
  exact store_ok I1 hN hi hx r1 (fun s2 I2 => ⟨_, H1, I2, q1⟩) hf
end
section
variable {X : Cx} {pos : Pos}
noncomputable def tWhile (c : TT) (tb : TS) : TS := fun D σ H => ∃ W : Nat → St → Hp → Prop, (∃ m, W m σ H) ∧ ∀ m σ H, W m σ H →
  c σ H fun b H1 => if b = true then ∃ N : St → Hp → Prop, (∀ σ' H', N σ' H' → ∃ m', m' < m ∧ W m' σ' H') ∧ tb { D with nx := N, ct := N, bk := D.nx } σ H1 else D.nx σ H1
theorem ps_while {c : Expr} {body : List Stmt} {tc : TT} {tb : TS} (hp : PassesOwn (model X.prog X.w) X.A X.env X.xe) (hc : PT X c tc) (hb : PSs X body tb) : PS X (.While c body [] pos) (tWhile tc tb) := by
  intro pins s σ H D I h
  obtain ⟨W, ⟨m0, w0⟩, turn⟩ := h
  refine wpAny_While (codeAny_whileLoop (fun n s' => ∃ σ' H', Inv X pins σ' H' s' ∧ W n σ' H') ?_ m0 ⟨σ, H, I, w0⟩)
  rintro n s1 ⟨σ1, H1, I1, w1⟩
  refine wpAny_passesOwn hp (thn (hc pins s1 σ1 H1 _ I1 (turn n σ1 H1 w1)) fun b s2 ⟨H2, I2, q2⟩ => ?_)
  cases b with
  | true =>
    obtain ⟨N, hN, q2⟩ := q2
    rw [if_pos rfl]
    refine wpAny_passesOwn hp (thn (hb pins s2 σ1 H2 _ I2 q2) fun f s3 q3 => ?_)
    cases f with
    | next =>
      obtain ⟨σ3, H3, I3, n3⟩ := q3
      obtain ⟨m', hm, w3⟩ := hN σ3 H3 n3
      exact ⟨m', hm, σ3, H3, I3, w3⟩
    | cont =>
      obtain ⟨σ3, H3, I3, n3⟩ := q3
      obtain ⟨m', hm, w3⟩ := hN σ3 H3 n3
      exact ⟨m', hm, σ3, H3, I3, w3⟩
    | brk => exact q3
    | ret v => exact q3
  | false =>
    rw [if_neg Bool.false_ne_true]
    exact wpAny_execs_nil ⟨σ1, H2, I2, q2⟩
end
structure It where
  go : Nat → Hp → Prop
  yld : Nat → Hp → V → Hp → Prop
  stop : Nat → Hp → Prop
noncomputable def FpOk (X : Cx) (pins : List (Addr × Obj)) (H : Hp) (b : Addr) : Prop :=
  H b = none ∧ b ≠ X.env.locals ∧ b ∉ X.fs ∧ (b ∈ X.ex ∨ X.s₀.heap.objs.size ≤ b) ∧ (∀ x c, X.env.cells.lookup x = some c → c ≠ b) ∧ ∀ p ∈ X.pn ++ pins, p.1 ≠ b
theorem Inv.fpOk {X : Cx} {pins : List (Addr × Obj)} {σ : St} {H H' : Hp} {s : Shared} {b : Addr} (I : Inv X pins σ H s) (hb : s.heap.objs.size ≤ b) (hn : H' b = none) : FpOk X pins H' b := by
  refine ⟨hn, Nat.ne_of_gt (Nat.lt_of_lt_of_le I.lt hb), I.nofs hb, .inr (Nat.le_trans I.sz hb), fun x c e z => ?_, fun p hp z => ?_⟩
  · obtain ⟨v, q⟩ := I.cell x c e
    exact absurd (Nat.lt_of_lt_of_le q.lt (by rw [z]; exact hb)) (Nat.lt_irrefl _)
  · exact absurd (Nat.lt_of_lt_of_le (Heap.lt_size (I.pin p hp).1) (by rw [z]; exact hb)) (Nat.lt_irrefl _)
structure Turn (P : Program) (w : World) (K : PySem.W.Frag) (tg : Expr) (J : It) (fp : List Addr) (it : Addr) (tn : Nat → Heap → Prop) : Prop where
  mem : it ∈ fp
  obj : ∀ i h, tn i h → ∀ b ∈ fp, ∃ o, h.get? b = some o ∧ ∀ v, o.data ≠ .cell v
  keep : ∀ i h h', tn i h → (∀ b ∈ fp, ∀ o, h.get? b = some o → h'.get? b = some o) → tn i h'
  item : ∀ (X : Cx), X.prog = P → X.w = w → X.K = K → X.calm = true → ∀ (i : Nat) (pins : List (Addr × Obj)) (s : Shared) (σ : St) (H : Hp) (E : Value → Shared → Prop), Inv X pins σ H s → (∀ b ∈ fp, FpOk X pins H b) → tn i s.heap → J.go i H →
    wpAny (model P w) X.A (pyNext (.ref it)) (fun r s1 => ∃ u, r = some u ∧
      wpAny (model P w) X.A (letOwnedTupleGo tg (.ref it) u) (fun _ s2 => ∃ x H', Inv X pins σ H' s2 ∧ RelV x u ∧ J.yld i H x H' ∧ tn (i + 1) s2.heap ∧ ∀ b ∈ fp, H' b = none) E s1) E s
  done : ∀ (X : Cx), X.prog = P → X.w = w → X.K = K → X.calm = true → ∀ (i : Nat) (pins : List (Addr × Obj)) (s : Shared) (σ : St) (H : Hp) (E : Value → Shared → Prop), Inv X pins σ H s → (∀ b ∈ fp, FpOk X pins H b) → tn i s.heap → J.stop i H →
    wpAny (model P w) X.A (pyNext (.ref it)) (fun r s1 => r = none ∧ Inv X pins σ H s1) E s
  self : ∀ (A : Around) (i : Nat) (s : Shared) (Q : Value → Shared → Prop) (E : Value → Shared → Prop), tn i s.heap → Q (.ref it) s → wpAny (model P w) A (pyIter (.ref it)) Q E s
noncomputable abbrev TI := St → Hp → (It → Hp → Prop) → Prop
noncomputable def PIE (X : Cx) (pins : List (Addr × Obj)) (σ : St) (tg : Expr) (R : It → Hp → Prop) (itv : Value) (s2 : Shared) : Prop :=
  ∃ (it : Addr) (fp : List Addr) (tn : Nat → Heap → Prop) (J : It) (H' : Hp), itv = .ref it ∧ Inv X pins σ H' s2 ∧ Turn X.prog X.w X.K tg J fp it tn ∧ tn 0 s2.heap ∧ (∀ b ∈ fp, FpOk X pins H' b) ∧ R J H'
noncomputable def PI (X : Cx) (tg iter : Expr) (wi : TI) : Prop :=
  ∀ (pins : List (Addr × Obj)) (s : Shared) (σ : St) (H : Hp) (R : It → Hp → Prop), Inv X pins σ H s → wi σ H R →
    wpAny (model X.prog X.w) X.A (eval iter X.env) (fun v s1 => wpAny (model X.prog X.w) X.A (pyIter v) (PIE X pins σ tg R) X.xe s1) X.xe s
theorem go_of {M : Model} {A : Around} {E : Value → Shared → Prop} {s : Shared} {tg : Expr} {it : Addr} {u : Value} {o : Obj} {n : String} {vs : Array Value} {Q : Unit → Shared → Prop} (ho : s.heap.get? it = some o) (hc : o.cls = .type n) (hd : o.data = .fields vs)
    (hn : ["enumerate", "zip", "dict_itemiterator", "dict_reverseitemiterator", "odict_iterator", "itertools.zip_longest", "itertools.pairwise"].contains n = false) (hQ : Q () s) : wpAny M A (letOwnedTupleGo tg (.ref it) u) Q E s := by
  unfold letOwnedTupleGo
  cases tg <;> first
    | exact wpAny_pure hQ
    | (cases u <;> first
        | exact wpAny_pure hQ
        | (refine wpAny_bind (wpAny_load ho ?_)
           rw [hc, hd]
           show wpAny M A (if (["enumerate", "zip", "dict_itemiterator", "dict_reverseitemiterator", "odict_iterator", "itertools.zip_longest", "itertools.pairwise"].contains n && vs[0]? == some (rawInt _)) = true then _ else _) Q E s
           rw [if_neg (by intro h; rw [hn, Bool.false_and] at h; cases h)]
           exact wpAny_pure hQ))
noncomputable def Itl (K : PySem.W.Frag) (a : Addr) : It :=
  ⟨fun i H => ∃ xs x, SqL K H a xs ∧ xs[i]? = some x, fun i H x H' => H' = H ∧ ∀ xs, SqL K H a xs → xs[i]? = some x, fun i H => ∃ xs, SqL K H a xs ∧ xs.length ≤ i⟩
noncomputable def Itt (K : PySem.W.Frag) (a : Addr) : It :=
  ⟨fun i H => ∃ xs x, SqT K H a xs ∧ xs[i]? = some x, fun i H x H' => H' = H ∧ ∀ xs, SqT K H a xs → xs[i]? = some x, fun i H => ∃ xs, SqT K H a xs ∧ xs.length ≤ i⟩
noncomputable def Itr (lo : Int) (n : Nat) : It := ⟨fun i _ => i < n, fun i H x H' => H' = H ∧ x = .int (lo + i), fun i _ => n ≤ i⟩
theorem turn_list {P : Program} {w : World} {K : PySem.W.Frag} {tg : Expr} (a it : Addr) : Turn P w K tg (Itl K a) [it] it (fun i h => h.IsListIter it a i) where
  mem := by simp
  obj := fun i h st b hb => by
    have e : b = it := by simpa using hb
    subst e
    obtain ⟨o, e, c, d⟩ := st
    exact ⟨o, e, fun v z => by rw [d] at z; cases z⟩
  keep := fun i h h' st k => st.at fun o e => k it (by simp) o e
  item := by
    intro X hP hw hK hc i pins s σ H E I hf st hg
    subst hP hw hK
    obtain ⟨xs, x, hq, hx⟩ := hg
    obtain ⟨its, rv, p, hz⟩ := I.list hq
    obtain ⟨u, hu, ru⟩ := rv.get hx
    obtain ⟨f0, f1, f2, f3, f4, f5⟩ := hf it (by simp)
    refine wpAny_pyNext_list_item st p.isList (x := u) (by simpa using hu) fun h' st' sb => ?_
    have I1 : Inv X pins σ H { s with heap := h' } := I.turned (t' := s.toks) (fun b o hb e => (sb.2 b hb).trans e) f0 f1 f3 f4 f5
    obtain ⟨o, e, c, d⟩ := id st'
    exact ⟨u, rfl, go_of (s := { s with heap := h' }) e c d (by decide) ⟨x, H, I1, ru, ⟨rfl, fun ys hy => by rw [I.list_inj hy hq]; exact hx⟩, st', fun b hb => (hf b hb).1⟩⟩
  done := by
    intro X hP hw hK hc i pins s σ H E I hf st hg
    subst hP hw hK
    obtain ⟨xs, hq, hx⟩ := hg
    obtain ⟨its, rv, p, hz⟩ := I.list hq
    obtain ⟨f0, f1, f2, f3, f4, f5⟩ := hf it (by simp)
    have hl := rv.length
    exact wpAny_pyNext_list_end (I.ok.hd hc) st p.isList (by simp; lia) fun h' eb => ⟨rfl, I.turned (t' := s.toks) (fun b o hb e => eb b o hb e) f0 f1 f3 f4 f5⟩
  self := fun _ _ _ _ _ st h => wpAny_pyIter_listiter st h
theorem turn_tuple {P : Program} {w : World} {K : PySem.W.Frag} {tg : Expr} (a it : Addr) : Turn P w K tg (Itt K a) [it] it (fun i h => h.IsTupleIter it a i) where
  mem := by simp
  obj := fun i h st b hb => by
    have e : b = it := by simpa using hb
    subst e
    obtain ⟨o, e, c, d⟩ := st
    exact ⟨o, e, fun v z => by rw [d] at z; cases z⟩
  keep := fun i h h' st k => st.at fun o e => k it (by simp) o e
  item := by
    intro X hP hw hK hc i pins s σ H E I hf st hg
    subst hP hw hK
    obtain ⟨xs, x, hq, hx⟩ := hg
    obtain ⟨its, rv, p, hz⟩ := I.tuple hq
    obtain ⟨u, hu, ru⟩ := rv.get hx
    obtain ⟨f0, f1, f2, f3, f4, f5⟩ := hf it (by simp)
    refine wpAny_pyNext_tuple_item st (show s.heap.IsTuple a its.toArray from p) (x := u) (by simpa using hu) fun h' st' sb => ?_
    have I1 : Inv X pins σ H { s with heap := h' } := I.turned (t' := s.toks) (fun b o hb e => (sb.2 b hb).trans e) f0 f1 f3 f4 f5
    obtain ⟨o, e, c, d⟩ := id st'
    exact ⟨u, rfl, go_of (s := { s with heap := h' }) e c d (by decide) ⟨x, H, I1, ru, ⟨rfl, fun ys hy => by rw [I.tuple_inj hy hq]; exact hx⟩, st', fun b hb => (hf b hb).1⟩⟩
  done := by
    intro X hP hw hK hc i pins s σ H E I hf st hg
    subst hP hw hK
    obtain ⟨xs, hq, hx⟩ := hg
    obtain ⟨its, rv, p, hz⟩ := I.tuple hq
    obtain ⟨f0, f1, f2, f3, f4, f5⟩ := hf it (by simp)
    have hl := rv.length
    exact wpAny_pyNext_tuple_end (I.ok.hd hc) st (show s.heap.IsTuple a its.toArray from p) (by simp; lia) fun h' eb => ⟨rfl, I.turned (t' := s.toks) (fun b o hb e => eb b o hb e) f0 f1 f3 f4 f5⟩
  self := fun _ _ _ _ _ st h => wpAny_pyIter_tupleiter st h
theorem turn_range {P : Program} {w : World} {K : PySem.W.Frag} {tg : Expr} (it : Addr) (lo : Int) (n : Nat) : Turn P w K tg (Itr lo n) [it] it (fun i h => IsRangeIter h it (lo + (i : Nat) * 1) ((n : Int) - (i : Nat)) 1) where
  mem := by simp
  obj := fun i h st b hb => by
    have e : b = it := by simpa using hb
    subst e
    exact ⟨_, st, fun v z => by
      have z' : Data.fields _ = Data.cell v := z
      cases z'⟩
  keep := fun i h h' st k => k it (by simp) _ st
  item := by
    intro X hP hw hK hc i pins s σ H E I hf st hg
    subst hP hw hK
    obtain ⟨f0, f1, f2, f3, f4, f5⟩ := hf it (by simp)
    have W := Walks.range (prog := X.prog) (w := X.w) (I.ok.hd hc) it lo 1 n
    refine W.item i s _ _ hg st fun v h' tk hv st' kk => ?_
    obtain ⟨t, rfl⟩ := hv
    have I1 : Inv X pins σ H { s with heap := h', toks := tk } := I.turned (fun b o hb e => kk b o (by simpa using hb) e) f0 f1 f3 f4 f5
    refine ⟨_, rfl, go_of (s := { s with heap := h', toks := tk }) (n := "range_iterator") st' rfl rfl (by decide) ⟨.int (lo + i), H, I1, ⟨t, ?_⟩, ⟨rfl, rfl⟩, st', fun b hb => (hf b hb).1⟩⟩
    rw [Int.mul_one]
  done := by
    intro X hP hw hK hc i pins s σ H E I hf st hg
    subst hP hw hK
    obtain ⟨f0, f1, f2, f3, f4, f5⟩ := hf it (by simp)
    exact wpAny_pyNext_range_end (I.ok.hd hc) st (by have : n ≤ i := hg; lia) fun h' eb => ⟨rfl, I.turned (t' := s.toks) (fun b o hb e => eb b o hb e) f0 f1 f3 f4 f5⟩
  self := fun _ _ _ _ _ st h => wpAny_pyIter_rangeiter st h
section
variable {X : Cx} {tg : Expr}
noncomputable def iList (K : PySem.W.Frag) (tl : TE) : TI := fun σ H R => tl σ H fun x H1 => ∃ a, x = .ref a ∧ (∃ xs, SqL K H1 a xs) ∧ R (Itl K a) H1
noncomputable def iTup (K : PySem.W.Frag) (tl : TE) : TI := fun σ H R => tl σ H fun x H1 => ∃ a, x = .ref a ∧ (∃ xs, SqT K H1 a xs) ∧ R (Itt K a) H1
theorem pi_list {l : Expr} {tl : TE} (hl : PE X l tl) : PI X tg l (iList X.K tl) := by
  intro pins s σ H R I h
  refine thn (hl pins s σ H _ I h) fun v s1 ⟨x, H1, I1, r1, q1⟩ => ?_
  obtain ⟨a, e, ⟨xs, hq⟩, q⟩ := q1
  subst e
  cases r1
  obtain ⟨its, rv, p, hz⟩ := I1.list hq
  refine wpAny_pyIter_list p.isList ?_
  refine ⟨s1.heap.objs.size, [s1.heap.objs.size], _, _, H1, rfl, I1.kept (t' := s1.toks) fun b o e => Heap.get?_push_of_some _ e, turn_list a _, ⟨_, Heap.get?_push_size _ rfl, rfl, rfl⟩, fun b hb => ?_, q⟩
  have e : b = s1.heap.objs.size := by simpa using hb
  subst e
  exact I1.fpOk (Nat.le_refl _) (I1.hok.fresh (Nat.le_refl _))
theorem pi_tup {l : Expr} {tl : TE} (hl : PE X l tl) : PI X tg l (iTup X.K tl) := by
  intro pins s σ H R I h
  refine thn (hl pins s σ H _ I h) fun v s1 ⟨x, H1, I1, r1, q1⟩ => ?_
  obtain ⟨a, e, ⟨xs, hq⟩, q⟩ := q1
  subst e
  cases r1
  obtain ⟨its, rv, p, hz⟩ := I1.tuple hq
  refine wpAny_pyIter_tuple (show s1.heap.IsTuple a its.toArray from p) ?_
  refine ⟨s1.heap.objs.size, [s1.heap.objs.size], _, _, H1, rfl, I1.kept (t' := s1.toks) fun b o e => Heap.get?_push_of_some _ e, turn_tuple a _, ⟨_, Heap.get?_push_size _ rfl, rfl, rfl⟩, fun b hb => ?_, q⟩
  have e : b = s1.heap.objs.size := by simpa using hb
  subst e
  exact I1.fpOk (Nat.le_refl _) (I1.hok.fresh (Nat.le_refl _))
theorem range_it {pins : List (Addr × Obj)} {σ : St} {H : Hp} {s : Shared} {R : It → Hp → Prop} {E : Value → Shared → Prop} {lo hi : Int} {t u v : Tok} {tk : Nat} (I : Inv X pins σ H s) (h1 : -(2 ^ 62) ≤ lo) (h2 : lo < 2 ^ 62) (h3 : -(2 ^ 62) ≤ hi) (h4 : hi < 2 ^ 62)
    (q : R (Itr lo (hi - lo).toNat) H) : wpAny (model X.prog X.w) X.A (pyIter (.ref s.heap.objs.size)) (PIE X pins σ tg R) E { s with heap := s.heap.push { cls := .type "range", data := .fields #[.int lo t, .int hi u, .int 1 v] }, toks := tk } := by
  refine wpAny_pyIter_range (IsRange.new ..) (small_one h1 h2 h3 h4) ?_
  have I1 : Inv X pins σ H { s with heap := s.heap.push { cls := .type "range", data := .fields #[.int lo t, .int hi u, .int 1 v] }, toks := tk } := I.kept fun b o e => Heap.get?_push_of_some _ e
  refine ⟨(s.heap.push { cls := .type "range", data := .fields #[.int lo t, .int hi u, .int 1 v] }).objs.size, [(s.heap.push { cls := .type "range", data := .fields #[.int lo t, .int hi u, .int 1 v] }).objs.size], _, _, H, rfl,
    I1.kept (t' := tk) fun b o e => Heap.get?_push_of_some _ e, turn_range _ lo (hi - lo).toNat, ?_, fun b hb => ?_, q⟩
  · have e1 : lo + ((0 : Nat) : Int) * 1 = lo := by simp
    have e2 : (((hi - lo).toNat : Nat) : Int) - ((0 : Nat) : Int) = Builtin.Range.rangeSize lo hi 1 := by rw [rangeSize_one]; split <;> lia
    show IsRangeIter _ _ (lo + ((0 : Nat) : Int) * 1) ((((hi - lo).toNat : Nat) : Int) - ((0 : Nat) : Int)) 1
    rw [e1, e2]
    exact Heap.get?_push_size _ rfl
  · have e : b = (s.heap.push { cls := .type "range", data := .fields #[.int lo t, .int hi u, .int 1 v] }).objs.size := by simpa using hb
    subst e
    exact I1.fpOk (Nat.le_refl _) (I1.hok.fresh (Nat.le_refl _))
noncomputable def iRng1 (ta : TA) : TI := fun σ H R => ta σ H fun vs H1 => ∃ j : Int, vs = [.int j] ∧ -(2 ^ 62) ≤ j ∧ j < 2 ^ 62 ∧ R (Itr 0 j.toNat) H1
noncomputable def iRng2 (ta : TA) : TI := fun σ H R => ta σ H fun vs H1 => ∃ i j : Int, vs = [.int i, .int j] ∧ (-(2 ^ 62) ≤ i ∧ i < 2 ^ 62 ∧ -(2 ^ 62) ≤ j ∧ j < 2 ^ 62) ∧ R (Itr i (j - i).toNat) H1
theorem pi_range1 {a : Expr} {ta : TA} {p pos : Pos} (hg : Gl X "range") (hm : X.mg "range" = none) (ha : PA X [a] ta) (hs : starEach [a] X.env = [(false, eval a X.env)] := by rfl) : PI X tg (.Call (.Name "range" p) [a] [] pos) (iRng1 ta) := by
  intro pins s σ H R I h
  refine Call_ (ld_blt I hg hm boot_range (PyProof.Rows.callWith_type1 (thn (ha pos pins s σ H _ I h) fun us s1 ⟨vs, H1, I1, r1, q1⟩ => ?_) hs rfl))
  obtain ⟨j, e, q1, q2, q⟩ := q1
  subst e
  cases r1 with
  | cons r rr =>
    cases rr
    obtain ⟨t, rfl⟩ := r
    exact call_range_1 (range_it I1 (by lia) (by lia) q1 q2 (by simpa using q))
theorem pi_range2 {a b : Expr} {ta : TA} {p pos : Pos} (hg : Gl X "range") (hm : X.mg "range" = none) (ha : PA X [a, b] ta) (hs : starEach [a, b] X.env = [(false, eval a X.env), (false, eval b X.env)] := by rfl) (hs2 : starEach [b] X.env = [(false, eval b X.env)] := by rfl) :
    PI X tg (.Call (.Name "range" p) [a, b] [] pos) (iRng2 ta) := by
  intro pins s σ H R I h
  refine Call_ (ld_blt I hg hm boot_range (PyProof.Rows.callWith_type1 (thn (ha pos pins s σ H _ I h) fun us s1 ⟨vs, H1, I1, r1, q1⟩ => ?_) (by rw [hs, hs2]) (by rw [hs2]; rfl)))
  obtain ⟨i, j, e, ⟨q1, q2, q3, q4⟩, q⟩ := q1
  subst e
  cases r1 with
  | cons r rr =>
    cases rr with
    | cons r' rr =>
      cases rr
      obtain ⟨t, rfl⟩ := r
      obtain ⟨t', rfl⟩ := r'
      exact call_range_2 (range_it I1 q1 q2 q3 q4 q)
noncomputable def tFor (wi : TI) (g : TG) (tb : TS) : TS := fun D σ H => wi σ H fun J H1 => ∃ W : Nat → Nat → St → Hp → Prop, (∃ m, W 0 m σ H1) ∧ ∀ i m σ H, W i m σ H →
  (J.stop i H ∧ D.nx σ H) ∨ (J.go i H ∧ ∃ N : St → Hp → Prop, (∀ σ' H', N σ' H' → ∃ m', m' < m ∧ W (i + 1) m' σ' H') ∧ ∀ x H', J.yld i H x H' → g x σ H' fun σ2 H2 => tb { D with nx := N, ct := N, bk := D.nx } σ2 H2)
noncomputable def pinsAt (fp : List Addr) (h : Heap) : List (Addr × Obj) := fp.filterMap fun b => (h.get? b).map fun o => (b, o)
theorem mem_pinsAt {fp : List Addr} {h : Heap} {b : Addr} {o : Obj} (hb : b ∈ fp) (e : h.get? b = some o) : (b, o) ∈ pinsAt fp h := List.mem_filterMap.mpr ⟨b, hb, by rw [e]; rfl⟩
theorem of_pinsAt {fp : List Addr} {h : Heap} {p : Addr × Obj} (hp : p ∈ pinsAt fp h) : p.1 ∈ fp ∧ h.get? p.1 = some p.2 := by
  obtain ⟨b, hb, e⟩ := List.mem_filterMap.mp hp
  cases q : h.get? b with
  | none => rw [q] at e; cases e
  | some o =>
    rw [q] at e
    have e' : (b, o) = p := Option.some.inj e
    subst e'
    exact ⟨hb, q⟩
theorem Inv.pinned {pins : List (Addr × Obj)} {σ : St} {H : Hp} {s : Shared} {fp : List Addr} (I : Inv X pins σ H s) (hf : ∀ b ∈ fp, FpOk X pins H b) (ho : ∀ b ∈ fp, ∃ o, s.heap.get? b = some o ∧ ∀ v, o.data ≠ .cell v) : Inv X (pins ++ pinsAt fp s.heap) σ H s :=
  I.pins_of fun p hp => (List.mem_append.mp hp).elim (fun z => I.pin p (List.mem_append_right _ z)) fun z => by
    obtain ⟨hb, e⟩ := of_pinsAt z
    obtain ⟨f0, f1, f2, _⟩ := hf p.1 hb
    obtain ⟨o, e', d⟩ := ho p.1 hb
    rw [e] at e'; cases e'
    exact ⟨e, f0, f1, f2, d⟩
theorem Inv.unpinned {pins pl : List (Addr × Obj)} {σ : St} {H : Hp} {s : Shared} (I : Inv X (pins ++ pl) σ H s) : Inv X pins σ H s := I.pins_of fun p hp => I.pin p (List.mem_append_right _ (List.mem_append_left _ hp))
theorem ps_for {iter : Expr} {body : List Stmt} {wi : TI} {g : TG} {tb : TS} {pos : Pos} (hp : PassesOwn (model X.prog X.w) X.A X.env X.xe) (hc : X.calm = true) (hi : PI X tg iter wi) (hg : PG X tg g) (hb : PSs X body tb)
    (hs : ∀ x, foldedSetIterable iter X.env x = pure x := by intro _; rfl) : PS X (.For tg iter body [] pos) (tFor wi g tb) := by
  intro pins s σ H D I h
  refine wpAny_For (thn (hi pins s σ H _ I h) fun v s1 h1 => thn h1 fun itv s2 h2 => ?_) hs
  obtain ⟨it, fp, tn, J, H2, e, I2, T, st2, f2, W, ⟨m0, w0⟩, turn⟩ := h2
  subst e
  have stat : ∀ {H' : Hp}, (∀ b ∈ fp, H' b = none) → ∀ b ∈ fp, FpOk X pins H' b := fun hn b hb => ⟨hn b hb, (f2 b hb).2⟩
  refine codeAny_forLoop_any (fun n s' => ∃ i σ' H', Inv X pins σ' H' s' ∧ tn i s'.heap ∧ (∀ b ∈ fp, H' b = none) ∧ W i n σ' H') ?_ m0 ⟨0, σ, H2, I2, st2, fun b hb => (f2 b hb).1, w0⟩
  rintro n s3 ⟨i, σ3, H3, I3, st3, fr3, w3⟩
  rcases turn i n σ3 H3 w3 with ⟨stop, qn⟩ | ⟨go, N, hN, step⟩
  · refine wpAny_passesOwn hp (thn (T.done X rfl rfl rfl hc i pins s3 σ3 H3 X.xe I3 (stat fr3) st3 stop) fun r s4 ⟨hr, I4⟩ => ?_)
    subst hr
    exact wpAny_execs_nil ⟨σ3, H3, I4, qn⟩
  · refine wpAny_passesOwn hp (thn (T.item X rfl rfl rfl hc i pins s3 σ3 H3 X.xe I3 (stat fr3) st3 go) fun r s4 ⟨u, hr, h4⟩ => ?_)
    subst hr
    refine wpAny_passesOwn hp (thn h4 fun _ s5 ⟨x, H5, I5, r5, y5, st5, fr5⟩ => ?_)
    have I5' := I5.pinned (stat fr5) (T.obj _ _ st5)
    refine wpAny_passesOwn hp (thn (hg _ s5 σ3 H5 x u _ I5' r5 (step x H5 y5)) fun _ s6 ⟨σ6, H6, I6, q6⟩ => ?_)
    refine wpAny_passesOwn hp (thn (hb _ s6 σ6 H6 _ I6 q6) fun f s7 q7 => ?_)
    have again : ∀ {σ7 : St} {H7 : Hp}, Inv X (pins ++ pinsAt fp s5.heap) σ7 H7 s7 → N σ7 H7 → ∃ m, m < n ∧ ∃ i σ' H', Inv X pins σ' H' s7 ∧ tn i s7.heap ∧ (∀ b ∈ fp, H' b = none) ∧ W i m σ' H' := fun {σ7 H7} I7 n7 => by
      obtain ⟨m', hm, w7⟩ := hN σ7 H7 n7
      refine ⟨m', hm, i + 1, σ7, H7, I7.unpinned, T.keep _ _ _ st5 fun b hb o e => (I7.pin (b, o) (List.mem_append_right _ (List.mem_append_right _ (mem_pinsAt hb e)))).1, fun b hb => ?_, w7⟩
      obtain ⟨o, e, d⟩ := T.obj _ _ st5 b hb
      exact (I7.pin (b, o) (List.mem_append_right _ (List.mem_append_right _ (mem_pinsAt hb e)))).2.1
    cases f with
    | next => obtain ⟨σ7, H7, I7, n7⟩ := q7; exact again I7 n7
    | cont => obtain ⟨σ7, H7, I7, n7⟩ := q7; exact again I7 n7
    | brk => obtain ⟨σ7, H7, I7, q7⟩ := q7; exact ⟨σ7, H7, I7.unpinned, q7⟩
    | ret v => obtain ⟨x7, σ7, H7, I7, r7, q7⟩ := q7; exact ⟨x7, σ7, H7, I7.unpinned, r7, q7⟩
end
theorem for_list {K : PySem.W.Frag} {a : Addr} {xs : List V} {g : TG} {tb : TS} {D : Ends} {σ : St} {H : Hp} (Pv : Nat → St → Hp → Prop) (h0 : Pv 0 σ H) (hl : ∀ i σ H, i ≤ xs.length → Pv i σ H → SqL K H a xs)
    (hs : ∀ i x σ H, xs[i]? = some x → Pv i σ H → g x σ H fun σ2 H2 => tb { D with nx := Pv (i + 1), ct := Pv (i + 1), bk := D.nx } σ2 H2) (hd : ∀ σ H, Pv xs.length σ H → D.nx σ H) :
    ∃ W : Nat → Nat → St → Hp → Prop, (∃ m, W 0 m σ H) ∧ ∀ i m σ H, W i m σ H →
      ((Itl K a).stop i H ∧ D.nx σ H) ∨ ((Itl K a).go i H ∧ ∃ N : St → Hp → Prop, (∀ σ' H', N σ' H' → ∃ m', m' < m ∧ W (i + 1) m' σ' H') ∧ ∀ x H', (Itl K a).yld i H x H' → g x σ H' fun σ2 H2 => tb { D with nx := N, ct := N, bk := D.nx } σ2 H2) := by
  refine ⟨fun i m σ H => m = xs.length - i ∧ i ≤ xs.length ∧ Pv i σ H, ⟨xs.length, by simp, Nat.zero_le _, h0⟩, ?_⟩
  rintro i m σ H ⟨rfl, hi, p⟩
  have q := hl i σ H hi p
  by_cases hlt : i < xs.length
  · refine .inr ⟨⟨xs, xs[i], q, by simp [hlt]⟩, Pv (i + 1), fun σ' H' p' => ⟨xs.length - (i + 1), by lia, rfl, hlt, p'⟩, fun x H' y => ?_⟩
    obtain ⟨e, y⟩ := y
    subst e
    exact hs i x σ _ (y xs q) p
  · have e : i = xs.length := by lia
    subst e
    exact .inl ⟨⟨xs, q, Nat.le_refl _⟩, hd σ H p⟩
theorem for_tup {K : PySem.W.Frag} {a : Addr} {xs : List V} {g : TG} {tb : TS} {D : Ends} {σ : St} {H : Hp} (Pv : Nat → St → Hp → Prop) (h0 : Pv 0 σ H) (hl : ∀ i σ H, i ≤ xs.length → Pv i σ H → SqT K H a xs)
    (hs : ∀ i x σ H, xs[i]? = some x → Pv i σ H → g x σ H fun σ2 H2 => tb { D with nx := Pv (i + 1), ct := Pv (i + 1), bk := D.nx } σ2 H2) (hd : ∀ σ H, Pv xs.length σ H → D.nx σ H) :
    ∃ W : Nat → Nat → St → Hp → Prop, (∃ m, W 0 m σ H) ∧ ∀ i m σ H, W i m σ H →
      ((Itt K a).stop i H ∧ D.nx σ H) ∨ ((Itt K a).go i H ∧ ∃ N : St → Hp → Prop, (∀ σ' H', N σ' H' → ∃ m', m' < m ∧ W (i + 1) m' σ' H') ∧ ∀ x H', (Itt K a).yld i H x H' → g x σ H' fun σ2 H2 => tb { D with nx := N, ct := N, bk := D.nx } σ2 H2) := by
  refine ⟨fun i m σ H => m = xs.length - i ∧ i ≤ xs.length ∧ Pv i σ H, ⟨xs.length, by simp, Nat.zero_le _, h0⟩, ?_⟩
  rintro i m σ H ⟨rfl, hi, p⟩
  have q := hl i σ H hi p
  by_cases hlt : i < xs.length
  · refine .inr ⟨⟨xs, xs[i], q, by simp [hlt]⟩, Pv (i + 1), fun σ' H' p' => ⟨xs.length - (i + 1), by lia, rfl, hlt, p'⟩, fun x H' y => ?_⟩
    obtain ⟨e, y⟩ := y
    subst e
    exact hs i x σ _ (y xs q) p
  · have e : i = xs.length := by lia
    subst e
    exact .inl ⟨⟨xs, q, Nat.le_refl _⟩, hd σ H p⟩
theorem for_range {lo : Int} {n : Nat} {g : TG} {tb : TS} {D : Ends} {σ : St} {H : Hp} (Pv : Nat → St → Hp → Prop) (h0 : Pv 0 σ H)
    (hs : ∀ i σ H, i < n → Pv i σ H → g (.int (lo + i)) σ H fun σ2 H2 => tb { D with nx := Pv (i + 1), ct := Pv (i + 1), bk := D.nx } σ2 H2) (hd : ∀ σ H, Pv n σ H → D.nx σ H) :
    ∃ W : Nat → Nat → St → Hp → Prop, (∃ m, W 0 m σ H) ∧ ∀ i m σ H, W i m σ H →
      ((Itr lo n).stop i H ∧ D.nx σ H) ∨ ((Itr lo n).go i H ∧ ∃ N : St → Hp → Prop, (∀ σ' H', N σ' H' → ∃ m', m' < m ∧ W (i + 1) m' σ' H') ∧ ∀ x H', (Itr lo n).yld i H x H' → g x σ H' fun σ2 H2 => tb { D with nx := N, ct := N, bk := D.nx } σ2 H2) := by
  refine ⟨fun i m σ H => m = n - i ∧ i ≤ n ∧ Pv i σ H, ⟨n, by simp, Nat.zero_le _, h0⟩, ?_⟩
  rintro i m σ H ⟨rfl, hi, p⟩
  by_cases hlt : i < n
  · refine .inr ⟨hlt, Pv (i + 1), fun σ' H' p' => ⟨n - (i + 1), by lia, rfl, hlt, p'⟩, fun x H' y => ?_⟩
    obtain ⟨e, y⟩ := y
    subst e y
    exact hs i σ _ hlt p
  · have e : i = n := by lia
    subst e
    exact .inl ⟨Nat.le_refl _, hd σ H p⟩
noncomputable abbrev R2 := V → V → Hp → VK → Prop
noncomputable def OpR (X : Cx) (f : Value → Value → Sem Value) (r : R2) : Prop :=
  ∀ (pins : List (Addr × Obj)) (s : Shared) (σ : St) (H : Hp) (x y : V) (v u : Value) (Q : VK), Inv X pins σ H s → RelV x v → RelV y u → r x y H Q →
    wpAny (model X.prog X.w) X.A (f v u) (EP X pins σ Q) X.xe s
noncomputable def UnR (X : Cx) (f : Value → Sem Value) (r : V → Hp → VK → Prop) : Prop :=
  ∀ (pins : List (Addr × Obj)) (s : Shared) (σ : St) (H : Hp) (x : V) (v : Value) (Q : VK), Inv X pins σ H s → RelV x v → r x H Q →
    wpAny (model X.prog X.w) X.A (f v) (EP X pins σ Q) X.xe s
noncomputable def CallR (X : Cx) (f : Value) (r : List V → Hp → VK → Prop) : Prop :=
  ∀ (pins : List (Addr × Obj)) (s : Shared) (σ : St) (H : Hp) (xs : List V) (us : List Value) (Q : VK), Inv X pins σ H s → Vals xs us → r xs H Q →
    wpAny (model X.prog X.w) X.A (call f us) (EP X pins σ Q) X.xe s
noncomputable def TruR (X : Cx) (r : V → Hp → (Bool → Hp → Prop) → Prop) : Prop :=
  ∀ (pins : List (Addr × Obj)) (s : Shared) (σ : St) (H : Hp) (x : V) (v : Value) (Q : Bool → Hp → Prop), Inv X pins σ H s → RelV x v → r x H Q →
    wpAny (model X.prog X.w) X.A (truthy v) (TP X pins σ Q) X.xe s
noncomputable def tOp (r : R2) (ta tb : TE) : TE := fun σ H Q => ta σ H fun x H1 => tb σ H1 fun y H2 => r x y H2 Q
noncomputable def tUn (r : V → Hp → VK → Prop) (ta : TE) : TE := fun σ H Q => ta σ H fun x H1 => r x H1 Q
inductive Ask_rI (C : Int → Int → Prop) (g : Int → Int → V) (x : V) (y : V) (H : Hp) (Q : VK) : Prop where
  | mk (i j : _) (q0_ : x = .int i) (q1_ : y = .int j) (q2_ : C i j) (q3_ : Q (g i j) H) : Ask_rI C g x y H Q
noncomputable def rI (C : Int → Int → Prop) (g : Int → Int → V) : R2 := fun x y H Q => Ask_rI C g x y H Q
inductive Ask_rI0 (g : Int → Int → V) (x : V) (y : V) (H : Hp) (Q : VK) : Prop where
  | mk (i j : _) (q0_ : x = .int i) (q1_ : y = .int j) (q2_ : Q (g i j) H) : Ask_rI0 g x y H Q
noncomputable def rI0 (g : Int → Int → V) : R2 := fun x y H Q => Ask_rI0 g x y H Q
noncomputable def rU (g : Int → V) : V → Hp → VK → Prop := fun x H Q => ∃ i, x = .int i ∧ Q (g i) H
section
variable {X : Cx} {a b c : Expr} {ta tb tc : TE} {pos : Pos}
theorem binT (ha : PE X a ta) (hb : PE X b tb) {pins : List (Addr × Obj)} {s : Shared} {σ : St} {H : Hp} {R : V → V → Hp → Prop} (I : Inv X pins σ H s)
    (h : ta σ H fun x H1 => tb σ H1 fun y H2 => R x y H2) {Q : Value → Shared → Prop} {f : Value → Value → Sem Value}
    (hf : ∀ v u s2 x y H2, Inv X pins σ H2 s2 → RelV x v → RelV y u → R x y H2 → wpAny (model X.prog X.w) X.A (f v u) Q X.xe s2) :
    wpAny (model X.prog X.w) X.A (eval a X.env) (fun v s₁ => wpAny (model X.prog X.w) X.A (eval b X.env) (fun u s₂ => wpAny (model X.prog X.w) X.A (f v u) Q X.xe s₂) X.xe s₁) X.xe s := by
  refine thn (ha pins s σ H _ I h) fun v s1 ⟨x, H1, I1, r1, q1⟩ => ?_
  refine thn (hb pins s1 σ H1 _ I1 q1) fun u s2 ⟨y, H2, I2, r2, q2⟩ => ?_
  exact hf v u s2 x y H2 I2 r1 r2 q2
theorem pe_op {op : Operator} {r : R2} (ho : OpR X (binaryOp op) r) (ha : PE X a ta) (hb : PE X b tb) : PE X (.BinOp a op b pos) (tOp r ta tb) := by
  intro pins s σ H Q I h
  exact wpAny_BinOp (binT ha hb I h fun v u s2 x y H2 I2 rx ry q => ho pins s2 σ H2 x y v u Q I2 rx ry q)
theorem pe_un {op : UnaryOp} {r : V → Hp → VK → Prop} (ho : UnR X (unaryOp op) r) (ha : PE X a ta) : PE X (.UnaryOp op a pos) (tUn r ta) := by
  intro pins s σ H Q I h
  exact UnaryOp_ (thn (ha pins s σ H _ I h) fun v s1 ⟨x, H1, I1, r1, q1⟩ => ho pins s1 σ H1 x v Q I1 r1 q1)
theorem opI {f : Value → Value → Sem Value} {C : Int → Int → Prop} {g : Int → Int → Int}
    (rule : ∀ (i j : Int) (t u : Tok) (s : Shared) (Q : Value → Shared → Prop) (E : Value → Shared → Prop), C i j → Q (.int (g i j) s.toks) { s with toks := s.toks + 1 } → wpAny (model X.prog X.w) X.A (f (.int i t) (.int j u)) Q E s) :
    OpR X f (rI C fun i j => .int (g i j)) := by
  intro pins s σ H x y v u Q I rx ry h
  obtain ⟨i, j, rfl, rfl, hc, q⟩ := h
  obtain ⟨t, rfl⟩ := rx
  obtain ⟨t', rfl⟩ := ry
  exact rule i j t t' s _ _ hc ⟨.int (g i j), H, I.tok _, ⟨_, rfl⟩, q⟩
theorem opI0 {f : Value → Value → Sem Value} {g : Int → Int → Int}
    (rule : ∀ (i j : Int) (t u : Tok) (s : Shared) (Q : Value → Shared → Prop) (E : Value → Shared → Prop), Q (.int (g i j) s.toks) { s with toks := s.toks + 1 } → wpAny (model X.prog X.w) X.A (f (.int i t) (.int j u)) Q E s) :
    OpR X f (rI0 fun i j => .int (g i j)) := by
  intro pins s σ H x y v u Q I rx ry h
  obtain ⟨i, j, rfl, rfl, q⟩ := h
  obtain ⟨t, rfl⟩ := rx
  obtain ⟨t', rfl⟩ := ry
  exact rule i j t t' s _ _ ⟨.int (g i j), H, I.tok _, ⟨_, rfl⟩, q⟩
theorem opB0 {f : Value → Value → Sem Value} {g : Int → Int → Bool}
    (rule : ∀ (i j : Int) (t u : Tok) (s : Shared) (Q : Value → Shared → Prop) (E : Value → Shared → Prop), Q (.bool (g i j)) s → wpAny (model X.prog X.w) X.A (f (.int i t) (.int j u)) Q E s) :
    OpR X f (rI0 fun i j => .bl (g i j)) := by
  intro pins s σ H x y v u Q I rx ry h
  obtain ⟨i, j, rfl, rfl, q⟩ := h
  obtain ⟨t, rfl⟩ := rx
  obtain ⟨t', rfl⟩ := ry
  exact rule i j t t' s _ _ ⟨.bl (g i j), H, I, rfl, q⟩
noncomputable def CDiv (i j : Int) : Prop := 0 < j ∧ j < 1073741824
noncomputable def CMul (i j : Int) : Prop := (-(2 ^ 64) < i ∧ i < 2 ^ 64) ∨ (-(2 ^ 64) < j ∧ j < 2 ^ 64)
theorem CMul.ok {i j : Int} (h : CMul i j) : IntMulOk i j := by
  rcases h with ⟨h1, h2⟩ | ⟨h1, h2⟩
  · exact .of_left (intBits_le_64 h1 h2)
  · exact .of_right (intBits_le_64 h1 h2)
theorem op_add : OpR X (binaryOp .Add) (rI0 fun i j => .int (i + j)) := opI0 fun _ _ _ _ _ _ _ q => add_int q
theorem op_sub : OpR X (binaryOp .Sub) (rI0 fun i j => .int (i - j)) := opI0 fun _ _ _ _ _ _ _ q => sub_int q
theorem op_mul : OpR X (binaryOp .Mult) (rI CMul fun i j => .int (i * j)) := opI fun _ _ _ _ _ _ _ hc q => mul_int q hc.ok
theorem op_fdiv : OpR X (binaryOp .FloorDiv) (rI CDiv fun i j => .int (i / j)) := opI fun i j _ _ _ _ _ hc q => by
  have h1 : (0 : Int) < j := hc.1
  have h2 : j < 1073741824 := hc.2
  exact floordiv_int (by lia) (by rw [Int.fdiv_eq_ediv_of_nonneg i (by lia)]; exact q) (.inl (PyProof.noPylong_small (by lia)))
theorem op_mod : OpR X (binaryOp .Mod) (rI (fun _ j => 0 < j) fun i j => .int (i % j)) := opI fun i j _ _ _ _ _ hc q => by
  have h1 : (0 : Int) < j := hc
  exact mod_int' (by lia) (by rw [Int.fmod_eq_emod_of_nonneg i (by lia)]; exact q)
theorem unI {f : Value → Sem Value} {g : Int → Int}
    (rule : ∀ (i : Int) (t : Tok) (s : Shared) (Q : Value → Shared → Prop) (E : Value → Shared → Prop), Q (.int (g i) s.toks) { s with toks := s.toks + 1 } → wpAny (model X.prog X.w) X.A (f (.int i t)) Q E s) :
    UnR X f (rU fun i => .int (g i)) := by
  intro pins s σ H x v Q I rx h
  obtain ⟨i, rfl, q⟩ := h
  obtain ⟨t, rfl⟩ := rx
  exact rule i t s _ _ ⟨.int (g i), H, I.tok _, ⟨_, rfl⟩, q⟩
theorem un_neg : UnR X (unaryOp .USub) (rU fun i => .int (-i)) := unI fun _ _ _ _ _ q => neg_int q
end
noncomputable def scal : V → V → Bool
  | .non, .non => true | .non, .int _ => true | .int _, .non => true | .non, .bl _ => true | .bl _, .non => true | .non, .str _ => true | .str _, .non => true
  | .int _, .int _ => true | .bl _, .bl _ => true | .str _, .str _ => true | .byt _, .byt _ => true
  | .int _, .str _ => true | .str _, .int _ => true | .bl _, .str _ => true | .str _, .bl _ => true
  | _, _ => false
noncomputable def rEq : R2 := fun x y H Q => scal x y = true ∧ Q (.bl (decide (x = y))) H
noncomputable def rNe : R2 := fun x y H Q => scal x y = true ∧ Q (.bl (!decide (x = y))) H
theorem dec_int {i j : Int} : decide (V.int i = V.int j) = (i == j) := by
  rw [Bool.eq_iff_iff]
  simp
theorem dec_bl {i j : Bool} : decide (V.bl i = V.bl j) = (i == j) := by
  rw [Bool.eq_iff_iff]
  simp
theorem dec_str {i j : Str} : decide (V.str i = V.str j) = (i == j) := by
  rw [Bool.eq_iff_iff]
  simp
theorem dec_byt {i j : Array UInt8} : decide (V.byt i = V.byt j) = (i.toList == j.toList) := by
  rw [Bool.eq_iff_iff]
  cases i
  cases j
  simp
section
variable {X : Cx} {a b c : Expr} {ta tb tc : TE} {pos : Pos}
theorem fin_bl {pins : List (Addr × Obj)} {σ : St} {H : Hp} {s : Shared} {Q : VK} {k k' : Bool} (I : Inv X pins σ H s) (q : Q (.bl k) H) (e : k = k') : EP X pins σ Q (.bool k') s := by
  subst e
  exact ⟨.bl k, H, I, rfl, q⟩
theorem op_eq : OpR X (compareOp .Eq) rEq := by
  intro pins s σ H x y v u Q I rx ry h
  obtain ⟨hs, q⟩ := h
  cases x with
  | non =>
    cases rx
    cases y with
    | non => cases ry; exact PySem.EqNone.eq_none_none (fin_bl I q (by simp))
    | bl j => cases ry; exact PySem.EqNone.eq_none_bool (fin_bl I q (by simp))
    | int j => obtain ⟨t', rfl⟩ := ry; exact PySem.EqNone.eq_none_int (fin_bl I q (by simp))
    | str j => obtain ⟨t', rfl⟩ := ry; exact PySem.EqNone.eq_none_str (fin_bl I q (by simp))
    | _ => exact absurd (show false = true from hs) Bool.false_ne_true
  | bl i =>
    cases rx
    cases y with
    | non => cases ry; exact PySem.EqNone.eq_bool_none (fin_bl I q (by simp))
    | bl j => cases ry; exact eq_bool (fin_bl I q dec_bl)
    | str j => obtain ⟨t', rfl⟩ := ry; exact PySem.EqMixed.eq_bool_str (fin_bl I q (by simp))
    | _ => exact absurd (show false = true from hs) Bool.false_ne_true
  | int i =>
    obtain ⟨t, rfl⟩ := rx
    cases y with
    | non => cases ry; exact PySem.EqNone.eq_int_none (fin_bl I q (by simp))
    | int j => obtain ⟨t', rfl⟩ := ry; exact eq_int (fin_bl I q dec_int)
    | str j => obtain ⟨t', rfl⟩ := ry; exact PySem.EqMixed.eq_int_str (fin_bl I q (by simp))
    | _ => exact absurd (show false = true from hs) Bool.false_ne_true
  | str i =>
    obtain ⟨t, rfl⟩ := rx
    cases y with
    | non => cases ry; exact PySem.EqNone.eq_str_none (fin_bl I q (by simp))
    | bl j => cases ry; exact PySem.EqMixed.eq_str_bool (fin_bl I q (by simp))
    | int j => obtain ⟨t', rfl⟩ := ry; exact PySem.EqMixed.eq_str_int (fin_bl I q (by simp))
    | str j => obtain ⟨t', rfl⟩ := ry; exact eq_str (fin_bl I q dec_str)
    | _ => exact absurd (show false = true from hs) Bool.false_ne_true
  | byt i =>
    obtain ⟨t, rfl⟩ := rx
    cases y with
    | byt j => obtain ⟨t', rfl⟩ := ry; exact PySem.W.eq_bytes (fin_bl I q dec_byt)
    | _ => exact absurd (show false = true from hs) Bool.false_ne_true
  | _ => cases y <;> exact absurd (show false = true from hs) Bool.false_ne_true
theorem op_ne : OpR X (compareOp .NotEq) rNe := by
  intro pins s σ H x y v u Q I rx ry h
  obtain ⟨hs, q⟩ := h
  cases x with
  | non =>
    cases rx
    cases y with
    | non => cases ry; exact PySem.EqNone.ne_none_none (fin_bl I q (by simp))
    | bl j => cases ry; exact PySem.EqNone.ne_none_bool (fin_bl I q (by simp))
    | int j => obtain ⟨t', rfl⟩ := ry; exact PySem.EqNone.ne_none_int (fin_bl I q (by simp))
    | str j => obtain ⟨t', rfl⟩ := ry; exact PySem.EqNone.ne_none_str (fin_bl I q (by simp))
    | _ => exact absurd (show false = true from hs) Bool.false_ne_true
  | bl i =>
    cases rx
    cases y with
    | non => cases ry; exact PySem.EqNone.ne_bool_none (fin_bl I q (by simp))
    | bl j => cases ry; exact ne_bool (fin_bl I q (congrArg not dec_bl))
    | str j => obtain ⟨t', rfl⟩ := ry; exact PySem.EqMixed.ne_bool_str (fin_bl I q (by simp))
    | _ => exact absurd (show false = true from hs) Bool.false_ne_true
  | int i =>
    obtain ⟨t, rfl⟩ := rx
    cases y with
    | non => cases ry; exact PySem.EqNone.ne_int_none (fin_bl I q (by simp))
    | int j => obtain ⟨t', rfl⟩ := ry; exact ne_int (fin_bl I q (congrArg not dec_int))
    | str j => obtain ⟨t', rfl⟩ := ry; exact PySem.EqMixed.ne_int_str (fin_bl I q (by simp))
    | _ => exact absurd (show false = true from hs) Bool.false_ne_true
  | str i =>
    obtain ⟨t, rfl⟩ := rx
    cases y with
    | non => cases ry; exact PySem.EqNone.ne_str_none (fin_bl I q (by simp))
    | bl j => cases ry; exact PySem.EqMixed.ne_str_bool (fin_bl I q (by simp))
    | int j => obtain ⟨t', rfl⟩ := ry; exact PySem.EqMixed.ne_str_int (fin_bl I q (by simp))
    | str j => obtain ⟨t', rfl⟩ := ry; exact ne_str (fin_bl I q (congrArg not dec_str))
    | _ => exact absurd (show false = true from hs) Bool.false_ne_true
  | byt i =>
    obtain ⟨t, rfl⟩ := rx
    cases y with
    | byt j => obtain ⟨t', rfl⟩ := ry; exact PySem.W.ne_bytes (fin_bl I q (congrArg not dec_byt))
    | _ => exact absurd (show false = true from hs) Bool.false_ne_true
  | _ => cases y <;> exact absurd (show false = true from hs) Bool.false_ne_true
theorem op_lt : OpR X (compareOp .Lt) (rI0 fun i j => .bl (decide (i < j))) := opB0 fun _ _ _ _ _ _ _ q => lt_int q
theorem op_gt : OpR X (compareOp .Gt) (rI0 fun i j => .bl (decide (j < i))) := opB0 fun _ _ _ _ _ _ _ q => gt_int q
theorem op_ge : OpR X (compareOp .GtE) (rI0 fun i j => .bl (decide (j ≤ i))) := opB0 fun _ _ _ _ _ _ _ q => ge_int q
theorem nomark (b : Expr) {op : CmpOp} (h : op ≠ .In := by decide) (h2 : op ≠ .NotIn := by decide) : behindInMarks op b = false := by
  have e1 : (op == CmpOp.In) = false := by cases op <;> first | rfl | exact absurd rfl h
  have e2 : (op == CmpOp.NotIn) = false := by cases op <;> first | rfl | exact absurd rfl h2
  cases b <;> simp [behindInMarks, e1, e2]
theorem pe_cmpR {op : CmpOp} {r : R2} (ho : OpR X (compareOp op) r) (ha : PE X a ta) (hb : PE X b tb) (hm : behindInMarks op b = false) : PE X (.Compare a [op] [b] pos) (tOp r ta tb) := by
  intro pins s σ H Q I h
  exact wpAny_Compare1 (binT ha hb I h fun v u s2 x y H2 I2 rx ry q => ho pins s2 σ H2 x y v u Q I2 rx ry q) hm
inductive Ask_tTest (Q : Bool → Hp → Prop) (x : V) (H : Hp) : Prop where
  | mk (k : Bool) (q0_ : x = .bl k) (q1_ : Q k H) : Ask_tTest Q x H
noncomputable def tTest (t : TE) : TT := fun σ H Q => t σ H fun x H' => Ask_tTest Q x H'
theorem pt_cmpR {op : CmpOp} {r : R2} (ho : OpR X (compareOp op) r) (ha : PE X a ta) (hb : PE X b tb) (hm : behindInMarks op b = false) : PT X (.Compare a [op] [b] pos) (tTest (tOp r ta tb)) := by
  intro pins s σ H Q I h
  refine wpAny_isTrue_Compare1 (thn (ha pins s σ H _ I h) fun v s1 ⟨x, H1, I1, r1, q1⟩ => thn (hb pins s1 σ H1 _ I1 q1) fun u s2 ⟨y, H2, I2, r2, q2⟩ =>
    thn (ho pins s2 σ H2 x y v u _ I2 r1 r2 q2) fun c s3 ⟨z, H3, I3, r3, k, e, q3⟩ => ?_) hm
  subst e
  cases r3
  exact wpAny_truthy_bool ⟨H3, I3, q3⟩
noncomputable def TruV (K : PySem.W.Frag) (x : V) (H : Hp) (k : Bool) : Prop :=
  match x with
  | .non => k = false
  | .bl b => k = b
  | .int i => k = (i != 0)
  | .str y => y.length ≤ sizeLine ∧ k = ((y.length : Int) != 0)
  | .byt y => y.size ≤ sizeLine ∧ k = ((y.size : Int) != 0)
  | .ref p => (∃ xs, SqL K H p xs ∧ k = !xs.isEmpty) ∨ (∃ xs, SqT K H p xs ∧ k = !xs.isEmpty) ∨ ∃ kvs, H p = some (.dK kvs) ∧ k = !kvs.isEmpty
  | _ => False
theorem isEmpty_kv {κ : Type} {kvs : List (κ × V)} {vs : List (κ × Value)} (r : KV kvs vs) : (!vs.isEmpty) = !kvs.isEmpty := by
  cases r <;> rfl
theorem isEmpty_of {xs : List V} {its : List Value} (r : Vals xs its) : (!its.toArray.isEmpty) = !xs.isEmpty := by
  cases r <;> simp
theorem line63 : (sizeLine : Nat) < 2 ^ 63 := by rw [sizeLine_eq]; decide
theorem tru_ok : TruR X (fun x H Q => ∃ k, TruV X.K x H k ∧ Q k H) := by
  intro pins s σ H x v Q I rx h
  obtain ⟨k, e, q⟩ := h
  have hl := line63
  have hs : sizeLine = 16777216 := sizeLine_eq
  cases x with
  | non =>
    cases rx
    have e' : k = false := e
    subst e'
    exact truthy_none ⟨H, I, q⟩
  | bl b =>
    cases rx
    have e' : k = b := e
    subst e'
    exact wpAny_truthy_bool ⟨H, I, q⟩
  | int i =>
    obtain ⟨t, rfl⟩ := rx
    have e' : k = (i != 0) := e
    subst e'
    exact PySem.P.truthy_int ⟨H, I, q⟩
  | str y =>
    obtain ⟨t, rfl⟩ := rx
    obtain ⟨hy, e'⟩ : y.length ≤ sizeLine ∧ k = ((y.length : Int) != 0) := e
    subst e'
    exact PySem.P.truthy_str (by lia) ⟨H, I.tok _, q⟩
  | byt y =>
    obtain ⟨t, rfl⟩ := rx
    obtain ⟨hy, e'⟩ : y.size ≤ sizeLine ∧ k = ((y.size : Int) != 0) := e
    subst e'
    exact PySem.W.truthy_bytes (by lia) ⟨H, I.tok _, q⟩
  | ref p =>
    cases rx
    have e' : (∃ xs, SqL X.K H p xs ∧ k = !xs.isEmpty) ∨ (∃ xs, SqT X.K H p xs ∧ k = !xs.isEmpty) ∨ ∃ kvs, H p = some (.dK kvs) ∧ k = !kvs.isEmpty := e
    rcases e' with ⟨xs, hx, e'⟩ | ⟨xs, hx, e'⟩ | ⟨kvs, hx, e'⟩
    · subst e'
      obtain ⟨its, r, pl, hz⟩ := I.list hx
      have hlen := r.length
      exact wpAny_truthy_list pl.isList (by simp only [List.size_toArray]; lia) ⟨H, I.tok _, by rw [isEmpty_of r]; exact q⟩
    · subst e'
      obtain ⟨its, r, pl, hz⟩ := I.tuple hx
      have hlen := r.length
      exact truthy_tuple pl (by simp only [List.size_toArray]; lia) ⟨H, I.tok _, by rw [isEmpty_of r]; exact q⟩
    · subst e'
      obtain ⟨hz, hS, vs, r, m⟩ : kvs.length ≤ sizeLine ∧ (p == sysModules) = false ∧ ∃ vs, KV kvs vs ∧ s.heap.DictOf (mixKind X.prog X.w) p vs := I.hok p _ hx
      have hlen : kvs.length = vs.length := Paired.length r
      exact wpAny_truthy_dict hS m (by lia) ⟨H, I.tok _, by rw [isEmpty_kv r]; exact q⟩
  | _ => exact (show False from e).elim
theorem pt_truth (ha : PE X a ta) (he : ∀ whole, isTrue a X.env whole = (do let v ← whole; standAt a.pos; holding [v] (truthy v))) :
    PT X a (fun σ H Q => ta σ H fun x H' => ∃ k, TruV X.K x H' k ∧ Q k H') := by
  intro pins s σ H Q I h
  exact isTrue_plain (thn (ha pins s σ H _ I h) fun v s1 ⟨x, H1, I1, r1, q1⟩ => tru_ok pins s1 σ H1 x v Q I1 r1 q1) (he _)
theorem vals1 {x : V} {us : List Value} (r : Vals [x] us) : ∃ u, us = [u] ∧ RelV x u := by
  cases r with
  | cons r1 r2 => cases r2; exact ⟨_, rfl, r1⟩
theorem vals2 {x y : V} {us : List Value} (r : Vals [x, y] us) : ∃ u w', us = [u, w'] ∧ RelV x u ∧ RelV y w' := by
  cases r with
  | cons r1 r2 =>
    cases r2 with
    | cons r3 r4 => cases r4; exact ⟨_, _, rfl, r1, r3⟩
theorem call_max2 (hc : X.calm = true) : CallR X (.builtin "max") (fun xs H Q => ∃ i j, xs = [.int i, .int j] ∧ Q (.int (if j > i then j else i)) H) := by
  intro pins s σ H xs us Q I r h
  obtain ⟨i, j, rfl, q⟩ := h
  obtain ⟨u, w', rfl, ⟨t, rfl⟩, ⟨t', rfl⟩⟩ := vals2 r
  refine max_two_ints (I.ok.hd hc) fun h' tk k => ⟨_, H, I.kept k, ?_, q⟩
  by_cases hj : j > i
  · rw [if_pos hj, if_pos hj]; exact ⟨_, rfl⟩
  · rw [if_neg hj, if_neg hj]; exact ⟨_, rfl⟩
theorem call_min2 (hc : X.calm = true) : CallR X (.builtin "min") (fun xs H Q => ∃ i j, xs = [.int i, .int j] ∧ Q (.int (if j < i then j else i)) H) := by
  intro pins s σ H xs us Q I r h
  obtain ⟨i, j, rfl, q⟩ := h
  obtain ⟨u, w', rfl, ⟨t, rfl⟩, ⟨t', rfl⟩⟩ := vals2 r
  refine min_two_ints (I.ok.hd hc) fun h' tk k => ⟨_, H, I.kept k, ?_, q⟩
  by_cases hj : j < i
  · rw [if_pos hj, if_pos hj]; exact ⟨_, rfl⟩
  · rw [if_neg hj, if_neg hj]; exact ⟨_, rfl⟩
end
structure ObjM (h : Heap) (x dx C : Addr) (mA : Str → Option Value) : Prop where
  obj : h.get? x = some (PySem.W.instObj C dx)
  ns : h.Ns1 dx mA
  ne : dx ≠ x
theorem lookIn_ns {h : Heap} {dx : Addr} {mA : Str → Option Value} (n : h.Ns1 dx mA) : ∃ od, h.get? dx = some od ∧ ∀ name, PySem.W.lookIn name od = some (mA name) := by
  obtain ⟨o, es, ep, ho, hd, hk, _, hm⟩ := n
  refine ⟨o, ho, fun name => ?_⟩
  have e := hm name
  unfold nsFind findBy at e
  rw [← Array.find?_toList] at e
  unfold PySem.W.lookIn
  rw [hd]
  dsimp only
  split
  · rename_i y q
    rw [q] at e
    exact congrArg some e
  · rename_i q
    rw [q] at e
    have a : es.toList.any (·.refKey) = false := by
      rw [List.any_eq_false]
      intro y hy
      obtain ⟨z, t, hkey⟩ := hk y (Array.mem_toList_iff.mp hy)
      simp [DictEntry.refKey, hkey]
    have a' : ¬ es.toList.any (·.refKey) = true := by rw [a]; exact Bool.false_ne_true
    rw [if_neg a']
    exact congrArg some e
theorem ObjM.look {h : Heap} {x dx C : Addr} {mA : Str → Option Value} (I : ObjM h x dx C mA) : ∃ od, PySem.W.InstAt h x (PySem.W.instObj C dx) C (some od) ∧ ∀ name, PySem.W.lookIn name od = some (mA name) :=
  let ⟨od, ho, hl⟩ := lookIn_ns I.ns
  ⟨od, ⟨I.obj, rfl, rfl, ho⟩, hl⟩
section
variable {prog : Program} {w : World} {A : Around} {E : Value → Shared → Prop} {s : Shared} {K : PySem.W.Frag} {x dx C f : Addr} {mA : Str → Option Value} {name : Str} {v : Value}
end
section
variable {P : Program} {w : World} {H H' : Hp} {h h' : Heap} {a C dx : Addr} {fs fs' : List (Str × V)}
theorem ins_get (hok : HOk P w H h) (e : H a = some (.ins C dx fs)) : ∃ mA, ObjM h a dx C mA ∧ (∀ f, RelO (fs.lookup f) (mA f)) ∧ PySem.Within mA (fs.map (·.1)) ∧ fs.length ≤ 1000 ∧ H dx = some (.own a) := by
  obtain ⟨d, z, ne, ob, mA, n, r, q⟩ := (show ObjOk P w H h a (.ins C dx fs) from hok a _ e)
  exact ⟨mA, ⟨ob, n, ne⟩, r, q, z, d⟩
end
structure Cls (K : PySem.W.Frag) (C : Addr) : Prop where
  pg : PySem.W.plainGet K C Str.empty = true
  hd : PySem.W.hasDictIn K C = true
  po : PySem.W.plainOver K C = true
  sa : PySem.W.findIn K (.ref C) "__setattr__" = some (some (.builtin "object.__setattr__"))
theorem Cls.get {K : PySem.W.Frag} {C : Addr} (c : Cls K C) (f : Str) : PySem.W.plainGet K C f = true := c.pg
section
variable {X : Cx} {pins : List (Addr × Obj)} {σ : St} {H : Hp} {s : Shared} {a C dx : Addr} {fs : List (Str × V)} {f : Str} {v : V} {A : Around} {E : Value → Shared → Prop}
end
section
variable {X : Cx} {o e value : Expr} {f : Str} {pos pos' tpos : Pos} {ta tv : TE}
end
section
variable {X : Cx} {pins : List (Addr × Obj)} {σ : St} {H : Hp} {s : Shared} {A : Around} {E : Value → Shared → Prop} {Q : Value → Shared → Prop} {c : Value} {b : Bool}
inductive TyOf (K : PySem.W.Frag) (H : Hp) : V → Value → Prop where
  | non : TyOf K H .non (.type "NoneType")
  | bl (x : Bool) : TyOf K H (.bl x) (.type "bool")
  | int (i : Int) : TyOf K H (.int i) (.type "int")
  | str (x : Str) : TyOf K H (.str x) (.type "str")
  | flt (x : UInt64) : TyOf K H (.flt x) (.type "float")
  | lst {a : Addr} {xs : List V} (e : H a = some (.lst xs)) : TyOf K H (.ref a) (.type "list")
  | frz {a : Addr} {o : Obj} {xs : List V} (e : H a = some (.frz o (.lst xs))) : TyOf K H (.ref a) (.type "list")
  | tup {a : Addr} {xs : List V} (e : H a = some (.tup xs)) : TyOf K H (.ref a) (.type "tuple")
  | dK {a : Addr} {kvs : List (Key × V)} (e : H a = some (.dK kvs)) : TyOf K H (.ref a) (.type "dict")
  | dT {a : Addr} {kvs : List (List Key × V)} (e : H a = some (.dT kvs)) : TyOf K H (.ref a) (.type "dict")
  | ins {a C dx : Addr} {fs : List (Str × V)} (e : H a = some (.ins C dx fs)) (cl : Cls K C) (ha : PySem.W.findIn K (.ref C) "__class__" = some (some (.builtin "object.__class__")))
      (hn : PySem.W.specialIn K (.builtin "object.__class__") "__get__" = some (some (.builtin "getset_descriptor.__get__"))) (htk : PySem.W.takesIn K (.builtin "object.__class__") = some true)
      (hm : PySem.W.mroIn K C (.type "object") = some true) : TyOf K H (.ref a) (.ref C)
theorem isinst_ok {x : V} {u t : Value} (I : Inv X pins σ H s) (rx : RelV x u) (ty : TyOf X.K H x t) (e : PySem.W.kitOne X.K t c = some b) (h : ∀ tk, Q (.bool b) { s with toks := tk }) :
    wpAny (model X.prog X.w) A (call (.builtin "isinstance") [u, c]) Q E s := by
  cases ty with
  | non => cases (show u = Value.none from rx); exact PySem.W.kia_one PySem.W.kitx_none I.kIn True.intro e (fun z => nomatch z) h
  | bl y => cases (show u = Value.bool y from rx); exact PySem.W.kia_one PySem.W.kitx_bool I.kIn True.intro e (fun z => nomatch z) h
  | int i => obtain ⟨t, q⟩ := (show ∃ t, u = Value.int i t from rx); cases q; exact PySem.W.kia_one PySem.W.kitx_int I.kIn True.intro e (fun z => nomatch z) h
  | str y => obtain ⟨t, q⟩ := (show ∃ t, u = Value.str y t from rx); cases q; exact PySem.W.kia_one PySem.W.kitx_str I.kIn True.intro e (fun z => nomatch z) h
  | flt y => obtain ⟨t, q⟩ := (show ∃ t, u = Value.float y t from rx); cases q; exact PySem.W.kia_one PySem.W.kitx_float I.kIn True.intro e (fun z => nomatch z) h
  | @lst a xs ea =>
    cases (show u = Value.ref a from rx)
    obtain ⟨_, _, n, _, h1⟩ := (show ObjOk X.prog X.w H s.heap a (.lst xs) from I.hok a _ ea)
    exact PySem.W.kia_one PySem.W.kitx_list I.kIn ⟨_, h1, rfl⟩ e (fun z => nomatch z) h
  | @frz a ob xs ea =>
    cases (show u = Value.ref a from rx)
    obtain ⟨_, _, _, n, _, h1⟩ := (show ObjOk X.prog X.w H s.heap a (.frz ob (.lst xs)) from I.hok a _ ea)
    exact PySem.W.kia_one PySem.W.kitx_list I.kIn ⟨_, h1, rfl⟩ e (fun z => nomatch z) h
  | @tup a xs ea =>
    cases (show u = Value.ref a from rx)
    obtain ⟨_, _, _, p⟩ := (show ObjOk X.prog X.w H s.heap a (.tup xs) from I.hok a _ ea)
    obtain ⟨o, h1, h2, _⟩ := p
    exact PySem.W.kia_one PySem.W.kitx_tuple I.kIn ⟨o, h1, h2⟩ e (fun z => nomatch z) h
  | @dK a kvs ea =>
    cases (show u = Value.ref a from rx)
    obtain ⟨_, _, vs, _, p⟩ := (show ObjOk X.prog X.w H s.heap a (.dK kvs) from I.hok a _ ea)
    obtain ⟨o, es, ep, h1, h2, _⟩ := p
    exact PySem.W.kia_one PySem.W.kitx_dict I.kIn ⟨o, h1, h2.1⟩ e (fun z => nomatch z) h
  | @dT a kvs ea =>
    cases (show u = Value.ref a from rx)
    obtain ⟨_, _, xs, _, o, es, ep, h1, h2, _⟩ := (show ObjOk X.prog X.w H s.heap a (.dT kvs) from I.hok a _ ea)
    exact PySem.W.kia_one PySem.W.kitx_dict I.kIn ⟨o, h1, h2.1⟩ e (fun z => nomatch z) h
  | @ins a C dx fs ea cl ha hn htk hm =>
    cases (show u = Value.ref a from rx)
    obtain ⟨mA, O, _⟩ := ins_get I.hok ea
    obtain ⟨od, J, _⟩ := O.look
    exact PySem.W.kia_one (PySem.W.kitx_own (cl.get _) cl.hd ha hn htk hm) I.kIn J e (fun z => nomatch z) h
end
structure Room (k : Nat) (A : Around) : Prop where
  hd : A.handled = none
  dp : A.depth + 3 * k + 5 < recursionLimit
  un : A.units + 16 * k + 200 < cLine
theorem Room.mono {j k : Nat} {A : Around} (r : Room k A) (h : j ≤ k) : Room j A := ⟨r.hd, by have := r.dp; lia, by have := r.un; lia⟩
theorem Room.deeper {k : Nat} {A : Around} (r : Room (k + 1) A) (env : Env) : Room k (A.deeper env) :=
  ⟨r.hd, by have := r.dp; show A.depth + 1 + 3 * k + 5 < _; lia, by have := r.un; show A.units + 3 + 16 * k + 200 < _; lia⟩
theorem Room.depth {k : Nat} {A : Around} (r : Room k A) : A.depth < recursionLimit := by have := r.dp; lia
theorem Room.units {k : Nat} {A : Around} (r : Room k A) : A.units + 64 < cLine := by have := r.un; lia
noncomputable def tNil : TA := fun _ H Q => Q [] H
noncomputable def tCons (ta : TE) (tr : TA) : TA := fun σ H Q => ta σ H fun x H1 => tr σ H1 fun xs H2 => Q (x :: xs) H2
section
variable {X : Cx} {e : Expr} {es : List Expr} {te : TE} {t : TA} {pos : Pos}
theorem pa_nil : PA X [] tNil := fun _ _ _ _ H Q I h => Calls.spliced_nil ⟨[], H, I, .nil, h⟩
theorem pa_cons (ha : PE X e te) (hr : PA X es t) (hs : starEach (e :: es) X.env = (false, eval e X.env) :: starEach es X.env := by rfl) : PA X (e :: es) (tCons te t) := by
  intro pos pins s σ H Q I h
  rw [hs]
  show wpAny _ _ (spliced ((false, eval e X.env) :: backTo pos (starEach es X.env))) _ _ s
  refine Calls.spliced_cons (thn (ha pins s σ H _ I h) fun u s1 ⟨x, H1, I1, r1, q1⟩ => ?_)
  exact thn (hr pos pins s1 σ H1 _ I1 q1) fun us s2 ⟨xs, H2, I2, r2, q2⟩ => ⟨x :: xs, H2, I2, .cons r1 r2, q2⟩
noncomputable def tTup (t : TA) : TE := fun σ H Q => t σ H fun xs H1 => xs.length ≤ sizeLine ∧ ∀ p, H1 p = none → Q (.ref p) (upd H1 p (.tup xs))
noncomputable def tLst (t : TA) : TE := fun σ H Q => t σ H fun xs H1 => xs.length ≤ sizeLine ∧ ∀ p, H1 p = none → Q (.ref p) (upd H1 p (.lst xs))
theorem pe_tup {x1} (h : PA X es t) : PE X (.Tuple es x1 pos) (tTup t) := by
  intro pins s σ H Q I hq
  refine wpAny_Tuple_spliced (thn (h pos pins s σ H _ I hq) fun us s1 ⟨xs, H1, I1, r, z, q⟩ => ⟨by rw [← r.length]; exact z, ?_⟩)
  have hf : H1 s1.heap.objs.size = none := I1.hok.fresh (Nat.le_refl _)
  refine ⟨.ref s1.heap.objs.size, upd H1 s1.heap.objs.size (.tup xs), I1.laid (t' := s1.toks) (fun b u e => Heap.get?_push_of_some _ e) (Nat.le_refl _) ?_, rfl, q _ hf⟩
  exact ⟨z, us, r, ⟨_, Heap.get?_push_size _ rfl, rfl, _, rfl⟩⟩
theorem pe_lst (h : PA X es t) : PE X (.List es pos) (tLst t) := by
  intro pins s σ H Q I hq
  refine wpAny_List_spliced (thn (h pos pins s σ H _ I hq) fun us s1 ⟨xs, H1, I1, r, z, q⟩ => ⟨by rw [← r.length]; exact z, ?_⟩)
  have hf : H1 s1.heap.objs.size = none := I1.hok.fresh (Nat.le_refl _)
  refine ⟨.ref s1.heap.objs.size, upd H1 s1.heap.objs.size (.lst xs), I1.laid (t' := s1.toks) (fun b u e => Heap.get?_push_of_some _ e) (Nat.le_refl _) ?_, rfl, q _ hf⟩
  exact ⟨z, us, 0, r, Heap.get?_push_size _ rfl⟩
end
noncomputable abbrev Sp := List V → Hp → VK → XK → Prop
noncomputable abbrev CXT := List Env → Hp → Shared → XK → Value → Shared → Prop
structure Env0 (P : Program) (w : World) (K : PySem.W.Frag) (mg : Str → Option Value) (base : Heap) (A : Around) (outer : List Env) (s : Shared) (H : Hp) : Prop where
  frames : A.frames = some outer
  mod : Mod K mg base
  bs : ∀ b o, base.get? b = some o → s.heap.get? b = some o ∧ H b = none
  bsz : base.objs.size ≤ s.heap.objs.size
  funs : s.heap.FunFrames base outer
  frf : ∀ b ∈ frs outer, H b = none
  hok : HOk P w H s.heap
  bare : AllBare s.gens
noncomputable def CE (outer : List Env) (P : Program) (w : World) (H : Hp) (s : Shared) (Q : VK) (u : Value) (s' : Shared) : Prop :=
  ∃ v H', s'.os = s.os ∧ AllBare s'.gens ∧ Un (frs outer) [] H H' s.heap s'.heap ∧ HOk P w H' s'.heap ∧ RelV v u ∧ Q v H'
noncomputable def CR (CX : CXT) (outer : List Env) (P : Program) (w : World) (H : Hp) (s : Shared) (Q : VK) (E : XK) (r : Result) (s' : Shared) : Prop :=
  match r with
  | .ok (.ret u) => CE outer P w H s Q u s'
  | .ok _ => False
  | .error e => CX outer H s E e s'
structure FnOk (P : Program) (w : World) (K : PySem.W.Frag) (mg : Str → Option Value) (base : Heap) (CX : CXT) (k : Nat) (f : Addr) (fd : FuncData) (ps : List Str) (sp : Sp) : Prop where
  len : ∀ vs H Q E, sp vs H Q E → vs.length = ps.length
  run : ∀ (A : Around) (outer : List Env) (s : Shared) (H : Hp) (args : Args) (us : List Value) (vs : List V) (Q : VK) (E : XK), Room k A → Env0 P w K mg base A outer s H → BindsTo s fd args (ps.zip us) → Vals vs us → sp vs H Q E →
    codeAny (model P w) A (.call (.ref f) args) (CR CX outer P w H s Q E) s
theorem FnOk.mono {P : Program} {w : World} {K : PySem.W.Frag} {mg : Str → Option Value} {base : Heap} {CX : CXT} {j k : Nat} {f : Addr} {fd : FuncData} {ps : List Str} {sp : Sp} (F : FnOk P w K mg base CX j f fd ps sp) (h : j ≤ k) :
    FnOk P w K mg base CX k f fd ps sp := ⟨F.len, fun A outer s H args us vs Q E hr => F.run A outer s H args us vs Q E (hr.mono h)⟩
theorem FnOk.imp {P : Program} {w : World} {K : PySem.W.Frag} {mg : Str → Option Value} {base : Heap} {CX : CXT} {k : Nat} {f : Addr} {fd : FuncData} {ps : List Str} {sp sp' : Sp} (F : FnOk P w K mg base CX k f fd ps sp)
    (h : ∀ vs H Q E, sp' vs H Q E → sp vs H Q E) : FnOk P w K mg base CX k f fd ps sp' :=
  ⟨fun vs H Q E q => F.len vs H Q E (h _ _ _ _ q), fun A outer s H args us vs Q E hr he hb hv hs => F.run A outer s H args us vs Q E hr he hb hv (h _ _ _ _ hs)⟩
section
variable {X : Cx} {pins : List (Addr × Obj)} {σ : St} {H : Hp} {s s' : Shared}
theorem Inv.env0 (I : Inv X pins σ H s) : Env0 X.prog X.w X.K X.mg X.base X.A X.stack s H :=
  ⟨I.ok.frames, I.ok.mod, I.bs, Nat.le_trans I.ok.bsz I.sz, I.stack, I.stkFree, I.hok, I.bare⟩
theorem Inv.after {Q : VK} {u : Value} (I : Inv X pins σ H s) (h : CE X.stack X.prog X.w H s Q u s') : EP X pins σ Q u s' := by
  obtain ⟨v, H', os, bare, un, hok, r, q⟩ := h
  obtain ⟨hh, g, d, t, os'⟩ := s'
  obtain rfl : os' = s.os := os
  exact ⟨v, H', I.call (h' := hh) (g' := g) (d' := d) (t' := t) (ch := []) un hok bare (fun b z => absurd z (by simp)), r, q⟩
end
noncomputable def tCall (sp : Sp) (dvs : List V) (E : XK) (t : TA) : TE := fun σ H Q => t σ H fun vs H1 => sp (vs ++ dvs) H1 Q E
noncomputable def Binds (K : PySem.W.Frag) (fd : FuncData) (ps : List Str) (ds : List Value) : Prop :=
  ∀ (s : Shared) (us : List Value), K.In s.heap → (us ++ ds).length = ps.length → BindsTo s fd ⟨us, []⟩ (ps.zip (us ++ ds))
theorem Binds.all {K : PySem.W.Frag} {fd : FuncData} {ps : List Str} (h : ∀ us : List Value, us.length = ps.length → bindArgs fd ⟨us, []⟩ = pure (ps.zip us)) : Binds K fd ps [] := fun s us _ hl => by
  rw [List.append_nil] at hl ⊢
  exact .of_eq (h us hl)
noncomputable def Passes (CX : CXT) (X : Cx) (E : XK) : Prop := ∀ (pins : List (Addr × Obj)) (σ : St) (H : Hp) (s : Shared) (e : Value) (s' : Shared), Inv X pins σ H s → CX X.stack H s E e s' → X.xe e s'
section
variable {X : Cx} {CX : CXT} {k : Nat} {f C : Addr} {fd : FuncData} {ps : List Str} {sp : Sp} {dvs : List V} {ds : List Value} {E : XK} {x m : Str} {p pos apos : Pos} {e o : Expr} {es : List Expr} {ta : TE} {t : TA}
theorem run_fn {pins : List (Addr × Obj)} {σ : St} {H : Hp} {s : Shared} {Q : VK} {us : List Value} {vs : List V} (F : FnOk X.prog X.w X.K X.mg X.base CX k f fd ps sp) (hr : Room k X.A) (hb : Binds X.K fd ps ds) (hd : Vals dvs ds) (hx : Passes CX X E)
    (I : Inv X pins σ H s) (r : Vals vs us) (h : sp (vs ++ dvs) H Q E) : wpAny (model X.prog X.w) X.A (call (.ref f) us) (EP X pins σ Q) X.xe s := by
  have r2 : Vals (vs ++ dvs) (us ++ ds) := r.append hd
  have hl : (us ++ ds).length = ps.length := by rw [← r2.length]; exact F.len _ _ _ _ h
  refine wpAny_call (codeAny_mono (F.run X.A X.stack s H ⟨us, []⟩ (us ++ ds) (vs ++ dvs) Q E hr I.env0 (hb s us I.kIn hl) r2 h) fun r s' hq => ?_)
  cases r with
  | error e => exact hx pins σ H s e s' I hq
  | ok fl =>
    cases fl with
    | ret u => exact I.after hq
    | next => exact False.elim hq
    | brk => exact False.elim hq
    | cont => exact False.elim hq
theorem pe_call (F : FnOk X.prog X.w X.K X.mg X.base CX k f fd ps sp) (hr : Room k X.A) (hg : Gl X x) (hm : X.mg x = some (.ref f)) (hk : PySem.W.keepIn X.K (.ref f) = true) (hb : Binds X.K fd ps ds) (hd : Vals dvs ds) (hx : Passes CX X E)
    (ha : PA X (e :: es) t) (hdb : (x == ("__debug__" : Str)) = false := by decide) (he : starEach (e :: es) X.env = (false, eval e X.env) :: starEach es X.env := by rfl) (hpl : (backTo pos (starEach es X.env)).any (·.1) = false := by rfl) :
    PE X (.Call (.Name x p) (e :: es) [] pos) (tCall sp dvs E t) := by
  intro pins s σ H Q I h
  refine wpAny_Call_Name_kw (ld_glob I hg hm ?_ hdb)
  refine PySem.W.callWith_K (h₀ := X.base) I.ok.mod.kin hk (thn (ha pos pins s σ H _ I h) fun us s1 ⟨vs, H1, I1, r, q⟩ => ⟨I1.kIn, ?_⟩) he hpl
  exact run_fn F hr hb hd hx I1 r q
end
section
variable {X : Cx} {CX : CXT} {k : Nat} {f C : Addr} {fd : FuncData} {ps ks : List Str} {sp : Sp} {E : XK} {x m : Str} {p pos apos kpos : Pos} {e o : Expr} {es : List Expr} {kws : List Keyword} {te ta : TE} {t tk : TA} {nm : Option Str}
variable {g : List Value → List Value → List Value} {gV : List V → List V → List V}
end
structure FnScope (N P : List Str) (sc : Scope) : Prop where
  kind : sc.kind = .function
  co : sc.isCoroutine = false
  gen : sc.isGenerator = false
  nd : N.Nodup
  pre : N.take P.length = P
  par : ∀ x ∈ P, sc.names.lookup x = some .local ∨ sc.names.lookup x = some .cell
  nofree : ∀ y ∈ sc.names, y.2 ≠ .free
theorem bindL_out {kindOf : Str → Option NameKind} {x : Str} : ∀ {binds : List (Str × Value)} {m : Str → Option Value}, (∀ v, (x, v) ∉ binds) → bindL kindOf binds m x = m x
  | [], _, _ => rfl
  | (n, v) :: r, m, h => by
    unfold bindL
    rw [bindL_out fun w hw => h w (List.mem_cons_of_mem _ hw)]
    split
    · have : x ≠ n := by rintro rfl; exact h v List.mem_cons_self
      simp [this]
    · rfl
theorem bindC_out {kindOf : Str → Option NameKind} {x : Str} : ∀ {binds : List (Str × Value)} {m : Str → Option Value}, (∀ v, (x, v) ∉ binds) → bindC kindOf binds m x = m x
  | [], _, _ => rfl
  | (n, v) :: r, m, h => by
    unfold bindC
    rw [bindC_out fun w hw => h w (List.mem_cons_of_mem _ hw)]
    split
    · rfl
    · have : x ≠ n := by rintro rfl; exact h v List.mem_cons_self
      simp [this]
theorem bindL_get {kindOf : Str → Option NameKind} {x : Str} {v : Value} : ∀ {P : List Str} {vs : List Value} {i : Nat} {m : Str → Option Value}, P.Nodup → P[i]? = some x → vs[i]? = some v → kindOf x = some .local →
    bindL kindOf (P.zip vs) m x = some v
  | [], _, _, _, _, h, _, _ => by simp at h
  | _ :: _, [], _, _, _, _, h, _ => by simp at h
  | p :: P, w :: vs, 0, m, nd, h1, h2, hk => by
    simp at h1 h2; subst h1; subst h2
    show bindL kindOf ((p, w) :: P.zip vs) m p = _
    unfold bindL
    rw [bindL_out fun v hv => (List.nodup_cons.mp nd).1 (List.of_mem_zip hv).1, if_pos hk]
    simp
  | p :: P, w :: vs, i + 1, m, nd, h1, h2, hk => by
    show bindL kindOf ((p, w) :: P.zip vs) m x = _
    unfold bindL
    exact bindL_get (i := i) (List.nodup_cons.mp nd).2 (by simpa using h1) (by simpa using h2) hk
theorem bindC_get {kindOf : Str → Option NameKind} {x : Str} {v : Value} : ∀ {P : List Str} {vs : List Value} {i : Nat} {m : Str → Option Value}, P.Nodup → P[i]? = some x → vs[i]? = some v → kindOf x ≠ some .local →
    bindC kindOf (P.zip vs) m x = some v
  | [], _, _, _, _, h, _, _ => by simp at h
  | _ :: _, [], _, _, _, _, h, _ => by simp at h
  | p :: P, w :: vs, 0, m, nd, h1, h2, hk => by
    simp at h1 h2; subst h1; subst h2
    show bindC kindOf ((p, w) :: P.zip vs) m p = _
    unfold bindC
    rw [bindC_out fun v hv => (List.nodup_cons.mp nd).1 (List.of_mem_zip hv).1, if_neg hk]
    simp
  | p :: P, w :: vs, i + 1, m, nd, h1, h2, hk => by
    show bindC kindOf ((p, w) :: P.zip vs) m x = _
    unfold bindC
    exact bindC_get (i := i) (List.nodup_cons.mp nd).2 (by simpa using h1) (by simpa using h2) hk
noncomputable def start (N : List Str) (vs : List V) : St := vs.map some ++ List.replicate (N.length - vs.length) none
noncomputable def cxOf (CX : CXT) (P : Program) (w : World) (K : PySem.W.Frag) (mg : Str → Option Value) (base : Heap) (N : List Str) (qual : Str) (scope : Scope) (f : Addr) (cd : Value) (A : Around) (outer : List Env) (s : Shared) (H : Hp) (E : XK) : Cx where
  prog := P
  w := w
  K := K
  mg := mg
  base := base
  A := A.deeper (envOfC qual scope s.heap.objs.size f cd)
  N := N
  s₀ := s
  H₀ := H
  env := envOfC qual scope s.heap.objs.size f cd
  outer := outer
  stack := envOfC qual scope s.heap.objs.size f cd :: outer
  ex := []
  calm := true
  fn := fun _ => true
  pn := []
  xe := fun e s' => wpAny (model P w) (A.deeper (envOfC qual scope s.heap.objs.size f cd)) (leaving (envOfC qual scope s.heap.objs.size f cd) e) (fun _ s'' => CX outer H s E e s'') (fun e' s'' => CX outer H s E e' s'') s'
theorem cell_has {sc : Scope} {n : Nat} {x : Str} (h : sc.names.lookup x = some .cell) : ∃ c, (cellsFrom n sc.names []).lookup x = some c := by
  have q := PySem.W.cellsFrom_some sc.names n [] (.inl h)
  exact Option.isSome_iff_exists.mp q
theorem inv_start {CX : CXT} {P : Program} {w : World} {K : PySem.W.Frag} {mg : Str → Option Value} {base : Heap} {N ps : List Str} {qual : Str} {scope : Scope} {f : Addr} {cd : Value} {A : Around} {outer : List Env} {s s1 : Shared} {H : Hp} {E : XK} {us : List Value} {vs : List V}
    (S : FnScope N ps scope) (hd : A.handled = none) (e0 : Env0 P w K mg base A outer s H) (hl : vs.length = ps.length) (r : Vals vs us)
    (x : InCallC s s.heap.objs.size (bindL (envOfC qual scope s.heap.objs.size f cd).kindOf (ps.zip us) fun _ => none) (cellsFrom (s.heap.objs.size + 1) scope.names []) (bindC (envOfC qual scope s.heap.objs.size f cd).kindOf (ps.zip us) fun _ => none) s1) :
    Inv (cxOf CX P w K mg base N qual scope f cd A outer s H E) [] (start N vs) H s1 := by
  have hpl : ps.length ≤ N.length := by have := congrArg List.length S.pre; rw [List.length_take] at this; lia
  obtain ⟨h1, tk, rfl, hk⟩ := x.done
  have noA : ∀ b : Addr, b ∉ (cxOf CX P w K mg base N qual scope f cd A outer s H E).ex := fun b z => absurd (show b ∈ ([] : List Addr) from z) (by simp)
  refine ⟨⟨e0.mod, S.kind, rfl, rfl, Nat.le_refl _, fun y z c h1 h2 => ?_, fun y hy => ?_, fun y c _ h => ?_, fun _ => hd, Around.frames_deeper e0.frames, .inr ⟨rfl, rfl⟩, fun b z => absurd z (noA b), e0.bs, e0.bsz, fun b _ _ => noA b, fun b z => absurd z (noA b), e0.funs, e0.frf⟩,
    rfl, e0.bare, Un.kept hk, ⟨_, x.toInCall.ns, fun i y v h1 h2 h3 => ?_⟩, fun y c h => ⟨_, x.cell y c h⟩, e0.hok.fresh (Nat.le_refl _), fun y c h => ?_, fun p hp => absurd (show p ∈ ([] : List (Addr × Obj)) from hp) (by simp), e0.hok.kept hk, ?_⟩
  · exact name_of_addr x.apart (PySem.mem_of_lookup h1) (PySem.mem_of_lookup h2)
  · have hy : scope.names.lookup y = some .cell ∨ scope.names.lookup y = some .free := hy
    rcases hy with hy | hy
    · exact cell_has hy
    · exact absurd rfl (S.nofree _ (PySem.mem_of_lookup hy))
  · exact Nat.le_of_lt (x.above y c (PySem.mem_of_lookup h))
  · have hi : i < vs.length := by
      unfold start at h2
      by_cases hi : i < vs.length
      · exact hi
      · rw [List.getElem?_append_right (by simpa using hi)] at h2
        rw [List.getElem?_replicate] at h2
        split at h2 <;> cases h2
    have ha : vs[i]? = some v := by
      unfold start at h2
      rw [List.getElem?_append_left (by simpa using hi), List.getElem?_map] at h2
      cases e : vs[i]? with
      | none => rw [e] at h2; cases h2
      | some a => rw [e] at h2; cases h2; rfl
    obtain ⟨u, hu, rv⟩ := r.get ha
    have hp : ps[i]? = some y := by
      rw [← S.pre, List.getElem?_take_of_lt (by lia)]; exact h1
    have ndP : ps.Nodup := by rw [← S.pre]; exact S.nd.sublist (List.take_sublist _ _)
    refine ⟨u, rv, ?_⟩
    rcases S.par y (List.mem_of_getElem? hp) with k | k
    · exact .inl ⟨k, bindL_get ndP hp hu k⟩
    · obtain ⟨c, e⟩ := cell_has (n := s.heap.objs.size + 1) k
      refine .inr ⟨.inl k, c, e, ?_⟩
      have q := x.cell y c e
      rw [bindC_get ndP hp hu (by show scope.names.lookup y ≠ _; rw [k]; decide)] at q
      exact q
  · exact e0.hok.fresh (Nat.le_of_lt (x.above y c (PySem.mem_of_lookup h)))
  · unfold start
    show _ = N.length
    rw [List.length_append, List.length_map, List.length_replicate]
    lia
theorem fn_of {CX : CXT} {P : Program} {w : World} {K : PySem.W.Frag} {mg : Str → Option Value} {base : Heap} {k : Nat} {f : Addr} {name qual : Str} {params : Arguments} {body : List Stmt} {scope : Scope} {dV kV doc pm cdv ct oc : Value} {an od : Option Addr}
    {osl : Array (Option Value)} {N ps : List Str} {sp : Sp} (lk : K.lookup f = some ⟨oc, od, .func (PySem.W.fnOf name qual params body scope dV kV doc pm an cdv ct), osl⟩) (hcd : PySem.W.codeIn K cdv qual = true) (S : FnScope N ps scope)
    (len : ∀ vs H Q E, sp vs H Q E → vs.length = ps.length)
    (hbody : ∀ (A : Around) (outer : List Env) (s : Shared) (H : Hp) (vs : List V) (Q : VK) (E : XK), Room k (A.deeper (envOfC qual scope s.heap.objs.size f cdv)) → sp vs H Q E →
      ∃ t, PSs (cxOf CX P w K mg base N qual scope f cdv A outer s H E) body t ∧ t { nx := fun _ H' => Q .non H', rt := Q } (start N vs) H) :
    FnOk P w K mg base CX (k + 1) f (PySem.W.fnOf name qual params body scope dV kV doc pm an cdv ct) ps sp := by
  refine ⟨len, fun A outer s H args us vs Q E hr e0 hb r hsp => ?_⟩
  have hl := len _ _ _ _ hsp
  have KX : K.In s.heap := e0.mod.kin.keeps fun b o e => (e0.bs b o e).1
  have lim : s.heap.NoLimit := e0.mod.nolimit.keeps fun b o e => (e0.bs b o e).1
  have hkind : ∀ y ∈ ps.zip us, scope.names.lookup y.1 = some .local ∨ (scope.names.lookup y.1 = some .cell ∧ ((cellsFrom (s.heap.objs.size + 1) scope.names []).lookup y.1).isSome = true) := fun ⟨n, v⟩ hy => by
    rcases S.par n (List.of_mem_zip hy).1 with q | q
    · exact .inl q
    · exact .inr ⟨q, PySem.W.cellsFrom_some _ _ _ (.inl q)⟩
  refine codeAny_call_function hr.depth (KX _ _ lk) rfl S.co S.gen rfl (PySem.W.codeRec_of KX hcd) (hb _ _ _ _ ?_)
  refine wpAny_newFunctionEnv_cells S.kind hkind fun env he s1 x => ?_
  subst he
  refine ⟨lim.keeps x.toInCall.keep, codeAny_func ?_⟩
  obtain ⟨t, ht, hq⟩ := hbody A outer s H vs Q E (hr.deeper _) hsp
  have I : Inv (cxOf CX P w K mg base N qual scope f cdv A outer s H E) [] (start N vs) H s1 := inv_start S hr.hd e0 hl r x
  refine wpAny_mono (ht [] s1 (start N vs) H _ I hq) (fun fl s' hs => ?_) fun e s' hs => hs
  have fin : ∀ {σ' : St} {H' : Hp} {v : V} {u : Value}, Inv (cxOf CX P w K mg base N qual scope f cdv A outer s H E) [] σ' H' s' → RelV v u → Q v H' → CE outer P w H s Q u s' :=
    fun {σ' H' v u} J rv q => ⟨v, H', J.os, J.bare, J.base, J.hok, rv, q⟩
  cases fl with
  | ret u =>
    obtain ⟨v, σ', H', J, rv, q⟩ := hs
    exact fin J rv q
  | next =>
    obtain ⟨σ', H', J, q⟩ := hs
    exact fin (v := V.non) (u := Value.none) J rfl q
  | brk =>
    obtain ⟨_, _, _, q⟩ := hs
    exact False.elim q
  | cont =>
    obtain ⟨_, _, _, q⟩ := hs
    exact False.elim q
section
variable {X : Cx} {x : Str} {p pos : Pos} {e : Expr} {es : List Expr} {t : TA} {id T : String} {r : List V → Hp → VK → Prop}
noncomputable def tCB (r : List V → Hp → VK → Prop) (t : TA) : TE := fun σ H Q => t σ H fun vs H1 => r vs H1 Q
theorem pe_callB (hc : CallR X (.builtin id) r) (hg : Gl X x) (hm : X.mg x = none) (hv : bootBuiltins x = some (.builtin id)) (ha : PA X (e :: es) t) (hn : x ≠ "__name__" := by decide) (hdb : (x == ("__debug__" : Str)) = false := by decide)
    (he : starEach (e :: es) X.env = (false, eval e X.env) :: starEach es X.env := by rfl) (hpl : (backTo pos (starEach es X.env)).any (·.1) = false := by rfl) : PE X (.Call (.Name x p) (e :: es) [] pos) (tCB r t) := by
  intro pins s σ H Q I h
  refine wpAny_Call_Name_kw (ld_blt I hg hm hv ?_ hn hdb)
  exact PyProof.Rows.callWith_builtin1 (thn (ha pos pins s σ H _ I h) fun us s1 ⟨vs, H1, I1, r1, q1⟩ => hc pins s1 σ H1 vs us Q I1 r1 q1) he hpl
theorem pe_callTy (hc : CallR X (.type T) r) (hg : Gl X x) (hm : X.mg x = none) (hv : bootBuiltins x = some (.type T)) (ha : PA X (e :: es) t) (hn : x ≠ "__name__" := by decide) (hdb : (x == ("__debug__" : Str)) = false := by decide)
    (he : starEach (e :: es) X.env = (false, eval e X.env) :: starEach es X.env := by rfl) (hpl : (backTo pos (starEach es X.env)).any (·.1) = false := by rfl) : PE X (.Call (.Name x p) (e :: es) [] pos) (tCB r t) := by
  intro pins s σ H Q I h
  refine wpAny_Call_Name_kw (ld_blt I hg hm hv ?_ hn hdb)
  exact PyProof.Rows.callWith_type1 (thn (ha pos pins s σ H _ I h) fun us s1 ⟨vs, H1, I1, r1, q1⟩ => hc pins s1 σ H1 vs us Q I1 r1 q1) he hpl
end
end L2
namespace HT
open PySem PyProof.Rows
section
open PySem.SeqAt
open PySem.AutoSeq1 (wpAny_loadPart')
open PySem.MeetsSeq PySem.MeetsSeq2 PySem.MeetsSeq3
end
section
variable {prog : Program} {w : World} {A : Around} {E : Value → Shared → Prop} {s : Shared}
theorem cat_tup {t b : Addr} {vs ws : List Value} {Q : Value → Shared → Prop} (ht : IsTup s.heap t vs.toArray) (hb : IsTup s.heap b ws.toArray) (hv : vs ≠ [])
    (h1 : ws = [] → Q (.ref t) s) (h2 : ws ≠ [] → Q (.ref s.heap.objs.size) { s with heap := s.heap.push { cls := .type "tuple", data := .seq (vs ++ ws).toArray } })
    (hsz : vs.length + ws.length ≤ sizeLine) : wpAny (model prog w) A (binaryOp .Add (.ref t) (.ref b)) Q E s := by
  obtain ⟨⟨cls, dd, data, sl⟩, ho, hc, n, hd⟩ := id ht
  obtain ⟨⟨cls2, dd2, data2, sl2⟩, ho2, hc2, n2, hd2⟩ := id hb
  simp only at hc hd hc2 hd2
  subst hc hd hc2 hd2
  have e : vs.toArray ++ ws.toArray = (vs ++ ws).toArray := by simp
  by_cases hw : ws = []
  · exact concat_meets ⟨_, ho, rfl⟩ ⟨_, ho2, rfl⟩ noFill_tuple_add seq_tuple_add PySem.F.slot_tuple_add PySem.F.entry_tuple_add (PySem.F.args_tuple_add_2 _ _)
      (tuple_addW1 t b vs.toArray ws.toArray n n2 dd dd2 sl sl2 (by simpa using hv) (by simp [hw])) ⟨ho, ho2, h1 hw⟩
  · refine concat_meets ⟨_, ho, rfl⟩ ⟨_, ho2, rfl⟩ noFill_tuple_add seq_tuple_add PySem.F.slot_tuple_add PySem.F.entry_tuple_add (PySem.F.args_tuple_add_2 _ _)
      (tuple_addW2 t b vs.toArray ws.toArray n n2 dd dd2 sl sl2 (by simpa using hv) (by simpa using hw) (by rw [List.size_toArray, List.size_toArray]; exact hsz)) ⟨ho, ho2, ?_⟩
    rw [e]
    exact h2 hw
noncomputable def sIx (n d : Nat) : Option Int → Nat
  | none => d
  | some v => if v < 0 then (v + (n : Int)).toNat else min v.toNat n
theorem sIx_none (n d : Nat) : sIx n d none = d := rfl
theorem sIx_nat (n d k : Nat) : sIx n d (some (k : Int)) = min k n := by
  show (if (k : Int) < 0 then ((k : Int) + (n : Int)).toNat else min (k : Int).toNat n) = min k n
  rw [if_neg (by lia), Int.toNat_natCast]
theorem sIx_le (n d : Nat) (hd : d ≤ n) (o : Option Int) : sIx n d o ≤ n := by
  cases o with
  | none => exact hd
  | some v =>
    show (if v < 0 then (v + (n : Int)).toNat else min v.toNat n) ≤ n
    by_cases hv : v < 0
    · rw [if_pos hv]; lia
    · rw [if_neg hv]; exact Nat.min_le_right _ _
theorem clip_eq (v : Int) (n d : Nat) : (if v < 0 then max (v + (n : Int)) 0 else min v (n : Int)) = ((sIx n d (some v) : Nat) : Int) := by
  show (if v < 0 then max (v + (n : Int)) 0 else min v (n : Int)) = (((if v < 0 then (v + (n : Int)).toNat else min v.toNat n) : Nat) : Int)
  by_cases hv : v < 0
  · simp only [if_pos hv]; lia
  · simp only [if_neg hv]; lia
theorem adjust_gen (lo hi : Option Int) (n : Nat) : Builtin.Slice.sliceAdjust lo hi 1 (n : Int) = (((sIx n 0 lo : Nat) : Int), ((sIx n n hi : Nat) : Int)) := by
  have h1 : ¬ ((1 : Int) < 0) := by lia
  unfold Builtin.Slice.sliceAdjust
  simp only [h1, if_false]
  refine Prod.ext ?_ ?_
  · cases lo with
    | none => rfl
    | some v => exact clip_eq v n 0
  · cases hi with
    | none => rfl
    | some v => exact clip_eq v n n
theorem places_gen (i j : Nat) : Builtin.Slice.slicePlaces (i : Int) (j : Int) 1 = j - i := by
  unfold Builtin.Slice.slicePlaces
  have h1 : (1 : Int) > 0 := by lia
  simp only [h1, if_true, Int.ediv_one]
  split <;> lia
theorem slicePart_ {v : Value} {o : Option Int} {Q : Option Int → Shared → Prop} (p : IsPart v o) (h : Q o s) : wpAny (model prog w) A (Builtin.Slice.slicePartIndex v) Q E s := by
  cases p with
  | none => exact slicePart_none h
  | int i t => exact slicePart_int h
theorem sliceApplied_gen {sl : Addr} {vl vu : Value} {lo hi : Option Int} {n : Nat} {Q : Int × Int × Nat → Shared → Prop} (hs : s.heap.IsSliceOf sl vl vu .none) (pl : IsPart vl lo) (pu : IsPart vu hi)
    (h : Q (((sIx n 0 lo : Nat) : Int), 1, sIx n n hi - sIx n 0 lo) s) : wpAny (model prog w) A (Builtin.Slice.sliceApplied (.ref sl) (pure (n : Int))) Q E s := by
  obtain ⟨os, hos, hcs, hds⟩ := id hs
  unfold Builtin.Slice.sliceApplied Builtin.Slice.sliceFields
  refine wpAny_bind (wpAny_bind (wpAny_field hos hds (x := vl) rfl (wpAny_bind (wpAny_field hos hds (x := vu) rfl (wpAny_bind (wpAny_field hos hds (x := .none) rfl (wpAny_pure ?_)))))))
  refine wpAny_bind (slicePart_none ?_)
  show wpAny _ _ (if ((1 : Int) == 0) = true then _ else _) _ _ s
  rw [if_neg (by decide)]
  refine wpAny_bind (slicePart_ pl (wpAny_bind (slicePart_ pu (wpAny_bind (wpAny_pure ?_)))))
  show wpAny _ _ (match Builtin.Slice.sliceAdjust lo hi 1 (n : Int) with | (lo, hi) => pure (lo, (1 : Int), Builtin.Slice.slicePlaces lo hi 1)) _ _ s
  rw [adjust_gen lo hi n]
  show wpAny _ _ (pure (((sIx n 0 lo : Nat) : Int), (1 : Int), Builtin.Slice.slicePlaces ((sIx n 0 lo : Nat) : Int) ((sIx n n hi : Nat) : Int) 1)) _ _ s
  rw [places_gen]
  exact wpAny_pure h
theorem pick_gen (xs : Array Value) (i k : Nat) : ((List.range k).filterMap fun (m : Nat) => xs[((i : Int) + (m : Int) * 1).toNat]?).toArray = ((xs.toList.drop i).take k).toArray := by
  have e : (fun (m : Nat) => xs[((i : Int) + (m : Int) * 1).toNat]?) = fun m => xs[i + m]? := by
    funext m
    have : ((i : Int) + (m : Int) * 1).toNat = i + m := by lia
    rw [this]
  rw [e]
  have := pick_run xs i k
  rw [List.filterMap_map] at this
  have e2 : ((fun x => xs[x]?) ∘ fun x => i + x) = fun m => xs[i + m]? := rfl
  rw [e2] at this
  rw [this]
theorem getItem_tuple_cut {t sl : Addr} {items : Array Value} {vl vu : Value} {lo hi : Option Int} {Q : Value → Shared → Prop} (ht : IsTup s.heap t items) (hs : s.heap.IsSliceOf sl vl vu .none) (pl : IsPart vl lo) (pu : IsPart vu hi)
    (hw : ¬ (sIx items.size 0 lo = 0 ∧ sIx items.size items.size hi = items.size))
    (h : Q (.ref s.heap.objs.size) { s with heap := s.heap.push { cls := .type "tuple", data := .seq ((items.toList.drop (sIx items.size 0 lo)).take (sIx items.size items.size hi - sIx items.size 0 lo)).toArray } })
    (hsz : items.size ≤ sizeLine) : wpAny (model prog w) A (getItem (.ref t) (.ref sl)) Q E s := by
  have htake : sizeOk (.seq ((items.toList.drop (sIx items.size 0 lo)).take (sIx items.size items.size hi - sIx items.size 0 lo)).toArray) := by
    show ((items.toList.drop (sIx items.size 0 lo)).take (sIx items.size items.size hi - sIx items.size 0 lo)).toArray.size ≤ sizeLine
    rw [List.size_toArray, List.length_take, List.length_drop, Array.length_toList]
    lia
  have hj : sIx items.size items.size hi ≤ items.size := sIx_le _ _ (Nat.le_refl _) hi
  obtain ⟨os, hos, hcs, hds⟩ := id hs
  have hTs : s.TypeIs (.ref sl) "slice" := ⟨os, hos, hcs⟩
  unfold getItem
  try with_reducible refine wpAny_holding ?_
  first | refine wpAny_bind (wpAny_pure ?_) | skip
  refine wpAny_bind (wpAny_sequenceKey ht.typeIs (by decide) ?_)
  refine wpAny_bind (wpAny_callSpecial?_slot (name := Str.ofString "__getitem__") ht.typeIs PyProof.Rows.slot_tuple_getitem (wpAny_call_entry PyProof.Rows.slot_tuple_getitem ht.typeIs entry_tuple_getitem ?_ (args_tuple_getitem _ _)))
  show wpAny _ _ (Builtin.Tuple.tupleItemsOf (.ref t) >>= _) _ _ s
  refine wpAny_bind (tupleItemsOf_ ht ?_)
  refine wpAny_bind (wpAny_typeOf hTs ?_)
  rw [if_pos (by decide)]
  refine wpAny_bind (sliceApplied_gen hs pl pu ?_)
  have hno : ¬ ((((sIx items.size 0 lo : Nat) : Int) == 0 && (1 : Int) == 1 && (sIx items.size items.size hi - sIx items.size 0 lo) == items.size) = true) := by
    intro q
    rw [Bool.and_eq_true, Bool.and_eq_true] at q
    have q1 : ((sIx items.size 0 lo : Nat) : Int) = 0 := eq_of_beq q.1.1
    have q2 : sIx items.size items.size hi - sIx items.size 0 lo = items.size := eq_of_beq q.2
    exact hw ⟨by lia, by lia⟩
  show wpAny _ _ (if (((sIx items.size 0 lo : Nat) : Int) == 0 && (1 : Int) == 1 && (sIx items.size items.size hi - sIx items.size 0 lo) == items.size) = true then _ else _) _ _ s
  rw [if_neg hno, pick_gen]
  first
    | exact wpAny_bind (m := Builtin.Tuple.tupleExact _) (wpAny_newObj_type (wpAny_pure ⟨_, rfl, wpAny_pure h⟩) htake)
    | exact wpAny_bind (m := Builtin.Tuple.tupleExact _) (wpAny_newObj_type (wpAny_bind (wpAny_pure (wpAny_pure ⟨_, rfl, wpAny_pure h⟩))) htake)
    | exact wpAny_bind (wpAny_bind (m := Builtin.Tuple.tupleExact _) (wpAny_newObj_type (wpAny_pure (wpAny_pure ⟨_, rfl, wpAny_pure h⟩)) htake))
    | exact wpAny_bind (wpAny_bind (m := Builtin.Tuple.tupleExact _) (wpAny_newObj_type (wpAny_pure ⟨_, rfl, wpAny_pure h⟩) htake))
end
end HT
namespace L2
open PySem PySem.Spec PyProof.Rows
noncomputable abbrev TO := St → Hp → (Option Int → Hp → Prop) → Prop
noncomputable def PO (X : Cx) (e : Option Expr) (t : TO) : Prop :=
  ∀ (pins : List (Addr × Obj)) (s : Shared) (σ : St) (H : Hp) (Q : Option Int → Hp → Prop), Inv X pins σ H s → t σ H Q →
    wpAny (model X.prog X.w) X.A (evalPart e X.env) (fun u s' => ∃ o H', Inv X pins σ H' s' ∧ IsPart u o ∧ Q o H') X.xe s
noncomputable def tNoPart : TO := fun _ H Q => Q none H
noncomputable def tPart (t : TE) : TO := fun σ H Q => t σ H fun x H1 => ∃ i, x = .int i ∧ Q (some i) H1
section
variable {X : Cx} {e : Expr} {te : TE} {lo hi : Option Expr} {tl th : TO} {pos p2 : Pos}
theorem po_none : PO X none tNoPart := by
  intro pins s σ H Q I h
  rw [evalPart_none]
  exact wpAny_pure ⟨none, H, I, .none, h⟩
theorem po_some (h : PE X e te) : PO X (some e) (tPart te) := by
  intro pins s σ H Q I hw
  rw [evalPart_some]
  refine thn (h pins s σ H _ I hw) fun u s1 ⟨x, H1, I1, r1, q1⟩ => ?_
  obtain ⟨i, rfl, q⟩ := q1
  obtain ⟨t, rfl⟩ := r1
  exact ⟨some i, H1, I1, .int i t, q⟩
noncomputable def SlR (X : Cx) (r : V → Option Int → Option Int → Hp → VK → Prop) : Prop :=
  ∀ (pins : List (Addr × Obj)) (s : Shared) (σ : St) (H : Hp) (x : V) (v vl vu : Value) (lo hi : Option Int) (sl : Addr) (Q : VK), Inv X pins σ H s → RelV x v → s.heap.IsSliceOf sl vl vu .none → IsPart vl lo → IsPart vu hi → r x lo hi H Q →
    ∃ T id, typeLookup (.type T) "__getitem__" = pure (some (.builtin id)) ∧ s.TypeIs v T ∧ wpAny (model X.prog X.w) X.A (getItem v (.ref sl)) (EP X pins σ Q) X.xe s
noncomputable def tSl (r : V → Option Int → Option Int → Hp → VK → Prop) (te : TE) (tl th : TO) : TE := fun σ H Q => te σ H fun x H1 => tl σ H1 fun l H2 => th σ H2 fun u H3 => r x l u H3 Q
theorem pe_slice {r : V → Option Int → Option Int → Hp → VK → Prop} (hr : SlR X r) (he : PE X e te) (hl : PO X lo tl) (hu : PO X hi th) : PE X (.Subscript e (.Slice lo hi none p2) pos) (tSl r te tl th) := by
  intro pins s σ H Q I h
  refine Subscript_ (thn (he pins s σ H _ I h) fun v s1 ⟨x, H1, I1, r1, q1⟩ => ?_)
  refine wpAny_Slice (thn (hl pins s1 σ H1 _ I1 q1) fun vl s2 ⟨l, H2, I2, pl, q2⟩ => thn (hu pins s2 σ H2 _ I2 q2) fun vu s3 ⟨u, H3, I3, pu, q3⟩ => ?_)
  rw [evalPart_none]
  refine wpAny_pure ?_
  have I4 : Inv X pins σ H3 { s3 with heap := s3.heap.push { cls := .type "slice", data := .fields #[vl, vu, .none] } } := I3.kept (t' := s3.toks) fun b ob q => Heap.get?_push_of_some _ q
  obtain ⟨T, id, hT, ht, hg⟩ := hr pins { s3 with heap := s3.heap.push { cls := .type "slice", data := .fields #[vl, vu, .none] } } σ H3 x v vl vu l u s3.heap.objs.size Q I4 r1 (Heap.IsSliceOf.new ..) pl pu q3
  show wpAny (model X.prog X.w) X.A (subscriptTail e (.Slice lo hi none p2) v (.ref s3.heap.objs.size)) (EP X pins σ Q) X.xe { s3 with heap := s3.heap.push { cls := .type "slice", data := .fields #[vl, vu, .none] } }
  exact tail_any (ops := [.ref s3.heap.objs.size, v]) ht hT hg (by with_unfolding_all rfl)
noncomputable def cutV (xs : List V) (lo hi : Option Int) : List V := (xs.drop (HT.sIx xs.length 0 lo)).take (HT.sIx xs.length xs.length hi - HT.sIx xs.length 0 lo)
theorem cutV_length (xs : List V) (lo hi : Option Int) : (cutV xs lo hi).length ≤ xs.length := by
  unfold cutV
  rw [List.length_take, List.length_drop]
  lia
noncomputable def rSlT (K : PySem.W.Frag) : V → Option Int → Option Int → Hp → VK → Prop := fun x lo hi H Q => ∃ a xs, x = .ref a ∧ SqT K H a xs ∧
  ¬ (HT.sIx xs.length 0 lo = 0 ∧ HT.sIx xs.length xs.length hi = xs.length) ∧ ∀ p, H p = none → Q (.ref p) (upd H p (.tup (cutV xs lo hi)))
theorem sl_tup : SlR X (rSlT X.K) := by
  intro pins s σ H x v vl vu lo hi sl Q I rx hs pl pu h
  obtain ⟨a, xs, rfl, hx, hw, q⟩ := h
  cases rx
  obtain ⟨its, r, ht, hz⟩ := I.tuple hx
  have hlen : its.toArray.size = xs.length := by rw [List.size_toArray]; exact r.length.symm
  refine ⟨"tuple", _, PyProof.Rows.slot_tuple_getitem.lookup, ht.typeIs, ?_⟩
  refine HT.getItem_tuple_cut ht hs pl pu (by rw [hlen]; exact hw) ?_ (by rw [hlen]; exact hz)
  rw [hlen]
  refine ⟨.ref s.heap.objs.size, _, I.laid (t' := s.toks) (o := .tup (cutV xs lo hi)) (fun b ob q => Heap.get?_push_of_some _ q) (Nat.le_refl _) ?_, rfl, q _ (I.hok.fresh (Nat.le_refl _))⟩
  exact ⟨Nat.le_trans (cutV_length xs lo hi) hz, _, (r.drop (HT.sIx xs.length 0 lo)).take (HT.sIx xs.length xs.length hi - HT.sIx xs.length 0 lo), IsTup.new _ _⟩
noncomputable def rCatT (K : PySem.W.Frag) : R2 := fun x y H Q => ∃ a b xs ys, x = .ref a ∧ y = .ref b ∧ SqT K H a xs ∧ SqT K H b ys ∧ xs ≠ [] ∧ xs.length + ys.length ≤ sizeLine ∧
  (ys = [] → Q (.ref a) H) ∧ (ys ≠ [] → ∀ p, H p = none → Q (.ref p) (upd H p (.tup (xs ++ ys))))
theorem Vals.nil_iff {xs : List V} {us : List Value} (r : Vals xs us) : us = [] ↔ xs = [] := by
  cases r with
  | nil => simp
  | cons _ _ => simp
theorem op_catT : OpR X (binaryOp .Add) (rCatT X.K) := by
  intro pins s σ H x y v u Q I rx ry h
  obtain ⟨a, b, xs, ys, rfl, rfl, ha, hb, hx, hz, q1, q2⟩ := h
  cases rx
  cases ry
  obtain ⟨its, r1, p1, _⟩ := I.tuple ha
  obtain ⟨its2, r2, p2, _⟩ := I.tuple hb
  refine HT.cat_tup p1 p2 (fun z => hx (r1.nil_iff.mp z)) (fun z => ⟨.ref a, H, I, rfl, q1 (r2.nil_iff.mp z)⟩) (fun z => ?_) (by rw [← r1.length, ← r2.length]; exact hz)
  refine ⟨.ref s.heap.objs.size, _, I.laid (t' := s.toks) (o := .tup (xs ++ ys)) (fun b ob q => Heap.get?_push_of_some _ q) (Nat.le_refl _) ?_, rfl, q2 (fun w => z (r2.nil_iff.mpr w)) _ (I.hok.fresh (Nat.le_refl _))⟩
  exact ⟨by rw [List.length_append]; exact hz, _, r1.append r2, IsTup.new _ _⟩
end
noncomputable def ixN (n : Nat) (i : Int) : Option Nat := if 0 ≤ i then (if i < n then some i.toNat else none) else if -(n : Int) ≤ i then some (i + n).toNat else none
noncomputable def atI {α : Type} (xs : List α) (i : Int) : Option α := (ixN xs.length i).bind fun j => xs[j]?
theorem ixN_seq {n : Nat} {i : Int} {j : Nat} (h : ixN n i = some j) : seqIndex? i n = some j ∧ j < n ∧ -(n : Int) ≤ i ∧ i < n := by
  unfold ixN at h
  by_cases h0 : 0 ≤ i
  · rw [if_pos h0] at h
    by_cases h1 : i < n
    · rw [if_pos h1] at h
      have e : i.toNat = j := Option.some.inj h
      exact ⟨by rw [seqIndex_of h0 h1, e], by lia, by lia, h1⟩
    · rw [if_neg h1] at h; cases h
  · rw [if_neg h0] at h
    by_cases h1 : -(n : Int) ≤ i
    · rw [if_pos h1] at h
      have e : (i + n).toNat = j := Option.some.inj h
      exact ⟨by rw [seqIndex_neg (by lia) h1, e], by lia, h1, by lia⟩
    · rw [if_neg h1] at h; cases h
theorem atI_get {α : Type} {xs : List α} {i : Int} {v : α} (h : atI xs i = some v) : ∃ j, seqIndex? i xs.length = some j ∧ xs[j]? = some v ∧ j < xs.length ∧ -(xs.length : Int) ≤ i ∧ i < xs.length := by
  unfold atI at h
  cases e : ixN xs.length i with
  | none => rw [e] at h; cases h
  | some j =>
    rw [e] at h
    obtain ⟨h1, h2, h3, h4⟩ := ixN_seq e
    exact ⟨j, h1, h, h2, h3, h4⟩
theorem atI_nat {α : Type} {xs : List α} {j : Nat} {v : α} (h : xs[j]? = some v) : atI xs (j : Int) = some v := by
  have hj : j < xs.length := (List.getElem?_eq_some_iff.mp h).1
  have e : ixN xs.length (j : Int) = some j := by
    unfold ixN
    rw [if_pos (by lia), if_pos (by lia)]; simp
  unfold atI; rw [e]; exact h
noncomputable def PlainIx (b : Expr) : Prop := ∀ o i, subscripted b false o i = operate [o, i] (getItem o i)
noncomputable def IxR (X : Cx) (r : R2) : Prop :=
  ∀ (value slice : Expr) (pins : List (Addr × Obj)) (s : Shared) (σ : St) (H : Hp) (x y : V) (v u : Value) (Q : VK), Inv X pins σ H s → RelV x v → RelV y u → r x y H Q →
    subscripted slice false v u = operate [v, u] (getItem v u) → wpAny (model X.prog X.w) X.A (subscriptTail value slice v u) (EP X pins σ Q) X.xe s
noncomputable def MtR (X : Cx) (id : String) (r : V → List V → Hp → VK → Prop) : Prop :=
  ∀ (pins : List (Addr × Obj)) (s : Shared) (σ : St) (H : Hp) (x : V) (xs : List V) (v : Value) (us : List Value) (Q : VK), Inv X pins σ H s → RelV x v → Vals xs us → r x xs H Q →
    wpAny (model X.prog X.w) X.A (call (.builtin id) (v :: us)) (EP X pins σ Q) X.xe s
section
variable {X : Cx} {a b : Expr} {ta tb : TE} {pos : Pos}
theorem pe_ix {r : R2} (hr : IxR X r) (ha : PE X a ta) (hb : PE X b tb) (hs : PlainIx b) : PE X (.Subscript a b pos) (tOp r ta tb) := by
  intro pins s σ H Q I h
  exact Subscript_ (binT ha hb I h fun v u s2 x y H2 I2 rx ry q => hr a b pins s2 σ H2 x y v u Q I2 rx ry q (hs _ _))
inductive Ask_rIxL (K : PySem.W.Frag) (x : V) (y : V) (H : Hp) (Q : VK) : Prop where
  | mk (p xs i v : _) (q0_ : x = .ref p) (q1_ : y = .int i) (q2_ : SqL K H p xs) (q3_ : atI xs i = some v) (q4_ : Q v H) : Ask_rIxL K x y H Q
noncomputable def rIxL (K : PySem.W.Frag) : R2 := fun x y H Q => Ask_rIxL K x y H Q
inductive Ask_rIxT (K : PySem.W.Frag) (x : V) (y : V) (H : Hp) (Q : VK) : Prop where
  | mk (p xs i v : _) (q0_ : x = .ref p) (q1_ : y = .int i) (q2_ : SqT K H p xs) (q3_ : atI xs i = some v) (q4_ : Q v H) : Ask_rIxT K x y H Q
noncomputable def rIxT (K : PySem.W.Frag) : R2 := fun x y H Q => Ask_rIxT K x y H Q
theorem ix_list : IxR X (rIxL X.K) := by
  intro value slice pins s σ H x y v u Q I rx ry h hs
  obtain ⟨p, xs, i, z, rfl, rfl, hq, he, q⟩ := h
  cases rx
  obtain ⟨t, rfl⟩ := ry
  obtain ⟨its, r, pl, hz⟩ := I.list hq
  obtain ⟨j, h1, h2, h3, h4, h5⟩ := atI_get he
  obtain ⟨w, ew, rw'⟩ := r.get h2
  have hl := r.length
  have hn := line63
  have fin : EP X pins σ Q w s := ⟨z, H, I, rw', q⟩
  by_cases h0 : 0 ≤ i
  · have hj : i.toNat = j := by
      rw [seqIndex_of h0 h5] at h1
      exact Option.some.inj h1
    exact item_listR pl.isList h0 (by lia) (by rw [hj]; simpa using ew) fin hs
  · have hj : (i + (its.toArray.size : Int)).toNat = j := by
      rw [seqIndex_neg (by lia) h4] at h1
      rw [List.size_toArray, ← hl]
      exact Option.some.inj h1
    exact subscriptTail_builtinR (x := w) pl.isList.typeIs slot_list_getitem.lookup
      (wpAny_getItem_list_neg (Q := fun r s' => r = w ∧ EP X pins σ Q r s') pl.isList (by lia) (by rw [List.size_toArray] <;> lia) (by lia) (by rw [hj]; simpa using ew) ⟨rfl, fin⟩) hs
theorem ix_tup : IxR X (rIxT X.K) := by
  intro value slice pins s σ H x y v u Q I rx ry h hs
  obtain ⟨p, xs, i, z, rfl, rfl, hq, he, q⟩ := h
  cases rx
  obtain ⟨t, rfl⟩ := ry
  obtain ⟨its, r, pl, hz⟩ := I.tuple hq
  obtain ⟨j, h1, h2, h3, h4, h5⟩ := atI_get he
  obtain ⟨w, ew, rw'⟩ := r.get h2
  have hl := r.length
  have hn := line63
  have fin : EP X pins σ Q w s := ⟨z, H, I, rw', q⟩
  exact subscriptTail_builtinR (x := w) pl.typeIs slot_tuple_getitem.lookup
    (getItem_tuple (j := j) (Q := fun r s' => r = w ∧ EP X pins σ Q r s') pl (by lia) (by lia) (by rw [List.size_toArray, ← hl]; exact h1) (by simpa using ew) ⟨rfl, fin⟩) hs
theorem mapSeq_set (its : List Value) (n j : Nat) (u : Value) : Obj.mapSeq (·.setIfInBounds j u) { cls := .type "list", data := .seq its.toArray n } = { cls := .type "list", data := .seq (its.set j u).toArray n } := by
  simp [Obj.mapSeq]
theorem Inv.lst {pins : List (Addr × Obj)} {σ : St} {H : Hp} {s : Shared} {p : Addr} {xs : List V} (I : Inv X pins σ H s) (h : H p = some (.lst xs)) :
    ∃ (its : List Value) (n : Nat), Vals xs its ∧ s.heap.get? p = some { cls := .type "list", data := .seq its.toArray n } ∧ xs.length ≤ sizeLine := by
  obtain ⟨z, its, n, r, e⟩ := I.hok p _ h
  exact ⟨its, n, r, e, z⟩
theorem Inv.lstUpd {pins : List (Addr × Obj)} {σ : St} {H : Hp} {s : Shared} {p : Addr} {xs ys : List V} {its its' : List Value} {n n' : Nat} {f : Obj → Obj} (I : Inv X pins σ H s) (h : H p = some (.lst xs))
    (ho : s.heap.get? p = some { cls := .type "list", data := .seq its.toArray n }) (hf : f { cls := .type "list", data := .seq its.toArray n } = { cls := .type "list", data := .seq its'.toArray n' }) (r : Vals ys its') (hz : ys.length ≤ sizeLine) (t : Nat) :
    Inv X pins σ (upd H p (.lst ys)) { s with heap := s.heap.update p f, toks := t } := by
  have e : (s.heap.update p f).get? p = some { cls := .type "list", data := .seq its'.toArray n' } := by
    rw [Heap.get?_update_self f ho (by rw [hf] <;> rfl), hf]
  refine I.write (x := p) (e := p) (by rw [h]; trivial) (.inl rfl) (fun b u hb q => (Heap.get?_update_other _ _ (Ne.symm hb)).trans q) ⟨_, e⟩ ?_
  exact ⟨hz, its', n', r, e⟩
inductive Ask_rSetL (o : V) (i : V) (v : V) (H : Hp) (Q : (Hp → Prop)) : Prop where
  | mk (p xs k j : _) (q0_ : o = .ref p) (q1_ : i = .int k) (q2_ : H p = some (.lst xs)) (q3_ : ixN xs.length k = some j) (q4_ : Q (upd H p (.lst (xs.set j v)))) : Ask_rSetL  o i v H Q
noncomputable def rSetL : V → V → V → Hp → (Hp → Prop) → Prop := fun o i v H Q => Ask_rSetL  o i v H Q
theorem set_list : PSet X rSetL := by
  intro pins s σ H o i v ov iv u Q I ro ri rv h
  obtain ⟨p, xs, k, j, rfl, rfl, hp, hj, q⟩ := h
  cases ro
  obtain ⟨t, rfl⟩ := ri
  obtain ⟨its, n, r, ho, hz⟩ := I.lst hp
  obtain ⟨h1, h2, h3, h4⟩ := ixN_seq hj
  have hl := r.length
  have hn := line63
  have I' : Inv X pins σ (upd H p (.lst (xs.set j v))) { s with heap := s.heap.update p (Obj.mapSeq (·.setIfInBounds j u)) } :=
    I.lstUpd hp ho (mapSeq_set its n j u) (r.set rv j) (by rw [List.length_set]; exact hz) s.toks
  by_cases h0 : 0 ≤ k
  · have hk : k.toNat = j := by
      rw [seqIndex_of h0 h4] at h1
      exact Option.some.inj h1
    exact PySem.W.ki_setAt ho h0 (by lia) (by rw [List.size_toArray, ← hl]; exact h4) (by rw [hk]; exact ⟨_, I', q⟩)
  · have hk : (k + (its.toArray.size : Int)).toNat = j := by
      rw [seqIndex_neg (by lia) h3] at h1
      rw [List.size_toArray, ← hl]
      exact Option.some.inj h1
    exact PySem.W.ki_setBack ho (by lia) (by rw [List.size_toArray, ← hl]; exact h3) (by lia) (by rw [hk]; exact ⟨_, I', q⟩)
theorem slice_bounds (lo hi : Option Int) (n : Nat) : (sliceBounds lo hi none n).1 = ((HT.sIx n 0 lo : Nat) : Int) ∧ (sliceBounds lo hi none n).2.1 = ((HT.sIx n n hi : Nat) : Int) ∧ (sliceBounds lo hi none n).2.2 = 1 := by
  refine ⟨?_, ?_, rfl⟩
  · cases lo with
    | none => simp [sliceBounds, HT.sIx]
    | some i =>
      simp only [sliceBounds, HT.sIx, Option.getD_none, show (1 : Int) > 0 by decide, if_true]
      by_cases h : i < 0
      · simp only [h, if_true] <;> lia
      · simp only [h, if_false] <;> lia
  · cases hi with
    | none => simp [sliceBounds, HT.sIx]
    | some i =>
      simp only [sliceBounds, HT.sIx, Option.getD_none, show (1 : Int) > 0 by decide, if_true]
      by_cases h : i < 0
      · simp only [h, if_true] <;> lia
      · simp only [h, if_false] <;> lia
theorem slicePick_cut (its : List Value) (lo hi : Option Int) : slicePick its.toArray lo hi none = ((its.drop (HT.sIx its.length 0 lo)).take (HT.sIx its.length its.length hi - HT.sIx its.length 0 lo)).toArray := by
  obtain ⟨h1, h2, h3⟩ := slice_bounds lo hi its.toArray.size
  unfold slicePick
  rw [h1, h2, h3]
  simp only [sliceRange_one, pick_run, List.size_toArray] <;> rfl
inductive Ask_rSlL (K : PySem.W.Frag) (x : V) (lo : Option Int) (hi : Option Int) (H : Hp) (Q : VK) : Prop where
  | mk (a xs : _) (q0_ : x = .ref a) (q1_ : SqL K H a xs) (q2_ : ∀ p, H p = none → Q (.ref p) (upd H p (.lst (cutV xs lo hi)))) : Ask_rSlL K x lo hi H Q
noncomputable def rSlL (K : PySem.W.Frag) : V → Option Int → Option Int → Hp → VK → Prop := fun x lo hi H Q => Ask_rSlL K x lo hi H Q
theorem sl_list : SlR X (rSlL X.K) := by
  intro pins s σ H x v vl vu lo hi sl Q I rx hs pl pu h
  obtain ⟨a, xs, rfl, hx, q⟩ := h
  cases rx
  obtain ⟨its, r, ht, hz⟩ := I.list hx
  have hlen := r.length
  refine ⟨"list", _, slot_list_getitem.lookup, ht.isList.typeIs, ?_⟩
  refine wpAny_getItem_list_slice ht.isList hs pl pu .none (by simp) ?_ (by rw [List.size_toArray] <;> lia)
  rw [slicePick_cut, ← hlen]
  refine ⟨.ref s.heap.objs.size, _, I.laid (t' := s.toks) (o := .lst (cutV xs lo hi)) (fun b ob q => Heap.get?_push_of_some _ q) (Nat.le_refl _) ?_, rfl, q _ (I.hok.fresh (Nat.le_refl _))⟩
  exact ⟨Nat.le_trans (cutV_length xs lo hi) hz, _, 0, (r.drop (HT.sIx xs.length 0 lo)).take (HT.sIx xs.length xs.length hi - HT.sIx xs.length 0 lo), Heap.get?_push_size _ rfl⟩
theorem call_len_seq : CallR X (.builtin "len") (fun xs H Q => ∃ p ys, xs = [.ref p] ∧ (SqL X.K H p ys ∨ SqT X.K H p ys) ∧ Q (.int ys.length) H) := by
  intro pins s σ H xs us Q I r h
  obtain ⟨p, ys, rfl, hq, q⟩ := h
  obtain ⟨u, rfl, rx⟩ := vals1 r
  cases rx
  have hn := line63
  rcases hq with hq | hq
  · obtain ⟨its, r', pl, hz⟩ := I.list hq
    have hlen := r'.length
    exact Calls.call_len_list pl.isList (by simp only [List.size_toArray] <;> lia) ⟨.int ys.length, H, I.tok _, ⟨s.toks + 1, by rw [List.size_toArray, hlen]⟩, q⟩
  · obtain ⟨its, r', pl, hz⟩ := I.tuple hq
    have hlen := r'.length
    exact len_tuple pl (by simp only [List.size_toArray] <;> lia) ⟨.int ys.length, H, I.tok _, ⟨s.toks + 1, by rw [List.size_toArray, hlen]⟩, q⟩
theorem call_list_of : CallR X (.type "list") (fun xs H Q => ∃ p ys, xs = [.ref p] ∧ (SqL X.K H p ys ∨ SqT X.K H p ys) ∧ ∀ l, H l = none → Q (.ref l) (upd H l (.lst ys))) := by
  intro pins s σ H xs us Q I r h
  obtain ⟨p, ys, rfl, hq, q⟩ := h
  obtain ⟨u, rfl, rx⟩ := vals1 r
  cases rx
  have fin : ∀ (its : List Value), Vals ys its → ys.length ≤ sizeLine → ∀ (h' : Heap) (c' : Nat), (∀ b o', s.heap.get? b = some o' → h'.get? b = some o') →
      h'.get? s.heap.objs.size = some { cls := .type "list", dict := none, data := .seq its.toArray c', slots := #[] } → EP X pins σ Q (.ref s.heap.objs.size) { s with heap := h' } := fun its r' hz h' c' kp e =>
    ⟨.ref s.heap.objs.size, _, I.laid (t' := s.toks) kp (Nat.le_refl _) (show ObjOk X.prog X.w _ h' _ (.lst ys) from ⟨hz, its, c', r', e⟩), rfl, q _ (I.hok.fresh (Nat.le_refl _))⟩
  rcases hq with hq | hq
  · obtain ⟨its, r', pl, hz⟩ := I.list hq
    have hlen := r'.length
    obtain ⟨o, ho, hc, n, hd⟩ := pl.isList
    exact call_list_seq p (.inl rfl) ho hc hd (fun h' c' kp e => fin its r' hz h' c' kp e) (by simp only [List.size_toArray] <;> lia)
  · obtain ⟨its, r', pl, hz⟩ := I.tuple hq
    have hlen := r'.length
    obtain ⟨o, ho, hc, n, hd⟩ := pl
    exact call_list_seq p (.inr rfl) ho hc hd (fun h' c' kp e => fin its r' hz h' c' kp e) (by simp only [List.size_toArray] <;> lia)
theorem call_tuple_of : CallR X (.type "tuple") (fun xs H Q => ∃ p ys, xs = [.ref p] ∧ ((SqL X.K H p ys ∧ ∀ l, H l = none → Q (.ref l) (upd H l (.tup ys))) ∨ (SqT X.K H p ys ∧ Q (.ref p) H))) := by
  intro pins s σ H xs us Q I r h
  obtain ⟨p, ys, rfl, h⟩ := h
  obtain ⟨u, rfl, rx⟩ := vals1 r
  cases rx
  rcases h with ⟨hq, q⟩ | ⟨hq, q⟩
  · obtain ⟨its, r', pl, hz⟩ := I.list hq
    have hlen := r'.length
    refine call_tuple_list pl.isList (fun h' kp => ?_) (by simp only [List.size_toArray] <;> lia)
    have I1 : Inv X pins σ H { s with heap := h' } := I.kept (t' := s.toks) kp
    have I2 : Inv X pins σ (upd H h'.objs.size (.tup ys)) { s with heap := h'.push { cls := .type "tuple", data := .seq its.toArray } } :=
      I1.laid (t' := s.toks) (fun b o e => Heap.get?_push_of_some _ e) (Nat.le_refl _) (show ObjOk X.prog X.w _ _ _ (.tup ys) from ⟨hz, its, r', IsTup.new _ _⟩)
    exact ⟨.ref h'.objs.size, _, I2, rfl, q _ (I1.hok.fresh (Nat.le_refl _))⟩
  · obtain ⟨its, r', pl, hz⟩ := I.tuple hq
    exact call_tuple_same pl ⟨.ref p, H, I, rfl, q⟩
noncomputable def tyV (K : PySem.W.Frag) (T : String) (x : V) (H : Hp) : Prop := match x with
  | .str _ => T = "str"
  | .int _ => T = "int"
  | .ref p => (T = "list" ∧ ∃ xs, SqL K H p xs) ∨ (T = "tuple" ∧ ∃ o, K.lookup p = some o ∧ o.cls = .type "tuple" ∧ o.dict = none) ∨
      (T = "dict" ∧ ((∃ kvs, H p = some (.dK kvs)) ∨ ∃ kvs, H p = some (.dT kvs))) ∨ (T = "set" ∧ ∃ S n, H p = some (.set S n))
  | _ => False
theorem tyV_is {pins : List (Addr × Obj)} {σ : St} {H : Hp} {s : Shared} {T : String} {x : V} {v : Value} (I : Inv X pins σ H s) (r : RelV x v) (ty : tyV X.K T x H) :
    s.TypeIs v T ∧ ∀ a, v = .ref a → ∃ ob, s.heap.get? a = some ob ∧ ob.dict = none := by
  cases x with
  | str z =>
    obtain ⟨t, rfl⟩ := r
    cases (show T = "str" from ty)
    exact ⟨typeIs_str s z t, fun _ e => nomatch e⟩
  | int i =>
    obtain ⟨t, rfl⟩ := r
    cases (show T = "int" from ty)
    exact ⟨typeIs_int s i t, fun _ e => nomatch e⟩
  | ref p =>
    cases r
    rcases ty with ⟨rfl, xs, hq⟩ | ⟨rfl, o, hk, hc, hd⟩ | ⟨rfl, hk⟩ | ⟨rfl, S, n, hk⟩
    · obtain ⟨its, _, pl, _⟩ := I.list hq
      refine ⟨pl.isList.typeIs, fun a e => ?_⟩
      cases e
      obtain ⟨o, n, e, c, hd, _⟩ := pl
      exact ⟨o, e, hd⟩
    · refine ⟨⟨o, I.kIn p o hk, hc⟩, fun a e => ?_⟩
      cases e
      exact ⟨o, I.kIn _ o hk, hd⟩
    · have z : ∃ o, s.heap.get? p = some o ∧ o.ExactDict := by
        rcases hk with ⟨kvs, hk⟩ | ⟨kvs, hk⟩
        · obtain ⟨_, _, _, _, o, _, _, e, ex, _⟩ := I.hok p _ hk
          exact ⟨o, e, ex⟩
        · obtain ⟨_, _, _, _, o, _, _, e, ex, _⟩ := I.hok p _ hk
          exact ⟨o, e, ex⟩
      obtain ⟨o, e, ex⟩ := z
      refine ⟨⟨o, e, ex.1⟩, fun a e2 => ?_⟩
      cases e2
      exact ⟨o, e, ex.2.1⟩
    · obtain ⟨o, _, _, _, e, ex, _⟩ := I.hok p _ hk
      refine ⟨⟨o, e, ex.1⟩, fun a e2 => ?_⟩
      cases e2
      exact ⟨o, e, ex.2.1⟩
  | _ => exact False.elim ty
noncomputable def tBM (K : PySem.W.Frag) (T : String) (r : V → List V → Hp → VK → Prop) (to : TE) (t : TA) : TE := fun σ H Q => to σ H fun x H1 => tyV K T x H1 ∧ t σ H1 fun xs H2 => r x xs H2 Q
variable {o e : Expr} {es : List Expr} {to : TE} {t : TA} {name : Str} {apos cpos : Pos} {T id : String} {r : V → List V → Hp → VK → Prop}
theorem pe_bm (pa : PlainAttrs T) (slot : Slot T name id) (hty : typeOf (.builtin id) = pure (.type "method_descriptor")) (hm : MtR X id r) (ho : PE X o to) (ha : PA X (e :: es) t)
    (hbase : attributeBase o name X.env (eval o X.env) = eval o X.env := by rfl)
    (hfew : ((backTo cpos (starEach (e :: es) X.env)).all (fun x => !x.1) && (backToKw cpos (keywordEach [] X.env)).all (fun x => x.1.isSome)
      && decide ((e :: es).length + ([] : List Keyword).length + (if ([] : List Keyword).isEmpty then 0 else 1) < 30)) = true := by rfl)
    (hline : (apos.endLine == cpos.line) = true := by rfl) (hs : starEach (e :: es) X.env = (false, eval e X.env) :: starEach es X.env := by rfl) (hplain : (backTo cpos (starEach es X.env)).any (·.1) = false := by rfl) :
    PE X (.Call (.Attribute o name apos) (e :: es) [] cpos) (tBM X.K T r to t) := by
  intro pins s σ H Q I h
  refine wpAny_Call_method_late hbase hfew hline rfl (thn (ho pins s σ H _ I h) fun v s1 ⟨x, H1, I1, r1, ty, q1⟩ => ?_)
  obtain ⟨h1, h2⟩ := tyV_is I1 r1 ty
  refine ⟨T, id, pa, slot, hty, h1, h2, ?_⟩
  have hA := ha cpos pins s1 σ H1 _ I1 q1
  rw [hs] at hA ⊢
  refine Calls.callWith_builtin (by show (false || (backTo cpos (starEach es X.env)).any (·.1)) = false; rw [hplain] <;> rfl) (Calls.evalArgs_plain ?_)
  exact thn hA fun us s2 ⟨vs, H2, I2, r2, q2⟩ => hm pins s2 σ H2 x vs v us Q I2 r1 r2 q2
end
noncomputable def MtM (X : Cx) (id : String) (r : V → List V → Hp → VK → Prop) : Prop :=
  ∀ (pins : List (Addr × Obj)) (s : Shared) (σ : St) (H : Hp) (x : V) (xs : List V) (v : Value) (us : List Value) (Q : VK), Inv X pins σ H s → RelV x v → Vals xs us → r x xs H Q →
    wpAny (model X.prog X.w) X.A (call (.builtin id) (v :: us)) (EP X pins σ Q) X.xe s
theorem Vals.one : ∀ {x : V} {us : List Value}, Vals [x] us → ∃ u, us = [u] ∧ RelV x u
  | _, _, .cons r .nil => ⟨_, rfl, r⟩
theorem Vals.eraseIdx : ∀ {xs : List V} {us : List Value} (i : Nat), Vals xs us → Vals (xs.eraseIdx i) (us.eraseIdx i)
  | _, _, _, .nil => .nil
  | _, _, 0, .cons _ t => t
  | _, _, i + 1, .cons r t => .cons r (Vals.eraseIdx i t)
theorem Vals.rep {xs : List V} {us : List Value} (h : Vals xs us) : ∀ k : Nat, Vals (List.replicate k xs).flatten (List.replicate k us).flatten
  | 0 => .nil
  | k + 1 => by
    rw [List.replicate_succ, List.replicate_succ, List.flatten_cons, List.flatten_cons]
    exact Vals.append h (Vals.rep h k)
theorem len_erase {α : Type} : ∀ (l : List α) (i : Nat), (l.eraseIdx i).length ≤ l.length
  | [], _ => Nat.le_refl _
  | _ :: _, 0 => Nat.le_succ _
  | _ :: r, i + 1 => Nat.succ_le_succ (len_erase r i)
theorem foldl_rep (its : List Value) : ∀ (k : Nat) (acc : List Value),
    List.foldl (fun x1 x2 => x1 ++ x2) acc.toArray (List.replicate k its.toArray) = (acc ++ (List.replicate k its).flatten).toArray
  | 0, acc => by simp
  | k + 1, acc => by
    have e : acc.toArray ++ its.toArray = (acc ++ its).toArray := by simp
    have e2 : (acc ++ its) ++ (List.replicate k its).flatten = acc ++ (List.replicate (k + 1) its).flatten := by
      rw [List.replicate_succ, List.flatten_cons, List.append_assoc]
    rw [← e2, ← foldl_rep its k (acc ++ its), ← e, List.replicate_succ, List.foldl_cons]
section
variable {X : Cx} {pins : List (Addr × Obj)} {σ : St} {H : Hp} {s : Shared} {l b : Addr} {xs ys zs : List V}
theorem Inv.lset {its its' : List Value} {n : Nat} {f : Array Value → Array Value} {t' : Nat} (I : Inv X pins σ H s) (hH : H l = some (.lst xs))
    (e : s.heap.get? l = some { cls := .type "list", data := .seq its.toArray n }) (hf : f its.toArray = its'.toArray) (hv : Vals ys its') (hz : ys.length ≤ sizeLine) :
    Inv X pins σ (upd H l (.lst ys)) { s with heap := s.heap.update l (Obj.mapSeq f), toks := t' } := by
  have q := PySem.IsL.update e f
  rw [hf] at q
  refine I.write (x := l) (e := l) (by rw [hH]; exact trivial) (.inl rfl) (fun b' u hb hu => (Heap.get?_update_other s.heap (Obj.mapSeq f) (Ne.symm hb)).trans hu) ⟨_, q⟩ ?_
  exact ⟨hz, its', _, hv, q⟩
theorem Inv.lnew {its : List Value} {t' : Nat} (I : Inv X pins σ H s) (hv : Vals ys its) (hz : ys.length ≤ sizeLine) :
    Inv X pins σ (upd H s.heap.objs.size (.lst ys)) { s with heap := s.heap.push { cls := .type "list", data := .seq its.toArray }, toks := t' } :=
  I.laid (fun _ _ q => Heap.get?_push_of_some _ q) (Nat.le_refl _) ⟨hz, its, 0, hv, Heap.get?_push_size _ rfl⟩
theorem Inv.fresh (I : Inv X pins σ H s) : H s.heap.objs.size = none := I.hok.fresh (Nat.le_refl _)
theorem Inv.lstM (I : Inv X pins σ H s) (hH : H l = some (.lst xs)) : xs.length ≤ sizeLine ∧ ∃ (its : List Value) (n : Nat), Vals xs its ∧ xs.length = its.length ∧ s.heap.get? l = some { cls := .type "list", data := .seq its.toArray n } := by
  obtain ⟨z, its, n, r, e⟩ := I.hok l _ hH
  exact ⟨z, its, n, r, r.length, e⟩
theorem notLongL {n : Nat} (h : n ≤ sizeLine) : Builtin.List.listTooLong n = false := by
  unfold Builtin.List.listTooLong
  exact decide_eq_false (by lia)
end
section
variable {X : Cx}
inductive Ask_rAppend (x : V) (vs : List V) (H : Hp) (Q : VK) : Prop where
  | mk (l xs y : _) (q0_ : x = .ref l) (q1_ : vs = [y]) (q2_ : H l = some (.lst xs)) (q3_ : xs.length < sizeLine) (q4_ : Q .non (upd H l (.lst (xs ++ [y])))) : Ask_rAppend  x vs H Q
noncomputable def rAppend : V → List V → Hp → VK → Prop := fun x vs H Q => Ask_rAppend  x vs H Q
theorem mt_append : MtM X "list.append" rAppend := by
  intro pins s σ H x vs v us Q I rx rv h
  obtain ⟨l, xs, y, rfl, rfl, hH, hz, q⟩ := h
  cases rx
  obtain ⟨u, rfl, ru⟩ := rv.one
  obtain ⟨z, its, n, r, hl, e⟩ := I.lstM hH
  refine call_meets F.slot_list_append ⟨_, e, rfl⟩ F.entry_list_append (F.args_list_append_2 _ _) (PySem.list_append l its.toArray n u (by rw [List.size_toArray]; lia)) ⟨e, ?_⟩
  refine ⟨.non, _, I.lset (its' := its ++ [u]) hH e (by simp) (r.append (.cons ru .nil)) ?_, rfl, q⟩
  rw [List.length_append, List.length_singleton]
  lia
inductive Ask_rPopAt (x : V) (vs : List V) (H : Hp) (Q : VK) : Prop where
  | mk (l xs i k y : _) (q0_ : x = .ref l) (q1_ : vs = [.int i]) (q2_ : H l = some (.lst xs)) (q3_ : -(2 ^ 63) ≤ i) (q4_ : i < 2 ^ 63) (q5_ : seqIndex? i xs.length = some k) (q6_ : xs[k]? = some y) (q7_ : Q y (upd H l (.lst (xs.eraseIdx k)))) : Ask_rPopAt  x vs H Q
noncomputable def rPopAt : V → List V → Hp → VK → Prop := fun x vs H Q => Ask_rPopAt  x vs H Q
theorem mt_popAt : MtM X "list.pop" rPopAt := by
  intro pins s σ H x vs v us Q I rx rv h
  obtain ⟨l, xs, i, k, y, rfl, rfl, hH, h1, h2, hk, hy, q⟩ := h
  cases rx
  obtain ⟨u, rfl, ru⟩ := rv.one
  obtain ⟨t, rfl⟩ := ru
  obtain ⟨z, its, n, r, hl, e⟩ := I.lstM hH
  obtain ⟨w, hw, rw'⟩ := r.get hy
  refine call_meets F.slot_list_pop ⟨_, e, rfl⟩ F.entry_list_pop (F.args_list_pop_2 _ _)
    (MeetsSeq.list_pop_at l its.toArray n i t k w (fitsIndex_both h1 h2) (by rw [List.size_toArray, ← hl]; exact hk) (by rw [← Array.getElem?_toList]; exact hw) (by rw [List.size_toArray]; lia)) ⟨e, ?_⟩
  refine ⟨y, _, I.lset (its' := its.eraseIdx k) hH e ?_ (r.eraseIdx k) ?_, rw', q⟩
  · show its.toArray.eraseIdxIfInBounds k = (its.eraseIdx k).toArray
    rw [List.eraseIdxIfInBounds_toArray]
  · have := len_erase xs k
    lia
inductive Ask_rCat (x : V) (y : V) (H : Hp) (Q : VK) : Prop where
  | mk (l b xs zs : _) (q0_ : x = .ref l) (q1_ : y = .ref b) (q2_ : H l = some (.lst xs)) (q3_ : H b = some (.lst zs)) (q4_ : xs.length + zs.length ≤ sizeLine) (q5_ : ∀ p, H p = none → Q (.ref p) (upd H p (.lst (xs ++ zs)))) : Ask_rCat  x y H Q
noncomputable def rCat : R2 := fun x y H Q => Ask_rCat  x y H Q
theorem op_cat : OpR X (binaryOp .Add) rCat := by
  intro pins s σ H x y v u Q I rx ry h
  obtain ⟨l, b, xs, zs, rfl, rfl, hH, hB, hz, q⟩ := h
  cases rx
  cases ry
  obtain ⟨z, its, n, r, hl, e⟩ := I.lstM hH
  obtain ⟨z2, its2, n2, r2, hl2, e2⟩ := I.lstM hB
  refine PySem.P.add_list e e2 ?_ (by rw [List.size_toArray, List.size_toArray]; lia)
  have ea : its.toArray ++ its2.toArray = (its ++ its2).toArray := by simp
  rw [ea]
  exact ⟨.ref _, _, I.lnew (t' := s.toks) (r.append r2) (by rw [List.length_append]; lia), rfl, q _ I.fresh⟩
inductive Ask_rRep (x : V) (y : V) (H : Hp) (Q : VK) : Prop where
  | mk (l k xs : _) (q0_ : x = .ref l) (q1_ : y = .int k) (q2_ : H l = some (.lst xs)) (q3_ : -(2 ^ 63) ≤ k) (q4_ : k < 2 ^ 63) (q5_ : xs.length * k.toNat ≤ sizeLine) (q6_ : ∀ p, H p = none → Q (.ref p) (upd H p (.lst (List.replicate k.toNat xs).flatten))) : Ask_rRep  x y H Q
noncomputable def rRep : R2 := fun x y H Q => Ask_rRep  x y H Q
theorem len_rep {α : Type} (xs : List α) (k : Nat) : (List.replicate k xs).flatten.length = k * xs.length := by
  induction k with
  | zero => simp
  | succ k ih => rw [List.replicate_succ, List.flatten_cons, List.length_append, ih, Nat.succ_mul, Nat.add_comm]
theorem op_rep : OpR X (binaryOp .Mult) rRep := by
  intro pins s σ H x y v u Q I rx ry h
  obtain ⟨l, k, xs, rfl, rfl, hH, h1, h2, hz, q⟩ := h
  cases rx
  obtain ⟨t, rfl⟩ := ry
  obtain ⟨z, its, n, r, hl, e⟩ := I.lstM hH
  have hlen : its.toArray.size * k.toNat ≤ sizeLine := by rw [List.size_toArray, ← hl]; exact hz
  have hcap : ¬ its.toArray.size * k.toNat > (2 ^ 63 - 1) / 8 := by
    have : (sizeLine : Nat) ≤ (2 ^ 63 - 1) / 8 := by decide
    lia
  have hfit : ¬ (!Builtin.List.listFitsIndex k) = true := by
    rw [fitsIndex_both h1 h2]
    exact Bool.false_ne_true
  have hlong : ¬ Builtin.List.listTooLong (its.toArray.size * k.toNat) = true := by
    rw [notLongL hlen]
    exact Bool.false_ne_true
  have hnew : List.foldl (fun x1 x2 => x1 ++ x2) #[] (List.replicate (if its.toArray.isEmpty = true then 0 else k.toNat) its.toArray) = (List.replicate k.toNat its).flatten.toArray := by
    have f0 : ∀ m : Nat, List.foldl (fun x1 x2 => x1 ++ x2) #[] (List.replicate m its.toArray) = (List.replicate m its).flatten.toArray := fun m => by
      have := foldl_rep its m []
      rw [List.nil_append] at this
      exact this
    rw [f0]
    cases its with
    | nil => simp
    | cons a r' => rw [if_neg (by simp)]
  refine wpAny_binaryOp_repeat_ref (T := "list") (U := "int") (by decide) ⟨_, e, rfl⟩ (fun s' => typeIs_int s' k t) noFill_list_mul F.fills_int_mul F.slot_int_rmul repeat_list F.slot_int_index.lookup
    (call_meets F.slot_int_rmul (typeIs_int s k t) F.entry_int_rmul (F.args_int_rmul_2 _ _) (int___rmul___int_list k t l its.toArray n) ⟨e, rfl, ⟨_, e, rfl⟩, call_meets F.slot_list_mul ⟨_, e, rfl⟩ F.entry_list_mul (F.args_list_mul_2 _ _) (AutoListH.list___mul___list_int_3 l its.toArray n k t hfit hcap hlong) ⟨e, ?_⟩⟩)
  rw [hnew]
  exact ⟨.ref _, _, I.lnew (t' := s.toks) (r.rep k.toNat) (by rw [len_rep, Nat.mul_comm]; exact hz), rfl, q _ I.fresh⟩
end
section
variable {prog : Program} {w : World} {A : Around} {E : Value → Shared → Prop} {s : Shared}
end
section
variable {X : Cx}
end
end L2
namespace Att
open PySem PySem.W PySem.Calls PyProof.Rows
theorem ints_of_wellAll {P : Params} {h : Heap} : ∀ (ns : List Int) (vs : List Value), WellAll P h vs (ns.map WData.int) → IntsAre vs ns := by
  intro ns
  induction ns with
  | nil =>
    intro vs w
    rw [List.map_nil] at w
    cases w
    exact .nil
  | cons n ns ih =>
    intro vs w
    rw [List.map_cons] at w
    cases w with
    | cons a b =>
      cases a
      exact .cons _ _ (ih _ b)
theorem script_of {l : OpenLaw} {n : Nat} (hn : l.most = some n) {P : Params} {h : Heap} {args : List WData} {vals : List Value}
    (hpre : l.row.toRowW.claim.pre args = true) (hwl : WellAll P h vals args) :
    ∃ a vs ns, vals = [Value.ref a] ∧ args = [WData.list (ns.map WData.int)] ∧ h.get? a = some { cls := .type "list", data := .seq vs.toArray } ∧ IntsAre vs ns ∧ ns.length ≤ n := by
  have hsh : WShape.hasAll [] args [.list .int] = true := (pre_splitW hpre).1
  have hc : l.pre.holds [] { args := args } = true := (pre_splitW hpre).2
  obtain ⟨d, r, rfl, h1, h2⟩ := hasAllW_cons hsh
  obtain rfl := hasAllW_nil h2
  obtain ⟨xs, rfl, h3⟩ := hasW_list h1
  obtain ⟨ns, rfl⟩ := items_int h3
  have hlen : ns.length ≤ n := by
    unfold OpenLaw.pre at hc
    have h4 : (WTm.not (.lt (.lit (.int (n : Int))) (.len (.arg 0)))).holds [] { args := [.list (ns.map .int)] } = true := by
      have h4 := (holds_andW hc).1
      rw [hn] at h4
      exact h4
    have h5 := condW_of h4 (w_not (w_lt w_lit (w_len_list (w_arg rfl))))
    rw [List.length_map] at h5
    refine Nat.le_of_not_lt fun q => ?_
    have q' : (n : Int) < ((ns.length : Nat) : Int) := by lia
    first
      | (rw [decide_eq_true q'] at h5; exact absurd h5 (by decide))
      | (simp at h5; lia)
  cases hwl with
  | cons w1 w2 =>
    cases w2
    cases w1 with
    | list ho hall => exact ⟨_, _, ns, rfl, rfl, ho, ints_of_wellAll ns _ hall, hlen⟩
theorem post_true (l : OpenLaw) (args : List WData) : l.row.toRowW.claim.post args (.bool true) args = true :=
  postW_of (r := l.row.toRowW) (X := (true == true))
    (show WShape.has [] (.bool true) .bool = true by first | rfl | decide | simp [WShape.has, WShape.arms, WShape.armsAll])
    (show (WTm.eq .res (.lit (.bool true))).value [] { args := args, res := some (.bool true), after := args } = some (.bool (true == true)) from w_eq_bool (w_res rfl) w_lit) rfl
theorem attach_call {l : OpenLaw} {n : Nat} {q : Program} {loose : List Str} {XP : (Str → Option Value) → Heap → Prop} {YP : World → Heap → Prop} {d : DefRec}
    (hn : l.most = some n) (hdf : d.params.defaults = [])
    (call : ∀ (w : World) (s₀ s₁ : Shared) (mg mb : Str → Option Value) (fa : Addr) (o : Obj) (pm cd doc : Value) (a : Addr) (vs : List Value) (ns : List Int),
      Ground q loose [] XP w s₀ mg mb s₁.heap → YP w s₁.heap →
      s₁.heap.get? fa = some o → o.data = .func (docDef d.name d.params d.body d.scope pm cd doc) → s₁.heap.CodeRec cd d.name → mg d.name = some (.ref fa) →
      s₁.heap.get? a = some { cls := .type "list", data := .seq vs.toArray } → IntsAre vs ns → ns.length ≤ n → s₁.gens = #[] →
      codeAny (model l.prog w) callerA (.call (.ref fa) ⟨[.ref a], []⟩) (fun r s' => r = .ok (.ret (.bool true)) ∧ OldK s₁.heap s'.heap ∧ s'.os = s₁.os ∧ AllBare s'.gens) s₁) :
    WalkO q loose XP YP l.row.toRowW d [] (fun f vs => PySem.call f vs) := by
  intro w s₀ s₁ mg mb G Y fa o pm cd doc dV kV ho hd hcd hD hmg hg args vals as hpre hlay hrd hwl hlo
  obtain rfl : dV = .none := Dflts.none hD hdf
  obtain rfl : kV = .none := Dflts.noKw hD
  obtain ⟨a, vs, ns, rfl, rfl, hobj, hints, hlen⟩ := script_of hn hpre hwl
  refine enter_call (codeAny_mono (call w s₀ s₁ mg mb fa o pm cd doc a vs ns G Y ho (fd_plain hd) hcd hmg hobj hints hlen hg) fun r s' hq => ?_)
  obtain ⟨rfl, h2, h3, h4⟩ := hq
  exact ⟨.inl ⟨.bool true, .bool true, [], rfl, fun _ => rfl, .bool true, post_true l _, fun _ => ⟨List.Pairwise.nil, fun _ hm => (nomatch hm)⟩⟩, h2, h3, h4⟩
section
variable {prog : Program} {w : World} {A : Around} {E : Value → Shared → Prop} {s : Shared} {K : Frag}
end
end Att
namespace L2
open PySem PySem.Spec PyProof.Rows
theorem vals_ints : ∀ {vs : List Value} {ns : List Int}, IntsAre vs ns → Vals (ns.map V.int) vs
  | _, _, .nil => .nil
  | _, _, .cons n t h => .cons ⟨t, rfl⟩ (vals_ints h)
noncomputable def defArgs (s : Stmt) : Arguments := match s with
  | .FunctionDef _ a _ _ _ _ _ _ _ _ => a
  | _ => { posonlyargs := [], args := [], vararg := none, kwonlyargs := [], kw_defaults := [], kwarg := none, defaults := [] }
noncomputable def defBody (s : Stmt) : List Stmt := match s with
  | .FunctionDef _ _ b _ _ _ _ _ _ _ => b
  | _ => []
noncomputable def defScope (s : Stmt) : Scope := match s with
  | .FunctionDef _ _ _ _ _ _ sc _ _ _ => sc
  | _ => { kind := .function, names := [], isGenerator := false, isCoroutine := false }
noncomputable abbrev CX0 : CXT := fun _ _ _ _ _ _ => False
noncomputable abbrev E0 : XK := fun _ _ _ => False
theorem pass0 {X : Cx} : Passes CX0 X E0 := fun _ _ _ _ _ _ _ h => h.elim
structure Fun (K : PySem.W.Frag) (x qual : Str) (st : Stmt) (f : Addr) (fd : FuncData) : Prop where
  ex : ∃ (oc : Value) (od : Option Addr) (kV doc pm : Value) (an : Option Addr) (cdv ct : Value) (osl : Array (Option Value)),
    fd = PySem.W.fnOf x qual (defArgs st) (defBody st) (defScope st) .none kV doc pm an cdv ct ∧ K.lookup f = some ⟨oc, od, .func fd, osl⟩ ∧ PySem.W.codeIn K cdv qual = true
  kp : PySem.W.keepIn K (.ref f) = true
section
variable {P : Program} {w : World} {K : PySem.W.Frag} {mg : Str → Option Value} {base : Heap}
theorem Fun.ok {x qual : Str} {st : Stmt} {f : Addr} {fd : FuncData} {N ps : List Str} {k : Nat} {sp : Sp} (F : Fun K x qual st f fd) (S : FnScope N ps (defScope st)) (len : ∀ vs H Q E, sp vs H Q E → vs.length = ps.length)
    (hbody : ∀ (cdv : Value) (A : Around) (outer : List Env) (s : Shared) (H : Hp) (vs : List V) (Q : VK) (E : XK), Room k (A.deeper (envOfC qual (defScope st) s.heap.objs.size f cdv)) → sp vs H Q E →
      ∃ t, PSs (cxOf CX0 P w K mg base N qual (defScope st) f cdv A outer s H E).nox (defBody st) t ∧ t { nx := fun _ H' => Q .non H', rt := Q } (start N vs) H) : FnOk P w K mg base CX0 (k + 1) f fd ps sp := by
  obtain ⟨oc, od, kV, doc, pm, an, cdv, ct, osl, rfl, lk, hcd⟩ := F.ex
  refine fn_of lk hcd S len fun A outer s H vs Q E hr hsp => ?_
  obtain ⟨t, h, q⟩ := hbody cdv A outer s H vs Q E hr hsp
  exact ⟨t, h.nox, q⟩
theorem Fun.binds {x qual : Str} {st : Stmt} {f : Addr} {fd : FuncData} {ps : List Str} (F : Fun K x qual st f fd)
    (h : ∀ (kV doc pm : Value) (an : Option Addr) (cdv ct : Value) (us : List Value), us.length = ps.length → bindArgs (PySem.W.fnOf x qual (defArgs st) (defBody st) (defScope st) .none kV doc pm an cdv ct) ⟨us, []⟩ = pure (ps.zip us)) : Binds K fd ps [] := by
  obtain ⟨oc, od, kV, doc, pm, an, cdv, ct, osl, rfl, lk, hcd⟩ := F.ex
  exact .all (h kV doc pm an cdv ct)
theorem fun_mk {x qual : Str} {st : Stmt} {f : Addr} {oc : Value} {od an : Option Addr} {osl : Array (Option Value)} {kV doc pm cdv ct : Value} (l : K.lookup f = some ⟨oc, od, .func (PySem.W.fnOf x qual (defArgs st) (defBody st) (defScope st) .none kV doc pm an cdv ct), osl⟩)
    (c : PySem.W.codeIn K cdv qual = true) (k : PySem.W.keepIn K (.ref f) = true) : Fun K x qual st f (PySem.W.fnOf x qual (defArgs st) (defBody st) (defScope st) .none kV doc pm an cdv ct) := ⟨⟨oc, od, kV, doc, pm, an, cdv, ct, osl, rfl, l, c⟩, k⟩
end
theorem small1000 {n : Nat} (h : n ≤ 1000) : n < sizeLine := Nat.lt_of_le_of_lt h (by decide)
section
variable {X : Cx}
theorem pv (i : Nat) {x : Str} {pos : Pos} (hN : X.N[i]? = some x := by rfl) (hv : Vis X.env.scope x := by first | exact Or.inl rfl | exact Or.inr (Or.inl rfl) | exact Or.inr (Or.inr rfl)) (hd : (x == ("__debug__" : Str)) = false := by decide)
    (hcd : (x == ("__classdict__" : Str)) = false := by decide) : PE X (.Name x pos) (tVar i) := pe_var hN hv hd hcd
end
theorem iteF {A B : Prop} (h : B) : if false = true then A else B := by
  rw [if_neg Bool.false_ne_true]
  exact h
theorem iteT {A B : Prop} (h : A) : if true = true then A else B := by
  rw [if_pos rfl]
  exact h
theorem ite2 {c A B : Prop} [Decidable c] (h1 : c → A) (h2 : ¬ c → B) : if c then A else B := by
  by_cases h : c
  · rw [if_pos h]
    exact h1 h
  · rw [if_neg h]
    exact h2 h
theorem iteNS {c A B : Prop} [Decidable c] (hc : c) (h : B) : if (!decide c) = true then A else B := by
  rw [decide_eq_true hc]
  exact iteF h
noncomputable def Same (H H' : Hp) : Prop := ∀ b o, H b = some o → H' b = some o
theorem Same.refl (H : Hp) : Same H H := fun _ _ h => h
theorem Same.trans {H H1 H2 : Hp} (a : Same H H1) (b : Same H1 H2) : Same H H2 := fun c o h => b c o (a c o h)
theorem Same.seq {K : PySem.W.Frag} {H H' : Hp} {a : Addr} {xs : List V} (e : Same H H') (h : SqL K H a xs) : SqL K H' a xs := by
  rcases h with (h | ⟨o, h⟩) | h
  · exact .inl (.inl (e _ _ h))
  · exact .inl (.inr ⟨o, e _ _ h⟩)
  · exact .inr h
noncomputable def clOf (cells : List (Str × Addr)) : List (Str × NameKind) → List (Str × Addr) → List (Str × Addr)
  | [], acc => acc
  | (n, k) :: r, acc => if k == .free then clOf cells r ((n, (cells.lookup n).getD 0) :: acc) else clOf cells r acc
theorem closureFor_eq {scope : Scope} {env : Env} (h : ∀ x ∈ scope.names, x.2 = .free → ∃ c, env.cells.lookup x.1 = some c) : closureFor scope env = pure (clOf env.cells scope.names []) := by
  unfold closureFor
  have key : ∀ (names : List (Str × NameKind)) (acc : List (Str × Addr)), (∀ x ∈ names, x.2 = .free → ∃ c, env.cells.lookup x.1 = some c) →
      (forIn names acc (fun (x : Str × NameKind) (r : List (Str × Addr)) => (if (x.2 == NameKind.free) = true then do let c ← cellOf env x.1; pure (ForInStep.yield ((x.1, c) :: r)) else pure (ForInStep.yield r) : Sem (ForInStep (List (Str × Addr)))))) = pure (clOf env.cells names acc) := by
    intro names
    induction names with
    | nil => intro acc _; rfl
    | cons x r ih =>
      intro acc hx
      obtain ⟨n, k⟩ := x
      rw [List.forIn_cons]
      unfold clOf
      by_cases hk : (k == NameKind.free) = true
      · have hk' : k = .free := by simpa using hk
        obtain ⟨c, hc⟩ := hx (n, k) List.mem_cons_self hk'
        have hc' : env.cells.lookup n = some c := hc
        simp only [hk, if_true]
        have e1 : cellOf env n = pure c := by unfold cellOf; rw [hc']
        rw [e1, hc']
        exact ih ((n, c) :: acc) fun y hy => hx y (List.mem_cons_of_mem _ hy)
      · simp only [hk, if_false, Bool.false_eq_true]
        exact ih acc fun y hy => hx y (List.mem_cons_of_mem _ hy)
  have e := key scope.names [] h
  first
    | exact e
    | (simp only [bind_pure]; exact e)
theorem clOf_some {cells : List (Str × Addr)} {x : Str} {c : Addr} : ∀ (names : List (Str × NameKind)) (acc : List (Str × Addr)), (clOf cells names acc).lookup x = some c → acc.lookup x = some c ∨ ((x, NameKind.free) ∈ names ∧ c = (cells.lookup x).getD 0)
  | [], _, h => .inl h
  | (n, k) :: r, acc, h => by
    unfold clOf at h
    by_cases hk : (k == NameKind.free) = true
    · have hk' : k = .free := by simpa using hk
      rw [if_pos hk] at h
      rcases clOf_some r _ h with z | ⟨z, e⟩
      · rw [List.lookup_cons] at z
        cases hb : x == n with
        | true =>
          rw [hb] at z
          have e' : x = n := by simpa using hb
          subst e'
          subst hk'
          exact .inr ⟨List.mem_cons_self, (Option.some.inj z).symm⟩
        | false => rw [hb] at z; exact .inl z
      · exact .inr ⟨List.mem_cons_of_mem _ z, e⟩
    · rw [if_neg hk] at h
      rcases clOf_some r _ h with z | ⟨z, e⟩
      · exact .inl z
      · exact .inr ⟨List.mem_cons_of_mem _ z, e⟩
theorem clOf_has {cells : List (Str × Addr)} {x : Str} : ∀ (names : List (Str × NameKind)) (acc : List (Str × Addr)), ((x, NameKind.free) ∈ names ∨ (acc.lookup x).isSome = true) → ((clOf cells names acc).lookup x).isSome = true
  | [], _, h => by
    rcases h with h | h
    · cases h
    · exact h
  | (n, k) :: r, acc, h => by
    unfold clOf
    by_cases hk : (k == NameKind.free) = true
    · rw [if_pos hk]
      refine clOf_has r _ ?_
      rcases h with h | h
      · rcases (List.mem_cons.mp h) with (e | h)
        · cases e
          exact .inr (by rw [List.lookup_cons]; simp)
        · exact .inl h
      · refine .inr ?_
        rw [List.lookup_cons]
        cases hb : x == n <;> simp [h]
    · rw [if_neg hk]
      refine clOf_has r _ ?_
      rcases h with h | h
      · rcases (List.mem_cons.mp h) with (e | h)
        · cases e
          exact absurd rfl hk
        · exact .inl h
      · exact .inr h
theorem cellsFrom_app : ∀ (names : List (Str × NameKind)) (n : Nat) (acc : List (Str × Addr)), cellsFrom n names acc = cellsFrom n names [] ++ acc
  | [], _, _ => rfl
  | (x, k) :: r, n, acc => by
    unfold cellsFrom
    by_cases hk : (k == NameKind.cell) = true
    · rw [if_pos hk, if_pos hk, cellsFrom_app r (n + 1) ((x, n) :: acc), cellsFrom_app r (n + 1) [(x, n)], List.append_assoc]
      rfl
    · rw [if_neg hk, if_neg hk]
      exact cellsFrom_app r n acc
theorem cellsFrom_mem : ∀ (names : List (Str × NameKind)) (n : Nat) (x : Str) (c : Addr), (x, c) ∈ cellsFrom n names [] → (x, NameKind.cell) ∈ names
  | [], _, _, _, h => nomatch h
  | (y, k) :: r, n, x, c, h => by
    unfold cellsFrom at h
    by_cases hk : (k == NameKind.cell) = true
    · have hk' : k = .cell := by simpa using hk
      rw [if_pos hk, cellsFrom_app] at h
      refine (List.mem_append.mp h).elim (fun h => ?_) fun h => ?_
      · exact List.mem_cons_of_mem _ (cellsFrom_mem r _ x c h)
      · have e : (x, c) = (y, n) := by simpa using h
        cases e
        subst hk'
        exact List.mem_cons_self
    · rw [if_neg hk] at h
      exact List.mem_cons_of_mem _ (cellsFrom_mem r n x c h)
theorem lookup_app {α : Type} {x : Str} : ∀ (a b : List (Str × α)), (a ++ b).lookup x = (a.lookup x).or (b.lookup x)
  | [], _ => by simp
  | (y, v) :: r, b => by
    rw [List.cons_append, List.lookup_cons, List.lookup_cons]
    cases hb : x == y with
    | true => simp
    | false => exact lookup_app r b
theorem lookup_of_mem {α : Type} {x : Str} {v : α} : ∀ {l : List (Str × α)}, (l.map (·.1)).Nodup → (x, v) ∈ l → l.lookup x = some v
  | [], _, h => by cases h
  | (y, w) :: r, nd, h => by
    rw [List.map_cons, List.nodup_cons] at nd
    rw [List.lookup_cons]
    cases h with
    | head => simp
    | tail _ h =>
      have hne : (x == y) = false := by
        apply beq_false_of_ne
        intro hxy
        exact nd.1 (List.mem_map.mpr ⟨(x, v), h, hxy⟩)
      rw [hne]
      exact lookup_of_mem nd.2 h
theorem lookup_keyed {α β : Type} {x : Str} (f : Str × α → Str × β) (hf : ∀ p, (f p).1 = p.1) : ∀ (l : List (Str × α)), (l.map f).lookup x = (l.lookup x).map fun k => (f (x, k)).2
  | [] => rfl
  | (n, k) :: r => by
    obtain ⟨m, z⟩ : ∃ z, f (n, k) = (n, z) := ⟨(f (n, k)).2, Prod.ext (hf _) rfl⟩
    rw [List.map_cons, z, List.lookup_cons, List.lookup_cons]
    cases hx : x == n with
    | false => exact lookup_keyed f hf r
    | true => cases (beq_iff_eq.mp hx); simp [z]
theorem relabel_lookup {env : Env} {x : Str} (names : List (Str × NameKind)) : (names.map fun (n, k) => if (k == NameKind.free && env.scope.kind == .function && env.kindOf n == some .cell) then (n, NameKind.cell) else (n, k)).lookup x =
    (names.lookup x).map fun k => if (k == NameKind.free && env.scope.kind == .function && env.kindOf x == some .cell) = true then NameKind.cell else k := by
  rw [lookup_keyed _ (fun p => by dsimp only; split <;> rfl)]
  congr 1
  funext k
  dsimp only
  split <;> rfl
theorem newEnv_blk {M : Model} {A : Around} {E : Value → Shared → Prop} {s : Shared} {scope : Scope} {env : Env} {cl : List (Str × Addr)} {Q : Env → Shared → Prop}
    (q : Q (newEnv scope s.heap.objs.size env.globals (cellsFrom (s.heap.objs.size + 1) scope.names cl) env.qual none .none (some env) builtinsNs)
      { s with heap := pushCells (s.heap.push { cls := .type "dict", data := .dict #[] }) scope.names }) :
    wpAny M A (newFunctionEnv scope env.globals cl [] env.qual none .none (some env)) Q E s := by
  have z : (s.heap.push { cls := .type "dict", data := .dict #[] }).objs.size = s.heap.objs.size + 1 := Heap.size_push ..
  rw [← z] at q
  unfold newFunctionEnv
  have cells := wpAny_layCells (M := M) (A := A) (E := E) (fun x r => if (x.2 == NameKind.cell) = true then (do let c ← alloc { cls := .type "cell", data := .cell none }; pure (ForInStep.yield ((x.1, c) :: r))) else pure (ForInStep.yield r)) (fun _ _ _ => rfl) scope.names cl { s with heap := s.heap.push { cls := .type "dict", data := .dict #[] } }
  exact wpAny_bind (wpAny_alloc (wpAny_bind (cells _ (wpAny_bind (wpAny_pure (wpAny_pure q))))))
noncomputable def blk (X : Cx) (N : List Str) (scope : Scope) (cs : List (Str × Addr)) (C : Addr) (s₀ : Shared) (H₀ : Hp) (ex : List Addr) : Cx where
  prog := X.prog
  w := X.w
  K := X.K
  mg := X.mg
  base := X.base
  A := X.A
  N := N
  s₀ := s₀
  H₀ := H₀
  env := compEnvC scope cs C X.env
  outer := X.stack
  stack := X.stack
  ex := ex
  fn := fun x => scope.names.lookup x == some .cell
  calm := X.calm
  pn := []
  xe := fun _ _ => False
structure BlkScope (oN : List Str) (osc : Scope) (N : List Str) (own : Nat) (caps : List Nat) (scope : Scope) : Prop where
  kind : scope.kind = .function
  nd : N.Nodup
  ndn : (scope.names.map (·.1)).Nodup
  free : ∀ x ∈ scope.names, x.2 = .free → osc.names.lookup x.1 = some .cell ∨ osc.names.lookup x.1 = some .free
  len : N.length = own + caps.length
  cap : caps.map (fun i => oN[i]?) = (N.drop own).map some
  capf : ∀ x ∈ N.drop own, scope.names.lookup x = some .free
noncomputable def blkStart (own : Nat) (caps : List Nat) (σ : St) : St := List.replicate own none ++ caps.map fun i => (σ[i]?).join
noncomputable abbrev blkCells (X : Cx) (scope : Scope) (C : Addr) : List (Str × Addr) := cellsFrom (C + 1) scope.names (clOf X.env.cells scope.names [])
noncomputable abbrev blkHeap (h : Heap) (scope : Scope) : Heap := pushCells (h.push { cls := .type "dict", data := .dict #[] }) scope.names
section
variable {X : Cx} {pins : List (Addr × Obj)} {σ : St} {H : Hp} {s : Shared} {N : List Str} {own : Nat} {caps : List Nat} {scope : Scope} {ex : List Addr}
theorem blk_look (S : BlkScope X.N X.env.scope N own caps scope) (I : Inv X pins σ H s) (n : Nat) {x : Str} {c : Addr} (h : (cellsFrom n scope.names (clOf X.env.cells scope.names [])).lookup x = some c) :
    (x, c) ∈ cellsFrom n scope.names [] ∨ ((x, NameKind.free) ∈ scope.names ∧ X.env.cells.lookup x = some c) := by
  rw [cellsFrom_app, lookup_app] at h
  cases q : (cellsFrom n scope.names []).lookup x with
  | some c' =>
    rw [q] at h
    have e : c' = c := by simpa using h
    subst e
    exact .inl (PySem.mem_of_lookup q)
  | none =>
    rw [q] at h
    have h' : (clOf X.env.cells scope.names []).lookup x = some c := by simpa using h
    rcases clOf_some _ _ h' with z | ⟨z, e⟩
    · cases z
    · refine .inr ⟨z, ?_⟩
      obtain ⟨c', hc'⟩ := I.ok.has x (S.free (x, .free) z rfl)
      rw [hc'] at e ⊢
      rw [e]; rfl
theorem blk_capt (S : BlkScope X.N X.env.scope N own caps scope) (I : Inv X pins σ H s) (n : Nat) {x : Str} (hx : scope.names.lookup x = some .free) :
    ∃ c, X.env.cells.lookup x = some c ∧ (cellsFrom n scope.names (clOf X.env.cells scope.names [])).lookup x = some c := by
  have hm : (x, NameKind.free) ∈ scope.names := PySem.mem_of_lookup hx
  obtain ⟨c, hc⟩ := I.ok.has x (S.free (x, .free) hm rfl)
  refine ⟨c, hc, ?_⟩
  obtain ⟨c', hc'⟩ := Option.isSome_iff_exists.mp (clOf_has (cells := X.env.cells) (x := x) scope.names [] (.inl hm))
  have e0 : (cellsFrom n scope.names []).lookup x = none := by
    cases q : (cellsFrom n scope.names []).lookup x with
    | none => rfl
    | some d =>
      have := lookup_of_mem S.ndn (cellsFrom_mem _ _ _ _ (PySem.mem_of_lookup q))
      rw [hx] at this
      cases this
  rw [cellsFrom_app, lookup_app, e0, hc']
  rcases clOf_some _ _ hc' with z | ⟨_, e⟩
  · cases z
  · rw [hc] at e
    rw [e]; rfl
theorem inv_blk (S : BlkScope X.N X.env.scope N own caps scope) (I : Inv X pins σ H s) (hex : ∀ b ∈ ex, FpOk X pins H b ∧ b < s.heap.objs.size) :
    Inv (blk X N scope (blkCells X scope s.heap.objs.size) s.heap.objs.size s H ex) [] (blkStart own caps σ) H { s with heap := blkHeap s.heap scope } := by
  have k1 : ∀ b o, s.heap.get? b = some o → (blkHeap s.heap scope).get? b = some o := fun b o e => pushCells_keeps _ _ b o (Heap.get?_push_of_some _ e)
  have ok := cellsFrom_ok scope.names (s.heap.push { cls := .type "dict", data := .dict #[] }) (s.heap.objs.size + 1) [] ⟨fun _ _ hm => (nomatch hm), List.Pairwise.nil⟩ (by rw [Heap.size_push]; exact Nat.le_refl _)
  rw [Heap.size_push] at ok
  have oldc : ∀ x c, X.env.cells.lookup x = some c → c < s.heap.objs.size := fun x c e => by
    obtain ⟨v, q⟩ := I.cell x c e
    exact q.lt
  have kof : ∀ x, (compEnvC scope (blkCells X scope s.heap.objs.size) s.heap.objs.size X.env).kindOf x = (scope.names.lookup x).map fun k => if (k == NameKind.free && X.env.scope.kind == .function && X.env.kindOf x == some .cell) = true then NameKind.cell else k :=
    fun x => relabel_lookup (env := X.env) scope.names
  have kk : ∀ x, (compEnvC scope (blkCells X scope s.heap.objs.size) s.heap.objs.size X.env).kindOf x = some .cell ∨ (compEnvC scope (blkCells X scope s.heap.objs.size) s.heap.objs.size X.env).kindOf x = some .free →
      scope.names.lookup x = some .cell ∨ scope.names.lookup x = some .free := fun x h => by
    rw [kof] at h
    cases q : scope.names.lookup x with
    | none => rw [q] at h; rcases h with h | h <;> cases h
    | some k =>
      rw [q] at h
      by_cases hf : k = .free
      · exact .inr (by rw [hf])
      · have hb : (k == NameKind.free) = false := by simpa using hf
        have e : (some k).map (fun k => if (k == NameKind.free && X.env.scope.kind == .function && X.env.kindOf x == some .cell) = true then NameKind.cell else k) = some k := by
          simp [hf]
        rw [e] at h
        exact h
  refine ⟨⟨I.ok.mod, S.kind, I.ok.glob, I.ok.blt, Nat.le_refl _, fun x y c h1 h2 => ?_, fun x hx => ?_, fun x c hf h => ?_, I.ok.hd, I.ok.frames, .inl rfl, fun b hb => ⟨?_, fun x c h => ?_⟩, fun b o e => ?_, Nat.le_trans I.ok.bsz I.sz, fun b o e hb => ?_, fun b hb hf => ?_, I.stack, I.stkFree⟩,
    rfl, I.bare, Un.kept k1, ⟨fun _ => none, ?_, fun i x v h1 h2 h3 => ?_⟩, fun x c h => ?_, I.hok.fresh (Nat.le_refl _), fun x c h => ?_, fun p hp => absurd (show p ∈ ([] : List (Addr × Obj)) from hp) (by simp), I.hok.kept k1, ?_⟩
  ·
    rcases blk_look S I _ h1 with a1 | ⟨_, a1⟩ <;> rcases blk_look S I _ h2 with a2 | ⟨_, a2⟩
    · exact name_of_addr ok.apart a1 a2
    · exact absurd (oldc _ _ a2) (Nat.not_lt.mpr (Nat.le_of_succ_le (ok.empty _ _ a1).2))
    · exact absurd (oldc _ _ a1) (Nat.not_lt.mpr (Nat.le_of_succ_le (ok.empty _ _ a2).2))
    · exact I.ok.inj _ _ _ a1 a2
  ·
    rcases kk x hx with q | q
    · exact Option.isSome_iff_exists.mp (PySem.W.cellsFrom_some scope.names _ _ (.inl q))
    · obtain ⟨c, _, hc⟩ := blk_capt S I (s.heap.objs.size + 1) q
      exact ⟨c, hc⟩
  ·
    have hf' : scope.names.lookup x = some .cell := by simpa [blk] using hf
    rcases blk_look S I _ h with a | ⟨a, _⟩
    · exact Nat.le_of_succ_le (ok.empty _ _ a).2
    · rw [lookup_of_mem S.ndn a] at hf'
      cases hf'
  · exact Nat.ne_of_lt (hex b hb).2
  · rcases blk_look S I _ h with a | ⟨_, a⟩
    · exact Nat.ne_of_gt (Nat.lt_of_lt_of_le (hex b hb).2 (Nat.le_of_succ_le (ok.empty _ _ a).2))
    · exact (hex b hb).1.2.2.2.2.1 x c a
  · exact I.bs b o e
  · rcases (hex b hb).1.2.2.2.1 with z | z
    · exact I.ok.noex b o e z
    · exact absurd (Nat.lt_of_lt_of_le (Heap.lt_size e) (Nat.le_trans I.ok.bsz z)) (Nat.lt_irrefl _)
  · rcases List.mem_cons.mp (I.stkSub b hf) with z | z
    · exact (hex b hb).1.2.1 z
    · exact (hex b hb).1.2.2.1 z
  · exact (Heap.Ns.new s.heap (.type "dict")).keeps (pushCells_keeps _ _)
  ·
    have hi : own ≤ i := by
      refine Nat.le_of_not_lt fun hlt => ?_
      unfold blkStart at h2
      rw [List.getElem?_append_left (by simpa using hlt), List.getElem?_replicate] at h2
      split at h2 <;> cases h2
    obtain ⟨j, rfl⟩ : ∃ j, i = own + j := ⟨i - own, by lia⟩
    unfold blkStart at h2
    rw [List.getElem?_append_right (by simp), List.length_replicate, Nat.add_sub_cancel_left, List.getElem?_map] at h2
    cases hc : caps[j]? with
    | none => rw [hc] at h2; cases h2
    | some ci =>
      rw [hc] at h2
      have hσ : σ[ci]? = some (some v) := by
        have z : (σ[ci]?).join = some v := by simpa using h2
        cases q : σ[ci]? with
        | none => rw [q] at z; cases z
        | some o => rw [q] at z; have z' : o = some v := z; rw [z']
      have hNx : (N.drop own)[j]? = some x := by rw [List.getElem?_drop]; exact h1
      have hX : X.N[ci]? = some x := by
        have e := congrArg (fun l => l[j]?) S.cap
        simp only [List.getElem?_map, hc, hNx, Option.map_some] at e
        exact Option.some.inj e
      have hfr := S.capf x (List.mem_of_getElem? hNx)
      obtain ⟨c, hc1, hc2⟩ := blk_capt S I (s.heap.objs.size + 1) hfr
      obtain ⟨m, hn, hl⟩ := I.loc
      have hk := S.free (x, .free) (PySem.mem_of_lookup hfr) rfl
      have hvis : Vis X.env.scope x := .inr hk
      obtain ⟨u, ru, lk⟩ := hl ci x v hX hσ hvis
      refine ⟨u, ru, ?_⟩
      rcases lk with ⟨z, _⟩ | ⟨_, c', e', z⟩
      · have z' : X.env.scope.names.lookup x = some .local := z
        rcases hk with hk | hk
        · have hk' : X.env.scope.names.lookup x = some .cell := hk
          rw [z'] at hk'; cases hk'
        · have hk' : X.env.scope.names.lookup x = some .free := hk
          rw [z'] at hk'; cases hk'
      · rw [hc1] at e'
        cases e'
        refine .inr ⟨?_, c, hc2, z.keeps k1⟩
        show (compEnvC scope _ _ X.env).kindOf x = _ ∨ (compEnvC scope _ _ X.env).kindOf x = _
        rw [kof, hfr]
        show some (if _ then NameKind.cell else NameKind.free) = _ ∨ some (if _ then NameKind.cell else NameKind.free) = _
        split
        · exact .inl rfl
        · exact .inr rfl
  · rcases blk_look S I _ h with a | ⟨_, a⟩
    · exact ⟨_, (ok.empty _ _ a).1⟩
    · obtain ⟨v, q⟩ := I.cell x c a
      exact ⟨v, q.keeps k1⟩
  · rcases blk_look S I _ h with a | ⟨_, a⟩
    · exact I.hok.fresh (Nat.le_of_succ_le (ok.empty _ _ a).2)
    · exact I.freeC x c a
  · unfold blkStart
    show _ = N.length
    rw [S.len, List.length_append, List.length_replicate, List.length_map]
end
noncomputable def PTs (X : Cx) (ifs : List Expr) (t : TT) : Prop :=
  ∀ (pins : List (Addr × Obj)) (s : Shared) (σ : St) (H : Hp) (Q : Bool → Hp → Prop), Inv X pins σ H s → t σ H Q →
    wpAny (model X.prog X.w) X.A (forIn ifs true fun c r => if r = true then do let ok ← isTrue c X.env (eval c X.env); pure (ForInStep.yield ok) else pure (ForInStep.yield r)) (TP X pins σ Q) X.xe s
noncomputable def tTrue : TT := fun _ H Q => Q true H
theorem pts_nil {X : Cx} : PTs X [] tTrue := fun _ _ _ H _ I h => wpAny_tests_nil ⟨H, I, h⟩
theorem pts_one {X : Cx} {c : Expr} {t : TT} (h : PT X c t) : PTs X [c] t := fun pins s σ H Q I q => wpAny_tests_one (h pins s σ H Q I q)
noncomputable def TurnWp (M : Model) (A : Around) (env : Env) (it acc : Value) (tg elt : Expr) (ifs : List Expr) (E : Value → Shared → Prop) (fin more : Shared → Prop) : Shared → Prop :=
  let kept : Shared → Prop := fun u => wpAny M A (eval elt env) (fun x u5 => wpAny M A (call (.builtin "list.append") [acc, x]) (fun _ u6 => more u6) E u5) E u
  let tested : Shared → Prop := fun u => wpAny M A (forIn ifs true fun c r => if r = true then (do let ok ← isTrue c env (eval c env); pure (ForInStep.yield ok)) else pure (ForInStep.yield r)) (fun ok u4 => if ok = true then kept u4 else more u4) E u
  let taken : Value → Shared → Prop := fun v u => wpAny M A (letOwnedTupleGo tg it v) (fun _ u2 => wpAny M A (assign tg env v) (fun _ u3 => tested u3) E u2) E u
  fun u => wpAny M A (pyNext it) (fun o u1 => match o with | none => fin u1 | some v => taken v u1) E u
theorem loop_by {prog : Program} {w : World} {A : Around} {R : Result → Shared → Prop} {s : Shared} {elt tg iter : Expr} {ifs : List Expr} {scope : Scope} {pos : Pos} {it acc : Value} {env : Env} (I : Nat → Shared → Prop) (n : Nat) (start : I n s)
    (turn : ∀ m u, I m u → TurnWp (model prog w) A env it acc tg elt ifs (notedBy (model prog w) A env fun e v => R (.error e) v) (R (.ok .next)) (fun v => ∃ j, j < m ∧ I j v) u) :
    codeAny (model prog w) A (.compLoop (.ListComp elt [⟨tg, iter, ifs, 0⟩] scope pos) 0 it acc env) R s := by
  refine codeAny_loop rfl I (fun m u hu => wpAny_noted (m := compTurn (.ListComp elt [⟨tg, iter, ifs, 0⟩] scope pos) 0 it acc env) ?_) n start
  have go := turn m u hu
  unfold TurnWp at go
  rw [compTurn_list]
  refine wpAny_bind (wpAny_standAt (wpAny_bind (thn go fun o u1 b1 => ?_)))
  match o, b1 with
  | none, b1 => exact wpAny_pure b1
  | some v, b1 =>
    refine wpAny_bind (thn b1 fun _ u2 b2 => wpAny_bind (thn b2 fun _ u3 b3 => wpAny_bind (thn b3 fun ok u4 b4 => ?_)))
    match ok, b4 with
    | false, b4 => exact wpAny_pure ⟨rfl, b4⟩
    | true, b4 => exact wpAny_bind (wpAny_bind (thn b4 fun x u5 b5 => wpAny_bind (thn b5 fun _ u6 b6 => wpAny_pure (wpAny_pure ⟨rfl, b6⟩))))
noncomputable def CompW (J : It) (g : TG) (tt : TT) (te : TE) (Q : VK) (W : Nat → Nat → St → Hp → List V → Prop) : Prop :=
  ∀ i m σ' H' ys, W i m σ' H' ys →
    (J.stop i H' ∧ ys.length ≤ sizeLine ∧ ∀ p, H' p = none → Q (.ref p) (upd H' p (.lst ys))) ∨
    (J.go i H' ∧ ys.length < sizeLine ∧ ∃ N : St → Hp → List V → Prop, (∀ σ2 H2 zs, N σ2 H2 zs → ∃ m', m' < m ∧ W (i + 1) m' σ2 H2 zs) ∧
      ∀ x H2, J.yld i H' x H2 → g x σ' H2 fun σ3 H3 => tt σ3 H3 fun b H4 => if b = true then te σ3 H4 fun v H5 => N σ3 H5 (ys ++ [v]) else N σ3 H4 ys)
noncomputable def tComp (wi : TI) (own : Nat) (caps : List Nat) (g : TG) (tt : TT) (te : TE) : TE := fun σ H Q => wi σ H fun J H1 =>
  ∃ W : Nat → Nat → St → Hp → List V → Prop, (∃ m, W 0 m (blkStart own caps σ) H1 []) ∧ CompW J g tt te Q W
section
variable {X : Cx} {tg elt iter : Expr} {ifs : List Expr} {scope : Scope} {pos : Pos} {N : List Str} {own : Nat} {caps : List Nat} {wi : TI} {g : TG} {tt : TT} {te : TE}
theorem comp_run {pins : List (Addr × Obj)} {σ : St} {H2 : Hp} {s2 : Shared} {J : It} {fp : List Addr} {it : Addr} {tn : Nat → Heap → Prop} {Q : VK} {W : Nat → Nat → St → Hp → List V → Prop} {m0 : Nat}
    {E : Value → Shared → Prop} {R : Value → Addr → Result → Shared → Prop} (hc : X.calm = true) (S : BlkScope X.N X.env.scope N own caps scope)
    (hg : ∀ cs C s₀ H₀ ex, PG (blk X N scope cs C s₀ H₀ ex) tg g) (ht : ∀ cs C s₀ H₀ ex, PTs (blk X N scope cs C s₀ H₀ ex) ifs tt) (he : ∀ cs C s₀ H₀ ex, PE (blk X N scope cs C s₀ H₀ ex) elt te)
    (I2 : Inv X pins σ H2 s2) (T : Turn X.prog X.w X.K tg J fp it tn) (st2 : tn 0 s2.heap) (f2 : ∀ b ∈ fp, FpOk X pins H2 b)
    (w0 : W 0 m0 (blkStart own caps σ) H2 []) (turn : CompW J g tt te Q W)
    (hpost : ∀ D C s' H' ys, Inv X pins σ (upd H' D (.lst ys)) s' → FpOk X pins (upd H' D (.lst ys)) C → (∃ m, s'.heap.Ns C m) → Q (.ref D) (upd H' D (.lst ys)) → R (.ref D) C (.ok .next) s') :
    wpAny (model X.prog X.w) X.A (newList []) (fun acc s₃ => wpAny (model X.prog X.w) X.A (newFunctionEnv scope X.env.globals (clOf X.env.cells scope.names []) [] X.env.qual none .none (some X.env)) (fun cenv s₄ =>
      codeAny (model X.prog X.w) X.A (.compStart (.ListComp elt [⟨tg, iter, ifs, 0⟩] scope pos) 0 (.ref it) acc { cenv with scope := relabel scope X.env }) (R acc cenv.locals) s₄) E s₃) E s2 := by
  refine wpAny_newObj_type (newEnv_blk ?_)
  dsimp only
  generalize hh3 : s2.heap.push { cls := .type "list", dict := none, data := .seq ([] : List Value).toArray } = h3
  have hC : h3.objs.size = s2.heap.objs.size + 1 := by rw [← hh3, Heap.size_push]
  have up3 : ∀ b o, s2.heap.get? b = some o → h3.get? b = some o := fun b o e => hh3 ▸ Heap.get?_push_of_some _ e
  have I3 : Inv X pins σ H2 { s2 with heap := h3 } := I2.kept (t' := s2.toks) up3
  have gD : h3.get? s2.heap.objs.size = some { cls := .type "list", data := .seq ([] : List Value).toArray } := hh3 ▸ Heap.get?_push_size _ rfl
  have fD : FpOk X pins H2 s2.heap.objs.size := I2.fpOk (Nat.le_refl _) (I2.hok.fresh (Nat.le_refl _))
  have fplt : ∀ b ∈ fp, b < s2.heap.objs.size := fun b hb => by
    obtain ⟨o, e, _⟩ := T.obj 0 _ st2 b hb
    exact Heap.lt_size e
  have hex : ∀ b ∈ s2.heap.objs.size :: fp, FpOk X pins H2 b ∧ b < ({ s2 with heap := h3 } : Shared).heap.objs.size := fun b hb => by
    show _ ∧ b < h3.objs.size
    rw [hC]
    cases hb with
    | head => exact ⟨fD, Nat.lt_succ_self _⟩
    | tail _ hb => exact ⟨f2 b hb, Nat.lt_succ_of_lt (fplt b hb)⟩
  have IB := inv_blk S I3 hex
  generalize hY : blk X N scope (blkCells X scope h3.objs.size) h3.objs.size { s2 with heap := h3 } H2 (s2.heap.objs.size :: fp) = Y at IB
  have yP : Y.prog = X.prog := by rw [← hY]; rfl
  have yW : Y.w = X.w := by rw [← hY]; rfl
  have yK : Y.K = X.K := by rw [← hY]; rfl
  have yc : Y.calm = true := by rw [← hY]; exact hc
  have yA : Y.A = X.A := by rw [← hY]; rfl
  have yx : Y.xe = fun _ _ => False := by rw [← hY]; rfl
  have yL : Y.env.locals = h3.objs.size := by rw [← hY]; rfl
  have yex : Y.ex = s2.heap.objs.size :: fp := by rw [← hY]; rfl
  have yfs : Y.fs = frs X.stack := by rw [← hY]; rfl
  have ypn : Y.pn = [] := by rw [← hY]; rfl
  have yenv : Y.env = compEnvC scope (blkCells X scope h3.objs.size) h3.objs.size X.env := by rw [← hY]; rfl
  have yg : PG Y tg g := by rw [← hY]; exact hg _ _ _ _ _
  have yt : PTs Y ifs tt := by rw [← hY]; exact ht _ _ _ _ _
  have ye : PE Y elt te := by rw [← hY]; exact he _ _ _ _ _
  have yb : ∀ {σ' : St} {H' : Hp} {s' : Shared} {pn : List (Addr × Obj)}, Inv Y pn σ' H' s' → Un (frs X.stack) (s2.heap.objs.size :: fp) H2 H' h3 s'.heap := fun {σ' H' s' pn} J => by
    have b := J.base
    rw [yfs, yex] at b
    have e1 : Y.H₀ = H2 := by rw [← hY]; rfl
    have e2 : Y.s₀.heap = h3 := by rw [← hY]; rfl
    rw [e1, e2] at b
    exact b
  have yos : ∀ {σ' : St} {H' : Hp} {s' : Shared} {pn : List (Addr × Obj)}, Inv Y pn σ' H' s' → s'.os = s2.os := fun {σ' H' s' pn} J => by
    have e : Y.s₀.os = s2.os := by rw [← hY]; rfl
    exact J.os.trans e
  have DL : s2.heap.objs.size ≠ Y.env.locals := by rw [yL, hC]; exact Nat.ne_of_lt (Nat.lt_succ_self _)
  have Dfp : s2.heap.objs.size ∉ fp := fun z => Nat.lt_irrefl _ (fplt _ z)
  have exY : ∀ b ∈ s2.heap.objs.size :: fp, b ∈ Y.ex := fun b hb => by rw [yex]; exact hb
  have fpY : ∀ {pn : List (Addr × Obj)} {H' : Hp}, (∀ p ∈ pn, p.1 ∉ fp) → (∀ b ∈ fp, H' b = none) → ∀ b ∈ fp, FpOk Y pn H' b := fun {pn H'} hp hn b hb => by
    have hb' := exY b (List.mem_cons_of_mem _ hb)
    refine ⟨hn b hb, (IB.ok.exf b hb').1, IB.ok.exfs b hb', .inl hb', (IB.ok.exf b hb').2, fun p hp' z => ?_⟩
    rw [ypn, List.nil_append] at hp'
    exact hp p hp' (z ▸ hb)
  have up4 : ∀ b o, h3.get? b = some o → (blkHeap h3 scope).get? b = some o := fun b o e => pushCells_keeps _ _ b o (Heap.get?_push_of_some _ e)
  have st4 : tn 0 (blkHeap h3 scope) := T.keep 0 s2.heap _ st2 fun b _ o e => up4 b o (up3 b o e)
  have gD4 := up4 _ _ gD
  have loop : codeAny (model X.prog X.w) X.A (.compLoop (.ListComp elt [⟨tg, iter, ifs, 0⟩] scope pos) 0 (.ref it) (.ref s2.heap.objs.size) (compEnvC scope (blkCells X scope h3.objs.size) h3.objs.size X.env)) (R (.ref s2.heap.objs.size) h3.objs.size)
      { s2 with heap := blkHeap h3 scope } := by
    refine loop_by (fun n s' => ∃ i σ' H' ys its cap, Inv Y [] σ' H' s' ∧ tn i s'.heap ∧ (∀ b ∈ fp, H' b = none) ∧ H' s2.heap.objs.size = none ∧
      s'.heap.get? s2.heap.objs.size = some { cls := .type "list", data := .seq (its : List Value).toArray cap } ∧ Vals ys its ∧ W i n σ' H' ys) m0
      ⟨0, _, H2, [], [], _, IB, st4, fun b hb => (f2 b hb).1, fD.1, gD4, .nil, w0⟩ ?_
    rintro n s5 ⟨i, σ5, H5, ys, its, cap, I5, t5, fr5, nD5, gD5, rv5, w5⟩
    unfold TurnWp
    dsimp only
    have pin5 : Inv Y [(s2.heap.objs.size, { cls := .type "list", data := .seq its.toArray cap })] σ5 H5 s5 := I5.pins_of fun p hp => by
      have e := List.mem_singleton.mp hp
      subst e
      exact ⟨gD5, nD5, DL, IB.ok.exfs _ (exY _ List.mem_cons_self), fun v z => by cases z⟩
    have pno : ∀ p ∈ [((s2.heap.objs.size : Addr), ({ cls := .type "list", data := .seq its.toArray cap } : Obj))], p.1 ∉ fp := fun p hp => by
      have e := List.mem_singleton.mp hp
      subst e
      exact Dfp
    have fpo : ∀ {H' : Hp}, (∀ b ∈ fp, H' b = none) → ∀ b ∈ fp, FpOk Y [((s2.heap.objs.size : Addr), ({ cls := .type "list", data := .seq its.toArray cap } : Obj))] H' b := fun hn => fpY pno hn
    rcases turn i n σ5 H5 ys w5 with ⟨stop, hz, qn⟩ | ⟨go, hz, NN, hNN, step⟩
    · rw [← yA]
      refine wpAny_mono (T.done Y yP yW yK yc i _ s5 σ5 H5 (fun _ _ => False) pin5 (fpo fr5) t5 stop) (fun r s6 h6 => ?_) fun _ _ f => f.elim
      obtain ⟨hr, I6⟩ := h6
      subst hr
      have hp6 := I6.pin (s2.heap.objs.size, _) (List.mem_append_right _ (List.mem_singleton.mpr rfl))
      have nD : H2 s2.heap.objs.size = none := fD.1
      have base := yb I6
      have un : Un (frs X.stack) (s2.heap.objs.size :: fp) H2 (upd H5 s2.heap.objs.size (.lst ys)) h3 s6.heap := ⟨base.keep, base.slot, fun b o e n hx => by
          rw [upd_ne (fun z => hx (by rw [z]; exact List.mem_cons_self))]; exact base.free b o e n hx, base.there,
        fun b xs e => by rw [upd_ne (ne_of_none e nD)]; exact base.tups b xs e, fun b o u e => by rw [upd_ne (ne_of_none e nD)]; exact base.frzs b o u e, fun b ps e => by
          obtain ⟨more, q⟩ := base.tbls b ps e
          exact ⟨more, by rw [upd_ne (ne_of_none e nD)]; exact q⟩⟩
      have hok : HOk X.prog X.w (upd H5 s2.heap.objs.size (.lst ys)) s6.heap := fun b u e => by
        have hok6 := I6.hok
        rw [yP, yW] at hok6
        by_cases hb : b = s2.heap.objs.size
        · subst hb
          rw [upd_same] at e
          cases e
          exact ⟨hz, its, cap, rv5, hp6.1⟩
        · rw [upd_ne hb] at e
          exact (hok6 b u e).stay (fun c v _ q => q) (fun c q => by rw [upd_ne (ne_of_none q hp6.2.1)]; exact q) fun c xs q => by rw [upd_ne (ne_of_none q hp6.2.1)]; exact q
      have I7 : Inv X pins σ (upd H5 s2.heap.objs.size (.lst ys)) s6 := I3.call' (yos I6) un hok I6.bare fun b hb => by
        have z := (hex b hb).1
        exact ⟨z.2.2.2.1, z.2.1, z.2.2.2.2.1, z.2.2.2.2.2⟩
      have hCn : H5 h3.objs.size = none := by rw [← yL]; exact I6.free
      have CD : h3.objs.size ≠ s2.heap.objs.size := by rw [hC]; exact Nat.succ_ne_self _
      refine hpost _ _ s6 H5 ys I7 (I3.fpOk (Nat.le_refl _) (by rw [upd_ne CD]; exact hCn)) ?_ (qn _ nD5)
      obtain ⟨m, hn, _⟩ := I6.loc
      rw [yL] at hn
      exact ⟨m, hn⟩
    · rw [← yA]
      have lift : ∀ {α : Type} {t : Sem α} {Q1 Q2 : α → Shared → Prop} {s' : Shared}, wpAny (model X.prog X.w) Y.A t Q1 Y.xe s' → (∀ a s'', Q1 a s'' → Q2 a s'') →
          wpAny (model X.prog X.w) Y.A t Q2 (notedBy (model X.prog X.w) Y.A (compEnvC scope (blkCells X scope h3.objs.size) h3.objs.size X.env) fun e s' => R (.ref s2.heap.objs.size) h3.objs.size (.error e) s') s' := fun h k =>
        wpAny_mono h k fun _ _ f => by rw [yx] at f; exact f.elim
      refine lift (T.item Y yP yW yK yc i _ s5 σ5 H5 Y.xe pin5 (fpo fr5) t5 go) fun r s6 h6 => ?_
      obtain ⟨u, hr, h6⟩ := h6
      subst hr
      refine lift h6 fun _ s7 h7 => ?_
      obtain ⟨x, H7, I7, r7, y7, t7, fr7⟩ := h7
      have I7' := I7.pinned (fpo fr7) (T.obj _ _ t7)
      have ha := yg _ s7 σ5 H7 x u _ I7' r7 (step x H7 y7)
      rw [yP, yW, yenv] at ha
      refine lift ha fun _ s8 h8 => ?_
      obtain ⟨σ8, H8, I8, q8⟩ := h8
      have hb := yt _ s8 σ8 H8 _ I8 q8
      rw [yP, yW, yenv] at hb
      refine lift hb fun ok s9 h9 => ?_
      obtain ⟨H9, I9, q9⟩ := h9
      have after : ∀ {σ' : St} {H' : Hp} {s' : Shared}, Inv Y ([((s2.heap.objs.size : Addr), ({ cls := .type "list", data := .seq its.toArray cap } : Obj))] ++ pinsAt fp s7.heap) σ' H' s' →
          Inv Y [] σ' H' s' ∧ tn (i + 1) s'.heap ∧ (∀ b ∈ fp, H' b = none) ∧ H' s2.heap.objs.size = none ∧ s'.heap.get? s2.heap.objs.size = some { cls := .type "list", data := .seq its.toArray cap } := fun {σ' H' s'} J => by
        have pD := J.pin (s2.heap.objs.size, _) (List.mem_append_right _ (List.mem_append_left _ (List.mem_singleton.mpr rfl)))
        refine ⟨J.pins_of (fun p hp => by cases hp), T.keep _ _ _ t7 fun b hb o e => (J.pin (b, o) (List.mem_append_right _ (List.mem_append_right _ (mem_pinsAt hb e)))).1, fun b hb => ?_, pD.2.1, pD.1⟩
        obtain ⟨o, e, d⟩ := T.obj _ _ t7 b hb
        exact (J.pin (b, o) (List.mem_append_right _ (List.mem_append_right _ (mem_pinsAt hb e)))).2.1
      cases ok with
      | false =>
        rw [if_neg (by decide)] at q9
        rw [if_neg (by decide)]
        obtain ⟨m', hm, w9⟩ := hNN _ _ _ q9
        obtain ⟨a1, a2, a3, a4, a5⟩ := after I9
        exact ⟨m', hm, i + 1, σ8, H9, ys, its, cap, a1, a2, a3, a4, a5, rv5, w9⟩
      | true =>
        rw [if_pos rfl] at q9
        rw [if_pos rfl]
        have hd := ye _ s9 σ8 H9 _ I9 q9
        rw [yP, yW, yenv] at hd
        refine lift hd fun v s10 h10 => ?_
        obtain ⟨y, H10, I10, r10, n10⟩ := h10
        obtain ⟨m', hm, w10⟩ := hNN _ _ _ n10
        obtain ⟨a1, a2, a3, a4, a5⟩ := after I10
        have hlen := rv5.length
        refine append_at (hsz := by rw [List.size_toArray]; lia) a5 fun h' sb g' => ?_
        have hDx := exY _ (List.mem_cons_self (a := s2.heap.objs.size) (l := fp))
        have I11 : Inv Y [] σ8 H10 { s10 with heap := h' } := a1.turned (t' := s10.toks) (it := s2.heap.objs.size) (fun b o hb e => (sb.2 b hb).trans e) a4 DL (.inl hDx) (IB.ok.exf _ hDx).2 (by rw [ypn]; intro p hp; cases hp)
        refine ⟨m', hm, i + 1, σ8, H10, ys ++ [y], its ++ [v], cap + 1, I11, T.keep _ _ _ a2 fun b hb o e => (sb.2 b (fun z => Dfp (z ▸ hb))).trans e, a3, a4, ?_, rv5.snoc r10, w10⟩
        rw [g', List.push_toArray]
  exact codeAny_compStart_list loop (T.self X.A 0 _ _ _ st4 loop)
theorem comp_clos (S : BlkScope X.N X.env.scope N own caps scope) {pins : List (Addr × Obj)} {σ : St} {H : Hp} {s : Shared} (I : Inv X pins σ H s) : closureFor scope X.env = pure (clOf X.env.cells scope.names []) :=
  closureFor_eq fun x hx hk => I.ok.has x.1 (S.free x hx hk)
theorem pe_comp (hc : X.calm = true) (hi : PI X tg iter wi) (S : BlkScope X.N X.env.scope N own caps scope)
    (hg : ∀ cs C s₀ H₀ ex, PG (blk X N scope cs C s₀ H₀ ex) tg g) (ht : ∀ cs C s₀ H₀ ex, PTs (blk X N scope cs C s₀ H₀ ex) ifs tt) (he : ∀ cs C s₀ H₀ ex, PE (blk X N scope cs C s₀ H₀ ex) elt te)
    (hs : ∀ x, foldedSetIterable iter X.env x = pure x := by intro _; rfl) : PE X (.ListComp elt [⟨tg, iter, ifs, 0⟩] scope pos) (tComp wi own caps g tt te) := by
  intro pins s σ H Q I h
  rw [eval_ListComp]
  refine wpAny_comprehension_free (use := none) rfl hs (comp_clos S I) S.kind (fun x hx hl => lookup_of_mem S.ndn (by rw [← hl]; exact hx)) ?_
  refine thn (hi pins s σ H _ I h) fun v s1 h1 => thn h1 fun itv s2 h2 => ?_
  obtain ⟨it, fp, tn, J, H2, e, I2, T, st2, f2, W, ⟨m0, w0⟩, turn⟩ := h2
  subst e
  refine comp_run hc S hg ht he I2 T st2 f2 w0 turn fun D C s' H' ys I' F' hn q => ?_
  obtain ⟨m, hn⟩ := hn
  refine ⟨m, hn, fun h' sb => ⟨.ref D, _, I'.turned (t' := s'.toks) (fun b o hb e => (sb.2 b hb).trans e) F'.1 F'.2.1 F'.2.2.2.1 F'.2.2.2.2.1 F'.2.2.2.2.2, rfl, q⟩⟩
theorem ps_setComp {i : Nat} {x : Str} {pos' spos : Pos} (hc : X.calm = true) (hN : X.N.Nodup) (hix : X.N[i]? = some x) (hx : X.env.scope.names.lookup x = some .local) (hi : PI X tg iter wi) (S : BlkScope X.N X.env.scope N own caps scope)
    (hg : ∀ cs C s₀ H₀ ex, PG (blk X N scope cs C s₀ H₀ ex) tg g) (ht : ∀ cs C s₀ H₀ ex, PTs (blk X N scope cs C s₀ H₀ ex) ifs tt) (he : ∀ cs C s₀ H₀ ex, PE (blk X N scope cs C s₀ H₀ ex) elt te)
    (hsw : swapsWith (.ListComp elt [⟨tg, iter, ifs, 0⟩] scope pos) (some (.Name x pos')) spos.line X.env = pure true := by rfl)
    (hs : ∀ x, foldedSetIterable iter X.env x = pure x := by intro _; rfl) : PS X (.Assign [.Name x pos'] (.ListComp elt [⟨tg, iter, ifs, 0⟩] scope pos) spos) (tAsg (tComp wi own caps g tt te) (gName i)) := by
  intro pins s σ H D I h
  rw [exec_Assign_Name_used _ _ _ _ hsw]; refine wpAny_bind (wpAny_standAt (wpAny_bind ?_))
  show wpAny _ X.A (do let _ ← comprehension (.ListComp elt [⟨tg, iter, ifs, 0⟩] scope pos) scope X.env _ (newList []) false (eval iter X.env) (some (assign (.Name x pos') X.env))) _ _ s
  refine wpAny_bind (wpAny_mono (wpAny_comprehension_free (use := some (assign (.Name x pos') X.env)) (Q := fun _ s' => SP X pins D .next s') rfl hs (comp_clos S I) S.kind (fun x hx hl => lookup_of_mem S.ndn (by rw [← hl]; exact hx)) ?_) (fun _ s' hq => wpAny_pure (wpAny_pure hq)) fun _ _ e => e)
  refine thn (hi pins s σ H _ I h) fun v s1 h1 => thn h1 fun itv s2 h2 => ?_
  obtain ⟨it, fp, tn, J, H2, e, I2, T, st2, f2, W, ⟨m0, w0⟩, turn⟩ := h2
  subst e
  refine comp_run hc S hg ht he I2 T st2 f2 w0 turn fun D' C s' H' ys I' F' hn q => ?_
  obtain ⟨m, hn⟩ := hn
  refine wpAny_assign_Name (store_ok2 (v := .ref D') I' hN hix (.inl hx) rfl (fun s'' I'' h'' => ?_) (.inr hx))
  obtain ⟨a, sb, ha⟩ := h''
  have hCa : C ≠ a := by
    rcases ha with ha | ha
    · rw [ha]; exact F'.2.1
    · exact (F'.2.2.2.2.1 x a ha).symm
  exact ⟨m, hn.sameBut sb hCa, fun h' sb' => ⟨_, _, I''.turned (t' := s''.toks) (fun b o hb e => (sb'.2 b hb).trans e) F'.1 F'.2.1 F'.2.2.2.1 F'.2.2.2.2.1 F'.2.2.2.2.2, q⟩⟩
end
noncomputable def itKind (b : Bool) : String := match b with
  | true => "list_iterator"
  | false => "tuple_iterator"
noncomputable def sqKind (b : Bool) : String := match b with
  | true => "list"
  | false => "tuple"
noncomputable abbrev itRec (b : Bool) (a : Addr) (i : Nat) : Obj := { cls := .type (itKind b), data := .fields #[.ref a, .int i 0] }
noncomputable def itOf (b : Bool) (h : Heap) (it a : Addr) (i : Nat) : Prop := h.get? it = some (itRec b a i)
noncomputable def isSq (b : Bool) (h : Heap) (a : Addr) (its : Array Value) : Prop := ∃ o n, h.get? a = some o ∧ o.cls = .type (sqKind b) ∧ o.data = .seq its n
section
variable (it a : Addr) (i : Nat) (its : Array Value) (o : Obj) (n : Nat) (ed : o.data = .seq its n)
include ed
theorem step_tup (x : Value) (hx : its[i]? = some x) :
    Meets (Builtin.«tuple_iterator.__next__» ⟨[.ref it], []⟩) (fun _ R s => (s.heap.get? it = some (itRec false a i) ∧ s.heap.get? a = some o) ∧
      R (.ok (.ret x)) { s with heap := s.heap.update it (Obj.mapFields fun vs => vs.setIfInBounds 1 (rawInt ((i : Int) + 1))) }) :=
  .of_wp fun prog w A R s hyp => by
    obtain ⟨h, g, dr, tk, os⟩ := s
    obtain ⟨⟨e1, e2⟩, fin⟩ := hyp
    have hx' : its[((i : Nat) : Int).toNat]? = some x := by simpa using hx
    wp_walk
    rw [ed]
    wp_walk
    rw [hx']
    wp_walk
    exact ⟨_, rfl, fin⟩
theorem step_lst (x : Value) (hx : its[i]? = some x) :
    Meets (Builtin.«list_iterator.__next__» ⟨[.ref it], []⟩) (fun _ R s => (s.heap.get? it = some (itRec true a i) ∧ s.heap.get? a = some o) ∧
      R (.ok (.ret x)) { s with heap := s.heap.update it (Obj.mapFields fun vs => vs.setIfInBounds 1 (rawInt ((i : Int) + 1))) }) :=
  .of_wp fun prog w A R s hyp => by
    obtain ⟨h, g, dr, tk, os⟩ := s
    obtain ⟨⟨e1, e2⟩, fin⟩ := hyp
    have hx' : its[((i : Nat) : Int).toNat]? = some x := by simpa using hx
    wp_walk
    rw [ed]
    wp_walk
    rw [hx']
    wp_walk
    exact ⟨_, rfl, fin⟩
theorem stop_tup (hx : its[i]? = none) :
    Meets (Builtin.«tuple_iterator.__next__» ⟨[.ref it], []⟩) (fun A R s => A.handled = none ∧ (s.heap.get? it = some (itRec false a i) ∧ s.heap.get? a = some o) ∧
      ∀ h' e, (∀ b u, b ≠ it → s.heap.get? b = some u → h'.get? b = some u) → (∃ u, h'.get? e = some u ∧ u.cls = .type "StopIteration") → R (.error (.ref e)) { s with heap := h' }) :=
  .of_wp fun prog w A R s hyp => by
    obtain ⟨h, g, dr, tk, os⟩ := s
    obtain ⟨hh, ⟨e1, e2⟩, fin⟩ := hyp
    have hh' : A.in1.handled = none := hh
    have hx' : its[((i : Nat) : Int).toNat]? = none := by simpa using hx
    wp_walk
    rw [ed]
    wp_walk
    rw [hx']
    wp_walk
    unfold raiseNew
    wp_walk
    refine fin _ _ (fun b u hb q => ?_) ⟨_, Heap.get?_push_size _ rfl, rfl⟩
    exact Heap.get?_push_of_some _ (Heap.get?_push_of_some _ ((Heap.get?_update_other _ _ (Ne.symm hb)).trans q))
theorem stop_lst (hx : its[i]? = none) :
    Meets (Builtin.«list_iterator.__next__» ⟨[.ref it], []⟩) (fun A R s => A.handled = none ∧ (s.heap.get? it = some (itRec true a i) ∧ s.heap.get? a = some o) ∧
      ∀ h' e, (∀ b u, b ≠ it → s.heap.get? b = some u → h'.get? b = some u) → (∃ u, h'.get? e = some u ∧ u.cls = .type "StopIteration") → R (.error (.ref e)) { s with heap := h' }) :=
  .of_wp fun prog w A R s hyp => by
    obtain ⟨h, g, dr, tk, os⟩ := s
    obtain ⟨hh, ⟨e1, e2⟩, fin⟩ := hyp
    have hh' : A.in1.handled = none := hh
    have hx' : its[((i : Nat) : Int).toNat]? = none := by simpa using hx
    wp_walk
    rw [ed]
    wp_walk
    rw [hx']
    wp_walk
    unfold raiseNew
    wp_walk
    refine fin _ _ (fun b u hb q => ?_) ⟨_, Heap.get?_push_size _ rfl, rfl⟩
    exact Heap.get?_push_of_some _ (Heap.get?_push_of_some _ ((Heap.get?_update_other _ _ (Ne.symm hb)).trans q))
end
section
variable {prog : Program} {w : World} {A : Around} {E : Value → Shared → Prop} {s : Shared} {b : Bool} {it a : Addr} {i : Nat} {its : Array Value}
theorem itOf.moved (h : Heap) (e : itOf b h it a i) : itOf b (h.update it (Obj.mapFields fun vs => vs.setIfInBounds 1 (rawInt ((i : Int) + 1)))) it a (i + 1) := Heap.get?_update_self _ e rfl
theorem sq_next {x : Value} {Q : Value → Shared → Prop} (e1 : itOf b s.heap it a i) (e2 : isSq b s.heap a its) (hx : its[i]? = some x)
    (q : ∀ h', itOf b h' it a (i + 1) → Heap.SameBut it s.heap h' → Q x { s with heap := h' }) : wpAny (model prog w) A (Builtin.SmallTypes.nextOf (.ref it)) Q E s := by
  obtain ⟨o, n, eo, ec, ed⟩ := e2
  cases b <;> unfold Builtin.SmallTypes.nextOf
  · exact wpAny_bind (wpAny_callSpecial?_slot (T := "tuple_iterator") ⟨_, e1, rfl⟩ F.slot_tuple_iterator_next (call_meets F.slot_tuple_iterator_next ⟨_, e1, rfl⟩ F.entry_tuple_iterator_next (F.args_tuple_iterator_next_1 _) (step_tup it a i its o n ed x hx) ⟨⟨e1, eo⟩, wpAny_pure (q _ (itOf.moved _ e1) (Heap.SameBut.update ..))⟩))
  · exact wpAny_bind (wpAny_callSpecial?_slot (T := "list_iterator") ⟨_, e1, rfl⟩ slot_listiter_next (call_meets slot_listiter_next ⟨_, e1, rfl⟩ entry_listiter_next (args_listiter_next _) (step_lst it a i its o n ed x hx) ⟨⟨e1, eo⟩, wpAny_pure (q _ (itOf.moved _ e1) (Heap.SameBut.update ..))⟩))
theorem sq_stop {Q : Value → Shared → Prop} (hh : A.handled = none) (e1 : itOf b s.heap it a i) (e2 : isSq b s.heap a its) (hx : its[i]? = none)
    (q : ∀ h' e, Heap.ExtBut it s.heap h' → (∃ u, h'.get? e = some u ∧ u.cls = .type "StopIteration") → E (.ref e) { s with heap := h' }) : wpAny (model prog w) A (Builtin.SmallTypes.nextOf (.ref it)) Q E s := by
  obtain ⟨o, n, eo, ec, ed⟩ := e2
  cases b <;> unfold Builtin.SmallTypes.nextOf
  · exact wpAny_bind (wpAny_callSpecial?_slot (T := "tuple_iterator") ⟨_, e1, rfl⟩ F.slot_tuple_iterator_next (call_meets F.slot_tuple_iterator_next ⟨_, e1, rfl⟩ F.entry_tuple_iterator_next (F.args_tuple_iterator_next_1 _) (stop_tup it a i its o n ed hx) ⟨hh, ⟨e1, eo⟩, fun h' e k z => q h' e (fun c u hc y => k c u hc y) z⟩))
  · exact wpAny_bind (wpAny_callSpecial?_slot (T := "list_iterator") ⟨_, e1, rfl⟩ slot_listiter_next (call_meets slot_listiter_next ⟨_, e1, rfl⟩ entry_listiter_next (args_listiter_next _) (stop_lst it a i its o n ed hx) ⟨hh, ⟨e1, eo⟩, fun h' e k z => q h' e (fun c u hc y => k c u hc y) z⟩))
end
theorem draws_sq {prog : Program} {w : World} {A : Around} (b : Bool) (hh : A.handled = none) (it l : Addr) (hne : l ≠ it) (items : Array Value) :
    Draws prog w A it [it, l] items.size (fun i v => items[i]? = some v) (fun i h => itOf b h it l i ∧ isSq b h l items) := by
  refine ⟨fun i h st => ⟨_, st.1⟩, fun i h h' st k => ⟨k it (by simp) _ st.1, ?_⟩, fun i s Q E hi st q => ?_, fun s Q E st q => sq_stop hh st.1 st.2 (by simp) q⟩
  · obtain ⟨o, n, eo, r⟩ := st.2
    exact ⟨o, n, k l (by simp) o eo, r⟩
  · have hx : items[i]? = some items[i] := by simp [hi]
    refine sq_next st.1 st.2 hx fun h' e1 sb => q _ h' s.toks hx ⟨e1, ?_⟩ sb
    obtain ⟨o, n, eo, r⟩ := st.2
    exact ⟨o, n, (sb.2 l hne).trans eo, r⟩
structure ZipSep (z TI TO i1 i2 : Addr) (fp1 fp2 : List Addr) : Prop where
  dTz : TI ≠ z
  dOz : TO ≠ z
  d1z : i1 ≠ z
  d2z : i2 ≠ z
  dTO : TI ≠ TO
  dT1 : TI ≠ i1
  dT2 : TI ≠ i2
  dO1 : TO ≠ i1
  dO2 : TO ≠ i2
  d12 : i1 ≠ i2
  fz : z ∉ fp1 ∧ z ∉ fp2
  fO : TO ∉ fp1 ∧ TO ∉ fp2
  f2 : i2 ∉ fp1
  f1 : i1 ∉ fp2
section
variable {prog : Program} {w : World} {A : Around} {E : Value → Shared → Prop} {z TI TO i1 i2 : Addr} {fp1 fp2 : List Addr} {n1 n2 k : Nat} {P1 P2 : Nat → Value → Prop} {S1 S2 : Nat → Heap → Prop} {a b : Value}
theorem Draws.but {it : Addr} {fp : List Addr} {n : Nat} {P : Nat → Value → Prop} {St : Nat → Heap → Prop} (D : PySem.Draws prog w A it fp n P St) {c : Addr} {h h' : Heap} {k : Nat} (x : St k h) (hc : c ∉ fp) (sb : Heap.SameBut c h h') : St k h' :=
  D.frame _ _ _ x fun b hb o e => (sb.2 b fun z => hc (z ▸ hb)).trans e
noncomputable def ZKeep (z TO i1 i2 : Addr) (h h' : Heap) : Prop := ∀ c o, c ≠ z → c ≠ TO → c ≠ i1 → c ≠ i2 → h.get? c = some o → h'.get? c = some o
set_option maxHeartbeats 2000000 in
theorem zip_go {s : Shared} {Q : Value → Shared → Prop} (D1 : PySem.Draws prog w A i1 fp1 n1 P1 S1) (D2 : PySem.Draws prog w A i2 fp2 n2 P2 S2) (D : ZipSep z TI TO i1 i2 fp1 fp2)
    (hz : IsZip s.heap z TI TO .none) (hT : IsPair s.heap TI (.ref i1) (.ref i2)) (hO : IsPair s.heap TO a b) (h1 : S1 k s.heap) (h2 : S2 k s.heap) (l1 : k < n1) (l2 : k < n2)
    (q : ∀ x y h' t, P1 k x → P2 k y → IsZip h' z TI TO (rawInt s.heap.objs.size) → IsPair h' TO x y → S1 (k + 1) h' → S2 (k + 1) h' → IsPair h' s.heap.objs.size x y → h'.objs.size = s.heap.objs.size + 1 → ZKeep z TO i1 i2 s.heap h' →
      Q (.ref s.heap.objs.size) { s with heap := h', toks := t }) : wpAny (model prog w) A (Builtin.«zip.__next__» ⟨[.ref z], []⟩) (fun fin s' => ∃ v, fin = .done (.ret v) ∧ Q v s') E s := by
  obtain ⟨h, g, dr, tk, os⟩ := s
  have hz' : h.get? z = some _ := hz
  have hT' : h.get? TI = some _ := hT
  wp_walk using wpAny_onRaise, D1.item k _ _ _ l1
  · exact Draws.but D1 h1 D.fz.1 (Heap.SameBut.update ..)
  intro x ha ta p1 sa ka
  replace ka : Heap.SameBut i1 (h.update z _) ha := ka
  have zz := Heap.SameBut.update h z (Obj.mapFields fun vs => vs.setIfInBounds 0 Value.ellipsis)
  have hOa : ha.get? TO = some _ := ((ka.2 TO D.dO1).trans (zz.2 TO D.dOz)).trans hO
  have tt := Heap.SameBut.update ha TO (Obj.mapSeq fun vs => vs.setIfInBounds 0 x)
  wp_walk using wpAny_onRaise, wpAny_updateSeq hOa rfl, D2.item k _ _ _ l2
  all_goals try exact Draws.but D2 (Draws.but D2 (Draws.but D2 h2 D.fz.2 zz) D.f1 ka) D.fO.2 tt
  intro y hb tb p2 sb kb
  replace kb : Heap.SameBut i2 (ha.update TO _) hb := kb
  have hOb : hb.get? TO = some { cls := .type "tuple", data := .seq #[x, b] } := by
    rw [kb.2 TO D.dO2, Heap.get?_update_self _ hOa rfl]
    simp [Obj.mapSeq]
  have hzb : hb.get? z = some { cls := .type "zip", dict := none, data := .fields #[.ellipsis, .bool false, .bool false, .ref TI, .ref TO], slots := #[] } := by
    rw [kb.2 z D.d2z.symm, tt.2 z D.dOz.symm, ka.2 z D.d1z.symm, Heap.get?_update_self _ hz' rfl]
    simp [Obj.mapFields]
  have nz : TO ≠ z := D.dOz
  wp_walk using wpAny_updateSeq hOb rfl
  refine ⟨_, rfl, ?_⟩
  dsimp only
  have sz : hb.objs.size = h.objs.size := by rw [kb.1, tt.1, ka.1, zz.1]
  have uu := Heap.SameBut.update hb TO (Obj.mapSeq fun vs => vs.setIfInBounds (0 + 1) y)
  have hOc : (hb.update TO (Obj.mapSeq fun vs => vs.setIfInBounds (0 + 1) y)).get? TO = some { cls := .type "tuple", data := .seq #[x, y] } := by
    rw [Heap.get?_update_self _ hOb rfl]
    simp [Obj.mapSeq]
  have ex : (#[x, b].setIfInBounds (0 + 1) y).toList.toArray = #[x, y] := by simp
  rw [ex]
  generalize hb.update TO (Obj.mapSeq fun vs => vs.setIfInBounds (0 + 1) y) = hc at uu hOc ⊢
  have szc : hc.objs.size = h.objs.size := uu.1.trans sz
  have new := Heap.get?_push_size hc (o := { cls := .type "tuple", data := .seq #[x, y] }) rfl
  have szp := Heap.size_push hc { cls := .type "tuple", data := .seq #[x, y] }
  have old : ∀ c o, hc.get? c = some o → (hc.push { cls := .type "tuple", data := .seq #[x, y] }).get? c = some o := fun c o e => Heap.get?_push_of_some _ e
  rw [szc] at new szp ⊢
  generalize hc.push { cls := .type "tuple", data := .seq #[x, y] } = hp at new szp old ⊢
  have hzp := old z _ ((uu.2 z D.dOz.symm).trans hzb)
  have v1 := Heap.SameBut.update hp z (Obj.mapFields fun vs => vs.setIfInBounds 0 (rawInt h.objs.size))
  have v2 := Heap.SameBut.update (hp.update z (Obj.mapFields fun vs => vs.setIfInBounds 0 (rawInt h.objs.size))) z (Obj.mapFields fun vs => vs.setIfInBounds 1 (Value.bool false))
  have hzF : ((hp.update z (Obj.mapFields fun vs => vs.setIfInBounds 0 (rawInt h.objs.size))).update z (Obj.mapFields fun vs => vs.setIfInBounds 1 (Value.bool false))).get? z = some { cls := .type "zip", dict := none, data := .fields #[rawInt h.objs.size, .bool false, .bool false, .ref TI, .ref TO], slots := #[] } := by
    rw [Heap.get?_update_self _ (Heap.get?_update_self _ hzp rfl) rfl]
    simp [Obj.mapFields]
  have fwd : ∀ c o, c ≠ z → hc.get? c = some o → ((hp.update z (Obj.mapFields fun vs => vs.setIfInBounds 0 (rawInt h.objs.size))).update z (Obj.mapFields fun vs => vs.setIfInBounds 1 (Value.bool false))).get? c = some o := fun c o ne e => ((v2.2 c ne).trans (v1.2 c ne)).trans (old c o e)
  have szF := (v2.1.trans v1.1).trans szp
  have newF := ((v2.2 h.objs.size (Nat.ne_of_gt (Heap.lt_size hz'))).trans (v1.2 h.objs.size (Nat.ne_of_gt (Heap.lt_size hz')))).trans new
  generalize (hp.update z (Obj.mapFields fun vs => vs.setIfInBounds 0 (rawInt h.objs.size))).update z (Obj.mapFields fun vs => vs.setIfInBounds 1 (Value.bool false)) = hF at hzF fwd szF newF ⊢
  refine q x y hF tb p1 p2 hzF (fwd TO _ D.dOz hOc) (D1.frame _ _ _ (Draws.but D1 (Draws.but D1 (Draws.but D1 sa D.fO.1 tt) D.f2 kb) D.fO.1 uu) fun c hm o e => fwd c o (fun j => D.fz.1 (j ▸ hm)) e)
    (D2.frame _ _ _ (Draws.but D2 sb D.fO.2 uu) fun c hm o e => fwd c o (fun j => D.fz.2 (j ▸ hm)) e) newF szF fun c o n1 n2 n3 n4 e => fwd c o n1 ?_
  rw [uu.2 c n2, kb.2 c n4, tt.2 c n2, ka.2 c n3, zz.2 c n1]
  exact e
end
section
variable {prog : Program} {w : World} {A : Around} {E : Value → Shared → Prop} {z TI TO i1 i2 : Addr} {fp1 fp2 : List Addr} {n1 n2 k : Nat} {P1 P2 : Nat → Value → Prop} {S1 S2 : Nat → Heap → Prop} {a b : Value}
set_option maxHeartbeats 2000000 in
theorem zip_end {s : Shared} {Q : Fin → Shared → Prop} (D1 : PySem.Draws prog w A i1 fp1 n1 P1 S1) (D2 : PySem.Draws prog w A i2 fp2 n2 P2 S2) (D : ZipSep z TI TO i1 i2 fp1 fp2)
    (hz : IsZip s.heap z TI TO .none) (hT : IsPair s.heap TI (.ref i1) (.ref i2)) (hO : IsPair s.heap TO a b) (h1 : S1 k s.heap) (h2 : S2 k s.heap) (hend : k = n1 ∨ (k < n1 ∧ k = n2))
    (q : ∀ h' e t, ZKeep z TO i1 i2 s.heap h' → (∃ o, h'.get? e = some o ∧ o.cls = .type "StopIteration") → E (.ref e) { s with heap := h', toks := t }) : wpAny (model prog w) A (Builtin.«zip.__next__» ⟨[.ref z], []⟩) Q E s := by
  obtain ⟨h, g, dr, tk, os⟩ := s
  have hz' : h.get? z = some _ := hz
  have hT' : h.get? TI = some _ := hT
  have zz := Heap.SameBut.update h z (Obj.mapFields fun vs => vs.setIfInBounds 0 Value.ellipsis)
  have hzz : (h.update z (Obj.mapFields fun vs => vs.setIfInBounds 0 Value.ellipsis)).get? z = some { cls := .type "zip", dict := none, data := .fields #[.ellipsis, .bool false, .bool false, .ref TI, .ref TO], slots := #[] } := by
    rw [Heap.get?_update_self _ hz' rfl]
    simp [Obj.mapFields]
  rcases hend with rfl | ⟨l1, rfl⟩
  · wp_walk using wpAny_onRaise, D1.done
    all_goals try exact Draws.but D1 h1 D.fz.1 zz
    intro hx e kx ⟨oe, xe, xc⟩
    have hzx : hx.get? z = some _ := kx z _ D.d1z.symm hzz
    have nez : e ≠ z := fun y => by
      subst y
      rw [hzx] at xe
      cases xe
      simp at xc
    wp_walk
    have vv := Heap.SameBut.update hx z (Obj.mapFields fun vs => vs.setIfInBounds 0 Value.none)
    exact q _ e _ (fun c o m1 m2 m3 m4 y => (vv.2 c m1).trans (kx c o m3 ((zz.2 c m1).trans y))) ⟨oe, (vv.2 e nez).trans xe, xc⟩
  · wp_walk using wpAny_onRaise, D1.item k _ _ _ l1
    all_goals try exact Draws.but D1 h1 D.fz.1 zz
    intro x ha ta p1 sa ka
    replace ka : Heap.SameBut i1 (h.update z _) ha := ka
    have hOa : ha.get? TO = some _ := ((ka.2 TO D.dO1).trans (zz.2 TO D.dOz)).trans hO
    have tt := Heap.SameBut.update ha TO (Obj.mapSeq fun vs => vs.setIfInBounds 0 x)
    wp_walk using wpAny_onRaise, wpAny_updateSeq hOa rfl, D2.done
    all_goals try exact Draws.but D2 (Draws.but D2 (Draws.but D2 h2 D.fz.2 zz) D.f1 ka) D.fO.2 tt
    intro hx e kx ⟨oe, xe, xc⟩
    replace kx : Heap.ExtBut i2 (ha.update TO _) hx := kx
    have hzx : hx.get? z = some _ := kx z _ D.d2z.symm ((tt.2 z D.dOz.symm).trans ((ka.2 z D.d1z.symm).trans hzz))
    have nez : e ≠ z := fun y => by
      subst y
      rw [hzx] at xe
      cases xe
      simp at xc
    wp_walk
    have vv := Heap.SameBut.update hx z (Obj.mapFields fun vs => vs.setIfInBounds 0 Value.none)
    exact q _ e _ (fun c o m1 m2 m3 m4 y => (vv.2 c m1).trans (kx c o m4 ((tt.2 c m2).trans ((ka.2 c m3).trans ((zz.2 c m1).trans y))))) ⟨oe, (vv.2 e nez).trans xe, xc⟩
end
noncomputable def Sq (b : Bool) (K : PySem.W.Frag) (H : Hp) (a : Addr) (xs : List V) : Prop := match b with
  | true => SqL K H a xs
  | false => SqT K H a xs
theorem Inv.sq {X : Cx} {pins : List (Addr × Obj)} {σ : St} {H : Hp} {s : Shared} {b : Bool} {a : Addr} {xs : List V} (I : Inv X pins σ H s) (h : Sq b X.K H a xs) : ∃ its : List Value, Vals xs its ∧ isSq b s.heap a its.toArray ∧ xs.length ≤ sizeLine := by
  cases b with
  | true =>
    obtain ⟨its, rv, p, hz⟩ := I.list h
    obtain ⟨o, eo, ec, n, ed⟩ := p.isList
    exact ⟨its, rv, ⟨o, n, eo, ec, ed⟩, hz⟩
  | false =>
    obtain ⟨its, rv, ⟨o, eo, ec, n, ed⟩, hz⟩ := I.tuple h
    exact ⟨its, rv, ⟨o, n, eo, ec, ed⟩, hz⟩
theorem Inv.sq_inj {X : Cx} {pins : List (Addr × Obj)} {σ : St} {H : Hp} {s : Shared} {b : Bool} {a : Addr} {xs ys : List V} (I : Inv X pins σ H s) (h : Sq b X.K H a xs) (h' : Sq b X.K H a ys) : xs = ys := by
  cases b with
  | true => exact I.list_inj h h'
  | false => exact I.tuple_inj h h'
theorem itOf.up {b : Bool} {h h' : Heap} {it a : Addr} {i : Nat} (x : itOf b h it a i) (k : ∀ o, h.get? it = some o → h'.get? it = some o) : itOf b h' it a i := k _ x
theorem itOf.obj {b : Bool} {h : Heap} {it a : Addr} {i : Nat} (x : itOf b h it a i) : ∃ o, h.get? it = some o ∧ ∀ v, o.data ≠ .cell v := ⟨_, x, fun v z => by cases z⟩
theorem isSq.obj {b : Bool} {h : Heap} {a : Addr} {its : Array Value} (x : isSq b h a its) : ∃ o, h.get? a = some o := let ⟨o, _, e, _⟩ := x; ⟨o, e⟩
section
variable {X : Cx} {pins : List (Addr × Obj)} {σ : St} {H : Hp} {s : Shared} {h' : Heap}
theorem Inv.turnedL {t' : Nat} {ch : List Addr} (I : Inv X pins σ H s) (k : ∀ b o, b ∉ ch → s.heap.get? b = some o → h'.get? b = some o) (hf : ∀ b ∈ ch, FpOk X pins H b) : Inv X pins σ H { s with heap := h', toks := t' } := by
  have nit : ∀ b u, H b = some u → b ∉ ch := fun b u e z => by rw [(hf b z).1] at e; cases e
  refine I.step (g' := s.gens) (d' := s.drawn) (ch := ch) (fun b hb => ⟨(hf b hb).2.2.2.1, (hf b hb).2.1, (hf b hb).2.2.2.2.1, (hf b hb).2.2.2.2.2⟩) (fun b o _ _ hc e _ => k b o hc e) (fun b o _ _ hc e _ => ⟨o.slots, k b o hc e⟩) (fun _ _ _ _ n => n)
    (fun b o hc e => ⟨o, k b o hc e⟩) (fun _ _ e => e) (fun _ _ _ e => e) (fun b ps e => ⟨#[], by rw [e]; simp⟩) (fun m hm => ?_) (fun b u e => ?_) I.bare
  · obtain ⟨o, es, ep, ho, r⟩ := hm
    exact ⟨o, es, ep, k _ o (fun z => (hf _ z).2.1 rfl) ho, r⟩
  · refine (I.hok b u e).stay (fun c v hc q => k c v ?_ q) (fun _ q => q) fun _ _ q => q
    rcases hc with z | z
    · rw [z]; exact nit b u e
    · exact nit c _ z
theorem Inv.track {p : Addr} {o : HO} (I : Inv X pins σ H s) (f : FpOk X pins H p) (new : ObjOk X.prog X.w (upd H p o) s.heap p o) : Inv X pins σ (upd H p o) s := by
  have hp := f.1
  refine I.step (g' := s.gens) (d' := s.drawn) (t' := s.toks) (h' := s.heap) (ch := [p]) (fun b hb => ?_) (fun b o _ _ _ e _ => e) (fun b o _ _ _ e _ => ⟨o.slots, e⟩) (fun b o hc e n => ?_)
    (fun b o _ e => ⟨o, e⟩) (fun b xs e => by rw [upd_ne (ne_of_none e hp)]; exact e) (fun b o u e => by rw [upd_ne (ne_of_none e hp)]; exact e) (fun b ps e => ⟨#[], by rw [upd_ne (ne_of_none e hp), e]; simp⟩) (fun m hm => hm) (fun b u e => ?_) I.bare
  · have e := List.mem_singleton.mp hb
    subst e
    exact ⟨f.2.2.2.1, f.2.1, f.2.2.2.2.1, f.2.2.2.2.2⟩
  · rw [upd_ne (fun z => hc (by rw [z]; exact List.mem_singleton.mpr rfl))]; exact n
  · by_cases hb : b = p
    · subst hb
      rw [upd_same] at e
      cases e
      exact new
    · rw [upd_ne hb] at e
      exact (I.hok b u e).stay (fun c v _ q => q) (fun c q => by rw [upd_ne (ne_of_none q hp)]; exact q) fun c xs q => by rw [upd_ne (ne_of_none q hp)]; exact q
end
section
variable {prog : Program} {w : World} {A : Around} {E : Value → Shared → Prop} {s : Shared}
theorem pyNext_of {T id : String} {v : Value} {Q : Option Value → Shared → Prop} (ty : s.TypeIs v T) (sl : Slot T (Str.ofString "__next__") id)
    (h : wpAny (model prog w) A (call (.builtin id) [v]) (fun x s' => Q (some x) s') (fun e s' => ∃ c o, e = .ref c ∧ s'.heap.get? c = some o ∧ o.cls = .type "StopIteration" ∧ Q none s') s) : wpAny (model prog w) A (pyNext v) Q E s := by
  unfold pyNext
  refine wpAny_bind (wpAny_attempt (wpAny_callSpecial?_slot ty sl (wpAny_mono h (fun x s' y => wpAny_pure y) fun e s' y => ?_)))
  obtain ⟨c, o, rfl, e1, e2, y⟩ := y
  exact wpAny_bind (wpAny_isInstance (b := true) ⟨o, e1, e2⟩ isSubtype_stop (wpAny_pure y))
theorem pyIter_sq (b : Bool) {a : Addr} {its : Array Value} {Q : Value → Shared → Prop} (e : isSq b s.heap a its) (q : Q (.ref s.heap.objs.size) { s with heap := s.heap.push (itRec b a 0) }) : wpAny (model prog w) A (pyIter (.ref a)) Q E s := by
  obtain ⟨o, n, eo, ec, ed⟩ := e
  cases b
  · exact wpAny_pyIter_tuple ⟨o, eo, ec, n, ed⟩ q
  · exact wpAny_pyIter_list ⟨o, eo, ec, n, ed⟩ q
end
structure ZipNew (b1 b2 : Bool) (l1 l2 : Addr) (h h' : Heap) : Prop where
  zip : IsZip h' (h.objs.size + 4) (h.objs.size + 2) (h.objs.size + 3) .none
  tin : IsPair h' (h.objs.size + 2) (.ref h.objs.size) (.ref (h.objs.size + 1))
  out : IsPair h' (h.objs.size + 3) .none .none
  one : itOf b1 h' h.objs.size l1 0
  two : itOf b2 h' (h.objs.size + 1) l2 0
  old : ∀ c o, h.get? c = some o → h'.get? c = some o
theorem isSq.up {b : Bool} {h h' : Heap} {a : Addr} {its : Array Value} (x : isSq b h a its) (k : ∀ o, h.get? a = some o → h'.get? a = some o) : isSq b h' a its := by
  obtain ⟨o, n, eo, r⟩ := x
  exact ⟨o, n, k o eo, r⟩
theorem mk_zip (b1 b2 : Bool) (l1 l2 : Addr) (xs ys : Array Value) :
    Meets (Builtin.«zip.__new__» ⟨[.type "zip", .ref l1, .ref l2], []⟩) (fun _ R s => (isSq b1 s.heap l1 xs ∧ isSq b2 s.heap l2 ys) ∧
      ∀ h', ZipNew b1 b2 l1 l2 s.heap h' → R (.ok (.ret (.ref (s.heap.objs.size + 4)))) { s with heap := h' }) :=
  .of_wp fun prog w A R s hyp => by
    obtain ⟨h, g, dr, tk, os⟩ := s
    obtain ⟨⟨q1, q2⟩, fin⟩ := hyp
    have sub := sub_zip
    have q2' : isSq b2 (Shared.mk (h.push (itRec b1 l1 0)) g dr tk os).heap l2 ys := q2.up fun o e => Heap.get?_push_of_some _ e
    wp_walk using pyIter_sq b1 q1, pyIter_sq b2 q2'
    dsimp only
    have z1 := Heap.size_push h (itRec b1 l1 0)
    generalize e1 : h.push (itRec b1 l1 0) = ha at *
    have z2 := Heap.size_push ha (itRec b2 l2 0)
    generalize e2 : ha.push (itRec b2 l2 0) = hb at *
    generalize e3 : hb.push _ = hc
    have z3 : hc.objs.size = hb.objs.size + 1 := by rw [← e3]; exact Heap.size_push ..
    generalize e4 : hc.push _ = hd
    have z4 : hd.objs.size = hc.objs.size + 1 := by rw [← e4]; exact Heap.size_push ..
    rw [z1] at z2
    rw [z2] at z3
    rw [z3] at z4
    have a1 : ha.get? h.objs.size = some (itRec b1 l1 0) := by rw [← e1]; exact Heap.get?_push_size _ rfl
    have a2 : hb.get? (h.objs.size + 1) = some (itRec b2 l2 0) := by rw [← e2, ← z1]; exact Heap.get?_push_size _ rfl
    have a3 : hc.get? (h.objs.size + 2) = some { cls := .type "tuple", data := .seq #[.ref h.objs.size, .ref (h.objs.size + 1)] } := by
      rw [← e3, ← z2, ← z1]
      exact Heap.get?_push_size _ rfl
    have a4 : hd.get? (h.objs.size + 3) = some { cls := .type "tuple", data := .seq #[.none, .none] } := by
      rw [← e4, ← z3]
      exact Heap.get?_push_size _ rfl
    have u1 : ∀ c o, h.get? c = some o → ha.get? c = some o := fun c o y => by rw [← e1]; exact Heap.get?_push_of_some _ y
    have u2 : ∀ c o, ha.get? c = some o → hb.get? c = some o := fun c o y => by rw [← e2]; exact Heap.get?_push_of_some _ y
    have u3 : ∀ c o, hb.get? c = some o → hc.get? c = some o := fun c o y => by rw [← e3]; exact Heap.get?_push_of_some _ y
    have u4 : ∀ c o, hc.get? c = some o → hd.get? c = some o := fun c o y => by rw [← e4]; exact Heap.get?_push_of_some _ y
    have u5 : ∀ (r : Obj) c o, hd.get? c = some o → (hd.push r).get? c = some o := fun r c o y => Heap.get?_push_of_some _ y
    rw [z2, z3, z4]
    refine ⟨_, rfl, fin _ ⟨?_, u5 _ _ _ (u4 _ _ a3), u5 _ _ _ a4, u5 _ _ _ (u4 _ _ (u3 _ _ (u2 _ _ a1))), u5 _ _ _ (u4 _ _ (u3 _ _ a2)), fun c o y => u5 _ _ _ (u4 _ _ (u3 _ _ (u2 _ _ (u1 _ _ y))))⟩⟩
    rw [← z4]
    exact Heap.get?_push_size _ rfl
theorem mk_enum (b : Bool) (l : Addr) (xs : Array Value) (o : Obj) (n : Nat) (ec : o.cls = .type (sqKind b)) (ed : o.data = .seq xs n) :
    Meets (Builtin.«enumerate.__new__» ⟨[.type "enumerate", .ref l], []⟩) (fun _ R s => s.heap.get? l = some o ∧
      ∀ h', IsEnum h' (s.heap.objs.size + 1) s.heap.objs.size 0 .none → itOf b h' s.heap.objs.size l 0 → (∀ c o, s.heap.get? c = some o → h'.get? c = some o) → R (.ok (.ret (.ref (s.heap.objs.size + 1)))) { s with heap := h' }) :=
  .of_wp fun prog w A R s hyp => by
    obtain ⟨h, g, dr, tk, os⟩ := s
    obtain ⟨e1, fin⟩ := hyp
    have sub := sub_enumerate
    have q1 : isSq b (Shared.mk h g dr tk os).heap l xs := ⟨o, n, e1, ec, ed⟩
    have done : ∀ (e : Addr) (r : Obj), r = { cls := .type "enumerate", data := .fields #[.none, .bool false, .ref h.objs.size, rawInt 0, .none, .none] } → e = h.objs.size + 1 → R (.ok (.ret (.ref e))) (Shared.mk ((h.push (itRec b l 0)).push r) g dr tk os) := by
      rintro e r rfl rfl
      refine fin _ ?_ (Heap.get?_push_of_some _ (Heap.get?_push_size _ rfl)) fun c o y => Heap.get?_push_of_some _ (Heap.get?_push_of_some _ y)
      have z1 := Heap.size_push h (itRec b l 0)
      show Heap.get? _ (h.objs.size + 1) = _
      rw [← z1]
      exact Heap.get?_push_size _ rfl
    wp_walk using pyIter_sq b q1
    refine wpAny_stack_any fun st => ?_
    wp_walk
    split
    · rename_i c _ _ _ _ _
      rcases Bool.eq_false_or_eq_true (c == Value.type "enumerate") with y | y
      · rw [y]
        wp_walk using pyIter_sq b q1
        exact ⟨_, rfl, done _ _ rfl (Heap.size_push ..)⟩
      · rw [y]
        wp_walk using pyIter_sq b q1
        exact ⟨_, rfl, done _ _ rfl (Heap.size_push ..)⟩
    · wp_walk using pyIter_sq b q1
      exact ⟨_, rfl, done _ _ rfl (Heap.size_push ..)⟩
section
variable {prog : Program} {w : World} {A : Around} {E : Value → Shared → Prop} {s : Shared}
theorem call_zip (b1 b2 : Bool) {l1 l2 : Addr} {xs ys : Array Value} {Q : Value → Shared → Prop} (q1 : isSq b1 s.heap l1 xs) (q2 : isSq b2 s.heap l2 ys)
    (q : ∀ h', ZipNew b1 b2 l1 l2 s.heap h' → Q (.ref (s.heap.objs.size + 4)) { s with heap := h' }) : wpAny (model prog w) A (call (.type "zip") [.ref l1, .ref l2]) Q E s :=
  callType_new F.called_zip (by decide) (F.typeCall_zip_2 _ _) (F.newCall_zip_2 _ _) (fun v => F.args_object_init_3 v _ _) F.entry_zip_new (mk_zip b1 b2 l1 l2 xs ys) ⟨⟨q1, q2⟩, fun h' N => ⟨⟨_, N.zip, rfl⟩, q h' N⟩⟩
theorem call_enum (b : Bool) {l : Addr} {xs : Array Value} {Q : Value → Shared → Prop} (q1 : isSq b s.heap l xs)
    (q : ∀ h', IsEnum h' (s.heap.objs.size + 1) s.heap.objs.size 0 .none → itOf b h' s.heap.objs.size l 0 → (∀ c o, s.heap.get? c = some o → h'.get? c = some o) → Q (.ref (s.heap.objs.size + 1)) { s with heap := h' }) : wpAny (model prog w) A (call (.type "enumerate") [.ref l]) Q E s := by
  obtain ⟨o, n, eo, ec, ed⟩ := q1
  exact callType_new F.called_enumerate (by decide) (F.typeCall_enumerate_1 _) (F.newCall_enumerate_1 _) (fun v => F.args_object_init_2 v _) F.entry_enumerate_new (mk_enum b l xs o n ec ed) ⟨eo, fun h' a1 a2 a3 => ⟨⟨_, a1, rfl⟩, q h' a1 a2 a3⟩⟩
end
noncomputable def Itz (K : PySem.W.Frag) (b1 b2 : Bool) (l1 l2 : Addr) : It :=
  ⟨fun i H => ∃ xs ys x y, Sq b1 K H l1 xs ∧ Sq b2 K H l2 ys ∧ xs[i]? = some x ∧ ys[i]? = some y,
   fun i H v H' => ∃ p x y, v = .ref p ∧ H p = none ∧ H' = upd H p (.tup [x, y]) ∧ (∀ xs, Sq b1 K H l1 xs → xs[i]? = some x) ∧ ∀ ys, Sq b2 K H l2 ys → ys[i]? = some y,
   fun i H => ∃ xs ys, Sq b1 K H l1 xs ∧ Sq b2 K H l2 ys ∧ (i = xs.length ∨ (i < xs.length ∧ i = ys.length))⟩
noncomputable def Ite (K : PySem.W.Frag) (b : Bool) (l : Addr) : It :=
  ⟨fun i H => ∃ xs x, Sq b K H l xs ∧ xs[i]? = some x,
   fun i H v H' => ∃ p x, v = .ref p ∧ H p = none ∧ H' = upd H p (.tup [.int i, x]) ∧ ∀ xs, Sq b K H l xs → xs[i]? = some x,
   fun i H => ∃ xs, Sq b K H l xs ∧ i = xs.length⟩
theorem pair_ok {P : Program} {w : World} {H : Hp} {h : Heap} {p : Addr} {x y : V} {u v : Value} (hp : IsPair h p u v) (rx : RelV x u) (ry : RelV y v) : ObjOk P w H h p (.tup [x, y]) :=
  ⟨by show 2 ≤ sizeLine; decide, [u, v], .cons rx (.cons ry .nil), _, hp, rfl, _, rfl⟩
structure ZipAt (z TI TO i1 i2 l1 l2 : Addr) : Prop where
  sep : ZipSep z TI TO i1 i2 [i1, l1] [i2, l2]
  n1 : l1 ≠ i1
  n2 : l2 ≠ i2
theorem turn_zip {P : Program} {w : World} {K : PySem.W.Frag} {es : List Expr} {kt : Nat} {pt : Pos} (b1 b2 : Bool) {z TI TO i1 i2 l1 l2 : Addr} (D : ZipAt z TI TO i1 i2 l1 l2) :
    Turn P w K (.Tuple es kt pt) (Itz K b1 b2 l1 l2) [z, TI, TO, i1, i2] z (fun i h => IsZip h z TI TO .none ∧ IsPair h TI (.ref i1) (.ref i2) ∧ (∃ a b, IsPair h TO a b) ∧ itOf b1 h i1 l1 i ∧ itOf b2 h i2 l2 i) where
  mem := by simp
  obj := fun i h st b hb => by
    obtain ⟨hz, hTI, ⟨a, c, hTO⟩, h1, h2⟩ := st
    simp only [List.mem_cons, or_false, List.not_mem_nil] at hb
    rcases hb with rfl | rfl | rfl | rfl | rfl
    · exact ⟨_, hz, fun v q => by cases q⟩
    · exact ⟨_, hTI, fun v q => by cases q⟩
    · exact ⟨_, hTO, fun v q => by cases q⟩
    · exact h1.obj
    · exact h2.obj
  keep := fun i h h' st k => by
    obtain ⟨hz, hTI, ⟨a, c, hTO⟩, h1, h2⟩ := st
    exact ⟨k z (by simp) _ hz, k TI (by simp) _ hTI, ⟨a, c, k TO (by simp) _ hTO⟩, h1.up fun o e => k i1 (by simp) o e, h2.up fun o e => k i2 (by simp) o e⟩
  item := by
    intro X hP hw hK hc i pins s σ H E I hf st hg
    subst hP hw hK
    obtain ⟨hz, hTI, ⟨ta, tb, hTO⟩, h1, h2⟩ := st
    obtain ⟨xs, ys, x, y, hq1, hq2, hx, hy⟩ := hg
    obtain ⟨is1, rv1, p1, hz1⟩ := I.sq hq1
    obtain ⟨is2, rv2, p2, hz2⟩ := I.sq hq2
    obtain ⟨u, hu, ru⟩ := rv1.get hx
    obtain ⟨v, hv, rv⟩ := rv2.get hy
    have lx : i < is1.toArray.size := by rw [List.size_toArray]; exact (List.getElem?_eq_some_iff.mp hu).1
    have ly : i < is2.toArray.size := by rw [List.size_toArray]; exact (List.getElem?_eq_some_iff.mp hv).1
    have hh : X.A.in1.handled = none := I.ok.hd hc
    have hzlt : z < s.heap.objs.size := Heap.lt_size hz
    refine pyNext_of ⟨_, hz, rfl⟩ F.slot_zip_next (wpAny_call_entry F.slot_zip_next ⟨_, hz, rfl⟩ F.entry_zip_next (zip_go (draws_sq b1 hh i1 l1 D.n1 is1.toArray) (draws_sq b2 hh i2 l2 D.n2 is2.toArray) D.sep hz hTI hTO ⟨h1, p1⟩ ⟨h2, p2⟩ lx ly fun u' v' h' tk e1 e2 a1 a2 a3 a4 a5 a6 hk => ?_) (F.args_zip_next_1 _))
    have eu : u' = u := by
      have e1' : is1.toArray[i]? = some u' := e1
      rw [List.getElem?_toArray, hu] at e1'
      exact (Option.some.inj e1').symm
    have ev : v' = v := by
      have e2' : is2.toArray[i]? = some v' := e2
      rw [List.getElem?_toArray, hv] at e2'
      exact (Option.some.inj e2').symm
    subst eu ev
    refine ⟨_, rfl, wpAny_letOwnedTupleGo_zip a1 fun h'' hz'' sb => ?_⟩
    have hk' : ∀ b o, b ∉ [z, TI, TO, i1, i2] → s.heap.get? b = some o → h''.get? b = some o := fun b o hb e => by
      have : b ≠ z ∧ b ≠ TI ∧ b ≠ TO ∧ b ≠ i1 ∧ b ≠ i2 := by simpa using hb
      exact (sb.2 b this.1).trans (hk b o this.1 this.2.2.1 this.2.2.2.1 this.2.2.2.2 e)
    have I1 : Inv X pins σ H { s with heap := h'', toks := tk } := I.turnedL hk' hf
    have hpz : s.heap.objs.size ≠ z := Nat.ne_of_gt hzlt
    have hp2 : IsPair h'' s.heap.objs.size u' v' := (sb.2 _ hpz).trans a5
    have fp : FpOk X pins H s.heap.objs.size := I.fpOk (Nat.le_refl _) (I.hok.fresh (Nat.le_refl _))
    have I2 := I1.track (o := .tup [x, y]) fp (pair_ok hp2 ru rv)
    have up : ∀ b, b ≠ z → ∀ o, h'.get? b = some o → h''.get? b = some o := fun b hb o e => (sb.2 b hb).trans e
    refine ⟨.ref s.heap.objs.size, _, I2, rfl, ⟨_, x, y, rfl, fp.1, rfl, fun xs' q => by rw [I.sq_inj q hq1]; exact hx, fun ys' q => by rw [I.sq_inj q hq2]; exact hy⟩, ⟨hz'', up _ D.sep.dTz _ (hk _ _ D.sep.dTz D.sep.dTO D.sep.dT1 D.sep.dT2 hTI), ⟨_, _, up _ D.sep.dOz _ a2⟩, a3.1.up fun o e => up _ D.sep.d1z o e, a4.1.up fun o e => up _ D.sep.d2z o e⟩, fun b hb => ?_⟩
    rw [upd_ne]
    · exact (hf b hb).1
    · obtain ⟨o, e⟩ : ∃ o, s.heap.get? b = some o := by
        simp only [List.mem_cons, or_false, List.not_mem_nil] at hb
        rcases hb with rfl | rfl | rfl | rfl | rfl
        · exact ⟨_, hz⟩
        · exact ⟨_, hTI⟩
        · exact ⟨_, hTO⟩
        · exact ⟨_, h1.obj.choose_spec.1⟩
        · exact ⟨_, h2.obj.choose_spec.1⟩
      exact Nat.ne_of_lt (Heap.lt_size e)
  done := by
    intro X hP hw hK hc i pins s σ H E I hf st hg
    subst hP hw hK
    obtain ⟨hz, hTI, ⟨ta, tb, hTO⟩, h1, h2⟩ := st
    obtain ⟨xs, ys, hq1, hq2, hx⟩ := hg
    obtain ⟨is1, rv1, p1, hz1⟩ := I.sq hq1
    obtain ⟨is2, rv2, p2, hz2⟩ := I.sq hq2
    have hh : X.A.in1.handled = none := I.ok.hd hc
    have ll1 := rv1.length
    have ll2 := rv2.length
    refine pyNext_of ⟨_, hz, rfl⟩ F.slot_zip_next (wpAny_call_entry F.slot_zip_next ⟨_, hz, rfl⟩ F.entry_zip_next (zip_end (draws_sq b1 hh i1 l1 D.n1 is1.toArray) (draws_sq b2 hh i2 l2 D.n2 is2.toArray) D.sep hz hTI hTO ⟨h1, p1⟩ ⟨h2, p2⟩ ?_ fun h' e tk hk ⟨o, e1, e2⟩ => ⟨e, o, rfl, e1, e2, ?_⟩) (F.args_zip_next_1 _))
    · rw [List.size_toArray, List.size_toArray]
      lia
    · refine ⟨rfl, I.turnedL (fun b o hb y => ?_) hf⟩
      have : b ≠ z ∧ b ≠ TI ∧ b ≠ TO ∧ b ≠ i1 ∧ b ≠ i2 := by simpa using hb
      exact hk b o this.1 this.2.2.1 this.2.2.2.1 this.2.2.2.2 y
  self := fun _ _ _ _ _ st h => wpAny_pyIter_zip st.1 h
theorem enum_succ {h : Heap} {e it : Addr} {i : Nat} {v : Value} (x : IsEnum h e it ((i : Int) + 1) v) : IsEnum h e it (((i + 1 : Nat)) : Int) v := x
theorem addr_ne {n : Nat} (i j : Nat) (h : i ≠ j := by decide) : @Ne Addr (n + i) (n + j) := fun z => h (Nat.add_left_cancel z)
theorem addr_gt {n : Nat} {l : Addr} (i : Nat) (h : l < n) : @Ne Addr (n + i) l := Nat.ne_of_gt (Nat.lt_of_lt_of_le h (Nat.le_add_right n i))
theorem notin2 {a b c : Addr} (h1 : a ≠ b) (h2 : a ≠ c) : a ∉ [b, c] := by simp [h1, h2]
theorem turn_enum {P : Program} {w : World} {K : PySem.W.Frag} {es : List Expr} {kt : Nat} {pt : Pos} (b : Bool) {e it l : Addr} (hei : e ≠ it) (hle : l ≠ e) (hli : l ≠ it) :
    Turn P w K (.Tuple es kt pt) (Ite K b l) [e, it] e (fun i h => (∃ old, IsEnum h e it i old) ∧ itOf b h it l i) where
  mem := by simp
  obj := fun i h st c hc => by
    obtain ⟨⟨old, he⟩, h1⟩ := st
    simp only [List.mem_cons, List.not_mem_nil, or_false] at hc
    rcases hc with rfl | rfl
    · exact ⟨_, he, fun v q => by cases q⟩
    · exact h1.obj
  keep := fun i h h' st k => by
    obtain ⟨⟨old, he⟩, h1⟩ := st
    exact ⟨⟨old, k e (by simp) _ he⟩, h1.up fun o q => k it (by simp) o q⟩
  item := by
    intro X hP hw hK hc i pins s σ H E I hf st hg
    subst hP hw hK
    obtain ⟨⟨old, he⟩, h1⟩ := st
    obtain ⟨xs, x, hq, hx⟩ := hg
    obtain ⟨is1, rv1, p1, hz1⟩ := I.sq hq
    obtain ⟨u, hu, ru⟩ := rv1.get hx
    have lx : i < is1.toArray.size := by rw [List.size_toArray]; exact (List.getElem?_eq_some_iff.mp hu).1
    have hh : X.A.in1.handled = none := I.ok.hd hc
    have eIn : e < s.heap.objs.size := Heap.lt_size he
    refine wpAny_pyNext_enum_itemD (draws_sq b hh it l hli is1.toArray) he ⟨h1, p1⟩ lx hei (by simp; exact ⟨hei, hle.symm⟩) fun u' h' tk e1 a1 a2 a3 a4 hk => ?_
    have eu : u' = u := by
      have e1' : is1.toArray[i]? = some u' := e1
      rw [List.getElem?_toArray, hu] at e1'
      exact (Option.some.inj e1').symm
    subst eu
    refine ⟨_, rfl, wpAny_letOwnedTupleGo_enum a1 fun h'' he'' sb => ?_⟩
    have hk' : ∀ c o, c ∉ [e, it] → s.heap.get? c = some o → h''.get? c = some o := fun c o hc q => by
      have : c ≠ e ∧ c ≠ it := by simpa using hc
      exact (sb.2 c this.1).trans (hk c o this.1 this.2 q)
    have I1 : Inv X pins σ H { s with heap := h'', toks := tk + 1 } := I.turnedL hk' hf
    have hpe : s.heap.objs.size ≠ e := Nat.ne_of_gt eIn
    have hp2 : IsPair h'' s.heap.objs.size (.int i tk) u' := (sb.2 _ hpe).trans a3
    have fp : FpOk X pins H s.heap.objs.size := I.fpOk (Nat.le_refl _) (I.hok.fresh (Nat.le_refl _))
    have I2 := I1.track (o := .tup [.int i, x]) fp (pair_ok hp2 ⟨tk, rfl⟩ ru)
    refine ⟨.ref s.heap.objs.size, _, I2, rfl, ⟨_, x, rfl, fp.1, rfl, fun xs' q => by rw [I.sq_inj q hq]; exact hx⟩, ⟨⟨u', enum_succ he''⟩, a2.1.up fun o q => (sb.2 it hei.symm).trans q⟩, fun c hc => ?_⟩
    rw [upd_ne]
    · exact (hf c hc).1
    · obtain ⟨o, q⟩ : ∃ o, s.heap.get? c = some o := by
        simp only [List.mem_cons, List.not_mem_nil, or_false] at hc
        rcases hc with rfl | rfl
        · exact ⟨_, he⟩
        · exact ⟨_, h1.obj.choose_spec.1⟩
      exact Nat.ne_of_lt (Heap.lt_size q)
  done := by
    intro X hP hw hK hc i pins s σ H E I hf st hg
    subst hP hw hK
    obtain ⟨⟨old, he⟩, h1⟩ := st
    obtain ⟨xs, hq, hx⟩ := hg
    obtain ⟨is1, rv1, p1, hz1⟩ := I.sq hq
    have hh : X.A.in1.handled = none := I.ok.hd hc
    have ll1 := rv1.length
    have hn : i = is1.toArray.size := by rw [List.size_toArray]; lia
    refine wpAny_pyNext_enum_endD (draws_sq b hh it l hli is1.toArray) he (hn ▸ ⟨h1, p1⟩) fun h' hk => ?_
    refine ⟨rfl, I.turnedL (t' := s.toks) (fun c o hc q => ?_) hf⟩
    have : c ≠ e ∧ c ≠ it := by simpa using hc
    exact hk c o this.2 q
  self := fun _ _ _ _ _ st h => wpAny_pyIter_enum st.1.choose_spec h
theorem bt_zip : bootBuiltins "zip" = some (.type "zip") := by decide +kernel
section
variable {X : Cx}
noncomputable def iZip (K : PySem.W.Frag) (b1 b2 : Bool) (t : TA) : TI := fun σ H R => t σ H fun vs H1 => ∃ l1 l2, vs = [.ref l1, .ref l2] ∧ (∃ xs, Sq b1 K H1 l1 xs) ∧ (∃ ys, Sq b2 K H1 l2 ys) ∧ R (Itz K b1 b2 l1 l2) H1
noncomputable def iEnum (K : PySem.W.Frag) (b : Bool) (t : TA) : TI := fun σ H R => t σ H fun vs H1 => ∃ l, vs = [.ref l] ∧ (∃ xs, Sq b K H1 l xs) ∧ R (Ite K b l) H1
theorem pi_zip (b1 b2 : Bool) {a b : Expr} {ta : TA} {p pos pt : Pos} {es : List Expr} {kt : Nat} (hg : Gl X "zip") (hm : X.mg "zip" = none) (ha : PA X [a, b] ta) (hs : starEach [a, b] X.env = [(false, eval a X.env), (false, eval b X.env)] := by rfl) (hs2 : starEach [b] X.env = [(false, eval b X.env)] := by rfl) :
    PI X (.Tuple es kt pt) (.Call (.Name "zip" p) [a, b] [] pos) (iZip X.K b1 b2 ta) := by
  intro pins s σ H R I h
  refine Call_ (ld_blt I hg hm bt_zip (PyProof.Rows.callWith_type1 (thn (ha pos pins s σ H _ I h) fun us s1 ⟨vs, H1, I1, r1, q1⟩ => ?_) (by rw [hs, hs2]) (by rw [hs2]; rfl)))
  obtain ⟨l1, l2, e, ⟨xs, hq1⟩, ⟨ys, hq2⟩, q⟩ := q1
  subst e
  cases r1 with
  | cons r rr =>
    cases rr with
    | cons r' rr =>
      cases rr
      cases r
      cases r'
      obtain ⟨is1, rv1, p1, hz1⟩ := I1.sq hq1
      obtain ⟨is2, rv2, p2, hz2⟩ := I1.sq hq2
      have a1 : l1 < s1.heap.objs.size := by obtain ⟨_, e⟩ := p1.obj; exact Heap.lt_size e
      have a2 : l2 < s1.heap.objs.size := by obtain ⟨_, e⟩ := p2.obj; exact Heap.lt_size e
      refine call_zip b1 b2 p1 p2 fun h' N => wpAny_pyIter_zip N.zip ?_
      refine ⟨_, _, _, _, H1, rfl, I1.kept (t' := s1.toks) N.old, turn_zip b1 b2 (z := s1.heap.objs.size + 4) (TI := s1.heap.objs.size + 2) (TO := s1.heap.objs.size + 3) (i1 := s1.heap.objs.size) (i2 := s1.heap.objs.size + 1) ⟨?_, Nat.ne_of_lt a1, Nat.ne_of_lt (Nat.lt_succ_of_lt a2)⟩, ⟨N.zip, N.tin, ⟨_, _, N.out⟩, N.one, N.two⟩, fun b hb => ?_, q⟩
      · exact ⟨addr_ne 2 4, addr_ne 3 4, addr_ne 0 4, addr_ne 1 4, addr_ne 2 3, addr_ne 2 0, addr_ne 2 1, addr_ne 3 0, addr_ne 3 1, addr_ne 0 1, ⟨notin2 (addr_ne 4 0) (addr_gt 4 a1), notin2 (addr_ne 4 1) (addr_gt 4 a2)⟩, ⟨notin2 (addr_ne 3 0) (addr_gt 3 a1), notin2 (addr_ne 3 1) (addr_gt 3 a2)⟩, notin2 (addr_ne 1 0) (addr_gt 1 a1), notin2 (addr_ne 0 1) (addr_gt 0 a2)⟩
      · have hb' : s1.heap.objs.size ≤ b := by
          simp only [List.mem_cons, or_false, List.not_mem_nil] at hb
          rcases hb with rfl | rfl | rfl | rfl | rfl
          · exact Nat.le_add_right _ 4
          · exact Nat.le_add_right _ 2
          · exact Nat.le_add_right _ 3
          · exact Nat.le_refl _
          · exact Nat.le_add_right _ 1
        exact I1.fpOk hb' (I1.hok.fresh hb')
theorem pi_enum (b : Bool) {a : Expr} {ta : TA} {p pos pt : Pos} {es : List Expr} {kt : Nat} (hg : Gl X "enumerate") (hm : X.mg "enumerate" = none) (ha : PA X [a] ta) (hs : starEach [a] X.env = [(false, eval a X.env)] := by rfl) :
    PI X (.Tuple es kt pt) (.Call (.Name "enumerate" p) [a] [] pos) (iEnum X.K b ta) := by
  intro pins s σ H R I h
  refine Call_ (ld_blt I hg hm boot_enumerate (PyProof.Rows.callWith_type1 (thn (ha pos pins s σ H _ I h) fun us s1 ⟨vs, H1, I1, r1, q1⟩ => ?_) hs rfl))
  obtain ⟨l, e, ⟨xs, hq⟩, q⟩ := q1
  subst e
  cases r1 with
  | cons r rr =>
    cases rr
    cases r
    obtain ⟨is1, rv1, p1, hz1⟩ := I1.sq hq
    have a1 : l < s1.heap.objs.size := by obtain ⟨_, e⟩ := p1.obj; exact Heap.lt_size e
    refine call_enum b p1 fun h' z1 z2 hk => wpAny_pyIter_enum z1 ?_
    refine ⟨_, _, _, _, H1, rfl, I1.kept (t' := s1.toks) hk, turn_enum b (e := s1.heap.objs.size + 1) (it := s1.heap.objs.size) (addr_ne 1 0) (addr_gt 1 a1).symm (addr_gt 0 a1).symm, ⟨⟨_, z1⟩, z2⟩, fun c hc => ?_, q⟩
    have hb' : s1.heap.objs.size ≤ c := by
      simp only [List.mem_cons, List.not_mem_nil, or_false] at hc
      rcases hc with rfl | rfl
      · exact Nat.le_add_right _ 1
      · exact Nat.le_refl _
    exact I1.fpOk hb' (I1.hok.fresh hb')
end
theorem Same.sq {K : PySem.W.Frag} {H H' : Hp} {a : Addr} {xs : List V} {b : Bool} (e : Same H H') (h : Sq b K H a xs) : Sq b K H' a xs := by
  cases b with
  | true => exact e.seq h
  | false =>
    rcases h with h | h
    · refine .inl ?_
      rcases h with h | ⟨o, h⟩
      · exact .inl (e _ _ h)
      · exact .inr ⟨o, e _ _ h⟩
    · exact .inr h
theorem Same.seqT {K : PySem.W.Frag} {H H' : Hp} {a : Addr} {xs : List V} (e : Same H H') (h : SqT K H a xs) : SqT K H' a xs := e.sq (b := false) h
theorem Same.upd {H : Hp} {p : Addr} {o : HO} (h : H p = none) : Same H (upd H p o) := fun b u e => by rw [upd_ne (ne_of_none e h)]; exact e
noncomputable def AnyT (K : PySem.W.Frag) (H : Hp) (xs : List V) (Q : VK) : Prop := ∀ p H', Same H H' → SqT K H' p xs → Q (.ref p) H'
theorem AnyT.old {K : PySem.W.Frag} {H : Hp} {xs : List V} {Q : VK} {p : Addr} (h : AnyT K H xs Q) (q : SqT K H p xs) : Q (.ref p) H := h p H (.refl H) q
theorem AnyT.new {K : PySem.W.Frag} {H : Hp} {xs : List V} {Q : VK} {p : Addr} (h : AnyT K H xs Q) (n : H p = none) : Q (.ref p) (upd H p (.tup xs)) := h p _ (.upd n) (.of upd_same)
theorem noFill_tuple_mul : fillsNumberSlot (.type "tuple") "mul" = pure false :=
  PySem.fillsNumberSlot_seq (id := "tuple.__mul__") (r := some (.builtin "tuple.__rmul__")) F.slot_tuple_mul.lookup (by decide +kernel) F.slot_tuple_rmul.lookup (by decide +kernel)
theorem repeat_tuple : seqRepeat? (.type "tuple") = pure (some (.builtin "tuple.__mul__")) := by
  unfold seqRepeat?
  rw [PySem.seqSlot_of (T := "tuple") (name := "__mul__") (id := "tuple.__mul__") F.slot_tuple_mul.lookup (by decide +kernel), PySem.seqSlot_of (T := "tuple") (name := "__rmul__") (id := "tuple.__rmul__") F.slot_tuple_rmul.lookup (by decide +kernel)]
  rfl
theorem rmul_int_tuple (a : Int) (t : Tok) (l : Addr) (items : Array Value) (n : Nat) (dd : Option Addr) (sl : Array (Option Value)) :
    Meets (Builtin.«int.__rmul__» ⟨[.int a t, .ref l], []⟩) (fun _ R s => s.heap.get? l = some { cls := .type "tuple", dict := dd, data := .seq items n, slots := sl } ∧ R (.ok (.ret Value.notImplemented)) s) :=
  .of_wp fun prog w A R s h => by
    obtain ⟨hp_a, g_a, d_a, tk_a, os_a⟩ := s
    have at0 := h.1
    wp_walk
    exact ⟨_, rfl, h.2⟩
section
variable {X : Cx}
theorem ints_as : ∀ {ns : List Int} {its : List Value}, Vals (ns.map V.int) its → ∃ ps : List (Int × Tok), its = ps.map (fun p => Value.int p.1 p.2) ∧ ps.map (·.1) = ns
  | [], _, .nil => ⟨[], rfl, rfl⟩
  | n :: ns, _, .cons r rr => by
    obtain ⟨t, rfl⟩ := r
    obtain ⟨ps, rfl, rfl⟩ := ints_as rr
    exact ⟨(n, t) :: ps, rfl, rfl⟩
theorem call_sum (hc : X.calm = true) : CallR X (.builtin "sum") (fun xs H Q => ∃ p ns, xs = [.ref p] ∧ SqL X.K H p (List.map V.int ns) ∧ Q (.int ns.sum) H) := by
  intro pins s σ H vs us Q I r h
  obtain ⟨p, ns, rfl, hq, q⟩ := h
  obtain ⟨u, rfl, ru⟩ := vals1 r
  cases ru
  obtain ⟨its, rv, pl, hz⟩ := I.list hq
  obtain ⟨ps, rfl, rfl⟩ := ints_as rv
  have hl' : s.heap.IsList p (intItems ps.toArray) := by
    have z := pl.isList
    rwa [show (ps.map fun p => Value.int p.1 p.2).toArray = intItems ps.toArray by simp [intItems]] at z
  refine sum_intListG (I.ok.hd hc) hl' fun h' tk t' hk => ⟨.int _, H, I.kept hk, ⟨t', ?_⟩, q⟩
  have := preSum_eq ps.toArray ps.toArray.size
  simp only [List.size_toArray] at this
  rw [List.take_of_length_le (Nat.le_of_eq (List.length_map _))] at this
  simp [this]
theorem call_isinst {T : String} : CallR X (.builtin "isinstance") (fun xs H Q => ∃ x t b, xs = [x, .ty T] ∧ TyOf X.K H x t ∧ PySem.W.kitOne X.K t (.type T) = some b ∧ Q (.bl b) H) := by
  intro pins s σ H vs us Q I r h
  obtain ⟨x, t, b, rfl, ty, e, q⟩ := h
  obtain ⟨u, v, rfl, ru, rv⟩ := vals2 r
  cases rv
  exact isinst_ok I ru ty e fun tk => ⟨.bl b, H, I.tok tk, rfl, q⟩
end
mutual
inductive HasD (K : PySem.W.Frag) (H : Hp) : V → PySem.W.Dat → Prop
  | none : HasD K H .non .none
  | bool (b : Bool) : HasD K H (.bl b) (.bool b)
  | int (i : Int) : HasD K H (.int i) (.int i)
  | str (x : Str) : HasD K H (.str x) (.str x)
  | tuple {a : Addr} {xs : List V} {ds : List PySem.W.Dat} : SqT K H a xs → HasA K H xs ds → HasD K H (.ref a) (.tuple ds)
  | list {a : Addr} {xs : List V} {ds : List PySem.W.Dat} : SqL K H a xs → HasA K H xs ds → HasD K H (.ref a) (.list ds)
inductive HasA (K : PySem.W.Frag) (H : Hp) : List V → List PySem.W.Dat → Prop
  | nil : HasA K H [] []
  | cons {v : V} {vs : List V} {d : PySem.W.Dat} {ds : List PySem.W.Dat} : HasD K H v d → HasA K H vs ds → HasA K H (v :: vs) (d :: ds)
end
mutual
theorem HasD.mono {K : PySem.W.Frag} {H H' : Hp} (e : Same H H') : ∀ {v : V} {d : PySem.W.Dat}, HasD K H v d → HasD K H' v d
  | _, _, .none => .none
  | _, _, .bool b => .bool b
  | _, _, .int i => .int i
  | _, _, .str x => .str x
  | _, _, .tuple h r => .tuple (e.seqT h) (HasA.mono e r)
  | _, _, .list h r => .list (e.seq h) (HasA.mono e r)
theorem HasA.mono {K : PySem.W.Frag} {H H' : Hp} (e : Same H H') : ∀ {vs : List V} {ds : List PySem.W.Dat}, HasA K H vs ds → HasA K H' vs ds
  | _, _, .nil => .nil
  | _, _, .cons h r => .cons (HasD.mono e h) (HasA.mono e r)
end
theorem HasA.length {K : PySem.W.Frag} {H : Hp} : ∀ {vs : List V} {ds : List PySem.W.Dat}, HasA K H vs ds → vs.length = ds.length
  | _, _, .nil => rfl
  | _, _, .cons _ r => by rw [List.length_cons, List.length_cons, HasA.length r]
theorem HasA.append {K : PySem.W.Frag} {H : Hp} : ∀ {vs ws : List V} {ds es : List PySem.W.Dat}, HasA K H vs ds → HasA K H ws es → HasA K H (vs ++ ws) (ds ++ es)
  | _, _, _, _, .nil, k => k
  | _, _, _, _, .cons h r, k => .cons h (HasA.append r k)
theorem HasA.get {K : PySem.W.Frag} {H : Hp} : ∀ {vs : List V} {ds : List PySem.W.Dat} {i : Nat} {v : V}, HasA K H vs ds → vs[i]? = some v → ∃ d, ds[i]? = some d ∧ HasD K H v d
  | _, _, 0, _, .cons h _, e => by
    have e' : _ = _ := Option.some.inj e
    subst e'
    exact ⟨_, rfl, h⟩
  | _, _, i + 1, v, .cons _ r, e => HasA.get (i := i) (v := v) r e
theorem HasA.ints {K : PySem.W.Frag} {H : Hp} : ∀ (ns : List Int), HasA K H (ns.map V.int) (ns.map PySem.W.Dat.int)
  | [] => .nil
  | n :: ns => .cons (.int n) (HasA.ints ns)
theorem HasA.intsV {K : PySem.W.Frag} {H : Hp} : ∀ {xs : List V} {ns : List Int}, HasA K H xs (ns.map PySem.W.Dat.int) → xs = ns.map V.int
  | _, [], h => by cases h; rfl
  | _, n :: ns, h => by
    cases h with
    | cons h r =>
      cases h
      rw [HasA.intsV r]; rfl
mutual
theorem HasD.reads {X : Cx} {pins : List (Addr × Obj)} {σ : St} {H : Hp} {s : Shared} (I : Inv X pins σ H s) : ∀ {v : V} {d : PySem.W.Dat} {u : Value}, HasD X.K H v d → RelV v u → ∃ as, Reads s.heap u (PySem.W.kqdP d) as
  | _, _, u, .none, r => by cases (show u = Value.none from r); exact ⟨_, .none⟩
  | _, _, u, .bool b, r => by cases (show u = Value.bool b from r); exact ⟨_, .bool b⟩
  | _, _, u, .int i, r => by obtain ⟨t, rfl⟩ := r; exact ⟨_, .int i t⟩
  | _, _, u, .str x, r => by obtain ⟨t, rfl⟩ := r; exact ⟨_, .str x t⟩
  | _, _, u, .tuple (a := a) h q, r => by
    cases (show u = Value.ref a from r)
    obtain ⟨its, rv, ⟨o, ho, hc, n, hd⟩, _⟩ := I.tuple h
    obtain ⟨as, z⟩ := HasA.reads I q rv
    rw [PySem.W.kqdP]
    exact ⟨as, .tuple ho hc hd (by simpa using z)⟩
  | _, _, u, .list (a := a) h q, r => by
    cases (show u = Value.ref a from r)
    obtain ⟨its, rv, p, _⟩ := I.list h
    obtain ⟨o, ho, hc, n, hd⟩ := p.isList
    obtain ⟨as, z⟩ := HasA.reads I q rv
    rw [PySem.W.kqdP]
    exact ⟨_, .list ho hc hd (by simpa using z)⟩
theorem HasA.reads {X : Cx} {pins : List (Addr × Obj)} {σ : St} {H : Hp} {s : Shared} (I : Inv X pins σ H s) : ∀ {vs : List V} {ds : List PySem.W.Dat} {us : List Value}, HasA X.K H vs ds → Vals vs us → ∃ as, ReadsAll s.heap us (PySem.W.kqdPs ds) as
  | _, _, _, .nil, .nil => ⟨_, .nil⟩
  | _, _, _, .cons h q, .cons r rr => by
    obtain ⟨as, z⟩ := HasD.reads I h r
    obtain ⟨bs, y⟩ := HasA.reads I q rr
    rw [PySem.W.kqdPs]
    exact ⟨_, .cons z y⟩
end
section
variable {X : Cx}
open Classical in
inductive Ask_rEqD (K : PySem.W.Frag) (neg : Bool) (x : V) (y : V) (H : Hp) (Q : VK) : Prop where
  | mk (d e : _) (q0_ : HasD K H x d) (q1_ : HasD K H y e) (q2_ : PySem.W.kqdOk 8 d = true) (q3_ : PySem.W.kqdOk 8 e = true) (q4_ : Q (.bl (if neg then !decide (d = e) else decide (d = e))) H) : Ask_rEqD K neg x y H Q
noncomputable def rEqD (K : PySem.W.Frag) (neg : Bool) : R2 := fun x y H Q => Ask_rEqD K neg x y H Q
open Classical in
theorem eqv_dec {d e : PySem.W.Dat} (hd : PySem.W.kqdOk 8 d = true) (he : PySem.W.kqdOk 8 e = true) : PyData.eqv (PySem.W.kqdP d) (PySem.W.kqdP e) = decide (d = e) := by
  exact Bool.eq_iff_iff.mpr ((PySem.W.kqd_eqv 8 d e 8 hd he).trans decide_eq_true_iff.symm)
theorem shaped_of {d : PySem.W.Dat} (hd : PySem.W.kqdOk 8 d = true) : SeqAt.shaped (PySem.W.kqdP d) = true := by
  have l := PySem.W.kqd_lay 8 d hd
  unfold SeqAt.shaped
  rw [l.1, Bool.true_and]
  exact decide_eq_true (Nat.le_trans l.2 (by decide))
theorem op_neD (hu : X.A.units + 64 < cLine) : OpR X (compareOp .NotEq) (rEqD X.K true) := by
  intro pins s σ H x y v u Q I rx ry h
  obtain ⟨d, e, hx, hy, hd, he, q⟩ := h
  obtain ⟨as, ra⟩ := hx.reads I rx
  obtain ⟨bs, rb⟩ := hy.reads I ry
  refine ne_dataH ra rb (shaped_of hd) (shaped_of he) hu ?_
  rw [eqv_dec hd he]
  exact ⟨.bl _, H, I, rfl, q⟩
end
noncomputable def intsT (ns : List Int) : PySem.W.Dat := .tuple (ns.map .int)
theorem kqd_intsT (n : Nat) (ns : List Int) : PySem.W.kqdOk (n + 1) (intsT ns) = true := by
  unfold intsT PySem.W.kqdOk
  rw [List.all_map]
  exact List.all_eq_true.mpr fun _ _ => by cases n <;> rfl
theorem tuple_mul1 (l : Addr) (items : Array Value) (n : Nat) (dd : Option Addr) (sl : Array (Option Value)) (u : Tok) :
    Meets (Builtin.«tuple.__mul__» ⟨[.ref l, .int 1 u], []⟩) (fun _ R s => s.heap.get? l = some { cls := .type "tuple", dict := dd, data := .seq items n, slots := sl } ∧ R (.ok (.ret (.ref l))) s) :=
  .of_wp fun prog w A R s h => by
    obtain ⟨hp_a, g_a, d_a, tk_a, os_a⟩ := s
    have at0 := h.1
    have f1 := AutoSeq1.idx_int
    wp_walk using AutoSeq1.wpAny_loadPart' at0
    exact ⟨_, rfl, h.2⟩
theorem tuple_mul0 (l : Addr) (items : Array Value) (n : Nat) (dd : Option Addr) (sl : Array (Option Value)) (x : Int) (u : Tok) (hx : x ≤ 0) (hx2 : -(2 ^ 63) ≤ x) (hne : items.isEmpty = false) :
    Meets (Builtin.«tuple.__mul__» ⟨[.ref l, .int x u], []⟩) (fun _ R s => s.heap.get? l = some { cls := .type "tuple", dict := dd, data := .seq items n, slots := sl } ∧
      R (.ok (.ret (Value.ref s.heap.objs.size))) { s with heap := s.heap.push { cls := Value.type "tuple", data := Data.seq #[] } }) :=
  .of_wp fun prog w A R s h => by
    obtain ⟨hp_a, g_a, d_a, tk_a, os_a⟩ := s
    have at0 := h.1
    have f1 := AutoSeq1.idx_int
    have c1 : (decide (x < -2 ^ 63) || decide (x ≥ 2 ^ 63)) = false := by simp; lia
    have c2 : (items.isEmpty || x == 1) = false := by rw [hne]; simp; lia
    have c3 : (decide (x ≤ 0) || items.isEmpty) = true := by simp [hx]
    wp_walk using AutoSeq1.wpAny_loadPart' at0
    refine wpAny_ite_false (by rw [c1]; rfl) ?_
    wp_walk using AutoSeq1.wpAny_loadPart' at0
    refine wpAny_ite_false (by rw [c2]; rfl) ?_
    wp_walk using AutoSeq1.wpAny_loadPart' at0
    exact ⟨_, rfl, h.2⟩
theorem size_rep (items : Array Value) : ∀ (k : Nat) (acc : Array Value), (List.foldl (fun x1 x2 => x1 ++ x2) acc (List.replicate k items)).size = acc.size + k * items.size
  | 0, acc => by simp
  | k + 1, acc => by rw [List.replicate_succ, List.foldl_cons, size_rep items k, Array.size_append, Nat.succ_mul]; lia
theorem tuple_mulN (l : Addr) (items : Array Value) (n : Nat) (dd : Option Addr) (sl : Array (Option Value)) (x : Int) (u : Tok) (hx : 2 ≤ x) (hx2 : x < 2 ^ 63) (hne : items.isEmpty = false) (hz : items.size * x.toNat ≤ sizeLine) :
    Meets (Builtin.«tuple.__mul__» ⟨[.ref l, .int x u], []⟩) (fun _ R s => s.heap.get? l = some { cls := .type "tuple", dict := dd, data := .seq items n, slots := sl } ∧
      R (.ok (.ret (Value.ref s.heap.objs.size))) { s with heap := s.heap.push { cls := Value.type "tuple", data := Data.seq (List.foldl (fun x1 x2 => x1 ++ x2) #[] (List.replicate x.toNat items)) } }) :=
  .of_wp fun prog w A R s h => by
    obtain ⟨hp_a, g_a, d_a, tk_a, os_a⟩ := s
    have at0 := h.1
    have f1 := AutoSeq1.idx_int
    have c1 : (decide (x < -2 ^ 63) || decide (x ≥ 2 ^ 63)) = false := by simp; lia
    have c2 : (items.isEmpty || x == 1) = false := by rw [hne]; simp; lia
    have c3 : (decide (x ≤ 0) || items.isEmpty) = false := by rw [hne]; simp; lia
    have e : (items.size : Int) * x = ((items.size * x.toNat : Nat) : Int) := by
      rw [Int.natCast_mul]; congr 1; lia
    have hl2 : (sizeLine : Nat) ≤ (2 ^ 63 - 1) / 8 := by decide
    have c4 : decide ((items.size : Int) * x > (2 ^ 63 - 1) / 8) = false := by rw [e]; simp only [decide_eq_false_iff_not]; lia
    have c5 : Builtin.Tuple.tupleTooMany ((items.size : Int) * x) = false := by rw [e]; unfold Builtin.Tuple.tupleTooMany; simp only [decide_eq_false_iff_not]; lia
    have c6 : (List.foldl (fun x1 x2 => x1 ++ x2) #[] (List.replicate x.toNat items)).size ≤ sizeLine := by rw [size_rep, Array.size_empty, Nat.zero_add, Nat.mul_comm]; exact hz
    wp_walk using AutoSeq1.wpAny_loadPart' at0
    refine wpAny_ite_false (by rw [c1]; rfl) ?_
    wp_walk using AutoSeq1.wpAny_loadPart' at0
    refine wpAny_ite_false (by rw [c2]; rfl) ?_
    wp_walk using AutoSeq1.wpAny_loadPart' at0
    refine wpAny_ite_false (by rw [c3]; rfl) ?_
    wp_walk
    refine wpAny_ite_false c4 ?_
    wp_walk
    refine wpAny_ite_false (by rw [c5]; rfl) ?_
    wp_walk
    exact ⟨_, rfl, h.2⟩
inductive Ask_rRepT (K : PySem.W.Frag) (x : V) (y : V) (H : Hp) (Q : VK) : Prop where
  | mk (a k xs : _) (q0_ : x = .ref a) (q1_ : y = .int k) (q2_ : SqT K H a xs) (q3_ : xs ≠ []) (q4_ : -(2 ^ 63) ≤ k) (q5_ : k < 2 ^ 63) (q6_ : xs.length * k.toNat ≤ sizeLine) (q7_ : AnyT K H (List.replicate k.toNat xs).flatten Q) : Ask_rRepT K x y H Q
noncomputable def rRepT (K : PySem.W.Frag) : R2 := fun x y H Q => Ask_rRepT K x y H Q
theorem op_repT {X : Cx} : OpR X (binaryOp .Mult) (rRepT X.K) := by
  intro pins s σ H x y v u Q I rx ry h
  obtain ⟨l, k, xs, rfl, rfl, hH, hne, h1, h2, hz, q⟩ := h
  cases rx
  obtain ⟨t, rfl⟩ := ry
  obtain ⟨its, r, ht, _⟩ := I.tuple hH
  obtain ⟨⟨cls, dd, data, sl⟩, ho, hc, n, hd⟩ := id ht
  simp only at hc hd
  subst hc hd
  have hi : its.toArray.isEmpty = false := by
    have : its ≠ [] := fun z => hne (r.nil_iff.mp z)
    cases its with
    | nil => exact absurd rfl this
    | cons a b => rfl
  have hlen : its.toArray.size * k.toNat ≤ sizeLine := by rw [List.size_toArray, ← r.length]; exact hz
  have f0 : ∀ m : Nat, List.foldl (fun x1 x2 => x1 ++ x2) #[] (List.replicate m its.toArray) = (List.replicate m its).flatten.toArray := fun m => by
    have := foldl_rep its m []
    rw [List.nil_append] at this
    exact this
  refine wpAny_binaryOp_repeat_ref (T := "tuple") (U := "int") (by decide) ⟨_, ho, rfl⟩ (fun s' => typeIs_int s' k t) noFill_tuple_mul F.fills_int_mul F.slot_int_rmul repeat_tuple F.slot_int_index.lookup
    (call_meets F.slot_int_rmul (typeIs_int s k t) F.entry_int_rmul (F.args_int_rmul_2 _ _) (rmul_int_tuple k t l its.toArray n dd sl) ⟨ho, rfl, ⟨_, ho, rfl⟩, ?_⟩)
  by_cases hk1 : k = 1
  · subst hk1
    refine call_meets F.slot_tuple_mul ⟨_, ho, rfl⟩ F.entry_tuple_mul (F.args_tuple_mul_2 _ _) (tuple_mul1 l its.toArray n dd sl t) ⟨ho, ?_⟩
    exact ⟨.ref l, H, I, rfl, q.old (by simpa using hH)⟩
  · by_cases hk0 : k ≤ 0
    · refine call_meets F.slot_tuple_mul ⟨_, ho, rfl⟩ F.entry_tuple_mul (F.args_tuple_mul_2 _ _) (tuple_mul0 l its.toArray n dd sl k t hk0 h1 hi) ⟨ho, ?_⟩
      have e : k.toNat = 0 := by lia
      rw [e] at q
      exact ⟨.ref _, _, I.laid (t' := s.toks) (o := .tup []) (fun b ob q => Heap.get?_push_of_some _ q) (Nat.le_refl _) ⟨Nat.zero_le _, [], .nil, IsTup.new _ _⟩, rfl, q.new I.fresh⟩
    · refine call_meets F.slot_tuple_mul ⟨_, ho, rfl⟩ F.entry_tuple_mul (F.args_tuple_mul_2 _ _) (tuple_mulN l its.toArray n dd sl k t (by lia) h2 hi hlen) ⟨ho, ?_⟩
      rw [f0]
      exact ⟨.ref _, _, I.laid (t' := s.toks) (o := .tup (List.replicate k.toNat xs).flatten) (fun b ob q => Heap.get?_push_of_some _ q) (Nat.le_refl _) ⟨by rw [len_rep, Nat.mul_comm]; exact hz, _, r.rep k.toNat, IsTup.new _ _⟩, rfl, q.new I.fresh⟩
noncomputable def blkCheck (oN : List Str) (osc : Scope) (N : List Str) (own : Nat) (caps : List Nat) (scope : Scope) : Bool :=
  decide (scope.kind = .function) && decide N.Nodup && decide (scope.names.map (·.1)).Nodup &&
  scope.names.all (fun x => x.2 != .free || (decide (osc.names.lookup x.1 = some .cell) || decide (osc.names.lookup x.1 = some .free))) &&
  decide (N.length = own + caps.length) && decide (caps.map (fun i => oN[i]?) = (N.drop own).map some) && (N.drop own).all (fun x => decide (scope.names.lookup x = some .free))
theorem BlkScope.mk' {oN : List Str} {osc : Scope} {N : List Str} {own : Nat} {caps : List Nat} {scope : Scope} (h : blkCheck oN osc N own caps scope = true) : BlkScope oN osc N own caps scope := by
  unfold blkCheck at h
  simp only [Bool.and_eq_true, decide_eq_true_eq, List.all_eq_true, Bool.or_eq_true, bne_iff_ne, ne_eq] at h
  obtain ⟨⟨⟨⟨⟨⟨h1, h2⟩, h3⟩, h4⟩, h5⟩, h6⟩, h7⟩ := h
  exact ⟨h1, h2, h3, fun x hx hk => (h4 x hx).elim (fun z => absurd hk z) id, h5, h6, h7⟩
noncomputable def CpN (n : Nat) (cp : St) (H1 : Hp) (P : Hp → List V → Prop) : St → Hp → List V → Prop := fun σ H zs => (∃ o : St, o.length = n ∧ σ = o ++ cp) ∧ Same H1 H ∧ P H zs
section
variable {K : PySem.W.Frag} {H1 : Hp} {cp : St} {g : TG} {tt : TT} {te : TE} {Q : VK} {xs ys : List V} {l1 l2 a : Addr} {b1 b2 b : Bool} {n own : Nat} {J : It}
theorem comp_any (Pv : Nat → Hp → List V → Prop) (hn : n ≤ sizeLine) (h0 : Pv 0 H1 []) (hlen : ∀ i H zs, Pv i H zs → zs.length ≤ i)
    (hgo : ∀ i H, Same H1 H → i < n → J.go i H) (hstop : ∀ H, Same H1 H → J.stop n H)
    (step : ∀ i o H zs, i < n → o.length = own → Same H1 H → Pv i H zs → ∀ x H2, J.yld i H x H2 → g x (o ++ cp) H2 fun σ3 H3 => tt σ3 H3 fun c H4 => if c = true then te σ3 H4 fun v H5 => CpN own cp H1 (Pv (i + 1)) σ3 H5 (zs ++ [v]) else CpN own cp H1 (Pv (i + 1)) σ3 H4 zs)
    (done : ∀ H zs, Same H1 H → Pv n H zs → ∀ p, H p = none → Q (.ref p) (upd H p (.lst zs))) :
    ∃ W : Nat → Nat → St → Hp → List V → Prop, (∃ m, W 0 m (List.replicate own none ++ cp) H1 []) ∧ CompW J g tt te Q W := by
  refine ⟨fun i m σ H zs => m = n - i ∧ i ≤ n ∧ CpN own cp H1 (Pv i) σ H zs, ⟨n, by simp, Nat.zero_le _, ⟨_, by simp, rfl⟩, .refl _, h0⟩, ?_⟩
  rintro i m σ H zs ⟨rfl, hi, ⟨o, ho, rfl⟩, sm, pv⟩
  have hl := hlen _ _ _ pv
  by_cases hlt : i < n
  · exact .inr ⟨hgo i H sm hlt, by lia, CpN own cp H1 (Pv (i + 1)), fun σ2 H2 zs2 q => ⟨n - (i + 1), by lia, rfl, hlt, q⟩, step i o H zs hlt ho sm pv⟩
  · have e : i = n := by lia
    subst e
    exact .inl ⟨hstop H sm, by lia, done H zs sm pv⟩
theorem one_of {o : St} (h : o.length = 1) : ∃ x, o = [x] := by
  match o, h with
  | [x], _ => exact ⟨x, rfl⟩
theorem two_of {o : St} (h : o.length = 2) : ∃ x y, o = [x, y] := by
  match o, h with
  | [x, y], _ => exact ⟨x, y, rfl⟩
theorem comp_list (Pv : Nat → Hp → List V → Prop) (hq : SqL K H1 a xs) (hz : xs.length ≤ sizeLine) (h0 : Pv 0 H1 []) (hlen : ∀ i H zs, Pv i H zs → zs.length ≤ i)
    (step : ∀ i x H zs, xs[i]? = some x → Same H1 H → Pv i H zs → tt (some x :: cp) H fun c H4 => if c = true then te (some x :: cp) H4 fun v H5 => CpN 1 cp H1 (Pv (i + 1)) (some x :: cp) H5 (zs ++ [v]) else CpN 1 cp H1 (Pv (i + 1)) (some x :: cp) H4 zs)
    (done : ∀ H zs, Same H1 H → Pv xs.length H zs → ∀ p, H p = none → Q (.ref p) (upd H p (.lst zs))) :
    ∃ W : Nat → Nat → St → Hp → List V → Prop, (∃ m, W 0 m (List.replicate 1 none ++ cp) H1 []) ∧ CompW (Itl K a) (gName 0) tt te Q W := by
  refine comp_any (n := xs.length) Pv hz h0 hlen (fun i H sm hi => ⟨xs, xs[i], sm.seq hq, by simp [hi]⟩) (fun H sm => ⟨xs, sm.seq hq, Nat.le_refl _⟩) (fun i o H zs hi ho sm pv x H2 y => ?_) done
  obtain ⟨w, rfl⟩ := one_of ho
  obtain ⟨rfl, y⟩ := y
  exact step i x _ zs (y xs (sm.seq hq)) sm pv
theorem comp_tup (Pv : Nat → Hp → List V → Prop) (hq : SqT K H1 a xs) (hz : xs.length ≤ sizeLine) (h0 : Pv 0 H1 []) (hlen : ∀ i H zs, Pv i H zs → zs.length ≤ i)
    (step : ∀ i x H zs, xs[i]? = some x → Same H1 H → Pv i H zs → tt (some x :: cp) H fun c H4 => if c = true then te (some x :: cp) H4 fun v H5 => CpN 1 cp H1 (Pv (i + 1)) (some x :: cp) H5 (zs ++ [v]) else CpN 1 cp H1 (Pv (i + 1)) (some x :: cp) H4 zs)
    (done : ∀ H zs, Same H1 H → Pv xs.length H zs → ∀ p, H p = none → Q (.ref p) (upd H p (.lst zs))) :
    ∃ W : Nat → Nat → St → Hp → List V → Prop, (∃ m, W 0 m (List.replicate 1 none ++ cp) H1 []) ∧ CompW (Itt K a) (gName 0) tt te Q W := by
  refine comp_any (n := xs.length) Pv hz h0 hlen (fun i H sm hi => ⟨xs, xs[i], sm.seqT hq, by simp [hi]⟩) (fun H sm => ⟨xs, sm.seqT hq, Nat.le_refl _⟩) (fun i o H zs hi ho sm pv x H2 y => ?_) done
  obtain ⟨w, rfl⟩ := one_of ho
  obtain ⟨rfl, y⟩ := y
  exact step i x _ zs (y xs (sm.seqT hq)) sm pv
theorem comp_rng {lo : Int} (Pv : Nat → Hp → List V → Prop) (hz : n ≤ sizeLine) (h0 : Pv 0 H1 []) (hlen : ∀ i H zs, Pv i H zs → zs.length ≤ i)
    (step : ∀ i H zs, i < n → Same H1 H → Pv i H zs → tt (some (.int (lo + (i : Nat))) :: cp) H fun c H4 => if c = true then te (some (.int (lo + (i : Nat))) :: cp) H4 fun v H5 => CpN 1 cp H1 (Pv (i + 1)) (some (.int (lo + (i : Nat))) :: cp) H5 (zs ++ [v]) else CpN 1 cp H1 (Pv (i + 1)) (some (.int (lo + (i : Nat))) :: cp) H4 zs)
    (done : ∀ H zs, Same H1 H → Pv n H zs → ∀ p, H p = none → Q (.ref p) (upd H p (.lst zs))) :
    ∃ W : Nat → Nat → St → Hp → List V → Prop, (∃ m, W 0 m (List.replicate 1 none ++ cp) H1 []) ∧ CompW (Itr lo n) (gName 0) tt te Q W := by
  refine comp_any (n := n) Pv hz h0 hlen (fun i H sm hi => hi) (fun H sm => Nat.le_refl _) (fun i o H zs hi ho sm pv x H2 y => ?_) done
  obtain ⟨w, rfl⟩ := one_of ho
  obtain ⟨rfl, rfl⟩ := y
  exact step i _ zs hi sm pv
noncomputable abbrev gPair (K : PySem.W.Frag) (i j : Nat) : TG := gTup K 2 (gCons (gName i) (gCons (gName j) gNil))
theorem gPair_at {p : Addr} {x y : V} {i j : Nat} {σ : St} {H : Hp} {R : St → Hp → Prop} (h : SqT K H p [x, y]) (q : R ((σ.set i (some x)).set j (some y)) H) : gPair K i j (.ref p) σ H R :=
  ⟨p, [x, y], rfl, h, rfl, x, [y], rfl, y, [], rfl, rfl, q⟩
theorem comp_zip (Pv : Nat → Hp → List V → Prop) (hq1 : Sq b1 K H1 l1 xs) (hq2 : Sq b2 K H1 l2 ys) (hl : xs.length = ys.length) (hz : xs.length ≤ sizeLine) (h0 : Pv 0 H1 []) (hlen : ∀ i H zs, Pv i H zs → zs.length ≤ i) (mono : ∀ i H H' zs, Same H H' → Pv i H zs → Pv i H' zs)
    (step : ∀ i x y H zs, xs[i]? = some x → ys[i]? = some y → Same H1 H → Pv i H zs → tt (some x :: some y :: cp) H fun c H4 => if c = true then te (some x :: some y :: cp) H4 fun v H5 => CpN 2 cp H1 (Pv (i + 1)) (some x :: some y :: cp) H5 (zs ++ [v]) else CpN 2 cp H1 (Pv (i + 1)) (some x :: some y :: cp) H4 zs)
    (done : ∀ H zs, Same H1 H → Pv xs.length H zs → ∀ p, H p = none → Q (.ref p) (upd H p (.lst zs))) :
    ∃ W : Nat → Nat → St → Hp → List V → Prop, (∃ m, W 0 m (List.replicate 2 none ++ cp) H1 []) ∧ CompW (Itz K b1 b2 l1 l2) (gPair K 0 1) tt te Q W := by
  refine comp_any (n := xs.length) Pv hz h0 hlen (fun i H sm hi => ⟨xs, ys, xs[i], ys[i], sm.sq hq1, sm.sq hq2, by simp [hi], by simp [hl ▸ hi]⟩) (fun H sm => ⟨xs, ys, sm.sq hq1, sm.sq hq2, .inl rfl⟩) (fun i o H zs hi ho sm pv v H2 yl => ?_) done
  obtain ⟨w1, w2, rfl⟩ := two_of ho
  obtain ⟨p, x, y, rfl, hp, rfl, hx, hy⟩ := yl
  refine gPair_at (.of upd_same) ?_
  have s2 : Same H (upd H p (.tup [x, y])) := .upd hp
  exact step i x y _ zs (hx xs (sm.sq hq1)) (hy ys (sm.sq hq2)) (sm.trans s2) (mono _ _ _ _ s2 pv)
theorem comp_enum (Pv : Nat → Hp → List V → Prop) (hq : Sq b K H1 a xs) (hz : xs.length ≤ sizeLine) (h0 : Pv 0 H1 []) (hlen : ∀ i H zs, Pv i H zs → zs.length ≤ i) (mono : ∀ i H H' zs, Same H H' → Pv i H zs → Pv i H' zs)
    (step : ∀ i x H zs, xs[i]? = some x → Same H1 H → Pv i H zs → tt (some (.int (i : Nat)) :: some x :: cp) H fun c H4 => if c = true then te (some (.int (i : Nat)) :: some x :: cp) H4 fun v H5 => CpN 2 cp H1 (Pv (i + 1)) (some (.int (i : Nat)) :: some x :: cp) H5 (zs ++ [v]) else CpN 2 cp H1 (Pv (i + 1)) (some (.int (i : Nat)) :: some x :: cp) H4 zs)
    (done : ∀ H zs, Same H1 H → Pv xs.length H zs → ∀ p, H p = none → Q (.ref p) (upd H p (.lst zs))) :
    ∃ W : Nat → Nat → St → Hp → List V → Prop, (∃ m, W 0 m (List.replicate 2 none ++ cp) H1 []) ∧ CompW (Ite K b a) (gPair K 0 1) tt te Q W := by
  refine comp_any (n := xs.length) Pv hz h0 hlen (fun i H sm hi => ⟨xs, xs[i], sm.sq hq, by simp [hi]⟩) (fun H sm => ⟨xs, sm.sq hq, rfl⟩) (fun i o H zs hi ho sm pv v H2 yl => ?_) done
  obtain ⟨w1, w2, rfl⟩ := two_of ho
  obtain ⟨p, x, rfl, hp, rfl, hx⟩ := yl
  refine gPair_at (.of upd_same) ?_
  have s2 : Same H (upd H p (.tup [.int i, x])) := .upd hp
  exact step i x _ zs (hx xs (sm.sq hq)) (sm.trans s2) (mono _ _ _ _ s2 pv)
end
section
variable {K : PySem.W.Frag} {a l1 l2 : Addr} {xs ys : List V} {b b1 b2 : Bool} {tb : TS} {D : Ends} {σ : St} {H : Hp} {i j : Nat}
theorem for_zip (Pv : Nat → St → Hp → Prop) (hl : xs.length = ys.length) (h0 : Pv 0 σ H) (hq : ∀ k σ H, Pv k σ H → Sq b1 K H l1 xs ∧ Sq b2 K H l2 ys) (mono : ∀ k σ H H', Same H H' → Pv k σ H → Pv k σ H')
    (hs : ∀ k x y σ H, xs[k]? = some x → ys[k]? = some y → Pv k σ H → tb { D with nx := Pv (k + 1), ct := Pv (k + 1), bk := D.nx } ((σ.set i (some x)).set j (some y)) H) (hd : ∀ σ H, Pv xs.length σ H → D.nx σ H) :
    ∃ W : Nat → Nat → St → Hp → Prop, (∃ m, W 0 m σ H) ∧ ∀ k m σ H, W k m σ H →
      ((Itz K b1 b2 l1 l2).stop k H ∧ D.nx σ H) ∨ ((Itz K b1 b2 l1 l2).go k H ∧ ∃ N : St → Hp → Prop, (∀ σ' H', N σ' H' → ∃ m', m' < m ∧ W (k + 1) m' σ' H') ∧ ∀ x H', (Itz K b1 b2 l1 l2).yld k H x H' → gPair K i j x σ H' fun σ2 H2 => tb { D with nx := N, ct := N, bk := D.nx } σ2 H2) := by
  refine ⟨fun k m σ H => m = xs.length - k ∧ k ≤ xs.length ∧ Pv k σ H, ⟨xs.length, by simp, Nat.zero_le _, h0⟩, ?_⟩
  rintro k m σ H ⟨rfl, hk, p⟩
  obtain ⟨q1, q2⟩ := hq k σ H p
  by_cases hlt : k < xs.length
  · refine .inr ⟨⟨xs, ys, xs[k], ys[k], q1, q2, by simp [hlt], by simp [hl ▸ hlt]⟩, Pv (k + 1), fun σ' H' p' => ⟨xs.length - (k + 1), by lia, rfl, hlt, p'⟩, fun v H' yl => ?_⟩
    obtain ⟨pp, x, y, rfl, hp, rfl, hx, hy⟩ := yl
    exact gPair_at (.of upd_same) (hs k x y σ _ (hx xs q1) (hy ys q2) (mono _ _ _ _ (.upd hp) p))
  · have e : k = xs.length := by lia
    subst e
    exact .inl ⟨⟨xs, ys, q1, q2, .inl rfl⟩, hd σ H p⟩
theorem for_enum (Pv : Nat → St → Hp → Prop) (h0 : Pv 0 σ H) (hq : ∀ k σ H, Pv k σ H → Sq b K H a xs) (mono : ∀ k σ H H', Same H H' → Pv k σ H → Pv k σ H')
    (hs : ∀ k x σ H, xs[k]? = some x → Pv k σ H → tb { D with nx := Pv (k + 1), ct := Pv (k + 1), bk := D.nx } ((σ.set i (some (.int (k : Nat)))).set j (some x)) H) (hd : ∀ σ H, Pv xs.length σ H → D.nx σ H) :
    ∃ W : Nat → Nat → St → Hp → Prop, (∃ m, W 0 m σ H) ∧ ∀ k m σ H, W k m σ H →
      ((Ite K b a).stop k H ∧ D.nx σ H) ∨ ((Ite K b a).go k H ∧ ∃ N : St → Hp → Prop, (∀ σ' H', N σ' H' → ∃ m', m' < m ∧ W (k + 1) m' σ' H') ∧ ∀ x H', (Ite K b a).yld k H x H' → gPair K i j x σ H' fun σ2 H2 => tb { D with nx := N, ct := N, bk := D.nx } σ2 H2) := by
  refine ⟨fun k m σ H => m = xs.length - k ∧ k ≤ xs.length ∧ Pv k σ H, ⟨xs.length, by simp, Nat.zero_le _, h0⟩, ?_⟩
  rintro k m σ H ⟨rfl, hk, p⟩
  have q := hq k σ H p
  by_cases hlt : k < xs.length
  · refine .inr ⟨⟨xs, xs[k], q, by simp [hlt]⟩, Pv (k + 1), fun σ' H' p' => ⟨xs.length - (k + 1), by lia, rfl, hlt, p'⟩, fun v H' yl => ?_⟩
    obtain ⟨pp, x, rfl, hp, rfl, hx⟩ := yl
    exact gPair_at (.of upd_same) (hs k x σ _ (hx xs q) (mono _ _ _ _ (.upd hp) p))
  · have e : k = xs.length := by lia
    subst e
    exact .inl ⟨⟨xs, q, rfl⟩, hd σ H p⟩
end
theorem kit_int_int (K : PySem.W.Frag) : PySem.W.kitOne K (.type "int") (.type "int") = some true := by kernel_rfl
theorem kit_int_bool (K : PySem.W.Frag) : PySem.W.kitOne K (.type "int") (.type "bool") = some false := by kernel_rfl
theorem kit_tuple_tuple (K : PySem.W.Frag) : PySem.W.kitOne K (.type "tuple") (.type "tuple") = some true := by kernel_rfl
section
variable {X : Cx}
theorem call_isinstT {T : String} : CallR X (.builtin "isinstance") (fun xs H Q => ∃ a ys b, xs = [.ref a, .ty T] ∧ SqT X.K H a ys ∧ PySem.W.kitOne X.K (.type "tuple") (.type T) = some b ∧ Q (.bl b) H) := by
  intro pins s σ H vs us Q I r h
  obtain ⟨a, ys, b, rfl, hq, e, q⟩ := h
  obtain ⟨u, v, rfl, ru, rv⟩ := vals2 r
  cases ru
  cases rv
  obtain ⟨its, rr, ⟨o, h1, h2, _⟩, _⟩ := I.tuple hq
  exact PySem.W.kia_one PySem.W.kitx_tuple I.kIn ⟨o, h1, h2⟩ e (fun z => nomatch z) fun tk => ⟨.bl b, H, I.tok tk, rfl, q⟩
theorem call_isinstI {T : String} : CallR X (.builtin "isinstance") (fun xs H Q => ∃ i b, xs = [.int i, .ty T] ∧ PySem.W.kitOne X.K (.type "int") (.type T) = some b ∧ Q (.bl b) H) := by
  intro pins s σ H vs us Q I r h
  obtain ⟨i, b, rfl, e, q⟩ := h
  exact call_isinst pins s σ H _ us Q I r ⟨.int i, _, b, rfl, .int i, e, q⟩
end
theorem relTy (n : String) : RelV (.ty n) (.type n) := rfl
theorem pe_ty {X : Cx} {x : Str} {T : String} {pos : Pos} (hg : Gl X x) (hm : X.mg x = none) (hv : bootBuiltins x = some (.type T)) (hn : x ≠ "__name__" := by decide) (hd : (x == ("__debug__" : Str)) = false := by decide) : PE X (.Name x pos) (tC (.ty T)) := pe_bltn hg hm hv (relTy T) hn hd
theorem hasT {K : PySem.W.Frag} {H : Hp} {x : V} {r : List Int} (h : HasD K H x (intsT r)) : ∃ a, x = .ref a ∧ SqT K H a (r.map V.int) := by
  unfold intsT at h
  cases h with
  | tuple hq ha => exact ⟨_, rfl, by rw [← ha.intsV]; exact hq⟩
theorem hasT_of {K : PySem.W.Frag} {H : Hp} {a : Addr} {r : List Int} (h : SqT K H a (r.map V.int)) : HasD K H (.ref a) (intsT r) := .tuple h (HasA.ints r)
theorem Same.write {H H' : Hp} {l : Addr} {o : HO} (sm : Same H H') (h : H l = none) : Same H (L2.upd H' l o) := fun b u e => by rw [upd_ne (ne_of_none e h)]; exact sm b u e
open Classical in
theorem iteNeD {d e : PySem.W.Dat} {A B : Prop} (h : d = e) (b : B) : if (if true = true then !decide (d = e) else decide (d = e)) = true then A else B := by
  subst h
  simp only [decide_true, Bool.not_true, if_true, Bool.false_eq_true, if_false]
  exact b
theorem iteD {c A B : Prop} [Decidable c] (hc : ¬ c) (h : B) : if decide c = true then A else B := by
  rw [decide_eq_false hc]
  exact iteF h
inductive Ask_len (K : PySem.W.Frag) (xs : List V) (H : Hp) (Q : VK) : Prop where
  | mk (p : Addr) (ys : List V) (q0_ : xs = [.ref p]) (q1_ : SqL K H p ys ∨ SqT K H p ys) (q2_ : Q (.int ys.length) H) : Ask_len K xs H Q
inductive Ask_list (K : PySem.W.Frag) (xs : List V) (H : Hp) (Q : VK) : Prop where
  | mk (p : Addr) (ys : List V) (q0_ : xs = [.ref p]) (q1_ : SqL K H p ys ∨ SqT K H p ys) (q2_ : ∀ l, H l = none → Q (.ref l) (upd H l (.lst ys))) : Ask_list K xs H Q
inductive Ask_tuple (K : PySem.W.Frag) (xs : List V) (H : Hp) (Q : VK) : Prop where
  | mk (p : Addr) (ys : List V) (q0_ : xs = [.ref p]) (q1_ : (SqL K H p ys ∧ ∀ l, H l = none → Q (.ref l) (upd H l (.tup ys))) ∨ (SqT K H p ys ∧ Q (.ref p) H)) : Ask_tuple K xs H Q
section
variable {X : Cx} (K : PySem.W.Frag) (hK : X.K = K)
include hK
theorem ixL : IxR X (rIxL K) := hK ▸ ix_list
theorem ixT : IxR X (rIxT K) := hK ▸ ix_tup
theorem slL : SlR X (rSlL K) := hK ▸ sl_list
theorem cLen : CallR X (.builtin "len") (fun xs H Q => Ask_len K xs H Q) := by
  subst hK
  intro pins s σ H xs us Q I v ⟨p, ys, a, b, c⟩
  exact call_len_seq pins s σ H xs us Q I v ⟨p, ys, a, b, c⟩
theorem cList : CallR X (.type "list") (fun xs H Q => Ask_list K xs H Q) := by
  subst hK
  intro pins s σ H xs us Q I v ⟨p, ys, a, b, c⟩
  exact call_list_of pins s σ H xs us Q I v ⟨p, ys, a, b, c⟩
theorem cTuple : CallR X (.type "tuple") (fun xs H Q => Ask_tuple K xs H Q) := by
  subst hK
  intro pins s σ H xs us Q I v ⟨p, ys, a, b⟩
  exact call_tuple_of pins s σ H xs us Q I v ⟨p, ys, a, b⟩
theorem cIsT {T : String} : CallR X (.builtin "isinstance") (fun xs H Q => ∃ a ys b, xs = [.ref a, .ty T] ∧ SqT K H a ys ∧ PySem.W.kitOne K (.type "tuple") (.type T) = some b ∧ Q (.bl b) H) := hK ▸ call_isinstT
theorem cIsI {T : String} : CallR X (.builtin "isinstance") (fun xs H Q => ∃ i b, xs = [.int i, .ty T] ∧ PySem.W.kitOne K (.type "int") (.type T) = some b ∧ Q (.bl b) H) := hK ▸ call_isinstI
theorem cSum (hc : X.calm = true) : CallR X (.builtin "sum") (fun xs H Q => ∃ p ns, xs = [.ref p] ∧ SqL K H p (List.map V.int ns) ∧ Q (.int ns.sum) H) := hK ▸ call_sum hc
theorem opNeD (hu : X.A.units + 64 < cLine) : OpR X (compareOp .NotEq) (rEqD K true) := hK ▸ op_neD hu
theorem opRepT : OpR X (binaryOp .Mult) (rRepT K) := hK ▸ op_repT
theorem piList {tg l : Expr} {tl : TE} (hl : PE X l tl) : PI X tg l (iList K tl) := hK ▸ pi_list hl
theorem piTup {tg l : Expr} {tl : TE} (hl : PE X l tl) : PI X tg l (iTup K tl) := hK ▸ pi_tup hl
theorem piZip (b1 b2 : Bool) {a b : Expr} {ta : TA} {p pos pt : Pos} {es : List Expr} {kt : Nat} (hg : Gl X "zip") (hm : X.mg "zip" = none) (ha : PA X [a, b] ta) (hs : starEach [a, b] X.env = [(false, eval a X.env), (false, eval b X.env)] := by rfl) (hs2 : starEach [b] X.env = [(false, eval b X.env)] := by rfl) :
    PI X (.Tuple es kt pt) (.Call (.Name "zip" p) [a, b] [] pos) (iZip K b1 b2 ta) := hK ▸ pi_zip b1 b2 hg hm ha hs hs2
theorem piEnum (b : Bool) {a : Expr} {ta : TA} {p pos pt : Pos} {es : List Expr} {kt : Nat} (hg : Gl X "enumerate") (hm : X.mg "enumerate" = none) (ha : PA X [a] ta) (hs : starEach [a] X.env = [(false, eval a X.env)] := by rfl) :
    PI X (.Tuple es kt pt) (.Call (.Name "enumerate" p) [a] [] pos) (iEnum K b ta) := hK ▸ pi_enum b hg hm ha hs
theorem pgTup {es : List Expr} {k : Nat} {t : TGs} {n : Nat} {pos : Pos} (hc : X.calm = true) (h : PGs X es t)
    (hn : (assignEach es X.env).length = n := by rfl) (hst : (assignEach es X.env).findIdx? (·.1) = none := by rfl) : PG X (.Tuple es k pos) (gTup K n t) := hK ▸ pg_tup hc h hn hst
end
theorem bt_tuple : bootBuiltins "tuple" = some (.type "tuple") := by decide +kernel
theorem bt_list : bootBuiltins "list" = some (.type "list") := by decide +kernel
theorem bt_int : bootBuiltins "int" = some (.type "int") := by decide +kernel
theorem bt_bool : bootBuiltins "bool" = some (.type "bool") := by decide +kernel
theorem bt_isinstance : bootBuiltins "isinstance" = some (.builtin "isinstance") := by decide +kernel
theorem bt_sum : bootBuiltins "sum" = some (.builtin "sum") := by decide +kernel
theorem bt_len : bootBuiltins "len" = some (.builtin "len") := by decide +kernel
theorem tgo {σ : St} {H : Hp} {Y N : Hp → Prop} (h : Y H) : tTrue σ H (fun c H4 => if c = true then Y H4 else N H4) := by
  show if true = true then Y H else N H
  exact iteT h
end L2
namespace L2
open PySem
inductive Ex1 {A0_ : Type} (p : A0_ → Prop) : Prop where
  | mk (x0 : A0_) (h : p x0) : Ex1 p
inductive Ex2 {A0_ A1_ : Type} (p : A0_ → A1_ → Prop) : Prop where
  | mk (x0 : A0_) (x1 : A1_) (h : p x0 x1) : Ex2 p
inductive Ex3 {A0_ A1_ A2_ : Type} (p : A0_ → A1_ → A2_ → Prop) : Prop where
  | mk (x0 : A0_) (x1 : A1_) (x2 : A2_) (h : p x0 x1 x2) : Ex3 p
inductive Ex4 {A0_ A1_ A2_ A3_ : Type} (p : A0_ → A1_ → A2_ → A3_ → Prop) : Prop where
  | mk (x0 : A0_) (x1 : A1_) (x2 : A2_) (x3 : A3_) (h : p x0 x1 x2 x3) : Ex4 p
inductive Ex5 {A0_ A1_ A2_ A3_ A4_ : Type} (p : A0_ → A1_ → A2_ → A3_ → A4_ → Prop) : Prop where
  | mk (x0 : A0_) (x1 : A1_) (x2 : A2_) (x3 : A3_) (x4 : A4_) (h : p x0 x1 x2 x3 x4) : Ex5 p
inductive Ex6 {A0_ A1_ A2_ A3_ A4_ A5_ : Type} (p : A0_ → A1_ → A2_ → A3_ → A4_ → A5_ → Prop) : Prop where
  | mk (x0 : A0_) (x1 : A1_) (x2 : A2_) (x3 : A3_) (x4 : A4_) (x5 : A5_) (h : p x0 x1 x2 x3 x4 x5) : Ex6 p
inductive Ex7 {A0_ A1_ A2_ A3_ A4_ A5_ A6_ : Type} (p : A0_ → A1_ → A2_ → A3_ → A4_ → A5_ → A6_ → Prop) : Prop where
  | mk (x0 : A0_) (x1 : A1_) (x2 : A2_) (x3 : A3_) (x4 : A4_) (x5 : A5_) (x6 : A6_) (h : p x0 x1 x2 x3 x4 x5 x6) : Ex7 p
inductive Ex8 {A0_ A1_ A2_ A3_ A4_ A5_ A6_ A7_ : Type} (p : A0_ → A1_ → A2_ → A3_ → A4_ → A5_ → A6_ → A7_ → Prop) : Prop where
  | mk (x0 : A0_) (x1 : A1_) (x2 : A2_) (x3 : A3_) (x4 : A4_) (x5 : A5_) (x6 : A6_) (x7 : A7_) (h : p x0 x1 x2 x3 x4 x5 x6 x7) : Ex8 p
inductive Ex9 {A0_ A1_ A2_ A3_ A4_ A5_ A6_ A7_ A8_ : Type} (p : A0_ → A1_ → A2_ → A3_ → A4_ → A5_ → A6_ → A7_ → A8_ → Prop) : Prop where
  | mk (x0 : A0_) (x1 : A1_) (x2 : A2_) (x3 : A3_) (x4 : A4_) (x5 : A5_) (x6 : A6_) (x7 : A7_) (x8 : A8_) (h : p x0 x1 x2 x3 x4 x5 x6 x7 x8) : Ex9 p
inductive Ex10 {A0_ A1_ A2_ A3_ A4_ A5_ A6_ A7_ A8_ A9_ : Type} (p : A0_ → A1_ → A2_ → A3_ → A4_ → A5_ → A6_ → A7_ → A8_ → A9_ → Prop) : Prop where
  | mk (x0 : A0_) (x1 : A1_) (x2 : A2_) (x3 : A3_) (x4 : A4_) (x5 : A5_) (x6 : A6_) (x7 : A7_) (x8 : A8_) (x9 : A9_) (h : p x0 x1 x2 x3 x4 x5 x6 x7 x8 x9) : Ex10 p
structure All2 (a0 a1 : Prop) : Prop where
  q0 : a0
  q1 : a1
structure All3 (a0 a1 a2 : Prop) : Prop where
  q0 : a0
  q1 : a1
  q2 : a2
structure All5 (a0 a1 a2 a3 a4 : Prop) : Prop where
  q0 : a0
  q1 : a1
  q2 : a2
  q3 : a3
  q4 : a4
structure All9 (a0 a1 a2 a3 a4 a5 a6 a7 a8 : Prop) : Prop where
  q0 : a0
  q1 : a1
  q2 : a2
  q3 : a3
  q4 : a4
  q5 : a5
  q6 : a6
  q7 : a7
  q8 : a8
end L2
namespace L2
open PySem PySem.Spec PyProof.Rows
section
variable {X : Cx} {pos : Pos}
end
theorem add_none (l b : Addr) (its its2 : Array Value) (n n2 : Nat) (dd dd2 : Option Addr) (sl sl2 : Array (Option Value)) (he : its.isEmpty = true) :
    Meets (Builtin.«tuple.__add__» ⟨[.ref l, .ref b], []⟩) (fun _ R s => s.heap.get? l = some { cls := .type "tuple", dict := dd, data := .seq its n, slots := sl } ∧ s.heap.get? b = some { cls := .type "tuple", dict := dd2, data := .seq its2 n2, slots := sl2 } ∧ R (.ok (.ret (.ref b))) s) :=
  .of_wp fun _ _ _ _ s h => by
    obtain ⟨hpA, gA, dA, tkA, osA⟩ := s
    have at0 := h.1
    have at1 := h.2.1
    have f2 := AutoSeq1.sub_tuple_tuple
    wp_walk using AutoSeq1.wpAny_loadPart' at0, AutoSeq1.wpAny_loadPart' at1
    exact ⟨_, rfl, h.2.2⟩
inductive Ask_rCatA (K : PySem.W.Frag) (x : V) (y : V) (H : Hp) (Q : VK) : Prop where
  | mk (a b xs ys : _) (q0_ : x = .ref a) (q1_ : y = .ref b) (q2_ : SqT K H a xs) (q3_ : SqT K H b ys) (q4_ : xs.length + ys.length ≤ sizeLine) (q5_ : AnyT K H (xs ++ ys) Q) : Ask_rCatA K x y H Q
noncomputable def rCatA (K : PySem.W.Frag) : R2 := fun x y H Q => Ask_rCatA K x y H Q
theorem op_catA {X : Cx} : OpR X (binaryOp .Add) (rCatA X.K) := by
  rintro pins s σ H x y v u Q I rx ry ⟨a, b, xs, ys, rfl, rfl, ha, hb, hz, q⟩
  by_cases hx : xs = []
  · subst hx
    cases rx
    cases ry
    obtain ⟨its, r1, ⟨⟨c1, d1, t1, s1⟩, o1, e1, n1, f1⟩, _⟩ := I.tuple ha
    obtain ⟨its2, r2, ⟨⟨c2, d2, t2, s2⟩, o2, e2, n2, f2⟩, _⟩ := I.tuple hb
    simp only at e1 f1 e2 f2
    subst e1 f1 e2 f2
    cases r1
    refine concat_meets ⟨_, o1, rfl⟩ ⟨_, o2, rfl⟩ noFill_tuple_add seq_tuple_add PySem.F.slot_tuple_add PySem.F.entry_tuple_add (PySem.F.args_tuple_add_2 _ _) (add_none a b _ _ _ _ d1 d2 s1 s2 rfl) ⟨o1, o2, ?_⟩
    exact ⟨.ref b, H, I, rfl, q.old hb⟩
  · refine op_catT pins s σ H _ _ v u Q I rx ry ⟨a, b, xs, ys, rfl, rfl, ha, hb, hx, hz, fun hy => ?_, fun _ p hp => q.new hp⟩
    subst hy
    exact q.old (by rw [List.append_nil]; exact ha)
theorem opCatA {X : Cx} (K : PySem.W.Frag) (hK : X.K = K) : OpR X (binaryOp .Add) (rCatA K) := hK ▸ op_catA
theorem slT {X : Cx} (K : PySem.W.Frag) (hK : X.K = K) : SlR X (rSlT K) := hK ▸ sl_tup
theorem rng_map (d : Bool) (bs : List Bool) : (List.range bs.length).map (fun i => (bs[i]?).getD d) = bs := by
  apply List.ext_getElem
  · simp
  · intro i h1 h2
    simp [List.getElem?_eq_getElem h2]
theorem rng_any (bs : List Bool) : ((List.range bs.length).any fun i => (bs[i]?).getD false) = bs.any id := by
  have e := congrArg (fun l => List.any l id) (rng_map false bs)
  rw [← e]
  simp only [List.any_map]; rfl
section
variable {X : Cx}
theorem bt_any : bootBuiltins "any" = some (.builtin "any") := by decide +kernel
end
end L2
namespace Bw
noncomputable def primesL : List Int := [2, 3, 5, 7, 11, 13, 17, 19, 23, 29, 31, 37, 41, 43, 47, 53, 59, 61, 67, 71, 73, 79, 83, 89, 97]
noncomputable def turnI (p n : Int) : Nat → Int
  | 0 => 1
  | k + 1 => turnI p n k * n % p
noncomputable def turnM (p n : Int) : Int := turnI p n (p - 2).toNat
noncomputable def turnOk (p n : Int) : Bool := decide (1 ≤ turnM p n) && decide (turnM p n < p) && decide (turnM p n * n % p = 1)
theorem turn_all : (primesL.all fun p => (List.range p.toNat).all fun n => n == 0 || turnOk p n) = true := by decide +kernel
theorem prime_pos : ∀ p ∈ primesL, 2 ≤ p ∧ p ≤ 97 := by decide +kernel
theorem turn_ok {p n : Int} (hp : p ∈ primesL) (h1 : 1 ≤ n) (h2 : n < p) : 1 ≤ turnM p n ∧ turnM p n < p ∧ turnM p n * n % p = 1 := by
  have h := List.all_eq_true.mp turn_all p hp
  have h' := List.all_eq_true.mp h n.toNat (List.mem_range.mpr (by lia))
  have en : ((n.toNat : Nat) : Int) = n := by lia
  have n0 : (n.toNat == 0) = false := by simp; lia
  rw [n0, Bool.false_or, en] at h'
  unfold turnOk at h'
  simp only [decide_eq_true_eq, Bool.and_eq_true] at h'
  exact ⟨h'.1.1, h'.1.2, h'.2⟩
theorem turnI_bound {p n : Int} (hp : 2 ≤ p) : ∀ k, 0 ≤ turnI p n k ∧ turnI p n k < p
  | 0 => by unfold turnI; lia
  | k + 1 => by
    unfold turnI
    exact ⟨Int.emod_nonneg _ (by lia), Int.emod_lt_of_pos _ (by lia)⟩
noncomputable def addM (p : Int) (row : List Int) (f : Int) (other : List Int) : List Int := List.zipWith (fun a b => (a + f * b) % p) row other
noncomputable def sumM (p : Int) : List (List Int × Int) → List Int → List Int
  | [], t => t
  | (r, f) :: L, t => sumM p L (addM p t f r)
noncomputable def colS (L : List (List Int × Int)) (j : Nat) : Int := (L.map fun q => q.1.getD j 0 * q.2).sum
theorem colS_cons (r : List Int) (f : Int) (L : List (List Int × Int)) (j : Nat) : colS ((r, f) :: L) j = r.getD j 0 * f + colS L j := by simp [colS]
theorem addM_map {p f : Int} {n : Nat} {r : List Int} (c : Nat → Int) (hr : r.length = n) : addM p ((List.range n).map fun j => c j % p) f r = (List.range n).map fun j => (c j + r.getD j 0 * f) % p := by
  apply List.ext_getElem
  · simp [addM, hr]
  · intro i h1 h2
    have hi : i < r.length := by simp [addM, hr] at h1; lia
    simp only [addM, List.getElem_zipWith, List.getElem_map, List.getElem_range]
    rw [List.getD_eq_getElem?_getD, List.getElem?_eq_getElem hi, Option.getD_some, Int.mul_comm f, Int.emod_add_emod]
theorem sumM_eq {p : Int} {n : Nat} : ∀ (L : List (List Int × Int)) (c : Nat → Int), (∀ q ∈ L, q.1.length = n) → sumM p L ((List.range n).map fun j => c j % p) = (List.range n).map fun j => (c j + colS L j) % p
  | [], c, _ => by simp [sumM, colS]
  | (r, f) :: L, c, h => by
    rw [sumM, addM_map c (h (r, f) List.mem_cons_self), sumM_eq L (fun j => c j + r.getD j 0 * f) fun q hq => h q (List.mem_cons_of_mem _ hq)]
    apply List.map_congr_left
    intro j _
    rw [colS_cons, Int.add_assoc]
theorem sumM_zero {p : Int} {n : Nat} (L : List (List Int × Int)) (h : ∀ q ∈ L, q.1.length = n) : sumM p L (List.replicate n 0) = (List.range n).map fun j => colS L j % p := by
  have e : List.replicate n (0 : Int) = (List.range n).map fun j => (fun _ => (0 : Int)) j % p := by
    apply List.ext_getElem
    · simp
    · intro i _ _; simp
  rw [e, sumM_eq L (fun _ => 0) h]
  apply List.map_congr_left
  intro j _
  rw [Int.zero_add]
noncomputable abbrev Fn := Nat → Int
noncomputable def eqm (p : Int) (u v : Fn) : Prop := ∀ j, p ∣ u j - v j
theorem dvd_mod (p a : Int) : p ∣ a % p - a := ⟨-(a / p), by
  have := Int.emod_add_mul_ediv a p
  rw [Int.mul_neg]
  lia⟩
theorem eqm.symm {p : Int} {u v : Fn} (h : eqm p u v) : eqm p v u := fun j => by
  have := Int.dvd_neg.mpr (h j)
  rwa [show -(u j - v j) = v j - u j by lia] at this
theorem eqm.trans {p : Int} {u v w : Fn} (h : eqm p u v) (k : eqm p v w) : eqm p u w := fun j => by
  have := Int.dvd_add (h j) (k j)
  rwa [show u j - v j + (v j - w j) = u j - w j by lia] at this
inductive Sp (p : Int) (R : Fn → Prop) : Fn → Prop
  | zero : Sp p R (fun _ => 0)
  | add {v r : Fn} (c : Int) : Sp p R v → R r → Sp p R (fun j => v j + c * r j)
  | cong {u v : Fn} : Sp p R v → eqm p v u → Sp p R u
section
variable {p : Int} {R R' : Fn → Prop}
theorem Sp.of_eq {u v : Fn} (h : Sp p R v) (e : ∀ j, v j = u j) : Sp p R u := .cong h fun j => ⟨0, by rw [e j]; lia⟩
theorem Sp.mem {r : Fn} (h : R r) : Sp p R r := (Sp.add 1 .zero h).of_eq fun j => by lia
theorem Sp.plus {u v : Fn} (c : Int) (hu : Sp p R u) (hv : Sp p R v) : Sp p R (fun j => u j + c * v j) := by
  induction hv with
  | zero => exact hu.of_eq fun j => by simp
  | @add v r d _ hr ih => exact (Sp.add (c * d) ih hr).of_eq fun j => by rw [Int.mul_add, ← Int.add_assoc, Int.mul_assoc]
  | @cong w v _ e ih =>
    refine .cong ih fun j => ?_
    have : p ∣ c * (v j - w j) := Int.dvd_mul_of_dvd_right (e j)
    rw [Int.mul_sub] at this
    rwa [show u j + c * v j - (u j + c * w j) = c * v j - c * w j by lia]
theorem Sp.trans {v : Fn} (h : ∀ r, R r → Sp p R' r) (hv : Sp p R v) : Sp p R' v := by
  induction hv with
  | zero => exact .zero
  | add c _ hr ih => exact ih.plus c (h _ hr)
  | cong _ e ih => exact .cong ih e
end
noncomputable def fn (r : List Int) : Fn := fun j => r.getD j 0
noncomputable def RS (L : List (List Int)) : Fn → Prop := fun f => ∃ r ∈ L, f = fn r
noncomputable def Rw (p : Int) (n : Nat) (r : List Int) : Prop := r.length = n ∧ ∀ x ∈ r, 0 ≤ x ∧ x < p
noncomputable def Rws (p : Int) (n : Nat) (L : List (List Int)) : Prop := ∀ r ∈ L, Rw p n r
theorem Rw.at {p : Int} {n : Nat} {r : List Int} (hp : 0 < p) (h : Rw p n r) (j : Nat) : 0 ≤ r.getD j 0 ∧ r.getD j 0 < p := by
  rw [List.getD_eq_getElem?_getD (i := j)]
  by_cases hj : j < r.length
  · rw [List.getElem?_eq_getElem hj]; exact h.2 _ (List.getElem_mem hj)
  · rw [List.getElem?_eq_none (by lia)]; exact ⟨Int.le_refl 0, hp⟩
theorem Rw.out {p : Int} {n : Nat} {r : List Int} (h : Rw p n r) {j : Nat} (hj : n ≤ j) : r.getD j 0 = 0 := by
  rw [List.getD_eq_getElem?_getD, List.getElem?_eq_none (by rw [h.1]; exact hj)]; rfl
theorem small_eq {p a b : Int} (h : p ∣ a - b) (a0 : 0 ≤ a) (a1 : a < p) (b0 : 0 ≤ b) (b1 : b < p) : a = b := by
  obtain ⟨c, hc⟩ := h
  have : c = 0 := by
    rcases Int.lt_trichotomy c 0 with h | h | h
    · have := Int.mul_le_mul_of_nonneg_left (show c ≤ -1 by lia) (show 0 ≤ p by lia)
      lia
    · exact h
    · have := Int.mul_le_mul_of_nonneg_left (show 1 ≤ c by lia) (show 0 ≤ p by lia)
      lia
  rw [this] at hc
  lia
theorem Rw.ext {p : Int} {n : Nat} {r s : List Int} (hp : 0 < p) (hr : Rw p n r) (hs : Rw p n s) (h : ∀ j, p ∣ r.getD j 0 - s.getD j 0) : r = s := by
  apply List.ext_getElem (by rw [hr.1, hs.1])
  intro i h1 h2
  have := small_eq (h i) (hr.at hp i).1 (hr.at hp i).2 (hs.at hp i).1 (hs.at hp i).2
  simpa [List.getD_eq_getElem?_getD, h1, h2] using this
theorem addM_at {p : Int} {n : Nat} {r o : List Int} (f : Int) (hr : r.length = n) (ho : o.length = n) (j : Nat) : (addM p r f o).getD j 0 = if j < n then (r.getD j 0 + f * o.getD j 0) % p else 0 := by
  by_cases hj : j < n
  · rw [if_pos hj]
    have h1 : j < r.length := by lia
    have h2 : j < o.length := by lia
    have h3 : j < (addM p r f o).length := by simp [addM]; lia
    rw [List.getD_eq_getElem?_getD, List.getElem?_eq_getElem h3, List.getD_eq_getElem?_getD, List.getElem?_eq_getElem h1, List.getD_eq_getElem?_getD, List.getElem?_eq_getElem h2]
    simp [addM]
  · rw [if_neg hj, List.getD_eq_getElem?_getD, List.getElem?_eq_none (by simp [addM]; lia)]; rfl
theorem addM_Rw {p : Int} {n : Nat} {r o : List Int} (f : Int) (hp : 0 < p) (hr : r.length = n) (ho : o.length = n) : Rw p n (addM p r f o) := by
  refine ⟨by simp [addM]; lia, fun x hx => ?_⟩
  obtain ⟨i, hi, rfl⟩ := List.mem_iff_getElem.mp hx
  simp only [addM, List.getElem_zipWith]
  exact ⟨Int.emod_nonneg _ (show p ≠ 0 by lia), Int.emod_lt_of_pos _ hp⟩
theorem addM_eqm {p : Int} {n : Nat} {r o : List Int} (f : Int) (hr : r.length = n) (ho : o.length = n) : eqm p (fun j => fn r j + f * fn o j) (fn (addM p r f o)) := fun j => by
  show p ∣ r.getD j 0 + f * o.getD j 0 - (addM p r f o).getD j 0
  rw [addM_at f hr ho]
  by_cases hj : j < n
  · rw [if_pos hj]
    have := Int.dvd_neg.mpr (dvd_mod p (r.getD j 0 + f * o.getD j 0))
    rwa [show -((r.getD j 0 + f * o.getD j 0) % p - (r.getD j 0 + f * o.getD j 0)) = r.getD j 0 + f * o.getD j 0 - (r.getD j 0 + f * o.getD j 0) % p by lia] at this
  · rw [if_neg hj]
    have e1 : r.getD j 0 = 0 := by rw [List.getD_eq_getElem?_getD, List.getElem?_eq_none (by lia)]; rfl
    have e2 : o.getD j 0 = 0 := by rw [List.getD_eq_getElem?_getD, List.getElem?_eq_none (by lia)]; rfl
    rw [e1, e2]
    exact ⟨0, by simp⟩
noncomputable def clearM (p : Int) (lead : List Int) (place : Nat) (row : List Int) : List Int := if row.getD place 0 ≠ 0 then addM p row (-(row.getD place 0)) lead else row
section
variable {p : Int} {n place : Nat} {lead row : List Int}
theorem clearM_Rw (hp : 0 < p) (hl : Rw p n lead) (hr : Rw p n row) : Rw p n (clearM p lead place row) := by
  unfold clearM; split
  · exact addM_Rw _ hp hr.1 hl.1
  · exact hr
theorem clearM_eqm (hl : Rw p n lead) (hr : Rw p n row) : eqm p (fun j => fn row j + -(row.getD place 0) * fn lead j) (fn (clearM p lead place row)) := by
  unfold clearM; split
  · exact addM_eqm _ hr.1 hl.1
  · rename_i h
    have h0 : row.getD place 0 = 0 := by simpa using h
    rw [h0]
    intro j
    exact ⟨0, by simp⟩
theorem clearM_at (hl : Rw p n lead) (hr : Rw p n row) {j : Nat} (hj : lead.getD j 0 = 0) (hp : 0 < p) : (clearM p lead place row).getD j 0 = row.getD j 0 := by
  unfold clearM; split
  · rw [addM_at _ hr.1 hl.1, hj, Int.mul_zero, Int.add_zero]
    by_cases h : j < n
    · rw [if_pos h]; exact Int.emod_eq_of_lt (hr.at hp j).1 (hr.at hp j).2
    · rw [if_neg h, hr.out (by lia)]
  · rfl
theorem clearM_place (hl : Rw p n lead) (hr : Rw p n row) (h1 : lead.getD place 0 = 1) : (clearM p lead place row).getD place 0 = 0 := by
  unfold clearM; split
  · rw [addM_at _ hr.1 hl.1, h1]
    split
    · rw [Int.mul_one, show row.getD place 0 + -(row.getD place 0) = 0 by lia]; exact Int.zero_emod p
    · rfl
  · rename_i h
    simpa using h
end
noncomputable def leadM (p : Int) (n : Nat) (h : List Int) (place : Nat) : List Int := sumM p [(h, turnM p (h.getD place 0))] (List.replicate n 0)
noncomputable def stepM (p : Int) (n : Nat) (st : List (List Int) × List (List Int)) (place : Nat) : List (List Int) × List (List Int) :=
  match st.2.filter fun r => r.getD place 0 ≠ 0 with
  | [] => st
  | h :: _ => (st.1.map (clearM p (leadM p n h place) place) ++ [leadM p n h place], st.2.map (clearM p (leadM p n h place) place))
noncomputable def redI (p : Int) (n : Nat) (L : List (List Int)) : Nat → List (List Int) × List (List Int)
  | 0 => ([], L)
  | k + 1 => stepM p n (redI p n L k) k
noncomputable def lenM (L : List (List Int)) : Nat := (L.head?.map List.length).getD 0
noncomputable def redM (p : Int) (L : List (List Int)) : List (List Int) := (redI p (lenM L) L (lenM L)).1
structure Ech (n k : Nat) (D : List (List Int)) (ls : List Nat) : Prop where
  len : ls.length = D.length
  up : ls.Pairwise (· < ·)
  lt : ∀ l ∈ ls, l < k
  one : ∀ (i : Nat) (r : List Int) (l : Nat), D[i]? = some r → ls[i]? = some l → r.getD l 0 = 1 ∧ ∀ j, j < l → r.getD j 0 = 0
  alone : ∀ (i i' : Nat) (r : List Int) (l : Nat), i ≠ i' → D[i']? = some r → ls[i]? = some l → r.getD l 0 = 0
theorem leadM_at {p : Int} {n place : Nat} {h : List Int} (hh : Rw p n h) (j : Nat) : (leadM p n h place).getD j 0 = if j < n then h.getD j 0 * turnM p (h.getD place 0) % p else 0 := by
  unfold leadM
  rw [sumM_zero _ (fun q hq => by rw [List.mem_singleton.mp hq]; exact hh.1)]
  by_cases hj : j < n
  · rw [if_pos hj]; simp [List.getD_eq_getElem?_getD, hj, colS]
  · rw [if_neg hj]; simp [List.getD_eq_getElem?_getD, hj]
theorem leadM_Rw {p : Int} {n place : Nat} {h : List Int} (hp : 0 < p) (hh : Rw p n h) : Rw p n (leadM p n h place) := by
  unfold leadM
  rw [sumM_zero _ (fun q hq => by rw [List.mem_singleton.mp hq]; exact hh.1)]
  refine ⟨by simp, fun x hx => ?_⟩
  obtain ⟨j, _, rfl⟩ := List.mem_map.mp hx
  exact ⟨Int.emod_nonneg _ (show p ≠ 0 by lia), Int.emod_lt_of_pos _ hp⟩
theorem leadM_eqm {p : Int} {n place : Nat} {h : List Int} (hh : Rw p n h) : eqm p (fun j => turnM p (h.getD place 0) * fn h j) (fn (leadM p n h place)) := fun j => by
  show p ∣ turnM p (h.getD place 0) * h.getD j 0 - (leadM p n h place).getD j 0
  rw [leadM_at hh, Int.mul_comm]
  by_cases hj : j < n
  · rw [if_pos hj]
    have := Int.dvd_neg.mpr (dvd_mod p (h.getD j 0 * turnM p (h.getD place 0)))
    rwa [show -(h.getD j 0 * turnM p (h.getD place 0) % p - h.getD j 0 * turnM p (h.getD place 0)) = h.getD j 0 * turnM p (h.getD place 0) - h.getD j 0 * turnM p (h.getD place 0) % p by lia] at this
  · rw [if_neg hj, hh.out (by lia)]; exact ⟨0, by simp⟩
structure RedOk (p : Int) (n : Nat) (L : List (List Int)) (k : Nat) (st : List (List Int) × List (List Int)) : Prop where
  d : Rws p n st.1
  r : Rws p n st.2
  z : ∀ r ∈ st.2, ∀ j, j < k → r.getD j 0 = 0
  ech : ∃ ls, Ech n k st.1 ls
  sub : ∀ r ∈ st.1 ++ st.2, Sp p (RS L) (fn r)
  sup : ∀ r ∈ L, Sp p (RS (st.1 ++ st.2)) (fn r)
theorem step_ok {p : Int} {n k : Nat} {L : List (List Int)} {st : List (List Int) × List (List Int)} (hp : p ∈ primesL) (hk : k + 1 ≤ n) (I : RedOk p n L k st) : RedOk p n L (k + 1) (stepM p n st k) := by
    have p0 : 0 < p := by have := prime_pos p hp; lia
    obtain ⟨D, T⟩ := st
    unfold stepM
    dsimp only
    cases hf : T.filter fun r => r.getD k 0 ≠ 0 with
    | nil =>
      dsimp only
      obtain ⟨ls, E⟩ := I.ech
      refine ⟨I.d, I.r, fun r hr j hj => ?_, ⟨ls, E.len, E.up, fun l hl => Nat.lt_succ_of_lt (E.lt l hl), E.one, E.alone⟩, I.sub, I.sup⟩
      by_cases hjk : j < k
      · exact I.z r hr j hjk
      · have ej : j = k := by lia
        subst ej
        by_cases h0 : r.getD j 0 = 0
        · exact h0
        · have : r ∈ T.filter fun r => r.getD j 0 ≠ 0 := List.mem_filter.mpr ⟨hr, by simpa using h0⟩
          rw [hf] at this; cases this
    | cons h rest =>
      dsimp only
      have hm : h ∈ T.filter fun r => r.getD k 0 ≠ 0 := by rw [hf]; exact List.mem_cons_self
      obtain ⟨hT, hk0⟩ := List.mem_filter.mp hm
      have hk0' : h.getD k 0 ≠ 0 := by simpa using hk0
      have hh := I.r h hT
      have hlR : Rw p n (leadM p n h k) := leadM_Rw p0 hh
      have hb := hh.at p0 k
      obtain ⟨t1, t2, t3⟩ := turn_ok hp (show 1 ≤ h.getD k 0 by lia) hb.2
      have l1 : (leadM p n h k).getD k 0 = 1 := by rw [leadM_at hh, if_pos (by lia), Int.mul_comm]; exact t3
      have l0 : ∀ j, j < k → (leadM p n h k).getD j 0 = 0 := fun j hj => by
        rw [leadM_at hh, I.z h hT j hj, Int.zero_mul]; split
        · exact Int.zero_emod p
        · rfl
      have hlS : ∀ {Q : Fn → Prop}, Sp p Q (fn h) → Sp p Q (fn (leadM p n h k)) := fun q => .cong (((Sp.zero).plus (turnM p (h.getD k 0)) q).of_eq fun j => by rw [Int.zero_add]) (leadM_eqm hh)
      have hhS : ∀ {Q : Fn → Prop}, Sp p Q (fn (leadM p n h k)) → Sp p Q (fn h) := fun {Q} q => by
        refine .cong (((Sp.zero).plus (h.getD k 0) q)) fun j => ?_
        rw [Int.zero_add]
        show p ∣ h.getD k 0 * (leadM p n h k).getD j 0 - h.getD j 0
        have a := leadM_eqm (place := k) hh j
        have a' : p ∣ h.getD k 0 * (turnM p (h.getD k 0) * fn h j - fn (leadM p n h k) j) := Int.dvd_mul_of_dvd_right a
        rw [Int.mul_sub] at a'
        have t4 : p ∣ turnM p (h.getD k 0) * h.getD k 0 - 1 := by
          have z := Int.dvd_neg.mpr (dvd_mod p (turnM p (h.getD k 0) * h.getD k 0))
          rw [t3] at z
          rwa [show -(1 - turnM p (h.getD k 0) * h.getD k 0) = turnM p (h.getD k 0) * h.getD k 0 - 1 by lia] at z
        have b : p ∣ h.getD j 0 * (turnM p (h.getD k 0) * h.getD k 0 - 1) := Int.dvd_mul_of_dvd_right t4
        have c := Int.dvd_sub b a'
        have e : h.getD j 0 * (turnM p (h.getD k 0) * h.getD k 0 - 1) - (h.getD k 0 * (turnM p (h.getD k 0) * fn h j) - h.getD k 0 * fn (leadM p n h k) j) = h.getD k 0 * (leadM p n h k).getD j 0 - h.getD j 0 := by
          show h.getD j 0 * (turnM p (h.getD k 0) * h.getD k 0 - 1) - (h.getD k 0 * (turnM p (h.getD k 0) * h.getD j 0) - h.getD k 0 * (leadM p n h k).getD j 0) = _
          rw [Int.mul_sub, Int.mul_one, Int.mul_left_comm (h.getD k 0), Int.mul_comm (h.getD j 0) (turnM p (h.getD k 0) * h.getD k 0), Int.mul_assoc]
          lia
        rwa [e] at c
      generalize leadM p n h k = lead at hlR l1 l0 hlS hhS ⊢
      obtain ⟨ls, E⟩ := I.ech
      have elen : ls.length = D.length := E.len
      have hD : ∀ r ∈ D, Rw p n r := I.d
      have hTr : ∀ r ∈ T, Rw p n r := I.r
      have spT : Sp p (RS L) (fn h) := I.sub h (List.mem_append_right _ hT)
      have spL := hlS spT
      have clS : ∀ {Q : Fn → Prop} {r : List Int}, Rw p n r → Sp p Q (fn r) → Sp p Q (fn lead) → Sp p Q (fn (clearM p lead k r)) := fun hr a b => .cong (a.plus _ b) (clearM_eqm hlR hr)
      have unS : ∀ {Q : Fn → Prop} {r : List Int}, Rw p n r → Sp p Q (fn (clearM p lead k r)) → Sp p Q (fn lead) → Sp p Q (fn r) := fun {Q r} hr a b => by
        refine .cong (a.plus (r.getD k 0) b) fun j => ?_
        have q := (clearM_eqm (place := k) hlR hr j)
        have q' := Int.dvd_neg.mpr q
        rwa [show -(fn r j + -(r.getD k 0) * fn lead j - fn (clearM p lead k r) j) = fn (clearM p lead k r) j + r.getD k 0 * fn lead j - fn r j by rw [Int.neg_mul]; lia] at q'
      refine ⟨fun r hr => ?_, fun r hr => ?_, fun r hr j hj => ?_, ⟨ls ++ [k], ?_, ?_, ?_, ?_, ?_⟩, fun r hr => ?_, fun r hr => ?_⟩
      · rcases (List.mem_append.mp hr) with (hr | hr)
        · obtain ⟨r0, h0, rfl⟩ := List.mem_map.mp hr
          exact clearM_Rw p0 hlR (hD r0 h0)
        · rw [List.mem_singleton.mp hr]; exact hlR
      · obtain ⟨r0, h0, rfl⟩ := List.mem_map.mp hr
        exact clearM_Rw p0 hlR (hTr r0 h0)
      · obtain ⟨r0, h0, rfl⟩ := List.mem_map.mp hr
        by_cases hjk : j < k
        · rw [clearM_at hlR (hTr r0 h0) (l0 j hjk) p0]; exact I.z r0 h0 j hjk
        · have ej : j = k := by lia
          subst ej
          exact clearM_place hlR (hTr r0 h0) l1
      · simp [E.len]
      · refine List.pairwise_append.mpr ⟨E.up, by simp, fun a ha b hb => ?_⟩
        rw [List.mem_singleton.mp hb]; exact E.lt a ha
      · intro l hl
        rcases (List.mem_append.mp hl) with (hl | hl)
        · exact Nat.lt_succ_of_lt (E.lt l hl)
        · rw [List.mem_singleton.mp hl]; exact Nat.lt_succ_self k
      · intro i r l hr hl
        by_cases hi : i < D.length
        · rw [List.getElem?_append_left (by simpa using hi), List.getElem?_map, List.getElem?_eq_getElem hi] at hr
          rw [List.getElem?_append_left (by rw [elen]; exact hi)] at hl
          cases hr
          have hlk : l < k := E.lt l (List.mem_of_getElem? hl)
          obtain ⟨o1, o2⟩ := E.one i _ l (List.getElem?_eq_getElem hi) hl
          have rD := hD _ (List.getElem_mem hi)
          refine ⟨by rw [clearM_at hlR rD (l0 l hlk) p0]; exact o1, fun j hj => ?_⟩
          rw [clearM_at hlR rD (l0 j (by lia)) p0]; exact o2 j hj
        · rw [List.getElem?_append_right (by simpa using hi), List.length_map] at hr
          rw [List.getElem?_append_right (by lia), elen] at hl
          have e0 : i - D.length = 0 := by
            have := (List.getElem?_eq_some_iff.mp hr).1
            simp at this; lia
          rw [e0] at hr hl
          simp at hr hl
          subst hr hl
          exact ⟨l1, l0⟩
      · intro i i' r l hne hr hl
        by_cases hi : i < ls.length
        · rw [List.getElem?_append_left hi] at hl
          have hlk : l < k := E.lt l (List.mem_of_getElem? hl)
          by_cases hi' : i' < D.length
          · rw [List.getElem?_append_left (by simpa using hi'), List.getElem?_map, List.getElem?_eq_getElem hi'] at hr
            cases hr
            rw [clearM_at hlR (hD _ (List.getElem_mem hi')) (l0 l hlk) p0]
            exact E.alone i i' _ l hne (List.getElem?_eq_getElem hi') hl
          · rw [List.getElem?_append_right (by simpa using hi'), List.length_map] at hr
            have e0 : i' - D.length = 0 := by
              have := (List.getElem?_eq_some_iff.mp hr).1
              simp at this; lia
            rw [e0] at hr
            simp at hr
            subst hr
            exact l0 l hlk
        · rw [List.getElem?_append_right (by lia)] at hl
          have e0 : i - ls.length = 0 := by
            have := (List.getElem?_eq_some_iff.mp hl).1
            simp at this; lia
          rw [e0] at hl
          simp at hl
          subst hl
          by_cases hi' : i' < D.length
          · rw [List.getElem?_append_left (by simpa using hi'), List.getElem?_map, List.getElem?_eq_getElem hi'] at hr
            cases hr
            exact clearM_place hlR (hD _ (List.getElem_mem hi')) l1
          · rw [List.getElem?_append_right (by simpa using hi'), List.length_map] at hr
            have e1 : i' - D.length = 0 := by
              have := (List.getElem?_eq_some_iff.mp hr).1
              simp at this; lia
            lia
      · rcases (List.mem_append.mp hr) with (hr | hr)
        · rcases (List.mem_append.mp hr) with (hr | hr)
          · obtain ⟨r0, h0, rfl⟩ := List.mem_map.mp hr
            exact clS (hD r0 h0) (I.sub r0 (List.mem_append_left _ h0)) spL
          · rw [List.mem_singleton.mp hr]; exact spL
        · obtain ⟨r0, h0, rfl⟩ := List.mem_map.mp hr
          exact clS (hTr r0 h0) (I.sub r0 (List.mem_append_right _ h0)) spL
      · refine Sp.trans (fun f hf => ?_) (I.sup r hr)
        obtain ⟨r0, h0, rfl⟩ := hf
        have hL1 : Sp p (RS (D.map (clearM p lead k) ++ [lead] ++ T.map (clearM p lead k))) (fn lead) := .mem ⟨lead, by simp, rfl⟩
        rcases (List.mem_append.mp h0) with (h0 | h0)
        · exact unS (hD r0 h0) (.mem ⟨_, by simp; exact .inl ⟨r0, h0, rfl⟩, rfl⟩) hL1
        · exact unS (hTr r0 h0) (.mem ⟨_, by simp; exact .inr (.inr ⟨r0, h0, rfl⟩), rfl⟩) hL1
theorem redI_ok {p : Int} {n : Nat} {L : List (List Int)} (hp : p ∈ primesL) (hL : Rws p n L) : ∀ k, k ≤ n → RedOk p n L k (redI p n L k)
  | 0, _ => ⟨fun r hr => absurd hr (by simp [redI]), by simpa [redI] using hL, fun r _ j hj => absurd hj (by lia), ⟨[], by simp [redI], .nil, by simp, by simp [redI], by simp⟩,
      fun r hr => .mem ⟨r, by simpa [redI] using hr, rfl⟩, fun r hr => .mem ⟨r, by simpa [redI] using hr, rfl⟩⟩
  | k + 1, hk => step_ok hp hk (redI_ok hp hL k (by lia))
noncomputable def Sg (f : Nat → Int) : Nat → Int
  | 0 => 0
  | n + 1 => Sg f n + f n
theorem Sg_zero {f : Nat → Int} {n : Nat} (h : ∀ i, i < n → f i = 0) : Sg f n = 0 := by
  induction n with
  | zero => rfl
  | succ n ih => rw [Sg, ih fun i hi => h i (by lia), h n (by lia)]; rfl
theorem Sg_add (f g : Nat → Int) (n : Nat) : Sg (fun i => f i + g i) n = Sg f n + Sg g n := by
  induction n with
  | zero => rfl
  | succ n ih => rw [Sg, ih, Sg, Sg]; lia
theorem Sg_dvd {p : Int} {f : Nat → Int} {n : Nat} (h : ∀ i, i < n → p ∣ f i) : p ∣ Sg f n := by
  induction n with
  | zero => exact ⟨0, by simp [Sg]⟩
  | succ n ih => rw [Sg]; exact Int.dvd_add (ih fun i hi => h i (by lia)) (h n (by lia))
theorem Sg_one {f : Nat → Int} {n l : Nat} (hl : l < n) : Sg f n = f l + Sg (fun i => if i = l then 0 else f i) n := by
  induction n with
  | zero => lia
  | succ n ih =>
    by_cases h : l = n
    · subst h
      rw [Sg, Sg, if_pos rfl]
      have e : Sg (fun i => if i = l then 0 else f i) l = Sg f l := by
        have : ∀ m, m ≤ l → Sg (fun i => if i = l then 0 else f i) m = Sg f m := by
          intro m
          induction m with
          | zero => intro _; rfl
          | succ m ih => intro hm; rw [Sg, Sg, ih (by lia), if_neg (by lia)]
        exact this l (Nat.le_refl l)
      rw [e]; lia
    · rw [Sg, Sg, ih (by lia), if_neg (fun z => h z.symm)]; lia
noncomputable def ES (n : Nat) (e : Nat → Option (List Int)) : Fn → Prop := fun f => ∃ l r, l < n ∧ e l = some r ∧ f = fn r
noncomputable def eAt (e : Nat → Option (List Int)) (l j : Nat) : Int := match e l with | some r => r.getD j 0 | none => 0
theorem ES.coeff {p : Int} {n : Nat} {e : Nat → Option (List Int)} {v : Fn} (h : Sp p (ES n e) v) : ∃ c : Nat → Int, eqm p (fun j => Sg (fun l => c l * eAt e l j) n) v := by
  induction h with
  | zero => exact ⟨fun _ => 0, fun j => ⟨0, by simp [Sg_zero]⟩⟩
  | @add v r d _ hr ih =>
    obtain ⟨c, hc⟩ := ih
    obtain ⟨l, row, hl, he, rfl⟩ := hr
    refine ⟨fun i => c i + if i = l then d else 0, fun j => ?_⟩
    have e1 : Sg (fun i => (c i + if i = l then d else 0) * eAt e i j) n = Sg (fun i => c i * eAt e i j) n + d * fn row j := by
      have e2 : (fun i => (c i + if i = l then d else 0) * eAt e i j) = fun i => c i * eAt e i j + (if i = l then d * fn row j else 0) := by
        funext i
        by_cases hi : i = l
        · subst hi
          rw [if_pos rfl, if_pos rfl, Int.add_mul]
          congr 1
          simp [eAt, he, fn]
        · rw [if_neg hi, if_neg hi, Int.add_zero, Int.add_zero]
      rw [e2, Sg_add]
      congr 1
      rw [Sg_one hl, if_pos rfl, Sg_zero fun i _ => by by_cases hi : i = l <;> simp [hi]]
      lia
    show p ∣ Sg (fun i => (c i + if i = l then d else 0) * eAt e i j) n - (v j + d * fn row j)
    rw [e1, show Sg (fun i => c i * eAt e i j) n + d * fn row j - (v j + d * fn row j) = Sg (fun i => c i * eAt e i j) n - v j by lia]
    exact hc j
  | cong _ q ih =>
    obtain ⟨c, hc⟩ := ih
    exact ⟨c, hc.trans q⟩
structure Lead (n : Nat) (e : Nat → Option (List Int)) : Prop where
  one : ∀ l r, e l = some r → l < n → r.getD l 0 = 1 ∧ ∀ j, j < l → r.getD j 0 = 0
theorem Lead.zero {p : Int} {n : Nat} {e : Nat → Option (List Int)} {v : Fn} (E : Lead n e) (h : Sp p (ES n e) v) (hz : ∀ l r, l < n → e l = some r → p ∣ v l) : ∀ j, p ∣ v j := by
  obtain ⟨c, hc⟩ := ES.coeff h
  have all : ∀ m, m ≤ n → ∀ l, l < m → ∀ j, p ∣ c l * eAt e l j := by
    intro m
    induction m with
    | zero => intro _ l hl; lia
    | succ m ih =>
      intro hm l hl j
      by_cases hlm : l < m
      · exact ih (by lia) l hlm j
      · have el : l = m := by lia
        subst el
        cases hr : e l with
        | none => exact ⟨0, by simp [eAt, hr]⟩
        | some r =>
          obtain ⟨o1, o2⟩ := E.one l r hr (by lia)
          have s := hc l
          dsimp only at s
          rw [Sg_one (show l < n by lia)] at s
          have rest : p ∣ Sg (fun i => if i = l then 0 else c i * eAt e i l) n := Sg_dvd fun i hi => by
            by_cases h1 : i = l
            · rw [if_pos h1]; exact ⟨0, by simp⟩
            · rw [if_neg h1]
              by_cases h2 : i < l
              · exact ih (by lia) i h2 l
              · cases hi2 : e i with
                | none => exact ⟨0, by simp [eAt, hi2]⟩
                | some r2 =>
                  have := (E.one i r2 hi2 hi).2 l (by lia)
                  refine ⟨0, ?_⟩
                  simp only [eAt, hi2, this, Int.mul_zero]
          have e1 : eAt e l l = 1 := by simp only [eAt, hr]; exact o1
          rw [e1, Int.mul_one] at s
          have k := Int.dvd_add (Int.dvd_sub s rest) (hz l r (by lia) hr)
          rw [show c l + Sg (fun i => if i = l then 0 else c i * eAt e i l) n - v l - Sg (fun i => if i = l then 0 else c i * eAt e i l) n + v l = c l by lia] at k
          exact Int.dvd_mul_of_dvd_left k
  intro j
  have s := hc j
  dsimp only at s
  have t : p ∣ Sg (fun l => c l * eAt e l j) n := Sg_dvd fun i hi => all n (Nat.le_refl n) i hi j
  have k := Int.dvd_sub t s
  rwa [show Sg (fun l => c l * eAt e l j) n - (Sg (fun l => c l * eAt e l j) n - v j) = v j by lia] at k
theorem fn_zero {p : Int} {n : Nat} {r : List Int} (h : Rw p n r) (hz : ∀ j, j < n → r.getD j 0 = 0) (j : Nat) : fn r j = 0 := by
  by_cases hj : j < n
  · exact hz j hj
  · exact h.out (by lia)
noncomputable def eOf : List (List Int) → List Nat → Nat → Option (List Int)
  | r :: D, l :: ls, i => if i = l then some r else eOf D ls i
  | _, _, _ => none
theorem eOf_some : ∀ {D : List (List Int)} {ls : List Nat} {l : Nat} {r : List Int}, eOf D ls l = some r → ∃ (i : Nat), D[i]? = some r ∧ ls[i]? = some l
  | [], _, _, _, h => by simp [eOf] at h
  | _ :: _, [], _, _, h => by simp [eOf] at h
  | q :: D, m :: ls, l, r, h => by
    rw [eOf] at h
    by_cases e : l = m
    · rw [if_pos e] at h; cases h; exact ⟨0, rfl, by rw [e]; rfl⟩
    · rw [if_neg e] at h
      obtain ⟨i, h1, h2⟩ := eOf_some h
      exact ⟨i + 1, by simpa using h1, by simpa using h2⟩
theorem eOf_at : ∀ {D : List (List Int)} {ls : List Nat} {i l : Nat} {r : List Int}, ls.Pairwise (· < ·) → D[i]? = some r → ls[i]? = some l → eOf D ls l = some r
  | [], _, _, _, _, _, h, _ => by simp at h
  | _ :: _, [], _, _, _, _, _, h => by simp at h
  | q :: D, m :: ls, 0, l, r, _, h1, h2 => by simp at h1 h2; subst h1 h2; simp [eOf]
  | q :: D, m :: ls, i + 1, l, r, hp, h1, h2 => by
    have hl : ls[i]? = some l := by simpa using h2
    have : m < l := (List.pairwise_cons.mp hp).1 l (List.mem_of_getElem? hl)
    rw [eOf, if_neg (by lia)]
    exact eOf_at (List.pairwise_cons.mp hp).2 (by simpa using h1) hl
theorem Ech.lead {n k : Nat} {D : List (List Int)} {ls : List Nat} (E : Ech n k D ls) : Lead k (eOf D ls) := ⟨fun l r h _ => by
  obtain ⟨i, h1, h2⟩ := eOf_some h
  exact E.one i r l h1 h2⟩
theorem Ech.sp {p : Int} {n k : Nat} {D : List (List Int)} {ls : List Nat} (E : Ech n k D ls) {v : Fn} (h : Sp p (RS D) v) : Sp p (ES k (eOf D ls)) v := h.trans fun f hf => by
  obtain ⟨r, hr, rfl⟩ := hf
  obtain ⟨i, hi, rfl⟩ := List.mem_iff_getElem.mp hr
  have hl : i < ls.length := by rw [E.len]; exact hi
  exact .mem ⟨ls[i], D[i], E.lt _ (List.getElem_mem hl), eOf_at E.up (List.getElem?_eq_getElem hi) (List.getElem?_eq_getElem hl), rfl⟩
structure Redu (p : Int) (n : Nat) (L D : List (List Int)) : Prop where
  rws : Rws p n D
  ech : ∃ ls, Ech n n D ls
  sub : ∀ r ∈ D, Sp p (RS L) (fn r)
  sup : ∀ r ∈ L, Sp p (RS D) (fn r)
theorem lenM_eq {p : Int} {n : Nat} {L : List (List Int)} (h : Rws p n L) (hne : L ≠ []) : lenM L = n := by
  cases L with
  | nil => exact absurd rfl hne
  | cons r L => exact (h r List.mem_cons_self).1
theorem redM_ok {p : Int} {n : Nat} {L : List (List Int)} (hp : p ∈ primesL) (hL : Rws p n L) : Redu p n L (redM p L) := by
  by_cases hne : L = []
  · subst hne
    exact ⟨fun r hr => absurd hr (by simp [redM, lenM, redI]), ⟨[], by simp [redM, lenM, redI], .nil, by simp, by simp, by simp⟩, fun r hr => absurd hr (by simp [redM, lenM, redI]), fun r hr => absurd hr (by simp)⟩
  · unfold redM
    rw [lenM_eq hL hne]
    have I := redI_ok hp hL n (Nat.le_refl n)
    generalize redI p n L n = st at I
    refine ⟨I.d, I.ech, fun r hr => I.sub r (List.mem_append_left _ hr), fun r hr => (I.sup r hr).trans fun f hf => ?_⟩
    obtain ⟨r0, h0, rfl⟩ := hf
    rcases (List.mem_append.mp h0) with (h0 | h0)
    · exact .mem ⟨r0, h0, rfl⟩
    · exact (Sp.zero).of_eq fun j => (fn_zero (I.r r0 h0) (I.z r0 h0) j).symm
theorem Ech.same {p : Int} {n : Nat} {D : List (List Int)} {ls : List Nat} (E : Ech n n D ls) {u v : Fn} (hu : Sp p (RS D) u) (hv : Sp p (RS D) v) (h : ∀ l ∈ ls, p ∣ u l - v l) : eqm p u v := fun j => by
  have hd : Sp p (RS D) (fun j => u j + (-1) * v j) := hu.plus (-1) hv
  have := E.lead.zero (E.sp hd) (fun l r _ he => by
    obtain ⟨i, _, h2⟩ := eOf_some he
    have q := h l (List.mem_of_getElem? h2)
    show p ∣ u l + -1 * v l
    rwa [show u l + -1 * v l = u l - v l by lia]) j
  rwa [show u j + -1 * v j = u j - v j by lia] at this
theorem not_dvd {p : Int} (hp : p ∈ primesL) : ¬ p ∣ 1 := fun ⟨c, hc⟩ => by
  have := prime_pos p hp
  rcases Int.lt_trichotomy c 0 with h | h | h
  · have := Int.mul_le_mul_of_nonneg_left (show c ≤ -1 by lia) (show 0 ≤ p by lia)
    lia
  · rw [h] at hc; lia
  · have := Int.mul_le_mul_of_nonneg_left (show 1 ≤ c by lia) (show 0 ≤ p by lia)
    lia
theorem Ech.starts {p : Int} {n : Nat} {D : List (List Int)} {ls : List Nat} (hp : p ∈ primesL) (E : Ech n n D ls) {v : Fn} {l : Nat} (hv : Sp p (RS D) v) (h1 : v l = 1) (h0 : ∀ j, j < l → v j = 0) : l ∈ ls := by
  by_cases hm : l ∈ ls
  · exact hm
  · exfalso
    obtain ⟨c, hc⟩ := ES.coeff (E.sp hv)
    have all : ∀ m, m ≤ l → ∀ i, i < m → ∀ j, p ∣ c i * eAt (eOf D ls) i j := by
      intro m
      induction m with
      | zero => intro _ i hi; lia
      | succ m ih =>
        intro hml i hi j
        by_cases him : i < m
        · exact ih (by lia) i him j
        · have ei : i = m := by lia
          subst ei
          cases hr : eOf D ls i with
          | none => exact ⟨0, by simp [eAt, hr]⟩
          | some r =>
            obtain ⟨z, z1, z2⟩ := eOf_some hr
            have hin : i < n := E.lt i (List.mem_of_getElem? z2)
            have s := hc i
            dsimp only at s
            rw [Sg_one hin, h0 i (by lia)] at s
            have rest : p ∣ Sg (fun q => if q = i then 0 else c q * eAt (eOf D ls) q i) n := Sg_dvd fun q hq => by
              by_cases q1 : q = i
              · rw [if_pos q1]; exact ⟨0, by simp⟩
              · rw [if_neg q1]
                by_cases q2 : q < i
                · exact ih (by lia) q q2 i
                · cases hq2 : eOf D ls q with
                  | none => exact ⟨0, by simp [eAt, hq2]⟩
                  | some r2 =>
                    have := (E.lead.one q r2 hq2 hq).2 i (by lia)
                    exact ⟨0, by simp only [eAt, hq2, this, Int.mul_zero]⟩
            have e1 : eAt (eOf D ls) i i = 1 := by simp only [eAt, hr]; exact (E.lead.one i r hr hin).1
            rw [e1, Int.mul_one] at s
            have k := Int.dvd_sub s rest
            rw [show c i + Sg (fun q => if q = i then 0 else c q * eAt (eOf D ls) q i) n - 0 - Sg (fun q => if q = i then 0 else c q * eAt (eOf D ls) q i) n = c i by lia] at k
            exact Int.dvd_mul_of_dvd_left k
    have s := hc l
    dsimp only at s
    have t : p ∣ Sg (fun q => c q * eAt (eOf D ls) q l) n := Sg_dvd fun q hq => by
      by_cases q2 : q < l
      · exact all l (Nat.le_refl l) q q2 l
      · cases hq2 : eOf D ls q with
        | none => exact ⟨0, by simp [eAt, hq2]⟩
        | some r2 =>
          obtain ⟨z, z1, z2⟩ := eOf_some hq2
          have : q ≠ l := fun e => hm (e ▸ List.mem_of_getElem? z2)
          have := (E.lead.one q r2 hq2 hq).2 l (by lia)
          exact ⟨0, by simp only [eAt, hq2, this, Int.mul_zero]⟩
    have k := Int.dvd_sub t s
    rw [show Sg (fun q => c q * eAt (eOf D ls) q l) n - (Sg (fun q => c q * eAt (eOf D ls) q l) n - v l) = v l by lia, h1] at k
    exact not_dvd hp k
theorem sorted_ext : ∀ {a b : List Nat}, a.Pairwise (· < ·) → b.Pairwise (· < ·) → (∀ x, x ∈ a ↔ x ∈ b) → a = b
  | [], [], _, _, _ => rfl
  | [], y :: b, _, _, h => absurd ((h y).mpr List.mem_cons_self) (by simp)
  | x :: a, [], _, _, h => absurd ((h x).mp List.mem_cons_self) (by simp)
  | x :: a, y :: b, ha, hb, h => by
    obtain ⟨a1, a2⟩ := List.pairwise_cons.mp ha
    obtain ⟨b1, b2⟩ := List.pairwise_cons.mp hb
    have exy : x = y := by
      rcases List.mem_cons.mp ((h x).mp List.mem_cons_self) with e | e
      · exact e
      · rcases List.mem_cons.mp ((h y).mpr List.mem_cons_self) with e2 | e2
        · exact e2.symm
        · have := b1 x e
          have := a1 y e2
          lia
    subst exy
    congr 1
    refine sorted_ext a2 b2 fun z => ⟨fun hz => ?_, fun hz => ?_⟩
    · rcases List.mem_cons.mp ((h z).mp (List.mem_cons_of_mem _ hz)) with e | e
      · have := a1 z hz; lia
      · exact e
    · rcases List.mem_cons.mp ((h z).mpr (List.mem_cons_of_mem _ hz)) with e | e
      · have := b1 z hz; lia
      · exact e
theorem Ech.unique {p : Int} {n : Nat} {D D' : List (List Int)} {ls ls' : List Nat} (hp : p ∈ primesL) (E : Ech n n D ls) (E' : Ech n n D' ls') (hD : Rws p n D) (hD' : Rws p n D') (s1 : ∀ r ∈ D, Sp p (RS D') (fn r)) (s2 : ∀ r ∈ D', Sp p (RS D) (fn r)) : D = D' := by
  have p0 : 0 < p := by have := prime_pos p hp; lia
  have half : ∀ {D D' : List (List Int)} {ls ls' : List Nat}, Ech n n D ls → Ech n n D' ls' → (∀ r ∈ D, Sp p (RS D') (fn r)) → ∀ x, x ∈ ls → x ∈ ls' := fun {D D' ls ls'} E E' s x hx => by
    obtain ⟨i, hi, rfl⟩ := List.mem_iff_getElem.mp hx
    have hiD : i < D.length := by rw [← E.len]; exact hi
    obtain ⟨o1, o2⟩ := E.one i D[i] ls[i] (List.getElem?_eq_getElem hiD) (List.getElem?_eq_getElem hi)
    exact E'.starts hp (s _ (List.getElem_mem hiD)) o1 o2
  have el : ls = ls' := sorted_ext E.up E'.up fun x => ⟨half E E' s1 x, half E' E s2 x⟩
  subst el
  have elen : D.length = D'.length := by rw [← E.len, ← E'.len]
  apply List.ext_getElem elen
  intro i h1 h2
  have hi : i < ls.length := by rw [E.len]; exact h1
  refine (hD _ (List.getElem_mem h1)).ext p0 (hD' _ (List.getElem_mem h2)) ?_
  refine E'.same (s1 _ (List.getElem_mem h1)) (.mem ⟨_, List.getElem_mem h2, rfl⟩) fun l hl => ?_
  obtain ⟨k, hk, rfl⟩ := List.mem_iff_getElem.mp hl
  by_cases hik : k = i
  · subst hik
    have a := (E.one k D[k] ls[k] (List.getElem?_eq_getElem h1) (List.getElem?_eq_getElem hk)).1
    have b := (E'.one k D'[k] ls[k] (List.getElem?_eq_getElem h2) (List.getElem?_eq_getElem hk)).1
    show p ∣ (D[k]).getD ls[k] 0 - (D'[k]).getD ls[k] 0
    rw [a, b]; exact ⟨0, by lia⟩
  · have a := E.alone k i D[i] ls[k] hik (List.getElem?_eq_getElem h1) (List.getElem?_eq_getElem hk)
    have b := E'.alone k i D'[i] ls[k] hik (List.getElem?_eq_getElem h2) (List.getElem?_eq_getElem hk)
    show p ∣ (D[i]).getD ls[k] 0 - (D'[i]).getD ls[k] 0
    rw [a, b]; exact ⟨0, by lia⟩
theorem map_at {f : Int → Int} {r : List Int} {j n : Nat} (hr : r.length = n) (h0 : j < n) : (r.map f).getD j 0 = f (r.getD j 0) := by
  have : j < r.length := by lia
  rw [List.getD_eq_getElem?_getD, List.getElem?_map, List.getElem?_eq_getElem this, List.getD_eq_getElem?_getD, List.getElem?_eq_getElem this]; rfl
noncomputable def placesM (r : List Int) : List Nat := (List.range r.length).filter fun j => r.getD j 0 ≠ 0
theorem places_nil {r : List Int} (h : placesM r = []) (j : Nat) (hj : j < r.length) : r.getD j 0 = 0 := by
  have := List.filter_eq_nil_iff.mp h j (List.mem_range.mpr hj)
  simpa using this
theorem places_cons {r : List Int} {l : Nat} {t : List Nat} (h : placesM r = l :: t) : l < r.length ∧ r.getD l 0 ≠ 0 ∧ ∀ j, j < l → r.getD j 0 = 0 := by
  have hm : l ∈ placesM r := by rw [h]; exact List.mem_cons_self
  have h1 := List.mem_filter.mp hm
  have hl := List.mem_range.mp h1.1
  refine ⟨hl, by simpa using h1.2, fun j hj => ?_⟩
  apply Classical.byContradiction
  intro hne
  have hj' : j ∈ placesM r := List.mem_filter.mpr ⟨List.mem_range.mpr (by lia), by simpa using hne⟩
  rw [h] at hj'
  have hs : (placesM r).Pairwise (· < ·) := List.Pairwise.filter _ List.pairwise_lt_range
  rw [h] at hs
  cases hj' with
  | head => lia
  | tail _ hj' => have := (List.pairwise_cons.mp hs).1 j hj'; lia
theorem places_lead {n : Nat} {r : List Int} {l : Nat} (hr : r.length = n) (hl : l < n) (h1 : r.getD l 0 = 1) (h0 : ∀ j, j < l → r.getD j 0 = 0) : ∃ t, placesM r = l :: t := by
  cases h : placesM r with
  | nil => have := places_nil h l (by lia); lia
  | cons m t =>
    obtain ⟨a, b, c⟩ := places_cons h
    have : m = l := by
      apply Classical.byContradiction
      intro hne
      by_cases hlt : m < l
      · exact b (h0 m hlt)
      · have := c l (by lia); lia
    exact ⟨t, by rw [this]⟩
noncomputable def dot (f v : Fn) (m : Nat) : Int := Sg (fun i => f i * v i) m
theorem Sg_congr {f g : Nat → Int} {n : Nat} (h : ∀ i, i < n → f i = g i) : Sg f n = Sg g n := by
  induction n with
  | zero => rfl
  | succ n ih => rw [Sg, Sg, ih fun i hi => h i (by lia), h n (by lia)]
theorem Sg_mul (c : Int) (f : Nat → Int) (n : Nat) : Sg (fun i => c * f i) n = c * Sg f n := by
  induction n with
  | zero => simp [Sg]
  | succ n ih => rw [Sg, Sg, ih, Int.mul_add]
theorem dot_plus (f u v : Fn) (c : Int) (m : Nat) : dot f (fun j => u j + c * v j) m = dot f u m + c * dot f v m := by
  unfold dot
  rw [← Sg_mul, ← Sg_add]
  exact Sg_congr fun i _ => by rw [Int.mul_add, Int.mul_left_comm]
theorem dot_cong {p : Int} {f u v : Fn} {m : Nat} (h : eqm p u v) : p ∣ dot f u m - dot f v m := by
  have e : dot f u m - dot f v m = Sg (fun i => f i * (u i - v i)) m := by
    have : dot f u m = Sg (fun i => f i * (u i - v i)) m + dot f v m := by
      unfold dot
      rw [← Sg_add]
      exact Sg_congr fun i _ => by rw [← Int.mul_add]; congr 1; lia
    lia
  rw [e]
  exact Sg_dvd fun i _ => Int.dvd_trans (h i) (Int.dvd_mul_left _ _)
theorem dot_sp {p : Int} {f : Fn} {m : Nat} {R : Fn → Prop} (h : ∀ r, R r → p ∣ dot f r m) {v : Fn} (hv : Sp p R v) : p ∣ dot f v m := by
  induction hv with
  | zero => exact ⟨0, by unfold dot; rw [Sg_zero fun i _ => by simp]; simp⟩
  | add c _ hr ih =>
    rw [dot_plus]
    exact Int.dvd_add ih (Int.dvd_trans (h _ hr) (Int.dvd_mul_left _ _))
  | cong _ e ih =>
    have := Int.dvd_sub ih (dot_cong (f := f) (m := m) e)
    rwa [show ∀ a b : Int, a - (a - b) = b from fun a b => by lia] at this
noncomputable def col (rs : List (List Int)) (j : Nat) : Fn := fn (rs.map fun q => q.getD j 0)
theorem col_at {rs : List (List Int)} {j k : Nat} {q : List Int} (h : rs[k]? = some q) : col rs j k = q.getD j 0 := by
  show (rs.map fun q => q.getD j 0).getD k 0 = _
  rw [List.getD_eq_getElem?_getD, List.getElem?_map, h]; rfl
theorem Sg_at {n k : Nat} (hk : k < n) (v : Fn) : Sg (fun i => (if i = k then 1 else 0) * v i) n = v k := by
  rw [Sg_one hk, Sg_zero fun i _ => ?_]
  · simp
  · by_cases h : i = k
    · rw [if_pos h]
    · rw [if_neg h, if_neg h]; simp
theorem sp_factors {p : Int} {rs : List (List Int)} {v : Fn} (h : Sp p (RS rs) v) : ∃ f : Fn, ∀ j, p ∣ dot f (col rs j) rs.length - v j := by
  induction h with
  | zero => exact ⟨fun _ => 0, fun j => ⟨0, by unfold dot; rw [Sg_zero fun i _ => by simp]; simp⟩⟩
  | @add u r c _ hr ih =>
    obtain ⟨f, hf⟩ := ih
    obtain ⟨q, hq, rfl⟩ := hr
    obtain ⟨k, hk, rfl⟩ := List.mem_iff_getElem.mp hq
    refine ⟨fun i => f i + c * (if i = k then 1 else 0), fun j => ?_⟩
    have e : dot (fun i => f i + c * (if i = k then 1 else 0)) (col rs j) rs.length = dot f (col rs j) rs.length + c * fn rs[k] j := by
      unfold dot
      have e1 : Sg (fun i => (if i = k then 1 else 0) * col rs j i) rs.length = fn rs[k] j := by
        rw [Sg_at hk, col_at (List.getElem?_eq_getElem hk)]; rfl
      rw [← e1, ← Sg_mul, ← Sg_add]
      exact Sg_congr fun i _ => by rw [Int.add_mul, Int.mul_assoc]
    rw [e]
    have := hf j
    rwa [show ∀ a b d : Int, a + d - (b + d) = a - b from fun a b d => by lia]
  | cong _ e ih =>
    obtain ⟨f, hf⟩ := ih
    exact ⟨f, fun j => by
      have := Int.dvd_add (hf j) (e j)
      rwa [show ∀ a b d : Int, a - b + (b - d) = a - d from fun a b d => by lia] at this⟩
theorem factors_sp {p : Int} {rs : List (List Int)} (f : Fn) : ∀ m, m ≤ rs.length → Sp p (RS rs) (fun j => dot f (col rs j) m)
  | 0, _ => Sp.zero
  | m + 1, h => by
    have hm : m < rs.length := h
    refine (Sp.add (f m) (factors_sp f m (by lia)) ⟨rs[m], List.getElem_mem hm, rfl⟩).of_eq fun j => ?_
    show dot f (col rs j) m + f m * fn rs[m] j = dot f (col rs j) (m + 1)
    unfold dot
    rw [Sg, col_at (List.getElem?_eq_getElem hm)]; rfl
noncomputable def Tri (p : Int) : List (Fn × Nat) → Prop
  | [] => True
  | q :: F => ¬ p ∣ q.1 q.2 ∧ (∀ x ∈ F, p ∣ x.1 q.2) ∧ Tri p F
theorem sp_cons {p : Int} {u : Fn} {U : List Fn} {v : Fn} (h : Sp p (· ∈ u :: U) v) : ∃ (c : Int) (w : Fn), Sp p (· ∈ U) w ∧ eqm p (fun j => w j + c * u j) v := by
  induction h with
  | zero => exact ⟨0, fun _ => 0, .zero, fun j => ⟨0, by simp⟩⟩
  | @add v r d _ hr ih =>
    obtain ⟨c, w, hw, e⟩ := ih
    rcases (List.mem_cons.mp hr) with (rfl | hr)
    · refine ⟨c + d, w, hw, fun j => ?_⟩
      obtain ⟨k, hk⟩ := e j
      exact ⟨k, by grind⟩
    · refine ⟨c, _, Sp.add d hw hr, fun j => ?_⟩
      obtain ⟨k, hk⟩ := e j
      exact ⟨k, by grind⟩
  | cong _ e ih =>
    obtain ⟨c, w, hw, e2⟩ := ih
    exact ⟨c, w, hw, e2.trans e⟩
theorem inv_ex {p c : Int} (hp : p ∈ primesL) (h : ¬ p ∣ c) : ∃ d, p ∣ d * c - 1 := by
  have p2 := (prime_pos p hp).1
  have h0 : 0 ≤ c % p := Int.emod_nonneg _ (by lia)
  have h1 : c % p < p := Int.emod_lt_of_pos _ (by lia)
  have h2 : c % p ≠ 0 := fun z => h (Int.dvd_of_emod_eq_zero z)
  obtain ⟨_, _, e⟩ := turn_ok hp (show 1 ≤ c % p by lia) h1
  refine ⟨turnM p (c % p), ?_⟩
  obtain ⟨k, hk⟩ := dvd_mod p c
  obtain ⟨k2, hk2⟩ := dvd_mod p (turnM p (c % p) * (c % p))
  rw [e] at hk2
  exact ⟨-k2 - turnM p (c % p) * k, by grind⟩
theorem tri_step {p : Int} (hp : p ∈ primesL) {u : Fn} {U : List Fn} : ∀ F : List (Fn × Nat), Tri p F → (∀ x ∈ F, Sp p (· ∈ u :: U) x.1) →
    (∀ x ∈ F, Sp p (· ∈ U) x.1) ∨ ∃ (r0 w0 : Fn) (d : Int) (F' : List (Fn × Nat)), Sp p (· ∈ U) w0 ∧ eqm p (fun j => w0 j + d * r0 j) u ∧ F'.length + 1 = F.length ∧ Tri p F' ∧ (∀ x ∈ F', Sp p (· ∈ U) x.1) ∧
      ∀ j, (∀ x ∈ F, p ∣ x.1 j) → p ∣ r0 j ∧ ∀ x ∈ F', p ∣ x.1 j
  | [], _, _ => .inl fun x hx => (nomatch hx)
  | (r, l) :: G, ⟨h1, h2, h3⟩, hS => by
    obtain ⟨c, w, hw, e⟩ := sp_cons (hS (r, l) List.mem_cons_self)
    rcases tri_step hp G h3 (fun x hx => hS x (List.mem_cons_of_mem _ hx)) with hG | ⟨r0, w0, d, F', a1, a2, a3, a4, a5, a6⟩
    · by_cases hc : p ∣ c
      · refine .inl fun x hx => ?_
        rcases (List.mem_cons.mp hx) with (rfl | hx)
        · refine .cong hw fun j => ?_
          obtain ⟨k, hk⟩ := e j
          obtain ⟨k2, hk2⟩ := hc
          exact ⟨k - k2 * u j, by grind⟩
        · exact hG x hx
      · obtain ⟨d, hd⟩ := inv_ex hp hc
        refine .inr ⟨r, fun j => 0 + -d * w j, d, G, Sp.plus (-d) .zero hw, fun j => ?_, rfl, h3, hG, fun j hj => ⟨hj _ List.mem_cons_self, fun x hx => hj x (List.mem_cons_of_mem _ hx)⟩⟩
        obtain ⟨k, hk⟩ := e j
        obtain ⟨k2, hk2⟩ := hd
        exact ⟨-d * k + k2 * u j, by grind⟩
    · have z0 := a6 l h2
      refine .inr ⟨r0, w0, d, (fun j => r j + -(c * d) * r0 j, l) :: F', a1, a2, by simp [a3], ⟨fun z => h1 ?_, z0.2, a4⟩, fun x hx => ?_, fun j hj => ?_⟩
      · obtain ⟨k, hk⟩ := z
        obtain ⟨k2, hk2⟩ := z0.1
        exact ⟨k + c * d * k2, by grind⟩
      · rcases (List.mem_cons.mp hx) with (rfl | hx)
        · refine .cong (hw.plus c a1) fun j => ?_
          obtain ⟨k, hk⟩ := e j
          obtain ⟨k2, hk2⟩ := a2 j
          exact ⟨k + c * k2, by grind⟩
        · exact a5 x hx
      · obtain ⟨b1, b2⟩ := a6 j fun x hx => hj x (List.mem_cons_of_mem _ hx)
        refine ⟨b1, fun x hx => ?_⟩
        rcases (List.mem_cons.mp hx) with (rfl | hx)
        · obtain ⟨k, hk⟩ := hj (r, l) List.mem_cons_self
          obtain ⟨k2, hk2⟩ := b1
          exact ⟨k - c * d * k2, by grind⟩
        · exact b2 x hx
theorem sp_nil {p : Int} {R : Fn → Prop} (h0 : ∀ f, ¬ R f) {v : Fn} (h : Sp p R v) (j : Nat) : p ∣ v j := by
  induction h with
  | zero => exact ⟨0, by simp⟩
  | add c _ hr ih => exact absurd hr (h0 _)
  | cong _ e ih =>
    obtain ⟨k, hk⟩ := ih
    obtain ⟨k2, hk2⟩ := e j
    exact ⟨k - k2, by grind⟩
theorem tri_le {p : Int} (hp : p ∈ primesL) : ∀ (U : List Fn) (F : List (Fn × Nat)), Tri p F → (∀ x ∈ F, Sp p (· ∈ U) x.1) → F.length ≤ U.length
  | [], F, hT, hS => by
    cases F with
    | nil => exact Nat.le_refl _
    | cons q F => exact absurd (sp_nil (fun f hf => nomatch hf) (hS q List.mem_cons_self) q.2) hT.1
  | u :: U, F, hT, hS => by
    rcases tri_step hp F hT hS with h | ⟨_, _, _, F', _, _, a3, a4, a5, _⟩
    · exact Nat.le_succ_of_le (tri_le hp U F hT h)
    · have := tri_le hp U F' a4 a5
      simp only [List.length_cons]
      lia
theorem RS_mem {p : Int} {L : List (List Int)} {v : Fn} : Sp p (RS L) v ↔ Sp p (· ∈ L.map fn) v := by
  constructor
  · exact fun h => h.trans fun f ⟨r, hr, e⟩ => .mem (e ▸ List.mem_map_of_mem hr)
  · exact fun h => h.trans fun f hf => by
      obtain ⟨r, hr, rfl⟩ := List.mem_map.mp hf
      exact .mem ⟨r, hr, rfl⟩
theorem tri_of {p : Int} (hp : p ∈ primesL) : ∀ {L : List (List Int)} {ls : List Nat}, (∀ (i : Nat) (r : List Int) (l : Nat), L[i]? = some r → ls[i]? = some l → r.getD l 0 = 1) → (∀ (i j : Nat) (r : List Int) (l : Nat), i < j → L[j]? = some r → ls[i]? = some l → r.getD l 0 = 0) → Tri p ((L.map fn).zip ls)
  | [], _, _, _ => trivial
  | _ :: _, [], _, _ => trivial
  | r :: L, l :: ls, h1, h2 => by
    refine ⟨fun z => ?_, fun x hx => ?_, tri_of hp (fun i r l a b => h1 (i + 1) r l a b) (fun i j r l h a b => h2 (i + 1) (j + 1) r l (by lia) a b)⟩
    · have e := h1 0 r l rfl rfl
      have z : p ∣ r.getD l 0 := z
      rw [e] at z
      exact not_dvd hp z
    · obtain ⟨q, hq, e⟩ := List.mem_map.mp (List.of_mem_zip hx).1
      obtain ⟨j, hj, rfl⟩ := List.mem_iff_getElem.mp hq
      have := h2 0 (j + 1) L[j] l (by lia) (List.getElem?_eq_getElem (l := r :: L) (i := j + 1) (by simpa using hj)) rfl
      rw [← e]
      exact ⟨0, by show (L[j]).getD l 0 = _; rw [this]; lia⟩
theorem Ech.tri {p : Int} {n k : Nat} (hp : p ∈ primesL) {D : List (List Int)} {ls : List Nat} (E : Ech n k D ls) : Tri p ((D.map fn).zip ls) :=
  tri_of hp (fun i r l a b => (E.one i r l a b).1) fun i j r l h a b => E.alone i j r l (by lia) a b
theorem rep_at (n k : Nat) : (List.replicate n (0 : Int)).getD k 0 = 0 := by
  rw [List.getD_eq_getElem?_getD, List.getElem?_replicate]; split <;> rfl
theorem Sg_two {f : Nat → Int} {a b n : Nat} (ha : a < n) (hb : b < n) (hne : a ≠ b) (h : ∀ i, i < n → i ≠ a → i ≠ b → f i = 0) : Sg f n = f a + f b := by
  rw [Sg_one ha, Sg_one (f := fun i => if i = a then 0 else f i) hb]
  rw [Sg_zero fun i hi => ?_]
  · simp only [if_neg (Ne.symm hne)]; lia
  · by_cases h1 : i = b
    · simp [h1]
    · by_cases h2 : i = a
      · simp [h2]
      · simp [h1, h2, h i hi h2 h1]
noncomputable def freeM (n : Nat) (ls : List Nat) : List Nat := (List.range n).filter fun j => j ∉ ls
theorem free_len {n : Nat} {ls : List Nat} (up : ls.Pairwise (· < ·)) (lt : ∀ l ∈ ls, l < n) : (freeM n ls).length + ls.length = n := by
  have hnd : ls.Nodup := up.imp fun h => by lia
  have h1 : ((List.range n).filter fun j => j ∈ ls).length = ls.length := by
    have e : ((List.range n).filter fun j => j ∈ ls) = ls := by
      refine sorted_ext (List.Pairwise.filter _ List.pairwise_lt_range) up fun x => ?_
      simp only [List.mem_filter, List.mem_range, decide_eq_true_eq]
      exact ⟨fun h => h.2, fun h => ⟨lt x h, h⟩⟩
    rw [e]
  have h2 : ∀ L : List Nat, (L.filter fun j => j ∉ ls).length + (L.filter fun j => j ∈ ls).length = L.length := by
    intro L
    induction L with
    | nil => rfl
    | cons a L ih =>
      by_cases h : a ∈ ls
      · rw [List.filter_cons_of_neg (by simpa using h), List.filter_cons_of_pos (by simpa using h), List.length_cons, List.length_cons]; lia
      · rw [List.filter_cons_of_pos (by simpa using h), List.filter_cons_of_neg (by simpa using h), List.length_cons, List.length_cons]; lia
  have := h2 (List.range n)
  rw [h1, List.length_range] at this
  exact this
theorem tri_snoc {p : Int} {f : Fn} {l : Nat} (hf : ¬ p ∣ f l) : ∀ {A : List (Fn × Nat)}, Tri p A → (∀ q ∈ A, p ∣ f q.2) → Tri p (A ++ [(f, l)])
  | [], _, _ => ⟨hf, fun x hx => (nomatch hx), trivial⟩
  | q :: A, ⟨h1, h2, h3⟩, h => ⟨h1, fun x hx => by
      rcases (List.mem_append.mp hx) with (hx | hx)
      · exact h2 x hx
      · rw [List.mem_singleton.mp hx]; exact h q List.mem_cons_self, tri_snoc hf h3 fun q hq => h q (List.mem_cons_of_mem _ hq)⟩
noncomputable def leadsM (D : List (List Int)) : List Nat := D.map fun r => (placesM r).headD 0
section
variable {p : Int} {n : Nat} {D : List (List Int)} {ls : List Nat}
end
noncomputable def pdot (x r : List Int) : Int := (List.zipWith (fun a b => a * b) x r).sum
theorem pdot_eq {n : Nat} : ∀ {x r : List Int}, x.length = n → r.length = n → pdot x r = dot (fn x) (fn r) n := by
  intro x r hx hr
  have key : ∀ m, m ≤ n → ((List.zipWith (fun a b => a * b) x r).take m).sum = Sg (fun i => fn x i * fn r i) m := by
    intro m
    induction m with
    | zero => intro _; rfl
    | succ m ih =>
      intro hm
      have h1 : m < x.length := by lia
      have h2 : m < r.length := by lia
      rw [List.take_add_one, List.getElem?_zipWith, List.getElem?_eq_getElem h1, List.getElem?_eq_getElem h2, Sg, ← ih (by lia), List.sum_append]
      show _ + (x[m] * r[m] + 0) = _ + x.getD m 0 * r.getD m 0
      rw [List.getD_eq_getElem?_getD (l := x), List.getElem?_eq_getElem h1, List.getD_eq_getElem?_getD (l := r), List.getElem?_eq_getElem h2, Int.add_zero]; rfl
  have := key n (Nat.le_refl _)
  rw [List.take_of_length_le (by rw [List.length_zipWith]; lia)] at this
  exact this
end Bw
namespace L2
open PySem Bw
noncomputable def LR (N : Addr → Prop) (H : Hp) (LS : List V) (L : List (List Int)) : Prop := LS.length = L.length ∧ ∀ (i : Nat) (v : V) (r : List Int), LS[i]? = some v → L[i]? = some r → ∃ a, v = .ref a ∧ N a ∧ H a = some (.lst (r.map V.int))
section
variable {N : Addr → Prop} {H H' : Hp} {LS : List V} {L : List (List Int)} {l a : Addr} {o : HO} {r : List Int}
theorem LR.nil : LR N H [] [] := ⟨rfl, fun i v r h => by simp at h⟩
theorem LR.mono (h : LR N H LS L) (e : Same H H') : LR N H' LS L := ⟨h.1, fun i v r a b => by
  obtain ⟨x, rfl, hN, g⟩ := h.2 i v r a b
  exact ⟨x, rfl, hN, e _ _ g⟩⟩
theorem LR.fresh (h : LR N H LS L) (hl : H l = none) : LR (· ≠ l) (upd H l o) LS L := ⟨h.1, fun i v r a b => by
  obtain ⟨x, rfl, hN, g⟩ := h.2 i v r a b
  have ne := ne_of_none g hl
  exact ⟨x, rfl, ne, by rw [upd_ne ne]; exact g⟩⟩
theorem LR.wr (h : LR (· ≠ l) H LS L) : LR (· ≠ l) (upd H l o) LS L := ⟨h.1, fun i v r a b => by
  obtain ⟨x, rfl, ne, g⟩ := h.2 i v r a b
  exact ⟨x, rfl, ne, by rw [upd_ne ne]; exact g⟩⟩
theorem LR.set (h : LR N H LS L) (i : Nat) (hN : N a) (g : H a = some (.lst (r.map V.int))) : LR N H (LS.set i (.ref a)) (L.set i r) := ⟨by rw [List.length_set, List.length_set]; exact h.1, fun j v q e1 e2 => by
  rw [List.getElem?_set] at e1 e2
  by_cases hij : i = j
  · subst hij
    rw [if_pos rfl] at e1 e2
    split at e1
    · split at e2
      · cases e1; cases e2; exact ⟨a, rfl, hN, g⟩
      · cases e2
    · cases e1
  · rw [if_neg hij] at e1 e2
    exact h.2 j v q e1 e2⟩
theorem LR.snoc (h : LR N H LS L) (hN : N a) (g : H a = some (.lst (r.map V.int))) : LR N H (LS ++ [.ref a]) (L ++ [r]) := ⟨by simp [h.1], fun j v q e1 e2 => by
  by_cases hj : j < LS.length
  · rw [List.getElem?_append_left hj] at e1
    rw [List.getElem?_append_left (by rw [← h.1]; exact hj)] at e2
    exact h.2 j v q e1 e2
  · rw [List.getElem?_append_right (by lia)] at e1
    rw [List.getElem?_append_right (by rw [← h.1]; lia), ← h.1] at e2
    cases hk : j - LS.length with
    | zero => rw [hk] at e1 e2; cases e1; cases e2; exact ⟨a, rfl, hN, g⟩
    | succ k => rw [hk] at e1; cases e1⟩
end
end L2
namespace L2
open PySem PySem.Spec PyProof.Rows
end L2
namespace L2
open PySem Bw
theorem LR.erase {N : Addr → Prop} {H : Hp} {LS : List V} {L : List (List Int)} (h : LR N H LS L) (i : Nat) : LR N H (LS.eraseIdx i) (L.eraseIdx i) := by
  refine ⟨by rw [List.length_eraseIdx, List.length_eraseIdx, h.1], fun j v r e1 e2 => ?_⟩
  rw [List.getElem?_eraseIdx] at e1 e2
  split at e1
  · rw [if_pos (by assumption)] at e2
    exact h.2 _ v r e1 e2
  · rw [if_neg (by assumption)] at e2
    exact h.2 _ v r e1 e2
theorem LR.at {N : Addr → Prop} {H : Hp} {LS : List V} {L : List (List Int)} {i : Nat} {r : List Int} (h : LR N H LS L) (hi : L[i]? = some r) : ∃ a, LS[i]? = some (.ref a) ∧ N a ∧ H a = some (.lst (r.map V.int)) := by
  have il := (List.getElem?_eq_some_iff.mp hi).1
  have : i < LS.length := by rw [h.1]; exact il
  obtain ⟨a, e, hN, g⟩ := h.2 i _ r (List.getElem?_eq_getElem this) hi
  exact ⟨a, by rw [List.getElem?_eq_getElem this, e], hN, g⟩
theorem LR.any {N : Addr → Prop} {H : Hp} {LS : List V} {L : List (List Int)} (h : LR N H LS L) : LR (fun _ => True) H LS L := ⟨h.1, fun i v r a b => by
  obtain ⟨x, e, _, g⟩ := h.2 i v r a b
  exact ⟨x, e, trivial, g⟩⟩
theorem LR.get {N : Addr → Prop} {H : Hp} {LS : List V} {L : List (List Int)} {i : Nat} {v : V} (h : LR N H LS L) (hi : LS[i]? = some v) : ∃ a r, v = .ref a ∧ L[i]? = some r ∧ N a ∧ H a = some (.lst (r.map V.int)) := by
  have il := (List.getElem?_eq_some_iff.mp hi).1
  have : i < L.length := by rw [← h.1]; exact il
  obtain ⟨a, e, hN, g⟩ := h.2 i v _ hi (List.getElem?_eq_getElem this)
  exact ⟨a, _, e, List.getElem?_eq_getElem this, hN, g⟩
end L2
namespace Bw
theorem dot_comm (f g : Fn) (n : Nat) : dot f g n = dot g f n := Sg_congr fun i _ => Int.mul_comm _ _
noncomputable def comb (c : Nat → Int) (L : List (List Int)) : Fn := fun j => dot c (col L j) L.length
theorem comb_sp {p : Int} (c : Nat → Int) (L : List (List Int)) : Sp p (RS L) (comb c L) := factors_sp c L.length (Nat.le_refl _)
theorem comb_own {L : List (List Int)} {ls : List Nat} {c : Nat → Int} (h1 : ∀ (i : Nat) (r : List Int) (l : Nat), L[i]? = some r → ls[i]? = some l → r.getD l 0 = 1) (h2 : ∀ (i j : Nat) (r : List Int) (l : Nat), i ≠ j → L[j]? = some r → ls[i]? = some l → r.getD l 0 = 0) {i l : Nat} (hi : i < L.length) (hl : ls[i]? = some l) : comb c L l = c i := by
  unfold comb dot
  rw [Sg_one hi, Sg_zero fun k hk => ?_]
  · rw [col_at (List.getElem?_eq_getElem hi), h1 i _ l (List.getElem?_eq_getElem hi) hl]; lia
  · by_cases hki : k = i
    · rw [if_pos hki]
    · rw [if_neg hki, col_at (List.getElem?_eq_getElem hk), h2 i k _ l (fun z => hki z.symm) (List.getElem?_eq_getElem hk) hl, Int.mul_zero]
theorem dot_minus (f u v : Fn) (n : Nat) : dot (fun j => u j - v j) f n = dot u f n - dot v f n := by
  have : dot u f n = dot (fun j => u j - v j) f n + dot v f n := by
    unfold dot
    rw [← Sg_add]
    exact Sg_congr fun i _ => by rw [← Int.add_mul]; congr 1; show u i = u i - v i + v i; lia
  lia
theorem red_more {p : Int} {n : Nat} {L : List (List Int)} {r : List Int} (hp : p ∈ primesL) (hL : Rws p n L) (hr : Rw p n r) (h : ¬ Sp p (RS L) (fn r)) : (redM p (L ++ [r])).length = (redM p L).length + 1 := by
  have hLr : Rws p n (L ++ [r]) := fun q hq => by
    rcases (List.mem_append.mp hq) with (h | h)
    · exact hL q h
    · rw [List.mem_singleton.mp h]; exact hr
  have RL := redM_ok hp hL
  have RM := redM_ok hp hLr
  obtain ⟨ls, E⟩ := RL.ech
  obtain ⟨ms, EM⟩ := RM.ech
  have t : ∀ {P Q : List (List Int)}, (∀ r ∈ P, Sp p (RS Q) (fn r)) → ∀ {v : Fn}, Sp p (RS P) v → Sp p (RS Q) v := fun h v hv => hv.trans fun f hf => by
    obtain ⟨r, hr, rfl⟩ := hf
    exact h r hr
  have up : (redM p (L ++ [r])).length ≤ (redM p L).length + 1 := by
    have := tri_le hp ((redM p L ++ [r]).map fn) _ (EM.tri hp) fun x hx => by
      obtain ⟨q, hq, e⟩ := List.mem_map.mp (List.of_mem_zip hx).1
      rw [← e]
      refine RS_mem.mp (t (fun s hs => ?_) (RM.sub q hq))
      rcases (List.mem_append.mp hs) with (h | h)
      · exact (RL.sup s h).trans fun f ⟨d, hd, e⟩ => .mem ⟨d, by simp [hd], e⟩
      · exact .mem ⟨s, by simp [List.mem_singleton.mp h], rfl⟩
    have e : ((redM p (L ++ [r])).map fn |>.zip ms).length = (redM p (L ++ [r])).length := by simp [EM.len]
    rw [e] at this
    simpa using this
  have w1 : ∃ j, ¬ p ∣ fn r j - comb (fun i => fn r (ls.getD i 0)) (redM p L) j := by
    apply Classical.byContradiction
    intro hn
    refine h (t RL.sub (.cong (comb_sp (fun i => fn r (ls.getD i 0)) (redM p L)) fun j => ?_))
    have := Classical.byContradiction fun z => hn ⟨j, z⟩
    have := Int.dvd_neg.mpr this
    rwa [Int.neg_sub] at this
  obtain ⟨l, hl⟩ := w1
  have tw : Tri p (((redM p L).map fn).zip ls ++ [(fun j => fn r j - comb (fun i => fn r (ls.getD i 0)) (redM p L) j, l)]) := by
    refine tri_snoc hl (E.tri hp) fun q hq => ?_
    obtain ⟨i, hi, e⟩ := List.mem_iff_getElem.mp (List.of_mem_zip hq).2
    have hL' := List.getElem?_eq_getElem hi
    rw [e] at hL'
    show p ∣ fn r q.2 - comb (fun i => fn r (ls.getD i 0)) (redM p L) q.2
    rw [comb_own (fun i r l a b => (E.one i r l a b).1) (fun i j r l hne a b => E.alone i j r l hne a b) (by rw [← E.len]; exact hi) hL', List.getD_eq_getElem?_getD, hL']
    exact ⟨0, by simp⟩
  have dn : (redM p L).length + 1 ≤ (redM p (L ++ [r])).length := by
    have := tri_le hp ((redM p (L ++ [r])).map fn) _ tw fun x hx => by
      refine RS_mem.mp ?_
      have sL : ∀ q ∈ redM p L, Sp p (RS (redM p (L ++ [r]))) (fn q) := fun q hq => t RM.sup ((RL.sub q hq).trans fun f ⟨d, hd, e⟩ => .mem ⟨d, by simp [hd], e⟩)
      rcases (List.mem_append.mp hx) with (h | h)
      · obtain ⟨q, hq, e⟩ := List.mem_map.mp (List.of_mem_zip h).1
        rw [← e]
        exact sL q hq
      · rw [List.mem_singleton.mp h]
        have := (RM.sup r (by simp)).plus (-1) (t sL (comb_sp (p := p) (fun i => fn r (ls.getD i 0)) (redM p L)))
        exact this.of_eq fun j => by rw [Int.neg_mul, Int.one_mul]; rfl
    simpa [E.len] using this
  lia
section
variable {p : Int} {n : Nat} {L L' L'' : List (List Int)}
theorem sp_all (h : ∀ r ∈ L, Sp p (RS L') (fn r)) {v : Fn} (hv : Sp p (RS L) v) : Sp p (RS L') v := hv.trans fun f hf => by
  obtain ⟨r, hr, rfl⟩ := hf
  exact h r hr
theorem sp_in {r : List Int} (h : r ∈ L) : Sp p (RS L) (fn r) := .mem ⟨r, h, rfl⟩
end
end Bw
namespace L2
abbrev Kp (K : PySem.W.Frag) (f : PySem.Addr) : Prop := PySem.W.keepIn K (.ref f) = true
end L2
namespace S7
open PySem L2 Bw
noncomputable def top (i : Nat) : Stmt := PySem.Challenge.pw_bentwires_k74_least.main.body.getD i (.Pass ⟨0, 0, 0, 0⟩)
noncomputable abbrev sTurned : Stmt := top 1
noncomputable abbrev sAdded : Stmt := top 2
noncomputable abbrev sSummed : Stmt := top 3
noncomputable abbrev sProd : Stmt := top 4
noncomputable abbrev sProds : Stmt := top 5
noncomputable abbrev sOnes : Stmt := top 6
noncomputable abbrev sCols : Stmt := top 7
noncomputable abbrev sReduced : Stmt := top 8
noncomputable abbrev sLed : Stmt := top 9
noncomputable abbrev sCleared : Stmt := top 10
noncomputable abbrev sFirst : Stmt := top 11
noncomputable abbrev sRest : Stmt := top 12
noncomputable abbrev sTicked : Stmt := top 14
noncomputable abbrev sReached : Stmt := top 15
noncomputable abbrev sLeast : Stmt := top 17
noncomputable abbrev sHearing : Stmt := top 18
noncomputable abbrev sFollow : Stmt := top 19
noncomputable abbrev sDraw : Stmt := top 21
noncomputable abbrev sPrime : Stmt := top 22
noncomputable abbrev sUnit : Stmt := top 23
noncomputable abbrev sNumber : Stmt := top 24
noncomputable abbrev sMachine : Stmt := top 25
noncomputable abbrev sTimes : Stmt := top 26
noncomputable abbrev sTick : Stmt := top 27
noncomputable abbrev sGrown : Stmt := top 28
noncomputable abbrev sMixed : Stmt := top 29
noncomputable abbrev sLess : Stmt := top 30
noncomputable abbrev sRedW : Stmt := top 31
noncomputable abbrev sPair : Stmt := top 32
noncomputable abbrev s_law_ever : Stmt := top 33
noncomputable abbrev s_law_response : Stmt := top 34
noncomputable abbrev s_law_reached : Stmt := top 35
noncomputable abbrev s_law_taken : Stmt := top 36
noncomputable abbrev s_law_shaped : Stmt := top 37
noncomputable abbrev s_law : Stmt := top 38
structure Txt (mg : Str → Option Value) : Prop where
  range : mg "range" = none
  zip : mg "zip" = none
  tuple : mg "tuple" = none
  list : mg "list" = none
  int : mg "int" = none
  bool : mg "bool" = none
  isinstance : mg "isinstance" = none
  len : mg "len" = none
  sum : mg "sum" = none
  max : mg "max" = none
  min : mg "min" = none
  enumerate : mg "enumerate" = none
  any : mg "any" = none
  all : mg "all" = none
theorem bt_max : bootBuiltins "max" = some (.builtin "max") := by decide +kernel
theorem bt_min : bootBuiltins "min" = some (.builtin "min") := by decide +kernel
theorem getD_of {r : List Int} {j : Nat} (h : j < r.length) : r[j]? = some (r.getD j 0) := by
  rw [List.getElem?_eq_getElem h, List.getD_eq_getElem?_getD, List.getElem?_eq_getElem h]; rfl
theorem atRow {r : List Int} {j : Nat} (h : j < r.length) : (r.map V.int)[j]? = some (.int (r.getD j 0)) := by
  rw [List.getElem?_map, getD_of h]; rfl
theorem iteNe {c A B : Prop} [Decidable c] (h1 : ¬ c → A) (h2 : c → B) : if (!decide c) = true then A else B := by
  by_cases h : c
  · exact iteNS h (h2 h)
  · rw [decide_eq_false h]; exact iteT (h1 h)
section
variable {K : W.Frag}
theorem rowAt {H : Hp} {RS : List V} {rs : List (List Int)} {i : Nat} {x : V} (hA : HasA K H RS (rs.map intsT)) (hx : RS[i]? = some x) : ∃ r a, rs[i]? = some r ∧ x = .ref a ∧ SqT K H a (r.map V.int) := by
  obtain ⟨d, hd, hx'⟩ := hA.get hx
  rw [List.getElem?_map] at hd
  cases e : rs[i]? with
  | none => rw [e] at hd; cases hd
  | some r =>
    rw [e] at hd
    cases hd
    obtain ⟨a, rfl, ha⟩ := hasT hx'
    exact ⟨r, a, rfl, rfl, ha⟩
theorem lenA {H : Hp} {RS : List V} {rs : List (List Int)} (hA : HasA K H RS (rs.map intsT)) : RS.length = rs.length := by rw [hA.length, List.length_map]
end
noncomputable def InB (lo hi : Int) : List V → Prop
  | [] => True
  | v :: r => (∃ z, v = .int z ∧ lo ≤ z ∧ z < hi) ∧ InB lo hi r
theorem InB.at {lo hi : Int} : ∀ {xs : List V} {i : Nat}, InB lo hi xs → i < xs.length → ∃ z, xs[i]? = some (.int z) ∧ lo ≤ z ∧ z < hi
  | v :: r, 0, ⟨⟨z, e, h1, h2⟩, _⟩, _ => ⟨z, by rw [e]; rfl, h1, h2⟩
  | v :: r, i + 1, ⟨_, h⟩, hi => by
    rw [List.length_cons] at hi
    obtain ⟨z, e, h1⟩ := InB.at (i := i) h (by lia)
    exact ⟨z, e, h1⟩
theorem ixB {K : W.Frag} {H : Hp} {d : Addr} {xs : List V} {w lo hi : Int} {Q : VK} (hH : H d = some (.lst xs)) (hb : InB lo hi xs) (w0 : 0 ≤ w) (w1 : w.toNat < xs.length) (q : ∀ z, lo ≤ z → z < hi → Q (.int z) H) : rIxL K (.ref d) (.int w) H Q := by
  obtain ⟨z, e, h1, h2⟩ := hb.at w1
  exact ⟨d, xs, (w.toNat : Int), .int z, rfl, congrArg V.int (by lia), .of hH, atI_nat e, q z h1 h2⟩
theorem SqT.wr {K : W.Frag} {H : Hp} {a l : Addr} {ys xs : List V} {o : HO} (h : SqT K H a ys) (hl : H l = some (.lst xs)) : SqT K (upd H l o) a ys := by
  have ne : ∀ {u : HO}, H a = some u → (∀ zs, u ≠ .lst zs) → a ≠ l := fun e hu z => by
    rw [z, hl] at e
    exact hu xs (Option.some.inj e).symm
  rcases h with (h | ⟨o', h⟩) | h
  · refine .inl (.inl ?_)
    rw [upd_ne (ne h fun _ z => nomatch z)]; exact h
  · refine .inl (.inr ⟨o', ?_⟩)
    rw [upd_ne (ne h fun _ z => nomatch z)]; exact h
  · exact .inr h
theorem HasA.wr {K : W.Frag} {H : Hp} {l : Addr} {xs : List V} {o : HO} (hl : H l = some (.lst xs)) : ∀ {RS : List V} {rs : List (List Int)}, HasA K H RS (rs.map intsT) → HasA K (upd H l o) RS (rs.map intsT)
  | _, [], h => by cases h; exact .nil
  | _, r :: rs, h => by
    cases h with
    | cons h t =>
      obtain ⟨a, rfl, ha⟩ := hasT h
      exact .cons (hasT_of (SqT.wr ha hl)) (HasA.wr hl t)
theorem Rws.snoc {p : Int} {n : Nat} {L : List (List Int)} {r : List Int} (h : Rws p n L) (hr : Rw p n r) : Rws p n (L ++ [r]) := fun x hx => by
  refine (List.mem_append.mp hx).elim (h x) fun z => ?_
  rw [List.mem_singleton.mp z]; exact hr
theorem flat_rep : ∀ n : Nat, (List.replicate n [V.int 0]).flatten = List.replicate n (V.int 0)
  | 0 => rfl
  | n + 1 => by rw [List.replicate_succ, List.flatten_cons, flat_rep n]; rfl
open Classical in
theorem iteNeD' {d e : W.Dat} {A B : Prop} (h : d ≠ e) (b : A) : if (if true = true then !decide (d = e) else decide (d = e)) = true then A else B := by
  simp only [if_true, decide_eq_false h, Bool.not_false]
  exact b
theorem seq_by {s1 s2 : TS} {D : Ends} {σ : St} {H : Hp} (J : St → Hp → Prop) (h : ∀ N : St → Hp → Prop, (∀ σ H, J σ H → N σ H) → s1 { D with nx := N } σ H) (hr : ∀ σ H, J σ H → s2 D σ H) : tSeq s1 s2 D σ H := h _ hr
theorem none_of {H H' : Hp} {l : Addr} (e : Same H H') (h : H' l = none) : H l = none := by
  cases q : H l with
  | none => rfl
  | some o => rw [e _ _ q] at h; cases h
theorem redI_len {p : Int} {n : Nat} {L : List (List Int)} : ∀ k, (redI p n L k).1.length ≤ k ∧ (redI p n L k).2.length = L.length
  | 0 => ⟨Nat.le_refl _, rfl⟩
  | k + 1 => by
    obtain ⟨h1, h2⟩ := redI_len (p := p) (n := n) (L := L) k
    rw [redI]
    unfold stepM
    split
    · exact ⟨by lia, h2⟩
    · constructor
      · show (_ ++ [_]).length ≤ _
        rw [List.length_append, List.length_map, List.length_singleton]; lia
      · show (List.map _ _).length = _
        rw [List.length_map]; exact h2
theorem HasA.drop {K : W.Frag} {H : Hp} : ∀ {vs : List V} {ds : List W.Dat} (k : Nat), HasA K H vs ds → HasA K H (vs.drop k) (ds.drop k)
  | _, _, 0, h => h
  | _, _, _ + 1, .nil => .nil
  | _, _, k + 1, .cons _ r => HasA.drop k r
theorem HasA.take {K : W.Frag} {H : Hp} : ∀ {vs : List V} {ds : List W.Dat} (k : Nat), HasA K H vs ds → HasA K H (vs.take k) (ds.take k)
  | _, _, 0, _ => .nil
  | _, _, _ + 1, .nil => .nil
  | _, _, k + 1, .cons h r => .cons h (HasA.take k r)
theorem HasA.at {K : W.Frag} {H : Hp} {XS : List V} {rs : List (List Int)} {i : Nat} (hA : HasA K H XS (rs.map intsT)) (h : i < rs.length) : ∃ ra, XS[i]? = some (.ref ra) ∧ SqT K H ra ((rs[i]).map V.int) := by
  have hl : i < XS.length := by rw [lenA hA]; exact h
  obtain ⟨r, ra, h1, h2, h3⟩ := rowAt hA (List.getElem?_eq_getElem hl)
  rw [List.getElem?_eq_getElem h] at h1
  cases h1
  exact ⟨ra, by rw [List.getElem?_eq_getElem hl, h2], h3⟩
section
variable {P : Program} {w : World} {K : W.Frag} {mg : Str → Option Value} {base : Heap}
inductive AskDraw (K : W.Frag) (vs : List V) (H : Hp) (Q : L2.VK) (E : L2.XK) : Prop where
  | mk (a : Addr) (ns : List Int) (k : Int) (q0_ : vs = [.ref a, .int k]) (q1_ : SqL K H a (ns.map V.int)) (q2_ : ns.length ≤ 63) (q3_ : 0 ≤ k) (q4_ : k ≤ 100000) (q5_ : ∀ d : Int, 0 ≤ d → d < 2147483629 → Q (.int d) H) : AskDraw K vs H Q E
noncomputable def spDraw (K : W.Frag) : Sp := fun vs H Q E => AskDraw K vs H Q E
theorem scDr : FnScope ["script", "k", "many", "cell", "turn", "mixed"] ["script", "k"] (defScope sDraw) := ⟨rfl, rfl, rfl, by decide +kernel, rfl, by decide +kernel, by decide +kernel⟩
theorem atN {ns : List Int} {j : Nat} (h : j < ns.length) : (ns.map V.int)[j]? = some (.int (ns.getD j 0)) := by
  rw [List.getElem?_map, List.getElem?_eq_getElem h, List.getD_eq_getElem?_getD, List.getElem?_eq_getElem h]; rfl
inductive JDr (a : Addr) (k m : Int) (H : Hp) (σ : St) (H' : Hp) : Prop where
  | mk (q0_ : H' = H) (c : Int) (s4 s5 : Option V) (q1_ : σ = [some (.ref a), some (.int k), some (.int m), some (.int c), s4, s5]) : JDr a k m H σ H'
theorem ok_draw {f : Addr} {fd : FuncData} (F : Fun K "_law_draw" "_law_draw" sDraw f fd) (T : Txt mg) : FnOk P w K mg base CX0 1 f fd ["script", "k"] (spDraw K) := by
  refine F.ok scDr (fun vs H Q E h => ?_) (fun cdv A outer s H vs Q E hr h => ?_)
  · obtain ⟨a, ns, k, rfl, _⟩ := h
    rfl
  · obtain ⟨a, ns, k, rfl, hq, hz, k0, k1, q⟩ := h
    have ex : (ns.map V.int).length = ns.length := List.length_map _
    refine ⟨_, pss_cons (ps_set (i := 2) scDr.nd rfl (Or.inl rfl) (pe_callB (call_max2 rfl) rfl T.max bt_max (pa_cons pe_int (pa_cons (pe_op op_sub (pe_callB (cLen K rfl) rfl T.len bt_len (pa_cons (pv 0) pa_nil)) pe_int) pa_nil)))) (pss_cons (ps_set (i := 3) scDr.nd rfl (Or.inl rfl) pe_int) (pss_cons (ps_if (pt_cmpR op_gt (pe_callB (cLen K rfl) rfl T.len bt_len (pa_cons (pv 0) pa_nil)) pe_int (nomark _)) (pss_one (ps_set (i := 3) scDr.nd rfl (Or.inl rfl) (pe_ix (ixL K rfl) (pv 0) (pe_op op_mod (pe_op op_add pe_int (pv 1)) (pe_callB (cLen K rfl) rfl T.len bt_len (pa_cons (pv 0) pa_nil))) (fun _ _ => rfl)))) pss_nil) (pss_cons (ps_if (PW.pt (pw_and (pt_cmpR op_gt (pe_callB (cLen K rfl) rfl T.len bt_len (pa_cons (pv 0) pa_nil)) pe_int (nomark _)) (pw_and1 (pt_cmpR op_eq (pe_op op_mod (pe_ix (ixL K rfl) (pv 0) pe_int (fun _ _ => rfl)) pe_int) pe_int (nomark _))))) (pss_cons (ps_set (i := 3) scDr.nd rfl (Or.inl rfl) (pe_ix (ixL K rfl) (pv 0) (pe_op op_add pe_int (pe_op op_mod (pv 1) (pv 2))) (fun _ _ => rfl))) (pss_cons (ps_for PassesOwn.never rfl (pi_range1 rfl T.range (pa_cons (pe_callB (call_min2 rfl) rfl T.min bt_min (pa_cons (pe_op op_fdiv (pv 1) (pv 2)) (pa_cons pe_int pa_nil))) pa_nil)) (pg_name (i := 4) scDr.nd rfl (Or.inl rfl)) (pss_one (ps_set (i := 3) scDr.nd rfl (Or.inl rfl) (pe_op op_fdiv (pv 3) pe_int)))) (pss_one (ps_ret (pe_op op_mod (pv 3) pe_int))))) pss_nil) (pss_cons (ps_set (i := 5) scDr.nd rfl (Or.inl rfl) (pe_op op_mod (pe_op op_mul (pe_op op_add (pe_op op_add (pe_op op_mod (pv 3) pe_int) pe_int) (pe_op op_mul pe_int (pe_op op_fdiv (pv 1) (pv 2)))) pe_int) pe_int)) (pss_cons (ps_set (i := 5) scDr.nd rfl (Or.inl rfl) (pe_op op_mod (pe_op op_mul (pv 5) (pv 5)) pe_int)) (pss_one (ps_ret (pe_op op_mod (pe_op op_mul (pv 5) pe_int) pe_int)))))))), ?_⟩
    refine ⟨_, rfl, a, _, rfl, .inl hq, _, _, rfl, rfl, 1, _, rfl, ?_⟩
    have hm : (1 : Int) ≤ (if (((ns.map V.int).length : Int) - 1) > 1 then (((ns.map V.int).length : Int) - 1) else 1) ∧ (if (((ns.map V.int).length : Int) - 1) > 1 then (((ns.map V.int).length : Int) - 1) else 1) ≤ 63 ∧ (1 < ns.length → (if (((ns.map V.int).length : Int) - 1) > 1 then (((ns.map V.int).length : Int) - 1) else 1) = (ns.length : Int) - 1) := by
      rw [ex]
      split <;> lia
    dsimp only [gName]
    generalize (if (((ns.map V.int).length : Int) - 1) > 1 then (((ns.map V.int).length : Int) - 1) else 1) = m at hm ⊢
    obtain ⟨m0, m1, m2⟩ := hm
    refine seq_by (fun σ H' => H' = H ∧ σ = [some (.ref a), some (.int k), some (.int m), some (.int 0), none, none]) (fun N hN => hN _ _ ⟨rfl, rfl⟩) (fun σ0 H0 h0 => ?_)
    obtain ⟨rfl, rfl⟩ := h0
    refine seq_by (JDr a k m H0) (fun N hN => ?_) (fun σ1 H1 hJ => ?_)
    · refine ⟨_, rfl, a, _, rfl, .inl hq, _, _, rfl, rfl, _, rfl, ite2 (fun hc => ?_) (fun _ => hN _ _ ⟨rfl, _, _, _, rfl⟩)⟩
      have hpos : 0 < ns.length := by have := of_decide_eq_true hc; rw [ex] at this; lia
      have lpos : (0 : Int) < ((ns.map V.int).length : Int) := by rw [ex]; lia
      have i0 : 0 ≤ (1 + k) % ((ns.map V.int).length : Int) := Int.emod_nonneg _ (by lia)
      have i1 : (1 + k) % ((ns.map V.int).length : Int) < ((ns.map V.int).length : Int) := Int.emod_lt_of_pos _ lpos
      obtain ⟨j, ej, hj⟩ : ∃ j : Nat, (1 + k) % ((ns.map V.int).length : Int) = (j : Int) ∧ j < ns.length := ⟨((1 + k) % ((ns.map V.int).length : Int)).toNat, by lia, by lia⟩
      refine ⟨_, rfl, _, rfl, _, _, rfl, rfl, _, rfl, a, _, rfl, .inl hq, _, _, rfl, rfl, lpos, a, _, (j : Int), _, rfl, congrArg V.int ej, hq, atI_nat (atN hj), hN _ _ ⟨rfl, _, _, _, rfl⟩⟩
    obtain ⟨rfl, c, s4, s5, rfl⟩ := hJ
    refine seq_by (JDr a k m H1) (fun N hN => ?_) (fun σ2 H2 hJ => ?_)
    · refine ⟨_, rfl, a, _, rfl, .inl hq, _, _, rfl, rfl, _, rfl, ite2 (fun hc => ?_) (fun _ => iteF (hN _ _ ⟨rfl, _, _, _, rfl⟩))⟩
      have hpos : 1 < ns.length := by have := of_decide_eq_true hc; rw [ex] at this; lia
      have em := m2 hpos
      refine ⟨_, rfl, a, _, 0, _, rfl, rfl, hq, atI_nat (j := 0) (atN (by lia)), _, _, rfl, rfl, (by show (0 : Int) < 2; decide), rfl, _, rfl, ite2 (fun _ => ?_) (fun _ => hN _ _ ⟨rfl, _, _, _, rfl⟩)⟩
      have i0 : 0 ≤ k % m := Int.emod_nonneg _ (by lia)
      have i1 : k % m < m := Int.emod_lt_of_pos _ (by lia)
      refine ⟨_, rfl, _, rfl, _, rfl, _, _, rfl, rfl, (by show (0 : Int) < m; lia), _, _, rfl, rfl, a, _, ((1 + k % m).toNat : Int), _, rfl, congrArg V.int (by lia), hq, atI_nat (atN (by lia)), ?_⟩
      have d0 : 0 ≤ k / m := Int.ediv_nonneg k0 (by lia)
      refine ⟨_, rfl, _, rfl, _, _, rfl, rfl, ⟨by show (0 : Int) < m; lia, by show m < 1073741824; lia⟩, _, 60, rfl, ?_⟩
      have hmn : 0 ≤ (if (60 : Int) < k / m then 60 else k / m) ∧ (if (60 : Int) < k / m then 60 else k / m) ≤ 60 := by split <;> lia
      obtain ⟨r, hr'⟩ : ∃ r : Int, (if (60 : Int) < k / m then 60 else k / m) = r := ⟨_, rfl⟩
      rw [hr'] at hmn
      refine ⟨r, congrArg (fun z => [V.int z]) hr', by lia, by lia, for_range (n := r.toNat) (fun i σ H' => All2 (H' = H1) (Ex2 fun (c' st) => (σ = [some (.ref a), some (.int k), some (.int m), some (.int c'), st, s5]))) ⟨rfl, ns.getD (1 + k % m).toNat 0, s4, rfl⟩ ?_ ?_⟩
      · rintro i σ H' hi ⟨rfl, c', st, rfl⟩
        exact ⟨_, rfl, _, _, rfl, rfl, ⟨by decide, by decide⟩, rfl, _, _, rfl⟩
      · rintro σ H' ⟨rfl, c', st, rfl⟩
        refine ⟨_, rfl, _, _, rfl, rfl, (by show (0 : Int) < 1000003; decide), q _ (Int.emod_nonneg _ (by decide)) ?_⟩
        have := Int.emod_lt_of_pos c' (show (0 : Int) < 1000003 by decide)
        lia
    obtain ⟨rfl, c, s4, s5, rfl⟩ := hJ
    refine ⟨_, rfl, _, _, rfl, rfl, (by show (0 : Int) < 2147483629; decide), _, _, rfl, rfl, _, rfl, _, rfl, _, _, rfl, rfl, ⟨by show (0 : Int) < m; lia, by show m < 1073741824; lia⟩, _, _, rfl, rfl, .inl ⟨by decide, by decide⟩, _, _, rfl, rfl, _, _, rfl, rfl, .inr ⟨by decide, by decide⟩, _, _, rfl, rfl, (by show (0 : Int) < 2147483629; decide), ?_⟩
    have y0 : 0 ≤ (c % 2147483629 + 11 + 75577 * (k / m)) * 62233 % 2147483629 := Int.emod_nonneg _ (by decide)
    have y1 : (c % 2147483629 + 11 + 75577 * (k / m)) * 62233 % 2147483629 < 2147483629 := Int.emod_lt_of_pos _ (by decide)
    dsimp only
    generalize (c % 2147483629 + 11 + 75577 * (k / m)) * 62233 % 2147483629 = y at y0 y1 ⊢
    refine ⟨_, rfl, _, rfl, _, _, rfl, rfl, .inl ⟨by lia, by lia⟩, _, _, rfl, rfl, (by show (0 : Int) < 2147483587; decide), ?_⟩
    dsimp only
    generalize y * y % 2147483587 = y2
    refine ⟨_, rfl, _, _, rfl, rfl, .inr ⟨by decide, by decide⟩, _, _, rfl, rfl, (by show (0 : Int) < 2147483579; decide), q _ (Int.emod_nonneg _ (by decide)) ?_⟩
    have := Int.emod_lt_of_pos (y2 * 40487) (show (0 : Int) < 2147483579 by decide)
    lia
noncomputable def L6 : List Int := [2, 3, 5, 7, 11, 97]
theorem L6_in : ∀ j : Nat, j < 6 → ∃ q, L6[j]? = some q ∧ q ∈ primesL := by decide +kernel
inductive AskPrime6 (K : W.Frag) (vs : List V) (H : Hp) (Q : L2.VK) (E : L2.XK) : Prop where
  | mk (a : Addr) (ns : List Int) (q0_ : vs = [.ref a]) (q1_ : SqL K H a (ns.map V.int)) (q2_ : ns.length ≤ 63) (q3_ : ∀ p H', p ∈ primesL → Same H H' → Q (.int p) H') : AskPrime6 K vs H Q E
noncomputable def spPrime6 (K : W.Frag) : Sp := fun vs H Q E => AskPrime6 K vs H Q E
theorem scP6 : FnScope ["script"] ["script"] (defScope sPrime) := ⟨rfl, rfl, rfl, by decide +kernel, rfl, by decide +kernel, by decide +kernel⟩
theorem ok_prime6 {f fD : Addr} {fd fdD : FuncData} (F : Fun K "_law_prime" "_law_prime" sPrime f fd)
    (GD : FnOk P w K mg base CX0 1 fD fdD ["script", "k"] (spDraw K)) (kD : Kp K fD) (bD : Binds K fdD ["script", "k"] []) (mD : mg "_law_draw" = some (.ref fD)) : FnOk P w K mg base CX0 2 f fd ["script"] (spPrime6 K) := by
  refine F.ok scP6 (fun vs H Q E h => ?_) (fun cdv A outer s H vs Q E hr h => ?_)
  · obtain ⟨a, ns, rfl, _⟩ := h
    rfl
  · obtain ⟨a, ns, rfl, hq, hz, q⟩ := h
    refine ⟨_, pss_one (ps_ret (pe_ix (ixL K rfl) (pe_lst (pa_cons pe_int (pa_cons pe_int (pa_cons pe_int (pa_cons pe_int (pa_cons pe_int (pa_cons pe_int pa_nil))))))) (pe_op op_mod (pe_call GD hr rfl mD kD bD .nil pass0 (pa_cons (pv 0) (pa_cons pe_int pa_nil))) pe_int) (fun _ _ => rfl))), ?_⟩
    refine ⟨(by show 6 ≤ sizeLine; decide), fun l hl => ⟨_, rfl, a, ns, 0, rfl, (Same.upd hl).seq hq, hz, by decide, by decide, fun d d0 d1 => ?_⟩⟩
    have e0 : 0 ≤ d % 6 := Int.emod_nonneg _ (by decide)
    have e1 : d % 6 < 6 := Int.emod_lt_of_pos _ (by decide)
    obtain ⟨pr, h1, h2⟩ := L6_in (d % 6).toNat (by lia)
    refine ⟨_, _, rfl, rfl, (by show (0 : Int) < 6; decide), l, L6.map V.int, ((d % 6).toNat : Int), .int pr, rfl, congrArg V.int (by lia), .of upd_same, atI_nat ?_, q _ _ h2 (.upd hl)⟩
    rw [List.getElem?_map, h1]; rfl
noncomputable def unitM (n k : Nat) : List Int := List.replicate k 0 ++ [1] ++ List.replicate (n - k - 1) 0
inductive AskUnit (K : W.Frag) (vs : List V) (H : Hp) (Q : L2.VK) (E : L2.XK) : Prop where
  | mk (n k : Nat) (i j : Int) (q0_ : vs = [.int i, .int j]) (q1_ : i = n) (q2_ : j = k) (q3_ : k < n) (q4_ : n ≤ 900) (q5_ : AnyT K H ((unitM n k).map V.int) Q) : AskUnit K vs H Q E
noncomputable def spUnit (K : W.Frag) : Sp := fun vs H Q E => AskUnit K vs H Q E
theorem scUn : FnScope ["length", "at"] ["length", "at"] (defScope sUnit) := ⟨rfl, rfl, rfl, by decide +kernel, rfl, by decide +kernel, by decide +kernel⟩
theorem flatR (n : Nat) : (List.replicate n [V.int 0]).flatten = (List.replicate n (0 : Int)).map V.int := by rw [flat_rep, List.map_replicate]
theorem ok_unit {f : Addr} {fd : FuncData} (F : Fun K "_law_unit" "_law_unit" sUnit f fd) : FnOk P w K mg base CX0 1 f fd ["length", "at"] (spUnit K) := by
  refine F.ok scUn (fun vs H Q E h => ?_) (fun cdv A outer s H vs Q E hr h => ?_)
  · obtain ⟨n, k, i, j, rfl, _⟩ := h
    rfl
  · obtain ⟨n, k, i, j, rfl, rfl, rfl, hk, hn, q⟩ := h
    have z1000 : (1000 : Nat) ≤ sizeLine := by decide
    refine ⟨_, pss_one (ps_ret (pe_op (opCatA K rfl) (pe_op (opCatA K rfl) (pe_op (opRepT K rfl) (pe_tup (pa_cons pe_int pa_nil)) (pv 1)) (pe_tup (pa_cons pe_int pa_nil))) (pe_op (opRepT K rfl) (pe_tup (pa_cons pe_int pa_nil)) (pe_op op_sub (pe_op op_sub (pv 0) (pv 1)) pe_int)))), ?_⟩
    refine ⟨by decide, fun t1 h1 => ⟨_, rfl, t1, (k : Int), _, rfl, rfl, .of upd_same, by simp, by lia, by lia, (by show 1 * ((k : Nat) : Int).toNat ≤ sizeLine; lia), fun t2 H2 s2 ht2 => ?_⟩⟩
    rw [Int.toNat_natCast, flatR] at ht2
    refine ⟨by decide, fun t3 h3 => ⟨t2, t3, _, _, rfl, rfl, (Same.upd h3).seqT ht2, .of upd_same, ?_, fun t4 H4 s4 ht4 => ?_⟩⟩
    · rw [List.length_map, List.length_replicate]
      show k + 1 ≤ sizeLine
      lia
    refine ⟨by decide, fun t5 h5 => ⟨_, rfl, _, rfl, _, _, rfl, rfl, _, _, rfl, rfl, t5, (n : Int) - (k : Int) - 1, _, rfl, rfl, .of upd_same, by simp, by lia, by lia, (by show 1 * ((n : Int) - (k : Int) - 1).toNat ≤ sizeLine; lia), fun t6 H6 s6 ht6 => ?_⟩⟩
    have e : ((n : Int) - (k : Int) - 1).toNat = n - k - 1 := by lia
    rw [e, flatR] at ht6
    refine ⟨t4, t6, _, _, rfl, rfl, ((Same.upd h5).trans s6).seqT ht4, ht6, ?_, fun t7 H7 s7 ht7 => ?_⟩
    · simp only [List.length_append, List.length_map, List.length_replicate, List.length_cons, List.length_nil]
      lia
    refine q t7 H7 (((Same.upd h1).trans s2).trans ((Same.upd h3).trans (s4.trans ((Same.upd h5).trans (s6.trans s7))))) ?_
    unfold unitM
    rw [List.map_append, List.map_append]
    exact ht7
inductive AskNumber (vs : List V) (H : Hp) (Q : L2.VK) (E : L2.XK) : Prop where
  | mk (d p : Int) (q0_ : vs = [.int d, .int p]) (q1_ : 2 ≤ p) (q2_ : p ≤ 97) (q3_ : ∀ (z : Int) H', 0 ≤ z → z < p → Same H H' → Q (.int z) H') : AskNumber  vs H Q E
noncomputable def spNumber : Sp := fun vs H Q E => AskNumber  vs H Q E
theorem scNu : FnScope ["draw", "p"] ["draw", "p"] (defScope sNumber) := ⟨rfl, rfl, rfl, by decide +kernel, rfl, by decide +kernel, by decide +kernel⟩
theorem ok_number {f : Addr} {fd : FuncData} (F : Fun K "_law_number" "_law_number" sNumber f fd) : FnOk P w K mg base CX0 1 f fd ["draw", "p"] spNumber := by
  refine F.ok scNu (fun vs H Q E h => ?_) (fun cdv A outer s H vs Q E hr h => ?_)
  · obtain ⟨d, p, rfl, _⟩ := h
    rfl
  · obtain ⟨d, p, rfl, p2, p97, q⟩ := h
    refine ⟨_, pss_one (ps_ret (pe_ix (ixL K rfl) (pe_lst (pa_cons pe_int (pa_cons (pe_op op_mod (pe_op op_fdiv (pv 0) pe_int) (pv 1)) (pa_cons pe_int (pa_cons (pe_op op_mod (pe_op op_fdiv (pv 0) pe_int) (pv 1)) pa_nil))))) (pe_op op_mod (pv 0) pe_int) (fun _ _ => rfl))), ?_⟩
    have m0 : 0 ≤ d / 4 % p := Int.emod_nonneg _ (by lia)
    have m1 : d / 4 % p < p := Int.emod_lt_of_pos _ (by lia)
    refine ⟨_, rfl, _, _, rfl, rfl, ⟨by decide, by decide⟩, _, rfl, _, _, rfl, rfl, (by show (0 : Int) < p; lia), _, rfl, _, _, rfl, rfl, ⟨by decide, by decide⟩, _, rfl, _, _, rfl, rfl, (by show (0 : Int) < p; lia), (by show 4 ≤ sizeLine; decide), fun l hl => ⟨_, rfl, _, _, rfl, rfl, (by show (0 : Int) < 4; decide), ?_⟩⟩
    have w0 : 0 ≤ d % 4 := Int.emod_nonneg _ (by decide)
    have w1 : d % 4 < 4 := Int.emod_lt_of_pos _ (by decide)
    refine ixB (lo := 0) (hi := p) upd_same ⟨⟨_, rfl, by decide, by lia⟩, ⟨_, rfl, m0, m1⟩, ⟨_, rfl, by decide, by lia⟩, ⟨_, rfl, m0, m1⟩, trivial⟩ w0 (by show (d % 4).toNat < 4; lia) fun z z0 z1 => q z _ z0 z1 (.upd hl)
end
end S7
namespace Bw
noncomputable def lessM (p : Int) (k : Nat) (h row : List Int) : List Int := addM p row (-(row.getD k 0)) h
theorem less_clear {p : Int} {n k : Nat} {h row : List Int} (p0 : 0 < p) (hh : Rw p n h) (hr : Rw p n row) : lessM p k h row = clearM p h k row := by
  unfold lessM clearM
  split
  · rfl
  · rename_i h0
    have h0 : row.getD k 0 = 0 := by simpa using h0
    refine (addM_Rw _ p0 hr.1 hh.1).ext p0 hr fun j => ?_
    rw [addM_at _ hr.1 hh.1, h0]
    split
    · have := dvd_mod p (row.getD j 0 + -0 * h.getD j 0)
      rwa [show row.getD j 0 + -0 * h.getD j 0 = row.getD j 0 by simp] at this ⊢
    · rw [hr.out (by lia)]; exact ⟨0, by simp⟩
theorem inv_unique {p a b x : Int} (p0 : 0 < p) (ha : a * x % p = 1) (hb : b * x % p = 1) (a0 : 0 ≤ a) (a1 : a < p) (b0 : 0 ≤ b) (b1 : b < p) : a = b := by
  refine small_eq ?_ a0 a1 b0 b1
  obtain ⟨u, hu⟩ := dvd_mod p (a * x)
  obtain ⟨v, hv⟩ := dvd_mod p (b * x)
  rw [ha] at hu
  rw [hb] at hv
  exact ⟨a * v - b * u, by grind⟩
theorem head_lead {p c : Int} {n k : Nat} {h : List Int} (hp : p ∈ primesL) (hh : Rw p n h) (h0 : h.getD k 0 ≠ 0) (c0 : 1 ≤ c) (c1 : c < p) (hc : c * h.getD k 0 % p = 1) : (h.map fun x => x * c % p) = leadM p n h k := by
  have p0 : 0 < p := by have := prime_pos p hp; lia
  have b := hh.at p0 k
  obtain ⟨t1, t2, t3⟩ := turn_ok hp (show 1 ≤ h.getD k 0 by lia) b.2
  have e := inv_unique p0 hc t3 (by lia) c1 (by lia) t2
  have r1 : Rw p n (h.map fun x => x * c % p) := ⟨by simp [hh.1], fun x hx => by
    obtain ⟨y, _, rfl⟩ := List.mem_map.mp hx
    exact ⟨Int.emod_nonneg _ (by lia), Int.emod_lt_of_pos _ p0⟩⟩
  refine r1.ext p0 (leadM_Rw p0 hh) fun j => ?_
  rw [leadM_at hh, ← e]
  by_cases hj : j < n
  · rw [if_pos hj, map_at hh.1 hj]; exact ⟨0, by lia⟩
  · rw [if_neg hj, r1.out (by lia)]; exact ⟨0, by simp⟩
theorem drop_zero {p : Int} {n k : Nat} {L D A B : List (List Int)} {z : List Int} (I : RedOk p n L k (D, A ++ z :: B)) (hz : ∀ j, z.getD j 0 = 0) : RedOk p n L k (D, A ++ B) := by
  have sub : ∀ r, r ∈ A ++ B → r ∈ A ++ z :: B := fun r hr => by
    rcases List.mem_append.mp hr with h | h <;> simp [h]
  refine ⟨I.d, fun r hr => I.r r (sub r hr), fun r hr => I.z r (sub r hr), I.ech, fun r hr => I.sub r ?_, fun r hr => (I.sup r hr).trans fun f hf => ?_⟩
  · rcases (List.mem_append.mp hr) with (h | h)
    · exact List.mem_append_left _ h
    · exact List.mem_append_right _ (sub r h)
  · obtain ⟨q, hq, rfl⟩ := hf
    rcases (List.mem_append.mp hq) with (h | h)
    · exact .mem ⟨q, List.mem_append_left _ h, rfl⟩
    · rcases (List.mem_append.mp h) with (h | h)
      · exact .mem ⟨q, List.mem_append_right _ (List.mem_append_left _ h), rfl⟩
      · rcases (List.mem_cons.mp h) with (rfl | h)
        · exact Sp.zero.of_eq fun j => (hz j).symm
        · exact .mem ⟨q, List.mem_append_right _ (List.mem_append_right _ h), rfl⟩
theorem RedOk.skip {p : Int} {n k : Nat} {L D T : List (List Int)} (I : RedOk p n L k (D, T)) (h : ∀ r ∈ T, r.getD k 0 = 0) : RedOk p n L (k + 1) (D, T) := by
  obtain ⟨ls, E⟩ := I.ech
  exact ⟨I.d, I.r, fun r hr j hj => by
    by_cases e : j = k
    · subst e; exact h r hr
    · exact I.z r hr j (by lia), ⟨ls, E.len, E.up, fun l hl => Nat.lt_succ_of_lt (E.lt l hl), E.one, E.alone⟩, I.sub, I.sup⟩
theorem RedOk.head {p : Int} {n k i : Nat} {L D T : List (List Int)} {h : List Int} (hp : p ∈ primesL) (hk : k < n) (I : RedOk p n L k (D, T)) (hi : T[i]? = some h) (h0 : h.getD k 0 ≠ 0) (hf : ∀ j q, j < i → T[j]? = some q → q.getD k 0 = 0) :
    RedOk p n L (k + 1) (D.map (clearM p (leadM p n h k) k) ++ [leadM p n h k], (T.eraseIdx i).map (clearM p (leadM p n h k) k)) := by
  have p0 : 0 < p := by have := prime_pos p hp; lia
  have il := (List.getElem?_eq_some_iff.mp hi).1
  have hT : T = T.take i ++ h :: T.drop (i + 1) := by
    have hd : T.drop i = h :: T.drop (i + 1) := by rw [List.drop_eq_getElem_cons il, (List.getElem?_eq_some_iff.mp hi).2]
    rw [← hd, List.take_append_drop]
  have hhR : Rw p n h := I.r h (List.mem_of_getElem? hi)
  have hfl : T.filter (fun r => r.getD k 0 ≠ 0) = h :: (T.drop (i + 1)).filter fun r => r.getD k 0 ≠ 0 := by
    rw (occs := .pos [1]) [hT]
    rw [List.filter_append, List.filter_cons_of_pos (by simpa using h0), List.filter_eq_nil_iff.mpr]
    · rfl
    · intro q hq
      obtain ⟨j, hj, rfl⟩ := List.mem_iff_getElem.mp hq
      have hj' : j < i := by rw [List.length_take] at hj; lia
      have := hf j _ hj' (by rw [List.getElem?_eq_getElem (by lia)])
      rw [List.getElem_take]
      simpa using this
  have S := step_ok hp (show k + 1 ≤ n by lia) I
  unfold stepM at S
  dsimp only at S
  rw [hfl] at S
  dsimp only at S
  have hlR := leadM_Rw (place := k) p0 hhR
  have b := hhR.at p0 k
  obtain ⟨t1, t2, t3⟩ := turn_ok hp (show 1 ≤ h.getD k 0 by lia) b.2
  have zc : ∀ j, (clearM p (leadM p n h k) k h).getD j 0 = 0 := fun j => by
    unfold clearM
    rw [if_pos h0, addM_at _ hhR.1 hlR.1]
    split
    · rename_i hj
      apply Int.emod_eq_zero_of_dvd
      rw [leadM_at hhR, if_pos hj]
      obtain ⟨u, hu⟩ := dvd_mod p (h.getD j 0 * turnM p (h.getD k 0))
      obtain ⟨v, hv⟩ := dvd_mod p (turnM p (h.getD k 0) * h.getD k 0)
      rw [t3] at hv
      exact ⟨h.getD j 0 * v - h.getD k 0 * u, by grind⟩
    · rfl
  have e1 : (T.eraseIdx i).map (clearM p (leadM p n h k) k) = (T.take i).map (clearM p (leadM p n h k) k) ++ (T.drop (i + 1)).map (clearM p (leadM p n h k) k) := by
    rw [List.eraseIdx_eq_take_drop_succ, List.map_append]
  have e2 : T.map (clearM p (leadM p n h k) k) = (T.take i).map (clearM p (leadM p n h k) k) ++ clearM p (leadM p n h k) k h :: (T.drop (i + 1)).map (clearM p (leadM p n h k) k) := by
    rw (occs := .pos [1]) [hT]
    rw [List.map_append, List.map_cons]
  rw [e2] at S
  rw [e1]
  exact drop_zero S zc
theorem RedOk.start {p : Int} {n : Nat} {L : List (List Int)} (hL : Rws p n L) : RedOk p n L 0 ([], L) :=
  ⟨fun r hr => (nomatch hr), hL, fun r _ j hj => absurd hj (by lia), ⟨[], rfl, .nil, by simp, by simp, by simp⟩, fun r hr => .mem ⟨r, hr, rfl⟩, fun r hr => .mem ⟨r, hr, rfl⟩⟩
theorem RedOk.done {p : Int} {n : Nat} {L D T : List (List Int)} (hp : p ∈ primesL) (hL : Rws p n L) (I : RedOk p n L n (D, T)) : D = redM p L := by
  have sup : ∀ r ∈ L, Sp p (RS D) (fn r) := fun r hr => (I.sup r hr).trans fun f hf => by
    obtain ⟨r0, h0, rfl⟩ := hf
    rcases (List.mem_append.mp h0) with (h0 | h0)
    · exact .mem ⟨r0, h0, rfl⟩
    · exact (Sp.zero).of_eq fun j => (fn_zero (I.r r0 h0) (I.z r0 h0) j).symm
  have R := redM_ok hp hL
  obtain ⟨ls, E⟩ := I.ech
  obtain ⟨ms, EM⟩ := R.ech
  exact E.unique hp EM I.d R.rws (fun r hr => sp_all R.sup (I.sub r (List.mem_append_left _ hr))) (fun r hr => sp_all sup (R.sub r hr))
theorem RedOk.len {p : Int} {n k : Nat} {L D T : List (List Int)} (I : RedOk p n L k (D, T)) (hk : k ≤ n) : D.length ≤ k := by
  obtain ⟨ls, E⟩ := I.ech
  have := free_len (n := k) E.up E.lt
  have e : ls.length = D.length := E.len
  lia
end Bw
namespace S7
open PySem L2 Bw
structure Mach where
  left : Nat
  states : Nat
  right : Nat
  rows : List (List Int)
structure MachOk (p : Int) (m : Mach) : Prop where
  len : m.rows.length = m.right + m.states
  rws : Rws p (m.left + m.states) m.rows
noncomputable def MH (K : W.Frag) (H : Hp) (a : Addr) (m : Mach) : Prop := ∃ (t : Addr) (RS : List V), SqT K H a [.int (m.left : Int), .int (m.states : Int), .int (m.right : Int), .ref t] ∧ SqT K H t RS ∧ HasA K H RS (m.rows.map intsT)
theorem MH.mono {K : W.Frag} {H H' : Hp} {a : Addr} {m : Mach} (h : MH K H a m) (e : Same H H') : MH K H' a m := by
  obtain ⟨t, RS, h1, h2, h3⟩ := h
  exact ⟨t, RS, e.seqT h1, e.seqT h2, h3.mono e⟩
theorem nu0 : (["row"] : List Str).Nodup := by decide +kernel
theorem nt0 : (["k", "column", "row"] : List Str).Nodup := by decide +kernel
theorem nt1 : (["row", "asked", "kept", "p"] : List Str).Nodup := by decide +kernel
theorem nt2 : (["k", "at", "head", "p", "row"] : List Str).Nodup := by decide +kernel
section
variable {P : Program} {w : World} {K : W.Frag} {mg : Str → Option Value} {base : Heap}
inductive AskMachine (K : W.Frag) (vs : List V) (H : Hp) (Q : L2.VK) (E : L2.XK) : Prop where
  | mk (a : Addr) (ns : List Int) (at_ p : Int) (l r s : Nat) (il ir is : Int) (q0_ : vs = [.ref a, .int at_, .int p, .int il, .int ir, .int is]) (q1_ : il = l) (q2_ : ir = r) (q3_ : is = s) (q4_ : SqL K H a (ns.map V.int)) (q5_ : ns.length ≤ 63) (q6_ : 0 ≤ at_) (q7_ : at_ ≤ 10000) (q8_ : 2 ≤ p) (q9_ : p ≤ 97) (q10_ : l ≤ 30) (q11_ : r ≤ 30) (q12_ : s ≤ 30) (q13_ : ∀ v m H', Same H H' → MH K H' v m → MachOk p m → m.left = l → m.right = r → m.states = s → Q (.ref v) H') : AskMachine K vs H Q E
noncomputable def spMachine (K : W.Frag) : Sp := fun vs H Q E => AskMachine K vs H Q E
theorem scMa : FnScope ["script", "at", "p", "left", "right", "states", "rows", "k", "row", "j"] ["script", "at", "p", "left", "right", "states"] (defScope sMachine) := ⟨rfl, rfl, rfl, by decide +kernel, rfl, by decide +kernel, by decide +kernel⟩
theorem ok_machine {f fD fN : Addr} {fd fdD fdN : FuncData} (F : Fun K "_law_machine" "_law_machine" sMachine f fd) (T : Txt mg)
    (GD : FnOk P w K mg base CX0 1 fD fdD ["script", "k"] (spDraw K)) (kD : Kp K fD) (bD : Binds K fdD ["script", "k"] []) (mD : mg "_law_draw" = some (.ref fD))
    (GN : FnOk P w K mg base CX0 1 fN fdN ["draw", "p"] spNumber) (kN : Kp K fN) (bN : Binds K fdN ["draw", "p"] []) (mN : mg "_law_number" = some (.ref fN)) :
    FnOk P w K mg base CX0 2 f fd ["script", "at", "p", "left", "right", "states"] (spMachine K) := by
  refine F.ok scMa (fun vs H Q E h => ?_) (fun cdv A outer s H vs Q E hr h => ?_)
  · obtain ⟨a, ns, at_, p, l, r, s, il, ir, is, rfl, _⟩ := h
    rfl
  · obtain ⟨a, ns, at_, p, l, r, s, il, ir, is, rfl, rfl, rfl, rfl, hq, hz, a0, a1, p2, p97, hl30, hr30, hs30, q⟩ := h
    refine ⟨_, pss_cons (ps_set (i := 6) scMa.nd rfl (Or.inl rfl) (pe_lst pa_nil)) (pss_cons (ps_for PassesOwn.never rfl (pi_range1 rfl T.range (pa_cons (pe_op op_add (pv 4) (pv 5)) pa_nil)) (pg_name (i := 7) scMa.nd rfl (Or.inl rfl)) (pss_cons (ps_set (i := 8) scMa.nd rfl (Or.inl rfl) (pe_lst pa_nil)) (pss_cons (ps_for PassesOwn.never rfl (pi_range1 rfl T.range (pa_cons (pe_op op_add (pv 3) (pv 5)) pa_nil)) (pg_name (i := 9) scMa.nd rfl (Or.inl rfl)) (pss_one (ps_expr (pe_bm PySem.F.plainAttrs_list PySem.F.slot_list_append PySem.F.type_list_append mt_append (pv 8) (pa_cons (pe_call GN hr rfl mN kN bN .nil pass0 (pa_cons (pe_call GD hr rfl mD kD bD .nil pass0 (pa_cons (pv 0) (pa_cons (pe_op op_add (pe_op op_add (pv 1) (pe_op op_mul pe_int (pv 7))) (pv 9)) pa_nil))) (pa_cons (pv 2) pa_nil))) pa_nil))))) (pss_one (ps_expr (pe_bm PySem.F.plainAttrs_list PySem.F.slot_list_append PySem.F.type_list_append mt_append (pv 6) (pa_cons (pe_callTy (cTuple K rfl) rfl T.tuple bt_tuple (pa_cons (pv 8) pa_nil)) pa_nil))))))) (pss_one (ps_ret (pe_tup (pa_cons (pv 3) (pa_cons (pv 5) (pa_cons (pv 4) (pa_cons (pe_callTy (cTuple K rfl) rfl T.tuple bt_tuple (pa_cons (pv 6) pa_nil)) pa_nil)))))))), ?_⟩
    refine ⟨by decide, fun lr hlr => ⟨_, rfl, _, rfl, _, _, rfl, rfl, (r : Int) + (s : Int), rfl, by lia, by lia, for_range (n := ((r : Int) + (s : Int)).toNat) (fun i σ H' => All2 (Same H H') (Ex5 fun (s7 s8 s9 : Option V) (RS : List V) (rs : List (List Int)) => All5 (σ = [some (.ref a), some (.int at_), some (.int p), some (.int (l : Int)), some (.int (r : Int)), some (.int (s : Int)), some (.ref lr), s7, s8, s9]) (H' lr = some (.lst RS)) (HasA K H' RS (rs.map intsT)) (rs.length = i) (Rws p (l + s) rs))) ⟨.upd hlr, none, none, none, [], [], rfl, upd_same, .nil, rfl, fun r hr => nomatch hr⟩ ?_ ?_⟩⟩
    · rintro i σ H1 hi ⟨sm, s7, s8, s9, RS, rs, rfl, gl, hA, hri, hR⟩
      rw [Int.zero_add]
      refine ⟨by decide, fun lw hlw => ⟨_, rfl, _, rfl, _, _, rfl, rfl, (l : Int) + (s : Int), rfl, by lia, by lia, for_range (n := ((l : Int) + (s : Int)).toNat) (fun j σ H' => All2 (Same H1 H') (Ex2 fun (st : Option V) (x : List Int) => All3 (σ = [some (.ref a), some (.int at_), some (.int p), some (.int (l : Int)), some (.int (r : Int)), some (.int (s : Int)), some (.ref lr), some (.int (i : Int)), some (.ref lw), st]) (H' lw = some (.lst (x.map V.int))) (Rw p j x))) ⟨.upd hlw, _, [], rfl, upd_same, rfl, fun x hx => nomatch hx⟩ ?_ ?_⟩⟩
      · rintro j σ H2 hj ⟨sm2, st, x, rfl, gr, hx1, hx2⟩
        rw [Int.zero_add]
        refine ⟨_, rfl, .inl ⟨rfl, _, SqL.of gr⟩, _, rfl, _, rfl, _, rfl, _, _, rfl, rfl, .inl ⟨by decide, by decide⟩, _, _, rfl, rfl, _, rfl, _, _, rfl, rfl, a, ns, at_ + 16 * (i : Int) + (j : Int), rfl, (sm.trans sm2).seq hq, hz, by lia, by lia, fun d d0 d1 => ?_⟩
        refine ⟨_, rfl, d, p, rfl, p2, p97, fun z H3 z0 z1 sm3 => ?_⟩
        refine ⟨lw, _, _, rfl, rfl, sm3 _ _ gr, ?_, ?_⟩
        · rw [List.length_map, hx1]
          exact small1000 (by lia)
        refine ⟨(sm2.trans sm3).write hlw, _, x ++ [z], rfl, by rw [upd_same, List.map_append]; rfl, by rw [List.length_append, hx1]; rfl, fun y hy => ?_⟩
        refine (List.mem_append.mp hy).elim (hx2 y) fun hy => ?_
        rw [List.mem_singleton.mp hy]
        exact ⟨z0, z1⟩
      · rintro σ H2 ⟨sm2, st, x, rfl, gr, hx1, hx2⟩
        have gl2 := sm2 _ _ gl
        have e : ((l : Int) + (s : Int)).toNat = l + s := by lia
        rw [e] at hx1
        refine ⟨_, rfl, .inl ⟨rfl, _, SqL.of gl2⟩, _, rfl, lw, _, rfl, .inl ⟨.of gr, fun t ht => ?_⟩⟩
        refine ⟨lr, _, _, rfl, rfl, by rw [upd_ne (ne_of_none gl2 ht)]; exact gl2, ?_, ?_⟩
        · rw [lenA hA, hri]; exact small1000 (by lia)
        have sm3 := sm2.trans (Same.upd ht (o := .tup (x.map V.int)))
        refine ⟨(sm.trans sm3).write hlr, _, _, _, RS ++ [.ref t], rs ++ [x], rfl, upd_same, ?_, by rw [List.length_append, hri]; rfl, Rws.snoc hR ⟨hx1, hx2⟩⟩
        refine HasA.wr (xs := RS) (by rw [upd_ne (ne_of_none gl2 ht)]; exact gl2) ?_
        rw [List.map_append]
        exact (hA.mono sm3).append (.cons (hasT_of (.of upd_same)) .nil)
    · rintro σ H1 ⟨sm, s7, s8, s9, RS, rs, rfl, gl, hA, hri, hR⟩
      refine ⟨_, rfl, _, rfl, _, rfl, _, rfl, lr, _, rfl, .inl ⟨.of gl, fun t ht => ⟨(by show 4 ≤ sizeLine; decide), fun tt htt => ?_⟩⟩⟩
      have s2 : Same H1 (upd (upd H1 t (.tup RS)) tt (.tup [.int (l : Int), .int (s : Int), .int (r : Int), .ref t])) := (Same.upd ht).trans (.upd htt)
      exact q tt ⟨l, s, r, rs⟩ _ (sm.trans s2) ⟨t, RS, .of upd_same, .of (Same.upd htt _ _ upd_same), hA.mono s2⟩ ⟨by show rs.length = r + s; lia, hR⟩ rfl rfl rfl
inductive AskTimes (K : W.Frag) (vs : List V) (H : Hp) (Q : L2.VK) (E : L2.XK) : Prop where
  | mk (p : Int) (a b : Addr) (x y : List Int) (n : Nat) (q0_ : vs = [.int p, .ref a, .ref b]) (q1_ : 2 ≤ p) (q2_ : p ≤ 97) (q3_ : n ≤ 900) (q4_ : SqT K H a (x.map V.int)) (q5_ : SqT K H b (y.map V.int)) (q6_ : Rw p n x) (q7_ : y.length = n) (q8_ : ∀ H', Same H H' → Q (.int (pdot x y % p)) H') : AskTimes K vs H Q E
noncomputable def spTimes (K : W.Frag) : Sp := fun vs H Q E => AskTimes K vs H Q E
theorem scTi : FnScope ["p", "row", "column"] ["p", "row", "column"] (defScope sTimes) := ⟨rfl, rfl, rfl, by decide +kernel, rfl, by decide +kernel, by decide +kernel⟩
theorem ok_times {f : Addr} {fd : FuncData} (F : Fun K "_law_times" "_law_times" sTimes f fd) (T : Txt mg) : FnOk P w K mg base CX0 1 f fd ["p", "row", "column"] (spTimes K) := by
  refine F.ok scTi (fun vs H Q E h => ?_) (fun cdv A outer s H vs Q E hr h => ?_)
  · obtain ⟨p, a, b, x, y, n, rfl, _⟩ := h
    rfl
  · obtain ⟨p, a, b, x, y, n, rfl, p2, p97, hn, ha, hb, hx, hy, k⟩ := h
    have z1000 : (1000 : Nat) ≤ sizeLine := by decide
    refine ⟨_, pss_one (ps_ret (pe_op op_mod (pe_callB (cSum K rfl rfl) rfl T.sum bt_sum (pa_cons (pe_comp (N := ["k", "column", "row"]) (own := 1) (caps := [2, 1]) rfl (pi_range1 rfl T.range (pa_cons (pe_callB (cLen K rfl) rfl T.len bt_len (pa_cons (pv 1) pa_nil)) pa_nil)) (show BlkScope ["p", "row", "column"] (defScope sTimes) ["k", "column", "row"] 1 [2, 1] _ from .mk' (by decide +kernel)) (fun _ _ _ _ _ => pg_name (i := 0) nt0 rfl (Or.inl rfl)) (fun _ _ _ _ _ => pts_nil) (fun _ _ _ _ _ => pe_op op_mul (pe_ix (ixT K rfl) (pv 2) (pv 0) (fun _ _ => rfl)) (pe_ix (ixT K rfl) (pv 1) (pv 0) (fun _ _ => rfl)))) pa_nil)) (pv 0))), ?_⟩
    have ex : (x.map V.int).length = n := by rw [List.length_map, hx.1]
    refine ⟨_, rfl, a, _, rfl, .inr ha, (((x.map V.int).length : Nat) : Int), rfl, by lia, by rw [ex]; lia, comp_rng (n := (x.map V.int).length) (lo := 0) (cp := [some (.ref b), some (.ref a)]) (fun i H' zs => zs = ((List.zipWith (fun a b => a * b) x y).take i).map V.int) (by rw [ex]; lia) rfl (fun i H' zs e => by rw [e, List.length_map]; exact List.length_take_le _ _) ?_ ?_⟩
    · rintro i H1 zs hi sm rfl
      rw [ex] at hi
      rw [Int.zero_add]
      have hix : i < x.length := by rw [hx.1]; exact hi
      have hiy : i < y.length := by rw [hy]; exact hi
      have hb' := hx.at (by lia) i
      refine tgo ⟨_, rfl, _, rfl, a, _, (i : Int), _, rfl, rfl, sm.seqT ha, atI_nat (atRow hix), _, rfl, _, rfl, b, _, (i : Int), _, rfl, rfl, sm.seqT hb, atI_nat (atRow hiy), _, _, rfl, rfl, .inl ⟨by lia, by lia⟩, ⟨[_], rfl, rfl⟩, sm, ?_⟩
      rw [List.take_add_one, List.getElem?_zipWith, getD_of hix, getD_of hiy]
      simp
    · rintro H1 zs sm rfl lq hlq
      rw [ex, List.take_of_length_le (by rw [List.length_zipWith, hx.1, hy]; lia)]
      exact ⟨lq, _, rfl, .of upd_same, _, rfl, _, _, rfl, rfl, (by show (0 : Int) < p; lia), k _ (sm.trans (.upd hlq))⟩
noncomputable def outM (p : Int) (m : Mach) (z : List Int) : List Int := m.rows.map fun r => pdot r z % p
inductive AskTick (K : W.Frag) (vs : List V) (H : Hp) (Q : L2.VK) (E : L2.XK) : Prop where
  | mk (p : Int) (a b c : Addr) (m : Mach) (x y : List Int) (q0_ : vs = [.int p, .ref a, .ref b, .ref c]) (q1_ : 2 ≤ p) (q2_ : p ≤ 97) (q3_ : MH K H a m) (q4_ : MachOk p m) (q5_ : m.left ≤ 100) (q6_ : m.states ≤ 100) (q7_ : m.right ≤ 100) (q8_ : SqT K H b (x.map V.int)) (q9_ : SqT K H c (y.map V.int)) (q10_ : x.length = m.left) (q11_ : y.length = m.states) (q12_ : ∀ v t1 t2 H', Same H H' → SqT K H' v [.ref t1, .ref t2] → SqT K H' t1 (((outM p m (x ++ y)).take m.right).map V.int) → SqT K H' t2 (((outM p m (x ++ y)).drop m.right).map V.int) → Q (.ref v) H') : AskTick K vs H Q E
noncomputable def spTick (K : W.Frag) : Sp := fun vs H Q E => AskTick K vs H Q E
noncomputable abbrev nTk : List Str := ["p", "some", "asked", "kept", "found"]
theorem scTk : FnScope ["p", "some", "asked", "kept", "found"] ["p", "some", "asked", "kept"] (defScope sTick) := ⟨rfl, rfl, rfl, by decide +kernel, rfl, by decide +kernel, by decide +kernel⟩
theorem cutI_hi {r : List Int} {k : Nat} (h : k ≤ r.length) : cutV (r.map V.int) none (some (k : Int)) = (r.take k).map V.int := by
  unfold cutV
  rw [HT.sIx_nat, HT.sIx_none, List.length_map, List.drop_zero, Nat.sub_zero, Nat.min_eq_left h, List.map_take]
theorem cutI_lo {r : List Int} {k : Nat} (h : k ≤ r.length) : cutV (r.map V.int) (some (k : Int)) none = (r.drop k).map V.int := by
  unfold cutV
  rw [HT.sIx_nat, HT.sIx_none, List.length_map, Nat.min_eq_left h, List.take_of_length_le (by simp), List.map_drop]
theorem ok_tick {f fT : Addr} {fd fdT : FuncData} (F : Fun K "_law_tick" "_law_tick" sTick f fd) (T : Txt mg)
    (GT : FnOk P w K mg base CX0 1 fT fdT ["p", "row", "column"] (spTimes K)) (kT : Kp K fT) (bT : Binds K fdT ["p", "row", "column"] []) (mT : mg "_law_times" = some (.ref fT)) :
    FnOk P w K mg base CX0 2 f fd ["p", "some", "asked", "kept"] (spTick K) := by
  refine F.ok scTk (fun vs H Q E h => ?_) (fun cdv A outer s H vs Q E hr h => ?_)
  · obtain ⟨p, a, b, c, m, x, y, rfl, _⟩ := h
    rfl
  · obtain ⟨p, a, b, c, m, x, y, rfl, p2, p97, ⟨t, RS, hm1, hm2, hm3⟩, MO, l1, l2, l3, hb, hc, hx, hy, k⟩ := h
    have z1000 : (1000 : Nat) ≤ sizeLine := by decide
    refine ⟨_, pss_cons (ps_setComp (i := 4) (N := ["row", "asked", "kept", "p"]) (own := 1) (caps := [2, 3, 0]) rfl scTk.nd rfl rfl (piTup K rfl (pe_ix (ixT K rfl) (pv 1) pe_int (fun _ _ => rfl))) (show BlkScope nTk (defScope sTick) ["row", "asked", "kept", "p"] 1 [2, 3, 0] _ from .mk' (by decide +kernel)) (fun _ _ _ _ _ => pg_name (i := 0) nt1 rfl (Or.inl rfl)) (fun _ _ _ _ _ => pts_nil) (fun _ _ _ _ _ => pe_call GT hr rfl mT kT bT .nil pass0 (pa_cons (pv 3) (pa_cons (pv 0) (pa_cons (pe_op (opCatA K rfl) (pv 1) (pv 2)) pa_nil))))) (pss_one (ps_ret (pe_tup (pa_cons (pe_callTy (cTuple K rfl) rfl T.tuple bt_tuple (pa_cons (pe_slice (slL K rfl) (pv 4) po_none (po_some (pe_ix (ixT K rfl) (pv 1) pe_int (fun _ _ => rfl)))) pa_nil)) (pa_cons (pe_callTy (cTuple K rfl) rfl T.tuple bt_tuple (pa_cons (pe_slice (slL K rfl) (pv 4) (po_some (pe_ix (ixT K rfl) (pv 1) pe_int (fun _ _ => rfl))) po_none) pa_nil)) pa_nil))))), ?_⟩
    have eR := lenA hm3
    have hz : (x ++ y).length = m.left + m.states := by rw [List.length_append, hx, hy]
    have hml : m.rows.length ≤ 200 := by rw [MO.len]; lia
    refine ⟨_, rfl, a, _, 3, .ref t, rfl, rfl, hm1, atI_nat (j := 3) rfl, t, rfl, ⟨_, hm2⟩, comp_tup (cp := [some (.ref b), some (.ref c), some (.int p)]) (fun i H' zs => zs = ((outM p m (x ++ y)).take i).map V.int) hm2 (by lia) rfl (fun i H' zs e => by rw [e, List.length_map]; exact List.length_take_le _ _) ?_ ?_⟩
    · rintro i v H1 zs hv sm rfl
      obtain ⟨r, ra, hri, rfl, hra⟩ := rowAt hm3 hv
      have hRr := MO.rws r (List.mem_of_getElem? hri)
      refine tgo ⟨_, rfl, _, rfl, _, rfl, _, rfl, b, c, _, _, rfl, rfl, sm.seqT hb, sm.seqT hc, by rw [List.length_map, List.length_map]; lia, fun t2 H2 s2 ht2 => ?_⟩
      rw [← List.map_append] at ht2
      refine ⟨p, ra, t2, r, x ++ y, m.left + m.states, rfl, p2, p97, by lia, (sm.trans s2).seqT hra, ht2, hRr, hz, fun H3 s3 => ⟨⟨[_], rfl, rfl⟩, sm.trans (s2.trans s3), ?_⟩⟩
      have e : (outM p m (x ++ y))[i]? = some (pdot r (x ++ y) % p) := by unfold outM; rw [List.getElem?_map, hri]; rfl
      rw [List.take_add_one, e, List.map_append]; rfl
    rintro H1 zs sm rfl lf hlf
    have eo : (outM p m (x ++ y)).length = m.rows.length := by unfold outM; rw [List.length_map]
    have et : (outM p m (x ++ y)).take RS.length = outM p m (x ++ y) := List.take_of_length_le (by rw [eo, eR]; lia)
    rw [et]
    have s1 : Same H (upd H1 lf (.lst ((outM p m (x ++ y)).map V.int))) := sm.trans (.upd hlf)
    have g1 : (upd H1 lf (.lst ((outM p m (x ++ y)).map V.int))) lf = some (.lst ((outM p m (x ++ y)).map V.int)) := upd_same
    generalize upd H1 lf (.lst ((outM p m (x ++ y)).map V.int)) = H2 at s1 g1 ⊢
    have hcut : m.right ≤ (outM p m (x ++ y)).length := by rw [eo, MO.len]; lia
    refine ⟨_, rfl, _, rfl, a, _, 2, _, rfl, rfl, s1.seqT hm1, atI_nat (j := 2) rfl, _, rfl, lf, _, rfl, .of g1, fun l3 h3 => ?_⟩
    rw [cutI_hi hcut]
    refine ⟨l3, _, rfl, .inl ⟨.of upd_same, fun t4 h4 => ?_⟩⟩
    have s4 : Same H2 (upd (upd H2 l3 (.lst (((outM p m (x ++ y)).take m.right).map V.int))) t4 (.tup (((outM p m (x ++ y)).take m.right).map V.int))) := (Same.upd h3).trans (.upd h4)
    have g4 : (upd (upd H2 l3 (.lst (((outM p m (x ++ y)).take m.right).map V.int))) t4 (.tup (((outM p m (x ++ y)).take m.right).map V.int))) t4 = some (.tup (((outM p m (x ++ y)).take m.right).map V.int)) := upd_same
    generalize upd (upd H2 l3 (.lst (((outM p m (x ++ y)).take m.right).map V.int))) t4 (.tup (((outM p m (x ++ y)).take m.right).map V.int)) = H4 at s4 g4 ⊢
    refine ⟨_, rfl, _, rfl, a, _, 2, _, rfl, rfl, (s1.trans s4).seqT hm1, atI_nat (j := 2) rfl, _, rfl, lf, _, rfl, .of (s4 _ _ g1), fun l5 h5 => ?_⟩
    rw [cutI_lo hcut]
    refine ⟨l5, _, rfl, .inl ⟨.of upd_same, fun t6 h6 => ⟨(by show 2 ≤ sizeLine; lia), fun t7 h7 => ?_⟩⟩⟩
    refine k t7 t4 t6 _ ((s1.trans s4).trans ((Same.upd h5).trans ((Same.upd h6).trans (.upd h7)))) (.of upd_same) (((Same.upd h5).trans ((Same.upd h6).trans (.upd h7))).seqT (.of g4)) ((Same.upd h7).seqT (.of upd_same))
end
theorem nv0 : (["j", "at", "k", "script"] : List Str).Nodup := by decide +kernel
theorem nv1 : (["one", "p"] : List Str).Nodup := by decide +kernel
theorem Rw.setN {p z : Int} {n i : Nat} {r : List Int} (h : Rw p n r) (z0 : 0 ≤ z) (z1 : z < p) : Rw p n (r.set i z) := ⟨by rw [List.length_set]; exact h.1, fun x hx => by
  rcases List.mem_or_eq_of_mem_set hx with h' | rfl
  · exact h.2 x h'
  · exact ⟨z0, z1⟩⟩
theorem Rw.more {p z : Int} {n : Nat} {r : List Int} (h : Rw p n r) (z0 : 0 ≤ z) (z1 : z < p) : Rw p (n + 1) (r ++ [z]) := ⟨by simp [h.1], fun x hx => by
  rcases (List.mem_append.mp hx) with (h' | h')
  · exact h.2 x h'
  · rw [List.mem_singleton.mp h']; exact ⟨z0, z1⟩⟩
section
variable {P : Program} {w : World} {K : W.Frag} {mg : Str → Option Value} {base : Heap}
inductive AskMixed (K : W.Frag) (vs : List V) (H : Hp) (Q : L2.VK) (E : L2.XK) : Prop where
  | mk (p nu : Int) (a : Addr) (XS : List V) (L : List (List Int)) (l r s i j : Nat) (il ir ii ij : Int) (q0_ : vs = [.int p, .int il, .int ir, .ref a, .int ii, .int ij, .int nu]) (q1_ : il = l) (q2_ : ir = r) (q3_ : ii = i) (q4_ : ij = j) (q5_ : 2 ≤ p) (q6_ : p ≤ 97) (q7_ : l ≤ 30) (q8_ : r ≤ 30) (q9_ : s ≤ 30) (q10_ : i < s) (q11_ : j < s) (q12_ : 0 ≤ nu) (q13_ : nu < p) (q14_ : H a = some (.lst XS)) (q15_ : LR (fun _ => True) H XS L) (q16_ : Rws p (l + s) L) (q17_ : L.length = r + s) (q18_ : ∀ b XS' L' H', Same H H' → H' b = some (.lst XS') → LR (fun _ => True) H' XS' L' → Rws p (l + s) L' → L'.length = r + s → Q (.ref b) H') : AskMixed K vs H Q E
noncomputable def spMixed (K : W.Frag) : Sp := fun vs H Q E => AskMixed K vs H Q E
theorem scMx : FnScope ["p", "left", "right", "rows", "one", "other", "number", "fresh", "row", "gone", "first", "second", "mixed", "k"] ["p", "left", "right", "rows", "one", "other", "number"] (defScope sMixed) := ⟨rfl, rfl, rfl, by decide +kernel, rfl, by decide +kernel, by decide +kernel⟩
theorem ok_mixed {f : Addr} {fd : FuncData} (F : Fun K "_law_mixed" "_law_mixed" sMixed f fd) (T : Txt mg) : FnOk P w K mg base CX0 1 f fd ["p", "left", "right", "rows", "one", "other", "number"] (spMixed K) := by
  refine F.ok scMx (fun vs H Q E h => ?_) (fun cdv A outer s H vs Q E hr h => ?_)
  · obtain ⟨p, nu, a, XS, L, l, r, s, i, j, il, ir, ii, ij, rfl, _⟩ := h
    rfl
  · obtain ⟨p, nu, a, XS, L, l, r, s, i, j, il, ir, ii, ij, rfl, rfl, rfl, rfl, rfl, p2, p97, hl, hr', hs, hi, hj, n0, n1, ga, hL, hR, hLl, q⟩ := h
    have p0 : 0 < p := by lia
    have z1000 : (1000 : Nat) ≤ sizeLine := by decide
    refine ⟨_, pss_cons (ps_set (i := 7) scMx.nd rfl (Or.inl rfl) (pe_lst pa_nil)) (pss_cons (ps_for PassesOwn.never rfl (piList K rfl (pv 3)) (pg_name (i := 8) scMx.nd rfl (Or.inl rfl)) (pss_cons (ps_set (i := 8) scMx.nd rfl (Or.inl rfl) (pe_callTy (cList K rfl) rfl T.list bt_list (pa_cons (pv 8) pa_nil))) (pss_cons (ps_set (i := 9) scMx.nd rfl (Or.inl rfl) (pe_op op_mul (pv 6) (pe_ix (ixL K rfl) (pv 8) (pe_op op_add (pv 1) (pv 4)) (fun _ _ => rfl)))) (pss_cons (ps_asg (pe_op op_mod (pe_op op_sub (pe_ix (ixL K rfl) (pv 8) (pe_op op_add (pv 1) (pv 5)) (fun _ _ => rfl)) (pv 9)) (pv 0)) (pg_sub (pv 8) (pe_op op_add (pv 1) (pv 5)) set_list)) (pss_one (ps_expr (pe_bm PySem.F.plainAttrs_list PySem.F.slot_list_append PySem.F.type_list_append mt_append (pv 7) (pa_cons (pv 8) pa_nil)))))))) (pss_cons (ps_set (i := 10) scMx.nd rfl (Or.inl rfl) (pe_ix (ixL K rfl) (pv 7) (pe_op op_add (pv 2) (pv 5)) (fun _ _ => rfl))) (pss_cons (ps_set (i := 11) scMx.nd rfl (Or.inl rfl) (pe_ix (ixL K rfl) (pv 7) (pe_op op_add (pv 2) (pv 4)) (fun _ _ => rfl))) (pss_cons (ps_set (i := 12) scMx.nd rfl (Or.inl rfl) (pe_lst pa_nil)) (pss_cons (ps_for PassesOwn.never rfl (pi_range1 rfl T.range (pa_cons (pe_callB (cLen K rfl) rfl T.len bt_len (pa_cons (pv 10) pa_nil)) pa_nil)) (pg_name (i := 13) scMx.nd rfl (Or.inl rfl)) (pss_one (ps_expr (pe_bm PySem.F.plainAttrs_list PySem.F.slot_list_append PySem.F.type_list_append mt_append (pv 12) (pa_cons (pe_op op_mod (pe_op op_add (pe_ix (ixL K rfl) (pv 11) (pv 13) (fun _ _ => rfl)) (pe_op op_mul (pv 6) (pe_ix (ixL K rfl) (pv 10) (pv 13) (fun _ _ => rfl)))) (pv 0)) pa_nil))))) (pss_cons (ps_asg (pv 12) (pg_sub (pv 7) (pe_op op_add (pv 2) (pv 4)) set_list)) (pss_one (ps_ret (pv 7))))))))), ?_⟩
    have hLS := hL.1
    refine ⟨by decide, fun lf hlf => ?_⟩
    refine ⟨_, rfl, a, rfl, ⟨_, .of (Same.upd hlf _ _ ga)⟩, for_list (xs := XS) (fun k σ H' => All2 (Same H H') (Ex4 fun (s8 s9 : Option V) (FS : List V) (M : List (List Int)) => All5 (σ = [some (.int p), some (.int (l : Int)), some (.int (r : Int)), some (.ref a), some (.int (i : Int)), some (.int (j : Int)), some (.int nu), some (.ref lf), s8, s9, none, none, none, none]) (H' lf = some (.lst FS)) (LR (· ≠ lf) H' FS M) (Rws p (l + s) M) (M.length = k))) ⟨.upd hlf, _, _, [], [], rfl, upd_same, LR.nil, fun x hx => (nomatch hx), rfl⟩ (fun k σ H' _ h => .of (h.1 _ _ ga)) ?_ ?_⟩
    · rintro k x σ H1 hx ⟨sm, s8, s9, FS, M, rfl, gf, hF, hM, hMl⟩
      obtain ⟨ra, row, rfl, hrow, _, gr⟩ := hL.get hx
      have hRr := hR row (List.mem_of_getElem? hrow)
      have hk : k < L.length := (List.getElem?_eq_some_iff.mp hrow).1
      refine ⟨_, rfl, ra, _, rfl, .inl (.of (sm _ _ gr)), fun lr hlr => ?_⟩
      have g2 : (upd H1 lr (.lst (row.map V.int))) lr = some (.lst (row.map V.int)) := upd_same
      have nelr : lr ≠ lf := fun z => by rw [z, gf] at hlr; cases hlr
      have ei : (l : Int) + (i : Int) = ((l + i : Nat) : Int) := by lia
      have ej : (l : Int) + (j : Int) = ((l + j : Nat) : Int) := by lia
      have bi := hRr.at p0 (l + i)
      refine ⟨_, rfl, _, rfl, _, rfl, _, rfl, _, _, rfl, rfl, lr, _, ((l + i : Nat) : Int), _, rfl, congrArg V.int ei, .of g2, atI_nat (atRow (by rw [hRr.1]; lia)), _, _, rfl, rfl, .inl ⟨by lia, by lia⟩, ?_⟩
      refine ⟨_, rfl, _, rfl, _, rfl, _, _, rfl, rfl, lr, _, ((l + j : Nat) : Int), _, rfl, congrArg V.int ej, .of g2, atI_nat (atRow (by rw [hRr.1]; lia)), _, rfl, _, _, rfl, rfl, _, rfl, _, _, rfl, rfl, (by show (0 : Int) < p; lia), ?_⟩
      have z0 : 0 ≤ (row.getD (l + j) 0 - nu * row.getD (l + i) 0) % p := Int.emod_nonneg _ (by lia)
      have z1 : (row.getD (l + j) 0 - nu * row.getD (l + i) 0) % p < p := Int.emod_lt_of_pos _ p0
      refine ⟨_, rfl, _, rfl, _, rfl, _, _, rfl, rfl, lr, _, (l : Int) + (j : Int), l + j, rfl, rfl, g2, ?_, ?_⟩
      · unfold ixN
        rw [if_pos (by lia), if_pos (by rw [List.length_map, hRr.1]; lia)]
        exact congrArg some (by lia)
      have s3 : Same H1 (upd (upd H1 lr (.lst (row.map V.int))) lr (.lst ((row.map V.int).set (l + j) (.int ((row.getD (l + j) 0 - nu * row.getD (l + i) 0) % p))))) := (Same.upd hlr).write hlr
      have g3 : (upd (upd H1 lr (.lst (row.map V.int))) lr (.lst ((row.map V.int).set (l + j) (.int ((row.getD (l + j) 0 - nu * row.getD (l + i) 0) % p))))) lr = some (.lst ((row.set (l + j) ((row.getD (l + j) 0 - nu * row.getD (l + i) 0) % p)).map V.int)) := by rw [upd_same, List.map_set]
      dsimp only
      generalize upd (upd H1 lr (.lst (row.map V.int))) lr (.lst ((row.map V.int).set (l + j) (.int ((row.getD (l + j) 0 - nu * row.getD (l + i) 0) % p)))) = H3 at s3 g3 ⊢
      have gf3 := s3 _ _ gf
      refine ⟨_, rfl, .inl ⟨rfl, _, SqL.of gf3⟩, _, rfl, lf, _, _, rfl, rfl, gf3, by rw [hF.1]; lia, ?_⟩
      exact ⟨(sm.trans s3).write hlf, _, _, FS ++ [.ref lr], M ++ [row.set (l + j) ((row.getD (l + j) 0 - nu * row.getD (l + i) 0) % p)], rfl, upd_same, ((hF.mono s3).snoc nelr g3).wr, Rws.snoc hM (Rw.setN hRr z0 z1), by rw [List.length_append, hMl]; rfl⟩
    · rintro σ H1 ⟨sm, s8, s9, FS, M, rfl, gf, hF, hM, hMl⟩
      rw [hLS, hLl] at hMl
      have ei : (r : Int) + (i : Int) = ((r + i : Nat) : Int) := by lia
      have ej : (r : Int) + (j : Int) = ((r + j : Nat) : Int) := by lia
      have hj' : r + j < M.length := by lia
      have hi' : r + i < M.length := by lia
      obtain ⟨a1, h1, ne1, g1⟩ := hF.at (List.getElem?_eq_getElem hj')
      obtain ⟨a2, h2, ne2, g2⟩ := hF.at (List.getElem?_eq_getElem hi')
      have hR1 := hM _ (List.getElem_mem hj')
      have hR2 := hM _ (List.getElem_mem hi')
      generalize M[r + j] = x1 at g1 hR1
      generalize M[r + i] = x2 at g2 hR2
      refine ⟨_, rfl, _, rfl, _, rfl, _, _, rfl, rfl, lf, _, ((r + j : Nat) : Int), .ref a1, rfl, congrArg V.int ej, .of gf, atI_nat h1, ?_⟩
      refine ⟨_, rfl, _, rfl, _, rfl, _, _, rfl, rfl, lf, _, ((r + i : Nat) : Int), .ref a2, rfl, congrArg V.int ei, .of gf, atI_nat h2, ?_⟩
      refine ⟨by decide, fun lm hlm => ?_⟩
      have nelm : lm ≠ lf := fun z => by rw [z, gf] at hlm; cases hlm
      have ex : (x1.map V.int).length = l + s := by rw [List.length_map, hR1.1]
      refine ⟨_, rfl, a1, _, rfl, .inl (.of (Same.upd hlm _ _ g1)), (((x1.map V.int).length : Nat) : Int), rfl, by lia, by rw [ex]; lia, for_range (n := (x1.map V.int).length) (fun k σ H' => All2 (Same H1 H') (Ex2 fun (st : Option V) (z : List Int) => All3 (σ = [some (.int p), some (.int (l : Int)), some (.int (r : Int)), some (.ref a), some (.int (i : Int)), some (.int (j : Int)), some (.int nu), some (.ref lf), s8, s9, some (.ref a1), some (.ref a2), some (.ref lm), st]) (H' lm = some (.lst (z.map V.int))) (Rw p k z))) ⟨.upd hlm, _, [], rfl, upd_same, rfl, fun x hx => (nomatch hx)⟩ ?_ ?_⟩
      · rintro k σ H2 hk ⟨s2, st, z, rfl, gz, hz1, hz2⟩
        rw [ex] at hk
        rw [Int.zero_add]
        have b1 := hR1.at p0 k
        refine ⟨_, rfl, .inl ⟨rfl, _, SqL.of gz⟩, _, rfl, _, rfl, a2, _, (k : Int), _, rfl, rfl, .of (s2 _ _ g2), atI_nat (atRow (by rw [hR2.1]; exact hk)), _, rfl, _, rfl, _, rfl, a1, _, (k : Int), _, rfl, rfl, .of (s2 _ _ g1), atI_nat (atRow (by rw [hR1.1]; exact hk)), _, _, rfl, rfl, .inl ⟨by lia, by lia⟩, _, _, rfl, rfl, _, rfl, _, _, rfl, rfl, (by show (0 : Int) < p; lia), lm, _, _, rfl, rfl, gz, ?_, ?_⟩
        · rw [List.length_map, hz1]; lia
        exact ⟨s2.write hlm, _, z ++ [_], rfl, by rw [upd_same, List.map_append]; rfl, Rw.more ⟨hz1, hz2⟩ (Int.emod_nonneg _ (by lia)) (Int.emod_lt_of_pos _ p0)⟩
      · rintro σ H2 ⟨s2, st, z, rfl, gz, hz1, hz2⟩
        rw [ex] at hz1
        have gf2 := s2 _ _ gf
        refine ⟨_, rfl, _, rfl, _, rfl, _, rfl, _, _, rfl, rfl, lf, FS, (r : Int) + (i : Int), r + i, rfl, rfl, gf2, ?_, ?_⟩
        · unfold ixN
          rw [if_pos (by lia), if_pos (by rw [hF.1]; lia)]
          exact congrArg some (by lia)
        refine ⟨_, rfl, q lf _ (M.set (r + i) z) _ ((sm.trans s2).write hlf) upd_same (((hF.mono s2).set (r + i) nelm gz).wr).any (fun x hx => ?_) (by rw [List.length_set]; exact hMl)⟩
        rcases List.mem_or_eq_of_mem_set hx with h | rfl
        · exact hM x h
        · exact ⟨hz1, hz2⟩
end
section
variable {P : Program} {w : World} {K : W.Frag} {mg : Str → Option Value} {base : Heap}
inductive AskGrown (K : W.Frag) (vs : List V) (H : Hp) (Q : L2.VK) (E : L2.XK) : Prop where
  | mk (a b : Addr) (ns : List Int) (at_ p : Int) (m : Mach) (q0_ : vs = [.ref a, .int at_, .int p, .ref b]) (q1_ : SqL K H a (ns.map V.int)) (q2_ : ns.length ≤ 63) (q3_ : 0 ≤ at_) (q4_ : at_ ≤ 10000) (q5_ : 2 ≤ p) (q6_ : p ≤ 97) (q7_ : MH K H b m) (q8_ : MachOk p m) (q9_ : m.left ≤ 12) (q10_ : m.right ≤ 12) (q11_ : m.states ≤ 13) (q12_ : ∀ v m' H', Same H H' → MH K H' v m' → MachOk p m' → m'.left = m.left → m'.right = m.right → m'.states ≤ 13 → Q (.ref v) H') : AskGrown K vs H Q E
noncomputable def spGrown (K : W.Frag) : Sp := fun vs H Q E => AskGrown K vs H Q E
noncomputable abbrev nGr : List Str := ["script", "at", "p", "some", "left", "states", "right", "rows", "row", "k", "draw", "j", "draws", "one", "fresh", "other", "number"]
theorem scGr : FnScope ["script", "at", "p", "some", "left", "states", "right", "rows", "row", "k", "draw", "j", "draws", "one", "fresh", "other", "number"] ["script", "at", "p", "some"] (defScope sGrown) := ⟨rfl, rfl, rfl, by decide +kernel, rfl, by decide +kernel, by decide +kernel⟩
inductive JGr (a b : Addr) (at_ p : Int) (l r : Nat) (H : Hp) (σ : St) (H' : Hp) : Prop where
  | mk (q0_ : Same H H') (lr : Addr) (XS : List V) (L : List (List Int)) (s : Nat) (s8 s9 s10 s11 s12 s13 s14 s15 s16 : Option V) (q1_ : σ = [some (.ref a), some (.int at_), some (.int p), some (.ref b), some (.int (l : Int)), some (.int (s : Int)), some (.int (r : Int)), some (.ref lr), s8, s9, s10, s11, s12, s13, s14, s15, s16]) (q2_ : H' lr = some (.lst XS)) (q3_ : LR (fun _ => True) H' XS L) (q4_ : Rws p (l + s) L) (q5_ : L.length = r + s) (q6_ : s ≤ 13) : JGr a b at_ p l r H σ H'
theorem ok_grown {f fD fN fM : Addr} {fd fdD fdN fdM : FuncData} (F : Fun K "_law_grown" "_law_grown" sGrown f fd) (T : Txt mg)
    (GD : FnOk P w K mg base CX0 1 fD fdD ["script", "k"] (spDraw K)) (kD : Kp K fD) (bD : Binds K fdD ["script", "k"] []) (mD : mg "_law_draw" = some (.ref fD))
    (GN : FnOk P w K mg base CX0 1 fN fdN ["draw", "p"] spNumber) (kN : Kp K fN) (bN : Binds K fdN ["draw", "p"] []) (mN : mg "_law_number" = some (.ref fN))
    (GM : FnOk P w K mg base CX0 1 fM fdM ["p", "left", "right", "rows", "one", "other", "number"] (spMixed K)) (kM : Kp K fM) (bM : Binds K fdM ["p", "left", "right", "rows", "one", "other", "number"] []) (mM : mg "_law_mixed" = some (.ref fM)) :
    FnOk P w K mg base CX0 2 f fd ["script", "at", "p", "some"] (spGrown K) := by
  refine F.ok scGr (fun vs H Q E h => ?_) (fun cdv A outer s H vs Q E hr h => ?_)
  · obtain ⟨a, b, ns, at_, p, m, rfl, _⟩ := h
    rfl
  · obtain ⟨a, b, ns, at_, p, m, rfl, hq, hz, a0, a1, p2, p97, ⟨t, RS, hm1, hm2, hm3⟩, MO, l1, l2, l3, q⟩ := h
    have p0 : 0 < p := by lia
    have z1000 : (1000 : Nat) ≤ sizeLine := by decide
    refine ⟨_, pss_cons (ps_asg (pv 3) (pgTup (n := 4) K rfl rfl (pgs_cons (pg_name (i := 4) scGr.nd rfl (Or.inl rfl)) (pgs_cons (pg_name (i := 5) scGr.nd rfl (Or.inl rfl)) (pgs_cons (pg_name (i := 6) scGr.nd rfl (Or.inl rfl)) (pgs_cons (pg_name (i := 7) scGr.nd rfl (Or.inl rfl)) pgs_nil)))))) (pss_cons (ps_setComp (i := 7) (N := ["row"]) (own := 1) (caps := []) rfl scGr.nd rfl rfl (piTup K rfl (pv 7)) (show BlkScope nGr (defScope sGrown) ["row"] 1 [] _ from .mk' (by decide +kernel)) (fun _ _ _ _ _ => pg_name (i := 0) nu0 rfl (Or.inl rfl)) (fun _ _ _ _ _ => pts_nil) (fun _ _ _ _ _ => pe_callTy (cList K rfl) rfl T.list bt_list (pa_cons (pv 0) pa_nil))) (pss_cons (ps_for PassesOwn.never rfl (pi_range1 rfl T.range (pa_cons (pe_op op_mod (pe_call GD hr rfl mD kD bD .nil pass0 (pa_cons (pv 0) (pa_cons (pv 1) pa_nil))) pe_int) pa_nil)) (pg_name (i := 9) scGr.nd rfl (Or.inr rfl)) (pss_cons (ps_set (i := 10) scGr.nd rfl (Or.inl rfl) (pe_call GD hr rfl mD kD bD .nil pass0 (pa_cons (pv 0) (pa_cons (pe_op op_add (pe_op op_add (pv 1) pe_int) (pv 9)) pa_nil)))) (pss_one (ps_if (PW.pt (pw_and (pt_cmpR op_eq (pe_op op_mod (pv 10) pe_int) pe_int (nomark _)) (pw_and1 (pt_cmpR op_lt (pv 5) pe_int (nomark _))))) (pss_cons (ps_setComp (i := 12) (N := ["j", "at", "k", "script"]) (own := 1) (caps := [1, 9, 0]) rfl scGr.nd rfl rfl (pi_range1 rfl T.range (pa_cons (pe_op op_add (pe_op op_add (pv 4) (pv 5)) pe_int) pa_nil)) (show BlkScope nGr (defScope sGrown) ["j", "at", "k", "script"] 1 [1, 9, 0] _ from .mk' (by decide +kernel)) (fun _ _ _ _ _ => pg_name (i := 0) nv0 rfl (Or.inl rfl)) (fun _ _ _ _ _ => pts_nil) (fun _ _ _ _ _ => pe_call GD hr rfl mD kD bD .nil pass0 (pa_cons (pv 3) (pa_cons (pe_op op_add (pe_op op_add (pe_op op_add (pv 1) pe_int) (pe_op op_mul pe_int (pv 2))) (pv 0)) pa_nil)))) (pss_cons (ps_set (i := 7) scGr.nd rfl (Or.inl rfl) (pe_op op_cat (pe_comp (N := ["row"]) (own := 1) (caps := []) rfl (piList K rfl (pv 7)) (show BlkScope nGr (defScope sGrown) ["row"] 1 [] _ from .mk' (by decide +kernel)) (fun _ _ _ _ _ => pg_name (i := 0) nu0 rfl (Or.inl rfl)) (fun _ _ _ _ _ => pts_nil) (fun _ _ _ _ _ => pe_op op_cat (pv 0) (pe_lst (pa_cons pe_int pa_nil)))) (pe_lst (pa_cons (pe_comp (N := ["one", "p"]) (own := 1) (caps := [2]) rfl (piList K rfl (pv 12)) (show BlkScope nGr (defScope sGrown) ["one", "p"] 1 [2] _ from .mk' (by decide +kernel)) (fun _ _ _ _ _ => pg_name (i := 0) nv1 rfl (Or.inl rfl)) (fun _ _ _ _ _ => pts_nil) (fun _ _ _ _ _ => pe_call GN hr rfl mN kN bN .nil pass0 (pa_cons (pv 0) (pa_cons (pv 1) pa_nil)))) pa_nil)))) (pss_one (ps_set (i := 5) scGr.nd rfl (Or.inl rfl) (pe_op op_add (pv 5) pe_int))))) (pss_one (ps_if (PW.pt (pw_and (pt_cmpR op_eq (pe_op op_mod (pv 10) pe_int) pe_int (nomark _)) (pw_and1 (pt_cmpR op_lt (pv 5) pe_int (nomark _))))) (pss_cons (ps_set (i := 14) scGr.nd rfl (Or.inl rfl) (pe_lst pa_nil)) (pss_cons (ps_for PassesOwn.never rfl (piEnum K rfl true rfl T.enumerate (pa_cons (pv 7) pa_nil)) (pgTup (n := 2) K rfl rfl (pgs_cons (pg_name (i := 11) scGr.nd rfl (Or.inl rfl)) (pgs_cons (pg_name (i := 8) scGr.nd rfl (Or.inl rfl)) pgs_nil))) (pss_one (ps_expr (pe_bm PySem.F.plainAttrs_list PySem.F.slot_list_append PySem.F.type_list_append mt_append (pv 14) (pa_cons (pe_op op_cat (pv 8) (pe_lst (pa_cons (pe_call GN hr rfl mN kN bN .nil pass0 (pa_cons (pe_call GD hr rfl mD kD bD .nil pass0 (pa_cons (pv 0) (pa_cons (pe_op op_add (pe_op op_add (pv 1) pe_int) (pv 11)) pa_nil))) (pa_cons (pv 2) pa_nil))) pa_nil))) pa_nil))))) (pss_cons (ps_set (i := 7) scGr.nd rfl (Or.inl rfl) (pe_op op_cat (pv 14) (pe_lst (pa_cons (pe_op op_rep (pe_lst (pa_cons pe_int pa_nil)) (pe_op op_add (pe_op op_add (pv 4) (pv 5)) pe_int)) pa_nil)))) (pss_one (ps_set (i := 5) scGr.nd rfl (Or.inl rfl) (pe_op op_add (pv 5) pe_int)))))) (pss_one (ps_if (pt_cmpR op_gt (pv 5) pe_int (nomark _)) (pss_cons (ps_set (i := 13) scGr.nd rfl (Or.inl rfl) (pe_op op_mod (pe_op op_fdiv (pv 10) pe_int) (pv 5))) (pss_cons (ps_set (i := 15) scGr.nd rfl (Or.inl rfl) (pe_op op_mod (pe_op op_add (pe_op op_add (pv 13) pe_int) (pe_op op_mod (pe_op op_fdiv (pv 10) pe_int) (pe_op op_sub (pv 5) pe_int))) (pv 5))) (pss_cons (ps_set (i := 16) scGr.nd rfl (Or.inl rfl) (pe_op op_mod (pe_op op_fdiv (pv 10) pe_int) (pv 2))) (pss_one (ps_set (i := 7) scGr.nd rfl (Or.inl rfl) (pe_call GM hr rfl mM kM bM .nil pass0 (pa_cons (pv 2) (pa_cons (pv 4) (pa_cons (pv 6) (pa_cons (pv 7) (pa_cons (pv 13) (pa_cons (pv 15) (pa_cons (pv 16) pa_nil))))))))))))) pss_nil)))))))) (pss_one (ps_ret (pe_tup (pa_cons (pv 4) (pa_cons (pv 5) (pa_cons (pv 6) (pa_cons (pe_callTy (cTuple K rfl) rfl T.tuple bt_tuple (pa_cons (pe_comp (N := ["row"]) (own := 1) (caps := []) rfl (piList K rfl (pv 7)) (show BlkScope nGr (defScope sGrown) ["row"] 1 [] _ from .mk' (by decide +kernel)) (fun _ _ _ _ _ => pg_name (i := 0) nu0 rfl (Or.inl rfl)) (fun _ _ _ _ _ => pts_nil) (fun _ _ _ _ _ => pe_callTy (cTuple K rfl) rfl T.tuple bt_tuple (pa_cons (pv 0) pa_nil))) pa_nil)) pa_nil))))))))), ?_⟩
    have eR := lenA hm3
    have hml := MO.len
    refine ⟨_, rfl, b, _, rfl, hm1, rfl, _, _, rfl, _, _, rfl, _, _, rfl, _, _, rfl, rfl, ?_⟩
    refine ⟨_, rfl, t, rfl, ⟨_, hm2⟩, comp_tup (cp := []) (fun i H' zs => LR (fun _ => True) H' zs (m.rows.take i)) hm2 (by lia) LR.nil (fun i H' zs h => by rw [h.1]; exact List.length_take_le _ _) ?_ ?_⟩
    · rintro i x H1 zs hx sm h1
      obtain ⟨r, ra, hri, rfl, hra⟩ := rowAt hm3 hx
      refine tgo ⟨_, rfl, ra, _, rfl, .inr (sm.seqT hra), fun l hl => ⟨⟨[_], rfl, rfl⟩, sm.trans (.upd hl), ?_⟩⟩
      rw [List.take_add_one, hri]
      exact (h1.mono (.upd hl)).snoc trivial upd_same
    rintro H1 XS sm1 hX lr hlr
    rw [eR, List.take_length] at hX
    have smA : Same H (upd H1 lr (.lst XS)) := sm1.trans (.upd hlr)
    have gA : (upd H1 lr (.lst XS)) lr = some (.lst XS) := upd_same
    have hXA : LR (fun _ => True) (upd H1 lr (.lst XS)) XS m.rows := hX.mono (.upd hlr)
    generalize upd H1 lr (.lst XS) = H2 at smA gA hXA ⊢
    obtain ⟨l, s0, r, R0⟩ := m
    dsimp only at hml l1 l2 l3 hm1 hXA
    have hR0 : Rws p (l + s0) R0 := MO.rws
    refine ⟨_, rfl, _, rfl, a, ns, at_, rfl, smA.seq hq, hz, a0, by lia, fun d d0 d1 => ?_⟩
    have e0 : 0 ≤ d % 7 := Int.emod_nonneg _ (by decide)
    have e1 : d % 7 < 7 := Int.emod_lt_of_pos _ (by decide)
    refine ⟨_, _, rfl, rfl, (by show (0 : Int) < 7; decide), d % 7, rfl, by lia, by lia, for_range (n := (d % 7).toNat) (fun k σ H' => JGr a b at_ p l r H σ H') ⟨smA, lr, XS, R0, s0, _, _, _, _, _, _, _, _, _, rfl, gA, hXA, hR0, hml, l3⟩ ?_ ?_⟩
    · rintro k σ H3 hk ⟨sm, lr, XS, L, s, s8, s9, s10, s11, s12, s13, s14, s15, s16, rfl, g, hL, hR, hLl, hs⟩
      rw [Int.zero_add]
      have hXl := hL.1
      have hk7 : (k : Int) < 7 := by lia
      refine ⟨_, rfl, _, rfl, _, _, rfl, rfl, _, rfl, _, _, rfl, rfl, a, ns, at_ + 1 + (k : Int), rfl, sm.seq hq, hz, by lia, by lia, fun dr dr0 dr1 => ?_⟩
      refine (fun n1 => ⟨_, rfl, _, _, rfl, rfl, (by show (0 : Int) < 3; decide), rfl, _, rfl, ite2 (fun _ => ?c1) (fun _ => iteF n1)⟩) ?n1
      case c1 =>
        refine ⟨_, rfl, _, _, rfl, rfl, _, rfl, ite2 (fun hlt => ?y1) (fun _ => n1)⟩
        case y1 =>
          have hlt : s < 13 := by have := of_decide_eq_true hlt; lia
          refine ⟨_, rfl, _, rfl, _, _, rfl, rfl, _, _, rfl, rfl, (l : Int) + (s : Int) + 1, rfl, by lia, by lia, comp_rng (n := ((l : Int) + (s : Int) + 1).toNat) (lo := 0) (cp := [some (.int at_), some (.int (k : Int)), some (.ref a)]) (fun i H' zs => ∃ fs : List Int, zs = fs.map V.int ∧ fs.length = i) (by lia) ⟨[], rfl, rfl⟩ (fun i H' zs h => by obtain ⟨fs, rfl, h⟩ := h; rw [List.length_map, h]; exact Nat.le_refl _) ?_ ?_⟩
          · rintro j H' zs hj sm' ⟨fs, rfl, hf⟩
            rw [Int.zero_add]
            refine tgo ⟨_, rfl, _, rfl, _, _, rfl, rfl, _, rfl, _, _, rfl, rfl, .inl ⟨by decide, by decide⟩, _, _, rfl, rfl, _, rfl, _, _, rfl, rfl, a, ns, at_ + 20 + 8 * (k : Int) + (j : Int), rfl, (sm.trans sm').seq hq, hz, by lia, by lia, fun dd _ _ => ?_⟩
            exact ⟨⟨[_], rfl, rfl⟩, sm', fs ++ [dd], by rw [List.map_append]; rfl, by rw [List.length_append, hf]; rfl⟩
          rintro H4 zs sm4 ⟨fs, rfl, hf⟩ ld hld
          have efs : fs.length = l + s + 1 := by lia
          have sm5 : Same H3 (upd H4 ld (.lst (fs.map V.int))) := sm4.trans (.upd hld)
          have g5 : (upd H4 ld (.lst (fs.map V.int))) ld = some (.lst (fs.map V.int)) := upd_same
          generalize upd H4 ld (.lst (fs.map V.int)) = H5 at sm5 g5 ⊢
          refine ⟨_, rfl, lr, rfl, ⟨_, .of (sm5 _ _ g)⟩, comp_list (xs := XS) (cp := []) (fun i H' zs => LR (fun _ => True) H' zs ((L.take i).map fun x => x ++ [0])) (.of (sm5 _ _ g)) (by lia) LR.nil (fun i H' zs h => by rw [h.1, List.length_map]; exact List.length_take_le _ _) ?_ ?_⟩
          · rintro i x H6 zs hx sm6 h6
            obtain ⟨ra, row, rfl, hrow, _, gr⟩ := hL.get hx
            have gr6 := (sm5.trans sm6) _ _ gr
            have hrl := (hR row (List.mem_of_getElem? hrow)).1
            refine tgo ⟨_, rfl, (by show 1 ≤ sizeLine; lia), fun l1' h1' => ⟨ra, l1', _, _, rfl, rfl, Same.upd h1' _ _ gr6, upd_same, by rw [List.length_map, hrl]; show _ + 1 ≤ sizeLine; lia, fun l2' h2' => ⟨⟨[_], rfl, rfl⟩, sm6.trans ((Same.upd h1').trans (.upd h2')), ?_⟩⟩⟩
            rw [List.take_add_one, hrow]
            show LR _ _ _ ((L.take i ++ [row]).map fun x => x ++ [0])
            rw [List.map_append]
            exact (h6.mono ((Same.upd h1').trans (.upd h2'))).snoc trivial (by rw [upd_same, List.map_append]; rfl)
          rintro H6 NS sm6 hN l1' h1'
          rw [hXl, List.take_length] at hN
          have sm7 : Same H5 (upd H6 l1' (.lst NS)) := sm6.trans (.upd h1')
          have g7 : (upd H6 l1' (.lst NS)) l1' = some (.lst NS) := upd_same
          have hN7 := hN.mono (Same.upd h1' (o := .lst NS))
          generalize upd H6 l1' (.lst NS) = H7 at sm7 g7 hN7 ⊢
          refine ⟨_, rfl, ld, rfl, ⟨_, .of (sm7 _ _ g5)⟩, comp_list (xs := fs.map V.int) (cp := [some (.int p)]) (fun i H' zs => ∃ x : List Int, zs = x.map V.int ∧ Rw p i x) (.of (sm7 _ _ g5)) (by rw [List.length_map]; lia) ⟨[], rfl, rfl, fun x hx => (nomatch hx)⟩ (fun i H' zs h => by obtain ⟨x, rfl, h⟩ := h; rw [List.length_map, h.1]; exact Nat.le_refl _) ?_ ?_⟩
          · rintro i v H8 zs hv sm8 ⟨x, rfl, hx⟩
            rw [List.getElem?_map] at hv
            cases e : fs[i]? with
            | none => rw [e] at hv; cases hv
            | some dd =>
              rw [e] at hv
              cases hv
              refine tgo ⟨_, rfl, _, rfl, dd, p, rfl, p2, p97, fun z H9 z0 z1 sm9 => ⟨⟨[_], rfl, rfl⟩, sm8.trans sm9, x ++ [z], by rw [List.map_append]; rfl, Rw.more hx z0 z1⟩⟩
          rintro H8 zs sm8 ⟨x, rfl, hx⟩ l2' h2'
          rw [List.length_map, efs] at hx
          refine ⟨(by show 1 ≤ sizeLine; lia), fun l3' h3' => ⟨l1', l3', NS, [.ref l2'], rfl, rfl, ((sm8.trans (.upd h2')).trans (.upd h3')) _ _ g7, upd_same, by show NS.length + 1 ≤ sizeLine; rw [hN7.1, List.length_map]; lia, fun l4' h4' => ?_⟩⟩
          have smB : Same H7 (upd (upd (upd H8 l2' (.lst (x.map V.int))) l3' (.lst [.ref l2'])) l4' (.lst (NS ++ [.ref l2']))) := (sm8.trans (.upd h2')).trans ((Same.upd h3').trans (.upd h4'))
          have gx : (upd (upd (upd H8 l2' (.lst (x.map V.int))) l3' (.lst [.ref l2'])) l4' (.lst (NS ++ [.ref l2']))) l2' = some (.lst (x.map V.int)) := ((Same.upd h3').trans (.upd h4')) _ _ upd_same
          refine ⟨_, rfl, _, _, rfl, rfl, sm.trans (sm5.trans (sm7.trans smB)), l4', NS ++ [.ref l2'], (L.map fun x => x ++ [0]) ++ [x], s + 1, _, _, _, _, _, _, _, _, _, rfl, upd_same, (hN7.mono smB).snoc trivial gx, fun y hy => ?_, by simp [hLl]; lia, by lia⟩
          rcases (List.mem_append.mp hy) with (hy | hy)
          · obtain ⟨y0, hy0, rfl⟩ := List.mem_map.mp hy
            exact Rw.more (hR y0 hy0) (Int.le_refl 0) p0
          · rw [List.mem_singleton.mp hy]; exact hx
      case n1 =>
        refine (fun m1 => ⟨_, rfl, _, _, rfl, rfl, (by show (0 : Int) < 3; decide), rfl, _, rfl, ite2 (fun _ => ?c2) (fun _ => iteF m1)⟩) ?m1
        case c2 =>
          refine ⟨_, rfl, _, _, rfl, rfl, _, rfl, ite2 (fun hlt => ?y2) (fun _ => m1)⟩
          case y2 =>
            have hlt : s < 13 := by have := of_decide_eq_true hlt; lia
            refine ⟨by decide, fun lf hlf => ?_⟩
            have hlf0 : H3 lf = none := hlf
            refine ⟨_, rfl, lr, rfl, ⟨_, .of (Same.upd hlf _ _ g)⟩, for_enum (b := true) (xs := XS) (fun i σ H' => All2 (Same H3 H') (Ex4 fun (q8 q11 : Option V) (FS : List V) (M : List (List Int)) => All5 (σ = [some (.ref a), some (.int at_), some (.int p), some (.ref b), some (.int (l : Int)), some (.int (s : Int)), some (.int (r : Int)), some (.ref lr), q8, some (.int (k : Int)), some (.int dr), q11, s12, s13, some (.ref lf), s15, s16]) (H' lf = some (.lst FS)) (LR (· ≠ lf) H' FS M) (Rws p (l + s + 1) M) (M.length = i))) ⟨.upd hlf, _, _, [], [], rfl, upd_same, LR.nil, fun x hx => (nomatch hx), rfl⟩ (fun i σ H' h => .of (h.1 _ _ g)) (fun i σ H1 H2 s12 ⟨e1, q8, q11, FS, M, e, gf, hF, e2, e3⟩ => ⟨e1.trans s12, q8, q11, FS, M, e, s12 _ _ gf, hF.mono s12, e2, e3⟩) ?_ ?_⟩
            · rintro i x σ H4 hx ⟨sm4, q8, q11, FS, M, rfl, gf, hF, hM, hMl⟩
              obtain ⟨ra, row, rfl, hrow, _, gr⟩ := hL.get hx
              have hRr := hR row (List.mem_of_getElem? hrow)
              have hil : i < L.length := (List.getElem?_eq_some_iff.mp hrow).1
              refine ⟨_, rfl, .inl ⟨rfl, _, SqL.of gf⟩, _, rfl, _, rfl, _, rfl, _, _, rfl, rfl, _, rfl, _, _, rfl, rfl, a, ns, at_ + 70 + (i : Int), rfl, (sm.trans sm4).seq hq, hz, by lia, by lia, fun dd _ _ => ?_⟩
              refine ⟨_, rfl, dd, p, rfl, p2, p97, fun z H5 z0 z1 sm5 => ⟨(by show 1 ≤ sizeLine; lia), fun l1' h1' => ⟨ra, l1', _, _, rfl, rfl, Same.upd h1' _ _ ((sm4.trans sm5) _ _ gr), upd_same, by rw [List.length_map, hRr.1]; show _ + 1 ≤ sizeLine; lia, fun l2' h2' => ?_⟩⟩⟩
              have s6 : Same H4 (upd (upd H5 l1' (.lst [.int z])) l2' (.lst (row.map V.int ++ [.int z]))) := sm5.trans ((Same.upd h1').trans (.upd h2'))
              have g6 : (upd (upd H5 l1' (.lst [.int z])) l2' (.lst (row.map V.int ++ [.int z]))) l2' = some (.lst ((row ++ [z]).map V.int)) := by rw [upd_same, List.map_append]; rfl
              have ne6 : l2' ≠ lf := fun e => by
                have := (sm5.trans (Same.upd h1' (o := .lst [.int z]))) _ _ gf
                rw [← e, h2'] at this; cases this
              generalize upd (upd H5 l1' (.lst [.int z])) l2' (.lst (row.map V.int ++ [.int z])) = H6 at s6 g6 ⊢
              refine ⟨lf, _, _, rfl, rfl, s6 _ _ gf, by rw [hF.1, hMl]; lia, ?_⟩
              exact ⟨(sm4.trans s6).write hlf0, _, _, FS ++ [.ref l2'], M ++ [row ++ [z]], rfl, upd_same, ((hF.mono s6).snoc ne6 g6).wr, Rws.snoc hM (Rw.more hRr z0 z1), by rw [List.length_append, hMl]; rfl⟩
            · rintro σ H4 ⟨sm4, q8, q11, FS, M, rfl, gf, hF, hM, hMl⟩
              rw [hXl, hLl] at hMl
              refine ⟨_, rfl, by decide, fun l1' h1' => ⟨_, rfl, _, rfl, _, _, rfl, rfl, _, _, rfl, rfl, l1', (l : Int) + (s : Int) + 1, _, rfl, rfl, upd_same, by lia, by lia, (by show 1 * ((l : Int) + (s : Int) + 1).toNat ≤ sizeLine; lia), fun l2' h2' => ?_⟩⟩
              have en : ((l : Int) + (s : Int) + 1).toNat = l + s + 1 := by lia
              rw [en, flatR]
              have s5 : Same H4 (upd (upd H4 l1' (.lst [.int 0])) l2' (.lst ((List.replicate (l + s + 1) (0 : Int)).map V.int))) := (Same.upd h1').trans (.upd h2')
              have g5 : (upd (upd H4 l1' (.lst [.int 0])) l2' (.lst ((List.replicate (l + s + 1) (0 : Int)).map V.int))) l2' = some (.lst ((List.replicate (l + s + 1) (0 : Int)).map V.int)) := upd_same
              generalize upd (upd H4 l1' (.lst [.int 0])) l2' (.lst ((List.replicate (l + s + 1) (0 : Int)).map V.int)) = H5 at s5 g5 ⊢
              refine ⟨(by show 1 ≤ sizeLine; lia), fun l3' h3' => ⟨lf, l3', FS, [.ref l2'], rfl, rfl, Same.upd h3' _ _ (s5 _ _ gf), upd_same, by show FS.length + 1 ≤ sizeLine; rw [hF.1, hMl]; lia, fun l4' h4' => ?_⟩⟩
              have s6 : Same H5 (upd (upd H5 l3' (.lst [.ref l2'])) l4' (.lst (FS ++ [.ref l2']))) := (Same.upd h3').trans (.upd h4')
              have hz0 : Rw p (l + s + 1) (List.replicate (l + s + 1) 0) := ⟨by simp, fun x hx => by rw [(List.mem_replicate.mp hx).2]; lia⟩
              exact ⟨_, rfl, _, _, rfl, rfl, sm.trans (sm4.trans (s5.trans s6)), l4', FS ++ [.ref l2'], M ++ [List.replicate (l + s + 1) 0], s + 1, _, _, _, _, _, _, _, _, _, rfl, upd_same, ((hF.any).mono (s5.trans s6)).snoc trivial (s6 _ _ g5), Rws.snoc hM hz0, by simp [hMl]; lia, by lia⟩
        case m1 =>
          refine ⟨_, rfl, _, _, rfl, rfl, _, rfl, ite2 (fun hgt => ?_) (fun _ => ⟨sm, lr, XS, L, s, _, _, _, _, _, _, _, _, _, rfl, g, hL, hR, hLl, hs⟩)⟩
          have hgt : 1 < s := by have := of_decide_eq_true hgt; lia
          refine ⟨_, rfl, _, _, rfl, rfl, ⟨by decide, by decide⟩, _, rfl, _, _, rfl, rfl, (by show (0 : Int) < (s : Int); lia), ?_⟩
          refine ⟨_, rfl, _, _, rfl, rfl, _, rfl, _, _, rfl, rfl, ⟨by decide, by decide⟩, _, rfl, _, _, rfl, rfl, _, _, rfl, rfl, (by show (0 : Int) < (s : Int) - 1; lia), _, _, rfl, rfl, _, rfl, _, _, rfl, rfl, (by show (0 : Int) < (s : Int); lia), ?_⟩
          refine ⟨_, rfl, _, _, rfl, rfl, ⟨by decide, by decide⟩, _, rfl, _, _, rfl, rfl, (by show (0 : Int) < p; lia), ?_⟩
          have i0 : 0 ≤ dr / 3 % (s : Int) := Int.emod_nonneg _ (by lia)
          have i1 : dr / 3 % (s : Int) < (s : Int) := Int.emod_lt_of_pos _ (by lia)
          have j0 : 0 ≤ (dr / 3 % (s : Int) + 1 + dr / 15 % ((s : Int) - 1)) % (s : Int) := Int.emod_nonneg _ (by lia)
          have j1 : (dr / 3 % (s : Int) + 1 + dr / 15 % ((s : Int) - 1)) % (s : Int) < (s : Int) := Int.emod_lt_of_pos _ (by lia)
          refine ⟨_, rfl, _, rfl, _, rfl, _, rfl, _, rfl, _, rfl, _, rfl, p, dr / 60 % p, lr, XS, L, l, r, s, (dr / 3 % (s : Int)).toNat, ((dr / 3 % (s : Int) + 1 + dr / 15 % ((s : Int) - 1)) % (s : Int)).toNat, (l : Int), (r : Int), dr / 3 % (s : Int), (dr / 3 % (s : Int) + 1 + dr / 15 % ((s : Int) - 1)) % (s : Int), rfl, rfl, rfl, by lia, by lia, p2, p97, by lia, by lia, by lia, by lia, by lia, Int.emod_nonneg _ (by lia), Int.emod_lt_of_pos _ p0, g, hL, hR, hLl, fun b' XS' L' H4 sm4 g4 hL4 hR4 hl4 => ?_⟩
          exact ⟨sm.trans sm4, b', XS', L', s, _, _, _, _, _, _, _, _, _, rfl, g4, hL4, hR4, hl4, hs⟩
    · rintro σ H3 ⟨sm, lr, XS, L, s, s8, s9, s10, s11, s12, s13, s14, s15, s16, rfl, g, hL, hR, hLl, hs⟩
      have hXl := hL.1
      refine ⟨_, rfl, _, rfl, _, rfl, _, rfl, lr, rfl, ⟨_, .of g⟩, comp_list (xs := XS) (cp := []) (fun i H' zs => HasA K H' zs ((L.take i).map intsT)) (.of g) (by lia) .nil (fun i H' zs h => by rw [lenA h]; exact List.length_take_le _ _) ?_ ?_⟩
      · rintro i x H4 zs hx sm4 h4
        obtain ⟨ra, row, rfl, hrow, _, gr⟩ := hL.get hx
        refine tgo ⟨_, rfl, ra, _, rfl, .inl ⟨.of (sm4 _ _ gr), fun t ht => ⟨⟨[_], rfl, rfl⟩, sm4.trans (.upd ht), ?_⟩⟩⟩
        rw [List.take_add_one, hrow]
        show HasA K _ _ ((L.take i ++ [row]).map intsT)
        rw [List.map_append]
        exact (h4.mono (.upd ht)).append (.cons (hasT_of (.of upd_same)) .nil)
      · rintro H4 TS sm4 h4 lt hlt
        rw [hXl, List.take_length] at h4
        refine ⟨lt, _, rfl, .inl ⟨.of upd_same, fun t ht => ⟨(by show 4 ≤ sizeLine; lia), fun tt htt => ?_⟩⟩⟩
        have s5 : Same H4 (upd (upd (upd H4 lt (.lst TS)) t (.tup TS)) tt (.tup [.int (l : Int), .int (s : Int), .int (r : Int), .ref t])) := (Same.upd hlt).trans ((Same.upd ht).trans (.upd htt))
        exact q tt ⟨l, s, r, L⟩ _ (sm.trans (sm4.trans s5)) ⟨t, TS, .of upd_same, .of (Same.upd htt _ _ upd_same), h4.mono s5⟩ ⟨hLl, hR⟩ rfl rfl hs
end
theorem cutT_hi {XS : List V} {k : Nat} (h : k ≤ XS.length) : cutV XS none (some (k : Int)) = XS.take k := by
  unfold cutV
  rw [HT.sIx_nat, HT.sIx_none, List.drop_zero, Nat.sub_zero, Nat.min_eq_left h]
theorem cutT_lo {XS : List V} {k : Nat} (h : k ≤ XS.length) : cutV XS (some (k : Int)) none = XS.drop k := by
  unfold cutV
  rw [HT.sIx_nat, HT.sIx_none, Nat.min_eq_left h, List.take_of_length_le (by simp)]
section
variable {P : Program} {w : World} {K : W.Frag} {mg : Str → Option Value} {base : Heap}
inductive AskPair (K : W.Frag) (vs : List V) (H : Hp) (Q : L2.VK) (E : L2.XK) : Prop where
  | mk (a : Addr) (ns : List Int) (q0_ : vs = [.ref a]) (q1_ : SqL K H a (ns.map V.int)) (q2_ : ns.length ≤ 63) (q3_ : ∀ (v a1 a2 : Addr) (p : Int) (m1 m2 : Mach) (H' : Hp), p ∈ primesL → Same H H' → SqT K H' v [.int p, .ref a1, .ref a2] → MH K H' a1 m1 → MH K H' a2 m2 → MachOk p m1 → MachOk p m2 → m1.left = m2.left → m1.right = m2.right → m1.left ≤ 2 → m1.right ≤ 2 → m1.states ≤ 13 → m2.states ≤ 13 → Q (.ref v) H') : AskPair K vs H Q E
noncomputable def spPair (K : W.Frag) : Sp := fun vs H Q E => AskPair K vs H Q E
theorem scPr : FnScope ["script", "p", "left", "right", "size", "states", "one", "other", "draw", "at", "row"] ["script"] (defScope sPair) := ⟨rfl, rfl, rfl, by decide +kernel, rfl, by decide +kernel, by decide +kernel⟩
inductive JPr (K : W.Frag) (a a1 : Addr) (p sz st dr : Int) (l r : Nat) (H : Hp) (σ : St) (H' : Hp) : Prop where
  | mk (q0_ : Same H H') (a2 : Addr) (m2 : Mach) (s9 s10 : Option V) (q1_ : σ = [some (.ref a), some (.int p), some (.int (l : Int)), some (.int (r : Int)), some (.int sz), some (.int st), some (.ref a1), some (.ref a2), some (.int dr), s9, s10]) (q2_ : MH K H' a2 m2) (q3_ : MachOk p m2) (q4_ : m2.left = l) (q5_ : m2.right = r) (q6_ : m2.states ≤ 13) : JPr K a a1 p sz st dr l r H σ H'
theorem ok_pair {f fP fD fM fG : Addr} {fd fdP fdD fdM fdG : FuncData} (F : Fun K "_law_pair" "_law_pair" sPair f fd) (T : Txt mg)
    (GP : FnOk P w K mg base CX0 2 fP fdP ["script"] (spPrime6 K)) (kP : Kp K fP) (bP : Binds K fdP ["script"] []) (mP : mg "_law_prime" = some (.ref fP))
    (GD : FnOk P w K mg base CX0 1 fD fdD ["script", "k"] (spDraw K)) (kD : Kp K fD) (bD : Binds K fdD ["script", "k"] []) (mD : mg "_law_draw" = some (.ref fD))
    (GM : FnOk P w K mg base CX0 2 fM fdM ["script", "at", "p", "left", "right", "states"] (spMachine K)) (kM : Kp K fM) (bM : Binds K fdM ["script", "at", "p", "left", "right", "states"] []) (mM : mg "_law_machine" = some (.ref fM))
    (GG : FnOk P w K mg base CX0 2 fG fdG ["script", "at", "p", "some"] (spGrown K)) (kG : Kp K fG) (bG : Binds K fdG ["script", "at", "p", "some"] []) (mG : mg "_law_grown" = some (.ref fG)) :
    FnOk P w K mg base CX0 3 f fd ["script"] (spPair K) := by
  refine F.ok scPr (fun vs H Q E h => ?_) (fun cdv A outer s H vs Q E hr h => ?_)
  · obtain ⟨a, ns, rfl, _⟩ := h
    rfl
  · obtain ⟨a, ns, rfl, hq, hz, q⟩ := h
    have hr1 : Room 1 _ := hr.mono (by decide)
    have z1000 : (1000 : Nat) ≤ sizeLine := by decide
    refine ⟨_, pss_cons (ps_set (i := 1) scPr.nd rfl (Or.inl rfl) (pe_call GP hr rfl mP kP bP .nil pass0 (pa_cons (pv 0) pa_nil))) (pss_cons (ps_set (i := 2) scPr.nd rfl (Or.inl rfl) (pe_op op_mod (pe_call GD hr1 rfl mD kD bD .nil pass0 (pa_cons (pv 0) (pa_cons pe_int pa_nil))) pe_int)) (pss_cons (ps_set (i := 3) scPr.nd rfl (Or.inl rfl) (pe_op op_mod (pe_call GD hr1 rfl mD kD bD .nil pass0 (pa_cons (pv 0) (pa_cons pe_int pa_nil))) pe_int)) (pss_cons (ps_set (i := 4) scPr.nd rfl (Or.inl rfl) (pe_call GD hr1 rfl mD kD bD .nil pass0 (pa_cons (pv 0) (pa_cons pe_int pa_nil)))) (pss_cons (ps_set (i := 5) scPr.nd rfl (Or.inl rfl) (pe_ix (ixL K rfl) (pe_lst (pa_cons (pe_op op_mod (pv 4) pe_int) (pa_cons (pe_op op_mod (pv 4) pe_int) (pa_cons (pe_op op_mod (pv 4) pe_int) (pa_cons (pe_op op_add pe_int (pe_op op_mod (pe_op op_fdiv (pv 4) pe_int) pe_int)) pa_nil))))) (pe_op op_mod (pe_op op_fdiv (pv 4) pe_int) pe_int) (fun _ _ => rfl))) (pss_cons (ps_set (i := 6) scPr.nd rfl (Or.inl rfl) (pe_call GM hr rfl mM kM bM .nil pass0 (pa_cons (pv 0) (pa_cons pe_int (pa_cons (pv 1) (pa_cons (pv 2) (pa_cons (pv 3) (pa_cons (pv 5) pa_nil)))))))) (pss_cons (ps_set (i := 7) scPr.nd rfl (Or.inl rfl) (pe_call GG hr rfl mG kG bG .nil pass0 (pa_cons (pv 0) (pa_cons pe_int (pa_cons (pv 1) (pa_cons (pv 6) pa_nil)))))) (pss_cons (ps_set (i := 8) scPr.nd rfl (Or.inl rfl) (pe_call GD hr1 rfl mD kD bD .nil pass0 (pa_cons (pv 0) (pa_cons pe_int pa_nil)))) (pss_cons (ps_if (pt_cmpR op_eq (pe_op op_mod (pv 8) pe_int) pe_int (nomark _)) (pss_one (ps_set (i := 7) scPr.nd rfl (Or.inl rfl) (pe_call GM hr rfl mM kM bM .nil pass0 (pa_cons (pv 0) (pa_cons pe_int (pa_cons (pv 1) (pa_cons (pv 2) (pa_cons (pv 3) (pa_cons (pe_op op_mod (pe_op op_fdiv (pv 8) pe_int) pe_int) pa_nil))))))))) (pss_one (ps_if (PW.pt (pw_and (pt_cmpR op_eq (pe_op op_mod (pv 8) pe_int) pe_int (nomark _)) (pw_and (pt_cmpR op_gt (pe_op op_add (pv 2) (pe_ix (ixT K rfl) (pv 7) pe_int (fun _ _ => rfl))) pe_int (nomark _)) (pw_and1 (pt_cmpR op_gt (pe_callB (cLen K rfl) rfl T.len bt_len (pa_cons (pe_ix (ixT K rfl) (pv 7) pe_int (fun _ _ => rfl)) pa_nil)) pe_int (nomark _)))))) (pss_cons (ps_set (i := 9) scPr.nd rfl (Or.inl rfl) (pe_op op_mod (pe_op op_fdiv (pv 8) pe_int) (pe_callB (cLen K rfl) rfl T.len bt_len (pa_cons (pe_ix (ixT K rfl) (pv 7) pe_int (fun _ _ => rfl)) pa_nil)))) (pss_cons (ps_set (i := 10) scPr.nd rfl (Or.inl rfl) (pe_callTy (cList K rfl) rfl T.list bt_list (pa_cons (pe_ix (ixT K rfl) (pe_ix (ixT K rfl) (pv 7) pe_int (fun _ _ => rfl)) (pv 9) (fun _ _ => rfl)) pa_nil))) (pss_cons (ps_asg (pe_op op_mod (pe_op op_fdiv (pv 8) pe_int) (pv 1)) (pg_sub (pv 10) (pe_op op_mod (pe_op op_fdiv (pv 8) pe_int) (pe_callB (cLen K rfl) rfl T.len bt_len (pa_cons (pv 10) pa_nil))) set_list)) (pss_one (ps_set (i := 7) scPr.nd rfl (Or.inl rfl) (pe_op (opCatA K rfl) (pe_slice (slT K rfl) (pv 7) po_none (po_some pe_int)) (pe_tup (pa_cons (pe_op (opCatA K rfl) (pe_op (opCatA K rfl) (pe_slice (slT K rfl) (pe_ix (ixT K rfl) (pv 7) pe_int (fun _ _ => rfl)) po_none (po_some (pv 9))) (pe_tup (pa_cons (pe_callTy (cTuple K rfl) rfl T.tuple bt_tuple (pa_cons (pv 10) pa_nil)) pa_nil))) (pe_slice (slT K rfl) (pe_ix (ixT K rfl) (pv 7) pe_int (fun _ _ => rfl)) (po_some (pe_op op_add (pv 9) pe_int)) po_none)) pa_nil))))))))
          pss_nil))) (pss_one (ps_ret (pe_tup (pa_cons (pv 1) (pa_cons (pv 6) (pa_cons (pv 7) pa_nil)))))))))))))), ?_⟩
    refine ⟨_, rfl, a, ns, rfl, hq, hz, fun p H1 pp sm1 => ?_⟩
    obtain ⟨p2, p97⟩ := prime_pos p pp
    have p0 : 0 < p := by lia
    have hq1 := sm1.seq hq
    refine ⟨_, rfl, a, ns, 1, rfl, hq1, hz, by decide, by decide, fun d1 _ _ => ⟨_, _, rfl, rfl, (by show (0 : Int) < 3; decide), ?_⟩⟩
    refine ⟨_, rfl, a, ns, 2, rfl, hq1, hz, by decide, by decide, fun d2 _ _ => ⟨_, _, rfl, rfl, (by show (0 : Int) < 3; decide), ?_⟩⟩
    refine ⟨_, rfl, a, ns, 3, rfl, hq1, hz, by decide, by decide, fun sz sz0 _ => ?_⟩
    have a0 : 0 ≤ d1 % 3 := Int.emod_nonneg _ (by decide)
    have a1 : d1 % 3 < 3 := Int.emod_lt_of_pos _ (by decide)
    have b0 : 0 ≤ d2 % 3 := Int.emod_nonneg _ (by decide)
    have b1 : d2 % 3 < 3 := Int.emod_lt_of_pos _ (by decide)
    obtain ⟨l, hl⟩ : ∃ l : Nat, d1 % 3 = (l : Int) := ⟨(d1 % 3).toNat, by lia⟩
    obtain ⟨r, hr'⟩ : ∃ r : Nat, d2 % 3 = (r : Int) := ⟨(d2 % 3).toNat, by lia⟩
    have hl2 : l ≤ 2 := by lia
    have hr2 : r ≤ 2 := by lia
    dsimp only [gName]
    rw [hl, hr']
    clear hl hr' a0 a1 b0 b1
    have c0 : 0 ≤ sz % 4 := Int.emod_nonneg _ (by decide)
    have c1 : sz % 4 < 4 := Int.emod_lt_of_pos _ (by decide)
    have e0 : 0 ≤ sz / 4 % 7 := Int.emod_nonneg _ (by decide)
    have e1 : sz / 4 % 7 < 7 := Int.emod_lt_of_pos _ (by decide)
    have w0 : 0 ≤ sz / 32 % 4 := Int.emod_nonneg _ (by decide)
    have w1 : sz / 32 % 4 < 4 := Int.emod_lt_of_pos _ (by decide)
    refine ⟨_, rfl, _, _, rfl, rfl, (by show (0 : Int) < 4; decide), _, rfl, _, _, rfl, rfl, (by show (0 : Int) < 4; decide), _, rfl, _, _, rfl, rfl, (by show (0 : Int) < 4; decide), _, rfl, _, _, rfl, rfl, ⟨by decide, by decide⟩, _, _, rfl, rfl, (by show (0 : Int) < 7; decide), _, _, rfl, rfl, (by show 4 ≤ sizeLine; decide), fun ls hls => ⟨_, rfl, _, _, rfl, rfl, ⟨by decide, by decide⟩, _, _, rfl, rfl, (by show (0 : Int) < 4; decide), ?_⟩⟩
    refine ixB (lo := 0) (hi := 11) upd_same ⟨⟨_, rfl, c0, by lia⟩, ⟨_, rfl, c0, by lia⟩, ⟨_, rfl, c0, by lia⟩, ⟨_, rfl, by lia, by lia⟩, trivial⟩ w0 (by show (sz / 32 % 4).toNat < 4; lia) fun st st0 st1 => ?_
    have sm2 : Same H (upd H1 ls (.lst [.int (sz % 4), .int (sz % 4), .int (sz % 4), .int (4 + sz / 4 % 7)])) := sm1.trans (.upd hls)
    generalize upd H1 ls (.lst [.int (sz % 4), .int (sz % 4), .int (sz % 4), .int (4 + sz / 4 % 7)]) = H2 at sm2 ⊢
    have hq2 := sm2.seq hq
    refine ⟨_, rfl, _, rfl, _, rfl, _, rfl, _, rfl, a, ns, 20, p, l, r, st.toNat, (l : Int), (r : Int), st, rfl, rfl, rfl, by lia, hq2, hz, by decide, by decide, p2, p97, by lia, by lia, by lia, fun a1' m1 H3 sm3 hm1 MO1 ml1 mr1 ms1 => ?_⟩
    have sm4 := sm2.trans sm3
    refine ⟨_, rfl, _, rfl, _, rfl, a, a1', ns, 80, p, m1, rfl, sm4.seq hq, hz, by decide, by decide, p2, p97, hm1, MO1, by lia, by lia, by lia, fun a2' m2 H5 sm5 hm2 MO2 ml2 mr2 ms2 => ?_⟩
    have sm6 := sm4.trans sm5
    refine ⟨_, rfl, a, ns, 4, rfl, sm6.seq hq, hz, by decide, by decide, fun dr dr0 _ => ?_⟩
    have j0 : JPr K a a1' p sz st dr l r H5 [some (.ref a), some (.int p), some (.int (l : Int)), some (.int (r : Int)), some (.int sz), some (.int st), some (.ref a1'), some (.ref a2'), some (.int dr), none, none] H5 := ⟨.refl _, a2', m2, _, _, rfl, hm2, MO2, by rw [ml2, ml1], by rw [mr2, mr1], ms2⟩
    dsimp only [gName]
    refine seq_by (JPr K a a1' p sz st dr l r H5) (fun N hN => ?_) (fun σ7 H7 hJ => ?_)
    · refine ⟨_, rfl, _, _, rfl, rfl, (by show (0 : Int) < 8; decide), rfl, _, rfl, ite2 (fun _ => ?_) (fun _ => ?_)⟩
      · have f0 : 0 ≤ dr / 8 % 4 := Int.emod_nonneg _ (by decide)
        have f1 : dr / 8 % 4 < 4 := Int.emod_lt_of_pos _ (by decide)
        refine ⟨_, rfl, _, rfl, _, rfl, _, rfl, _, rfl, _, _, rfl, rfl, ⟨by decide, by decide⟩, _, _, rfl, rfl, (by show (0 : Int) < 4; decide), a, ns, 220, p, l, r, (dr / 8 % 4).toNat, (l : Int), (r : Int), dr / 8 % 4, rfl, rfl, rfl, by lia, sm6.seq hq, hz, by decide, by decide, p2, p97, by lia, by lia, by lia, fun v m H8 sm8 hm MO ml mr ms => ?_⟩
        exact hN _ _ ⟨sm8, v, m, _, _, rfl, hm, MO, ml, mr, by lia⟩
      · refine ⟨_, rfl, _, _, rfl, rfl, (by show (0 : Int) < 2; decide), rfl, _, rfl, ite2 (fun _ => ?_) (fun _ => iteF (hN _ _ j0))⟩
        obtain ⟨t2, RS, hm21, hm22, hm23⟩ := hm2
        have eR := lenA hm23
        have hRSl : RS.length ≤ 100 := by rw [eR, MO2.len]; lia
        refine ⟨_, rfl, _, rfl, a2', _, 1, _, rfl, rfl, hm21, atI_nat (j := 1) rfl, _, _, rfl, rfl, _, _, rfl, rfl, _, rfl, ite2 (fun hpos => ?_) (fun _ => iteF (hN _ _ j0))⟩
        refine ⟨_, rfl, a2', _, 3, .ref t2, rfl, rfl, hm21, atI_nat (j := 3) rfl, t2, _, rfl, .inr hm22, _, _, rfl, rfl, _, rfl, ite2 (fun hpos2 => ?_) (fun _ => hN _ _ j0)⟩
        have hp1 : 0 < l + m2.states := by have := of_decide_eq_true hpos; lia
        have hp2 : 0 < RS.length := by have := of_decide_eq_true hpos2; lia
        have lpos : (0 : Int) < (RS.length : Int) := by lia
        have g0 : 0 ≤ dr / 2 % (RS.length : Int) := Int.emod_nonneg _ (by lia)
        have g1 : dr / 2 % (RS.length : Int) < (RS.length : Int) := Int.emod_lt_of_pos _ lpos
        obtain ⟨k, hk⟩ : ∃ k : Nat, dr / 2 % (RS.length : Int) = (k : Int) := ⟨(dr / 2 % (RS.length : Int)).toNat, by lia⟩
        refine ⟨_, rfl, _, _, rfl, rfl, ⟨by decide, by decide⟩, _, rfl, a2', _, 3, .ref t2, rfl, rfl, hm21, atI_nat (j := 3) rfl, t2, _, rfl, .inr hm22, _, _, rfl, rfl, lpos, ?_⟩
        dsimp only
        rw [hk] at g0 g1 ⊢
        have hkl : k < m2.rows.length := by lia
        have hkR : k < RS.length := by lia
        obtain ⟨ra, hra, hqa⟩ := HasA.at hm23 hkl
        have hRr : Rw p (m2.left + m2.states) m2.rows[k] := MO2.rws _ (List.getElem_mem hkl)
        rw [ml2, ml1] at hRr
        refine ⟨_, rfl, a2', _, 3, .ref t2, rfl, rfl, hm21, atI_nat (j := 3) rfl, _, rfl, t2, _, (k : Int), .ref ra, rfl, rfl, hm22, atI_nat hra, ra, _, rfl, .inr hqa, fun lw hlw => ?_⟩
        generalize m2.rows[k] = x at hqa hRr
        have s8 : Same H5 (upd H5 lw (.lst (x.map V.int))) := .upd hlw
        have g8 : (upd H5 lw (.lst (x.map V.int))) lw = some (.lst (x.map V.int)) := upd_same
        have exl : (x.map V.int).length = l + m2.states := by rw [List.length_map, hRr.1]
        have xpos : (0 : Int) < ((x.map V.int).length : Int) := by lia
        have i0 : 0 ≤ dr / 64 % ((x.map V.int).length : Int) := Int.emod_nonneg _ (by lia)
        have i1 : dr / 64 % ((x.map V.int).length : Int) < ((x.map V.int).length : Int) := Int.emod_lt_of_pos _ xpos
        have z0 : 0 ≤ dr / 1024 % p := Int.emod_nonneg _ (by lia)
        have z1 : dr / 1024 % p < p := Int.emod_lt_of_pos _ p0
        refine ⟨_, rfl, _, _, rfl, rfl, ⟨by decide, by decide⟩, _, rfl, _, _, rfl, rfl, (by show (0 : Int) < p; lia), _, rfl, _, rfl, _, _, rfl, rfl, ⟨by decide, by decide⟩, _, rfl, lw, _, rfl, .inl (.of g8), _, _, rfl, rfl, xpos, lw, _, _, (dr / 64 % ((x.map V.int).length : Int)).toNat, rfl, rfl, g8, ?_, ?_⟩
        · unfold ixN
          rw [if_pos i0, if_pos (by lia)]
        have s9 : Same H5 (upd (upd H5 lw (.lst (x.map V.int))) lw (.lst ((x.map V.int).set (dr / 64 % ((x.map V.int).length : Int)).toNat (.int (dr / 1024 % p))))) := s8.write hlw
        have g9 : (upd (upd H5 lw (.lst (x.map V.int))) lw (.lst ((x.map V.int).set (dr / 64 % ((x.map V.int).length : Int)).toNat (.int (dr / 1024 % p))))) lw = some (.lst ((x.set (dr / 64 % ((x.map V.int).length : Int)).toNat (dr / 1024 % p)).map V.int)) := by rw [upd_same, List.map_set]
        have hRx : Rw p (l + m2.states) (x.set (dr / 64 % ((x.map V.int).length : Int)).toNat (dr / 1024 % p)) := Rw.setN hRr z0 z1
        dsimp only
        generalize upd (upd H5 lw (.lst (x.map V.int))) lw (.lst ((x.map V.int).set (dr / 64 % ((x.map V.int).length : Int)).toNat (.int (dr / 1024 % p)))) = H9 at s9 g9 ⊢
        generalize x.set (dr / 64 % ((x.map V.int).length : Int)).toNat (dr / 1024 % p) = y at g9 hRx
        refine ⟨_, rfl, _, rfl, a2', _, rfl, s9.seqT hm21, ?_, fun t3 h3 => ?_⟩
        · rintro ⟨_, z⟩
          rw [show (some (3 : Int)) = some ((3 : Nat) : Int) from rfl, HT.sIx_nat] at z
          simp at z
        have ec3 : cutV [V.int (m2.left : Int), .int (m2.states : Int), .int (m2.right : Int), .ref t2] none (some 3) = [.int (m2.left : Int), .int (m2.states : Int), .int (m2.right : Int)] := rfl
        rw [ec3]
        have sA : Same H5 (upd H9 t3 (.tup [.int (m2.left : Int), .int (m2.states : Int), .int (m2.right : Int)])) := s9.trans (.upd h3)
        have gA : (upd H9 t3 (.tup [.int (m2.left : Int), .int (m2.states : Int), .int (m2.right : Int)])) t3 = some (.tup [.int (m2.left : Int), .int (m2.states : Int), .int (m2.right : Int)]) := upd_same
        have g9A := Same.upd h3 (o := .tup [.int (m2.left : Int), .int (m2.states : Int), .int (m2.right : Int)]) _ _ g9
        generalize upd H9 t3 (.tup [.int (m2.left : Int), .int (m2.states : Int), .int (m2.right : Int)]) = HA at sA gA g9A ⊢
        refine ⟨_, rfl, a2', _, 3, .ref t2, rfl, rfl, sA.seqT hm21, atI_nat (j := 3) rfl, _, rfl, _, rfl, t2, _, rfl, sA.seqT hm22, ?_, fun t4 h4 => ?_⟩
        · rintro ⟨_, z⟩
          rw [HT.sIx_nat] at z
          lia
        rw [cutT_hi (by lia)]
        have sB : Same HA (upd HA t4 (.tup (RS.take k))) := .upd h4
        have gB : (upd HA t4 (.tup (RS.take k))) t4 = some (.tup (RS.take k)) := upd_same
        generalize upd HA t4 (.tup (RS.take k)) = HB at sB gB ⊢
        refine ⟨_, rfl, lw, _, rfl, .inl ⟨.of (sB _ _ g9A), fun t5 h5 => ⟨(by show 1 ≤ sizeLine; lia), fun t6 h6 => ?_⟩⟩⟩
        have sC : Same HB (upd (upd HB t5 (.tup (y.map V.int))) t6 (.tup [.ref t5])) := (Same.upd h5).trans (.upd h6)
        have gC5 : (upd (upd HB t5 (.tup (y.map V.int))) t6 (.tup [.ref t5])) t5 = some (.tup (y.map V.int)) := Same.upd h6 _ _ upd_same
        have gC6 : (upd (upd HB t5 (.tup (y.map V.int))) t6 (.tup [.ref t5])) t6 = some (.tup [.ref t5]) := upd_same
        generalize upd (upd HB t5 (.tup (y.map V.int))) t6 (.tup [.ref t5]) = HC at sC gC5 gC6 ⊢
        refine ⟨t4, t6, _, _, rfl, rfl, .of (sC _ _ gB), .of gC6, by rw [List.length_take]; show _ + 1 ≤ sizeLine; lia, fun t7 HD sD ht7 => ?_⟩
        have sE := (sA.trans sB).trans (sC.trans sD)
        refine ⟨_, rfl, a2', _, 3, .ref t2, rfl, rfl, sE.seqT hm21, atI_nat (j := 3) rfl, _, rfl, _, _, rfl, rfl, _, rfl, t2, _, rfl, sE.seqT hm22, ?_, fun t8 h8 => ?_⟩
        · rintro ⟨z, _⟩
          have : HT.sIx RS.length 0 (some ((k : Int) + 1)) = min (k + 1) RS.length := HT.sIx_nat _ _ (k + 1)
          rw [this] at z
          lia
        have ec8 : cutV RS (some ((k : Int) + 1)) none = RS.drop (k + 1) := cutT_lo (k := k + 1) (by lia)
        rw [ec8]
        have sF : Same HD (upd HD t8 (.tup (RS.drop (k + 1)))) := .upd h8
        have gF : (upd HD t8 (.tup (RS.drop (k + 1)))) t8 = some (.tup (RS.drop (k + 1))) := upd_same
        generalize upd HD t8 (.tup (RS.drop (k + 1))) = HF at sF gF ⊢
        refine ⟨t7, t8, _, _, rfl, rfl, sF.seqT ht7, .of gF, ?_, fun t9 HG sG ht9 => ⟨(by show 1 ≤ sizeLine; lia), fun ta ha => ?_⟩⟩
        · simp only [List.length_append, List.length_take, List.length_drop, List.length_cons, List.length_nil]
          lia
        have sH : Same HG (upd HG ta (.tup [.ref t9])) := .upd ha
        have gH : (upd HG ta (.tup [.ref t9])) ta = some (.tup [.ref t9]) := upd_same
        generalize upd HG ta (.tup [.ref t9]) = HH at sH gH ⊢
        have sI := (sF.trans sG).trans sH
        have sCI := (sC.trans sD).trans sI
        refine ⟨t3, ta, _, _, rfl, rfl, .of ((sB.trans sCI) _ _ gA), .of gH, by show 3 + 1 ≤ sizeLine; lia, fun tb HJ sJ htb => ?_⟩
        have sK := sCI.trans sJ
        have sL : Same H5 HJ := (sA.trans sB).trans sK
        refine hN _ _ ⟨sL, tb, ⟨l, m2.states, r, m2.rows.take k ++ [y] ++ m2.rows.drop (k + 1)⟩, _, _, rfl, ⟨t9, RS.take k ++ [.ref t5] ++ RS.drop (k + 1), ?_, (sH.trans sJ).seqT ht9, ?_⟩, ⟨?_, fun z hz' => ?_⟩, rfl, rfl, ms2⟩
        · rw [ml2, ml1, mr2, mr1] at htb
          exact htb
        · rw [List.map_append, List.map_append, List.map_take, List.map_drop]
          have hA := hm23.mono sL
          exact ((HasA.take k hA).append (.cons (hasT_of (.of (((sD.trans sI).trans sJ) _ _ gC5))) .nil)).append (HasA.drop (k + 1) hA)
        · have := MO2.len
          simp
          lia
        · rcases (List.mem_append.mp hz') with (h | h)
          · rcases (List.mem_append.mp h) with (h | h)
            · have := MO2.rws z (List.mem_of_mem_take h)
              rwa [ml2, ml1] at this
            · rw [List.mem_singleton.mp h]; exact hRx
          · have := MO2.rws z (List.mem_of_mem_drop h)
            rwa [ml2, ml1] at this
    obtain ⟨sm, a2, m2', s9, s10, rfl, hm2', MO2', ml2', mr2', ms2'⟩ := hJ
    refine ⟨_, rfl, _, rfl, _, rfl, (by show 3 ≤ sizeLine; decide), fun v hv => ?_⟩
    exact q v a1' a2 p m1 m2' _ pp ((sm6.trans sm).trans (.upd hv)) (.of upd_same) (hm1.mono ((sm5.trans sm).trans (.upd hv))) (hm2'.mono (.upd hv)) MO1 MO2' (by lia) (by lia) (by lia) (by lia) (by lia) ms2'
end
theorem ny0 : (["wire", "one", "other"] : List Str).Nodup := by decide +kernel
noncomputable def askW (n w t : Nat) : List Int := if t = 0 then unitM n w else List.replicate n 0
noncomputable def stM (p : Int) (m : Mach) (w : Nat) : Nat → List Int
  | 0 => List.replicate m.states 0
  | t + 1 => (outM p m (askW m.left w t ++ stM p m w t)).drop m.right
noncomputable def ansM (p : Int) (m : Mach) (w t : Nat) : List Int := (outM p m (askW m.left w t ++ stM p m w t)).take m.right
noncomputable def pairM (p : Int) (m1 m2 : Mach) (w t : Nat) : List Int := stM p m1 w t ++ stM p m2 w t
noncomputable def reachL (p : Int) (m1 m2 : Mach) : Nat → List (List Int)
  | 0 => []
  | t + 1 => reachL p m1 m2 t ++ (List.range m1.left).map fun w => pairM p m1 m2 w (t + 1)
noncomputable def reachW (p : Int) (m1 m2 : Mach) (t w : Nat) : List (List Int) := reachL p m1 m2 t ++ (List.range w).map fun w => pairM p m1 m2 w (t + 1)
noncomputable def EqUp (p : Int) (m1 m2 : Mach) (t w : Nat) : Prop := ∀ t' w', (t' < t ∧ w' < m1.left) ∨ (t' = t ∧ w' < w) → ansM p m1 w' t' = ansM p m2 w' t'
theorem unit_len {n k : Nat} (h : k < n) : (unitM n k).length = n := by simp [unitM]; lia
theorem ask_len {n w t : Nat} (h : w < n) : (askW n w t).length = n := by
  unfold askW
  split
  · exact unit_len h
  · simp
theorem unit_Rw {p : Int} {n k : Nat} (p2 : 2 ≤ p) (h : k < n) : Rw p n (unitM n k) := ⟨unit_len h, fun x hx => by
  unfold unitM at hx
  simp only [List.mem_append, List.mem_replicate, List.mem_singleton] at hx
  lia⟩
theorem out_Rw {p : Int} {m : Mach} (p0 : 0 < p) (z : List Int) : Rw p m.rows.length (outM p m z) := ⟨by simp [outM], fun x hx => by
  obtain ⟨r, _, rfl⟩ := List.mem_map.mp hx
  exact ⟨Int.emod_nonneg _ (by lia), Int.emod_lt_of_pos _ p0⟩⟩
theorem st_Rw {p : Int} {m : Mach} (p0 : 0 < p) (MO : MachOk p m) (w : Nat) : ∀ t, Rw p m.states (stM p m w t)
  | 0 => ⟨by simp [stM], fun x hx => by rw [(List.mem_replicate.mp hx).2]; lia⟩
  | t + 1 => by
    have o := out_Rw (m := m) p0 (askW m.left w t ++ stM p m w t)
    have := MO.len
    exact ⟨by rw [stM, List.length_drop, o.1]; lia, fun x hx => o.2 x (List.mem_of_mem_drop hx)⟩
theorem pair_Rw {p : Int} {m1 m2 : Mach} (p0 : 0 < p) (MO1 : MachOk p m1) (MO2 : MachOk p m2) (w t : Nat) : Rw p (m1.states + m2.states) (pairM p m1 m2 w t) := by
  have h1 := st_Rw p0 MO1 w t
  have h2 := st_Rw p0 MO2 w t
  refine ⟨by simp [pairM, h1.1, h2.1], fun x hx => ?_⟩
  rcases (List.mem_append.mp hx) with (h | h)
  · exact h1.2 x h
  · exact h2.2 x h
theorem reach_len {p : Int} {m1 m2 : Mach} : ∀ t, (reachL p m1 m2 t).length = t * m1.left
  | 0 => by simp [reachL]
  | t + 1 => by rw [reachL, List.length_append, reach_len t, List.length_map, List.length_range, Nat.add_mul, Nat.one_mul]
theorem reach_Rws {p : Int} {m1 m2 : Mach} (p0 : 0 < p) (MO1 : MachOk p m1) (MO2 : MachOk p m2) : ∀ t, Rws p (m1.states + m2.states) (reachL p m1 m2 t)
  | 0 => fun r hr => (nomatch hr)
  | t + 1 => fun r hr => by
    rcases (List.mem_append.mp hr) with (h | h)
    · exact reach_Rws p0 MO1 MO2 t r h
    · obtain ⟨w, _, rfl⟩ := List.mem_map.mp h
      exact pair_Rw p0 MO1 MO2 w (t + 1)
noncomputable def KP (K : W.Frag) (H : Hp) (p : Int) (m1 m2 : Mach) (KS : List V) (τ : Nat → Nat) : Prop := KS.length = m1.left ∧ ∀ w, w < m1.left → ∃ t a b, KS[w]? = some (.ref t) ∧ SqT K H t [.ref a, .ref b] ∧ SqT K H a ((stM p m1 w (τ w)).map V.int) ∧ SqT K H b ((stM p m2 w (τ w)).map V.int)
theorem KP.mono {K : W.Frag} {H H' : Hp} {p : Int} {m1 m2 : Mach} {KS : List V} {τ : Nat → Nat} (h : KP K H p m1 m2 KS τ) (e : Same H H') : KP K H' p m1 m2 KS τ := ⟨h.1, fun w hw => by
  obtain ⟨t, a, b, h1, h2, h3, h4⟩ := h.2 w hw
  exact ⟨t, a, b, h1, e.seqT h2, e.seqT h3, e.seqT h4⟩⟩
theorem KP.wr {K : W.Frag} {H : Hp} {p : Int} {m1 m2 : Mach} {KS : List V} {τ : Nat → Nat} {l : Addr} {xs : List V} {o : HO} (h : KP K H p m1 m2 KS τ) (hl : H l = some (.lst xs)) : KP K (upd H l o) p m1 m2 KS τ := ⟨h.1, fun w hw => by
  obtain ⟨t, a, b, h1, h2, h3, h4⟩ := h.2 w hw
  exact ⟨t, a, b, h1, SqT.wr h2 hl, SqT.wr h3 hl, SqT.wr h4 hl⟩⟩
theorem KP.of {K : W.Frag} {H : Hp} {p : Int} {m1 m2 : Mach} {KS : List V} {τ τ' : Nat → Nat} (h : KP K H p m1 m2 KS τ) (e : ∀ w, w < m1.left → τ w = τ' w) : KP K H p m1 m2 KS τ' := ⟨h.1, fun w hw => by
  obtain ⟨t, a, b, h1, h2, h3, h4⟩ := h.2 w hw
  rw [e w hw] at h3 h4
  exact ⟨t, a, b, h1, h2, h3, h4⟩⟩
theorem KP.set {K : W.Frag} {H : Hp} {p : Int} {m1 m2 : Mach} {KS : List V} {τ : Nat → Nat} {w0 n : Nat} {t a b : Addr} (h : KP K H p m1 m2 KS τ) (hw0 : w0 < m1.left) (h2 : SqT K H t [.ref a, .ref b]) (h3 : SqT K H a ((stM p m1 w0 n).map V.int)) (h4 : SqT K H b ((stM p m2 w0 n).map V.int)) :
    KP K H p m1 m2 (KS.set w0 (.ref t)) (fun w => if w = w0 then n else τ w) := ⟨by rw [List.length_set]; exact h.1, fun w hw => by
  dsimp only
  by_cases e : w = w0
  · subst e
    rw [if_pos rfl]
    exact ⟨t, a, b, by rw [List.getElem?_set_self (by rw [h.1]; exact hw)], h2, h3, h4⟩
  · rw [if_neg e]
    obtain ⟨t', a', b', h1', h2', h3', h4'⟩ := h.2 w hw
    exact ⟨t', a', b', by rw [List.getElem?_set_ne (Ne.symm e)]; exact h1', h2', h3', h4'⟩⟩
theorem HasA.rep {K : W.Frag} {H : Hp} {v : V} {d : W.Dat} (h : HasD K H v d) : ∀ n, HasA K H (List.replicate n v) (List.replicate n d)
  | 0 => .nil
  | n + 1 => .cons h (HasA.rep h n)
theorem flat_one {v : V} : ∀ n, (List.replicate n [v]).flatten = List.replicate n v
  | 0 => rfl
  | n + 1 => by rw [List.replicate_succ, List.flatten_cons, flat_one n]; rfl
inductive AskEver (K : W.Frag) (vs : List V) (H : Hp) (Q : L2.VK) (E : L2.XK) : Prop where
  | mk (p : Int) (a1 a2 : Addr) (m1 m2 : Mach) (q0_ : vs = [.int p, .ref a1, .ref a2]) (q1_ : p ∈ primesL) (q2_ : MH K H a1 m1) (q3_ : MH K H a2 m2) (q4_ : MachOk p m1) (q5_ : MachOk p m2) (q6_ : m1.left = m2.left) (q7_ : m1.right = m2.right) (q8_ : m1.left ≤ 12) (q9_ : m1.right ≤ 12) (q10_ : m1.states ≤ 13) (q11_ : m2.states ≤ 13) (q12_ : (∀ v t DS H', EqUp p m1 m2 (m1.states + m2.states + 1) 0 → Same H H' → SqT K H' v [.str "same", .ref t] → SqT K H' t DS → HasA K H' DS ((redM p (reachL p m1 m2 (m1.states + m2.states + 1))).map intsT) → Q (.ref v) H')) (q13_ : (∀ v la LS t w' H', t ≤ m1.states + m2.states → w' < m1.left → EqUp p m1 m2 t w' → ansM p m1 w' t ≠ ansM p m2 w' t → Same H H' → SqT K H' v [.str "parted", .ref la] → H' la = some (.lst LS) → HasA K H' LS ((unitM m1.left w' :: List.replicate t (List.replicate m1.left 0)).map intsT) → Q (.ref v) H')) : AskEver K vs H Q E
noncomputable def spEver (K : W.Frag) : Sp := fun vs H Q E => AskEver K vs H Q E
end S7
namespace S7
open Bw
theorem Sp.map {p : Int} {T : Fn → Fn} (h0 : eqm p (fun _ => 0) (T fun _ => 0)) (ha : ∀ (u v : Fn) (c : Int), eqm p (fun j => T u j + c * T v j) (T fun i => u i + c * v i)) (hc : ∀ u v : Fn, eqm p u v → eqm p (T u) (T v)) {R R' : Fn → Prop} (hR : ∀ r, R r → Sp p R' (T r)) {v : Fn} (hv : Sp p R v) : Sp p R' (T v) := by
  induction hv with
  | zero => exact .cong .zero h0
  | add c _ hr ih => exact .cong (ih.plus c (hR _ hr)) (ha _ _ c)
  | cong _ e ih => exact .cong ih (hc _ _ e)
noncomputable def apM (p : Int) (A : List (List Int)) (z : List Int) : List Int := A.map fun r => pdot r z % p
theorem ap_Rw {p : Int} {A : List (List Int)} (p0 : 0 < p) (z : List Int) : Rw p A.length (apM p A z) := ⟨by simp [apM], fun x hx => by
  obtain ⟨r, _, rfl⟩ := List.mem_map.mp hx
  exact ⟨Int.emod_nonneg _ (by lia), Int.emod_lt_of_pos _ p0⟩⟩
noncomputable def apT (A : List (List Int)) (n : Nat) : Fn → Fn := fun v j => match A[j]? with
  | some r => dot (fn r) v n
  | none => 0
theorem ap_T {p : Int} {n : Nat} {A : List (List Int)} {z : List Int} (hA : ∀ r ∈ A, r.length = n) (hz : z.length = n) : eqm p (apT A n (fn z)) (fn (apM p A z)) := fun j => by
  unfold apT
  show p ∣ _ - (apM p A z).getD j 0
  unfold apM
  rw [List.getD_eq_getElem?_getD, List.getElem?_map]
  cases h : A[j]? with
  | none => exact ⟨0, by simp⟩
  | some r =>
    show p ∣ dot (fn r) (fn z) n - pdot r z % p
    rw [pdot_eq (hA r (List.mem_of_getElem? h)) hz]
    have := Int.dvd_neg.mpr (dvd_mod p (dot (fn r) (fn z) n))
    rwa [Int.neg_sub] at this
theorem apT_sp {p : Int} {n : Nat} {A : List (List Int)} {R R' : Fn → Prop} (hR : ∀ r, R r → Sp p R' (apT A n r)) {v : Fn} (hv : Sp p R v) : Sp p R' (apT A n v) := by
  refine Sp.map (T := apT A n) (fun j => ?_) (fun u v c j => ?_) (fun u v e j => ?_) hR hv
  · unfold apT
    split
    · refine ⟨0, ?_⟩
      rw [show dot (fn _) (fun _ => 0) n = 0 from Sg_zero fun i _ => by simp]; simp
    · exact ⟨0, by simp⟩
  · unfold apT
    dsimp only
    cases A[j]? with
    | some r =>
      dsimp only
      rw [dot_plus]; exact ⟨0, by lia⟩
    | none => exact ⟨0, by simp⟩
  · unfold apT
    split
    · exact dot_cong e
    · exact ⟨0, by simp⟩
theorem ap_sp {p : Int} {n : Nat} {A L : List (List Int)} {y : List Int} (hA : ∀ r ∈ A, r.length = n) (hL : ∀ r ∈ L, r.length = n) (hy : y.length = n) (h : Sp p (RS L) (fn y)) : Sp p (RS (L.map (apM p A))) (fn (apM p A y)) := by
  refine .cong (apT_sp (R' := RS (L.map (apM p A))) (fun f hf => ?_) h) (ap_T hA hy)
  obtain ⟨r, hr, rfl⟩ := hf
  exact .cong (.mem ⟨apM p A r, List.mem_map_of_mem hr, rfl⟩) (ap_T hA (hL r hr)).symm
theorem red_mono {p : Int} {n : Nat} {L L' : List (List Int)} (hp : p ∈ primesL) (hL : Rws p n L) (hL' : Rws p n L') (h : ∀ r ∈ L, Sp p (RS L') (fn r)) : (redM p L).length ≤ (redM p L').length := by
  have R := redM_ok hp hL
  have R' := redM_ok hp hL'
  obtain ⟨ls, E⟩ := R.ech
  have := tri_le hp ((redM p L').map fn) _ (E.tri hp) fun x hx => by
    obtain ⟨q, hq, e⟩ := List.mem_map.mp (List.of_mem_zip hx).1
    rw [← e]
    exact RS_mem.mp (sp_all R'.sup (sp_all h (R.sub q hq)))
  have e : ((redM p L).map fn |>.zip ls).length = (redM p L).length := by simp [E.len]
  rw [e] at this
  simpa using this
theorem red_len {p : Int} {n : Nat} {L : List (List Int)} (hp : p ∈ primesL) (hL : Rws p n L) : (redM p L).length ≤ n := by
  obtain ⟨ls, E⟩ := (redM_ok hp hL).ech
  have := free_len E.up E.lt
  have := E.len
  lia
noncomputable def joinA (m1 m2 : Mach) : List (List Int) := (m1.rows.drop m1.right).map (fun r => r.drop m1.left ++ List.replicate m2.states 0) ++ (m2.rows.drop m2.right).map fun r => List.replicate m1.states 0 ++ r.drop m2.left
theorem pdot_cons (a b : Int) (x y : List Int) : pdot (a :: x) (b :: y) = a * b + pdot x y := by simp [pdot]
theorem pdot_nil (x : List Int) : pdot x [] = 0 := by cases x <;> simp [pdot]
theorem pdot_append : ∀ {x y u v : List Int}, x.length = u.length → pdot (x ++ y) (u ++ v) = pdot x u + pdot y v
  | [], y, [], v, _ => by simp [pdot]
  | a :: x, y, b :: u, v, h => by
    rw [List.cons_append, List.cons_append, pdot_cons, pdot_cons, pdot_append (by simpa using h)]
    lia
theorem pdot_zero_r : ∀ (x : List Int) (n : Nat), pdot x (List.replicate n 0) = 0
  | [], n => by cases n <;> simp [pdot, List.replicate_succ]
  | a :: x, 0 => by simp [pdot]
  | a :: x, n + 1 => by rw [List.replicate_succ, pdot_cons, pdot_zero_r x n]; simp
theorem pdot_zero_l : ∀ (n : Nat) (y : List Int), pdot (List.replicate n 0) y = 0
  | 0, y => by simp [pdot]
  | n + 1, [] => pdot_nil _
  | n + 1, b :: y => by rw [List.replicate_succ, pdot_cons, pdot_zero_l n y]; simp
theorem quiet {p : Int} {m : Mach} (MO : MachOk p m) {y : List Int} (r : List Int) (hr : r ∈ m.rows) : pdot r (List.replicate m.left 0 ++ y) = pdot (r.drop m.left) y := by
  have hl := (MO.rws r hr).1
  have e : r = r.take m.left ++ r.drop m.left := (List.take_append_drop _ _).symm
  rw (occs := .pos [1]) [e]
  rw [pdot_append (by rw [List.length_take, List.length_replicate]; lia), pdot_zero_r]
  lia
theorem joinA_rows {p : Int} {m1 m2 : Mach} (MO1 : MachOk p m1) (MO2 : MachOk p m2) : ∀ r ∈ joinA m1 m2, r.length = m1.states + m2.states := fun r hr => by
  rcases (List.mem_append.mp hr) with (h | h)
  · obtain ⟨q, hq, rfl⟩ := List.mem_map.mp h
    have := (MO1.rws q (List.mem_of_mem_drop hq)).1
    simp [this]
  · obtain ⟨q, hq, rfl⟩ := List.mem_map.mp h
    have := (MO2.rws q (List.mem_of_mem_drop hq)).1
    simp [this]
theorem pair_next {p : Int} {m1 m2 : Mach} (MO1 : MachOk p m1) (MO2 : MachOk p m2) (p0 : 0 < p) (w t : Nat) : pairM p m1 m2 w (t + 2) = apM p (joinA m1 m2) (pairM p m1 m2 w (t + 1)) := by
  have S1 := st_Rw p0 MO1 w (t + 1)
  have S2 := st_Rw p0 MO2 w (t + 1)
  have e1 : askW m1.left w (t + 1) = List.replicate m1.left 0 := by unfold askW; rw [if_neg (by lia)]
  have e2 : askW m2.left w (t + 1) = List.replicate m2.left 0 := by unfold askW; rw [if_neg (by lia)]
  have f1 : stM p m1 w (t + 2) = (outM p m1 (askW m1.left w (t + 1) ++ stM p m1 w (t + 1))).drop m1.right := rfl
  have f2 : stM p m2 w (t + 2) = (outM p m2 (askW m2.left w (t + 1) ++ stM p m2 w (t + 1))).drop m2.right := rfl
  unfold pairM
  rw [f1, f2, e1, e2]
  unfold apM joinA outM
  rw [List.map_append, List.map_map, List.map_map, ← List.map_drop, ← List.map_drop]
  congr 1
  · refine List.map_congr_left fun r hr => ?_
    show pdot r _ % p = pdot (r.drop m1.left ++ List.replicate m2.states 0) _ % p
    have hrm := List.mem_of_mem_drop hr
    rw [quiet MO1 r hrm, pdot_append (by rw [List.length_drop, (MO1.rws r hrm).1, S1.1]; lia), pdot_zero_l, Int.add_zero]
  · refine List.map_congr_left fun r hr => ?_
    show pdot r _ % p = pdot (List.replicate m1.states 0 ++ r.drop m2.left) _ % p
    have hrm := List.mem_of_mem_drop hr
    rw [quiet MO2 r hrm, pdot_append (by rw [List.length_replicate, S1.1]), pdot_zero_l, Int.zero_add]
noncomputable def diffA (m1 m2 : Mach) : List (List Int) := List.zipWith (fun r q => r.drop m1.left ++ (q.drop m2.left).map fun x => -x) (m1.rows.take m1.right) (m2.rows.take m2.right)
theorem pdot_neg : ∀ (x y : List Int), pdot (x.map fun a => -a) y = -pdot x y
  | [], y => by simp [pdot]
  | a :: x, [] => by simp [pdot]
  | a :: x, b :: y => by rw [List.map_cons, pdot_cons, pdot_cons, pdot_neg x y, Int.neg_mul]; lia
theorem ans_alike {p : Int} {m1 m2 : Mach} (MO1 : MachOk p m1) (MO2 : MachOk p m2) (p0 : 0 < p) (er : m1.right = m2.right) (w t : Nat) : ansM p m1 w (t + 1) = ansM p m2 w (t + 1) ↔ ∀ r ∈ diffA m1 m2, p ∣ dot (fn r) (fn (pairM p m1 m2 w (t + 1))) (m1.states + m2.states) := by
  have S1 := st_Rw p0 MO1 w (t + 1)
  have S2 := st_Rw p0 MO2 w (t + 1)
  have L1 := MO1.len
  have L2 := MO2.len
  have e1 : askW m1.left w (t + 1) = List.replicate m1.left 0 := by unfold askW; rw [if_neg (by lia)]
  have e2 : askW m2.left w (t + 1) = List.replicate m2.left 0 := by unfold askW; rw [if_neg (by lia)]
  have key : ∀ (i : Nat) (r q : List Int), (m1.rows.take m1.right)[i]? = some r → (m2.rows.take m2.right)[i]? = some q → (pdot r (List.replicate m1.left 0 ++ stM p m1 w (t + 1)) % p = pdot q (List.replicate m2.left 0 ++ stM p m2 w (t + 1)) % p ↔ p ∣ dot (fn (r.drop m1.left ++ (q.drop m2.left).map fun x => -x)) (fn (pairM p m1 m2 w (t + 1))) (m1.states + m2.states)) := fun i r q hr hq => by
    have hrm := List.mem_of_mem_take (List.mem_of_getElem? hr)
    have hqm := List.mem_of_mem_take (List.mem_of_getElem? hq)
    have hrl := (MO1.rws r hrm).1
    have hql := (MO2.rws q hqm).1
    rw [quiet MO1 r hrm, quiet MO2 q hqm, ← pdot_eq (by simp [hrl, hql]) (pair_Rw p0 MO1 MO2 w (t + 1)).1]
    unfold pairM
    rw [pdot_append (by rw [List.length_drop, hrl, S1.1]; lia), pdot_neg]
    constructor
    · intro h
      have := Int.emod_emod_of_dvd (pdot (r.drop m1.left) (stM p m1 w (t + 1))) (Int.dvd_refl p)
      have h1 := dvd_mod p (pdot (r.drop m1.left) (stM p m1 w (t + 1)))
      have h2 := dvd_mod p (pdot (q.drop m2.left) (stM p m2 w (t + 1)))
      rw [h] at h1
      have := Int.dvd_sub h2 h1
      rwa [show ∀ a b c : Int, a - b - (a - c) = c + -b from fun a b c => by lia] at this
    · intro h
      exact Int.emod_eq_emod_iff_emod_sub_eq_zero.mpr (Int.emod_eq_zero_of_dvd (by rwa [Int.sub_eq_add_neg]))
  unfold ansM
  rw [e1, e2]
  unfold outM
  rw [← List.map_take, ← List.map_take]
  constructor
  · intro h r hr
    unfold diffA at hr
    obtain ⟨i, hi, rfl⟩ := List.mem_iff_getElem.mp hr
    rw [List.length_zipWith] at hi
    have i1 : i < (m1.rows.take m1.right).length := by lia
    have i2 : i < (m2.rows.take m2.right).length := by lia
    have := congrArg (fun l => l[i]?) h
    simp only [List.getElem?_map, List.getElem?_eq_getElem i1, List.getElem?_eq_getElem i2, Option.map_some] at this
    rw [List.getElem_zipWith]
    exact (key i _ _ (List.getElem?_eq_getElem i1) (List.getElem?_eq_getElem i2)).mp (Option.some.inj this)
  · intro h
    apply List.ext_getElem
    · simp; lia
    · intro i h1 h2
      rw [List.length_map] at h1 h2
      rw [List.getElem_map, List.getElem_map]
      refine (key i _ _ (List.getElem?_eq_getElem h1) (List.getElem?_eq_getElem h2)).mpr (h _ ?_)
      unfold diffA
      exact List.mem_of_getElem? (i := i) (by rw [List.getElem?_zipWith, List.getElem?_eq_getElem h1, List.getElem?_eq_getElem h2])
noncomputable def levelM (p : Int) (m1 m2 : Mach) (t : Nat) : List (List Int) := (List.range m1.left).map fun w => pairM p m1 m2 w t
theorem reach_succ (p : Int) (m1 m2 : Mach) (t : Nat) : reachL p m1 m2 (t + 1) = reachL p m1 m2 t ++ levelM p m1 m2 (t + 1) := rfl
theorem reach_mem {p : Int} {m1 m2 : Mach} : ∀ {t : Nat} {r : List Int}, r ∈ reachL p m1 m2 t ↔ ∃ t' w, t' < t ∧ w < m1.left ∧ r = pairM p m1 m2 w (t' + 1)
  | 0, r => ⟨fun h => (nomatch h), fun ⟨_, _, h, _⟩ => by lia⟩
  | t + 1, r => by
    rw [reach_succ, List.mem_append, reach_mem]
    constructor
    · rintro (⟨t', w, h1, h2, h3⟩ | h)
      · exact ⟨t', w, by lia, h2, h3⟩
      · obtain ⟨w, hw, rfl⟩ := List.mem_map.mp h
        exact ⟨t, w, by lia, List.mem_range.mp hw, rfl⟩
    · rintro ⟨t', w, h1, h2, h3⟩
      by_cases e : t' = t
      · subst e
        exact .inr (List.mem_map.mpr ⟨w, List.mem_range.mpr h2, h3.symm⟩)
      · exact .inl ⟨t', w, by lia, h2, h3⟩
theorem rest_all {p : Int} {m1 m2 : Mach} (MO1 : MachOk p m1) (MO2 : MachOk p m2) (p0 : 0 < p) {t : Nat} (h : ∀ w, w < m1.left → Sp p (RS (reachL p m1 m2 t)) (fn (pairM p m1 m2 w (t + 1)))) : ∀ (t' w : Nat), w < m1.left → Sp p (RS (reachL p m1 m2 t)) (fn (pairM p m1 m2 w (t' + 1)))
  | 0, w, hw => by
    cases t with
    | zero => exact h w hw
    | succ t => exact sp_in (reach_mem.mpr ⟨0, w, by lia, hw, rfl⟩)
  | t' + 1, w, hw => by
    have ih := rest_all MO1 MO2 p0 h t' w hw
    rw [pair_next MO1 MO2 p0]
    have hl : ∀ r ∈ reachL p m1 m2 t, r.length = m1.states + m2.states := fun r hr => (reach_Rws p0 MO1 MO2 t r hr).1
    refine sp_all (fun r hr => ?_) (ap_sp (joinA_rows MO1 MO2) hl (pair_Rw p0 MO1 MO2 w (t' + 1)).1 ih)
    obtain ⟨q, hq, rfl⟩ := List.mem_map.mp hr
    obtain ⟨t2, w2, h1, h2, rfl⟩ := reach_mem.mp hq
    rw [← pair_next MO1 MO2 p0]
    by_cases e : t2 + 1 = t
    · subst e; exact h w2 h2
    · exact sp_in (reach_mem.mpr ⟨t2 + 1, w2, by lia, h2, rfl⟩)
theorem rest_soon {p : Int} {m1 m2 : Mach} (hp : p ∈ primesL) (MO1 : MachOk p m1) (MO2 : MachOk p m2) : ∃ t, t ≤ m1.states + m2.states ∧ ∀ w, w < m1.left → Sp p (RS (reachL p m1 m2 t)) (fn (pairM p m1 m2 w (t + 1))) := by
  have p0 : 0 < p := by have := prime_pos p hp; lia
  apply Classical.byContradiction
  intro hn
  have hR := reach_Rws p0 MO1 MO2
  have grow : ∀ t, t ≤ m1.states + m2.states + 1 → t ≤ (redM p (reachL p m1 m2 t)).length := by
    intro t
    induction t with
    | zero => intro _; exact Nat.zero_le _
    | succ t ih =>
      intro ht
      have ih' := ih (by lia)
      have ⟨w, hw, hnot⟩ : ∃ w, w < m1.left ∧ ¬ Sp p (RS (reachL p m1 m2 t)) (fn (pairM p m1 m2 w (t + 1))) := by
        apply Classical.byContradiction
        intro z
        exact hn ⟨t, by lia, fun w hw => Classical.byContradiction fun z' => z ⟨w, hw, z'⟩⟩
      have m := red_more hp (hR t) (pair_Rw p0 MO1 MO2 w (t + 1)) hnot
      have hsub : ∀ r ∈ reachL p m1 m2 t ++ [pairM p m1 m2 w (t + 1)], Sp p (RS (reachL p m1 m2 (t + 1))) (fn r) := fun r hr => by
        refine sp_in ?_
        rcases (List.mem_append.mp hr) with (h | h)
        · rw [reach_succ]; exact List.mem_append_left _ h
        · rw [List.mem_singleton.mp h]; exact reach_mem.mpr ⟨t, w, by lia, hw, rfl⟩
      have hRs : Rws p (m1.states + m2.states) (reachL p m1 m2 t ++ [pairM p m1 m2 w (t + 1)]) := fun r hr => by
        rcases (List.mem_append.mp hr) with (h | h)
        · exact hR t r h
        · rw [List.mem_singleton.mp h]; exact pair_Rw p0 MO1 MO2 w (t + 1)
      have := red_mono hp hRs (hR (t + 1)) hsub
      lia
  have g := grow (m1.states + m2.states + 1) (Nat.le_refl _)
  have := red_len hp (hR (m1.states + m2.states + 1))
  lia
theorem reach_all {p : Int} {m1 m2 : Mach} (hp : p ∈ primesL) (MO1 : MachOk p m1) (MO2 : MachOk p m2) (t w : Nat) (hw : w < m1.left) : Sp p (RS (reachL p m1 m2 (m1.states + m2.states))) (fn (pairM p m1 m2 w (t + 1))) := by
  have p0 : 0 < p := by have := prime_pos p hp; lia
  obtain ⟨t0, h0, h1⟩ := rest_soon hp MO1 MO2
  refine sp_all (fun r hr => ?_) (rest_all MO1 MO2 p0 h1 t w hw)
  obtain ⟨t2, w2, h2, h3, rfl⟩ := reach_mem.mp hr
  exact sp_in (reach_mem.mpr ⟨t2, w2, by lia, h3, rfl⟩)
theorem alike_ever {p : Int} {m1 m2 : Mach} (hp : p ∈ primesL) (MO1 : MachOk p m1) (MO2 : MachOk p m2) (er : m1.right = m2.right) (h : EqUp p m1 m2 (m1.states + m2.states + 1) 0) (t w : Nat) (hw : w < m1.left) : ansM p m1 w t = ansM p m2 w t := by
  have p0 : 0 < p := by have := prime_pos p hp; lia
  cases t with
  | zero => exact h 0 w (.inl ⟨by lia, hw⟩)
  | succ t =>
    refine (ans_alike MO1 MO2 p0 er w t).mpr fun r hr => ?_
    refine dot_sp (R := RS (reachL p m1 m2 (m1.states + m2.states))) (fun g hg => ?_) (reach_all hp MO1 MO2 t w hw)
    obtain ⟨q, hq, rfl⟩ := hg
    obtain ⟨t2, w2, h2, h3, rfl⟩ := reach_mem.mp hq
    exact (ans_alike MO1 MO2 p0 er w2 t2).mp (h (t2 + 1) w2 (.inl ⟨by lia, h3⟩)) r hr
end S7
namespace HT
open PySem PySem.Spec PyProof.Rows
variable {prog : Program} {w : World} {A : Around} {E : Value → Shared → Prop} {s : Shared}
theorem getItem_tuple_whole {t sl : Addr} {items : Array Value} {vl vu : Value} {lo hi : Option Int} {Q : Value → Shared → Prop} (ht : IsTup s.heap t items) (hs : s.heap.IsSliceOf sl vl vu .none) (pl : IsPart vl lo) (pu : IsPart vu hi)
    (h0 : sIx items.size 0 lo = 0) (h1 : sIx items.size items.size hi = items.size) (h : Q (.ref t) s) : wpAny (model prog w) A (getItem (.ref t) (.ref sl)) Q E s := by
  obtain ⟨os, hos, hcs, hds⟩ := id hs
  have hTs : s.TypeIs (.ref sl) "slice" := ⟨os, hos, hcs⟩
  unfold getItem
  try with_reducible refine wpAny_holding ?_
  first | refine wpAny_bind (wpAny_pure ?_) | skip
  refine wpAny_bind (wpAny_sequenceKey ht.typeIs (by decide) ?_)
  refine wpAny_bind (wpAny_callSpecial?_slot (name := Str.ofString "__getitem__") ht.typeIs PyProof.Rows.slot_tuple_getitem (wpAny_call_entry PyProof.Rows.slot_tuple_getitem ht.typeIs entry_tuple_getitem ?_ (args_tuple_getitem _ _)))
  show wpAny _ _ (Builtin.Tuple.tupleItemsOf (.ref t) >>= _) _ _ s
  refine wpAny_bind (tupleItemsOf_ ht ?_)
  refine wpAny_bind (wpAny_typeOf hTs ?_)
  rw [if_pos (by decide)]
  refine wpAny_bind (sliceApplied_gen hs pl pu ?_)
  have hyes : (((sIx items.size 0 lo : Nat) : Int) == 0 && (1 : Int) == 1 && (sIx items.size items.size hi - sIx items.size 0 lo) == items.size) = true := by
    rw [h0, h1]; simp
  show wpAny _ _ (if (((sIx items.size 0 lo : Nat) : Int) == 0 && (1 : Int) == 1 && (sIx items.size items.size hi - sIx items.size 0 lo) == items.size) = true then _ else _) _ _ s
  rw [if_pos hyes]
  unfold Builtin.Tuple.tupleIsExact
  refine wpAny_bind (wpAny_bind (wpAny_typeOf ht.typeIs (wpAny_pure ?_)))
  rw [if_pos (by decide)]
  first
    | exact wpAny_bind (wpAny_pure (wpAny_pure ⟨_, rfl, wpAny_pure h⟩))
    | exact wpAny_bind (m := rule _) (wpAny_pure ⟨_, rfl, wpAny_pure h⟩)
    | exact wpAny_pure ⟨_, rfl, wpAny_pure h⟩
    | exact wpAny_bind (wpAny_rule (wpAny_pure ⟨_, rfl, wpAny_pure h⟩))
    | exact wpAny_bind (wpAny_rule (wpAny_bind (wpAny_pure (wpAny_pure ⟨_, rfl, wpAny_pure h⟩))))
end HT
namespace L2
open PySem PySem.Spec PyProof.Rows
inductive Ask_rSlA (K : W.Frag) (x : V) (lo : Option Int) (hi : Option Int) (H : Hp) (Q : VK) : Prop where
  | mk (a xs : _) (q0_ : x = .ref a) (q1_ : SqT K H a xs) (q2_ : AnyT K H (cutV xs lo hi) Q) : Ask_rSlA K x lo hi H Q
noncomputable def rSlA (K : W.Frag) : V → Option Int → Option Int → Hp → VK → Prop := fun x lo hi H Q => Ask_rSlA K x lo hi H Q
theorem sl_tupA {X : Cx} : SlR X (rSlA X.K) := by
  intro pins s σ H x v vl vu lo hi sl Q I rx hs pl pu h
  obtain ⟨a, xs, rfl, hx, q⟩ := h
  by_cases hw : HT.sIx xs.length 0 lo = 0 ∧ HT.sIx xs.length xs.length hi = xs.length
  · cases rx
    obtain ⟨its, r, ht, hz⟩ := I.tuple hx
    have hlen : its.toArray.size = xs.length := by rw [List.size_toArray]; exact r.length.symm
    refine ⟨"tuple", _, PyProof.Rows.slot_tuple_getitem.lookup, ht.typeIs, ?_⟩
    refine HT.getItem_tuple_whole ht hs pl pu (by rw [hlen]; exact hw.1) (by rw [hlen]; exact hw.2) ?_
    refine ⟨.ref a, H, I, rfl, q.old ?_⟩
    unfold cutV
    rw [hw.1, hw.2, List.drop_zero, Nat.sub_zero, List.take_length]
    exact hx
  · exact sl_tup pins s σ H _ v vl vu lo hi sl Q I rx hs pl pu ⟨a, xs, rfl, hx, hw, fun p hp => q.new hp⟩
theorem slA {X : Cx} (K : W.Frag) (hK : X.K = K) : SlR X (rSlA K) := hK ▸ sl_tupA
end L2
namespace S7
open PySem L2 Bw
end S7
namespace S7
open Bw
section
variable {p : Int} {m1 m2 : Mach}
theorem fn_append {x y : List Int} {n : Nat} (hx : x.length = n) (j : Nat) : fn (x ++ y) j = if j < n then fn x j else fn y (j - n) := by
  show (x ++ y).getD j 0 = _
  rw [List.getD_eq_getElem?_getD (a := 0)]
  by_cases h : j < n
  · rw [if_pos h, List.getElem?_append_left (by lia)]
    show _ = x.getD j 0
    rw [List.getD_eq_getElem?_getD (a := 0)]
  · rw [if_neg h, List.getElem?_append_right (by lia), hx]
    show _ = y.getD (j - n) 0
    rw [List.getD_eq_getElem?_getD (a := 0)]
theorem fn_rep (n j : Nat) : fn (List.replicate n (0 : Int)) j = 0 := rep_at n j
theorem unit_at {n k : Nat} (h : k < n) (j : Nat) : fn (unitM n k) j = if j = k then 1 else 0 := by
  unfold unitM
  rw [fn_append (n := k + 1) (by simp)]
  by_cases h1 : j < k + 1
  · rw [if_pos h1, fn_append (n := k) (by simp)]
    by_cases h2 : j < k
    · rw [if_pos h2, fn_rep, if_neg (by lia)]
    · have : j = k := by lia
      subst this
      rw [if_neg (by lia), if_pos rfl, Nat.sub_self]; rfl
  · rw [if_neg h1, fn_rep, if_neg (by lia)]
end
section
variable {p : Int} {m1 m2 : Mach}
end
noncomputable def levK (p : Int) (A L0 : List (List Int)) : Nat → List (List Int)
  | 0 => L0
  | t + 1 => (levK p A L0 t).map (apM p A)
noncomputable def kry (p : Int) (A L0 : List (List Int)) : Nat → List (List Int)
  | 0 => []
  | t + 1 => kry p A L0 t ++ levK p A L0 t
section
variable {p : Int} {n : Nat} {A L0 : List (List Int)}
theorem kry_mem : ∀ {t : Nat} {r : List Int}, r ∈ kry p A L0 t ↔ ∃ t', t' < t ∧ r ∈ levK p A L0 t'
  | 0, r => ⟨fun h => (nomatch h), fun ⟨_, h, _⟩ => by lia⟩
  | t + 1, r => by
    rw [kry, List.mem_append, kry_mem]
    constructor
    · rintro (⟨t', h1, h2⟩ | h)
      · exact ⟨t', by lia, h2⟩
      · exact ⟨t, by lia, h⟩
    · rintro ⟨t', h1, h2⟩
      by_cases e : t' = t
      · subst e; exact .inr h2
      · exact .inl ⟨t', by lia, h2⟩
theorem lev_Rws (p0 : 0 < p) (hA : A.length = n) (hL : Rws p n L0) : ∀ t, Rws p n (levK p A L0 t)
  | 0 => hL
  | t + 1 => fun r hr => by
    obtain ⟨q, _, rfl⟩ := List.mem_map.mp hr
    rw [← hA]
    exact ap_Rw p0 q
theorem kry_Rws (p0 : 0 < p) (hA : A.length = n) (hL : Rws p n L0) (t : Nat) : Rws p n (kry p A L0 t) := fun r hr => by
  obtain ⟨t', _, h⟩ := kry_mem.mp hr
  exact lev_Rws p0 hA hL t' r h
theorem kry_rest (p0 : 0 < p) (hA : A.length = n) (hAr : ∀ r ∈ A, r.length = n) (hL : Rws p n L0) {t : Nat} (h : ∀ r ∈ levK p A L0 t, Sp p (RS (kry p A L0 t)) (fn r)) : ∀ (t' : Nat) (r : List Int), r ∈ levK p A L0 t' → Sp p (RS (kry p A L0 t)) (fn r)
  | 0, r, hr => by
    cases t with
    | zero => exact h r hr
    | succ t => exact sp_in (kry_mem.mpr ⟨0, by lia, hr⟩)
  | t' + 1, r, hr => by
    obtain ⟨q, hq, rfl⟩ := List.mem_map.mp hr
    have ih := kry_rest p0 hA hAr hL h t' q hq
    refine sp_all (fun s hs => ?_) (ap_sp hAr (fun s hs => (kry_Rws p0 hA hL t s hs).1) (lev_Rws p0 hA hL t' q hq).1 ih)
    obtain ⟨u, hu, rfl⟩ := List.mem_map.mp hs
    obtain ⟨t2, h1, h2⟩ := kry_mem.mp hu
    have hm : apM p A u ∈ levK p A L0 (t2 + 1) := List.mem_map_of_mem h2
    by_cases e : t2 + 1 = t
    · subst e; exact h _ hm
    · exact sp_in (kry_mem.mpr ⟨t2 + 1, by lia, hm⟩)
theorem kry_all (hp : p ∈ primesL) (hA : A.length = n) (hAr : ∀ r ∈ A, r.length = n) (hL : Rws p n L0) (t : Nat) (r : List Int) (hr : r ∈ levK p A L0 t) : Sp p (RS (kry p A L0 n)) (fn r) := by
  have p0 : 0 < p := by have := prime_pos p hp; lia
  have soon : ∃ t0, t0 ≤ n ∧ ∀ r ∈ levK p A L0 t0, Sp p (RS (kry p A L0 t0)) (fn r) := by
    apply Classical.byContradiction
    intro hn
    have grow : ∀ t, t ≤ n + 1 → t ≤ (redM p (kry p A L0 t)).length := by
      intro t
      induction t with
      | zero => intro _; exact Nat.zero_le _
      | succ t ih =>
        intro ht
        have ih' := ih (by lia)
        have ⟨q, hq, hnot⟩ : ∃ q, q ∈ levK p A L0 t ∧ ¬ Sp p (RS (kry p A L0 t)) (fn q) := by
          apply Classical.byContradiction
          intro z
          exact hn ⟨t, by lia, fun q hq => Classical.byContradiction fun z' => z ⟨q, hq, z'⟩⟩
        have hqR := lev_Rws p0 hA hL t q hq
        have m := red_more hp (kry_Rws p0 hA hL t) hqR hnot
        have := red_mono hp (L := kry p A L0 t ++ [q]) (L' := kry p A L0 (t + 1)) (fun s hs => by
          rcases (List.mem_append.mp hs) with (h | h)
          · exact kry_Rws p0 hA hL t s h
          · rw [List.mem_singleton.mp h]; exact hqR) (kry_Rws p0 hA hL (t + 1)) (fun s hs => sp_in (by
          rw [kry]
          rcases (List.mem_append.mp hs) with (h | h)
          · exact List.mem_append_left _ h
          · rw [List.mem_singleton.mp h]; exact List.mem_append_right _ hq))
        lia
    have g := grow (n + 1) (Nat.le_refl _)
    have := red_len hp (kry_Rws p0 hA hL (n + 1))
    lia
  obtain ⟨t0, h0, h1⟩ := soon
  refine sp_all (fun s hs => ?_) (kry_rest p0 hA hAr hL h1 t r hr)
  obtain ⟨t2, h2, h3⟩ := kry_mem.mp hs
  exact sp_in (kry_mem.mpr ⟨t2, by lia, h3⟩)
end
noncomputable def stA (m : Mach) : List (List Int) := (m.rows.drop m.right).map fun r => r.drop m.left
noncomputable def seeC (m : Mach) : List (List Int) := (m.rows.take m.right).map fun r => r.drop m.left
noncomputable def flipA (n : Nat) (A : List (List Int)) : List (List Int) := (List.range n).map fun j => A.map fun r => r.getD j 0
noncomputable def zans (p : Int) (m : Mach) : List Int → Nat → List Int
  | x, 0 => apM p (seeC m) x
  | x, i + 1 => zans p m (apM p (stA m) x) i
section
variable {p : Int} {m : Mach}
theorem stA_len (MO : MachOk p m) : (stA m).length = m.states := by
  have := MO.len
  simp [stA]; lia
theorem stA_rows (MO : MachOk p m) : ∀ r ∈ stA m, r.length = m.states := fun r hr => by
  obtain ⟨q, hq, rfl⟩ := List.mem_map.mp hr
  rw [List.length_drop, (MO.rws q (List.mem_of_mem_drop hq)).1]; lia
theorem seeC_Rws (MO : MachOk p m) : Rws p m.states (seeC m) := fun r hr => by
  obtain ⟨q, hq, rfl⟩ := List.mem_map.mp hr
  have := MO.rws q (List.mem_of_mem_take hq)
  exact ⟨by rw [List.length_drop, this.1]; lia, fun x hx => this.2 x (List.mem_of_mem_drop hx)⟩
theorem seeC_len (MO : MachOk p m) : (seeC m).length = m.right := by
  have := MO.len
  simp [seeC]; lia
theorem st_next (MO : MachOk p m) (w t : Nat) : stM p m w (t + 2) = apM p (stA m) (stM p m w (t + 1)) := by
  have e : askW m.left w (t + 1) = List.replicate m.left 0 := by unfold askW; rw [if_neg (by lia)]
  show (outM p m (askW m.left w (t + 1) ++ stM p m w (t + 1))).drop m.right = _
  rw [e]
  unfold outM apM stA
  rw [← List.map_drop, List.map_map]
  exact List.map_congr_left fun r hr => by
    show pdot r _ % p = pdot (r.drop m.left) _ % p
    rw [quiet MO r (List.mem_of_mem_drop hr)]
theorem ans_see (MO : MachOk p m) (w t : Nat) : ansM p m w (t + 1) = apM p (seeC m) (stM p m w (t + 1)) := by
  have e : askW m.left w (t + 1) = List.replicate m.left 0 := by unfold askW; rw [if_neg (by lia)]
  unfold ansM
  rw [e]
  unfold outM apM seeC
  rw [← List.map_take, List.map_map]
  exact List.map_congr_left fun r hr => by
    show pdot r _ % p = pdot (r.drop m.left) _ % p
    rw [quiet MO r (List.mem_of_mem_take hr)]
theorem zans_ans (MO : MachOk p m) (w : Nat) : ∀ (i t : Nat), zans p m (stM p m w (t + 1)) i = ansM p m w (t + 1 + i)
  | 0, t => (ans_see MO w t).symm
  | i + 1, t => by
    rw [zans, ← st_next MO, zans_ans MO w i (t + 1)]
    congr 1; lia
theorem Sg_swap (f : Nat → Nat → Int) (a : Nat) : ∀ b, Sg (fun i => Sg (fun j => f i j) a) b = Sg (fun j => Sg (fun i => f i j) b) a
  | 0 => by
    show 0 = Sg (fun j => Sg (fun i => f i j) 0) a
    exact (Sg_zero fun j _ => rfl).symm
  | b + 1 => by
    rw [Sg, Sg_swap f a b, ← Sg_add]
    exact Sg_congr fun j _ => rfl
theorem flip_dot {n : Nat} {A : List (List Int)} {v x : List Int} (hA : A.length = n) (hAr : ∀ r ∈ A, r.length = n) (hv : v.length = n) (hx : x.length = n) : p ∣ dot (fn (apM p (flipA n A) v)) (fn x) n - dot (fn v) (fn (apM p A x)) n := by
  have hFr : ∀ r ∈ flipA n A, r.length = n := fun r hr => by
    obtain ⟨j, _, rfl⟩ := List.mem_map.mp hr
    rw [List.length_map, hA]
  have e1 : p ∣ dot (apT (flipA n A) n (fn v)) (fn x) n - dot (fn (apM p (flipA n A) v)) (fn x) n := by
    have := dot_cong (f := fn x) (m := n) (ap_T (p := p) hFr hv)
    rw [dot_comm (fn x), dot_comm (fn x)] at this
    exact this
  have e2 : p ∣ dot (fn v) (apT A n (fn x)) n - dot (fn v) (fn (apM p A x)) n := dot_cong (ap_T (p := p) hAr hx)
  have e3 : dot (apT (flipA n A) n (fn v)) (fn x) n = dot (fn v) (apT A n (fn x)) n := by
    unfold dot
    have l : ∀ j, j < n → apT (flipA n A) n (fn v) j = Sg (fun k => fn (A.getD k []) j * fn v k) n := fun j hj => by
      unfold apT flipA
      rw [List.getElem?_map, List.getElem?_range hj]
      show Sg (fun k => (A.map fun r => r.getD j 0).getD k 0 * fn v k) n = _
      refine Sg_congr fun k hk => ?_
      congr 1
      have hkA : k < A.length := by lia
      rw [List.getD_eq_getElem?_getD, List.getElem?_map, List.getD_eq_getElem?_getD, List.getElem?_eq_getElem hkA]; rfl
    have r : ∀ k, k < n → apT A n (fn x) k = Sg (fun j => fn (A.getD k []) j * fn x j) n := fun k hk => by
      have hkA : k < A.length := by lia
      unfold apT
      rw [List.getElem?_eq_getElem hkA, List.getD_eq_getElem?_getD, List.getElem?_eq_getElem hkA]; rfl
    rw [Sg_congr (g := fun j => Sg (fun k => fn (A.getD k []) j * fn v k * fn x j) n) fun j hj => by
      rw [l j hj, Int.mul_comm, ← Sg_mul]
      exact Sg_congr fun k _ => by rw [Int.mul_comm]]
    rw [Sg_swap]
    refine Sg_congr fun k hk => ?_
    rw [r k hk, ← Sg_mul]
    exact Sg_congr fun j _ => by rw [Int.mul_comm (fn (A.getD k []) j), Int.mul_assoc]
  rw [e3] at e1
  have := Int.dvd_sub e2 e1
  rwa [show ∀ a b c : Int, a - b - (a - c) = c - b from fun a b c => by lia] at this
theorem flip_len {n : Nat} (A : List (List Int)) : (flipA n A).length = n := by simp [flipA]
theorem see_dot (MO : MachOk p m) (p0 : 0 < p) : ∀ (i : Nat) (x : List Int) (r : Nat) (o : List Int), x.length = m.states → (levK p (flipA m.states (stA m)) (seeC m) i)[r]? = some o → p ∣ dot (fn o) (fn x) m.states - fn (zans p m x i) r
  | 0, x, r, o, hx, ho => by
    have ho : (seeC m)[r]? = some o := ho
    have hol := (seeC_Rws MO o (List.mem_of_getElem? ho)).1
    show p ∣ _ - (apM p (seeC m) x).getD r 0
    unfold apM
    rw [List.getD_eq_getElem?_getD, List.getElem?_map, ho]
    show p ∣ dot (fn o) (fn x) m.states - pdot o x % p
    rw [pdot_eq hol hx]
    have := Int.dvd_neg.mpr (dvd_mod p (dot (fn o) (fn x) m.states))
    rwa [Int.neg_sub] at this
  | i + 1, x, r, o, hx, ho => by
    have ho' : ((levK p (flipA m.states (stA m)) (seeC m) i).map (apM p (flipA m.states (stA m))))[r]? = some o := ho
    rw [List.getElem?_map] at ho'
    cases hv : (levK p (flipA m.states (stA m)) (seeC m) i)[r]? with
    | none => rw [hv] at ho'; cases ho'
    | some v =>
      rw [hv] at ho'
      cases ho'
      have hvl := (lev_Rws p0 (flip_len (stA m)) (seeC_Rws MO) i v (List.mem_of_getElem? hv)).1
      have a := flip_dot (p := p) (stA_len MO) (stA_rows MO) hvl hx
      have b := see_dot MO p0 i (apM p (stA m) x) r v (by rw [(ap_Rw p0 x).1, stA_len MO]) hv
      have := Int.dvd_add a b
      rwa [show ∀ a b c : Int, a - b + (b - c) = a - c from fun a b c => by lia] at this
theorem see_len (MO : MachOk p m) (p0 : 0 < p) : ∀ i, (levK p (flipA m.states (stA m)) (seeC m) i).length = m.right
  | 0 => seeC_len MO
  | i + 1 => by rw [levK, List.length_map]; exact see_len MO p0 i
theorem unseen (hp : p ∈ primesL) (MO : MachOk p m) {z : Fn} (h : ∀ o ∈ kry p (flipA m.states (stA m)) (seeC m) m.states, p ∣ dot z (fn o) m.states) (i : Nat) (o : List Int) (ho : o ∈ levK p (flipA m.states (stA m)) (seeC m) i) : p ∣ dot z (fn o) m.states := by
  have hFr : ∀ r ∈ flipA m.states (stA m), r.length = m.states := fun r hr => by
    obtain ⟨j, _, rfl⟩ := List.mem_map.mp hr
    rw [List.length_map, stA_len MO]
  refine dot_sp (R := RS (kry p (flipA m.states (stA m)) (seeC m) m.states)) (fun g hg => ?_) (kry_all hp (flip_len _) hFr (seeC_Rws MO) i o ho)
  obtain ⟨q, hq, rfl⟩ := hg
  exact h q hq
end
section
variable {α : Type} {p : Int} {R : α → Fn}
open Classical in
noncomputable def takeG (p : Int) (R : α → Fn) : List α → List α → List α
  | d, [] => d
  | d, x :: xs => if Bw.Sp p (· ∈ d.map R) (R x) then takeG p R d xs else takeG p R (d ++ [x]) xs
theorem take_yes {d xs : List α} {x : α} (h : Bw.Sp p (· ∈ d.map R) (R x)) : takeG p R d (x :: xs) = takeG p R d xs := by
  rw [takeG, if_pos h]
theorem take_no {d xs : List α} {x : α} (h : ¬ Bw.Sp p (· ∈ d.map R) (R x)) : takeG p R d (x :: xs) = takeG p R (d ++ [x]) xs := by
  rw [takeG, if_neg h]
theorem take_app : ∀ (xs ys d : List α), takeG p R d (xs ++ ys) = takeG p R (takeG p R d xs) ys
  | [], ys, d => rfl
  | x :: xs, ys, d => by
    by_cases h : Bw.Sp p (· ∈ d.map R) (R x)
    · rw [List.cons_append, take_yes h, take_yes h, take_app]
    · rw [List.cons_append, take_no h, take_no h, take_app]
theorem take_pre : ∀ (xs d : List α), ∃ e, takeG p R d xs = d ++ e
  | [], d => ⟨[], by rw [takeG, List.append_nil]⟩
  | x :: xs, d => by
    by_cases h : Bw.Sp p (· ∈ d.map R) (R x)
    · rw [take_yes h]; exact take_pre xs d
    · rw [take_no h]
      obtain ⟨e, he⟩ := take_pre xs (d ++ [x])
      exact ⟨x :: e, by rw [he, List.append_assoc]; rfl⟩
theorem sp_sub {A B : List Fn} {v : Fn} (h : ∀ f ∈ A, f ∈ B) (hv : Bw.Sp p (· ∈ A) v) : Bw.Sp p (· ∈ B) v := hv.trans fun f hf => .mem (h f hf)
theorem take_all : ∀ (xs d : List α) (x : α), x ∈ xs → Bw.Sp p (· ∈ (takeG p R d xs).map R) (R x)
  | y :: xs, d, x, hx => by
    by_cases h : Bw.Sp p (· ∈ d.map R) (R y)
    · rw [take_yes h]
      rcases (List.mem_cons.mp hx) with (rfl | hx)
      · obtain ⟨e, he⟩ := take_pre (p := p) (R := R) xs d
        rw [he]
        exact sp_sub (fun f hf => by rw [List.map_append]; exact List.mem_append_left _ hf) h
      · exact take_all xs d x hx
    · rw [take_no h]
      rcases (List.mem_cons.mp hx) with (rfl | hx)
      · obtain ⟨e, he⟩ := take_pre (p := p) (R := R) xs (d ++ [x])
        rw [he]
        exact .mem (List.mem_map_of_mem (by simp))
      · exact take_all xs _ x hx
theorem take_rest : ∀ (ys d : List α), (∀ y ∈ ys, Bw.Sp p (· ∈ d.map R) (R y)) → takeG p R d ys = d
  | [], d, _ => rfl
  | y :: ys, d, h => by rw [take_yes (h y (List.mem_cons_self ..))]; exact take_rest ys d fun z hz => h z (List.mem_cons_of_mem _ hz)
theorem take_mem : ∀ (xs d : List α) {x : α}, x ∈ takeG p R d xs → x ∈ d ∨ x ∈ xs
  | [], d, x, h => .inl h
  | y :: xs, d, x, h => by
    by_cases hy : Bw.Sp p (· ∈ d.map R) (R y)
    · rw [take_yes hy] at h
      rcases (take_mem xs d h) with (h | h)
      · exact .inl h
      · exact .inr (List.mem_cons_of_mem _ h)
    · rw [take_no hy] at h
      rcases (take_mem xs _ h) with (h | h)
      · rcases (List.mem_append.mp h) with (h | h)
        · exact .inl h
        · exact .inr (by rw [List.mem_singleton.mp h]; exact List.mem_cons_self ..)
      · exact .inr (List.mem_cons_of_mem _ h)
noncomputable def Gr (p : Int) (F : List Fn) : Prop := ∀ k f, F[k]? = some f → ¬ Bw.Sp p (· ∈ F.take k) f
theorem gr_snoc {F : List Fn} {f : Fn} (h : Gr p F) (hf : ¬ Bw.Sp p (· ∈ F) f) : Gr p (F ++ [f]) := fun k g hg => by
  by_cases hk : k < F.length
  · rw [List.getElem?_append_left hk] at hg
    rw [List.take_append_of_le_length (by lia)]
    exact h k g hg
  · by_cases e : k = F.length
    · subst e
      rw [List.getElem?_append_right (Nat.le_refl _), Nat.sub_self] at hg
      cases hg
      rw [List.take_append_of_le_length (Nat.le_refl _), List.take_length]
      exact hf
    · rw [List.getElem?_eq_none (by simp; lia)] at hg
      cases hg
theorem take_gr : ∀ (xs d : List α), Gr p (d.map R) → Gr p ((takeG p R d xs).map R)
  | [], d, h => h
  | y :: xs, d, h => by
    by_cases hy : Bw.Sp p (· ∈ d.map R) (R y)
    · rw [take_yes hy]; exact take_gr xs d h
    · rw [take_no hy]
      refine take_gr xs _ ?_
      rw [List.map_append]
      exact gr_snoc h hy
theorem sp_sum {F : List Fn} (c : Nat → Int) : ∀ n, Bw.Sp p (· ∈ F.take n) (fun j => Sg (fun k => c k * F.getD k (fun _ => 0) j) n)
  | 0 => .of_eq .zero fun j => rfl
  | n + 1 => by
    have ih := sp_sum (F := F) c n
    have ih' : Bw.Sp p (· ∈ F.take (n + 1)) (fun j => Sg (fun k => c k * F.getD k (fun _ => 0) j) n) := sp_sub (fun f hf => by
      have := List.take_prefix_take_left (l := F) (show n ≤ n + 1 by lia)
      exact this.subset hf) ih
    by_cases h : n < F.length
    · have hm : F.getD n (fun _ => 0) ∈ F.take (n + 1) := by
        rw [List.getD_eq_getElem?_getD, List.getElem?_eq_getElem h, List.take_succ_eq_append_getElem h]
        exact List.mem_append_right _ (List.mem_singleton.mpr rfl)
      exact (Bw.Sp.add (c n) ih' hm).of_eq fun j => rfl
    · have e : F.getD n (fun _ => 0) = fun _ => 0 := by rw [List.getD_eq_getElem?_getD, List.getElem?_eq_none (by lia)]; rfl
      refine ih'.of_eq fun j => ?_
      show _ = Sg _ n + c n * F.getD n (fun _ => 0) j
      rw [e]; simp
theorem gr_free (hp : p ∈ primesL) {F : List Fn} (h : Gr p F) (c : Nat → Int) : ∀ n, n ≤ F.length → (∀ j, p ∣ Sg (fun k => c k * F.getD k (fun _ => 0) j) n) → ∀ k, k < n → p ∣ c k
  | 0, _, _, k, hk => by lia
  | n + 1, hn, hs, k, hk => by
    have hg : F[n]? = some (F.getD n (fun _ => 0)) := by
      rw [List.getD_eq_getElem?_getD, List.getElem?_eq_getElem (show n < F.length by lia)]; rfl
    have hc : p ∣ c n := by
      apply Classical.byContradiction
      intro hc
      obtain ⟨d, hd⟩ := inv_ex hp hc
      refine h n _ hg ?_
      refine .cong (Bw.Sp.plus (-d) .zero (sp_sum (p := p) (F := F) c n)) fun j => ?_
      have a : p ∣ d * (Sg (fun k => c k * F.getD k (fun _ => 0) j) n + c n * F.getD n (fun _ => 0) j) := Int.dvd_mul_of_dvd_right (hs j)
      have b : p ∣ (d * c n - 1) * F.getD n (fun _ => 0) j := Int.dvd_mul_of_dvd_left hd
      have := Int.dvd_sub b a
      rw [Int.sub_mul, Int.mul_add, Int.mul_assoc, Int.one_mul] at this
      rw [Int.neg_mul]
      generalize d * Sg (fun k => c k * F.getD k (fun _ => 0) j) n = X at *
      generalize d * (c n * F.getD n (fun _ => 0) j) = Y at *
      rwa [show Y - F.getD n (fun _ => 0) j - (X + Y) = 0 + -X - F.getD n (fun _ => 0) j by lia] at this
    by_cases e : k = n
    · subst e; exact hc
    · refine gr_free hp h c n (by lia) (fun j => ?_) k (by lia)
      have := Int.dvd_sub (hs j) (Int.dvd_mul_of_dvd_left (c := F.getD n (fun _ => 0) j) hc)
      rwa [show Sg (fun k => c k * F.getD k (fun _ => 0) j) (n + 1) - c n * F.getD n (fun _ => 0) j = Sg (fun k => c k * F.getD k (fun _ => 0) j) n by show Sg _ n + c n * F.getD n (fun _ => 0) j - _ = _; lia] at this
end
noncomputable def obsO (p : Int) (m : Mach) (j : Nat) : Fn := fn ((levK p (flipA m.states (stA m)) (seeC m) (j / m.right)).getD (j % m.right) [])
noncomputable def obsF (p : Int) (m : Mach) (x : Fn) : Fn := fun j => dot x (obsO p m j) m.states
noncomputable def zf (p : Int) (m : Mach) (x : List Int) : Fn := fun j => fn (zans p m x (j / m.right)) (j % m.right)
noncomputable def respF (p : Int) (m : Mach) (q : Nat × Nat) : Fn := fun j => fn (ansM p m q.1 (q.2 + 1 + j / m.right)) (j % m.right)
theorem fn_nil (j : Nat) : fn [] j = 0 := rfl
theorem fn_out {r : List Int} {j : Nat} (h : r.length ≤ j) : fn r j = 0 := by
  show r.getD j 0 = 0
  rw [List.getD_eq_getElem?_getD, List.getElem?_eq_none h]; rfl
section
variable {p : Int} {m : Mach}
theorem zans_len (MO : MachOk p m) : ∀ (i : Nat) (x : List Int), (zans p m x i).length = m.right
  | 0, x => by rw [zans, apM, List.length_map, seeC_len MO]
  | i + 1, x => by rw [zans]; exact zans_len MO i _
theorem zf_obs (MO : MachOk p m) (p0 : 0 < p) {x : List Int} (hx : x.length = m.states) : eqm p (obsF p m (fn x)) (zf p m x) := fun j => by
  unfold obsF zf obsO
  cases h : (levK p (flipA m.states (stA m)) (seeC m) (j / m.right))[j % m.right]? with
  | some o =>
    rw [List.getD_eq_getElem?_getD, h]
    have := see_dot MO p0 (j / m.right) x (j % m.right) o hx h
    rw [dot_comm] at this
    exact this
  | none =>
    rw [List.getD_eq_getElem?_getD, h]
    have h1 := List.getElem?_eq_none_iff.mp h
    rw [see_len MO p0] at h1
    rw [fn_out (by rw [zans_len MO]; exact h1)]
    refine ⟨0, ?_⟩
    rw [show dot (fn x) (fn (Option.getD none [])) m.states = 0 from Sg_zero fun i _ => by
      show fn x i * fn [] i = 0
      rw [fn_nil, Int.mul_zero]]
    simp
theorem zf_resp (MO : MachOk p m) (q : Nat × Nat) : zf p m (stM p m q.1 (q.2 + 1)) = respF p m q := by
  funext j
  unfold zf respF
  rw [zans_ans MO]
theorem obs_plus (u v : Fn) (c : Int) (j : Nat) : obsF p m (fun i => u i + c * v i) j = obsF p m u j + c * obsF p m v j := by
  unfold obsF
  rw [dot_comm, dot_plus, dot_comm, dot_comm (obsO p m j)]
theorem obs_zero (j : Nat) : obsF p m (fun _ => 0) j = 0 := Sg_zero fun _ _ => Int.zero_mul _
theorem obs_cong {u v : Fn} (e : eqm p u v) : eqm p (obsF p m u) (obsF p m v) := fun j => by
  unfold obsF
  rw [dot_comm, dot_comm v]
  exact dot_cong e
theorem obs_sp (MO : MachOk p m) (p0 : 0 < p) {S : List (List Int)} {x : List Int} (hS : ∀ s ∈ S, s.length = m.states) (hx : x.length = m.states) (h : Bw.Sp p (RS S) (fn x)) : Bw.Sp p (· ∈ S.map (zf p m)) (zf p m x) := by
  refine .cong (Sp.map (T := obsF p m) (fun j => ⟨0, by rw [obs_zero]; simp⟩) (fun u v c j => by dsimp only; rw [obs_plus]; exact ⟨0, by lia⟩) (fun u v e => obs_cong e) (fun f hf => ?_) h) (zf_obs MO p0 hx)
  obtain ⟨s, hs, rfl⟩ := hf
  exact .cong (.mem (List.mem_map_of_mem hs)) (zf_obs MO p0 (hS s hs)).symm
noncomputable def orderL (left T : Nat) : List (Nat × Nat) := (List.range T).flatMap fun t => (List.range left).map fun w => (w, t)
theorem order_mem {left T : Nat} {q : Nat × Nat} : q ∈ orderL left T ↔ q.1 < left ∧ q.2 < T := by
  unfold orderL
  constructor
  · intro h
    obtain ⟨t, ht, h⟩ := List.mem_flatMap.mp h
    obtain ⟨w, hw, rfl⟩ := List.mem_map.mp h
    exact ⟨List.mem_range.mp hw, List.mem_range.mp ht⟩
  · rintro ⟨h1, h2⟩
    exact List.mem_flatMap.mpr ⟨q.2, List.mem_range.mpr h2, List.mem_map.mpr ⟨q.1, List.mem_range.mpr h1, rfl⟩⟩
theorem order_succ (left T : Nat) : orderL left (T + 1) = orderL left T ++ (List.range left).map fun w => (w, T) := by
  unfold orderL
  rw [List.range_succ, List.flatMap_append]
  simp
noncomputable def takenM (p : Int) (m : Mach) (T : Nat) : List (Nat × Nat) := takeG p (respF p m) [] (orderL m.left T)
theorem taken_mem {T : Nat} {q : Nat × Nat} (h : q ∈ takenM p m T) : q.1 < m.left ∧ q.2 < T := by
  rcases (take_mem _ _ h) with (h | h)
  · cases h
  · exact order_mem.mp h
theorem taken_gr (T : Nat) : Gr p ((takenM p m T).map (respF p m)) := take_gr _ _ fun k f h => by simp at h
theorem lev_st (MO : MachOk p m) : ∀ t, levK p (stA m) ((List.range m.left).map fun w => stM p m w 1) t = (List.range m.left).map fun w => stM p m w (t + 1)
  | 0 => rfl
  | t + 1 => by
    rw [levK, lev_st MO t, List.map_map]
    exact List.map_congr_left fun w _ => (st_next MO w t).symm
theorem st_all (hp : p ∈ primesL) (MO : MachOk p m) {w : Nat} (hw : w < m.left) (t : Nat) : Bw.Sp p (RS ((orderL m.left m.states).map fun q => stM p m q.1 (q.2 + 1))) (fn (stM p m w (t + 1))) := by
  have p0 : 0 < p := by have := prime_pos p hp; lia
  have k := kry_all hp (stA_len MO) (stA_rows MO) (L0 := (List.range m.left).map fun w => stM p m w 1) (fun r hr => by
    obtain ⟨w, _, rfl⟩ := List.mem_map.mp hr
    exact st_Rw p0 MO w 1) t (stM p m w (t + 1)) (by rw [lev_st MO]; exact List.mem_map.mpr ⟨w, List.mem_range.mpr hw, rfl⟩)
  refine sp_all (fun r hr => ?_) k
  obtain ⟨t', h1, h2⟩ := kry_mem.mp hr
  rw [lev_st MO] at h2
  obtain ⟨w', hw', rfl⟩ := List.mem_map.mp h2
  exact sp_in (List.mem_map.mpr ⟨(w', t'), order_mem.mpr ⟨List.mem_range.mp hw', h1⟩, rfl⟩)
theorem resp_all (hp : p ∈ primesL) (MO : MachOk p m) {w : Nat} (hw : w < m.left) (t : Nat) : Bw.Sp p (· ∈ (takenM p m m.states).map (respF p m)) (respF p m (w, t)) := by
  have p0 : 0 < p := by have := prime_pos p hp; lia
  have h := obs_sp MO p0 (fun s hs => by
    obtain ⟨q, _, rfl⟩ := List.mem_map.mp hs
    exact (st_Rw p0 MO q.1 (q.2 + 1)).1) (st_Rw p0 MO w (t + 1)).1 (st_all hp MO hw t)
  rw [zf_resp MO (w, t)] at h
  refine h.trans fun f hf => ?_
  rw [List.map_map] at hf
  obtain ⟨q, hq, rfl⟩ := List.mem_map.mp hf
  show Bw.Sp p _ (zf p m (stM p m q.1 (q.2 + 1)))
  rw [zf_resp MO]
  exact take_all _ _ _ hq
theorem taken_more (hp : p ∈ primesL) (MO : MachOk p m) : ∀ k, takenM p m (m.states + k) = takenM p m m.states
  | 0 => rfl
  | k + 1 => by
    have ih := taken_more hp MO k
    unfold takenM at ih ⊢
    rw [← Nat.add_assoc, order_succ, take_app, ih]
    refine take_rest _ _ fun y hy => ?_
    obtain ⟨w, hw, rfl⟩ := List.mem_map.mp hy
    exact resp_all hp MO (List.mem_range.mp hw) _
theorem taken_le (hp : p ∈ primesL) (MO : MachOk p m) : (takenM p m m.states).length ≤ m.states := by
  have p0 : 0 < p := by have := prime_pos p hp; lia
  have hR : ∀ k, Rws p m.states (((takenM p m m.states).take k).map fun q => stM p m q.1 (q.2 + 1)) := fun k r hr => by
    obtain ⟨q, _, rfl⟩ := List.mem_map.mp hr
    exact st_Rw p0 MO q.1 (q.2 + 1)
  have grow : ∀ k, k ≤ (takenM p m m.states).length → (redM p (((takenM p m m.states).take k).map fun q => stM p m q.1 (q.2 + 1))).length ≥ k := by
    intro k
    induction k with
    | zero => intro _; exact Nat.zero_le _
    | succ k ih =>
      intro hk
      have ih' := ih (by lia)
      have hk' : k < (takenM p m m.states).length := by lia
      rw [List.take_succ_eq_append_getElem hk', List.map_append]
      have := red_more hp (hR k) (st_Rw p0 MO (takenM p m m.states)[k].1 ((takenM p m m.states)[k].2 + 1)) (fun hn => by
        have h := obs_sp MO p0 (fun s hs => (hR k s hs).1) (st_Rw p0 MO _ _).1 hn
        rw [zf_resp MO] at h
        refine taken_gr (p := p) (m := m) m.states k _ (by rw [List.getElem?_map, List.getElem?_eq_getElem hk']; rfl) ?_
        rw [← List.map_take]
        refine sp_sub (fun f hf => ?_) h
        rw [List.map_map] at hf
        obtain ⟨q, hq, rfl⟩ := List.mem_map.mp hf
        show zf p m (stM p m q.1 (q.2 + 1)) ∈ _
        rw [zf_resp MO]
        exact List.mem_map_of_mem hq)
      show (redM p (_ ++ [stM p m (takenM p m m.states)[k].1 ((takenM p m m.states)[k].2 + 1)])).length ≥ k + 1
      lia
  have g := grow _ (Nat.le_refl _)
  have := red_len hp (hR (takenM p m m.states).length)
  lia
end
structure LeastOk (p : Int) (m L : Mach) : Prop where
  ok : MachOk p L
  left : L.left = m.left
  right : L.right = m.right
  states : L.states = (takenM p m m.states).length
  unit : ∀ k q, (takenM p m m.states)[k]? = some q → stM p L q.1 (q.2 + 1) = unitM L.states k
  ans : ∀ w t, w < m.left → ansM p L w t = ansM p m w t
theorem LeastOk.le {p : Int} {m L : Mach} (hp : p ∈ primesL) (MO : MachOk p m) (h : LeastOk p m L) : L.states ≤ m.states := by
  rw [h.states]; exact taken_le hp MO
section
variable {p : Int} {L L' : Mach}
theorem unit_left {a b k : Nat} (h : k < a) : unitM a k ++ List.replicate b 0 = unitM (a + b) k := by
  unfold unitM
  rw [List.append_assoc, List.replicate_append_replicate]
  congr 2; lia
theorem col_out (MO : MachOk p L) (p0 : 0 < p) {c : Nat} (hc : c < L.left + L.states) : outM p L (unitM (L.left + L.states) c) = L.rows.map fun r => r.getD c 0 := by
  unfold outM
  refine List.map_congr_left fun r hr => ?_
  have R := MO.rws r hr
  rw [pdot_eq R.1 (unit_len hc), dot_comm]
  have e : dot (fn (unitM (L.left + L.states) c)) (fn r) (L.left + L.states) = r.getD c 0 := by
    unfold dot
    rw [Sg_congr fun i _ => by rw [unit_at hc]]
    exact Sg_at hc (fn r)
  rw [e]
  exact Int.emod_eq_of_lt (R.at p0 c).1 (R.at p0 c).2
end
noncomputable def respB (p : Int) (m : Mach) (x : List Int) : Nat → List Int
  | 0 => []
  | b + 1 => respB p m x b ++ zans p m x b
noncomputable def zst (p : Int) (m : Mach) (x : List Int) : Nat → List Int
  | 0 => x
  | i + 1 => apM p (stA m) (zst p m x i)
noncomputable def cutF (n : Nat) (u : Fn) : Fn := fun j => if j < n then u j else 0
section
variable {p : Int} {m : Mach}
theorem zst_in (x : List Int) : ∀ i, zst p m (apM p (stA m) x) i = zst p m x (i + 1)
  | 0 => rfl
  | i + 1 => by rw [zst, zst_in x i]; rfl
theorem zans_zst : ∀ (i : Nat) (x : List Int), zans p m x i = apM p (seeC m) (zst p m x i)
  | 0, x => rfl
  | i + 1, x => by rw [zans, zans_zst i, zst_in]
theorem quiet_drop (MO : MachOk p m) (y : List Int) : (outM p m (List.replicate m.left 0 ++ y)).drop m.right = apM p (stA m) y := by
  unfold outM apM stA
  rw [← List.map_drop, List.map_map]
  exact List.map_congr_left fun r hr => by
    show pdot r _ % p = pdot (r.drop m.left) _ % p
    rw [quiet MO r (List.mem_of_mem_drop hr)]
theorem quiet_take (MO : MachOk p m) (y : List Int) : (outM p m (List.replicate m.left 0 ++ y)).take m.right = apM p (seeC m) y := by
  unfold outM apM seeC
  rw [← List.map_take, List.map_map]
  exact List.map_congr_left fun r hr => by
    show pdot r _ % p = pdot (r.drop m.left) _ % p
    rw [quiet MO r (List.mem_of_mem_take hr)]
theorem zans_Rw (MO : MachOk p m) (p0 : 0 < p) (i : Nat) (x : List Int) : Rw p m.right (zans p m x i) := by
  rw [zans_zst, ← seeC_len MO]; exact ap_Rw p0 _
theorem respB_Rw (MO : MachOk p m) (p0 : 0 < p) (x : List Int) : ∀ b, Rw p (b * m.right) (respB p m x b)
  | 0 => ⟨by simp [respB], fun x hx => (nomatch hx)⟩
  | b + 1 => by
    have h1 := respB_Rw MO p0 x b
    have h2 := zans_Rw MO p0 b x
    refine ⟨by rw [respB, List.length_append, h1.1, h2.1, Nat.add_mul, Nat.one_mul], fun y hy => ?_⟩
    rcases (List.mem_append.mp hy) with (h | h)
    · exact h1.2 y h
    · exact h2.2 y h
theorem fn_respB (MO : MachOk p m) (p0 : 0 < p) (x : List Int) : ∀ (b j : Nat), fn (respB p m x b) j = if j < b * m.right then zf p m x j else 0
  | 0, j => by rw [if_neg (by lia)]; rfl
  | b + 1, j => by
    have h1 := respB_Rw MO p0 x b
    have e : (b + 1) * m.right = b * m.right + m.right := by rw [Nat.add_mul, Nat.one_mul]
    rw [respB, fn_append h1.1]
    by_cases hj : j < b * m.right
    · rw [if_pos hj, fn_respB MO p0 x b j, if_pos hj, if_pos (by lia)]
    · rw [if_neg hj]
      by_cases hj2 : j < (b + 1) * m.right
      · rw [if_pos hj2]
        have hd : j / m.right = b := by
          refine Nat.div_eq_of_lt_le (by lia) (by lia)
        have hm : j % m.right = j - b * m.right := by
          have := Nat.div_add_mod j m.right
          rw [hd, Nat.mul_comm] at this
          lia
        unfold zf
        rw [hd, hm]
      · rw [if_neg hj2]
        exact fn_out (by rw [zans_len MO]; lia)
theorem cut_respB (MO : MachOk p m) (p0 : 0 < p) (x : List Int) (b : Nat) : cutF (b * m.right) (zf p m x) = fn (respB p m x b) := by
  funext j
  rw [fn_respB MO p0]; rfl
theorem sp_fin (MO : MachOk p m) (p0 : 0 < p) {S : List (List Int)} {x : List Int} (b : Nat) (h : Bw.Sp p (· ∈ S.map (zf p m)) (zf p m x)) : Bw.Sp p (RS (S.map fun s => respB p m s b)) (fn (respB p m x b)) := by
  rw [← cut_respB MO p0]
  refine Sp.map (T := cutF (b * m.right)) (fun j => ⟨0, ?_⟩) (fun u v c j => ⟨0, ?_⟩) (fun u v e j => ?_) (fun f hf => ?_) h
  · unfold cutF; split <;> simp
  · unfold cutF
    dsimp only
    by_cases hj : j < b * m.right
    · rw [if_pos hj, if_pos hj, if_pos hj]; lia
    · rw [if_neg hj, if_neg hj, if_neg hj]; simp
  · unfold cutF
    by_cases hj : j < b * m.right
    · rw [if_pos hj, if_pos hj]; exact e j
    · rw [if_neg hj, if_neg hj]; exact ⟨0, by simp⟩
  · obtain ⟨s, hs, rfl⟩ := List.mem_map.mp hf
    rw [cut_respB MO p0]
    exact .mem ⟨_, List.mem_map.mpr ⟨s, hs, rfl⟩, rfl⟩
theorem sp_back (MO : MachOk p m) (p0 : 0 < p) {S : List (List Int)} (hS : ∀ s ∈ S, s.length = m.states) {b : Nat} {v : Fn} (h : Bw.Sp p (RS (S.map fun s => respB p m s b)) v) : ∃ z, Bw.Sp p (RS S) z ∧ ∀ j, j < b * m.right → p ∣ v j - obsF p m z j := by
  induction h with
  | zero => exact ⟨_, .zero, fun j _ => ⟨0, by rw [obs_zero]; simp⟩⟩
  | @add v r c _ hr ih =>
    obtain ⟨z, hz, e⟩ := ih
    obtain ⟨q, hq, rfl⟩ := hr
    obtain ⟨s, hs, rfl⟩ := List.mem_map.mp hq
    refine ⟨_, .add c hz ⟨s, hs, rfl⟩, fun j hj => ?_⟩
    dsimp only
    rw [obs_plus, fn_respB MO p0, if_pos hj]
    have a := e j hj
    have k : p ∣ c * (zf p m s j - obsF p m (fn s) j) := Int.dvd_mul_of_dvd_right ((zf_obs MO p0 (hS s hs)).symm j)
    rw [Int.mul_sub] at k
    have := Int.dvd_add a k
    generalize c * zf p m s j = X at *
    generalize c * obsF p m (fn s) j = Y at *
    rwa [show v j - obsF p m z j + (X - Y) = v j + X - (obsF p m z j + Y) by lia] at this
  | @cong u v _ e ih =>
    obtain ⟨z, hz, e'⟩ := ih
    refine ⟨z, hz, fun j hj => ?_⟩
    have := Int.dvd_sub (e' j hj) (e j)
    rwa [show ∀ a b c : Int, a - b - (a - c) = c - b from fun a b c => by lia] at this
theorem see_all (hp : p ∈ primesL) (MO : MachOk p m) {z : Fn} (few : ∀ j, j < m.states * m.right → p ∣ dot z (obsO p m j) m.states) (j : Nat) : p ∣ dot z (obsO p m j) m.states := by
  have p0 : 0 < p := by have := prime_pos p hp; lia
  have all : ∀ (i : Nat) (o : List Int), o ∈ levK p (flipA m.states (stA m)) (seeC m) i → p ∣ dot z (fn o) m.states := fun i o ho => by
    refine unseen hp MO (fun o ho => ?_) i o ho
    obtain ⟨t, ht, hm⟩ := kry_mem.mp ho
    obtain ⟨r, hr, rfl⟩ := List.mem_iff_getElem.mp hm
    have hr' : r < m.right := by rw [see_len MO p0] at hr; exact hr
    have hlt : t * m.right + r < m.states * m.right := by
      have := Nat.mul_le_mul_right m.right (show t + 1 ≤ m.states by lia)
      rw [Nat.add_mul, Nat.one_mul] at this
      lia
    have k := few (t * m.right + r) hlt
    have hd : (t * m.right + r) / m.right = t := by
      rw [Nat.mul_comm, Nat.mul_add_div (by lia), Nat.div_eq_of_lt hr', Nat.add_zero]
    have hmo : (t * m.right + r) % m.right = r := by
      rw [Nat.mul_comm, Nat.mul_add_mod, Nat.mod_eq_of_lt hr']
    unfold obsO at k
    rw [hd, hmo, List.getD_eq_getElem?_getD, List.getElem?_eq_getElem hr] at k
    exact k
  unfold obsO
  cases h : (levK p (flipA m.states (stA m)) (seeC m) (j / m.right))[j % m.right]? with
  | some o =>
    rw [List.getD_eq_getElem?_getD, h]
    exact all _ o (List.mem_of_getElem? h)
  | none =>
    rw [List.getD_eq_getElem?_getD, h]
    refine ⟨0, ?_⟩
    rw [show dot z (fn (Option.getD none [])) m.states = 0 from Sg_zero fun i _ => by
      show z i * fn [] i = 0
      rw [fn_nil, Int.mul_zero]]
    simp
theorem sp_full (hp : p ∈ primesL) (MO : MachOk p m) {S : List (List Int)} {x : List Int} (hS : ∀ s ∈ S, s.length = m.states) (hx : x.length = m.states) (h : Bw.Sp p (RS (S.map fun s => respB p m s m.states)) (fn (respB p m x m.states))) : Bw.Sp p (· ∈ S.map (zf p m)) (zf p m x) := by
  have p0 : 0 < p := by have := prime_pos p hp; lia
  obtain ⟨z, hz, e⟩ := sp_back MO p0 hS h
  have hz' : Bw.Sp p (· ∈ S.map (zf p m)) (obsF p m z) := by
    refine Sp.map (T := obsF p m) (fun j => ⟨0, by rw [obs_zero]; simp⟩) (fun u v c j => by dsimp only; rw [obs_plus]; exact ⟨0, by lia⟩) (fun u v e => obs_cong e) (fun f hf => ?_) hz
    obtain ⟨s, hs, rfl⟩ := hf
    exact .cong (.mem (List.mem_map_of_mem hs)) (zf_obs MO p0 (hS s hs)).symm
  refine .cong hz' ?_
  have few : ∀ j, j < m.states * m.right → p ∣ dot (fun i => fn x i - z i) (obsO p m j) m.states := fun j hj => by
    have a := e j hj
    rw [fn_respB MO p0, if_pos hj] at a
    have b := zf_obs MO p0 hx j
    have := Int.dvd_add b a
    rw [dot_minus]
    show p ∣ obsF p m (fn x) j - obsF p m z j
    rwa [show ∀ a b c : Int, a - b + (b - c) = a - c from fun a b c => by lia] at this
  refine eqm.trans (fun j => ?_) (zf_obs MO p0 hx)
  have k := see_all hp MO few j
  rw [dot_minus] at k
  have := Int.dvd_neg.mpr k
  rwa [Int.neg_sub] at this
noncomputable def respT (p : Int) (m : Mach) (q : Nat × Nat) : List Int := respB p m (stM p m q.1 (q.2 + 1)) m.states
theorem taken_fin (hp : p ∈ primesL) (MO : MachOk p m) (d : List (Nat × Nat)) (q : Nat × Nat) : Bw.Sp p (RS (d.map (respT p m))) (fn (respT p m q)) ↔ Bw.Sp p (· ∈ d.map (respF p m)) (respF p m q) := by
  have p0 : 0 < p := by have := prime_pos p hp; lia
  have e1 : d.map (respT p m) = (d.map fun q => stM p m q.1 (q.2 + 1)).map fun s => respB p m s m.states := by rw [List.map_map]; rfl
  have e2 : d.map (respF p m) = (d.map fun q => stM p m q.1 (q.2 + 1)).map (zf p m) := by
    rw [List.map_map]
    exact List.map_congr_left fun q _ => (zf_resp MO q).symm
  rw [e1, e2, ← zf_resp MO]
  constructor
  · exact sp_full hp MO (fun s hs => by
      obtain ⟨q, _, rfl⟩ := List.mem_map.mp hs
      exact (st_Rw p0 MO q.1 (q.2 + 1)).1) (st_Rw p0 MO q.1 (q.2 + 1)).1
  · exact sp_fin MO p0 m.states
theorem respT_Rw (p0 : 0 < p) (MO : MachOk p m) (q : Nat × Nat) : Rw p (m.states * m.right) (respT p m q) := respB_Rw MO p0 _ _
theorem respT_Rws (p0 : 0 < p) (MO : MachOk p m) (d : List (Nat × Nat)) : Rws p (m.states * m.right) (d.map (respT p m)) := fun r hr => by
  obtain ⟨q, _, rfl⟩ := List.mem_map.mp hr
  exact respB_Rw MO p0 _ _
theorem taken_red (hp : p ∈ primesL) (MO : MachOk p m) {d : List (Nat × Nat)} (hG : Gr p (d.map (respF p m))) : ∀ k, k ≤ d.length → (redM p ((d.take k).map (respT p m))).length = k := by
  have p0 : 0 < p := by have := prime_pos p hp; lia
  intro k
  induction k with
  | zero => intro _; rfl
  | succ k ih =>
    intro hk
    have hk' : k < d.length := by lia
    rw [List.take_succ_eq_append_getElem hk', List.map_append]
    show (redM p (_ ++ [respT p m d[k]])).length = k + 1
    rw [red_more hp (respT_Rws p0 MO _) (respT_Rw p0 MO _) fun hn => ?_, ih (by lia)]
    refine hG k (respF p m d[k]) (by rw [List.getElem?_map, List.getElem?_eq_getElem hk']; rfl) ?_
    rw [← List.map_take]
    exact (taken_fin hp MO _ _).mp hn
theorem taken_step (hp : p ∈ primesL) (MO : MachOk p m) {d : List (Nat × Nat)} (hG : Gr p (d.map (respF p m))) (q : Nat × Nat) : (redM p (d.map (respT p m) ++ [respT p m q])).length > d.length ↔ ¬ Bw.Sp p (· ∈ d.map (respF p m)) (respF p m q) := by
  have p0 : 0 < p := by have := prime_pos p hp; lia
  have e := taken_red hp MO hG d.length (Nat.le_refl _)
  rw [List.take_length] at e
  constructor
  · intro h hn
    have hs := (taken_fin hp MO _ _).mpr hn
    have := red_mono hp (L := d.map (respT p m) ++ [respT p m q]) (L' := d.map (respT p m)) (n := m.states * m.right) (fun r hr => by
      rcases (List.mem_append.mp hr) with (h | h)
      · exact respT_Rws p0 MO d r h
      · rw [List.mem_singleton.mp h]; exact respB_Rw MO p0 _ _) (respT_Rws p0 MO d) (fun r hr => by
      rcases (List.mem_append.mp hr) with (h | h)
      · exact sp_in h
      · rw [List.mem_singleton.mp h]; exact hs)
    lia
  · intro hn
    rw [red_more hp (respT_Rws p0 MO _) (respT_Rw p0 MO _) fun h => hn ((taken_fin hp MO _ _).mp h), e]
    lia
end
end S7
namespace S7
open PySem L2 Bw
section
variable {P : Program} {w : World} {K : W.Frag} {mg : Str → Option Value} {base : Heap}
inductive AskLess (K : W.Frag) (vs : List V) (H : Hp) (Q : L2.VK) (E : L2.XK) : Prop where
  | mk (p : Int) (a b : Addr) (x h : List Int) (n j : Nat) (i : Int) (q0_ : vs = [.int p, .ref a, .ref b, .int i]) (q1_ : i = j) (q2_ : 2 ≤ p) (q3_ : p ≤ 97) (q4_ : n ≤ 900) (q5_ : j < n) (q6_ : H a = some (.lst (x.map V.int))) (q7_ : H b = some (.lst (h.map V.int))) (q8_ : Rw p n x) (q9_ : Rw p n h) (q10_ : ∀ l H', Same H H' → H l = none → H' l = some (.lst ((lessM p j h x).map V.int)) → Q (.ref l) H') : AskLess K vs H Q E
noncomputable def spLess (K : W.Frag) : Sp := fun vs H Q E => AskLess K vs H Q E
theorem scLe : FnScope ["p", "row", "head", "at"] ["p", "row", "head", "at"] (defScope sLess) := ⟨rfl, rfl, rfl, by decide +kernel, rfl, by decide +kernel, by decide +kernel⟩
theorem ok_less {f : Addr} {fd : FuncData} (F : Fun K "_law_less" "_law_less" sLess f fd) (T : Txt mg) : FnOk P w K mg base CX0 1 f fd ["p", "row", "head", "at"] (spLess K) := by
  refine F.ok scLe (fun vs H Q E h => ?_) (fun cdv A outer s H vs Q E hr h => ?_)
  · obtain ⟨p, a, b, x, h, n, j, i, rfl, _⟩ := h
    rfl
  · obtain ⟨p, a, b, x, h, n, j, i, rfl, rfl, p2, p97, hn, hj, ga, gb, hx, hh, k⟩ := h
    have z1000 : (1000 : Nat) ≤ sizeLine := by decide
    refine ⟨_, pss_one (ps_ret (pe_comp (N := ["k", "at", "head", "p", "row"]) (own := 1) (caps := [3, 2, 0, 1]) rfl (pi_range1 rfl T.range (pa_cons (pe_callB (cLen K rfl) rfl T.len bt_len (pa_cons (pv 1) pa_nil)) pa_nil)) (show BlkScope ["p", "row", "head", "at"] (defScope sLess) ["k", "at", "head", "p", "row"] 1 [3, 2, 0, 1] _ from .mk' (by decide +kernel)) (fun _ _ _ _ _ => pg_name (i := 0) nt2 rfl (Or.inl rfl)) (fun _ _ _ _ _ => pts_nil) (fun _ _ _ _ _ => pe_op op_mod (pe_op op_sub (pe_ix (ixL K rfl) (pv 4) (pv 0) (fun _ _ => rfl)) (pe_op op_mul (pe_ix (ixL K rfl) (pv 4) (pv 1) (fun _ _ => rfl)) (pe_ix (ixL K rfl) (pv 2) (pv 0) (fun _ _ => rfl)))) (pv 3)))), ?_⟩
    have ex : (x.map V.int).length = n := by rw [List.length_map, hx.1]
    have hxj := hx.at (by lia) j
    refine ⟨_, rfl, a, _, rfl, .inl (.of ga), (((x.map V.int).length : Nat) : Int), rfl, by lia, by rw [ex]; lia, comp_rng (n := (x.map V.int).length) (lo := 0) (cp := [some (.int (j : Int)), some (.ref b), some (.int p), some (.ref a)]) (fun i H' zs => zs = ((lessM p j h x).take i).map V.int) (by rw [ex]; lia) rfl (fun i H' zs e => by rw [e, List.length_map]; exact List.length_take_le _ _) ?_ ?_⟩
    · rintro i H1 zs hi sm rfl
      rw [ex] at hi
      rw [Int.zero_add]
      have hix : i < x.length := by rw [hx.1]; exact hi
      have hih : i < h.length := by rw [hh.1]; exact hi
      refine tgo ⟨_, rfl, _, rfl, a, _, (i : Int), _, rfl, rfl, .of (sm _ _ ga), atI_nat (atRow hix), _, rfl, _, rfl, a, _, (j : Int), _, rfl, rfl, .of (sm _ _ ga), atI_nat (atRow (by rw [hx.1]; exact hj)), _, rfl, _, rfl, b, _, (i : Int), _, rfl, rfl, .of (sm _ _ gb), atI_nat (atRow hih), _, _, rfl, rfl, .inl ⟨by lia, by lia⟩, _, _, rfl, rfl, _, rfl, _, _, rfl, rfl, (by show (0 : Int) < p; lia), ⟨[_], rfl, rfl⟩, sm, ?_⟩
      have e3 : (lessM p j h x)[i]? = some ((x.getD i 0 - x.getD j 0 * h.getD i 0) % p) := by
        unfold lessM addM
        rw [List.getElem?_zipWith, getD_of hix, getD_of hih]
        show some ((x.getD i 0 + -(x.getD j 0) * h.getD i 0) % p) = _
        rw [Int.neg_mul, ← Int.sub_eq_add_neg]
      rw [List.take_add_one, e3]
      simp
    · rintro H1 zs sm rfl lq hlq
      rw [ex, List.take_of_length_le (by unfold lessM addM; rw [List.length_zipWith, hx.1, hh.1]; lia)]
      exact k lq _ (sm.trans (.upd hlq)) (none_of sm hlq) upd_same
end
end S7
namespace L2
open PySem PySem.Spec PyProof.Rows
noncomputable def Itq (b : Bool) (K : W.Frag) (a : Addr) : It := match b with
  | true => Itl K a
  | false => Itt K a
noncomputable def iSq (b : Bool) (K : W.Frag) (tl : TE) : TI := fun σ H R => tl σ H fun x H1 => ∃ a, x = .ref a ∧ (∃ xs, Sq b K H1 a xs) ∧ R (Itq b K a) H1
theorem piSq {X : Cx} (K : W.Frag) (hK : X.K = K) (b : Bool) {tg l : Expr} {tl : TE} (hl : PE X l tl) : PI X tg l (iSq b K tl) := by
  cases b with
  | true => exact piList K hK hl
  | false => exact piTup K hK hl
theorem comp_sq {b : Bool} {K : W.Frag} {H1 : Hp} {a : Addr} {xs : List V} {tt : TT} {te : TE} {Q : VK} {cp : St} (Pv : Nat → Hp → List V → Prop) (hq : Sq b K H1 a xs) (hz : xs.length ≤ sizeLine) (h0 : Pv 0 H1 []) (hlen : ∀ i H zs, Pv i H zs → zs.length ≤ i)
    (step : ∀ i x H zs, xs[i]? = some x → Same H1 H → Pv i H zs → tt (some x :: cp) H fun c H4 => if c = true then te (some x :: cp) H4 fun v H5 => CpN 1 cp H1 (Pv (i + 1)) (some x :: cp) H5 (zs ++ [v]) else CpN 1 cp H1 (Pv (i + 1)) (some x :: cp) H4 zs)
    (done : ∀ H zs, Same H1 H → Pv xs.length H zs → ∀ p, H p = none → Q (.ref p) (upd H p (.lst zs))) :
    ∃ W : Nat → Nat → St → Hp → List V → Prop, (∃ m, W 0 m (List.replicate 1 none ++ cp) H1 []) ∧ CompW (Itq b K a) (gName 0) tt te Q W := by
  cases b with
  | true => exact comp_list Pv hq hz h0 hlen step done
  | false => exact comp_tup Pv hq hz h0 hlen step done
end L2
namespace S7
open PySem L2 Bw
theorem nu1 : (["k", "at", "left"] : List Str).Nodup := by decide +kernel
theorem nu2 : (["k", "at", "head", "p"] : List Str).Nodup := by decide +kernel
theorem nu3 : (["number", "p", "turn"] : List Str).Nodup := by decide +kernel
theorem nu4 : (["row", "at", "head", "p"] : List Str).Nodup := by decide +kernel
section
variable {P : Program} {w : World} {K : W.Frag} {mg : Str → Option Value} {base : Heap}
theorem comp_less {H : Hp} {la lh : Addr} {LS : List V} {L : List (List Int)} {p : Int} {n k : Nat} {h : List Int} {N : Addr → Prop} {Q : VK} {te : TE} (p2 : 2 ≤ p) (p97 : p ≤ 97) (hn : n ≤ 900) (hk : k < n) (g : H la = some (.lst LS)) (hL : LR N H LS L) (hR : Rws p n L) (gh : H lh = some (.lst (h.map V.int))) (hh : Rw p n h) (hz : LS.length ≤ 1000)
    (te_of : ∀ (x : Addr) (H1 : Hp) (R : VK), spLess K [.int p, .ref x, .ref lh, .int (k : Int)] H1 R (fun _ _ _ => False) → te [some (.ref x), some (.int (k : Int)), some (.ref lh), some (.int p)] H1 R)
    (done : ∀ H' MS, Same H H' → LR (fun a => H a = none) H' MS (L.map (lessM p k h)) → ∀ l, H' l = none → Q (.ref l) (upd H' l (.lst MS))) :
    ∃ W : Nat → Nat → St → Hp → List V → Prop, (∃ m, W 0 m (List.replicate 1 none ++ [some (.int (k : Int)), some (.ref lh), some (.int p)]) H []) ∧ CompW (Itl K la) (gName 0) tTrue te Q W := by
  refine comp_list (xs := LS) (cp := [some (.int (k : Int)), some (.ref lh), some (.int p)]) (fun i H' zs => LR (fun a => H a = none) H' zs ((L.take i).map (lessM p k h))) (.of g) (Nat.le_of_lt (small1000 hz)) LR.nil
    (fun i H' zs h => by rw [h.1, List.length_map]; exact List.length_take_le _ _) ?_ ?_
  · rintro i x H' zs hx' sm h'
    obtain ⟨a, r, rfl, hr, _, ga⟩ := hL.get hx'
    have hRr := hR r (List.mem_of_getElem? hr)
    refine tgo (te_of a H' _ ⟨p, a, lh, r, h, n, k, (k : Int), rfl, rfl, p2, p97, hn, hk, sm _ _ ga, sm _ _ gh, hRr, hh, fun l H2 s2 hnl gl => ?_⟩)
    refine ⟨⟨[_], rfl, rfl⟩, sm.trans s2, ?_⟩
    rw [List.take_add_one, hr]
    show LR _ H2 _ ((L.take i ++ [r]).map (lessM p k h))
    rw [List.map_append]
    exact (h'.mono s2).snoc (none_of sm hnl) gl
  · rintro H' zs sm h' l hl
    rw [hL.1, List.take_length] at h'
    exact done H' zs sm h' l hl
inductive AskRedW (K : W.Frag) (vs : List V) (H : Hp) (Q : L2.VK) (E : L2.XK) : Prop where
  | mk (p : Int) (a : Addr) (b : Bool) (XS : List V) (rs : List (List Int)) (n : Nat) (m : Int) (q0_ : vs = [.int p, .ref a, .int m]) (q1_ : m = n) (q2_ : p ∈ primesL) (q3_ : Sq b K H a XS) (q4_ : HasA K H XS (rs.map intsT)) (q5_ : rs.length ≤ 1000) (q6_ : n ≤ 900) (q7_ : Rws p n rs) (q8_ : ∀ t H' DS, Same H H' → SqT K H' t DS → HasA K H' DS ((redM p rs).map intsT) → Q (.ref t) H') : AskRedW K vs H Q E
noncomputable def spRedW (K : W.Frag) : Sp := fun vs H Q E => AskRedW K vs H Q E
noncomputable abbrev nRW : List Str := ["p", "rows", "width", "left", "done", "at", "some", "head", "turn"]
theorem scRW : FnScope ["p", "rows", "width", "left", "done", "at", "some", "head", "turn"] ["p", "rows", "width"] (defScope sRedW) := ⟨rfl, rfl, rfl, by decide +kernel, rfl, by decide +kernel, by decide +kernel⟩
theorem ok_redW {f fL : Addr} {fd fdL : FuncData} (F : Fun K "_law_reduced" "_law_reduced" sRedW f fd) (T : Txt mg)
    (GL : FnOk P w K mg base CX0 1 fL fdL ["p", "row", "head", "at"] (spLess K)) (kL : Kp K fL) (bL : Binds K fdL ["p", "row", "head", "at"] []) (mL : mg "_law_less" = some (.ref fL)) :
    FnOk P w K mg base CX0 2 f fd ["p", "rows", "width"] (spRedW K) := by
  refine F.ok scRW (fun vs H Q E h => ?_) (fun cdv A outer s H vs Q E hr h => ?_)
  · obtain ⟨p, a, b, XS, rs, n, m, rfl, _⟩ := h
    rfl
  · obtain ⟨p, a, b, XS, rs, n, m, rfl, rfl, pp, hq, hA, hz, hn, hR, q⟩ := h
    obtain ⟨p2, p97⟩ := prime_pos p pp
    have p0 : 0 < p := by lia
    have z1000 : (1000 : Nat) ≤ sizeLine := by decide
    have hXl := lenA hA
    refine ⟨_, pss_cons (ps_set (i := 3) scRW.nd rfl (Or.inr rfl) (pe_comp (N := ["row"]) (own := 1) (caps := []) rfl (piSq K rfl b (pv 1)) (show BlkScope nRW (defScope sRedW) ["row"] 1 [] _ from .mk' (by decide +kernel)) (fun _ _ _ _ _ => pg_name (i := 0) nu0 rfl (Or.inl rfl)) (fun _ _ _ _ _ => pts_nil) (fun _ _ _ _ _ => pe_callTy (cList K rfl) rfl T.list bt_list (pa_cons (pv 0) pa_nil)))) (pss_cons (ps_set (i := 4) scRW.nd rfl (Or.inl rfl) (pe_lst pa_nil)) (pss_cons (ps_for PassesOwn.never rfl (pi_range1 rfl T.range (pa_cons (pv 2) pa_nil)) (pg_name (i := 5) scRW.nd rfl (Or.inr rfl)) (pss_cons (ps_setComp (i := 6) (N := ["k", "at", "left"]) (own := 1) (caps := [5, 3]) rfl scRW.nd rfl rfl (pi_range1 rfl T.range (pa_cons (pe_callB (cLen K rfl) rfl T.len bt_len (pa_cons (pv 3) pa_nil)) pa_nil)) (show BlkScope nRW (defScope sRedW) ["k", "at", "left"] 1 [5, 3] _ from .mk' (by decide +kernel)) (fun _ _ _ _ _ => pg_name (i := 0) nu1 rfl (Or.inl rfl)) (fun _ _ _ _ _ => pts_one (pt_cmpR op_ne (pe_ix (ixL K rfl) (pe_ix (ixL K rfl) (pv 2) (pv 0) (fun _ _ => rfl)) (pv 1) (fun _ _ => rfl)) pe_int (nomark _))) (fun _ _ _ _ _ => pv 0)) (pss_one (ps_if (pt_cmpR op_gt (pe_callB (cLen K rfl) rfl T.len bt_len (pa_cons (pv 6) pa_nil)) pe_int (nomark _)) (pss_cons (ps_set (i := 7) scRW.nd rfl (Or.inr rfl) (pe_bm PySem.F.plainAttrs_list PySem.F.slot_list_pop PySem.F.type_list_pop mt_popAt (pv 3) (pa_cons (pe_ix (ixL K rfl) (pv 6) pe_int (fun _ _ => rfl)) pa_nil))) (pss_cons (ps_set (i := 8) scRW.nd rfl (Or.inr rfl) (pe_ix (ixL K rfl) (pe_comp (N := ["k", "at", "head", "p"]) (own := 1) (caps := [5, 7, 0]) rfl (pi_range2 rfl T.range (pa_cons pe_int (pa_cons (pv 0) pa_nil))) (show BlkScope nRW (defScope sRedW) ["k", "at", "head", "p"] 1 [5, 7, 0] _ from .mk' (by decide +kernel)) (fun _ _ _ _ _ => pg_name (i := 0) nu2 rfl (Or.inl rfl)) (fun _ _ _ _ _ => pts_one (pt_cmpR op_eq (pe_op op_mod (pe_op op_mul (pv 0) (pe_ix (ixL K rfl) (pv 2) (pv 1) (fun _ _ => rfl))) (pv 3)) pe_int (nomark _))) (fun _ _ _ _ _ => pv 0)) pe_int (fun _ _ => rfl))) (pss_cons (ps_set (i := 7) scRW.nd rfl (Or.inr rfl) (pe_comp (N := ["number", "p", "turn"]) (own := 1) (caps := [0, 8]) rfl (piList K rfl (pv 7)) (show BlkScope nRW (defScope sRedW) ["number", "p", "turn"] 1 [0, 8] _ from .mk' (by decide +kernel)) (fun _ _ _ _ _ => pg_name (i := 0) nu3 rfl (Or.inl rfl)) (fun _ _ _ _ _ => pts_nil) (fun _ _ _ _ _ => pe_op op_mod (pe_op op_mul (pv 0) (pv 2)) (pv 1)))) (pss_cons (ps_set (i := 3) scRW.nd rfl (Or.inr rfl) (pe_comp (N := ["row", "at", "head", "p"]) (own := 1) (caps := [5, 7, 0]) rfl (piList K rfl (pv 3)) (show BlkScope nRW (defScope sRedW) ["row", "at", "head", "p"] 1 [5, 7, 0] _ from .mk' (by decide +kernel)) (fun _ _ _ _ _ => pg_name (i := 0) nu4 rfl (Or.inl rfl)) (fun _ _ _ _ _ => pts_nil) (fun _ _ _ _ _ => pe_call GL hr rfl mL kL bL .nil pass0 (pa_cons (pv 3) (pa_cons (pv 0) (pa_cons (pv 2) (pa_cons (pv 1) pa_nil))))))) (pss_one (ps_set (i := 4) scRW.nd rfl (Or.inl rfl) (pe_op op_cat (pe_comp (N := ["row", "at", "head", "p"]) (own := 1) (caps := [5, 7, 0]) rfl (piList K rfl (pv 4)) (show BlkScope nRW (defScope sRedW) ["row", "at", "head", "p"] 1 [5, 7, 0] _ from .mk' (by decide +kernel)) (fun _ _ _ _ _ => pg_name (i := 0) nu4 rfl (Or.inl rfl)) (fun _ _ _ _ _ => pts_nil) (fun _ _ _ _ _ => pe_call GL hr rfl mL kL bL .nil pass0 (pa_cons (pv 3) (pa_cons (pv 0) (pa_cons (pv 2) (pa_cons (pv 1) pa_nil)))))) (pe_lst (pa_cons (pv 7) pa_nil)))))))))
          pss_nil)))) (pss_one (ps_ret (pe_callTy (cTuple K rfl) rfl T.tuple bt_tuple (pa_cons (pe_comp (N := ["row"]) (own := 1) (caps := []) rfl (piList K rfl (pv 4)) (show BlkScope nRW (defScope sRedW) ["row"] 1 [] _ from .mk' (by decide +kernel)) (fun _ _ _ _ _ => pg_name (i := 0) nu0 rfl (Or.inl rfl)) (fun _ _ _ _ _ => pts_nil) (fun _ _ _ _ _ => pe_callTy (cTuple K rfl) rfl T.tuple bt_tuple (pa_cons (pv 0) pa_nil))) pa_nil)))))), ?_⟩
    refine ⟨_, rfl, a, rfl, ⟨_, hq⟩, comp_sq (b := b) (cp := []) (fun i H' zs => LR (fun _ => True) H' zs (rs.take i)) hq (by lia) LR.nil (fun i H' zs h => by rw [h.1]; exact List.length_take_le _ _) ?_ ?_⟩
    · rintro i x H1 zs hx sm h1
      obtain ⟨r, ra, hri, rfl, hra⟩ := rowAt hA hx
      refine tgo ⟨_, rfl, ra, _, rfl, .inr (sm.seqT hra), fun l hl => ⟨⟨[_], rfl, rfl⟩, sm.trans (.upd hl), ?_⟩⟩
      rw [List.take_add_one, hri]
      exact (h1.mono (.upd hl)).snoc trivial upd_same
    rintro H1 LS sm1 hL1 ll hll
    rw [hXl, List.take_length] at hL1
    refine ⟨by decide, fun ld hld => ?_⟩
    have neLD : ld ≠ ll := fun z => by rw [z, upd_same] at hld; cases hld
    have sm2 : Same H (upd (upd H1 ll (.lst LS)) ld (.lst [])) := (sm1.trans (.upd hll)).trans (.upd hld)
    refine ⟨_, rfl, (n : Int), rfl, by lia, by lia, for_range (n := n) (fun k σ H' => All2 (Same H H') (Ex10 fun (ll ld : Addr) (LS DS : List V) (L D : List (List Int)) (s5 s6 s7 s8 : Option V) => All9 (σ = [some (.int p), some (.ref a), some (.int (n : Int)), some (.ref ll), some (.ref ld), s5, s6, s7, s8]) (H ll = none) (ld ≠ ll) (H' ll = some (.lst LS)) (LR (· ≠ ll) H' LS L) (H' ld = some (.lst DS)) (LR (· ≠ ll) H' DS D) (RedOk p n rs k (D, L)) (L.length ≤ 1000))) ⟨sm2, ll, ld, LS, [], rs, [], _, _, _, _, rfl, none_of sm1 hll, neLD, Same.upd hld _ _ upd_same, (hL1.fresh hll).mono (.upd hld), upd_same, LR.nil, .start hR, hz⟩ ?_ ?_⟩
    · rintro k σ H2 hk ⟨sm, ll, ld, LS, DS, L, D, s5, s6, s7, s8, rfl, hllH, neLD, gL, hL, gD, hD, RO, hLl⟩
      rw [Int.zero_add]
      have hRL : Rws p n L := RO.r
      have hRD : Rws p n D := RO.d
      have hLS := hL.1
      have hDS := hD.1
      have hDl := RO.len (Nat.le_of_lt hk)
      refine ⟨_, rfl, ll, _, rfl, .inl (.of gL), (LS.length : Int), rfl, by lia, by lia, comp_rng (n := LS.length) (lo := 0) (cp := [some (.int (k : Int)), some (.ref ll)]) (fun j H' zs => zs = ((List.range j).filter fun u => (L.map fun r => r.getD k 0).getD u 0 ≠ 0).map fun (u : Nat) => V.int u) (by lia) rfl (fun j H' zs e => by rw [e, List.length_map]; exact Nat.le_trans (List.length_filter_le _ _) (by rw [List.length_range]; exact Nat.le_refl _)) ?_ ?_⟩
      · rintro j H' zs hj sm' rfl
        rw [Int.zero_add]
        have hjL : j < L.length := by lia
        obtain ⟨ra, hra, _, gr⟩ := hL.at (List.getElem?_eq_getElem hjL)
        have hkr : k < (L[j]).length := by rw [(hRL _ (List.getElem_mem hjL)).1]; exact hk
        have ec : (L.map fun r => r.getD k 0).getD j 0 = (L[j]).getD k 0 := by rw [List.getD_eq_getElem?_getD, List.getElem?_map, List.getElem?_eq_getElem hjL]; rfl
        refine ⟨_, rfl, _, rfl, ll, _, (j : Int), .ref ra, rfl, rfl, .of (sm' _ _ gL), atI_nat hra, _, rfl, ra, _, (k : Int), _, rfl, rfl, .of (sm' _ _ gr), atI_nat (atRow hkr), rfl, _, rfl, iteNe (fun hne => ?_) (fun heq => ?_)⟩
        · have hne2 : (L.map fun r => r.getD k 0).getD j 0 ≠ 0 := fun z => hne (congrArg V.int (ec ▸ z))
          refine ⟨_, rfl, ⟨[_], rfl, rfl⟩, sm', ?_⟩
          rw [List.range_succ, List.filter_append, List.filter_cons_of_pos (by simpa using hne2), List.filter_nil, List.map_append]; rfl
        · have heq2 : (L.map fun r => r.getD k 0).getD j 0 = 0 := ec.trans (V.int.inj heq)
          refine ⟨⟨[_], rfl, rfl⟩, sm', ?_⟩
          rw [List.range_succ, List.filter_append, List.filter_cons_of_neg (by simpa using heq2), List.filter_nil, List.append_nil]
      rintro H3 zs sm3 ez ls hls
      have ez : zs = (placesM (L.map fun r => r.getD k 0)).map fun (u : Nat) => V.int u := by
        unfold placesM
        rw [List.length_map, ← hLS]; exact ez
      have sm4 : Same H2 (upd H3 ls (.lst zs)) := sm3.trans (.upd hls)
      have g4 : (upd H3 ls (.lst zs)) ls = some (.lst zs) := upd_same
      generalize upd H3 ls (.lst zs) = H4 at sm4 g4 ⊢
      subst ez
      have gL4 := sm4 _ _ gL
      have gD4 := sm4 _ _ gD
      have hL4 := hL.mono sm4
      have hD4 := hD.mono sm4
      refine ⟨_, rfl, ls, _, rfl, .inl (.of g4), _, _, rfl, rfl, _, rfl, ite2 (fun hc => ?_) (fun hc => ?_)⟩
      · cases hpl : placesM (L.map fun r => r.getD k 0) with
        | nil =>
          rw [hpl] at hc
          exact absurd (of_decide_eq_true hc) (by simp)
        | cons i tl =>
          obtain ⟨c1, c2, c3⟩ := places_cons hpl
          rw [List.length_map] at c1
          have hi := List.getElem?_eq_getElem c1
          have ec : ∀ {j : Nat} {r : List Int}, L[j]? = some r → (L.map fun r => r.getD k 0).getD j 0 = r.getD k 0 := fun e => by rw [List.getD_eq_getElem?_getD, List.getElem?_map, e]; rfl
          rw [ec hi] at c2
          have hf : ∀ j r, j < i → L[j]? = some r → r.getD k 0 = 0 := fun j r hj e => by rw [← ec e]; exact c3 j hj
          have hRh : Rw p n L[i] := hRL _ (List.getElem_mem c1)
          have RO2 := RO.head pp hk hi c2 hf
          obtain ⟨ha, hla, neh, gh⟩ := hL4.at hi
          generalize L[i] = h at hi c2 hRh RO2 gh
          rw [hpl] at g4
          refine ⟨_, rfl, .inl ⟨rfl, _, SqL.of gL4⟩, _, rfl, ls, _, 0, .int (i : Int), rfl, rfl, .of g4, atI_nat (j := 0) rfl, ll, LS, (i : Int), i, .ref ha, rfl, rfl, gL4, by lia, by lia, ?_, hla, ?_⟩
          · unfold seqIndex?
            simp
            lia
          have smA : Same H (upd H4 ll (.lst (LS.eraseIdx i))) := (sm.trans sm4).write hllH
          have gA : (upd H4 ll (.lst (LS.eraseIdx i))) ll = some (.lst (LS.eraseIdx i)) := upd_same
          have ghA : (upd H4 ll (.lst (LS.eraseIdx i))) ha = some (.lst (h.map V.int)) := by rw [upd_ne neh]; exact gh
          have hLA : LR (· ≠ ll) (upd H4 ll (.lst (LS.eraseIdx i))) (LS.eraseIdx i) (L.eraseIdx i) := (hL4.erase i).wr
          have hDA : LR (· ≠ ll) (upd H4 ll (.lst (LS.eraseIdx i))) DS D := hD4.wr
          have gDA : (upd H4 ll (.lst (LS.eraseIdx i))) ld = some (.lst DS) := by rw [upd_ne neLD]; exact gD4
          generalize upd H4 ll (.lst (LS.eraseIdx i)) = H5 at smA gA ghA hLA hDA gDA ⊢
          have hkh : k < h.length := by rw [hRh.1]; exact hk
          have hxh := hRh.at p0 k
          have htk := turn_ok (n := h.getD k 0) pp (by lia) hxh.2
          refine ⟨_, rfl, 1, p, rfl, ⟨by decide, by decide, by lia, by lia⟩, comp_rng (n := (p - 1).toNat) (lo := 1) (cp := [some (.int (k : Int)), some (.ref ha), some (.int p)]) (fun j H' zs => zs = ((List.range j).filter fun (u : Nat) => (1 + (u : Int)) * h.getD k 0 % p = 1).map fun (u : Nat) => V.int (1 + (u : Int))) (by lia) rfl (fun j H' zs e => by rw [e, List.length_map]; exact Nat.le_trans (List.length_filter_le _ _) (by rw [List.length_range]; exact Nat.le_refl _)) ?_ ?_⟩
          · rintro j H' zs hj sm' rfl
            refine ⟨_, rfl, _, rfl, _, rfl, ha, _, (k : Int), _, rfl, rfl, .of (sm' _ _ ghA), atI_nat (atRow hkh), _, _, rfl, rfl, .inl ⟨by lia, by lia⟩, _, rfl, _, _, rfl, rfl, (by show (0 : Int) < p; lia), rfl, _, rfl, ite2 (fun heq => ?_) (fun hne => ?_)⟩
            · have heq2 : (1 + (j : Int)) * h.getD k 0 % p = 1 := V.int.inj (of_decide_eq_true heq)
              refine ⟨_, rfl, ⟨[_], rfl, rfl⟩, sm', ?_⟩
              rw [List.range_succ, List.filter_append, List.filter_cons_of_pos (by simpa using heq2), List.filter_nil, List.map_append]; rfl
            · have hne2 : ¬ (1 + (j : Int)) * h.getD k 0 % p = 1 := fun z => hne (decide_eq_true (congrArg V.int z))
              refine ⟨⟨[_], rfl, rfl⟩, sm', ?_⟩
              rw [List.range_succ, List.filter_append, List.filter_cons_of_neg (by simpa using hne2), List.filter_nil, List.append_nil]
          rintro H8 zs sm8 ez8 lc hlc
          have hmem : (turnM p (h.getD k 0) - 1).toNat ∈ (List.range (p - 1).toNat).filter fun (u : Nat) => (1 + (u : Int)) * h.getD k 0 % p = 1 := by
            refine List.mem_filter.mpr ⟨List.mem_range.mpr (by lia), ?_⟩
            have : (1 : Int) + ((turnM p (h.getD k 0) - 1).toNat : Int) = turnM p (h.getD k 0) := by lia
            simp only [this, decide_eq_true_eq]; exact htk.2.2
          cases hfl : (List.range (p - 1).toNat).filter fun (u : Nat) => (1 + (u : Int)) * h.getD k 0 % p = 1 with
          | nil => rw [hfl] at hmem; cases hmem
          | cons u us =>
            have hu1 : u ∈ (List.range (p - 1).toNat).filter fun (u : Nat) => (1 + (u : Int)) * h.getD k 0 % p = 1 := by rw [hfl]; exact List.mem_cons_self
            have hu2 := List.mem_filter.mp hu1
            have hu3 : (1 + (u : Int)) * h.getD k 0 % p = 1 := by simpa using hu2.2
            have hu4 := List.mem_range.mp hu2.1
            rw [hfl] at ez8
            have sm9 : Same H5 (upd H8 lc (.lst zs)) := sm8.trans (.upd hlc)
            have g9 : (upd H8 lc (.lst zs)) lc = some (.lst zs) := upd_same
            generalize upd H8 lc (.lst zs) = H9 at sm9 g9 ⊢
            subst ez8
            refine ⟨lc, _, 0, .int (1 + (u : Int)), rfl, rfl, .of g9, atI_nat (j := 0) rfl, ?_⟩
            have hcu0 : 1 ≤ 1 + (u : Int) := by lia
            have hcu1 : 1 + (u : Int) < p := by lia
            generalize 1 + (u : Int) = cu at hu3 hcu0 hcu1 ⊢
            have ehl := head_lead pp hRh c2 hcu0 hcu1 hu3
            refine ⟨_, rfl, ha, rfl, ⟨_, .of (sm9 _ _ ghA)⟩, comp_list (cp := [some (.int p), some (.int cu)]) (fun j H' zs => zs = ((h.take j).map fun y => y * cu % p).map V.int) (.of (sm9 _ _ ghA)) (by rw [List.length_map, hRh.1]; lia) rfl (fun j H' zs e => by rw [e, List.length_map, List.length_map]; exact List.length_take_le _ _) ?_ ?_⟩
            · rintro j y H' zs hy sm' rfl
              rw [List.getElem?_map] at hy
              cases f1 : h[j]? with
              | none => rw [f1] at hy; cases hy
              | some y' =>
                rw [f1] at hy
                cases hy
                refine tgo ⟨_, rfl, _, rfl, _, _, rfl, rfl, .inr ⟨by lia, by lia⟩, _, rfl, _, _, rfl, rfl, (by show (0 : Int) < p; lia), ⟨[_], rfl, rfl⟩, sm', ?_⟩
                rw [List.take_add_one, f1]
                simp
            rintro HA zs smB rfl lh hlh
            rw [List.length_map, List.take_length, ehl]
            have hlR := leadM_Rw (place := k) p0 hRh
            have smC : Same H5 (upd HA lh (.lst ((leadM p n h k).map V.int))) := (sm9.trans smB).trans (.upd hlh)
            have gC : (upd HA lh (.lst ((leadM p n h k).map V.int))) lh = some (.lst ((leadM p n h k).map V.int)) := upd_same
            generalize upd HA lh (.lst ((leadM p n h k).map V.int)) = HC at smC gC ⊢
            generalize leadM p n h k = hd at hlR gC RO2
            have lcE : ∀ {M : List (List Int)}, Rws p n M → M.map (clearM p hd k) = M.map (lessM p k hd) := fun hM => List.map_congr_left fun r hr => (less_clear p0 hlR (hM r hr)).symm
            have hRE : Rws p n (L.eraseIdx i) := fun r hr => hRL r (List.mem_of_mem_eraseIdx hr)
            rw [lcE hRD, lcE hRE] at RO2
            refine ⟨_, rfl, ll, rfl, ⟨_, .of (smC _ _ gA)⟩, comp_less p2 p97 hn hk (smC _ _ gA) (hLA.mono smC) hRE gC hlR (by rw [List.length_eraseIdx]; split <;> lia) (fun x H1 R z => ⟨_, rfl, _, rfl, _, rfl, _, rfl, z⟩) ?_⟩
            rintro HD MS smD hM lm hlm
            have smE : Same H5 (upd HD lm (.lst MS)) := (smC.trans smD).trans (.upd hlm)
            have gE : (upd HD lm (.lst MS)) lm = some (.lst MS) := upd_same
            have gdE : (upd HD lm (.lst MS)) lh = some (.lst (hd.map V.int)) := Same.upd hlm _ _ (smD _ _ gC)
            have hME : LR (· ≠ lm) (upd HD lm (.lst MS)) MS ((L.eraseIdx i).map (lessM p k hd)) := hM.fresh hlm
            have lmH : H lm = none := none_of ((smA.trans smC).trans smD) hlm
            have nelh : lh ≠ lm := fun z => by
              have := smD _ _ gC
              rw [z, hlm] at this; cases this
            have oldne : ∀ {x : Addr} {o : HO}, H5 x = some o → x ≠ lm := fun e z => by
              have := (smC.trans smD) _ _ e
              rw [z, hlm] at this; cases this
            generalize upd HD lm (.lst MS) = HE at smE gE gdE hME ⊢
            refine ⟨_, rfl, ld, rfl, ⟨_, .of (smE _ _ gDA)⟩, comp_less p2 p97 hn hk (smE _ _ gDA) (hDA.mono smE) hRD gdE hlR (by lia) (fun x H1 R z => ⟨_, rfl, _, rfl, _, rfl, _, rfl, z⟩) ?_⟩
            rintro HF NS smF hN l1 h1
            have hNl := hN.1
            rw [List.length_map] at hNl
            refine ⟨_, rfl, (by show 1 ≤ sizeLine; lia), fun l2 h2 => ⟨l1, l2, NS, [.ref lh], rfl, rfl, Same.upd h2 _ _ upd_same, upd_same, by show NS.length + 1 ≤ sizeLine; lia, fun l3 h3 => ?_⟩⟩
            have smG : Same HE (upd (upd (upd HF l1 (.lst NS)) l2 (.lst [.ref lh])) l3 (.lst (NS ++ [.ref lh]))) := (smF.trans (.upd h1)).trans ((Same.upd h2).trans (.upd h3))
            have smH := smE.trans smG
            have ne3 : l3 ≠ lm := fun z => by
              have := ((smF.trans (Same.upd h1 (o := .lst NS))).trans (Same.upd h2 (o := .lst [.ref lh]))) _ _ gE
              rw [z] at h3; rw [h3] at this; cases this
            have hN2 : LR (· ≠ lm) HF NS (D.map (lessM p k hd)) := ⟨hN.1, fun i v r e1 e2 => by
              obtain ⟨x, e, hx, gx⟩ := hN.2 i v r e1 e2
              have nx : x ≠ lm := fun z => by rw [z, gE] at hx; cases hx
              exact ⟨x, e, nx, gx⟩⟩
            refine ⟨smA.trans smH, lm, l3, MS, NS ++ [.ref lh], _, _, _, _, _, _, rfl, lmH, ne3, smG _ _ gE, hME.mono smG, upd_same, ?_, RO2, by rw [List.length_map, List.length_eraseIdx]; split <;> lia⟩
            exact (hN2.mono ((Same.upd h1).trans ((Same.upd h2).trans (.upd h3)))).snoc nelh (smG _ _ gdE)
      · have hnil : placesM (L.map fun r => r.getD k 0) = [] := by
          cases hpl : placesM (L.map fun r => r.getD k 0) with
          | nil => rfl
          | cons i tl => rw [hpl] at hc; exact absurd (decide_eq_true (by simp)) hc
        refine ⟨sm.trans sm4, ll, ld, LS, DS, L, D, _, _, _, _, rfl, hllH, neLD, gL4, hL4, gD4, hD4, RO.skip fun r hr => ?_, hLl⟩
        obtain ⟨j, hj, rfl⟩ := List.mem_iff_getElem.mp hr
        have := places_nil hnil j (by rw [List.length_map]; exact hj)
        rwa [List.getD_eq_getElem?_getD, List.getElem?_map, List.getElem?_eq_getElem hj] at this
    · rintro σ H2 ⟨sm, ll, ld, LS, DS, L, D, s5, s6, s7, s8, rfl, hllH, neLD, gL, hL, gD, hD, RO, hLl⟩
      have eD := RO.done pp hR
      have hDl := RO.len (Nat.le_refl n)
      have hDS := hD.1
      refine ⟨_, rfl, ld, rfl, ⟨_, .of gD⟩, comp_list (cp := []) (fun i H' zs => HasA K H' zs ((D.take i).map intsT)) (.of gD) (by lia) .nil (fun i H' zs h => by rw [lenA h]; exact List.length_take_le _ _) ?_ ?_⟩
      · rintro i x H3 zs hx sm3 h3
        obtain ⟨ra, r, rfl, hr', _, gr⟩ := hD.get hx
        refine tgo ⟨_, rfl, ra, _, rfl, .inl ⟨.of (sm3 _ _ gr), fun t ht => ⟨⟨[_], rfl, rfl⟩, sm3.trans (.upd ht), ?_⟩⟩⟩
        rw [List.take_add_one, hr']
        show HasA K _ _ ((D.take i ++ [r]).map intsT)
        rw [List.map_append]
        exact (h3.mono (.upd ht)).append (.cons (hasT_of (.of upd_same)) .nil)
      · rintro H3 TS sm3 h3 lt hlt
        rw [hDS, List.take_length, eD] at h3
        refine ⟨lt, _, rfl, .inl ⟨.of upd_same, fun t ht => q t _ TS ((sm.trans sm3).trans ((Same.upd hlt).trans (.upd ht))) (.of upd_same) (h3.mono ((Same.upd hlt).trans (.upd ht)))⟩⟩
end
section
variable {P : Program} {w : World} {K : W.Frag} {mg : Str → Option Value} {base : Heap}
noncomputable abbrev nEv : List Str := ["p", "one", "other", "left", "wire", "kept", "reached_v", "late", "asked", "first", "kept_one", "second", "kept_other"]
theorem scEv : FnScope ["p", "one", "other", "left", "wire", "kept", "reached_v", "late", "asked", "first", "kept_one", "second", "kept_other"] ["p", "one", "other"] (defScope s_law_ever) := ⟨rfl, rfl, rfl, by decide +kernel, rfl, by decide +kernel, by decide +kernel⟩
theorem ok_ever {f fU fT fR : Addr} {fd fdU fdT fdR : FuncData} (F : Fun K "_law_ever" "_law_ever" s_law_ever f fd) (T : Txt mg)
    (GU : FnOk P w K mg base CX0 1 fU fdU ["length", "at"] (spUnit K)) (kU : Kp K fU) (bU : Binds K fdU ["length", "at"] []) (mU : mg "_law_unit" = some (.ref fU))
    (GT : FnOk P w K mg base CX0 2 fT fdT ["p", "some", "asked", "kept"] (spTick K)) (kT : Kp K fT) (bT : Binds K fdT ["p", "some", "asked", "kept"] []) (mT : mg "_law_tick" = some (.ref fT))
    (GR : FnOk P w K mg base CX0 2 fR fdR ["p", "rows", "width"] (spRedW K)) (kR : Kp K fR) (bR : Binds K fdR ["p", "rows", "width"] []) (mR : mg "_law_reduced" = some (.ref fR)) :
    FnOk P w K mg base CX0 3 f fd ["p", "one", "other"] (spEver K) := by
  refine F.ok scEv (fun vs H Q E h => ?_) (fun cdv A outer s H vs Q E hr h => ?_)
  · obtain ⟨p, a1, a2, m1, m2, rfl, _⟩ := h
    rfl
  · obtain ⟨p, a1, a2, m1, m2, rfl, pp, hm1, hm2, MO1, MO2, el, er, l12, r12, s13, t13, qS, qP⟩ := h
    obtain ⟨p2, p97⟩ := prime_pos p pp
    have p0 : 0 < p := by lia
    have hr1 : Room 1 _ := hr.mono (by decide)
    have hu := hr.units
    have z1000 : (1000 : Nat) ≤ sizeLine := by decide
    refine ⟨_, pss_cons (ps_set (i := 3) scEv.nd rfl (Or.inl rfl) (pe_ix (ixT K rfl) (pv 1) pe_int (fun _ _ => rfl))) (pss_cons (ps_setComp (i := 5) (N := ["wire", "one", "other"]) (own := 1) (caps := [1, 2]) rfl scEv.nd rfl rfl (pi_range1 rfl T.range (pa_cons (pv 3) pa_nil)) (show BlkScope nEv (defScope s_law_ever) ["wire", "one", "other"] 1 [1, 2] _ from .mk' (by decide +kernel)) (fun _ _ _ _ _ => pg_name (i := 0) ny0 rfl (Or.inl rfl)) (fun _ _ _ _ _ => pts_nil) (fun _ _ _ _ _ => pe_tup (pa_cons (pe_op (opRepT K rfl) (pe_tup (pa_cons pe_int pa_nil)) (pe_ix (ixT K rfl) (pv 1) pe_int (fun _ _ => rfl))) (pa_cons (pe_op (opRepT K rfl) (pe_tup (pa_cons pe_int pa_nil)) (pe_ix (ixT K rfl) (pv 2) pe_int (fun _ _ => rfl))) pa_nil)))) (pss_cons (ps_set (i := 6) scEv.nd rfl (Or.inl rfl) (pe_lst pa_nil)) (pss_cons (ps_for PassesOwn.never rfl (pi_range1 rfl T.range (pa_cons (pe_op op_add (pe_op op_add (pe_ix (ixT K rfl) (pv 1) pe_int (fun _ _ => rfl)) (pe_ix (ixT K rfl) (pv 2) pe_int (fun _ _ => rfl))) pe_int) pa_nil)) (pg_name (i := 7) scEv.nd rfl (Or.inl rfl)) (pss_one (ps_for PassesOwn.never rfl (pi_range1 rfl T.range (pa_cons (pv 3) pa_nil)) (pg_name (i := 4) scEv.nd rfl (Or.inl rfl)) (pss_cons (ps_set (i := 8) scEv.nd rfl (Or.inl rfl) (pe_call GU hr1 rfl mU kU bU .nil pass0 (pa_cons (pv 3) (pa_cons (pv 4) pa_nil)))) (pss_cons (ps_if (pt_cmpR op_gt (pv 7) pe_int (nomark _)) (pss_one (ps_set (i := 8) scEv.nd rfl (Or.inl rfl) (pe_op (opRepT K rfl) (pe_tup (pa_cons pe_int pa_nil)) (pv 3)))) pss_nil) (pss_cons (ps_asg (pe_call GT hr rfl mT kT bT .nil pass0 (pa_cons (pv 0) (pa_cons (pv 1) (pa_cons (pv 8) (pa_cons (pe_ix (ixT K rfl) (pe_ix (ixL K rfl) (pv 5) (pv 4) (fun _ _ => rfl)) pe_int (fun _ _ => rfl)) pa_nil))))) (pgTup (n := 2) K rfl rfl (pgs_cons (pg_name (i := 9) scEv.nd rfl (Or.inl rfl)) (pgs_cons (pg_name (i := 10) scEv.nd rfl (Or.inl rfl)) pgs_nil)))) (pss_cons (ps_asg (pe_call GT hr rfl mT kT bT .nil pass0 (pa_cons (pv 0) (pa_cons (pv 2) (pa_cons (pv 8) (pa_cons (pe_ix (ixT K rfl) (pe_ix (ixL K rfl) (pv 5) (pv 4) (fun _ _ => rfl)) pe_int (fun _ _ => rfl)) pa_nil))))) (pgTup (n := 2) K rfl rfl (pgs_cons (pg_name (i := 11) scEv.nd rfl (Or.inl rfl)) (pgs_cons (pg_name (i := 12) scEv.nd rfl (Or.inl rfl)) pgs_nil)))) (pss_cons (ps_if (pt_cmpR (opNeD K rfl hu) (pv 9) (pv 11) (nomark _)) (pss_one (ps_ret (pe_tup (pa_cons pe_str (pa_cons (pe_op op_cat (pe_lst (pa_cons (pe_call GU hr1 rfl mU kU bU .nil pass0 (pa_cons (pv 3) (pa_cons (pv 4) pa_nil))) pa_nil)) (pe_op op_rep (pe_lst (pa_cons (pe_op (opRepT K rfl) (pe_tup (pa_cons pe_int pa_nil)) (pv 3)) pa_nil)) (pv 7))) pa_nil))))) pss_nil) (pss_cons (ps_asg (pe_tup (pa_cons (pv 10) (pa_cons (pv 12) pa_nil))) (pg_sub (pv 5) (pv 4) set_list)) (pss_one (ps_expr (pe_bm PySem.F.plainAttrs_list PySem.F.slot_list_append PySem.F.type_list_append mt_append (pv 6) (pa_cons (pe_op (opCatA K rfl) (pv 10) (pv 12)) pa_nil))))))))))))) (pss_one (ps_ret (pe_tup (pa_cons pe_str (pa_cons (pe_call GR hr rfl mR kR bR .nil pass0 (pa_cons (pv 0) (pa_cons (pv 6) (pa_cons (pe_op op_add (pe_ix (ixT K rfl) (pv 1) pe_int (fun _ _ => rfl)) (pe_ix (ixT K rfl) (pv 2) pe_int (fun _ _ => rfl))) pa_nil)))) pa_nil)))))))), ?_⟩
    obtain ⟨u1, RS1, h11, h12, h13⟩ := hm1
    obtain ⟨u2, RS2, h21, h22, h23⟩ := hm2
    refine ⟨_, rfl, a1, _, 0, _, rfl, rfl, h11, atI_nat (j := 0) rfl, ?_⟩
    refine ⟨_, rfl, (m1.left : Int), rfl, by lia, by lia, comp_rng (n := m1.left) (lo := 0) (cp := [some (.ref a1), some (.ref a2)]) (fun i H' zs => zs.length = i ∧ ∀ w', w' < i → ∃ t a b, zs[w']? = some (.ref t) ∧ SqT K H' t [.ref a, .ref b] ∧ SqT K H' a ((stM p m1 w' 0).map V.int) ∧ SqT K H' b ((stM p m2 w' 0).map V.int)) (by lia) ⟨rfl, fun w' h => by lia⟩ (fun i H' zs h => by rw [h.1]; exact Nat.le_refl _) ?_ ?_⟩
    · rintro i H1 zs hi sm ⟨hzl, hz⟩
      refine tgo ⟨by decide, fun t1 ht1 => ⟨_, rfl, a1, _, 1, _, rfl, rfl, (sm.trans (.upd ht1)).seqT h11, atI_nat (j := 1) rfl, t1, (m1.states : Int), _, rfl, rfl, .of upd_same, by simp, by lia, by lia, (by show 1 * ((m1.states : Nat) : Int).toNat ≤ sizeLine; lia), fun t2 H2 s2 ht2 => ?_⟩⟩
      rw [Int.toNat_natCast, flatR] at ht2
      have s3 := sm.trans ((Same.upd ht1 (o := .tup [.int 0])).trans s2)
      refine ⟨by decide, fun t3 ht3 => ⟨_, rfl, a2, _, 1, _, rfl, rfl, (s3.trans (.upd ht3)).seqT h21, atI_nat (j := 1) rfl, t3, (m2.states : Int), _, rfl, rfl, .of upd_same, by simp, by lia, by lia, (by show 1 * ((m2.states : Nat) : Int).toNat ≤ sizeLine; lia), fun t4 H4 s4 ht4 => ⟨(by show 2 ≤ sizeLine; lia), fun t5 ht5 => ?_⟩⟩⟩
      rw [Int.toNat_natCast, flatR] at ht4
      have s6 : Same H2 (upd H4 t5 (.tup [.ref t2, .ref t4])) := ((Same.upd ht3).trans s4).trans (.upd ht5)
      have s7 : Same H1 (upd H4 t5 (.tup [.ref t2, .ref t4])) := ((Same.upd ht1).trans s2).trans s6
      refine ⟨⟨[_], rfl, rfl⟩, sm.trans s7, by rw [List.length_append, hzl]; rfl, fun w' hw' => ?_⟩
      by_cases e : w' < i
      · obtain ⟨t, a, b, h1, h2, h3, h4⟩ := hz w' e
        exact ⟨t, a, b, by rw [List.getElem?_append_left (by lia)]; exact h1, s7.seqT h2, s7.seqT h3, s7.seqT h4⟩
      · have ew : w' = i := by lia
        subst ew
        refine ⟨t5, t2, t4, ?_, .of upd_same, s6.seqT ht2, (Same.upd ht5).seqT ht4⟩
        rw [List.getElem?_append_right (by lia), hzl, Nat.sub_self]; rfl
    rintro H1 KS sm1 ⟨hKl, hKS⟩ lk hlk
    refine ⟨by decide, fun lr hlr => ?_⟩
    have hlkH := none_of sm1 hlk
    have hlrH : H lr = none := none_of (sm1.trans (.upd hlk)) hlr
    have neKR : lr ≠ lk := fun z => by rw [z, upd_same] at hlr; cases hlr
    have sm2 : Same H (upd (upd H1 lk (.lst KS)) lr (.lst [])) := (sm1.trans (.upd hlk)).trans (.upd hlr)
    have gk : (upd (upd H1 lk (.lst KS)) lr (.lst [])) lk = some (.lst KS) := Same.upd hlr _ _ upd_same
    have gr : (upd (upd H1 lk (.lst KS)) lr (.lst [])) lr = some (.lst []) := upd_same
    have hK0 : KP K (upd (upd H1 lk (.lst KS)) lr (.lst [])) p m1 m2 KS (fun _ => 0) := KP.mono ⟨hKl, hKS⟩ ((Same.upd hlk).trans (.upd hlr))
    generalize upd (upd H1 lk (.lst KS)) lr (.lst []) = H2 at sm2 gk gr hK0 ⊢
    refine ⟨_, rfl, a1, _, 1, _, rfl, rfl, sm2.seqT h11, atI_nat (j := 1) rfl, _, rfl, a2, _, 1, _, rfl, rfl, sm2.seqT h21, atI_nat (j := 1) rfl, _, _, rfl, rfl, _, _, rfl, rfl, (m1.states : Int) + (m2.states : Int) + 1, rfl, by lia, by lia, for_range (n := ((m1.states : Int) + (m2.states : Int) + 1).toNat) (fun t σ H' => All3 (Same H H') (EqUp p m1 m2 t 0) (Ex9 fun (KS RS : List V) (s4 s7 s8 s9 s10 s11 s12 : Option V) => All5 (σ = [some (.int p), some (.ref a1), some (.ref a2), some (.int (m1.left : Int)), s4, some (.ref lk), some (.ref lr), s7, s8, s9, s10, s11, s12]) (H' lk = some (.lst KS)) (KP K H' p m1 m2 KS (fun _ => t)) (H' lr = some (.lst RS)) (HasA K H' RS ((reachL p m1 m2 t).map intsT)))) ⟨sm2, fun t' w' h => by lia, KS, [], _, _, _, _, _, _, _, rfl, gk, hK0, gr, .nil⟩ ?_ ?_⟩
    · rintro t σ H3 ht ⟨sm3, hE3, KS3, RS3, s4, s7, s8, s9, s10, s11, s12, rfl, gk3, hK3, gr3, hR3⟩
      rw [Int.zero_add]
      refine ⟨_, rfl, (m1.left : Int), rfl, by lia, by lia, for_range (n := m1.left) (fun wi σ H' => All3 (Same H H') (EqUp p m1 m2 t wi) (Ex8 fun (KS RS : List V) (s4 s8 s9 s10 s11 s12 : Option V) => All5 (σ = [some (.int p), some (.ref a1), some (.ref a2), some (.int (m1.left : Int)), s4, some (.ref lk), some (.ref lr), some (.int (t : Int)), s8, s9, s10, s11, s12]) (H' lk = some (.lst KS)) (KP K H' p m1 m2 KS (fun w' => if w' < wi then t + 1 else t)) (H' lr = some (.lst RS)) (HasA K H' RS ((reachW p m1 m2 t wi).map intsT)))) ⟨sm3, hE3, KS3, RS3, _, _, _, _, _, _, rfl, gk3, hK3.of fun w' _ => by rw [if_neg (by lia)], gr3, by unfold reachW; rw [List.range_zero, List.map_nil, List.append_nil]; exact hR3⟩ ?_ ?_⟩
      · rintro wi σ H4 hwi ⟨sm4, hE4, KS4, RS4, q4, q8, q9, q10, q11, q12, rfl, gk4, hK4, gr4, hR4⟩
        rw [Int.zero_add]
        refine ⟨_, rfl, _, rfl, m1.left, wi, (m1.left : Int), (wi : Int), rfl, rfl, rfl, hwi, by lia, fun tu H5 s5 htu => ?_⟩
        dsimp only [gName]
        refine seq_by (fun σ H' => Same H4 H' ∧ ∃ ta, σ = [some (.int p), some (.ref a1), some (.ref a2), some (.int (m1.left : Int)), some (.int (wi : Int)), some (.ref lk), some (.ref lr), some (.int (t : Int)), some (.ref ta), q9, q10, q11, q12] ∧ SqT K H' ta ((askW m1.left wi t).map V.int)) (fun N hN => ?_) (fun σ6 H6 hJ => ?_)
        · refine ⟨_, rfl, _, _, rfl, rfl, _, rfl, ite2 (fun hc => ?_) (fun hc => ?_)⟩
          · have ht0 : t ≠ 0 := by have := of_decide_eq_true hc; lia
            refine ⟨by decide, fun t1 ht1 => ⟨_, rfl, t1, (m1.left : Int), _, rfl, rfl, .of upd_same, by simp, by lia, by lia, (by show 1 * ((m1.left : Nat) : Int).toNat ≤ sizeLine; lia), fun t2 H6 s6 ht2 => ?_⟩⟩
            rw [Int.toNat_natCast, flatR] at ht2
            exact hN _ _ ⟨s5.trans ((Same.upd ht1).trans s6), t2, rfl, by unfold askW; rw [if_neg ht0]; exact ht2⟩
          · have ht0 : t = 0 := by
              apply Classical.byContradiction
              intro z
              exact hc (decide_eq_true (show (0 : Int) < (t : Int) by lia))
            exact hN _ _ ⟨s5, tu, rfl, by unfold askW; rw [if_pos ht0]; exact htu⟩
        obtain ⟨s6, ta, rfl, hta⟩ := hJ
        have hal := ask_len (t := t) hwi
        obtain ⟨kt, ka, kb, hk1, hk2, hk3, hk4⟩ := hK4.2 wi hwi
        dsimp only at hk3 hk4
        rw [if_neg (by lia)] at hk3 hk4
        have S1 := st_Rw p0 MO1 wi t
        have S2 := st_Rw p0 MO2 wi t
        have gk6 := s6 _ _ gk4
        have sm6 := sm4.trans s6
        have hM1 : MH K H6 a1 m1 := ⟨u1, RS1, sm6.seqT h11, sm6.seqT h12, h13.mono sm6⟩
        refine ⟨_, rfl, _, rfl, _, rfl, _, rfl, _, rfl, lk, _, (wi : Int), .ref kt, rfl, rfl, .of gk6, atI_nat hk1, kt, _, 0, .ref ka, rfl, rfl, s6.seqT hk2, atI_nat (j := 0) rfl, p, a1, ta, ka, m1, askW m1.left wi t, stM p m1 wi t, rfl, p2, p97, hM1, MO1, by lia, by lia, by lia, hta, s6.seqT hk3, hal, S1.1, fun v1 o1 n1 H7 s7 hv1 ho1 hn1 => ?_⟩
        refine ⟨v1, _, rfl, hv1, rfl, _, _, rfl, _, _, rfl, rfl, ?_⟩
        have sm7 := sm6.trans s7
        have s67 := s6.trans s7
        have hM2 : MH K H7 a2 m2 := ⟨u2, RS2, sm7.seqT h21, sm7.seqT h22, h23.mono sm7⟩
        refine ⟨_, rfl, _, rfl, _, rfl, _, rfl, _, rfl, lk, _, (wi : Int), .ref kt, rfl, rfl, .of (s7 _ _ gk6), atI_nat hk1, kt, _, 1, .ref kb, rfl, rfl, s67.seqT hk2, atI_nat (j := 1) rfl, p, a2, ta, kb, m2, askW m1.left wi t, stM p m2 wi t, rfl, p2, p97, hM2, MO2, by lia, by lia, by lia, s7.seqT hta, s67.seqT hk4, by rw [hal, el], S2.1, fun v2 o2 n2 H8 s8' hv2 ho2 hn2 => ?_⟩
        refine ⟨v2, _, rfl, hv2, rfl, _, _, rfl, _, _, rfl, rfl, ?_⟩
        have eA1 : (outM p m1 (askW m1.left wi t ++ stM p m1 wi t)).take m1.right = ansM p m1 wi t := rfl
        have eA2 : (outM p m2 (askW m1.left wi t ++ stM p m2 wi t)).take m2.right = ansM p m2 wi t := by unfold ansM; rw [el]
        have eN1 : (outM p m1 (askW m1.left wi t ++ stM p m1 wi t)).drop m1.right = stM p m1 wi (t + 1) := rfl
        have eN2 : (outM p m2 (askW m1.left wi t ++ stM p m2 wi t)).drop m2.right = stM p m2 wi (t + 1) := by rw [stM, el]
        rw [eA1] at ho1
        rw [eA2] at ho2
        rw [eN1] at hn1
        rw [eN2] at hn2
        have s78 := s67.trans s8'
        have sm8 := sm4.trans s78
        refine ⟨_, rfl, _, rfl, intsT (ansM p m1 wi t), intsT (ansM p m2 wi t), hasT_of (s8'.seqT ho1), hasT_of ho2, kqd_intsT 7 _, kqd_intsT 7 _, _, rfl, ?_⟩
        by_cases hans : ansM p m1 wi t = ansM p m2 wi t
        · refine iteNeD (by rw [hans]) ?_
          have gk8 := s78 _ _ gk4
          have gr8 := s78 _ _ gr4
          refine ⟨_, rfl, _, rfl, (by show 2 ≤ sizeLine; lia), fun tn htn => ?_⟩
          have s9' : Same H8 (upd H8 tn (.tup [.ref n1, .ref n2])) := .upd htn
          have g9 : (upd H8 tn (.tup [.ref n1, .ref n2])) tn = some (.tup [.ref n1, .ref n2]) := upd_same
          generalize upd H8 tn (.tup [.ref n1, .ref n2]) = H9 at s9' g9 ⊢
          have hwk : wi < KS4.length := by rw [hK4.1]; exact hwi
          refine ⟨_, rfl, _, rfl, lk, KS4, (wi : Int), wi, rfl, rfl, s9' _ _ gk8, ?_, ?_⟩
          · unfold ixN
            rw [if_pos (by lia), if_pos (by lia)]
            simp
          have hKn := ((hK4.mono (s78.trans s9')).set hwi (.of g9) ((s8'.trans s9').seqT hn1) (s9'.seqT hn2)).wr (o := .lst (KS4.set wi (.ref tn))) (s9' _ _ gk8)
          have grA : (upd H9 lk (.lst (KS4.set wi (.ref tn)))) lr = some (.lst RS4) := by rw [upd_ne neKR]; exact s9' _ _ gr8
          have hRA : HasA K (upd H9 lk (.lst (KS4.set wi (.ref tn)))) RS4 ((reachW p m1 m2 t wi).map intsT) := HasA.wr (s9' _ _ gk8) (hR4.mono (s78.trans s9'))
          have n1A : SqT K (upd H9 lk (.lst (KS4.set wi (.ref tn)))) n1 ((stM p m1 wi (t + 1)).map V.int) := SqT.wr ((s8'.trans s9').seqT hn1) (s9' _ _ gk8)
          have n2A : SqT K (upd H9 lk (.lst (KS4.set wi (.ref tn)))) n2 ((stM p m2 wi (t + 1)).map V.int) := SqT.wr (s9'.seqT hn2) (s9' _ _ gk8)
          have smA : Same H (upd H9 lk (.lst (KS4.set wi (.ref tn)))) := (sm8.trans s9').write hlkH
          have gkA : (upd H9 lk (.lst (KS4.set wi (.ref tn)))) lk = some (.lst (KS4.set wi (.ref tn))) := upd_same
          generalize upd H9 lk (.lst (KS4.set wi (.ref tn))) = HA at hKn grA hRA n1A n2A smA gkA ⊢
          have S1' := st_Rw p0 MO1 wi (t + 1)
          have S2' := st_Rw p0 MO2 wi (t + 1)
          refine ⟨_, rfl, .inl ⟨rfl, _, SqL.of grA⟩, _, rfl, _, rfl, n1, n2, _, _, rfl, rfl, n1A, n2A, by rw [List.length_map, List.length_map, S1'.1, S2'.1]; lia, fun tc HB sB htc => ?_⟩
          rw [← List.map_append] at htc
          have grB := sB _ _ grA
          have hlen4 : RS4.length = t * m1.left + wi := by
            rw [lenA hRA]
            unfold reachW
            rw [List.length_append, reach_len, List.length_map, List.length_range]
          have hsmall : t * m1.left ≤ 26 * 12 := Nat.mul_le_mul (by lia) l12
          refine ⟨lr, RS4, _, rfl, rfl, grB, by lia, ?_⟩
          refine ⟨(smA.trans sB).write hlrH, fun t' w' h => ?_, KS4.set wi (.ref tn), RS4 ++ [.ref tc], _, _, _, _, _, _, rfl, by rw [upd_ne (Ne.symm neKR)]; exact sB _ _ gkA, ?_, upd_same, ?_⟩
          · rcases h with h | ⟨h1, h2⟩
            · exact hE4 t' w' (.inl h)
            · by_cases e : w' = wi
              · subst e h1; exact hans
              · exact hE4 t' w' (.inr ⟨h1, by lia⟩)
          · refine ((hKn.mono sB).wr grB).of fun w' _ => ?_
            by_cases e : w' = wi
            · rw [if_pos e, if_pos (by lia)]
            · rw [if_neg e]
              by_cases e2 : w' < wi
              · rw [if_pos e2, if_pos (by lia)]
              · rw [if_neg e2, if_neg (by lia)]
          · refine HasA.wr grB ?_
            have er' : reachW p m1 m2 t (wi + 1) = reachW p m1 m2 t wi ++ [pairM p m1 m2 wi (t + 1)] := by
              unfold reachW
              rw [List.range_succ, List.map_append, List.append_assoc]; rfl
            rw [er', List.map_append]
            exact (hRA.mono sB).append (.cons (hasT_of htc) .nil)
        · refine iteNeD' (fun z => hans ?_) ?_
          · have := W.Dat.tuple.inj z
            exact (List.map_inj_right fun a b e => W.Dat.int.inj e).mp this
          refine ⟨_, rfl, _, rfl, m1.left, wi, (m1.left : Int), (wi : Int), rfl, rfl, rfl, hwi, by lia, fun tu2 H9 s9' htu2 => ⟨(by show 1 ≤ sizeLine; lia), fun b1 hb1 => ?_⟩⟩
          refine ⟨by decide, fun b2 hb2 => ⟨_, rfl, b2, (m1.left : Int), _, rfl, rfl, .of upd_same, by simp, by lia, by lia, (by show 1 * ((m1.left : Nat) : Int).toNat ≤ sizeLine; lia), fun b3 HA sA hb3 => ⟨(by show 1 ≤ sizeLine; lia), fun b4 hb4 => ⟨_, rfl, b4, (t : Int), _, rfl, rfl, upd_same, by lia, by lia, (by show 1 * ((t : Nat) : Int).toNat ≤ sizeLine; lia), fun b5 hb5 => ?_⟩⟩⟩⟩
          rw [Int.toNat_natCast, flatR] at hb3
          rw [Int.toNat_natCast, flat_one]
          have sB : Same H9 HA := (Same.upd hb1).trans ((Same.upd hb2).trans sA)
          have sC : Same HA (upd (upd HA b4 (.lst [.ref b3])) b5 (.lst (List.replicate t (.ref b3)))) := (Same.upd hb4).trans (.upd hb5)
          have gb1 : (upd (upd HA b4 (.lst [.ref b3])) b5 (.lst (List.replicate t (.ref b3)))) b1 = some (.lst [.ref tu2]) := (((Same.upd hb2).trans sA).trans sC) _ _ upd_same
          have gb5 : (upd (upd HA b4 (.lst [.ref b3])) b5 (.lst (List.replicate t (.ref b3)))) b5 = some (.lst (List.replicate t (.ref b3))) := upd_same
          generalize upd (upd HA b4 (.lst [.ref b3])) b5 (.lst (List.replicate t (.ref b3))) = HC at sC gb1 gb5 ⊢
          refine ⟨b1, b5, [.ref tu2], List.replicate t (.ref b3), rfl, rfl, gb1, gb5, by rw [List.length_replicate]; show 1 + t ≤ sizeLine; lia, fun b6 hb6 => ⟨(by show 2 ≤ sizeLine; lia), fun b7 hb7 => ?_⟩⟩
          have sD : Same HC (upd (upd HC b6 (.lst ([.ref tu2] ++ List.replicate t (.ref b3)))) b7 (.tup [.str "parted", .ref b6])) := (Same.upd hb6).trans (.upd hb7)
          have gb6 : (upd (upd HC b6 (.lst ([.ref tu2] ++ List.replicate t (.ref b3)))) b7 (.tup [.str "parted", .ref b6])) b6 = some (.lst ([.ref tu2] ++ List.replicate t (.ref b3))) := Same.upd hb7 _ _ upd_same
          refine qP b7 b6 ([.ref tu2] ++ List.replicate t (.ref b3)) t wi _ (by lia) hwi hE4 hans (sm8.trans ((s9'.trans sB).trans (sC.trans sD))) (.of upd_same) gb6 ?_
          rw [List.map_cons, List.map_replicate]
          exact .cons (hasT_of (((sB.trans sC).trans sD).seqT htu2)) (HasA.rep (hasT_of ((sC.trans sD).seqT hb3)) t)
      · rintro σ H4 ⟨sm4, hE4, KS4, RS4, q4, q8, q9, q10, q11, q12, rfl, gk4, hK4, gr4, hR4⟩
        refine ⟨sm4, fun t' w' h => ?_, KS4, RS4, _, _, _, _, _, _, _, rfl, gk4, hK4.of fun w' hw' => by rw [if_pos hw'], gr4, hR4⟩
        rcases h with ⟨h1, h2⟩ | h
        · by_cases e : t' = t
          · subst e; exact hE4 t' w' (.inr ⟨rfl, h2⟩)
          · exact hE4 t' w' (.inl ⟨by lia, h2⟩)
        · lia
    · rintro σ H3 ⟨sm3, hE3, KS3, RS3, s4, s7, s8, s9, s10, s11, s12, rfl, gk3, hK3, gr3, hR3⟩
      have en : ((m1.states : Int) + (m2.states : Int) + 1).toNat = m1.states + m2.states + 1 := by lia
      rw [en] at hE3 hR3
      have hsz : (m1.states + m2.states + 1) * m1.left ≤ 27 * 12 := Nat.mul_le_mul (by lia) l12
      refine ⟨_, rfl, _, rfl, _, rfl, a1, _, 1, _, rfl, rfl, sm3.seqT h11, atI_nat (j := 1) rfl, _, rfl, a2, _, 1, _, rfl, rfl, sm3.seqT h21, atI_nat (j := 1) rfl, _, _, rfl, rfl, p, lr, true, RS3, reachL p m1 m2 (m1.states + m2.states + 1), m1.states + m2.states, (m1.states : Int) + (m2.states : Int), rfl, by lia, pp, .of gr3, hR3, by rw [reach_len]; lia, by lia, reach_Rws p0 MO1 MO2 _, fun tp H4 DS sm4 htp hDS => ⟨(by show 2 ≤ sizeLine; lia), fun v hv => ?_⟩⟩
      exact qS v tp DS _ hE3 ((sm3.trans sm4).trans (.upd hv)) (.of upd_same) ((Same.upd hv).seqT htp) (hDS.mono (.upd hv))
end
theorem zst_len {p : Int} {m : Mach} (MO : MachOk p m) {x : List Int} (hx : x.length = m.states) : ∀ i, (zst p m x i).length = m.states
  | 0 => hx
  | i + 1 => by rw [zst, apM, List.length_map, stA_len MO]
section
variable {P : Program} {w : World} {K : W.Frag} {mg : Str → Option Value} {base : Heap}
inductive AskResp (K : W.Frag) (vs : List V) (H : Hp) (Q : L2.VK) (E : L2.XK) : Prop where
  | mk (p : Int) (a b : Addr) (m : Mach) (y : List Int) (q0_ : vs = [.int p, .ref a, .ref b]) (q1_ : 2 ≤ p) (q2_ : p ≤ 97) (q3_ : MH K H a m) (q4_ : MachOk p m) (q5_ : m.left ≤ 12) (q6_ : m.right ≤ 12) (q7_ : m.states ≤ 13) (q8_ : SqT K H b (y.map V.int)) (q9_ : y.length = m.states) (q10_ : AnyT K H ((respB p m y m.states).map V.int) Q) : AskResp K vs H Q E
noncomputable def spResp (K : W.Frag) : Sp := fun vs H Q E => AskResp K vs H Q E
theorem scRs : FnScope ["p", "some", "kept", "found", "turn", "answer"] ["p", "some", "kept"] (defScope s_law_response) := ⟨rfl, rfl, rfl, by decide +kernel, rfl, by decide +kernel, by decide +kernel⟩
theorem ok_resp {f fT : Addr} {fd fdT : FuncData} (F : Fun K "_law_response" "_law_response" s_law_response f fd) (T : Txt mg)
    (GT : FnOk P w K mg base CX0 2 fT fdT ["p", "some", "asked", "kept"] (spTick K)) (kT : Kp K fT) (bT : Binds K fdT ["p", "some", "asked", "kept"] []) (mT : mg "_law_tick" = some (.ref fT)) :
    FnOk P w K mg base CX0 3 f fd ["p", "some", "kept"] (spResp K) := by
  refine F.ok scRs (fun vs H Q E h => ?_) (fun cdv A outer s H vs Q E hr h => ?_)
  · obtain ⟨p, a, b, m, y, rfl, _⟩ := h
    rfl
  · obtain ⟨p, a, b, m, y, rfl, p2, p97, hm, MO, l12, r12, s13, hb, hy, q⟩ := h
    have p0 : 0 < p := by lia
    have z1000 : (1000 : Nat) ≤ sizeLine := by decide
    refine ⟨_, pss_cons (ps_set (i := 3) scRs.nd rfl (Or.inl rfl) (pe_tup pa_nil)) (pss_cons (ps_for PassesOwn.never rfl (pi_range1 rfl T.range (pa_cons (pe_ix (ixT K rfl) (pv 1) pe_int (fun _ _ => rfl)) pa_nil)) (pg_name (i := 4) scRs.nd rfl (Or.inl rfl)) (pss_cons (ps_asg (pe_call GT hr rfl mT kT bT .nil pass0 (pa_cons (pv 0) (pa_cons (pv 1) (pa_cons (pe_op (opRepT K rfl) (pe_tup (pa_cons pe_int pa_nil)) (pe_ix (ixT K rfl) (pv 1) pe_int (fun _ _ => rfl))) (pa_cons (pv 2) pa_nil))))) (pgTup (n := 2) K rfl rfl (pgs_cons (pg_name (i := 5) scRs.nd rfl (Or.inl rfl)) (pgs_cons (pg_name (i := 2) scRs.nd rfl (Or.inl rfl)) pgs_nil)))) (pss_one (ps_set (i := 3) scRs.nd rfl (Or.inl rfl) (pe_op (opCatA K rfl) (pv 3) (pv 5)))))) (pss_one (ps_ret (pv 3)))), ?_⟩
    obtain ⟨u1, RS1, h11, h12, h13⟩ := hm
    refine ⟨by decide, fun t0 ht0 => ?_⟩
    have sm0 : Same H (upd H t0 (.tup [])) := .upd ht0
    have g0 : (upd H t0 (.tup [])) t0 = some (.tup []) := upd_same
    generalize upd H t0 (.tup []) = H0 at sm0 g0 ⊢
    refine ⟨_, rfl, a, _, 1, _, rfl, rfl, sm0.seqT h11, atI_nat (j := 1) rfl, (m.states : Int), rfl, by lia, by lia, for_range (n := m.states) (fun i σ H' => All2 (Same H H') (Ex4 fun (kp fo : Addr) (s4 s5 : Option V) => All3 (σ = [some (.int p), some (.ref a), some (.ref kp), some (.ref fo), s4, s5]) (SqT K H' kp ((zst p m y i).map V.int)) (SqT K H' fo ((respB p m y i).map V.int)))) ⟨sm0, b, t0, _, _, rfl, sm0.seqT hb, .of g0⟩ ?_ ?_⟩
    · rintro i σ H3 hi ⟨sm3, kp, fo, s4, s5, rfl, hkp, hfo⟩
      refine ⟨_, rfl, _, rfl, by decide, fun t1 ht1 => ⟨_, rfl, a, _, 0, _, rfl, rfl, (sm3.trans (.upd ht1)).seqT h11, atI_nat (j := 0) rfl, t1, (m.left : Int), _, rfl, rfl, .of upd_same, by simp, by lia, by lia, (by show 1 * ((m.left : Nat) : Int).toNat ≤ sizeLine; lia), fun t2 H4 s4' ht2 => ?_⟩⟩
      rw [Int.toNat_natCast, flatR] at ht2
      have s34 : Same H3 H4 := (Same.upd ht1).trans s4'
      have sm4 := sm3.trans s34
      have hM : MH K H4 a m := ⟨u1, RS1, sm4.seqT h11, sm4.seqT h12, h13.mono sm4⟩
      refine ⟨_, rfl, p, a, t2, kp, m, List.replicate m.left 0, zst p m y i, rfl, p2, p97, hM, MO, by lia, by lia, by lia, ht2, s34.seqT hkp, by simp, zst_len MO hy i, fun v1 o1 n1 H5 s5' hv1 ho1 hn1 => ?_⟩
      refine ⟨v1, _, rfl, hv1, rfl, _, _, rfl, _, _, rfl, rfl, ?_⟩
      rw [quiet_take MO] at ho1
      rw [quiet_drop MO] at hn1
      have hB := (respB_Rw MO p0 y i).1
      have hsm : i * m.right ≤ 13 * 12 := Nat.mul_le_mul (by lia) r12
      have hZ : (apM p (seeC m) (zst p m y i)).length = m.right := by rw [apM, List.length_map, seeC_len MO]
      refine ⟨_, rfl, _, rfl, fo, o1, _, _, rfl, rfl, (s34.trans s5').seqT hfo, ho1, by rw [List.length_map, List.length_map, hB, hZ]; lia, fun tc H6 s6 htc => ?_⟩
      rw [← List.map_append, ← zans_zst] at htc
      exact ⟨(sm4.trans s5').trans s6, n1, tc, _, _, rfl, s6.seqT hn1, htc⟩
    · rintro σ H3 ⟨sm3, kp, fo, s4, s5, rfl, hkp, hfo⟩
      exact ⟨_, rfl, q fo H3 sm3 hfo⟩
inductive AskReach (K : W.Frag) (vs : List V) (H : Hp) (Q : L2.VK) (E : L2.XK) : Prop where
  | mk (p : Int) (a : Addr) (m : Mach) (wi t : Nat) (i j : Int) (q0_ : vs = [.int p, .ref a, .int i, .int j]) (q1_ : i = wi) (q2_ : j = t) (q3_ : 2 ≤ p) (q4_ : p ≤ 97) (q5_ : MH K H a m) (q6_ : MachOk p m) (q7_ : m.left ≤ 12) (q8_ : m.right ≤ 12) (q9_ : m.states ≤ 13) (q10_ : wi < m.left) (q11_ : t ≤ 13) (q12_ : AnyT K H ((stM p m wi (t + 1)).map V.int) Q) : AskReach K vs H Q E
noncomputable def spReach (K : W.Frag) : Sp := fun vs H Q E => AskReach K vs H Q E
theorem scRc : FnScope ["p", "some", "wire", "late", "kept", "asked", "turn", "answer"] ["p", "some", "wire", "late"] (defScope s_law_reached) := ⟨rfl, rfl, rfl, by decide +kernel, rfl, by decide +kernel, by decide +kernel⟩
theorem ok_reach {f fU fT : Addr} {fd fdU fdT : FuncData} (F : Fun K "_law_reached" "_law_reached" s_law_reached f fd) (T : Txt mg)
    (GU : FnOk P w K mg base CX0 1 fU fdU ["length", "at"] (spUnit K)) (kU : Kp K fU) (bU : Binds K fdU ["length", "at"] []) (mU : mg "_law_unit" = some (.ref fU))
    (GT : FnOk P w K mg base CX0 2 fT fdT ["p", "some", "asked", "kept"] (spTick K)) (kT : Kp K fT) (bT : Binds K fdT ["p", "some", "asked", "kept"] []) (mT : mg "_law_tick" = some (.ref fT)) :
    FnOk P w K mg base CX0 3 f fd ["p", "some", "wire", "late"] (spReach K) := by
  refine F.ok scRc (fun vs H Q E h => ?_) (fun cdv A outer s H vs Q E hr h => ?_)
  · obtain ⟨p, a, m, wi, t, i, j, rfl, _⟩ := h
    rfl
  · obtain ⟨p, a, m, wi, t, i, j, rfl, rfl, rfl, p2, p97, hm, MO, l12, r12, s13, hwi, ht, q⟩ := h
    have p0 : 0 < p := by lia
    have hr1 : Room 1 _ := hr.mono (by decide)
    have z1000 : (1000 : Nat) ≤ sizeLine := by decide
    refine ⟨_, pss_cons (ps_set (i := 4) scRc.nd rfl (Or.inl rfl) (pe_op (opRepT K rfl) (pe_tup (pa_cons pe_int pa_nil)) (pe_ix (ixT K rfl) (pv 1) pe_int (fun _ _ => rfl)))) (pss_cons (ps_set (i := 5) scRc.nd rfl (Or.inl rfl) (pe_call GU hr1 rfl mU kU bU .nil pass0 (pa_cons (pe_ix (ixT K rfl) (pv 1) pe_int (fun _ _ => rfl)) (pa_cons (pv 2) pa_nil)))) (pss_cons (ps_for PassesOwn.never rfl (pi_range1 rfl T.range (pa_cons (pe_op op_add (pv 3) pe_int) pa_nil)) (pg_name (i := 6) scRc.nd rfl (Or.inl rfl)) (pss_cons (ps_asg (pe_call GT hr rfl mT kT bT .nil pass0 (pa_cons (pv 0) (pa_cons (pv 1) (pa_cons (pv 5) (pa_cons (pv 4) pa_nil))))) (pgTup (n := 2) K rfl rfl (pgs_cons (pg_name (i := 7) scRc.nd rfl (Or.inl rfl)) (pgs_cons (pg_name (i := 4) scRc.nd rfl (Or.inl rfl)) pgs_nil)))) (pss_one (ps_set (i := 5) scRc.nd rfl (Or.inl rfl) (pe_op (opRepT K rfl) (pe_tup (pa_cons pe_int pa_nil)) (pe_ix (ixT K rfl) (pv 1) pe_int (fun _ _ => rfl))))))) (pss_one (ps_ret (pv 4))))), ?_⟩
    obtain ⟨u1, RS1, h11, h12, h13⟩ := hm
    refine ⟨by decide, fun t1 ht1 => ⟨_, rfl, a, _, 1, _, rfl, rfl, (Same.upd ht1).seqT h11, atI_nat (j := 1) rfl, t1, (m.states : Int), _, rfl, rfl, .of upd_same, by simp, by lia, by lia, (by show 1 * ((m.states : Nat) : Int).toNat ≤ sizeLine; lia), fun t2 H2 s2' ht2 => ?_⟩⟩
    rw [Int.toNat_natCast, flatR] at ht2
    have sm2 : Same H H2 := (Same.upd ht1).trans s2'
    refine ⟨_, rfl, a, _, 0, _, rfl, rfl, sm2.seqT h11, atI_nat (j := 0) rfl, _, rfl, m.left, wi, (m.left : Int), (wi : Int), rfl, rfl, rfl, hwi, by lia, fun tu H3 s3 htu => ?_⟩
    have sm3 := sm2.trans s3
    refine ⟨_, rfl, _, _, rfl, rfl, (t : Int) + 1, rfl, by lia, by lia, for_range (n := ((t : Int) + 1).toNat) (fun i σ H' => All2 (Same H H') (Ex4 fun (kp as : Addr) (s6 s7 : Option V) => All3 (σ = [some (.int p), some (.ref a), some (.int (wi : Int)), some (.int (t : Int)), some (.ref kp), some (.ref as), s6, s7]) (SqT K H' kp ((stM p m wi i).map V.int)) (SqT K H' as ((askW m.left wi i).map V.int)))) ⟨sm3, t2, tu, _, _, rfl, s3.seqT ht2, htu⟩ ?_ ?_⟩
    · rintro i σ H4 hi ⟨sm4, kp, as, s6, s7, rfl, hkp, has⟩
      have hM : MH K H4 a m := ⟨u1, RS1, sm4.seqT h11, sm4.seqT h12, h13.mono sm4⟩
      refine ⟨_, rfl, _, rfl, _, rfl, _, rfl, p, a, as, kp, m, askW m.left wi i, stM p m wi i, rfl, p2, p97, hM, MO, by lia, by lia, by lia, has, hkp, ask_len hwi, (st_Rw p0 MO wi i).1, fun v1 o1 n1 H5 s5 hv1 ho1 hn1 => ?_⟩
      refine ⟨v1, _, rfl, hv1, rfl, _, _, rfl, _, _, rfl, rfl, ?_⟩
      have sm5 := sm4.trans s5
      refine ⟨by decide, fun t3 ht3 => ⟨_, rfl, a, _, 0, _, rfl, rfl, (sm5.trans (.upd ht3)).seqT h11, atI_nat (j := 0) rfl, t3, (m.left : Int), _, rfl, rfl, .of upd_same, by simp, by lia, by lia, (by show 1 * ((m.left : Nat) : Int).toNat ≤ sizeLine; lia), fun t4 H6 s6' ht4 => ?_⟩⟩
      rw [Int.toNat_natCast, flatR] at ht4
      have s56 : Same H5 H6 := (Same.upd ht3).trans s6'
      exact ⟨sm5.trans s56, n1, t4, _, _, rfl, s56.seqT hn1, by unfold askW; rw [if_neg (by lia)]; exact ht4⟩
    · rintro σ H4 ⟨sm4, kp, as, s6, s7, rfl, hkp, has⟩
      have en : ((t : Int) + 1).toNat = t + 1 := by lia
      rw [en] at hkp
      exact ⟨_, rfl, q kp H4 sm4 hkp⟩
end
noncomputable def prL (q : Nat × Nat) : List Int := [(q.1 : Int), (q.2 : Int)]
noncomputable def takenW (p : Int) (m : Mach) (t wi : Nat) : List (Nat × Nat) := takeG p (respF p m) [] (orderL m.left t ++ (List.range wi).map fun x => (x, t))
theorem takenW_zero (p : Int) (m : Mach) (t : Nat) : takenW p m t 0 = takenM p m t := by unfold takenW takenM; rw [List.range_zero, List.map_nil, List.append_nil]
theorem takenW_all (p : Int) (m : Mach) (t : Nat) : takenW p m t m.left = takenM p m (t + 1) := by unfold takenW takenM; rw [order_succ]
theorem takenW_gr (p : Int) (m : Mach) (t wi : Nat) : Gr p ((takenW p m t wi).map (respF p m)) := take_gr _ _ fun k f h => by simp at h
theorem takenW_len {p : Int} {m : Mach} (hp : p ∈ primesL) (MO : MachOk p m) (t wi : Nat) : (takenW p m t wi).length ≤ m.states * m.right := by
  have p0 : 0 < p := by have := prime_pos p hp; lia
  have e := taken_red hp MO (takenW_gr p m t wi) _ (Nat.le_refl _)
  have := red_len hp (respT_Rws p0 MO ((takenW p m t wi).take (takenW p m t wi).length))
  lia
theorem takenW_yes {p : Int} {m : Mach} {t wi : Nat} (h : ¬ Bw.Sp p (· ∈ (takenW p m t wi).map (respF p m)) (respF p m (wi, t))) : takenW p m t (wi + 1) = takenW p m t wi ++ [(wi, t)] := by
  unfold takenW at h ⊢
  rw [List.range_succ, List.map_append, ← List.append_assoc, take_app]
  show takeG p (respF p m) _ [(wi, t)] = _
  rw [take_no h]; rfl
theorem takenW_no {p : Int} {m : Mach} {t wi : Nat} (h : Bw.Sp p (· ∈ (takenW p m t wi).map (respF p m)) (respF p m (wi, t))) : takenW p m t (wi + 1) = takenW p m t wi := by
  unfold takenW at h ⊢
  rw [List.range_succ, List.map_append, ← List.append_assoc, take_app]
  show takeG p (respF p m) _ [(wi, t)] = _
  rw [take_yes h]; rfl
section
variable {P : Program} {w : World} {K : W.Frag} {mg : Str → Option Value} {base : Heap}
inductive AskTaken (K : W.Frag) (vs : List V) (H : Hp) (Q : L2.VK) (E : L2.XK) : Prop where
  | mk (p : Int) (a : Addr) (m : Mach) (q0_ : vs = [.int p, .ref a]) (q1_ : p ∈ primesL) (q2_ : MH K H a m) (q3_ : MachOk p m) (q4_ : m.left ≤ 12) (q5_ : m.right ≤ 12) (q6_ : m.states ≤ 13) (q7_ : ∀ l TS H', Same H H' → H' l = some (.lst TS) → HasA K H' TS (((takenM p m m.states).map prL).map intsT) → Q (.ref l) H') : AskTaken K vs H Q E
noncomputable def spTaken (K : W.Frag) : Sp := fun vs H Q E => AskTaken K vs H Q E
theorem scTn : FnScope ["p", "some", "taken", "rows", "width", "late", "wire", "row", "more"] ["p", "some"] (defScope s_law_taken) := ⟨rfl, rfl, rfl, by decide +kernel, rfl, by decide +kernel, by decide +kernel⟩
theorem ok_taken {f fS fC fR : Addr} {fd fdS fdC fdR : FuncData} (F : Fun K "_law_taken" "_law_taken" s_law_taken f fd) (T : Txt mg)
    (GS : FnOk P w K mg base CX0 3 fS fdS ["p", "some", "kept"] (spResp K)) (kS : Kp K fS) (bS : Binds K fdS ["p", "some", "kept"] []) (mS : mg "_law_response" = some (.ref fS))
    (GC : FnOk P w K mg base CX0 3 fC fdC ["p", "some", "wire", "late"] (spReach K)) (kC : Kp K fC) (bC : Binds K fdC ["p", "some", "wire", "late"] []) (mC : mg "_law_reached" = some (.ref fC))
    (GR : FnOk P w K mg base CX0 2 fR fdR ["p", "rows", "width"] (spRedW K)) (kR : Kp K fR) (bR : Binds K fdR ["p", "rows", "width"] []) (mR : mg "_law_reduced" = some (.ref fR)) :
    FnOk P w K mg base CX0 4 f fd ["p", "some"] (spTaken K) := by
  refine F.ok scTn (fun vs H Q E h => ?_) (fun cdv A outer s H vs Q E hr h => ?_)
  · obtain ⟨p, a, m, rfl, _⟩ := h
    rfl
  · obtain ⟨p, a, m, rfl, pp, hm, MO, l12, r12, s13, q⟩ := h
    obtain ⟨p2, p97⟩ := prime_pos p pp
    have p0 : 0 < p := by lia
    have hr2 : Room 2 _ := hr.mono (by decide)
    have z1000 : (1000 : Nat) ≤ sizeLine := by decide
    have hsr : m.states * m.right ≤ 13 * 12 := Nat.mul_le_mul s13 r12
    refine ⟨_, pss_cons (ps_set (i := 2) scTn.nd rfl (Or.inl rfl) (pe_lst pa_nil)) (pss_cons (ps_set (i := 3) scTn.nd rfl (Or.inl rfl) (pe_lst pa_nil)) (pss_cons (ps_set (i := 4) scTn.nd rfl (Or.inl rfl) (pe_op op_mul (pe_ix (ixT K rfl) (pv 1) pe_int (fun _ _ => rfl)) (pe_ix (ixT K rfl) (pv 1) pe_int (fun _ _ => rfl)))) (pss_cons (ps_for PassesOwn.never rfl (pi_range1 rfl T.range (pa_cons (pe_ix (ixT K rfl) (pv 1) pe_int (fun _ _ => rfl)) pa_nil)) (pg_name (i := 5) scTn.nd rfl (Or.inl rfl)) (pss_one (ps_for PassesOwn.never rfl (pi_range1 rfl T.range (pa_cons (pe_ix (ixT K rfl) (pv 1) pe_int (fun _ _ => rfl)) pa_nil)) (pg_name (i := 6) scTn.nd rfl (Or.inl rfl)) (pss_cons (ps_set (i := 7) scTn.nd rfl (Or.inl rfl) (pe_call GS hr rfl mS kS bS .nil pass0 (pa_cons (pv 0) (pa_cons (pv 1) (pa_cons (pe_call GC hr rfl mC kC bC .nil pass0 (pa_cons (pv 0) (pa_cons (pv 1) (pa_cons (pv 6) (pa_cons (pv 5) pa_nil))))) pa_nil))))) (pss_cons (ps_set (i := 8) scTn.nd rfl (Or.inl rfl) (pe_call GR hr2 rfl mR kR bR .nil pass0 (pa_cons (pv 0) (pa_cons (pe_op op_cat (pv 3) (pe_lst (pa_cons (pv 7) pa_nil))) (pa_cons (pv 4) pa_nil))))) (pss_one (ps_if (pt_cmpR op_gt (pe_callB (cLen K rfl) rfl T.len bt_len (pa_cons (pv 8) pa_nil)) (pe_callB (cLen K rfl) rfl T.len bt_len (pa_cons (pv 2) pa_nil)) (nomark _)) (pss_cons (ps_expr (pe_bm PySem.F.plainAttrs_list PySem.F.slot_list_append PySem.F.type_list_append mt_append (pv 2) (pa_cons (pe_tup (pa_cons (pv 6) (pa_cons (pv 5) pa_nil))) pa_nil))) (pss_one (ps_expr (pe_bm PySem.F.plainAttrs_list PySem.F.slot_list_append PySem.F.type_list_append mt_append (pv 3) (pa_cons (pv 7) pa_nil))))) pss_nil))))))) (pss_one (ps_ret (pv 2)))))), ?_⟩
    have hm' := hm
    obtain ⟨u1, RS1, h11, h12, h13⟩ := hm'
    refine ⟨by decide, fun lt hlt => ⟨by decide, fun lr hlr => ?_⟩⟩
    have hlrH : H lr = none := none_of (.upd hlt) hlr
    have neTR : lt ≠ lr := fun z => by rw [← z, upd_same] at hlr; cases hlr
    have sm0 : Same H (upd (upd H lt (.lst [])) lr (.lst [])) := (Same.upd hlt).trans (.upd hlr)
    have gt0 : (upd (upd H lt (.lst [])) lr (.lst [])) lt = some (.lst []) := Same.upd hlr _ _ upd_same
    have gr0 : (upd (upd H lt (.lst [])) lr (.lst [])) lr = some (.lst []) := upd_same
    generalize upd (upd H lt (.lst [])) lr (.lst []) = H0 at sm0 gt0 gr0 ⊢
    refine ⟨_, rfl, a, _, 1, _, rfl, rfl, sm0.seqT h11, atI_nat (j := 1) rfl, _, rfl, a, _, 2, _, rfl, rfl, sm0.seqT h11, atI_nat (j := 2) rfl, _, _, rfl, rfl, .inl ⟨by lia, by lia⟩, ?_⟩
    refine ⟨_, rfl, a, _, 1, _, rfl, rfl, sm0.seqT h11, atI_nat (j := 1) rfl, (m.states : Int), rfl, by lia, by lia, for_range (n := m.states) (fun t σ H' => All2 (Same H H') (Ex6 fun (TS RS : List V) (s5 s6 s7 s8 : Option V) => All5 (σ = [some (.int p), some (.ref a), some (.ref lt), some (.ref lr), some (.int ((m.states : Int) * (m.right : Int))), s5, s6, s7, s8]) (H' lt = some (.lst TS)) (H' lr = some (.lst RS)) (HasA K H' TS (((takenM p m t).map prL).map intsT)) (HasA K H' RS (((takenM p m t).map (respT p m)).map intsT)))) ⟨sm0, [], [], _, _, _, _, rfl, gt0, gr0, .nil, .nil⟩ ?_ ?_⟩
    · rintro t σ H3 ht ⟨sm3, TS3, RS3, s5, s6, s7, s8, rfl, gt3, gr3, hT3, hR3⟩
      rw [Int.zero_add]
      refine ⟨_, rfl, a, _, 0, _, rfl, rfl, sm3.seqT h11, atI_nat (j := 0) rfl, (m.left : Int), rfl, by lia, by lia, for_range (n := m.left) (fun wi σ H' => All2 (Same H H') (Ex5 fun (TS RS : List V) (s6 s7 s8 : Option V) => All5 (σ = [some (.int p), some (.ref a), some (.ref lt), some (.ref lr), some (.int ((m.states : Int) * (m.right : Int))), some (.int (t : Int)), s6, s7, s8]) (H' lt = some (.lst TS)) (H' lr = some (.lst RS)) (HasA K H' TS (((takenW p m t wi).map prL).map intsT)) (HasA K H' RS (((takenW p m t wi).map (respT p m)).map intsT)))) ⟨sm3, TS3, RS3, _, _, _, rfl, gt3, gr3, by rw [takenW_zero]; exact hT3, by rw [takenW_zero]; exact hR3⟩ ?_ ?_⟩
      · rintro wi σ H4 hwi ⟨sm4, TS4, RS4, q6, q7, q8, rfl, gt4, gr4, hT4, hR4⟩
        rw [Int.zero_add]
        have hM4 : MH K H4 a m := hm.mono sm4
        refine ⟨_, rfl, _, rfl, _, rfl, _, rfl, _, rfl, _, rfl, p, a, m, wi, t, (wi : Int), (t : Int), rfl, rfl, rfl, p2, p97, hM4, MO, l12, r12, s13, hwi, by lia, fun tk H5 s5' htk => ?_⟩
        refine ⟨p, a, tk, m, stM p m wi (t + 1), rfl, p2, p97, hM4.mono s5', MO, l12, r12, s13, htk, (st_Rw p0 MO wi (t + 1)).1, fun tr H6 s6' htr => ?_⟩
        have htr : SqT K H6 tr ((respT p m (wi, t)).map V.int) := htr
        have s46 := s5'.trans s6'
        have hlenT := takenW_len pp MO t wi
        have eT := hT4.length
        have eR := lenA hR4
        rw [List.length_map, List.length_map] at eT
        rw [List.length_map] at eR
        refine ⟨_, rfl, _, rfl, _, rfl, (by show 1 ≤ sizeLine; lia), fun l1 hl1 => ?_⟩
        have s7' : Same H6 (upd H6 l1 (.lst [.ref tr])) := .upd hl1
        have gl1 : (upd H6 l1 (.lst [.ref tr])) l1 = some (.lst [.ref tr]) := upd_same
        generalize upd H6 l1 (.lst [.ref tr]) = H7 at s7' gl1 ⊢
        have s47 := s46.trans s7'
        refine ⟨lr, l1, RS4, [.ref tr], rfl, rfl, s47 _ _ gr4, gl1, by rw [eR]; show _ + 1 ≤ _; lia, fun l2 hl2 => ?_⟩
        have s8' : Same H7 (upd H7 l2 (.lst (RS4 ++ [.ref tr]))) := .upd hl2
        have gl2 : (upd H7 l2 (.lst (RS4 ++ [.ref tr]))) l2 = some (.lst (RS4 ++ [.ref tr])) := upd_same
        generalize upd H7 l2 (.lst (RS4 ++ [.ref tr])) = H8 at s8' gl2 ⊢
        have s48 := s47.trans s8'
        have hApp : HasA K H8 (RS4 ++ [.ref tr]) (((takenW p m t wi).map (respT p m) ++ [respT p m (wi, t)]).map intsT) := by
          rw [List.map_append]
          exact (hR4.mono s48).append (.cons (hasT_of ((s7'.trans s8').seqT htr)) .nil)
        have hRws : Rws p (m.states * m.right) ((takenW p m t wi).map (respT p m) ++ [respT p m (wi, t)]) := fun r hr => by
          rcases (List.mem_append.mp hr) with (h | h)
          · exact respT_Rws p0 MO _ r h
          · rw [List.mem_singleton.mp h]; exact respT_Rw p0 MO _
        refine ⟨_, rfl, p, l2, true, _, _, m.states * m.right, (m.states : Int) * (m.right : Int), rfl, by rw [Int.natCast_mul], pp, .of gl2, hApp, by rw [List.length_append, List.length_map]; show _ + 1 ≤ _; lia, by lia, hRws, fun tm H9 DS s9 htm hDS => ?_⟩
        have s49 := s48.trans s9
        have sm9 := sm4.trans s49
        have gt9 := s49 _ _ gt4
        have gr9 := s49 _ _ gr4
        have hT9 := hT4.mono s49
        have hR9 := hR4.mono s49
        have htr9 := ((s7'.trans s8').trans s9).seqT htr
        have eD := lenA hDS
        have step := taken_step pp MO (takenW_gr p m t wi) (wi, t)
        refine ⟨_, rfl, tm, DS, rfl, .inr htm, _, rfl, lt, TS4, rfl, .inl (.of gt9), _, _, rfl, rfl, _, rfl, ite2 (fun hc => ?_) (fun hc => ?_)⟩
        · have hc : (TS4.length : Int) < (DS.length : Int) := of_decide_eq_true hc
          have hn := step.mp (by lia)
          have eW := takenW_yes hn
          refine ⟨_, rfl, .inl ⟨rfl, _, SqL.of gt9⟩, _, rfl, _, rfl, (by show 2 ≤ sizeLine; lia), fun tp htp => ?_⟩
          have sA : Same H9 (upd H9 tp (.tup [.int (wi : Int), .int (t : Int)])) := .upd htp
          have gA : (upd H9 tp (.tup [.int (wi : Int), .int (t : Int)])) tp = some (.tup [.int (wi : Int), .int (t : Int)]) := upd_same
          generalize upd H9 tp (.tup [.int (wi : Int), .int (t : Int)]) = HA at sA gA ⊢
          have gtA := sA _ _ gt9
          have grA := sA _ _ gr9
          have hpr : HasD K HA (.ref tp) (intsT (prL (wi, t))) := hasT_of (r := [(wi : Int), (t : Int)]) (.of gA)
          refine ⟨lt, TS4, _, rfl, rfl, gtA, by lia, ?_⟩
          have hTB : HasA K (upd HA lt (.lst (TS4 ++ [.ref tp]))) (TS4 ++ [.ref tp]) (((takenW p m t (wi + 1)).map prL).map intsT) := by
            rw [eW, List.map_append]
            refine HasA.wr gtA ?_
            rw [List.map_append]
            exact ((hT9.mono sA).append (.cons hpr .nil))
          have hRB : HasA K (upd HA lt (.lst (TS4 ++ [.ref tp]))) RS4 (((takenW p m t wi).map (respT p m)).map intsT) := HasA.wr gtA (hR9.mono sA)
          have hrB : SqT K (upd HA lt (.lst (TS4 ++ [.ref tp]))) tr ((respT p m (wi, t)).map V.int) := SqT.wr (sA.seqT htr9) gtA
          have gtB : (upd HA lt (.lst (TS4 ++ [.ref tp]))) lt = some (.lst (TS4 ++ [.ref tp])) := upd_same
          have grB : (upd HA lt (.lst (TS4 ++ [.ref tp]))) lr = some (.lst RS4) := by rw [upd_ne (Ne.symm neTR)]; exact grA
          have smB : Same H (upd HA lt (.lst (TS4 ++ [.ref tp]))) := (sm9.trans sA).write hlt
          generalize upd HA lt (.lst (TS4 ++ [.ref tp])) = HB at hTB hRB hrB gtB grB smB ⊢
          refine ⟨_, rfl, .inl ⟨rfl, _, SqL.of grB⟩, _, rfl, lr, RS4, _, rfl, rfl, grB, by lia, ?_⟩
          refine ⟨smB.write hlrH, TS4 ++ [.ref tp], RS4 ++ [.ref tr], _, _, _, rfl, by rw [upd_ne neTR]; exact gtB, upd_same, HasA.wr grB hTB, ?_⟩
          rw [eW, List.map_append]
          refine HasA.wr grB ?_
          rw [List.map_append]
          exact (hRB.append (.cons (hasT_of hrB) .nil))
        · have hs : Bw.Sp p (· ∈ (takenW p m t wi).map (respF p m)) (respF p m (wi, t)) := by
            apply Classical.byContradiction
            intro z
            have := step.mpr z
            exact hc (decide_eq_true (show (TS4.length : Int) < (DS.length : Int) by lia))
          have eW := takenW_no hs
          exact ⟨sm9, TS4, RS4, _, _, _, rfl, gt9, gr9, by rw [eW]; exact hT9, by rw [eW]; exact hR9⟩
      · rintro σ H4 ⟨sm4, TS4, RS4, q6, q7, q8, rfl, gt4, gr4, hT4, hR4⟩
        rw [takenW_all] at hT4 hR4
        exact ⟨sm4, TS4, RS4, _, _, _, _, rfl, gt4, gr4, hT4, hR4⟩
    · rintro σ H3 ⟨sm3, TS3, RS3, s5, s6, s7, s8, rfl, gt3, gr3, hT3, hR3⟩
      exact ⟨_, rfl, q lt TS3 H3 sm3 gt3 hT3⟩
end
section
variable {P : Program} {w : World} {K : W.Frag} {mg : Str → Option Value} {base : Heap}
inductive AskShaped (K : W.Frag) (vs : List V) (H : Hp) (Q : L2.VK) (E : L2.XK) : Prop where
  | mk (p : Int) (a : Addr) (m : Mach) (i j k : Int) (q0_ : vs = [.int p, .ref a, .int i, .int j, .int k]) (q1_ : i = m.left) (q2_ : j = m.states) (q3_ : k = m.right) (q4_ : MH K H a m) (q5_ : MachOk p m) (q6_ : ∀ H', Same H H' → Q (.bl true) H') : AskShaped K vs H Q E
noncomputable def spShaped (K : W.Frag) : Sp := fun vs H Q E => AskShaped K vs H Q E
theorem scSh : FnScope ["p", "found", "left", "states", "right", "row", "number"] ["p", "found", "left", "states", "right"] (defScope s_law_shaped) := ⟨rfl, rfl, rfl, by decide +kernel, rfl, by decide +kernel, by decide +kernel⟩
theorem ok_shaped {f : Addr} {fd : FuncData} (F : Fun K "_law_shaped" "_law_shaped" s_law_shaped f fd) (T : Txt mg) : FnOk P w K mg base CX0 1 f fd ["p", "found", "left", "states", "right"] (spShaped K) := by
  refine F.ok scSh (fun vs H Q E h => ?_) (fun cdv A outer s H vs Q E hr h => ?_)
  · obtain ⟨p, a, m, i, j, k, rfl, _⟩ := h
    rfl
  · obtain ⟨p, a, m, i, j, k, rfl, rfl, rfl, rfl, hm, MO, q⟩ := h
    have hu := hr.units
    refine ⟨_, pss_cons (ps_if (PW.pt (pw_or (pt_not (pt_val (pe_callB (cIsT (T := "tuple") K rfl) rfl T.isinstance bt_isinstance (pa_cons (pv 1) (pa_cons (pe_ty rfl T.tuple bt_tuple) pa_nil))))) (pw_or (pt_cmpR op_ne (pe_callB (cLen K rfl) rfl T.len bt_len (pa_cons (pv 1) pa_nil)) pe_int (nomark _)) (pw_or1 (pt_cmpR (opNeD K rfl hu) (pe_slice (slA K rfl) (pv 1) po_none (po_some pe_int)) (pe_tup (pa_cons (pv 2) (pa_cons (pv 3) (pa_cons (pv 4) pa_nil)))) (nomark _)))))) (pss_one (ps_ret pe_bl)) pss_nil) (pss_cons (ps_if (PW.pt (pw_or (pt_not (pt_val (pe_callB (cIsT (T := "tuple") K rfl) rfl T.isinstance bt_isinstance (pa_cons (pe_ix (ixT K rfl) (pv 1) pe_int (fun _ _ => rfl)) (pa_cons (pe_ty rfl T.tuple bt_tuple) pa_nil))))) (pw_or1 (pt_cmpR op_ne (pe_callB (cLen K rfl) rfl T.len bt_len (pa_cons (pe_ix (ixT K rfl) (pv 1) pe_int (fun _ _ => rfl)) pa_nil)) (pe_op op_add (pv 4) (pv 3)) (nomark _))))) (pss_one (ps_ret pe_bl)) pss_nil) (pss_cons (ps_for PassesOwn.never rfl (piTup K rfl (pe_ix (ixT K rfl) (pv 1) pe_int (fun _ _ => rfl))) (pg_name (i := 5) scSh.nd rfl (Or.inl rfl)) (pss_cons (ps_if (PW.pt (pw_or (pt_not (pt_val (pe_callB (cIsT (T := "tuple") K rfl) rfl T.isinstance bt_isinstance (pa_cons (pv 5) (pa_cons (pe_ty rfl T.tuple bt_tuple) pa_nil))))) (pw_or1 (pt_cmpR op_ne (pe_callB (cLen K rfl) rfl T.len bt_len (pa_cons (pv 5) pa_nil)) (pe_op op_add (pv 2) (pv 3)) (nomark _))))) (pss_one (ps_ret pe_bl)) pss_nil) (pss_one (ps_for PassesOwn.never rfl (piTup K rfl (pv 5)) (pg_name (i := 6) scSh.nd rfl (Or.inl rfl)) (pss_one (ps_if (PW.pt (pw_or (pt_not (pt_val (pe_callB (cIsI (T := "int") K rfl) rfl T.isinstance bt_isinstance (pa_cons (pv 6) (pa_cons (pe_ty rfl T.int bt_int) pa_nil))))) (pw_or (pt_val (pe_callB (cIsI (T := "bool") K rfl) rfl T.isinstance bt_isinstance (pa_cons (pv 6) (pa_cons (pe_ty rfl T.bool bt_bool) pa_nil)))) (pw_or (pt_cmpR op_lt (pv 6) pe_int (nomark _)) (pw_or1 (pt_cmpR op_ge (pv 6) (pv 0) (nomark _))))))) (pss_one (ps_ret pe_bl)) pss_nil)))))) (pss_one (ps_ret pe_bl)))), ?_⟩
    obtain ⟨u, RS, h1, h2, h3⟩ := hm
    have eRS := lenA h3
    have hml := MO.len
    refine ⟨_, rfl, a, _, true, rfl, h1, kit_tuple_tuple K, true, rfl, iteF ⟨_, rfl, a, _, rfl, .inr h1, rfl, _, rfl, iteNS rfl ?_⟩⟩
    refine ⟨_, rfl, _, rfl, a, _, rfl, h1, fun t1 H1 s1 ht1 => ?_⟩
    have ec : cutV [V.int (m.left : Int), .int (m.states : Int), .int (m.right : Int), .ref u] none (some 3) = [(m.left : Int), (m.states : Int), (m.right : Int)].map V.int := rfl
    rw [ec] at ht1
    refine ⟨_, rfl, _, rfl, _, rfl, (show 3 ≤ sizeLine by decide), fun t2 ht2 => ?_⟩
    have s2 : Same H1 (upd H1 t2 (.tup [.int (m.left : Int), .int (m.states : Int), .int (m.right : Int)])) := .upd ht2
    have g2 : (upd H1 t2 (.tup [.int (m.left : Int), .int (m.states : Int), .int (m.right : Int)])) t2 = some (.tup ([(m.left : Int), (m.states : Int), (m.right : Int)].map V.int)) := upd_same
    generalize upd H1 t2 (.tup [.int (m.left : Int), .int (m.states : Int), .int (m.right : Int)]) = H2 at s2 g2 ⊢
    refine ⟨intsT [(m.left : Int), (m.states : Int), (m.right : Int)], intsT [(m.left : Int), (m.states : Int), (m.right : Int)], hasT_of (s2.seqT ht1), hasT_of (.of g2), kqd_intsT 7 _, kqd_intsT 7 _, _, rfl, iteNeD rfl ?_⟩
    have sm := s1.trans s2
    have k1 := sm.seqT h1
    have k2 := sm.seqT h2
    have k3 := h3.mono sm
    refine ⟨_, rfl, a, _, 3, _, rfl, rfl, k1, atI_nat (j := 3) rfl, u, _, true, rfl, k2, kit_tuple_tuple K, true, rfl, iteF ?_⟩
    refine ⟨_, rfl, a, _, 3, _, rfl, rfl, k1, atI_nat (j := 3) rfl, u, RS, rfl, .inr k2, _, rfl, _, rfl, _, _, rfl, rfl, rfl, _, rfl, iteNS (congrArg V.int (by rw [eRS]; lia)) ?_⟩
    refine ⟨_, rfl, a, _, 3, _, rfl, rfl, k1, atI_nat (j := 3) rfl, u, rfl, ⟨_, k2⟩, for_tup (xs := RS) (fun i σ H' => All2 (H' = H2) (Ex2 fun (s5 s6) => (σ = [some (.int p), some (.ref a), some (.int (m.left : Int)), some (.int (m.states : Int)), some (.int (m.right : Int)), s5, s6]))) ⟨rfl, _, _, rfl⟩ (fun i σ H' _ ⟨e, _⟩ => by rw [e]; exact k2) ?_ ?_⟩
    · rintro i x σ H' hx ⟨rfl, s5, s6, rfl⟩
      obtain ⟨r, ra, hri, rfl, hra⟩ := rowAt k3 hx
      have hRr := MO.rws r (List.mem_of_getElem? hri)
      refine ⟨_, rfl, ra, _, true, rfl, hra, kit_tuple_tuple K, true, rfl, iteF ⟨_, rfl, ra, _, rfl, .inr hra, _, rfl, _, rfl, _, _, rfl, rfl, rfl, _, rfl, iteNS (congrArg V.int ?_) ?_⟩⟩
      · rw [List.length_map, hRr.1]; lia
      refine ⟨_, rfl, ra, rfl, ⟨_, hra⟩, for_tup (xs := r.map V.int) (fun i σ H3 => H3 = H' ∧ ∃ s6, σ = [some (.int p), some (.ref a), some (.int (m.left : Int)), some (.int (m.states : Int)), some (.int (m.right : Int)), some (.ref ra), s6]) ⟨rfl, _, rfl⟩ (fun i σ H3 _ ⟨e, _⟩ => by rw [e]; exact hra) ?_ ?_⟩
      · rintro j x σ H3 hx ⟨rfl, s6, rfl⟩
        rw [List.getElem?_map] at hx
        cases e : r[j]? with
        | none => rw [e] at hx; cases hx
        | some u =>
          rw [e] at hx
          cases hx
          have hu := hRr.2 u (List.mem_of_getElem? e)
          refine ⟨_, rfl, u, true, rfl, kit_int_int K, true, rfl, iteF ⟨_, rfl, u, false, rfl, kit_int_bool K, false, rfl, iteF ⟨_, rfl, _, _, rfl, rfl, _, rfl, iteD (by lia) ⟨_, rfl, _, rfl, _, _, rfl, rfl, _, rfl, iteD (by lia) ?_⟩⟩⟩⟩
          exact ⟨rfl, _, rfl⟩
      · rintro σ H3 ⟨rfl, s6, rfl⟩
        exact ⟨rfl, _, _, rfl⟩
    · rintro σ H' ⟨rfl, s5, s6, rfl⟩
      exact q _ sm
end
noncomputable def Alike (p : Int) (m1 m2 : Mach) : Prop := ∀ w t, w < m1.left → ansM p m1 w t = ansM p m2 w t
noncomputable def tagS (b : Bool) : Str := if b then "same" else "parted"
theorem tagS_is (b : Bool) : decide (V.str (tagS b) = V.str "same") = b := by cases b <;> decide
theorem ever_alike {K : W.Frag} {p : Int} {a1 a2 : Addr} {m1 m2 : Mach} {H : Hp} {Q : L2.VK} {E : L2.XK} (pp : p ∈ primesL) (h1 : MH K H a1 m1) (h2 : MH K H a2 m2) (MO1 : MachOk p m1) (MO2 : MachOk p m2) (el : m1.left = m2.left) (er : m1.right = m2.right) (l : m1.left ≤ 12) (r : m1.right ≤ 12) (s1 : m1.states ≤ 13) (s2 : m2.states ≤ 13)
    (q : ∀ v x b H', (b = true ↔ Alike p m1 m2) → Same H H' → SqT K H' v [.str (tagS b), x] → Q (.ref v) H') : spEver K [.int p, .ref a1, .ref a2] H Q E :=
  ⟨p, a1, a2, m1, m2, rfl, pp, h1, h2, MO1, MO2, el, er, l, r, s1, s2,
    fun v t _ H' hE sm hv _ _ => q v (.ref t) true H' ⟨fun _ w t hw => alike_ever pp MO1 MO2 er hE t w hw, fun _ => rfl⟩ sm hv,
    fun v la _ t w' H' _ hw _ hn sm hv _ _ => q v (.ref la) false H' ⟨fun z => (nomatch z), fun z => absurd (z w' t hw) hn⟩ sm hv⟩
inductive AskEver2 (K : W.Frag) (vs : List V) (H : Hp) (Q : L2.VK) (E : L2.XK) : Prop where
  | mk (p : Int) (a1 a2 : Addr) (m1 m2 : Mach) (q0_ : vs = [.int p, .ref a1, .ref a2]) (q1_ : p ∈ primesL) (q2_ : MH K H a1 m1) (q3_ : MH K H a2 m2) (q4_ : MachOk p m1) (q5_ : MachOk p m2) (q6_ : m1.left = m2.left) (q7_ : m1.right = m2.right) (q8_ : m1.left ≤ 12) (q9_ : m1.right ≤ 12) (q10_ : m1.states ≤ 13) (q11_ : m2.states ≤ 13) (q12_ : ∀ v x b H', (b = true ↔ Alike p m1 m2) → Same H H' → SqT K H' v [.str (tagS b), x] → Q (.ref v) H') : AskEver2 K vs H Q E
noncomputable def spEver2 (K : W.Frag) : Sp := fun vs H Q E => AskEver2 K vs H Q E
section
variable {P : Program} {w : World} {K : W.Frag} {mg : Str → Option Value} {base : Heap}
end
end S7
namespace S7
open Bw
section
variable {p : Int} {m L : Mach}
noncomputable def linF (p : Int) (m : Mach) (T : List (Nat × Nat)) (x : Fn) (n : Nat) : Fn := fun j => Sg (fun k => x k * (T.map (respF p m)).getD k (fun _ => 0) j) n
theorem dot_congN {u v f : Fn} : ∀ {n : Nat}, (∀ k, k < n → p ∣ u k - v k) → p ∣ dot f u n - dot f v n
  | 0, _ => ⟨0, by simp [dot, Sg]⟩
  | n + 1, h => by
    have i1 := dot_congN (f := f) (n := n) fun k hk => h k (by lia)
    have i2 : p ∣ f n * (u n - v n) := Int.dvd_mul_of_dvd_right (h n (by lia))
    rw [Int.mul_sub] at i2
    have := Int.dvd_add i1 i2
    show p ∣ (dot f u n + f n * u n) - (dot f v n + f n * v n)
    rwa [show dot f u n - dot f v n + (f n * u n - f n * v n) = (dot f u n + f n * u n) - (dot f v n + f n * v n) by lia] at this
theorem resp_shift (w t j : Nat) (hr : 0 < m.right) : respF p m (w, t + 1) j = respF p m (w, t) (j + m.right) := by
  unfold respF
  rw [Nat.add_div_right _ hr, Nat.add_mod_right]
  show fn (ansM p m w (t + 1 + 1 + j / m.right)) _ = fn (ansM p m w (t + 1 + (j / m.right + 1))) _
  rw [show t + 1 + 1 + j / m.right = t + 1 + (j / m.right + 1) by lia]
theorem ans_len (MO : MachOk p m) (w t : Nat) : (ansM p m w t).length = m.right := by
  have := MO.len
  unfold ansM outM
  rw [List.length_take, List.length_map]; lia
theorem resp_none (MO : MachOk p m) (hr : m.right = 0) (q : Nat × Nat) (j : Nat) : respF p m q j = 0 := by
  unfold respF
  exact fn_out (by rw [ans_len MO]; lia)
theorem resp_first (w t : Nat) {r : Nat} (hr : r < m.right) : respF p m (w, t) r = fn (ansM p m w (t + 1)) r := by
  unfold respF
  rw [Nat.div_eq_of_lt hr, Nat.mod_eq_of_lt hr]
theorem cols_dot (MO : MachOk p L) (p0 : 0 < p) {x : List Int} (hx : x.length = L.states) {r : Nat} (hr : r < L.rows.length) : p ∣ fn (outM p L (List.replicate L.left 0 ++ x)) r - Sg (fun k => fn x k * fn (outM p L (unitM (L.left + L.states) (L.left + k))) r) L.states := by
  have R := MO.rws L.rows[r] (List.getElem_mem hr)
  have e1 : fn (outM p L (List.replicate L.left 0 ++ x)) r = pdot (L.rows[r].drop L.left) x % p := by
    show (outM p L _).getD r 0 = _
    unfold outM
    rw [List.getD_eq_getElem?_getD, List.getElem?_map, List.getElem?_eq_getElem hr]
    show pdot L.rows[r] _ % p = _
    rw [quiet MO _ (List.getElem_mem hr)]
  have e2 : ∀ k, k < L.states → fn (outM p L (unitM (L.left + L.states) (L.left + k))) r = fn (L.rows[r].drop L.left) k := fun k hk => by
    rw [col_out MO p0 (by lia)]
    show (L.rows.map fun r => r.getD (L.left + k) 0).getD r 0 = (L.rows[r].drop L.left).getD k 0
    rw [List.getD_eq_getElem?_getD, List.getElem?_map, List.getElem?_eq_getElem hr, List.getD_eq_getElem?_getD, List.getElem?_drop]
    exact List.getD_eq_getElem?_getD
  rw [e1, Sg_congr fun k hk => by rw [e2 k hk]]
  have hd : (L.rows[r].drop L.left).length = L.states := by rw [List.length_drop, R.1]; lia
  rw [pdot_eq hd hx, dot_comm]
  exact dvd_mod p _
theorem least_made (hp : p ∈ primesL) (MO : MachOk p m) (okL : MachOk p L) (el : L.left = m.left) (er : L.right = m.right) (es : L.states = (takenM p m m.states).length)
    (hA : ∀ w, w < m.left → (outM p L (unitM (L.left + L.states) w)).take L.right = ansM p m w 0)
    (hB : ∀ k q, (takenM p m m.states)[k]? = some q → (outM p L (unitM (L.left + L.states) (L.left + k))).take L.right = ansM p m q.1 (q.2 + 1))
    (hC : ∀ w, w < m.left → eqm p (linF p m (takenM p m m.states) (fn ((outM p L (unitM (L.left + L.states) w)).drop L.right)) L.states) (respF p m (w, 0)))
    (hD : ∀ k q, (takenM p m m.states)[k]? = some q → eqm p (linF p m (takenM p m m.states) (fn ((outM p L (unitM (L.left + L.states) (L.left + k))).drop L.right)) L.states) (respF p m (q.1, q.2 + 1))) : LeastOk p m L := by
  have p0 : 0 < p := by have := prime_pos p hp; lia
  have hlen := okL.len
  generalize hT : takenM p m m.states = T at *
  have getT : ∀ k, k < L.states → ∃ q, T[k]? = some q ∧ ∀ j, (T.map (respF p m)).getD k (fun _ => 0) j = respF p m q j := fun k hk => by
    have hk' : k < T.length := by lia
    refine ⟨T[k], List.getElem?_eq_getElem hk', fun j => ?_⟩
    rw [List.getD_eq_getElem?_getD, List.getElem?_map, List.getElem?_eq_getElem hk']; rfl
  have ask0 : ∀ w, w < m.left → askW L.left w 0 ++ stM p L w 0 = unitM (L.left + L.states) w := fun w hw => by
    rw [← unit_left (by lia)]; rfl
  have fdrop : ∀ (z : List Int) (k : Nat), fn (z.drop L.right) k = fn z (L.right + k) := fun z k => by
    show (z.drop L.right).getD k 0 = z.getD (L.right + k) 0
    rw [List.getD_eq_getElem?_getD, List.getElem?_drop, List.getD_eq_getElem?_getD]
  have ftake : ∀ (z : List Int) (k : Nat), k < L.right → fn (z.take L.right) k = fn z k := fun z k hk => by
    show (z.take L.right).getD k 0 = z.getD k 0
    rw [List.getD_eq_getElem?_getD, List.getElem?_take_of_lt hk, List.getD_eq_getElem?_getD]
  have st : ∀ w, w < m.left → ∀ t, eqm p (linF p m T (fn (stM p L w (t + 1))) L.states) (respF p m (w, t)) := by
    intro w hw t
    induction t with
    | zero =>
      have e : stM p L w 1 = (outM p L (unitM (L.left + L.states) w)).drop L.right := by
        show (outM p L (askW L.left w 0 ++ stM p L w 0)).drop L.right = _
        rw [ask0 w hw]
      rw [e]; exact hC w hw
    | succ t ih =>
      intro j
      have X := st_Rw p0 okL w (t + 1)
      have e : stM p L w (t + 2) = (outM p L (List.replicate L.left 0 ++ stM p L w (t + 1))).drop L.right := by
        rw [quiet_drop okL, st_next okL]
      have nx : ∀ k, k < L.states → p ∣ fn (stM p L w (t + 2)) k - Sg (fun i => fn (stM p L w (t + 1)) i * fn ((outM p L (unitM (L.left + L.states) (L.left + i))).drop L.right) k) L.states := fun k hk => by
        rw [e, fdrop]
        have := cols_dot okL p0 X.1 (r := L.right + k) (by lia)
        rw [Sg_congr fun i _ => by rw [fdrop]]
        exact this
      by_cases hr : m.right = 0
      · have z1 : respF p m (w, t + 1) j = 0 := resp_none MO hr _ _
        have z2 : linF p m T (fn (stM p L w (t + 1 + 1))) L.states j = 0 := Sg_zero fun k hk => by
          obtain ⟨q, _, hq⟩ := getT k hk
          rw [hq, resp_none MO hr, Int.mul_zero]
        rw [z1, z2]; exact ⟨0, by simp⟩
      have hr0 : 0 < m.right := by lia
      rw [resp_shift w t j hr0]
      have a1 : p ∣ linF p m T (fn (stM p L w (t + 2))) L.states j - Sg (fun k => Sg (fun i => fn (stM p L w (t + 1)) i * fn ((outM p L (unitM (L.left + L.states) (L.left + i))).drop L.right) k) L.states * (T.map (respF p m)).getD k (fun _ => 0) j) L.states := by
        have := dot_congN (p := p) (f := fun k => (T.map (respF p m)).getD k (fun _ => 0) j) (n := L.states) nx
        rw [dot_comm, dot_comm _ (fun k => Sg _ _)] at this
        exact this
      have a2 : Sg (fun k => Sg (fun i => fn (stM p L w (t + 1)) i * fn ((outM p L (unitM (L.left + L.states) (L.left + i))).drop L.right) k) L.states * (T.map (respF p m)).getD k (fun _ => 0) j) L.states = dot (fn (stM p L w (t + 1))) (fun i => linF p m T (fn ((outM p L (unitM (L.left + L.states) (L.left + i))).drop L.right)) L.states j) L.states := by
        rw [Sg_congr (g := fun k => Sg (fun i => fn (stM p L w (t + 1)) i * (fn ((outM p L (unitM (L.left + L.states) (L.left + i))).drop L.right) k * (T.map (respF p m)).getD k (fun _ => 0) j)) L.states) fun k _ => by
          rw [Int.mul_comm, ← Sg_mul]
          exact Sg_congr fun i _ => by rw [Int.mul_comm, Int.mul_assoc]]
        rw [Sg_swap]
        exact Sg_congr fun i _ => by rw [Sg_mul]; rfl
      have a3 : p ∣ dot (fn (stM p L w (t + 1))) (fun i => linF p m T (fn ((outM p L (unitM (L.left + L.states) (L.left + i))).drop L.right)) L.states j) L.states - dot (fn (stM p L w (t + 1))) (fun i => (T.map (respF p m)).getD i (fun _ => 0) (j + m.right)) L.states := dot_congN fun i hi => by
        obtain ⟨q, hq, hv⟩ := getT i hi
        have := hD i q hq j
        rw [hv, ← resp_shift q.1 q.2 j hr0]
        exact this
      have a4 := ih (j + m.right)
      have b := Int.dvd_add (Int.dvd_add (a2 ▸ a1) a3) a4
      have e5 : linF p m T (fn (stM p L w (t + 1))) L.states (j + m.right) = dot (fn (stM p L w (t + 1))) (fun i => (T.map (respF p m)).getD i (fun _ => 0) (j + m.right)) L.states := rfl
      rw [e5] at b
      rwa [show ∀ a b c d : Int, a - b + (b - c) + (c - d) = a - d from fun a b c d => by lia] at b
  refine ⟨okL, el, er, by rw [hT]; exact es, fun k q hq => ?_, fun w t hw => ?_⟩
  ·
    rw [hT] at hq
    have hk : k < L.states := by rw [es]; exact (List.getElem?_eq_some_iff.mp hq).1
    have hw : q.1 < m.left := (taken_mem (p := p) (m := m) (T := m.states) (by rw [hT]; exact List.mem_of_getElem? hq)).1
    have X := st_Rw p0 okL q.1 (q.2 + 1)
    have p2 : 2 ≤ p := (prime_pos p hp).1
    have U := unit_Rw p2 hk
    refine X.ext p0 U fun i => ?_
    by_cases hi : i < L.states
    · have hG : Gr p (T.map (respF p m)) := by rw [← hT]; exact taken_gr m.states
      refine gr_free hp hG (fun k' => fn (stM p L q.1 (q.2 + 1)) k' - fn (unitM L.states k) k') L.states (by rw [List.length_map]; lia) (fun j => ?_) i hi
      have a := st q.1 hw q.2 j
      have b : Sg (fun k' => fn (unitM L.states k) k' * (T.map (respF p m)).getD k' (fun _ => 0) j) L.states = respF p m q j := by
        rw [Sg_congr fun i _ => by rw [unit_at hk]]
        obtain ⟨q', hq', hv⟩ := getT k hk
        rw [hq] at hq'
        cases hq'
        rw [← hv]
        exact Sg_at hk (fun k' => (T.map (respF p m)).getD k' (fun _ => 0) j)
      have es' : Sg (fun k' => (fn (stM p L q.1 (q.2 + 1)) k' - fn (unitM L.states k) k') * (T.map (respF p m)).getD k' (fun _ => 0) j) L.states = linF p m T (fn (stM p L q.1 (q.2 + 1))) L.states j - Sg (fun k' => fn (unitM L.states k) k' * (T.map (respF p m)).getD k' (fun _ => 0) j) L.states :=
        dot_minus (fun k' => (T.map (respF p m)).getD k' (fun _ => 0) j) (fn (stM p L q.1 (q.2 + 1))) (fn (unitM L.states k)) L.states
      rw [es', b]
      exact a
    · rw [X.out (by lia : L.states ≤ i), U.out (by lia : L.states ≤ i)]
      exact ⟨0, by lia⟩
  ·
    cases t with
    | zero =>
      show (outM p L (askW L.left w 0 ++ stM p L w 0)).take L.right = _
      rw [ask0 w hw]; exact hA w hw
    | succ t =>
      have X := st_Rw p0 okL w (t + 1)
      have hAl : Rw p m.right (ansM p L w (t + 1)) := ⟨by rw [ans_len okL, er], fun x hx => (out_Rw p0 _).2 x (List.mem_of_mem_take hx)⟩
      have hAm : Rw p m.right (ansM p m w (t + 1)) := ⟨ans_len MO w (t + 1), fun x hx => (out_Rw p0 _).2 x (List.mem_of_mem_take hx)⟩
      refine hAl.ext p0 hAm fun r => ?_
      by_cases hr : r < m.right
      · have e : ansM p L w (t + 1) = (outM p L (List.replicate L.left 0 ++ stM p L w (t + 1))).take L.right := by
          rw [quiet_take okL, ans_see okL]
        have c1 := cols_dot okL p0 X.1 (r := r) (by lia)
        have c2 : Sg (fun k => fn (stM p L w (t + 1)) k * fn (outM p L (unitM (L.left + L.states) (L.left + k))) r) L.states = linF p m T (fn (stM p L w (t + 1))) L.states r := Sg_congr fun k hk => by
          obtain ⟨q, hq, hv⟩ := getT k hk
          rw [hv, resp_first q.1 q.2 hr, ← hB k q hq, ftake _ _ (by lia)]
        have c3 := st w hw t r
        rw [resp_first w t hr] at c3
        rw [c2] at c1
        have := Int.dvd_add c1 c3
        show p ∣ fn (ansM p L w (t + 1)) r - fn (ansM p m w (t + 1)) r
        rw [e, ftake _ _ (by lia)]
        rwa [show ∀ a b c : Int, a - b + (b - c) = a - c from fun a b c => by lia] at this
      · rw [hAl.out (by lia : m.right ≤ r), hAm.out (by lia : m.right ≤ r)]
        exact ⟨0, by lia⟩
end
end S7
namespace L2
open PySem PySem.Spec PyProof.Rows
section
variable {P : Program} {w : World} {K : W.Frag} {mg : Str → Option Value} {base : Heap}
theorem ok_flat {x qual : Str} {st : Stmt} {f : Addr} {fd : FuncData} {N ps : List Str} {sp : Sp} (F : Fun K x qual st f fd) (S : FnScope N ps (defScope st)) (len : ∀ vs H Q E, sp vs H Q E → vs.length = ps.length)
    (hbody : ∀ (cdv : Value) (A : Around) (outer : List Env) (s : Shared) (H : Hp) (vs : List V) (Q : VK) (E : XK), sp vs H Q E →
      ∃ t, PSs (cxOf CX0 P w K mg base N qual (defScope st) f cdv A outer s H E).nox (defBody st) t ∧ t { nx := fun _ H' => Q .non H', rt := Q } (start N vs) H) : FnOk P w K mg base CX0 0 f fd ps sp := by
  obtain ⟨oc, od, kV, doc, pm, an, cdv, ct, osl, rfl, lk, hcd⟩ := F.ex
  refine ⟨len, fun A outer s H args us vs Q E hr e0 hb r hsp => ?_⟩
  have hl := len _ _ _ _ hsp
  have KX : K.In s.heap := e0.mod.kin.keeps fun b o e => (e0.bs b o e).1
  have lim : s.heap.NoLimit := e0.mod.nolimit.keeps fun b o e => (e0.bs b o e).1
  have hkind : ∀ y ∈ ps.zip us, (defScope st).names.lookup y.1 = some .local ∨ ((defScope st).names.lookup y.1 = some .cell ∧ ((cellsFrom (s.heap.objs.size + 1) (defScope st).names []).lookup y.1).isSome = true) := fun ⟨n, v⟩ hy => by
    rcases S.par n (List.of_mem_zip hy).1 with q | q
    · exact .inl q
    · exact .inr ⟨q, W.cellsFrom_some _ _ _ (.inl q)⟩
  refine codeAny_call_function hr.depth (KX _ _ lk) rfl S.co S.gen rfl (W.codeRec_of KX hcd) (hb _ _ _ _ ?_)
  refine wpAny_newFunctionEnv_cells S.kind hkind fun env he s1 x => ?_
  subst he
  refine ⟨lim.keeps x.toInCall.keep, codeAny_func ?_⟩
  obtain ⟨t, ht, hq⟩ := hbody cdv A outer s H vs Q E hsp
  have I : Inv (cxOf CX0 P w K mg base N qual (defScope st) f cdv A outer s H E) [] (start N vs) H s1 := inv_start S hr.hd e0 hl r x
  refine wpAny_mono (ht.nox [] s1 (start N vs) H _ I hq) (fun fl s' hs => ?_) fun e s' hs => hs
  have fin : ∀ {σ' : St} {H' : Hp} {v : V} {u : Value}, Inv (cxOf CX0 P w K mg base N qual (defScope st) f cdv A outer s H E) [] σ' H' s' → RelV v u → Q v H' → CE outer P w H s Q u s' :=
    fun {σ' H' v u} J rv q => ⟨v, H', J.os, J.bare, J.base, J.hok, rv, q⟩
  cases fl with
  | ret u =>
    obtain ⟨v, σ', H', J, rv, q⟩ := hs
    exact fin J rv q
  | next =>
    obtain ⟨σ', H', J, q⟩ := hs
    exact fin (v := V.non) (u := Value.none) J rfl q
  | brk =>
    obtain ⟨_, _, _, q⟩ := hs
    exact False.elim q
  | cont =>
    obtain ⟨_, _, _, q⟩ := hs
    exact False.elim q
end
section
variable {X : Cx}
theorem call_anyT (hc : X.calm = true) : CallR X (.builtin "any") (fun xs H Q => ∃ p ns, xs = [.ref p] ∧ SqT X.K H p (List.map V.int ns) ∧ Q (.bl (ns.any fun n => n != 0)) H) := by
  intro pins s σ H vs us Q I r h
  obtain ⟨p, ns, rfl, hq, q⟩ := h
  obtain ⟨u, rfl, ru⟩ := vals1 r
  cases ru
  obtain ⟨its, rv, ht, hz⟩ := I.tuple hq
  have hlt : p < s.heap.objs.size := ht.lt
  have hlen : its.length = ns.length := by have := rv.length; rw [List.length_map] at this; exact this.symm
  apply call_any_walk
  apply wpAny_pyIter_tuple ht
  refine ⟨s.heap.objs.size, [s.heap.objs.size, p], [s.heap.objs.size], its.toArray.size, _, _, fun i => ((ns.map fun n => n != 0)[i]?).getD false, rfl, Walks.tuple (A := X.A.in1) (I.ok.hd hc) _ p (Nat.ne_of_lt hlt) its.toArray, ⟨⟨_, Heap.get?_push_size _ rfl, rfl, rfl⟩, ht.push _⟩, fun i v s1 Q1 E1 hP hQ => ?_, fun h1 tk1 hk => ?_⟩
  · have hP : its[i]? = some v := by simpa using hP
    have hi : i < ns.length := by rw [← hlen]; exact (List.getElem?_eq_some_iff.mp hP).1
    have hx : (ns.map V.int)[i]? = some (.int ns[i]) := by simp [hi]
    obtain ⟨u, hu, ru⟩ := rv.get hx
    rw [hP] at hu
    cases hu
    obtain ⟨t, rfl⟩ := ru
    dsimp only at hQ
    rw [show (ns.map fun n => n != 0)[i]? = some (ns[i] != 0) by simp [hi], Option.getD_some] at hQ
    exact truthy_int hQ
  · have e : ((List.range its.toArray.size).any fun i => ((ns.map fun n => n != 0)[i]?).getD false) = ns.any fun n => n != 0 := by
      have e2 := rng_any (ns.map fun n => n != 0)
      rw [List.length_map] at e2
      rw [List.size_toArray, hlen, e2, List.any_map]; rfl
    rw [e]
    refine ⟨.bl _, H, I.kept (fun b x e => hk b x (fun hm => by rw [List.mem_singleton.mp hm] at e; exact Nat.lt_irrefl _ (Heap.lt_size e)) (Heap.get?_push_of_some _ e)), rfl, q⟩
theorem cAnyT (K : W.Frag) (hK : X.K = K) (hc : X.calm = true) : CallR X (.builtin "any") (fun xs H Q => ∃ p ns, xs = [.ref p] ∧ SqT K H p (List.map V.int ns) ∧ Q (.bl (ns.any fun n => n != 0)) H) := hK ▸ call_anyT hc
end
section
variable {K : W.Frag} {H1 : Hp} {cp : St} {tt : TT} {te : TE} {Q : VK} {xs ys : List V} {l1 l2 : Addr} {b1 b2 : Bool}
end
end L2
namespace Bw
noncomputable def fstP (r : List Int) : Nat := (placesM r).headD 0
noncomputable def restM (p : Int) (steps : List (List Int)) (r : List Int) : List Int := steps.foldl (fun r st => clearM p st (fstP st) r) r
theorem restM_Rw {p : Int} {n : Nat} (p0 : 0 < p) : ∀ {steps : List (List Int)} {r : List Int}, Rws p n steps → Rw p n r → Rw p n (restM p steps r)
  | [], r, _, h => h
  | st :: steps, r, hs, h => restM_Rw p0 (steps := steps) (fun q hq => hs q (List.mem_cons_of_mem _ hq)) (clearM_Rw p0 (hs st List.mem_cons_self) h)
noncomputable def Stp : List (List Int) → Prop
  | [] => True
  | st :: rest => placesM st ≠ [] ∧ st.getD (fstP st) 0 = 1 ∧ (∀ q ∈ rest, q.getD (fstP st) 0 = 0) ∧ Stp rest
theorem Stp.ne : ∀ {L : List (List Int)}, Stp L → ∀ st ∈ L, placesM st ≠ []
  | [], _, _, h => nomatch h
  | _ :: _, h, st, hs => by
    rcases (List.mem_cons.mp hs) with (rfl | hs)
    · exact h.1
    · exact Stp.ne h.2.2.2 st hs
theorem Stp.snoc {st : List Int} (h1 : placesM st ≠ []) (h2 : st.getD (fstP st) 0 = 1) : ∀ {L : List (List Int)}, Stp L → (∀ q ∈ L, st.getD (fstP q) 0 = 0) → Stp (L ++ [st])
  | [], _, _ => ⟨h1, h2, fun q hq => (nomatch hq), trivial⟩
  | a :: L, h, hq => ⟨h.1, h.2.1, fun q hm => by
      rcases (List.mem_append.mp hm) with (hm | hm)
      · exact h.2.2.1 q hm
      · rw [List.mem_singleton.mp hm]; exact hq a List.mem_cons_self, Stp.snoc h1 h2 h.2.2.2 fun q hm => hq q (List.mem_cons_of_mem _ hm)⟩
section
variable {p : Int} {n : Nat}
theorem clear_sp {R : Fn → Prop} {st r : List Int} {k : Nat} (hs : Rw p n st) (hr : Rw p n r) (hR : Sp p R (fn st)) : Sp p R (fn (clearM p st k r)) ↔ Sp p R (fn r) := by
  have e := clearM_eqm (place := k) hs hr
  constructor
  · intro h
    refine .cong ((h.plus (r.getD k 0) hR)) fun j => ?_
    have := Int.dvd_neg.mpr (e j)
    rwa [show -(fn r j + -(r.getD k 0) * fn st j - fn (clearM p st k r) j) = fn (clearM p st k r) j + r.getD k 0 * fn st j - fn r j by rw [Int.neg_mul]; lia] at this
  · intro h
    exact .cong (h.plus (-(r.getD k 0)) hR) e
theorem rest_sp {R : Fn → Prop} (p0 : 0 < p) : ∀ {steps : List (List Int)} {r : List Int}, Rws p n steps → Rw p n r → (∀ q ∈ steps, Sp p R (fn q)) → (Sp p R (fn (restM p steps r)) ↔ Sp p R (fn r))
  | [], _, _, _, _ => Iff.rfl
  | st :: steps, r, hs, hr, hR => (rest_sp (R := R) p0 (steps := steps) (r := clearM p st (fstP st) r) (fun q hq => hs q (List.mem_cons_of_mem _ hq)) (clearM_Rw p0 (hs st List.mem_cons_self) hr) fun q hq => hR q (List.mem_cons_of_mem _ hq)).trans (clear_sp (hs st List.mem_cons_self) hr (hR st List.mem_cons_self))
theorem sp_at0 {L : List (List Int)} {f : Nat} (h : ∀ q ∈ L, q.getD f 0 = 0) {v : Fn} (hv : Sp p (RS L) v) : p ∣ v f := by
  induction hv with
  | zero => exact ⟨0, by simp⟩
  | @add v r c _ hr ih =>
    obtain ⟨q, hq, rfl⟩ := hr
    show p ∣ v f + c * q.getD f 0
    rw [h q hq, Int.mul_zero, Int.add_zero]
    exact ih
  | @cong u v _ e ih =>
    have := Int.dvd_sub ih (e f)
    rwa [show v f - (v f - u f) = u f by lia] at this
theorem rest_zero (p0 : 0 < p) : ∀ {steps : List (List Int)} {r : List Int}, Rws p n steps → Stp steps → Rw p n r → Sp p (RS steps) (fn r) → ∀ j, (restM p steps r).getD j 0 = 0
  | [], r, _, _, hr, h, j => by
    have h0 := sp_nil (R := RS []) (fun f hf => by obtain ⟨q, hq, _⟩ := hf; exact (nomatch hq)) h j
    have hb := hr.at p0 j
    exact small_eq (p := p) (a := r.getD j 0) (b := 0) (by rw [Int.sub_zero]; exact h0) hb.1 hb.2 (Int.le_refl 0) p0
  | st :: steps, r, hs, hS, hr, h, j => by
    have hst := hs st List.mem_cons_self
    have hs' : Rws p n steps := fun q hq => hs q (List.mem_cons_of_mem _ hq)
    refine rest_zero p0 (steps := steps) (r := clearM p st (fstP st) r) hs' hS.2.2.2 (clearM_Rw p0 hst hr) ?_ j
    obtain ⟨c, w, hw, e⟩ := sp_cons (u := fn st) (U := steps.map fn) (v := fn r) (RS_mem.mp h)
    have hw' := RS_mem.mpr hw
    have hz := sp_at0 hS.2.2.1 hw'
    have e1 := e (fstP st)
    have ec := clearM_eqm (place := fstP st) hst hr
    refine .cong hw' fun j => ?_
    have e2 := e j
    have e3 := ec j
    have h1 : fn st (fstP st) = 1 := hS.2.1
    simp only [h1, Int.mul_one] at e1
    obtain ⟨a1, b1⟩ := e1
    obtain ⟨a2, b2⟩ := e2
    obtain ⟨a3, b3⟩ := e3
    obtain ⟨a4, b4⟩ := hz
    have hc : r.getD (fstP st) 0 = fn r (fstP st) := rfl
    rw [hc] at b3
    refine ⟨a2 + a3 - (a1 - a4) * fn st j, ?_⟩
    have : c = p * a1 + fn r (fstP st) - p * a4 := by lia
    rw [this] at b2
    grind
theorem zero_of {r : List Int} (h : ∀ j, r.getD j 0 = 0) : (r.any fun x => x != 0) = false := by
  rw [List.any_eq_false]
  intro x hx
  obtain ⟨j, hj, rfl⟩ := (List.getElem_of_mem hx)
  have := h j
  rw [List.getD_eq_getElem?_getD, List.getElem?_eq_getElem hj] at this
  simpa using this
theorem of_zero {r : List Int} (h : (r.any fun x => x != 0) = false) (j : Nat) : r.getD j 0 = 0 := by
  rw [List.any_eq_false] at h
  rw [List.getD_eq_getElem?_getD (i := j)]
  by_cases hj : j < r.length
  · rw [List.getElem?_eq_getElem hj]
    simpa using h _ (List.getElem_mem hj)
  · rw [List.getElem?_eq_none (by lia)]; rfl
theorem rest_any (p0 : 0 < p) {steps : List (List Int)} {r : List Int} (hs : Rws p n steps) (hS : Stp steps) (hr : Rw p n r) : ((restM p steps r).any fun x => x != 0) = false ↔ Sp p (RS steps) (fn r) := by
  constructor
  · intro h
    refine (rest_sp p0 hs hr fun q hq => .mem ⟨q, hq, rfl⟩).mp (Sp.zero.of_eq fun j => ?_)
    exact (of_zero h j).symm
  · intro h
    exact zero_of (rest_zero p0 hs hS hr h)
theorem fstP_cons {r : List Int} {l : Nat} {t : List Nat} (h : placesM r = l :: t) : fstP r = l := by unfold fstP; rw [h]; rfl
theorem rest_off (p0 : 0 < p) : ∀ {steps : List (List Int)} {r : List Int}, Rws p n steps → Stp steps → Rw p n r → ∀ q ∈ steps, (restM p steps r).getD (fstP q) 0 = 0
  | [], _, _, _, _, _, h => nomatch h
  | st :: steps, r, hs, hS, hr, q, hq => by
    have hst := hs st List.mem_cons_self
    have hs' : Rws p n steps := fun q hq => hs q (List.mem_cons_of_mem _ hq)
    have hr' := clearM_Rw (place := fstP st) p0 hst hr
    rcases (List.mem_cons.mp hq) with (rfl | hq)
    · have keep : ∀ {L : List (List Int)} {x : List Int}, Rws p n L → Rw p n x → (∀ y ∈ L, y.getD (fstP q) 0 = 0) → (restM p L x).getD (fstP q) 0 = x.getD (fstP q) 0 := fun {L} => by
        induction L with
        | nil => intro x _ _ _; rfl
        | cons a L ih =>
          intro x h1 h2 h3
          have ha := h1 a List.mem_cons_self
          show (restM p L (clearM p a (fstP a) x)).getD (fstP q) 0 = _
          rw [ih (fun y hy => h1 y (List.mem_cons_of_mem _ hy)) (clearM_Rw p0 ha h2) (fun y hy => h3 y (List.mem_cons_of_mem _ hy)), clearM_at ha h2 (h3 a List.mem_cons_self) p0]
      show (restM p steps (clearM p q (fstP q) r)).getD (fstP q) 0 = 0
      rw [keep hs' hr' hS.2.2.1, clearM_place hst hr hS.2.1]
    · exact rest_off p0 hs' hS.2.2.2 hr' q hq
end
end Bw
namespace S7
open PySem L2 Bw
theorem nd0 : (["number", "more", "factor", "p"] : List Str).Nodup := by decide +kernel
inductive AskTurned (vs : List V) (H : Hp) (Q : L2.VK) (E : L2.XK) : Prop where
  | mk (p n : Int) (q0_ : vs = [.int p, .int n]) (q1_ : 2 ≤ p) (q2_ : p ≤ 97) (q3_ : Q (.int (turnM p n)) H) : AskTurned  vs H Q E
noncomputable def spTurned : Sp := fun vs H Q E => AskTurned  vs H Q E
inductive AskAdded (K : W.Frag) (vs : List V) (H : Hp) (Q : L2.VK) (E : L2.XK) : Prop where
  | mk (p f : Int) (a b : Addr) (r o : List Int) (q0_ : vs = [.int p, .ref a, .int f, .ref b]) (q1_ : 2 ≤ p) (q2_ : p ≤ 97) (q3_ : -1000 ≤ f) (q4_ : f ≤ 1000) (q5_ : SqT K H a (r.map V.int)) (q6_ : SqT K H b (o.map V.int)) (q7_ : r.length = o.length) (q8_ : r.length ≤ 1000) (q9_ : AnyT K H ((addM p r f o).map V.int) Q) : AskAdded K vs H Q E
noncomputable def spAdded (K : W.Frag) : Sp := fun vs H Q E => AskAdded K vs H Q E
inductive AskSummed (K : W.Frag) (vs : List V) (H : Hp) (Q : L2.VK) (E : L2.XK) : Prop where
  | mk (p n : Int) (a b : Addr) (b1 b2 : Bool) (RS : List V) (rs : List (List Int)) (fs : List Int) (q0_ : vs = [.int p, .ref a, .ref b, .int n]) (q1_ : 2 ≤ p) (q2_ : p ≤ 97) (q3_ : 0 ≤ n) (q4_ : n ≤ 1000) (q5_ : Sq b1 K H a RS) (q6_ : HasA K H RS (rs.map intsT)) (q7_ : Sq b2 K H b (fs.map V.int)) (q8_ : rs.length = fs.length) (q9_ : rs.length ≤ 1000) (q10_ : (∀ r ∈ rs, r.length = n.toNat)) (q11_ : (∀ f ∈ fs, 0 ≤ f ∧ f < p)) (q12_ : AnyT K H ((sumM p (rs.zip fs) (List.replicate n.toNat 0)).map V.int) Q) : AskSummed K vs H Q E
noncomputable def spSummed (K : W.Frag) : Sp := fun vs H Q E => AskSummed K vs H Q E
section
variable {P : Program} {w : World} {K : W.Frag} {mg : Str → Option Value} {base : Heap}
theorem scT : FnScope ["p", "number", "power", "step"] ["p", "number"] (defScope sTurned) := ⟨rfl, rfl, rfl, by decide +kernel, rfl, by decide +kernel, by decide +kernel⟩
theorem ok_turned {f : Addr} {fd : FuncData} (F : Fun K "turned" "turned" sTurned f fd) (T : Txt mg) : FnOk P w K mg base CX0 1 f fd ["p", "number"] spTurned := by
  refine F.ok scT (fun vs H Q E h => ?_) (fun cdv A outer s H vs Q E hr h => ?_)
  · obtain ⟨p, n, rfl, _⟩ := h
    rfl
  · obtain ⟨p, n, rfl, p2, p97, k⟩ := h
    refine ⟨_, pss_cons (ps_set (i := 2) scT.nd rfl (Or.inl rfl) pe_int) (pss_cons (ps_for PassesOwn.never rfl (pi_range1 rfl T.range (pa_cons (pe_op op_sub (pv 0) pe_int) pa_nil)) (pg_name (i := 3) scT.nd rfl (Or.inl rfl)) (pss_one (ps_set (i := 2) scT.nd rfl (Or.inl rfl) (pe_op op_mod (pe_op op_mul (pv 2) (pv 1)) (pv 0))))) (pss_one (ps_ret (pv 2)))), ?_⟩
    refine ⟨_, rfl, _, _, rfl, rfl, p - 2, rfl, by lia, by lia, for_range (n := (p - 2).toNat) (fun i σ H' => All2 (H' = H) (Ex1 fun (st) => (σ = [some (.int p), some (.int n), some (.int (turnI p n i)), st]))) ⟨rfl, none, rfl⟩ ?_ ?_⟩
    · rintro i σ H' hi ⟨rfl, st, rfl⟩
      have hb := turnI_bound (n := n) p2 i
      exact ⟨_, rfl, _, rfl, _, _, rfl, rfl, .inl ⟨by lia, by lia⟩, _, rfl, _, _, rfl, rfl, by lia, rfl, _, rfl⟩
    · rintro σ H' ⟨rfl, st, rfl⟩
      exact ⟨_, rfl, k⟩
theorem scA : FnScope ["p", "row", "factor", "other"] ["p", "row", "factor", "other"] (defScope sAdded) := ⟨rfl, rfl, rfl, by decide +kernel, rfl, by decide +kernel, by decide +kernel⟩
theorem ok_added0 {f : Addr} {fd : FuncData} (F : Fun K "added" "added" sAdded f fd) (T : Txt mg) : FnOk P w K mg base CX0 0 f fd ["p", "row", "factor", "other"] (spAdded K) := by
  refine ok_flat F scA (fun vs H Q E h => ?_) (fun cdv A outer s H vs Q E h => ?_)
  · obtain ⟨p, f, a, b, r, o, rfl, _⟩ := h
    rfl
  · obtain ⟨p, fc, a, b, r, o, rfl, p2, p97, f0, f1, ha, hb, hl, hz, k⟩ := h
    refine ⟨_, pss_one (ps_ret (pe_callTy (cTuple K rfl) rfl T.tuple bt_tuple (pa_cons (pe_comp (N := ["number", "more", "factor", "p"]) (own := 2) (caps := [2, 0]) rfl (piZip K rfl false false rfl T.zip (pa_cons (pv 1) (pa_cons (pv 3) pa_nil))) (show BlkScope ["p", "row", "factor", "other"] (defScope sAdded) ["number", "more", "factor", "p"] 2 [2, 0] _ from .mk' (by decide +kernel)) (fun _ _ _ _ _ => pgTup (n := 2) K rfl rfl (pgs_cons (pg_name (i := 0) nd0 rfl (Or.inl rfl)) (pgs_cons (pg_name (i := 1) nd0 rfl (Or.inl rfl)) pgs_nil))) (fun _ _ _ _ _ => pts_nil) (fun _ _ _ _ _ => pe_op op_mod (pe_op op_add (pv 0) (pe_op op_mul (pv 2) (pv 1))) (pv 3))) pa_nil))), ?_⟩
    have ext : (addM p r fc o).length = r.length := by simp [addM, hl]
    refine ⟨_, rfl, _, rfl, a, b, rfl, ⟨_, ha⟩, ⟨_, hb⟩, comp_zip (b1 := false) (b2 := false) (cp := [some (.int fc), some (.int p)]) (fun i H' zs => zs = ((addM p r fc o).take i).map V.int) ha hb (by simp [hl]) (by rw [List.length_map]; exact Nat.le_of_lt (small1000 hz)) rfl (fun i H' zs e => by subst e; rw [List.length_map, List.length_take]; lia) (fun i H1 H2 zs _ e => e) ?_ ?_⟩
    · rintro i x y H' zs hx hy sm rfl
      rw [List.getElem?_map] at hx hy
      cases e1 : r[i]? with
      | none => rw [e1] at hx; cases hx
      | some u =>
        cases e2 : o[i]? with
        | none => rw [e2] at hy; cases hy
        | some v =>
          rw [e1] at hx
          rw [e2] at hy
          cases hx
          cases hy
          refine tgo ?_
          refine ⟨_, rfl, _, rfl, _, rfl, _, _, rfl, rfl, .inl ⟨by lia, by lia⟩, _, _, rfl, rfl, _, rfl, _, _, rfl, rfl, by lia, ⟨[_, _], rfl, rfl⟩, sm, ?_⟩
          have e3 : (addM p r fc o)[i]? = some ((u + fc * v) % p) := by
            unfold addM
            rw [List.getElem?_zipWith, e1, e2]
          rw [List.take_add_one, e3]
          simp
    · rintro H' zs sm rfl q hq
      rw [List.length_map, List.take_of_length_le (by lia)]
      refine ⟨q, _, rfl, .inl ⟨.of upd_same, fun l hl => ?_⟩⟩
      exact k _ _ ((sm.trans (.upd hq)).trans (.upd hl)) (.of upd_same)
theorem ok_added {f : Addr} {fd : FuncData} (F : Fun K "added" "added" sAdded f fd) (T : Txt mg) : FnOk P w K mg base CX0 1 f fd ["p", "row", "factor", "other"] (spAdded K) := (ok_added0 F T).mono (by decide)
theorem sumM_snoc (p : Int) (r : List Int) (f : Int) : ∀ (L : List (List Int × Int)) (t : List Int), sumM p (L ++ [(r, f)]) t = addM p (sumM p L t) f r
  | [], t => rfl
  | (r', f') :: L, t => by
    rw [List.cons_append, sumM, sumM]
    exact sumM_snoc p r f L _
theorem sumM_len {p : Int} {n : Nat} : ∀ (L : List (List Int × Int)) (t : List Int), (∀ q ∈ L, q.1.length = n) → t.length = n → (sumM p L t).length = n
  | [], t, _, h => h
  | (r, f) :: L, t, h, ht => by
    rw [sumM]
    refine sumM_len L _ (fun q hq => h q (List.mem_cons_of_mem _ hq)) ?_
    have := h (r, f) List.mem_cons_self
    simp only at this
    simp [addM, ht, this]
theorem scS : FnScope ["p", "rows", "factors", "length", "total", "row", "factor"] ["p", "rows", "factors", "length"] (defScope sSummed) := ⟨rfl, rfl, rfl, by decide +kernel, rfl, by decide +kernel, by decide +kernel⟩
theorem ok_summed1 {f fA : Addr} {fd fdA : FuncData} (F : Fun K "summed" "summed" sSummed f fd) (T : Txt mg) (FA : Fun K "added" "added" sAdded fA fdA) (bA : Binds K fdA ["p", "row", "factor", "other"] []) (mA : mg "added" = some (.ref fA)) :
    FnOk P w K mg base CX0 1 f fd ["p", "rows", "factors", "length"] (spSummed K) := by
  have GA : FnOk P w K mg base CX0 0 fA fdA ["p", "row", "factor", "other"] (spAdded K) := ok_added0 FA T
  refine F.ok scS (fun vs H Q E h => ?_) (fun cdv A outer s H vs Q E hr h => ?_)
  · obtain ⟨p, n, a, b, b1, b2, RS, rs, fs, rfl, _⟩ := h
    rfl
  · obtain ⟨p, n, a, b, b1, b2, RS, rs, fs, rfl, p2, p97, n0, n1, hq1, hA, hq2, hl, hz, hrl, hfl, k⟩ := h
    refine ⟨_, pss_cons (ps_set (i := 4) scS.nd rfl (Or.inl rfl) (pe_op (opRepT K rfl) (pe_tup (pa_cons pe_int pa_nil)) (pv 3))) (pss_cons (ps_for PassesOwn.never rfl (piZip K rfl b1 b2 rfl T.zip (pa_cons (pv 1) (pa_cons (pv 2) pa_nil))) (pgTup (n := 2) K rfl rfl (pgs_cons (pg_name (i := 5) scS.nd rfl (Or.inl rfl)) (pgs_cons (pg_name (i := 6) scS.nd rfl (Or.inl rfl)) pgs_nil))) (pss_one (ps_set (i := 4) scS.nd rfl (Or.inl rfl) (pe_call GA hr rfl mA FA.kp bA .nil pass0 (pa_cons (pv 0) (pa_cons (pv 4) (pa_cons (pv 6) (pa_cons (pv 5) pa_nil)))))))) (pss_one (ps_ret (pv 4)))), ?_⟩
    refine ⟨by decide, fun q hq => ⟨_, rfl, q, n, _, rfl, rfl, .of upd_same, by simp, by lia, by lia, ?_, fun t H1 sm1 ht => ?_⟩⟩
    · have : (1000 : Nat) ≤ sizeLine := by decide
      show 1 * n.toNat ≤ sizeLine
      lia
    have sm0 : Same H H1 := (Same.upd hq).trans sm1
    have eRS : RS.length = (fs.map V.int).length := by rw [hA.length, List.length_map, List.length_map]; exact hl
    have e0 : (List.replicate n.toNat [V.int 0]).flatten = (List.replicate n.toNat (0 : Int)).map V.int := by
      rw [List.map_replicate]
      induction n.toNat with
      | zero => rfl
      | succ m ih => rw [List.replicate_succ, List.flatten_cons, ih, List.replicate_succ]; rfl
    refine ⟨_, rfl, _, rfl, a, b, rfl, ⟨_, sm0.sq hq1⟩, ⟨_, sm0.sq hq2⟩, for_zip (b1 := b1) (b2 := b2) (fun i σ H' => All2 (Same H H') (Ex3 fun (t st1 st2) => All2 (σ = [some (.int p), some (.ref a), some (.ref b), some (.int n), some (.ref t), st1, st2]) (SqT K H' t ((sumM p ((rs.zip fs).take i) (List.replicate n.toNat 0)).map V.int)))) eRS ⟨sm0, t, none, none, rfl, by rw [e0] at ht; exact ht⟩ (fun i σ H' ⟨sm, _⟩ => ⟨sm.sq hq1, sm.sq hq2⟩) (fun i σ H1 H2 s12 ⟨sm, t, st1, st2, e, ht⟩ => ⟨sm.trans s12, t, st1, st2, e, s12.seqT ht⟩) ?_ ?_⟩
    · rintro i x y σ H' hx hy ⟨sm, t, st1, st2, rfl, ht⟩
      obtain ⟨d, hd, hx'⟩ := hA.get hx
      rw [List.getElem?_map] at hd hy
      cases e1 : rs[i]? with
      | none => rw [e1] at hd; cases hd
      | some r =>
        cases e2 : fs[i]? with
        | none => rw [e2] at hy; cases hy
        | some fc =>
          rw [e1] at hd
          rw [e2] at hy
          cases hd
          cases hy
          obtain ⟨ra, rfl, hra⟩ := hasT hx'
          have hr1 := hrl r (List.mem_of_getElem? e1)
          have hf1 := hfl fc (List.mem_of_getElem? e2)
          have hsl : (sumM p ((rs.zip fs).take i) (List.replicate n.toNat 0)).length = n.toNat := sumM_len _ _ (fun q hq => hrl q.1 (List.of_mem_zip (List.mem_of_mem_take hq)).1) (by simp)
          refine ⟨_, rfl, _, rfl, _, rfl, _, rfl, p, fc, t, ra, _, r, rfl, p2, p97, by lia, by lia, ht, sm.seqT hra, by rw [hsl, hr1], by rw [hsl]; lia, fun t' H2 sm2 ht' => ?_⟩
          refine ⟨sm.trans sm2, t', _, _, rfl, ?_⟩
          have e3 : (rs.zip fs)[i]? = some (r, fc) := by rw [List.getElem?_zip_eq_some]; exact ⟨e1, e2⟩
          rw [List.take_add_one, e3]
          show SqT K H2 t' ((sumM p ((rs.zip fs).take i ++ [(r, fc)]) _).map V.int)
          rw [sumM_snoc]
          exact ht'
    · rintro σ H' ⟨sm, t, st1, st2, rfl, ht⟩
      have e4 : (rs.zip fs).length ≤ RS.length := by rw [List.length_zip, hA.length, List.length_map]; lia
      rw [List.take_of_length_le e4] at ht
      exact ⟨_, rfl, k _ _ sm ht⟩
end
theorem nd1 : (["row", "place"] : List Str).Nodup := by decide +kernel
theorem nd2 : (["row", "lead", "p", "place"] : List Str).Nodup := by decide +kernel
inductive AskCleared (K : W.Frag) (vs : List V) (H : Hp) (Q : L2.VK) (E : L2.XK) : Prop where
  | mk (p : Int) (a b : Addr) (r o : List Int) (i : Int) (j : Nat) (q0_ : vs = [.int p, .ref a, .ref b, .int i]) (q1_ : i = j) (q2_ : 2 ≤ p) (q3_ : p ≤ 97) (q4_ : SqT K H a (r.map V.int)) (q5_ : SqT K H b (o.map V.int)) (q6_ : r.length = o.length) (q7_ : j < r.length) (q8_ : r.length ≤ 1000) (q9_ : (∀ x ∈ r, 0 ≤ x ∧ x < p)) (q10_ : AnyT K H ((clearM p o j r).map V.int) Q) : AskCleared K vs H Q E
noncomputable def spCleared (K : W.Frag) : Sp := fun vs H Q E => AskCleared K vs H Q E
inductive AskReduced (K : W.Frag) (vs : List V) (H : Hp) (Q : L2.VK) (E : L2.XK) : Prop where
  | mk (p : Int) (a : Addr) (b : Bool) (RS : List V) (rs : List (List Int)) (n : Nat) (q0_ : vs = [.int p, .ref a]) (q1_ : p ∈ primesL) (q2_ : Sq b K H a RS) (q3_ : HasA K H RS (rs.map intsT)) (q4_ : rs.length ≤ 1000) (q5_ : n ≤ 1000) (q6_ : Rws p n rs) (q7_ : ∀ t H' DS, Same H H' → SqT K H' t DS → HasA K H' DS ((redM p rs).map intsT) → Q (.ref t) H') : AskReduced K vs H Q E
noncomputable def spReduced (K : W.Frag) : Sp := fun vs H Q E => AskReduced K vs H Q E
section
variable {P : Program} {w : World} {K : W.Frag} {mg : Str → Option Value} {base : Heap}
theorem scC : FnScope ["p", "row", "lead", "place"] ["p", "row", "lead", "place"] (defScope sCleared) := ⟨rfl, rfl, rfl, by decide +kernel, rfl, by decide +kernel, by decide +kernel⟩
theorem ok_cleared {f fA : Addr} {fd fdA : FuncData} (F : Fun K "cleared" "cleared" sCleared f fd) (T : Txt mg) (FA : Fun K "added" "added" sAdded fA fdA) (bA : Binds K fdA ["p", "row", "factor", "other"] []) (mA : mg "added" = some (.ref fA)) :
    FnOk P w K mg base CX0 2 f fd ["p", "row", "lead", "place"] (spCleared K) := by
  have GA : FnOk P w K mg base CX0 1 fA fdA ["p", "row", "factor", "other"] (spAdded K) := ok_added FA T
  refine F.ok scC (fun vs H Q E h => ?_) (fun cdv A outer s H vs Q E hr h => ?_)
  · obtain ⟨p, a, b, r, o, i, j, rfl, _⟩ := h
    rfl
  · obtain ⟨p, a, b, r, o, i, j, rfl, rfl, p2, p97, ha, hb, hl, hj, hz, hrp, k⟩ := h
    refine ⟨_, pss_one (ps_ret (pe_ifExp (pt_cmpR op_ne (pe_ix (ixT K rfl) (pv 1) (pv 3) (fun _ _ => rfl)) pe_int (nomark _)) (pe_call GA hr rfl mA FA.kp bA .nil pass0 (pa_cons (pv 0) (pa_cons (pv 1) (pa_cons (pe_un un_neg (pe_ix (ixT K rfl) (pv 1) (pv 3) (fun _ _ => rfl))) (pa_cons (pv 2) pa_nil))))) (pv 1))), ?_⟩
    have hx := hrp _ (List.mem_of_getElem? (getD_of hj))
    refine ⟨_, rfl, _, rfl, a, _, (j : Int), _, rfl, rfl, ha, atI_nat (atRow hj), rfl, _, rfl, iteNe (fun hne => ?_) (fun heq => ?_)⟩
    · have hne' : r.getD j 0 ≠ 0 := fun z => hne (congrArg V.int z)
      refine ⟨_, rfl, _, rfl, _, rfl, _, rfl, a, _, (j : Int), _, rfl, rfl, ha, atI_nat (atRow hj), _, rfl, _, rfl, p, -(r.getD j 0), a, b, r, o, rfl, p2, p97, by lia, by lia, ha, hb, hl, hz, ?_⟩
      unfold clearM at k
      rw [if_pos hne'] at k
      exact k
    · have heq' : r.getD j 0 = 0 := V.int.inj heq
      unfold clearM at k
      rw [if_neg (fun z => z heq')] at k
      exact ⟨_, rfl, k.old ha⟩
end
section
variable {P : Program} {w : World} {K : W.Frag} {mg : Str → Option Value} {base : Heap}
noncomputable abbrev nD : List Str := ["p", "rows", "done", "rest", "length", "place", "heads", "lead"]
theorem scD : FnScope ["p", "rows", "done", "rest", "length", "place", "heads", "lead"] ["p", "rows"] (defScope sReduced) := ⟨rfl, rfl, rfl, by decide +kernel, rfl, by decide +kernel, by decide +kernel⟩
theorem comp_clear {H : Hp} {l la : Addr} {XS : List V} {xs : List (List Int)} {p : Int} {n place : Nat} {lead : List Int} {Q : VK} {te : TE} (p2 : 2 ≤ p) (p97 : p ≤ 97) (hl : SqL K H l XS) (hA : HasA K H XS (xs.map intsT)) (hx : Rws p n xs) (hz : xs.length ≤ 1000) (hn : n ≤ 1000) (hp : place < n) (hld : lead.length = n) (hla : SqT K H la (lead.map V.int))
    (te_of : ∀ (x : Addr) (H1 : Hp) (R : VK), spCleared K [.int p, .ref x, .ref la, .int (0 + (place : Int))] H1 R (fun _ _ _ => False) → te [some (.ref x), some (.ref la), some (.int p), some (.int (0 + (place : Int)))] H1 R)
    (done : ∀ H' zs, Same H H' → HasA K H' zs ((xs.map (clearM p lead place)).map intsT) → ∀ q, H' q = none → Q (.ref q) (upd H' q (.lst zs))) :
    ∃ W : Nat → Nat → St → Hp → List V → Prop, (∃ m, W 0 m (List.replicate 1 none ++ [some (.ref la), some (.int p), some (.int (0 + (place : Int)))]) H []) ∧ CompW (Itl K l) (gName 0) tTrue te Q W := by
  refine comp_list (cp := [some (.ref la), some (.int p), some (.int (0 + (place : Int)))]) (fun i H' zs => HasA K H' zs (((xs.take i).map (clearM p lead place)).map intsT)) hl (by rw [lenA hA]; exact Nat.le_of_lt (small1000 hz)) .nil
    (fun i H' zs h => by rw [lenA h, List.length_map, List.length_take]; lia) ?_ ?_
  · rintro i x H' zs hx' sm h
    obtain ⟨r, a, hr, rfl, ha⟩ := rowAt hA hx'
    have hR := hx r (List.mem_of_getElem? hr)
    refine tgo (te_of a H' _ ⟨p, a, la, r, lead, 0 + (place : Int), place, rfl, by lia, p2, p97, sm.seqT ha, sm.seqT hla, by rw [hR.1, hld], by rw [hR.1]; exact hp, by rw [hR.1]; exact hn, hR.2, fun t H2 s2 ht => ?_⟩)
    refine ⟨⟨[_], rfl, rfl⟩, sm.trans s2, ?_⟩
    rw [List.take_add_one, hr]
    show HasA K H2 _ (((xs.take i ++ [r]).map (clearM p lead place)).map intsT)
    rw [List.map_append, List.map_append]
    exact (h.mono s2).append (.cons (hasT_of ht) .nil)
  · rintro H' zs sm h q hq
    rw [lenA hA, List.take_length] at h
    exact done H' zs sm h q hq
inductive AskLed (K : W.Frag) (vs : List V) (H : Hp) (Q : L2.VK) (E : L2.XK) : Prop where
  | mk (p : Int) (a : Addr) (r : List Int) (i : Int) (j : Nat) (q0_ : vs = [.int p, .ref a, .int i]) (q1_ : i = j) (q2_ : p ∈ primesL) (q3_ : SqT K H a (r.map V.int)) (q4_ : j < r.length) (q5_ : r.length ≤ 1000) (q6_ : (∀ x ∈ r, 0 ≤ x ∧ x < p)) (q7_ : r.getD j 0 ≠ 0) (q8_ : AnyT K H ((leadM p r.length r j).map V.int) Q) : AskLed K vs H Q E
noncomputable def spLed (K : W.Frag) : Sp := fun vs H Q E => AskLed K vs H Q E
theorem scLead : FnScope ["p", "row", "place"] ["p", "row", "place"] (defScope sLed) := ⟨rfl, rfl, rfl, by decide +kernel, rfl, by decide +kernel, by decide +kernel⟩
theorem ok_led {f fA fT fS : Addr} {fd fdA fdT fdS : FuncData} (F : Fun K "led" "led" sLed f fd) (T : Txt mg) (FA : Fun K "added" "added" sAdded fA fdA) (bA : Binds K fdA ["p", "row", "factor", "other"] []) (mA : mg "added" = some (.ref fA))
    (FT : Fun K "turned" "turned" sTurned fT fdT) (bT : Binds K fdT ["p", "number"] []) (mT : mg "turned" = some (.ref fT)) (FS : Fun K "summed" "summed" sSummed fS fdS) (bS : Binds K fdS ["p", "rows", "factors", "length"] []) (mS : mg "summed" = some (.ref fS)) :
    FnOk P w K mg base CX0 2 f fd ["p", "row", "place"] (spLed K) := by
  have GT : FnOk P w K mg base CX0 1 fT fdT ["p", "number"] spTurned := ok_turned FT T
  have GS : FnOk P w K mg base CX0 1 fS fdS ["p", "rows", "factors", "length"] (spSummed K) := ok_summed1 FS T FA bA mA
  refine F.ok scLead (fun vs H Q E h => ?_) (fun cdv A outer s H vs Q E hr h => ?_)
  · obtain ⟨p, a, r, i, j, rfl, _⟩ := h
    rfl
  · obtain ⟨p, a, r, i, j, rfl, rfl, pp, ha, hj, hz, hrp, hne, k⟩ := h
    obtain ⟨p2, p97⟩ := prime_pos p pp
    refine ⟨_, pss_one (ps_ret (pe_call GS hr rfl mS FS.kp bS .nil pass0 (pa_cons (pv 0) (pa_cons (pe_lst (pa_cons (pv 1) pa_nil)) (pa_cons (pe_lst (pa_cons (pe_call GT hr rfl mT FT.kp bT .nil pass0 (pa_cons (pv 0) (pa_cons (pe_ix (ixT K rfl) (pv 1) (pv 2) (fun _ _ => rfl)) pa_nil))) pa_nil)) (pa_cons (pe_callB (cLen K rfl) rfl T.len bt_len (pa_cons (pv 1) pa_nil)) pa_nil)))))), ?_⟩
    have hx := hrp _ (List.mem_of_getElem? (getD_of hj))
    have htk := turn_ok (n := r.getD j 0) pp (by lia) hx.2
    refine ⟨_, rfl, _, rfl, (by show 1 ≤ sizeLine; decide), fun l1 h1 => ?_⟩
    refine ⟨_, rfl, _, rfl, _, rfl, a, _, (j : Int), _, rfl, rfl, (Same.upd h1).seqT ha, atI_nat (atRow hj), p, r.getD j 0, rfl, p2, p97, (by show 1 ≤ sizeLine; decide), fun l2 h2 => ?_⟩
    have sm5 : Same H (upd (upd H l1 (.lst [.ref a])) l2 (.lst [.int (turnM p (r.getD j 0))])) := (Same.upd h1).trans (.upd h2)
    refine ⟨_, rfl, a, _, rfl, .inr (sm5.seqT ha), ?_⟩
    rw [List.length_map]
    refine ⟨p, (r.length : Int), l1, l2, true, true, [.ref a], [r], [turnM p (r.getD j 0)], rfl, p2, p97, by lia, by lia, .of (by rw [upd_ne (ne_of_none upd_same h2)]; exact upd_same), .cons (hasT_of (sm5.seqT ha)) .nil, .of upd_same, rfl, (by show 1 ≤ 1000; decide), fun q hq => by rw [List.mem_singleton.mp hq]; rfl, fun f hf => by rw [List.mem_singleton.mp hf]; lia, fun t H6 sm6 ht => ?_⟩
    exact k t H6 (sm5.trans sm6) ht
theorem ok_reduced {f fA fT fS fC fL : Addr} {fd fdA fdT fdS fdC fdL : FuncData} (F : Fun K "reduced" "reduced" sReduced f fd) (T : Txt mg) (FA : Fun K "added" "added" sAdded fA fdA) (bA : Binds K fdA ["p", "row", "factor", "other"] []) (mA : mg "added" = some (.ref fA))
    (FT : Fun K "turned" "turned" sTurned fT fdT) (bT : Binds K fdT ["p", "number"] []) (mT : mg "turned" = some (.ref fT)) (FS : Fun K "summed" "summed" sSummed fS fdS) (bS : Binds K fdS ["p", "rows", "factors", "length"] []) (mS : mg "summed" = some (.ref fS))
    (FC : Fun K "cleared" "cleared" sCleared fC fdC) (bC : Binds K fdC ["p", "row", "lead", "place"] []) (mC : mg "cleared" = some (.ref fC))
    (FL : Fun K "led" "led" sLed fL fdL) (bL : Binds K fdL ["p", "row", "place"] []) (mL : mg "led" = some (.ref fL)) :
    FnOk P w K mg base CX0 3 f fd ["p", "rows"] (spReduced K) := by
  have GL : FnOk P w K mg base CX0 2 fL fdL ["p", "row", "place"] (spLed K) := ok_led FL T FA bA mA FT bT mT FS bS mS
  have GC : FnOk P w K mg base CX0 2 fC fdC ["p", "row", "lead", "place"] (spCleared K) := ok_cleared FC T FA bA mA
  refine F.ok scD (fun vs H Q E h => ?_) (fun cdv A outer s H vs Q E hr h => ?_)
  · obtain ⟨p, a, b, RS, rs, n, rfl, _⟩ := h
    rfl
  · obtain ⟨p, a, b, RS, rs, n, rfl, pp, hq, hA, hz, hn, hR, k⟩ := h
    obtain ⟨p2, p97⟩ := prime_pos p pp
    refine ⟨_, pss_cons (ps_set (i := 2) scD.nd rfl (Or.inl rfl) (pe_lst pa_nil)) (pss_cons (ps_set (i := 3) scD.nd rfl (Or.inl rfl) (pe_callTy (cList K rfl) rfl T.list bt_list (pa_cons (pv 1) pa_nil))) (pss_cons (ps_set (i := 4) scD.nd rfl (Or.inl rfl) (pe_ifExp (pt_truth (pv 3) (fun _ => rfl)) (pe_callB (cLen K rfl) rfl T.len bt_len (pa_cons (pe_ix (ixL K rfl) (pv 3) pe_int (fun _ _ => rfl)) pa_nil)) pe_int)) (pss_cons (ps_for PassesOwn.never rfl (pi_range1 rfl T.range (pa_cons (pv 4) pa_nil)) (pg_name (i := 5) scD.nd rfl (Or.inr rfl)) (pss_cons (ps_setComp (i := 6) (N := ["row", "place"]) (own := 1) (caps := [5]) rfl scD.nd rfl rfl (piList K rfl (pv 3)) (show BlkScope nD (defScope sReduced) ["row", "place"] 1 [5] _ from .mk' (by decide +kernel)) (fun _ _ _ _ _ => pg_name (i := 0) nd1 rfl (Or.inl rfl)) (fun _ _ _ _ _ => pts_one (pt_cmpR op_ne (pe_ix (ixT K rfl) (pv 0) (pv 1) (fun _ _ => rfl)) pe_int (nomark _))) (fun _ _ _ _ _ => pv 0)) (pss_one (ps_if (pt_truth (pv 6) (fun _ => rfl)) (pss_cons (ps_set (i := 7) scD.nd rfl (Or.inr rfl) (pe_call GL hr rfl mL FL.kp bL .nil pass0 (pa_cons (pv 0) (pa_cons (pe_ix (ixL K rfl) (pv 6) pe_int (fun _ _ => rfl)) (pa_cons (pv 5) pa_nil))))) (pss_cons (ps_set (i := 2) scD.nd rfl (Or.inl rfl) (pe_op op_cat (pe_comp (N := ["row", "lead", "p", "place"]) (own := 1) (caps := [7, 0, 5]) rfl (piList K rfl (pv 2)) (show BlkScope nD (defScope sReduced) ["row", "lead", "p", "place"] 1 [7, 0, 5] _ from .mk' (by decide +kernel)) (fun _ _ _ _ _ => pg_name (i := 0) nd2 rfl (Or.inl rfl)) (fun _ _ _ _ _ => pts_nil) (fun _ _ _ _ _ => pe_call GC hr rfl mC FC.kp bC .nil pass0 (pa_cons (pv 2) (pa_cons (pv 0) (pa_cons (pv 1) (pa_cons (pv 3) pa_nil)))))) (pe_lst (pa_cons (pv 7) pa_nil)))) (pss_one (ps_setComp (i := 3) (N := ["row", "lead", "p", "place"]) (own := 1) (caps := [7, 0, 5]) rfl scD.nd rfl rfl (piList K rfl (pv 3)) (show BlkScope nD (defScope sReduced) ["row", "lead", "p", "place"] 1 [7, 0, 5] _ from .mk' (by decide +kernel)) (fun _ _ _ _ _ => pg_name (i := 0) nd2 rfl (Or.inl rfl)) (fun _ _ _ _ _ => pts_nil) (fun _ _ _ _ _ => pe_call GC hr rfl mC FC.kp bC .nil pass0 (pa_cons (pv 2) (pa_cons (pv 0) (pa_cons (pv 1) (pa_cons (pv 3) pa_nil)))))))))
          pss_nil)))) (pss_one (ps_ret (pe_callTy (cTuple K rfl) rfl T.tuple bt_tuple (pa_cons (pv 2) pa_nil))))))), ?_⟩
    refine ⟨by decide, fun ld hd => ⟨_, rfl, a, RS, rfl, ?_, fun lr hlr => ?_⟩⟩
    · cases b with
      | true => exact .inl ((Same.upd hd).sq (b := true) hq)
      | false => exact .inr ((Same.upd hd).sq (b := false) hq)
    have sm1 : Same H (upd (upd H ld (.lst [])) lr (.lst RS)) := (Same.upd hd).trans (.upd hlr)
    have g1 : (upd (upd H ld (.lst [])) lr (.lst RS)) ld = some (.lst []) := by rw [upd_ne (ne_of_none upd_same hlr)]; exact upd_same
    have g2 : (upd (upd H ld (.lst [])) lr (.lst RS)) lr = some (.lst RS) := upd_same
    generalize upd (upd H ld (.lst [])) lr (.lst RS) = H1 at sm1 g1 g2 ⊢
    have hA1 := hA.mono sm1
    have hlen : RS.length = rs.length := lenA hA
    refine ⟨_, rfl, !RS.isEmpty, .inl ⟨RS, .of g2, rfl⟩, ?_⟩
    by_cases hne : rs = []
    · subst hne
      have e0 : RS = [] := List.length_eq_zero_iff.mp hlen
      subst e0
      refine iteF ?_
      refine ⟨_, rfl, 0, rfl, by decide, by decide, for_range (n := 0) (fun i σ H' => H' = H1 ∧ σ = [some (.int p), some (.ref a), some (.ref ld), some (.ref lr), some (.int 0), none, none, none]) ⟨rfl, rfl⟩ (fun i σ H' hi => absurd hi (by lia)) ?_⟩
      rintro σ H' ⟨rfl, rfl⟩
      exact ⟨_, rfl, ld, _, rfl, .inl ⟨.of g1, fun t ht => k t _ [] (sm1.trans (.upd ht)) (.of upd_same) .nil⟩⟩
    · have e1 : lenM rs = n := lenM_eq hR hne
      have hpos : 0 < rs.length := List.length_pos_iff.mpr hne
      have hb : (!RS.isEmpty) = true := by
        cases RS with
        | nil => rw [List.length_nil] at hlen; lia
        | cons _ _ => rfl
      rw [hb]
      refine iteT ?_
      have hx0 : RS[0]? = some (RS[0]'(by lia)) := List.getElem?_eq_getElem _
      obtain ⟨r0, a0, hr0, ea0, ha0⟩ := rowAt hA1 hx0
      have hl0 : (r0.map V.int).length = n := by rw [List.length_map]; exact (hR r0 (List.mem_of_getElem? hr0)).1
      refine ⟨_, rfl, lr, RS, 0, _, rfl, rfl, .of g2, atI_nat (j := 0) (hx0.trans (congrArg some ea0)), a0, _, rfl, .inr ha0, ?_⟩
      rw [hl0]
      refine ⟨_, rfl, (n : Int), rfl, by lia, by lia, for_range (n := n) (fun i σ H' => All2 (Same H H') (Ex7 fun (dn rst DS XS s5 s6 s7) => All5 (σ = [some (.int p), some (.ref a), some (.ref dn), some (.ref rst), some (.int (n : Int)), s5, s6, s7]) (H' dn = some (.lst DS)) (HasA K H' DS ((redI p n rs i).1.map intsT)) (H' rst = some (.lst XS)) (HasA K H' XS ((redI p n rs i).2.map intsT)))) ⟨sm1, ld, lr, [], RS, none, none, none, rfl, g1, .nil, g2, hA1⟩ ?_ ?_⟩
      · rintro i σ H2 hi ⟨sm, dn, rst, DS, XS, s5, s6, s7, rfl, gd, hD, gr, hX⟩
        have IO := redI_ok pp hR i (Nat.le_of_lt hi)
        have IL := redI_len (p := p) (n := n) (L := rs) i
        have eStep : redI p n rs (i + 1) = stepM p n (redI p n rs i) i := rfl
        rw [eStep]
        generalize redI p n rs i = st at hD hX IO IL ⊢
        refine ⟨_, rfl, rst, rfl, ⟨_, .of gr⟩, comp_list (cp := [some (.int (0 + (i : Int)))]) (fun j H' zs => HasA K H' zs (((st.2.take j).filter fun r => r.getD i 0 ≠ 0).map intsT)) (.of gr) (by rw [lenA hX, IL.2]; exact Nat.le_of_lt (small1000 hz)) .nil (fun j H' zs h => by rw [lenA h]; exact Nat.le_trans (List.length_filter_le _ _) (by rw [List.length_take]; lia)) ?_ ?_⟩
        · rintro j x H' zs hx' sm' h
          obtain ⟨r, ra, hrj, rfl, hra⟩ := rowAt hX hx'
          have hRr := IO.r r (List.mem_of_getElem? hrj)
          have hil : i < r.length := by rw [hRr.1]; exact hi
          refine ⟨_, rfl, _, rfl, ra, _, (i : Int), _, rfl, congrArg V.int (Int.zero_add _), sm'.seqT hra, atI_nat (atRow hil), rfl, _, rfl, iteNe (fun hne' => ?_) (fun heq => ?_)⟩
          · have hne2 : r.getD i 0 ≠ 0 := fun z => hne' (congrArg V.int z)
            refine ⟨_, rfl, ⟨[_], rfl, rfl⟩, sm', ?_⟩
            rw [List.take_add_one, hrj]
            show HasA K H' _ (((st.2.take j ++ [r]).filter _).map intsT)
            rw [List.filter_append, List.filter_cons_of_pos (by simpa using hne2), List.filter_nil, List.map_append]
            exact h.append (.cons (hasT_of (sm'.seqT hra)) .nil)
          · have heq2 : r.getD i 0 = 0 := V.int.inj heq
            refine ⟨⟨[_], rfl, rfl⟩, sm', ?_⟩
            rw [List.take_add_one, hrj]
            show HasA K H' _ (((st.2.take j ++ [r]).filter _).map intsT)
            rw [List.filter_append, List.filter_cons_of_neg (by simpa using heq2), List.filter_nil, List.append_nil]
            exact h
        rintro H3 zs sm3 h3 lh hlh
        rw [lenA hX, List.take_length] at h3
        have sm4 : Same H2 (upd H3 lh (.lst zs)) := sm3.trans (.upd hlh)
        have g4 : (upd H3 lh (.lst zs)) lh = some (.lst zs) := upd_same
        have h4 := h3.mono (Same.upd hlh (o := .lst zs))
        generalize upd H3 lh (.lst zs) = H4 at sm4 g4 h4 ⊢
        refine ⟨_, rfl, !zs.isEmpty, .inl ⟨zs, .of g4, rfl⟩, ?_⟩
        unfold stepM
        generalize hf : (st.2.filter fun r => r.getD i 0 ≠ 0) = hs at h4 ⊢
        cases hs with
        | nil =>
          have : zs = [] := List.length_eq_zero_iff.mp (lenA h4)
          subst this
          refine iteF ?_
          exact ⟨sm.trans sm4, dn, rst, DS, XS, _, _, _, rfl, sm4 _ _ gd, hD.mono sm4, sm4 _ _ gr, hX.mono sm4⟩
        | cons hd tl =>
          cases zs with
          | nil => exact absurd (lenA h4) (by simp)
          | cons z zs' =>
            obtain ⟨r', ha, hr', rfl, hha⟩ := rowAt (i := 0) (x := z) h4 rfl
            have er : hd = r' := Option.some.inj hr'
            subst er
            refine iteT ?_
            have hdm : hd ∈ st.2 ∧ hd.getD i 0 ≠ 0 := by
              have : hd ∈ st.2.filter fun r => r.getD i 0 ≠ 0 := by rw [hf]; exact List.mem_cons_self
              simpa using List.mem_filter.mp this
            have hRh := IO.r hd hdm.1
            have hil : i < hd.length := by rw [hRh.1]; exact hi
            refine ⟨_, rfl, _, rfl, lh, _, 0, .ref ha, rfl, rfl, .of g4, atI_nat (j := 0) rfl, _, rfl, p, ha, hd, 0 + (i : Int), i, rfl, Int.zero_add _, pp, hha, hil, by rw [hRh.1]; exact hn, hRh.2, hdm.2, fun t H6 sm6 ht => ?_⟩
            have sm7 : Same H2 H6 := sm4.trans sm6
            rw [hRh.1] at ht
            have ht' : SqT K H6 t ((leadM p n hd i).map V.int) := ht
            have hLR := leadM_Rw (place := i) (show 0 < p by lia) hRh
            dsimp only
            generalize leadM p n hd i = ldr at ht' hLR ⊢
            refine ⟨_, rfl, dn, rfl, ⟨_, .of (sm7 _ _ gd)⟩, comp_clear p2 p97 (.of (sm7 _ _ gd)) (hD.mono sm7) IO.d (by lia) hn hi hLR.1 ht' (fun x H1 R h => ⟨_, rfl, _, rfl, _, rfl, _, rfl, h⟩) fun H8 zs8 sm8 h8 q8 hq8 => ?_⟩
            refine ⟨_, rfl, (by show 1 ≤ sizeLine; decide), fun l9 h9 => ⟨q8, l9, _, _, rfl, rfl, by rw [upd_ne (ne_of_none upd_same h9)]; exact upd_same, upd_same, ?_, fun q9 hq9 => ?_⟩⟩
            · show zs8.length + 1 ≤ sizeLine
              rw [lenA h8, List.length_map]
              have : (1000 : Nat) < sizeLine := by decide
              lia
            have sm9 : Same H8 (upd (upd (upd H8 q8 (.lst zs8)) l9 (.lst [.ref t])) q9 (.lst (zs8 ++ [.ref t]))) := ((Same.upd hq8).trans (.upd h9)).trans (.upd hq9)
            have g9 : (upd (upd (upd H8 q8 (.lst zs8)) l9 (.lst [.ref t])) q9 (.lst (zs8 ++ [.ref t]))) q9 = some (.lst (zs8 ++ [.ref t])) := upd_same
            generalize upd (upd (upd H8 q8 (.lst zs8)) l9 (.lst [.ref t])) q9 (.lst (zs8 ++ [.ref t])) = H9 at sm9 g9 ⊢
            have smA : Same H2 H9 := (sm7.trans sm8).trans sm9
            have htA := (sm8.trans sm9).seqT ht'
            refine ⟨_, rfl, rst, rfl, ⟨_, .of (smA _ _ gr)⟩, comp_clear p2 p97 (.of (smA _ _ gr)) (hX.mono smA) IO.r (by lia) hn hi hLR.1 htA (fun x H1 R h => ⟨_, rfl, _, rfl, _, rfl, _, rfl, h⟩) fun Hb zsb smb hb qb hqb => ?_⟩
            have smC := smb.trans (Same.upd hqb (o := .lst zsb))
            refine ⟨(sm.trans smA).trans smC, q9, qb, _, zsb, _, _, _, rfl, smC _ _ g9, ?_, upd_same, hb.mono (.upd hqb)⟩
            show HasA K _ _ ((st.1.map (clearM p ldr i) ++ [ldr]).map intsT)
            rw [List.map_append]
            exact (h8.mono (sm9.trans smC)).append (.cons (hasT_of (smC.seqT htA)) .nil)
      · rintro σ H' ⟨sm, dn, rst, DS, XS, s5, s6, s7, rfl, gd, hD, gr, hX⟩
        refine ⟨_, rfl, dn, _, rfl, .inl ⟨.of gd, fun t ht => k t _ DS (sm.trans (.upd ht)) (.of upd_same) ?_⟩⟩
        unfold redM
        rw [e1]
        exact hD.mono (.upd ht)
end
theorem nf0 : (["place", "number"] : List Str).Nodup := by decide +kernel
section
variable {P : Program} {w : World} {K : W.Frag} {mg : Str → Option Value} {base : Heap}
inductive AskFirst (K : W.Frag) (vs : List V) (H : Hp) (Q : L2.VK) (E : L2.XK) : Prop where
  | mk (a : Addr) (r : List Int) (l : Nat) (tl : List Nat) (q0_ : vs = [.ref a]) (q1_ : SqT K H a (r.map V.int)) (q2_ : r.length ≤ 2000) (q3_ : placesM r = l :: tl) (q4_ : ∀ H', Same H H' → Q (.int (l : Int)) H') : AskFirst K vs H Q E
noncomputable def spFirst (K : W.Frag) : Sp := fun vs H Q E => AskFirst K vs H Q E
theorem scFi : FnScope ["row"] ["row"] (defScope sFirst) := ⟨rfl, rfl, rfl, by decide +kernel, rfl, by decide +kernel, by decide +kernel⟩
theorem ok_first {f : Addr} {fd : FuncData} (F : Fun K "first_place" "first_place" sFirst f fd) (T : Txt mg) : FnOk P w K mg base CX0 1 f fd ["row"] (spFirst K) := by
  refine F.ok scFi (fun vs H Q E h => ?_) (fun cdv A outer s H vs Q E hr h => ?_)
  · obtain ⟨a, r, l, tl, rfl, _⟩ := h
    rfl
  · obtain ⟨a, r, l, tl, rfl, hq, hz, hpl, k⟩ := h
    refine ⟨_, pss_one (ps_ret (pe_ix (ixL K rfl) (pe_comp (N := ["place", "number"]) (own := 2) (caps := []) rfl (piEnum K rfl false rfl T.enumerate (pa_cons (pv 0) pa_nil)) (show BlkScope ["row"] (defScope sFirst) ["place", "number"] 2 [] _ from .mk' (by decide +kernel)) (fun _ _ _ _ _ => pgTup (n := 2) K rfl rfl (pgs_cons (pg_name (i := 0) nf0 rfl (Or.inl rfl)) (pgs_cons (pg_name (i := 1) nf0 rfl (Or.inl rfl)) pgs_nil))) (fun _ _ _ _ _ => pts_one (pt_cmpR op_ne (pv 1) pe_int (nomark _))) (fun _ _ _ _ _ => pv 0)) pe_int (fun _ _ => rfl))), ?_⟩
    have ex : (r.map V.int).length = r.length := List.length_map _
    have z2 : (2000 : Nat) ≤ sizeLine := by decide
    refine ⟨_, rfl, a, rfl, ⟨_, hq⟩, comp_enum (b := false) (cp := []) (fun i H' zs => zs = ((List.range i).filter fun u => r.getD u 0 ≠ 0).map fun (u : Nat) => V.int u) hq (by rw [ex]; lia) rfl (fun j H' zs e => by rw [e, List.length_map]; exact Nat.le_trans (List.length_filter_le _ _) (by rw [List.length_range]; exact Nat.le_refl _)) (fun i H1 H2 zs _ e => e) ?_ ?_⟩
    · rintro j x H1 zs hx sm rfl
      have hj : j < r.length := by rw [← ex]; exact (List.getElem?_eq_some_iff.mp hx).1
      have hx' : x = .int (r.getD j 0) := by
        rw [atRow hj] at hx
        exact (Option.some.inj hx).symm
      subst hx'
      refine ⟨_, rfl, rfl, _, rfl, iteNe (fun hne => ?_) (fun heq => ?_)⟩
      · have hne2 : r.getD j 0 ≠ 0 := fun z => hne (congrArg V.int z)
        refine ⟨_, rfl, ⟨[_, _], rfl, rfl⟩, sm, ?_⟩
        rw [List.range_succ, List.filter_append, List.filter_cons_of_pos (by simpa using hne2), List.filter_nil, List.map_append]; rfl
      · have heq2 : r.getD j 0 = 0 := V.int.inj heq
        refine ⟨⟨[_, _], rfl, rfl⟩, sm, ?_⟩
        rw [List.range_succ, List.filter_append, List.filter_cons_of_neg (by simpa using heq2), List.filter_nil, List.append_nil]
    · rintro H1 zs sm ez lp hlp
      rw [ex] at ez
      have ez : zs = (placesM r).map fun (u : Nat) => V.int u := ez
      rw [hpl] at ez
      subst ez
      exact ⟨lp, _, 0, .int (l : Int), rfl, rfl, .of upd_same, atI_nat (j := 0) rfl, k _ (sm.trans (.upd hlp))⟩
end
theorem npq : (["number", "more"] : List Str).Nodup := by decide +kernel
theorem npr : (["row", "other", "p"] : List Str).Nodup := by decide +kernel
theorem npn : (["place", "count"] : List Str).Nodup := by decide +kernel
section
variable {P : Program} {w : World} {K : W.Frag} {mg : Str → Option Value} {base : Heap}
inductive AskProd (K : W.Frag) (vs : List V) (H : Hp) (Q : L2.VK) (E : L2.XK) : Prop where
  | mk (p : Int) (a b : Addr) (x r : List Int) (n : Nat) (q0_ : vs = [.int p, .ref a, .ref b]) (q1_ : 2 ≤ p) (q2_ : p ≤ 97) (q3_ : n ≤ 1000) (q4_ : SqT K H a (x.map V.int)) (q5_ : SqT K H b (r.map V.int)) (q6_ : Rw p n x) (q7_ : r.length = n) (q8_ : ∀ H', Same H H' → Q (.int (pdot x r % p)) H') : AskProd K vs H Q E
noncomputable def spProd (K : W.Frag) : Sp := fun vs H Q E => AskProd K vs H Q E
theorem scPd : FnScope ["p", "row", "other"] ["p", "row", "other"] (defScope sProd) := ⟨rfl, rfl, rfl, by decide +kernel, rfl, by decide +kernel, by decide +kernel⟩
theorem ok_prod {f : Addr} {fd : FuncData} (F : Fun K "product" "product" sProd f fd) (T : Txt mg) : FnOk P w K mg base CX0 0 f fd ["p", "row", "other"] (spProd K) := by
  refine ok_flat F scPd (fun vs H Q E h => ?_) (fun cdv A outer s H vs Q E h => ?_)
  · obtain ⟨p, a, b, x, r, n, rfl, _⟩ := h
    rfl
  · obtain ⟨p, a, b, d, r, n, rfl, p2, p97, hn, ha, hb, hRd, hRr, k⟩ := h
    refine ⟨_, pss_one (ps_ret (pe_op op_mod (pe_callB (cSum K rfl rfl) rfl T.sum bt_sum (pa_cons (pe_comp (N := ["number", "more"]) (own := 2) (caps := []) rfl (piZip K rfl false false rfl T.zip (pa_cons (pv 1) (pa_cons (pv 2) pa_nil))) (show BlkScope ["p", "row", "other"] (defScope sProd) ["number", "more"] 2 [] _ from .mk' (by decide +kernel)) (fun _ _ _ _ _ => pgTup (n := 2) K rfl rfl (pgs_cons (pg_name (i := 0) npq rfl (Or.inl rfl)) (pgs_cons (pg_name (i := 1) npq rfl (Or.inl rfl)) pgs_nil))) (fun _ _ _ _ _ => pts_nil) (fun _ _ _ _ _ => pe_op op_mul (pv 0) (pv 1))) pa_nil)) (pv 0))), ?_⟩
    refine ⟨_, rfl, _, rfl, a, b, rfl, ⟨_, ha⟩, ⟨_, hb⟩, comp_zip (b1 := false) (b2 := false) (cp := []) (fun i H' zs => zs = ((List.zipWith (fun a b => a * b) d r).take i).map V.int) ha hb (by rw [List.length_map, List.length_map, hRd.1, hRr]) (by rw [List.length_map, hRd.1]; exact Nat.le_of_lt (small1000 hn)) rfl (fun i H' zs e => by subst e; rw [List.length_map]; exact List.length_take_le _ _) (fun i H1 H2 zs _ e => e) ?_ ?_⟩
    · rintro i x y H' zs hx hy sm' rfl
      rw [List.getElem?_map] at hx hy
      cases f1 : d[i]? with
      | none => rw [f1] at hx; cases hx
      | some x' =>
        cases f2 : r[i]? with
        | none => rw [f2] at hy; cases hy
        | some y' =>
          rw [f1] at hx
          rw [f2] at hy
          cases hx
          cases hy
          have hx' := hRd.2 x' (List.mem_of_getElem? f1)
          refine tgo ⟨_, rfl, _, rfl, _, _, rfl, rfl, .inl ⟨by lia, by lia⟩, ⟨[_, _], rfl, rfl⟩, sm', ?_⟩
          rw [List.take_add_one, List.getElem?_zipWith, f1, f2]
          simp
    · rintro H6 zs sm6 rfl lq hlq
      rw [List.length_map, List.take_of_length_le (by rw [List.length_zipWith, hRd.1, hRr]; lia)]
      exact ⟨lq, _, rfl, .of upd_same, _, rfl, _, _, rfl, rfl, (by show (0 : Int) < p; lia), k _ (sm6.trans (.upd hlq))⟩
inductive AskProds (K : W.Frag) (vs : List V) (H : Hp) (Q : L2.VK) (E : L2.XK) : Prop where
  | mk (p : Int) (a b' : Addr) (bb : Bool) (RS : List V) (rs : List (List Int)) (x : List Int) (n : Nat) (q0_ : vs = [.int p, .ref a, .ref b']) (q1_ : 2 ≤ p) (q2_ : p ≤ 97) (q3_ : n ≤ 1000) (q4_ : Sq bb K H a RS) (q5_ : HasA K H RS (rs.map intsT)) (q6_ : Rws p n rs) (q7_ : rs.length ≤ 1000) (q8_ : SqT K H b' (x.map V.int)) (q9_ : x.length = n) (q10_ : AnyT K H ((apM p rs x).map V.int) Q) : AskProds K vs H Q E
noncomputable def spProds (K : W.Frag) : Sp := fun vs H Q E => AskProds K vs H Q E
theorem scPs : FnScope ["p", "rows", "other"] ["p", "rows", "other"] (defScope sProds) := ⟨rfl, rfl, rfl, by decide +kernel, rfl, by decide +kernel, by decide +kernel⟩
theorem ok_prods {f fP : Addr} {fd fdP : FuncData} (F : Fun K "products" "products" sProds f fd) (T : Txt mg)
    (GP : FnOk P w K mg base CX0 0 fP fdP ["p", "row", "other"] (spProd K)) (kP : Kp K fP) (bP : Binds K fdP ["p", "row", "other"] []) (mP : mg "product" = some (.ref fP)) :
    FnOk P w K mg base CX0 1 f fd ["p", "rows", "other"] (spProds K) := by
  refine F.ok scPs (fun vs H Q E h => ?_) (fun cdv A outer s H vs Q E hr h => ?_)
  · obtain ⟨p, a, b', bb, RS, rs, x, n, rfl, _⟩ := h
    rfl
  · obtain ⟨p, a, b', bb, RS, rs, x, n, rfl, p2, p97, hn, hq, hA, hR, hz, hx, hxl, k⟩ := h
    have eR := lenA hA
    cases bb with
    | true =>
      refine ⟨_, pss_one (ps_ret (pe_callTy (cTuple K rfl) rfl T.tuple bt_tuple (pa_cons (pe_comp (N := ["row", "other", "p"]) (own := 1) (caps := [2, 0]) rfl (piList K rfl (pv 1)) (show BlkScope ["p", "rows", "other"] (defScope sProds) ["row", "other", "p"] 1 [2, 0] _ from .mk' (by decide +kernel)) (fun _ _ _ _ _ => pg_name (i := 0) npr rfl (Or.inl rfl)) (fun _ _ _ _ _ => pts_nil) (fun _ _ _ _ _ => pe_call GP hr rfl mP kP bP .nil pass0 (pa_cons (pv 2) (pa_cons (pv 0) (pa_cons (pv 1) pa_nil))))) pa_nil))), ?_⟩
      refine ⟨_, rfl, a, rfl, ⟨_, hq⟩, comp_list (xs := RS) (cp := [some (.ref b'), some (.int p)]) (fun i H' zs => zs = ((apM p rs x).take i).map V.int) hq (by rw [eR]; exact Nat.le_of_lt (small1000 hz)) rfl (fun i H' zs e => by rw [e, List.length_map]; exact List.length_take_le _ _) ?_ ?_⟩
      · rintro i v H1 zs hv sm rfl
        obtain ⟨r, ra, hri, rfl, hra⟩ := rowAt hA hv
        have hRr := hR r (List.mem_of_getElem? hri)
        refine tgo ⟨_, rfl, _, rfl, _, rfl, p, ra, b', r, x, n, rfl, p2, p97, hn, sm.seqT hra, sm.seqT hx, hRr, hxl, fun H2 s2 => ⟨⟨[_], rfl, rfl⟩, sm.trans s2, ?_⟩⟩
        have e : (apM p rs x)[i]? = some (pdot r x % p) := by unfold apM; rw [List.getElem?_map, hri]; rfl
        rw [List.take_add_one, e, List.map_append]; rfl
      · rintro H1 zs sm rfl lq hlq
        rw [List.take_of_length_le (by rw [eR]; simp [apM])]
        exact ⟨lq, _, rfl, .inl ⟨.of upd_same, fun t ht => k t _ ((sm.trans (.upd hlq)).trans (.upd ht)) (.of upd_same)⟩⟩
    | false =>
      refine ⟨_, pss_one (ps_ret (pe_callTy (cTuple K rfl) rfl T.tuple bt_tuple (pa_cons (pe_comp (N := ["row", "other", "p"]) (own := 1) (caps := [2, 0]) rfl (piTup K rfl (pv 1)) (show BlkScope ["p", "rows", "other"] (defScope sProds) ["row", "other", "p"] 1 [2, 0] _ from .mk' (by decide +kernel)) (fun _ _ _ _ _ => pg_name (i := 0) npr rfl (Or.inl rfl)) (fun _ _ _ _ _ => pts_nil) (fun _ _ _ _ _ => pe_call GP hr rfl mP kP bP .nil pass0 (pa_cons (pv 2) (pa_cons (pv 0) (pa_cons (pv 1) pa_nil))))) pa_nil))), ?_⟩
      refine ⟨_, rfl, a, rfl, ⟨_, hq⟩, comp_tup (xs := RS) (cp := [some (.ref b'), some (.int p)]) (fun i H' zs => zs = ((apM p rs x).take i).map V.int) hq (by rw [eR]; exact Nat.le_of_lt (small1000 hz)) rfl (fun i H' zs e => by rw [e, List.length_map]; exact List.length_take_le _ _) ?_ ?_⟩
      · rintro i v H1 zs hv sm rfl
        obtain ⟨r, ra, hri, rfl, hra⟩ := rowAt hA hv
        have hRr := hR r (List.mem_of_getElem? hri)
        refine tgo ⟨_, rfl, _, rfl, _, rfl, p, ra, b', r, x, n, rfl, p2, p97, hn, sm.seqT hra, sm.seqT hx, hRr, hxl, fun H2 s2 => ⟨⟨[_], rfl, rfl⟩, sm.trans s2, ?_⟩⟩
        have e : (apM p rs x)[i]? = some (pdot r x % p) := by unfold apM; rw [List.getElem?_map, hri]; rfl
        rw [List.take_add_one, e, List.map_append]; rfl
      · rintro H1 zs sm rfl lq hlq
        rw [List.take_of_length_le (by rw [eR]; simp [apM])]
        exact ⟨lq, _, rfl, .inl ⟨.of upd_same, fun t ht => k t _ ((sm.trans (.upd hlq)).trans (.upd ht)) (.of upd_same)⟩⟩
noncomputable def unitsM (n : Nat) : List (List Int) := (List.range n).map (unitM n)
inductive AskOnes (K : W.Frag) (vs : List V) (H : Hp) (Q : L2.VK) (E : L2.XK) : Prop where
  | mk (n : Nat) (i : Int) (q0_ : vs = [.int i]) (q1_ : i = n) (q2_ : n ≤ 900) (q3_ : ∀ l LS H', Same H H' → H' l = some (.lst LS) → HasA K H' LS ((unitsM n).map intsT) → Q (.ref l) H') : AskOnes K vs H Q E
noncomputable def spOnes (K : W.Frag) : Sp := fun vs H Q E => AskOnes K vs H Q E
theorem scOn : FnScope ["count"] ["count"] (defScope sOnes) := ⟨rfl, rfl, rfl, by decide +kernel, rfl, by decide +kernel, by decide +kernel⟩
theorem ok_ones {f : Addr} {fd : FuncData} (F : Fun K "ones" "ones" sOnes f fd) (T : Txt mg) : FnOk P w K mg base CX0 1 f fd ["count"] (spOnes K) := by
  refine F.ok scOn (fun vs H Q E h => ?_) (fun cdv A outer s H vs Q E hr h => ?_)
  · obtain ⟨n, i, rfl, _⟩ := h
    rfl
  · obtain ⟨n, i, rfl, rfl, hn, q⟩ := h
    have z1000 : (1000 : Nat) ≤ sizeLine := by decide
    refine ⟨_, pss_one (ps_ret (pe_comp (N := ["place", "count"]) (own := 1) (caps := [0]) rfl (pi_range1 rfl T.range (pa_cons (pv 0) pa_nil)) (show BlkScope ["count"] (defScope sOnes) ["place", "count"] 1 [0] _ from .mk' (by decide +kernel)) (fun _ _ _ _ _ => pg_name (i := 0) npn rfl (Or.inl rfl)) (fun _ _ _ _ _ => pts_nil) (fun _ _ _ _ _ => pe_op (opCatA K rfl) (pe_op (opCatA K rfl) (pe_op (opRepT K rfl) (pe_tup (pa_cons pe_int pa_nil)) (pv 0)) (pe_tup (pa_cons pe_int pa_nil))) (pe_op (opRepT K rfl) (pe_tup (pa_cons pe_int pa_nil)) (pe_op op_sub (pe_op op_sub (pv 1) (pv 0)) pe_int))))), ?_⟩
    refine ⟨_, rfl, (n : Int), rfl, by lia, by lia, comp_rng (n := n) (lo := 0) (cp := [some (.int (n : Int))]) (fun i H' zs => HasA K H' zs (((List.range i).map (unitM n)).map intsT)) (by lia) .nil (fun i H' zs h => by rw [lenA h, List.length_map, List.length_range]; exact Nat.le_refl _) ?_ ?_⟩
    · rintro i H1 zs hi sm h
      rw [Int.zero_add]
      refine tgo ⟨by decide, fun t1 h1 => ⟨_, rfl, t1, (i : Int), _, rfl, rfl, .of upd_same, by simp, by lia, by lia, (by show 1 * ((i : Nat) : Int).toNat ≤ sizeLine; lia), fun t2 H2 s2 ht2 => ?_⟩⟩
      rw [Int.toNat_natCast, flatR] at ht2
      refine ⟨by decide, fun t3 h3 => ⟨t2, t3, _, _, rfl, rfl, (Same.upd h3).seqT ht2, .of upd_same, ?_, fun t4 H4 s4 ht4 => ?_⟩⟩
      · rw [List.length_map, List.length_replicate]
        show i + 1 ≤ sizeLine
        lia
      refine ⟨by decide, fun t5 h5 => ⟨_, rfl, _, rfl, _, _, rfl, rfl, _, _, rfl, rfl, t5, (n : Int) - (i : Int) - 1, _, rfl, rfl, .of upd_same, by simp, by lia, by lia, (by show 1 * ((n : Int) - (i : Int) - 1).toNat ≤ sizeLine; lia), fun t6 H6 s6 ht6 => ?_⟩⟩
      have e : ((n : Int) - (i : Int) - 1).toNat = n - i - 1 := by lia
      rw [e, flatR] at ht6
      refine ⟨t4, t6, _, _, rfl, rfl, ((Same.upd h5).trans s6).seqT ht4, ht6, ?_, fun t7 H7 s7 ht7 => ?_⟩
      · simp only [List.length_append, List.length_map, List.length_replicate, List.length_cons, List.length_nil]
        lia
      have smm := ((Same.upd h1).trans s2).trans ((Same.upd h3).trans (s4.trans ((Same.upd h5).trans (s6.trans s7))))
      refine ⟨⟨[_], rfl, rfl⟩, sm.trans smm, ?_⟩
      have hu : SqT K H7 t7 ((unitM n i).map V.int) := by
        unfold unitM
        rw [List.map_append, List.map_append]
        exact ht7
      rw [List.range_succ, List.map_append, List.map_append]
      exact (h.mono smm).append (.cons (hasT_of hu) .nil)
    · rintro H1 zs sm h lq hlq
      exact q lq zs _ (sm.trans (.upd hlq)) upd_same (h.mono (.upd hlq))
inductive AskRest (K : W.Frag) (vs : List V) (H : Hp) (Q : L2.VK) (E : L2.XK) : Prop where
  | mk (p : Int) (a b : Addr) (bb : Bool) (SS : List V) (steps : List (List Int)) (r : List Int) (n : Nat) (q0_ : vs = [.int p, .ref a, .ref b]) (q1_ : 2 ≤ p) (q2_ : p ≤ 97) (q3_ : n ≤ 1000) (q4_ : Sq bb K H a SS) (q5_ : HasA K H SS (steps.map intsT)) (q6_ : Rws p n steps) (q7_ : (∀ st ∈ steps, placesM st ≠ [])) (q8_ : SqT K H b (r.map V.int)) (q9_ : Rw p n r) (q10_ : AnyT K H ((restM p steps r).map V.int) Q) : AskRest K vs H Q E
noncomputable def spRest (K : W.Frag) : Sp := fun vs H Q E => AskRest K vs H Q E
theorem scRo : FnScope ["p", "steps", "row", "rest", "step"] ["p", "steps", "row"] (defScope sRest) := ⟨rfl, rfl, rfl, by decide +kernel, rfl, by decide +kernel, by decide +kernel⟩
theorem places_lt {r : List Int} {l : Nat} {tl : List Nat} (h : placesM r = l :: tl) : l < r.length := by
  have : l ∈ placesM r := by rw [h]; exact List.mem_cons_self
  exact List.mem_range.mp (List.mem_filter.mp this).1
theorem ok_rest {f fC fF : Addr} {fd fdC fdF : FuncData} (F : Fun K "rest_of" "rest_of" sRest f fd)
    (GC : FnOk P w K mg base CX0 2 fC fdC ["p", "row", "lead", "place"] (spCleared K)) (kC : Kp K fC) (bC : Binds K fdC ["p", "row", "lead", "place"] []) (mC : mg "cleared" = some (.ref fC))
    (GF : FnOk P w K mg base CX0 1 fF fdF ["row"] (spFirst K)) (kF : Kp K fF) (bF : Binds K fdF ["row"] []) (mF : mg "first_place" = some (.ref fF)) :
    FnOk P w K mg base CX0 3 f fd ["p", "steps", "row"] (spRest K) := by
  refine F.ok scRo (fun vs H Q E h => ?_) (fun cdv A outer s H vs Q E hr h => ?_)
  · obtain ⟨p, a, b, bb, SS, steps, r, n, rfl, _⟩ := h
    rfl
  · obtain ⟨p, a, b, bb, SS, steps, r, n, rfl, p2, p97, hn, hq, hA, hR, hne, hb, hr0, k⟩ := h
    have p0 : 0 < p := by lia
    have hr1 : Room 1 _ := hr.mono (by decide)
    have eS := lenA hA
    cases bb with
    | true =>
      refine ⟨_, pss_cons (ps_set (i := 3) scRo.nd rfl (Or.inl rfl) (pv 2)) (pss_cons (ps_for PassesOwn.never rfl (piList K rfl (pv 1)) (pg_name (i := 4) scRo.nd rfl (Or.inl rfl)) (pss_one (ps_set (i := 3) scRo.nd rfl (Or.inl rfl) (pe_call GC hr rfl mC kC bC .nil pass0 (pa_cons (pv 0) (pa_cons (pv 3) (pa_cons (pv 4) (pa_cons (pe_call GF hr1 rfl mF kF bF .nil pass0 (pa_cons (pv 4) pa_nil)) pa_nil)))))))) (pss_one (ps_ret (pv 3)))), ?_⟩
      refine ⟨_, rfl, _, rfl, a, rfl, ⟨_, hq⟩, for_list (xs := SS) (fun i σ H' => All2 (Same H H') (Ex2 fun (t : Addr) (s4 : Option V) => All2 (σ = [some (.int p), some (.ref a), some (.ref b), some (.ref t), s4]) (SqT K H' t ((restM p (steps.take i) r).map V.int)))) ⟨.refl _, b, none, rfl, hb⟩ (fun i σ H' _ ⟨sm, _⟩ => sm.seq hq) ?_ ?_⟩
      · rintro i v σ H' hv ⟨sm, t, s4, rfl, ht⟩
        obtain ⟨st, sa, hsi, rfl, hsa⟩ := rowAt hA hv
        have hmem := List.mem_of_getElem? hsi
        have hRs := hR st hmem
        have hRt := restM_Rw p0 (fun q hq => hR q (List.mem_of_mem_take hq)) hr0 (steps := steps.take i)
        cases hpl : placesM st with
        | nil => exact absurd hpl (hne st hmem)
        | cons l tl =>
          have hl := places_lt hpl
          refine ⟨_, rfl, _, rfl, _, rfl, _, rfl, sa, st, l, tl, rfl, sm.seqT hsa, by rw [hRs.1]; lia, hpl, fun H2 s2 => ?_⟩
          refine ⟨p, t, sa, _, st, (l : Int), l, rfl, rfl, p2, p97, s2.seqT ht, (sm.trans s2).seqT hsa, by rw [hRt.1, hRs.1], by rw [hRt.1, ← hRs.1]; exact hl, by rw [hRt.1]; exact hn, hRt.2, fun t3 H3 s3 ht3 => ?_⟩
          refine ⟨sm.trans (s2.trans s3), t3, _, rfl, ?_⟩
          have e : restM p (steps.take (i + 1)) r = clearM p st l (restM p (steps.take i) r) := by
            rw [List.take_add_one, hsi]
            show List.foldl _ _ (steps.take i ++ [st]) = _
            rw [List.foldl_append]
            show clearM p st (fstP st) _ = _
            have : fstP st = l := by unfold fstP; rw [hpl]; rfl
            rw [this]; rfl
          rw [e]
          exact ht3
      · rintro σ H' ⟨sm, t, s4, rfl, ht⟩
        rw [eS, List.take_length] at ht
        exact ⟨_, rfl, k t H' sm ht⟩
    | false =>
      refine ⟨_, pss_cons (ps_set (i := 3) scRo.nd rfl (Or.inl rfl) (pv 2)) (pss_cons (ps_for PassesOwn.never rfl (piTup K rfl (pv 1)) (pg_name (i := 4) scRo.nd rfl (Or.inl rfl)) (pss_one (ps_set (i := 3) scRo.nd rfl (Or.inl rfl) (pe_call GC hr rfl mC kC bC .nil pass0 (pa_cons (pv 0) (pa_cons (pv 3) (pa_cons (pv 4) (pa_cons (pe_call GF hr1 rfl mF kF bF .nil pass0 (pa_cons (pv 4) pa_nil)) pa_nil)))))))) (pss_one (ps_ret (pv 3)))), ?_⟩
      refine ⟨_, rfl, _, rfl, a, rfl, ⟨_, hq⟩, for_tup (xs := SS) (fun i σ H' => All2 (Same H H') (Ex2 fun (t : Addr) (s4 : Option V) => All2 (σ = [some (.int p), some (.ref a), some (.ref b), some (.ref t), s4]) (SqT K H' t ((restM p (steps.take i) r).map V.int)))) ⟨.refl _, b, none, rfl, hb⟩ (fun i σ H' _ ⟨sm, _⟩ => sm.seqT hq) ?_ ?_⟩
      · rintro i v σ H' hv ⟨sm, t, s4, rfl, ht⟩
        obtain ⟨st, sa, hsi, rfl, hsa⟩ := rowAt hA hv
        have hmem := List.mem_of_getElem? hsi
        have hRs := hR st hmem
        have hRt := restM_Rw p0 (fun q hq => hR q (List.mem_of_mem_take hq)) hr0 (steps := steps.take i)
        cases hpl : placesM st with
        | nil => exact absurd hpl (hne st hmem)
        | cons l tl =>
          have hl := places_lt hpl
          refine ⟨_, rfl, _, rfl, _, rfl, _, rfl, sa, st, l, tl, rfl, sm.seqT hsa, by rw [hRs.1]; lia, hpl, fun H2 s2 => ?_⟩
          refine ⟨p, t, sa, _, st, (l : Int), l, rfl, rfl, p2, p97, s2.seqT ht, (sm.trans s2).seqT hsa, by rw [hRt.1, hRs.1], by rw [hRt.1, ← hRs.1]; exact hl, by rw [hRt.1]; exact hn, hRt.2, fun t3 H3 s3 ht3 => ?_⟩
          refine ⟨sm.trans (s2.trans s3), t3, _, rfl, ?_⟩
          have e : restM p (steps.take (i + 1)) r = clearM p st l (restM p (steps.take i) r) := by
            rw [List.take_add_one, hsi]
            show List.foldl _ _ (steps.take i ++ [st]) = _
            rw [List.foldl_append]
            show clearM p st (fstP st) _ = _
            have : fstP st = l := by unfold fstP; rw [hpl]; rfl
            rw [this]; rfl
          rw [e]
          exact ht3
      · rintro σ H' ⟨sm, t, s4, rfl, ht⟩
        rw [eS, List.take_length] at ht
        exact ⟨_, rfl, k t H' sm ht⟩
theorem scTd : FnScope ["p", "some", "row", "states", "numbers"] ["p", "some", "row", "states"] (defScope sTicked) := ⟨rfl, rfl, rfl, by decide +kernel, rfl, by decide +kernel, by decide +kernel⟩
theorem ok_ticked {f fP : Addr} {fd fdP : FuncData} (F : Fun K "ticked" "ticked" sTicked f fd)
    (GP : FnOk P w K mg base CX0 1 fP fdP ["p", "rows", "other"] (spProds K)) (kP : Kp K fP) (bP : Binds K fdP ["p", "rows", "other"] []) (mP : mg "products" = some (.ref fP)) :
    FnOk P w K mg base CX0 2 f fd ["p", "some", "row", "states"] (spTick K) := by
  refine F.ok scTd (fun vs H Q E h => ?_) (fun cdv A outer s H vs Q E hr h => ?_)
  · obtain ⟨p, a, b, c, m, x, y, rfl, _⟩ := h
    rfl
  · obtain ⟨p, a, b, c, m, x, y, rfl, p2, p97, ⟨t, RS, hm1, hm2, hm3⟩, MO, l1, l2, l3, hb, hc, hx, hy, k⟩ := h
    have z1000 : (1000 : Nat) ≤ sizeLine := by decide
    refine ⟨_, pss_cons (ps_set (i := 4) scTd.nd rfl (Or.inl rfl) (pe_call GP hr rfl mP kP bP .nil pass0 (pa_cons (pv 0) (pa_cons (pe_ix (ixT K rfl) (pv 1) pe_int (fun _ _ => rfl)) (pa_cons (pe_op (opCatA K rfl) (pv 2) (pv 3)) pa_nil))))) (pss_one (ps_ret (pe_tup (pa_cons (pe_slice (slA K rfl) (pv 4) po_none (po_some (pe_ix (ixT K rfl) (pv 1) pe_int (fun _ _ => rfl)))) (pa_cons (pe_slice (slA K rfl) (pv 4) (po_some (pe_ix (ixT K rfl) (pv 1) pe_int (fun _ _ => rfl))) po_none) pa_nil))))), ?_⟩
    have hz : (x ++ y).length = m.left + m.states := by rw [List.length_append, hx, hy]
    have hml : m.rows.length ≤ 200 := by rw [MO.len]; lia
    refine ⟨_, rfl, _, rfl, a, _, 3, .ref t, rfl, rfl, hm1, atI_nat (j := 3) rfl, _, rfl, _, rfl, b, c, _, _, rfl, rfl, hb, hc, by rw [List.length_map, List.length_map]; lia, fun t2 H2 s2 ht2 => ?_⟩
    rw [← List.map_append] at ht2
    refine ⟨p, t, t2, false, RS, m.rows, x ++ y, m.left + m.states, rfl, p2, p97, by lia, s2.sq (b := false) hm2, hm3.mono s2, MO.rws, by lia, ht2, hz, fun t3 H3 s3 ht3 => ?_⟩
    have s1 : Same H H3 := s2.trans s3
    have ht3 : SqT K H3 t3 ((outM p m (x ++ y)).map V.int) := ht3
    have eo : (outM p m (x ++ y)).length = m.rows.length := by unfold outM; rw [List.length_map]
    have hcut : m.right ≤ (outM p m (x ++ y)).length := by rw [eo, MO.len]; lia
    refine ⟨_, rfl, _, rfl, a, _, 2, _, rfl, rfl, s1.seqT hm1, atI_nat (j := 2) rfl, _, rfl, t3, _, rfl, ht3, fun t4 H4 s4 ht4 => ?_⟩
    rw [cutI_hi hcut] at ht4
    refine ⟨_, rfl, _, rfl, a, _, 2, _, rfl, rfl, (s1.trans s4).seqT hm1, atI_nat (j := 2) rfl, _, rfl, t3, _, rfl, s4.seqT ht3, fun t6 H6 s6 ht6 => ?_⟩
    rw [cutI_lo hcut] at ht6
    refine ⟨(by show 2 ≤ sizeLine; lia), fun t7 h7 => ?_⟩
    exact k t7 t4 t6 _ ((s1.trans s4).trans (s6.trans (.upd h7))) (.of upd_same) ((s6.trans (.upd h7)).seqT ht4) ((Same.upd h7).seqT ht6)
end
section
variable {p : Int} {m1 m2 : Mach}
end
theorem cutV_hi {xs : List V} {k : Nat} (h : k ≤ xs.length) : cutV xs none (some (k : Int)) = xs.take k := by
  unfold cutV
  rw [HT.sIx_nat, HT.sIx_none, List.drop_zero, Nat.sub_zero, Nat.min_eq_left h]
theorem cutV_lo {xs : List V} {k : Nat} (h : k ≤ xs.length) : cutV xs (some (k : Int)) none = xs.drop k := by
  unfold cutV
  rw [HT.sIx_nat, HT.sIx_none, Nat.min_eq_left h, List.take_of_length_le (by simp)]
theorem HasA.cutT {K : W.Frag} {H : Hp} : ∀ {vs : List V} {L : List (List Int)} (k : Nat), HasA K H vs (L.map intsT) → HasA K H (vs.take k) ((L.take k).map intsT)
  | [], [], _, _ => by simp; exact .nil
  | _ :: _, [], _, h => nomatch h
  | [], _ :: _, _, h => nomatch h
  | _ :: _, _ :: _, 0, _ => .nil
  | _ :: _, _ :: _, k + 1, .cons h r => .cons h (HasA.cutT k r)
theorem HasA.cutD {K : W.Frag} {H : Hp} : ∀ {vs : List V} {L : List (List Int)} (k : Nat), HasA K H vs (L.map intsT) → HasA K H (vs.drop k) ((L.drop k).map intsT)
  | [], [], _, _ => by simp; exact .nil
  | _ :: _, [], _, h => nomatch h
  | [], _ :: _, _, h => nomatch h
  | _ :: _, _ :: _, 0, h => h
  | _ :: _, _ :: _, k + 1, .cons _ r => HasA.cutD k r
end S7
namespace S7
open Bw
section
variable {α : Type} {p : Int} {R : α → Fn}
theorem take_map {β : Type} (f : β → α) : ∀ (xs d : List β), takeG p R (d.map f) (xs.map f) = (takeG p (fun x => R (f x)) d xs).map f
  | [], d => rfl
  | x :: xs, d => by
    have e : (d.map f).map R = d.map fun x => R (f x) := by rw [List.map_map]; rfl
    by_cases h : Bw.Sp p (· ∈ d.map fun x => R (f x)) (R (f x))
    · rw [List.map_cons, take_yes (by rw [e]; exact h), take_yes h, take_map f xs d]
    · rw [List.map_cons, take_no (by rw [e]; exact h), take_no h, ← take_map f xs (d ++ [x]), List.map_append]; rfl
end
section
variable {p : Int} {R : Nat → Fn} {left : Nat}
noncomputable def tk (p : Int) (R : Nat → Fn) (k : Nat) : List Nat := takeG p R [] (List.range k)
theorem tk_lt {k i : Nat} (h : i ∈ tk p R k) : i < k := by
  rcases take_mem _ _ h with h | h
  · cases h
  · exact List.mem_range.mp h
theorem tk_yes {k : Nat} (h : Bw.Sp p (· ∈ (tk p R k).map R) (R k)) : tk p R (k + 1) = tk p R k := by
  unfold tk at h ⊢
  rw [List.range_succ, take_app, take_yes h]; rfl
theorem tk_no {k : Nat} (h : ¬ Bw.Sp p (· ∈ (tk p R k).map R) (R k)) : tk p R (k + 1) = tk p R k ++ [k] := by
  unfold tk at h ⊢
  rw [List.range_succ, take_app, take_no h]; rfl
theorem tk_out {i : Nat} : ∀ {k : Nat}, i < k → i ∉ tk p R k → Bw.Sp p (· ∈ (tk p R i).map R) (R i) := fun {k} hi hn => by
  apply Classical.byContradiction
  intro hc
  apply hn
  have e : List.range k = List.range (i + 1) ++ List.range' (i + 1) (k - (i + 1)) := by
    rw [List.range_eq_range', List.range_eq_range']
    have := List.range'_append_1 (s := 0) (m := i + 1) (n := k - (i + 1))
    rw [Nat.zero_add] at this
    rw [this]
    congr 1
    lia
  unfold tk
  rw [e, take_app]
  obtain ⟨t, ht⟩ := take_pre (p := p) (R := R) (List.range' (i + 1) (k - (i + 1))) (takeG p R [] (List.range (i + 1)))
  rw [ht]
  refine List.mem_append_left _ ?_
  have := tk_no hc
  unfold tk at this
  rw [this]
  simp
theorem tk_in {i k : Nat} (h : i < k) : Bw.Sp p (· ∈ (tk p R k).map R) (R i) := take_all _ _ _ (List.mem_range.mpr h)
noncomputable def Shifts (p : Int) (R : Nat → Fn) (left : Nat) : Prop := ∀ (d : List Nat) (i : Nat), Bw.Sp p (· ∈ d.map R) (R i) → Bw.Sp p (· ∈ (d.map (· + left)).map R) (R (i + left))
theorem tk_dead (hN : Shifts p R left) {i k : Nat} (hi : i < k) (hn : i ∉ tk p R k) : Bw.Sp p (· ∈ (tk p R (i + left)).map R) (R (i + left)) := by
  refine (hN _ i (tk_out hi hn)).trans fun f hf => ?_
  obtain ⟨j, hj, rfl⟩ := List.mem_map.mp hf
  obtain ⟨j', hj', rfl⟩ := List.mem_map.mp hj
  exact tk_in (by have := tk_lt hj'; lia)
open Classical in
noncomputable def dueM (p : Int) (R : Nat → Fn) (left k : Nat) : List Nat := (List.range' k left).filter fun i => decide (i < left ∨ ∃ j, j ∈ tk p R k ∧ j + left = i)
theorem due_start : dueM p R left 0 = List.range left := by
  unfold dueM
  rw [List.filter_eq_self.mpr fun i hi => ?_, List.range_eq_range']
  have := List.mem_range'_1.mp hi
  exact decide_eq_true (.inl (by lia))
open Classical in
theorem due_next (hl : 0 < left) (k : Nat) : dueM p R left (k + 1) = ((List.range' (k + 1) (left - 1)).filter fun i => decide (i < left ∨ ∃ j, j ∈ tk p R k ∧ j + left = i)) ++ if k ∈ tk p R (k + 1) then [k + left] else [] := by
  have hsub : ∀ j, j ∈ tk p R (k + 1) → j ≠ k → j ∈ tk p R k := fun j hj hne => by
    by_cases h : Bw.Sp p (· ∈ (tk p R k).map R) (R k)
    · rw [tk_yes h] at hj; exact hj
    · rw [tk_no h] at hj
      rcases List.mem_append.mp hj with h' | h'
      · exact h'
      · exact absurd (List.mem_singleton.mp h') hne
  have hsup : ∀ j, j ∈ tk p R k → j ∈ tk p R (k + 1) := fun j hj => by
    by_cases h : Bw.Sp p (· ∈ (tk p R k).map R) (R k)
    · rw [tk_yes h]; exact hj
    · rw [tk_no h]; exact List.mem_append_left _ hj
  unfold dueM
  have e : List.range' (k + 1) left = List.range' (k + 1) (left - 1) ++ [k + left] := by
    have h1 := List.range'_append_1 (s := k + 1) (m := left - 1) (n := 1)
    rw [show left - 1 + 1 = left by lia] at h1
    rw [← h1]
    congr 1
    simp
    lia
  rw [e, List.filter_append]
  congr 1
  · refine List.filter_congr fun i hi => ?_
    have hb := List.mem_range'_1.mp hi
    apply decide_eq_decide.mpr
    constructor
    · rintro (h | ⟨j, hj, rfl⟩)
      · exact .inl h
      · exact .inr ⟨j, hsub j hj (by lia), rfl⟩
    · rintro (h | ⟨j, hj, rfl⟩)
      · exact .inl h
      · exact .inr ⟨j, hsup j hj, rfl⟩
  · by_cases h : k ∈ tk p R (k + 1)
    · rw [if_pos h, List.filter_cons_of_pos, List.filter_nil]
      exact decide_eq_true (.inr ⟨k, h, rfl⟩)
    · rw [if_neg h, List.filter_cons_of_neg, List.filter_nil]
      intro z
      rcases of_decide_eq_true z with z | ⟨j, hj, hjl⟩
      · lia
      · have e3 : j = k := by lia
        exact h (e3 ▸ hj)
open Classical in
theorem due_head (hl : 0 < left) (k : Nat) : dueM p R left k = (if k < left ∨ ∃ j, j ∈ tk p R k ∧ j + left = k then [k] else []) ++ (List.range' (k + 1) (left - 1)).filter fun i => decide (i < left ∨ ∃ j, j ∈ tk p R k ∧ j + left = i) := by
  unfold dueM
  have e : List.range' k left = k :: List.range' (k + 1) (left - 1) := by
    rw [show left = (left - 1) + 1 by lia, List.range'_succ]
    simp
  rw [e]
  by_cases h : k < left ∨ ∃ j, j ∈ tk p R k ∧ j + left = k
  · rw [if_pos h, List.filter_cons_of_pos (by simpa using h)]; rfl
  · rw [if_neg h, List.filter_cons_of_neg (by simpa using h)]; rfl
theorem due_pass (hl : 0 < left) (hN : Shifts p R left) {k : Nat} (h : ¬ (k < left ∨ ∃ j, j ∈ tk p R k ∧ j + left = k)) : tk p R (k + 1) = tk p R k ∧ dueM p R left (k + 1) = dueM p R left k := by
  have hk : left ≤ k := by
    apply Classical.byContradiction
    intro hc
    exact h (.inl (by lia))
  have hd : Bw.Sp p (· ∈ (tk p R k).map R) (R k) := by
    have := tk_dead (i := k - left) (k := k) hN (by lia) fun z => h (.inr ⟨k - left, z, by lia⟩)
    rwa [show k - left + left = k by lia] at this
  have e := tk_yes hd
  refine ⟨e, ?_⟩
  rw [due_next hl, due_head hl, if_neg h, e, if_neg fun z => absurd (tk_lt z) (by lia), List.append_nil, List.nil_append]
noncomputable def Walk (p : Int) (R : Nat → Fn) (left : Nat) (T D : List Nat) : Prop := ∃ k, T = tk p R k ∧ D = dueM p R left k
theorem walk_start : Walk p R left [] (List.range left) := ⟨0, rfl, due_start.symm⟩
theorem walk_at (hl : 0 < left) (hN : Shifts p R left) {T D : List Nat} {q : Nat} (h : Walk p R left T (q :: D)) : T = tk p R q ∧ dueM p R left q = q :: D := by
  obtain ⟨k, rfl, hD⟩ := h
  have hq : q ∈ dueM p R left k := by rw [← hD]; exact List.mem_cons_self
  have hqk : k ≤ q := (List.mem_range'_1.mp (List.mem_filter.mp hq).1).1
  obtain ⟨far, rfl⟩ : ∃ far, q = k + far := ⟨q - k, by lia⟩
  clear hqk
  induction far generalizing k with
  | zero => exact ⟨rfl, hD.symm⟩
  | succ far ih =>
    have hno : ¬ (k < left ∨ ∃ j, j ∈ tk p R k ∧ j + left = k) := fun z => by
      have e := due_head (p := p) (R := R) hl k
      rw [if_pos z, ← hD] at e
      have := (List.cons.inj e).1
      lia
    obtain ⟨e1, e2⟩ := due_pass hl hN hno
    have r := ih (k := k + 1) (by rw [e2, ← hD, show k + 1 + far = k + (far + 1) by lia]) (by rw [e2, ← hD, show k + 1 + far = k + (far + 1) by lia]; exact List.mem_cons_self)
    rw [e1, show k + 1 + far = k + (far + 1) by lia] at r
    exact r
theorem walk_drop (hl : 0 < left) (hN : Shifts p R left) {T D : List Nat} {q : Nat} (h : Walk p R left T (q :: D)) (hd : Bw.Sp p (· ∈ T.map R) (R q)) : Walk p R left T D := by
  obtain ⟨rfl, e⟩ := walk_at hl hN h
  have e1 := tk_yes hd
  refine ⟨q + 1, e1.symm, ?_⟩
  have e2 := due_head (p := p) (R := R) hl q
  rw [e] at e2
  rw [due_next hl, e1, if_neg fun z => absurd (tk_lt z) (by lia), List.append_nil]
  split at e2
  · exact (List.cons.inj e2).2
  · rw [List.nil_append] at e2
    have hm := List.mem_cons_self (a := q) (l := D)
    rw [e2] at hm
    have := List.mem_range'_1.mp (List.mem_filter.mp hm).1
    lia
theorem walk_take (hl : 0 < left) (hN : Shifts p R left) {T D : List Nat} {q : Nat} (h : Walk p R left T (q :: D)) (hd : ¬ Bw.Sp p (· ∈ T.map R) (R q)) : Walk p R left (T ++ [q]) (D ++ [q + left]) := by
  obtain ⟨rfl, e⟩ := walk_at hl hN h
  have e1 := tk_no hd
  refine ⟨q + 1, e1.symm, ?_⟩
  have e2 := due_head (p := p) (R := R) hl q
  rw [e] at e2
  rw [due_next hl, if_pos (by rw [e1]; simp)]
  split at e2
  · rw [(List.cons.inj e2).2]; rfl
  · rw [List.nil_append] at e2
    have hm := List.mem_cons_self (a := q) (l := D)
    rw [e2] at hm
    have := List.mem_range'_1.mp (List.mem_filter.mp hm).1
    lia
theorem walk_end (hl : 0 < left) (hN : Shifts p R left) {T : List Nat} (h : Walk p R left T []) : ∃ k, ∀ n, tk p R (k + n) = T := by
  obtain ⟨k, rfl, hD⟩ := h
  have key : ∀ n, tk p R (k + n) = tk p R k ∧ dueM p R left (k + n) = [] := fun n => by
    induction n with
    | zero => exact ⟨rfl, hD.symm⟩
    | succ n ih =>
      have hno : ¬ (k + n < left ∨ ∃ j, j ∈ tk p R (k + n) ∧ j + left = k + n) := fun z => by
        have e := due_head (p := p) (R := R) hl (k + n)
        rw [if_pos z, ih.2] at e
        cases e
      obtain ⟨e1, e2⟩ := due_pass hl hN hno
      exact ⟨by rw [← Nat.add_assoc, e1]; exact ih.1, by rw [← Nat.add_assoc, e2]; exact ih.2⟩
  exact ⟨k, fun n => (key n).1⟩
end
end S7
namespace L2
open PySem PySem.Spec PyProof.Rows
noncomputable def LamT (H : Hp) (Pt : Addr) (pos : Pos) (qual : Str) : Prop :=
  H Pt = some (.tbl #[]) ∨ ∃ c', H Pt = some (.tbl #[rawInt pos.line, rawInt pos.col, .ref c']) ∧ H c' = some (.ext fun h => h.CodeRec (.ref c') qual)
noncomputable def SmT (Pt : Addr) (H H' : Hp) : Prop := ∀ b o, H b = some o → b ≠ Pt → H' b = some o
noncomputable def LamF (H : Hp) (f : Addr) (qual : Str) (params : Arguments) (body : Expr) (scope : Scope) (cl : List (Str × Addr)) : Prop :=
  ∃ c', H f = some (.ext fun h => ∃ pm ctv, h.get? f = some (W.kla_obj "<lambda>" qual params body scope cl pm c' ctv)) ∧ H c' = some (.ext fun h => h.CodeRec (.ref c') qual)
theorem codeRec_ext {P : Program} {w : World} {H : Hp} {h : Heap} {c : Addr} {qual : Str} (x : h.CodeRec (.ref c) qual) : ObjOk P w H h c (.ext fun h => h.CodeRec (.ref c) qual) := by
  refine ⟨x, ?_, fun h1 h2 z k => ?_⟩
  · obtain ⟨c2, oc, vs, t, e, ho, _⟩ := x
    cases e
    exact ⟨oc, ho⟩
  · obtain ⟨c2, oc, vs, t, e, ho, r⟩ := z
    cases e
    exact ⟨c, oc, vs, t, rfl, k _ ho, r⟩
theorem fun_ext {P : Program} {w : World} {H : Hp} {h : Heap} {f c : Addr} {qual : Str} {params : Arguments} {body : Expr} {scope : Scope} {cl : List (Str × Addr)} {pm ctv : Value} (x : h.get? f = some (W.kla_obj "<lambda>" qual params body scope cl pm c ctv)) :
    ObjOk P w H h f (.ext fun h => ∃ pm ctv, h.get? f = some (W.kla_obj "<lambda>" qual params body scope cl pm c ctv)) :=
  ⟨⟨pm, ctv, x⟩, ⟨_, x⟩, fun h1 h2 ⟨pm, ctv, z⟩ k => ⟨pm, ctv, k _ z⟩⟩
noncomputable def BltAt (mg : Str → Option Value) (h : Heap) : Prop := ∃ bm ob, mg "__builtins__" = some (.ref bm) ∧ bm ≠ builtinsNs ∧ h.get? bm = some ob ∧ ob.cls = .type "module" ∧ ob.dict = some builtinsNs ∧ ob.data = .plain
section
variable {X : Cx}
noncomputable def tLam (Pt : Addr) (pos : Pos) (qual : Str) (params : Arguments) (body : Expr) (scope : Scope) (cl : List (Str × Addr)) : TE := fun _ H Q => LamT H Pt pos qual ∧
  ∀ f H', H f = none → SmT Pt H H' → LamT H' Pt pos qual → LamF H' f qual params body scope cl → Q (.ref f) H'
theorem pe_lam {params : Arguments} {body : Expr} {scope : Scope} {pos : Pos} {c Pt : Addr} {cl : List (Str × Addr)} (hcode : X.env.code = .ref c) (C : W.CodeHd X.base c Pt) (B : BltAt X.mg X.base) (hcl : closureFor scope X.env = pure cl) (hdef : defaultsOf params X.env = ([], []) := by rfl) :
    PE X (.Lambda params body scope pos) (tLam Pt pos (X.env.qual ++ "<lambda>") params body scope cl) := by
  intro pins s σ H Q I h
  obtain ⟨hT, h⟩ := h
  generalize hq : X.env.qual ++ "<lambda>" = qual at hT h
  refine W.kla_eval hdef ?_
  rw [hq]
  have hg : s.heap.Ns mainGlobals X.mg := I.mod.glob.keeps I.bk
  have Cs := C.keeps I.bk
  obtain ⟨bm, ob, b1, b2, b3, b4, b5, b6⟩ := B
  have neG : bm ≠ mainGlobals := fun q => by
    obtain ⟨o, es, ep, e, hd, _⟩ := I.mod.glob
    rw [q, e] at b3
    cases b3
    rw [hd] at b6
    cases b6
  have hT0 : ∃ ps, H Pt = some (.tbl ps) := hT.elim (fun z => ⟨_, z⟩) fun ⟨_, z, _⟩ => ⟨_, z⟩
  obtain ⟨ps0, hps0⟩ := hT0
  have hP0 : s.heap.get? Pt = some (W.tabObj ps0) := I.hok Pt _ hps0
  have hgP : mainGlobals ≠ Pt := fun q => by
    obtain ⟨o, es, ep, e, hd, _⟩ := hg
    rw [q, hP0] at e
    cases e
    cases hd
  have hbP : bm ≠ Pt := fun q => by
    have e := I.bk _ _ b3
    rw [q, hP0] at e
    cases e
    cases b4
  have hPlt : Pt < s.heap.objs.size := Heap.lt_size hP0
  rcases hT with hT | ⟨c', hT, hc⟩
  · rw [hT] at hps0
    cases hps0
    refine W.kla_makeFunction (mg := X.mg) hcl I.ok.glob hg hcode Cs hP0 trivial rfl hgP ⟨bm, ob, b1, b2, neG, hbP, I.bk _ _ b3, b4, b5, b6⟩ fun c' ctv h' tk hx hge hlt hrec htb => ?_
    have hsz : s.heap.objs.size ≤ h'.objs.size := Nat.le_trans hge (Nat.le_of_lt hlt)
    have hn : ∀ a, s.heap.objs.size ≤ a → H a = none := fun a ha => I.hok.fresh ha
    have nPc : Pt ≠ c' := Nat.ne_of_lt (Nat.lt_of_lt_of_le hPlt hge)
    have nPf : Pt ≠ h'.objs.size := Nat.ne_of_lt (Nat.lt_of_lt_of_le hPlt hsz)
    have ncf : c' ≠ h'.objs.size := Nat.ne_of_lt hlt
    have hk : ∀ b o, b ≠ Pt → s.heap.get? b = some o → (h'.push (W.kla_obj "<lambda>" qual params body scope cl ((X.mg "__name__").getD .none) c' ctv)).get? b = some o := fun b o hb e => Heap.get?_push_of_some _ (hx b o hb e)
    have hf : (h'.push (W.kla_obj "<lambda>" qual params body scope cl ((X.mg "__name__").getD .none) c' ctv)).get? h'.objs.size = some (W.kla_obj "<lambda>" qual params body scope cl ((X.mg "__name__").getD .none) c' ctv) := Heap.get?_push_size _ rfl
    have hrec' : (h'.push (W.kla_obj "<lambda>" qual params body scope cl ((X.mg "__name__").getD .none) c' ctv)).CodeRec (.ref c') qual := by
      obtain ⟨c2, oc, vs, t, e, ho, r⟩ := hrec
      exact ⟨c2, oc, vs, t, e, Heap.get?_push_of_some _ ho, r⟩
    have htb' : (h'.push (W.kla_obj "<lambda>" qual params body scope cl ((X.mg "__name__").getD .none) c' ctv)).get? Pt = some (W.tabObj (#[] ++ #[rawInt pos.line, rawInt pos.col, .ref c'])) := Heap.get?_push_of_some _ htb
    generalize h'.push (W.kla_obj "<lambda>" qual params body scope cl ((X.mg "__name__").getD .none) c' ctv) = hh at hk hf hrec' htb' ⊢
    generalize h'.objs.size = f at hsz nPf ncf hf ⊢
    have hnf := hn f hsz
    have hnc := hn c' hge
    let H' : Hp := upd (upd (upd H Pt (.tbl (#[] ++ #[rawInt pos.line, rawInt pos.col, .ref c']))) c' (.ext fun h => h.CodeRec (.ref c') qual)) f (.ext fun h => ∃ pm ctv, h.get? f = some (W.kla_obj "<lambda>" qual params body scope cl pm c' ctv))
    have e1 : ∀ b, b ≠ f → b ≠ c' → b ≠ Pt → H' b = H b := fun b x1 x2 x3 => by
      show upd (upd (upd H Pt _) c' _) f _ b = _
      rw [upd_ne x1, upd_ne x2, upd_ne x3]
    have e2 : H' Pt = some (.tbl (#[] ++ #[rawInt pos.line, rawInt pos.col, .ref c'])) := by
      show upd (upd (upd H Pt _) c' _) f _ Pt = _
      rw [upd_ne nPf, upd_ne nPc, upd_same]
    have e3 : H' c' = some (.ext fun h => h.CodeRec (.ref c') qual) := by
      show upd (upd (upd H Pt _) c' _) f _ c' = _
      rw [upd_ne ncf, upd_same]
    have e4 : H' f = some (.ext fun h => ∃ pm ctv, h.get? f = some (W.kla_obj "<lambda>" qual params body scope cl pm c' ctv)) := upd_same
    have e5 : ∀ b o, H b = some o → b ≠ Pt → H' b = some o := fun b o q hb => by
      rw [e1 b (ne_of_none q hnf) (ne_of_none q hnc) hb]; exact q
    have neP : ∀ b o, H b = some o → (∀ ps, o ≠ .tbl ps) → b ≠ Pt := fun b o q ht z => by
      rw [z, hT] at q
      exact ht _ (Option.some.inj q).symm
    refine ⟨.ref f, H', I.un (t' := tk) ⟨fun b o e n _ _ => hk b o (fun z => by rw [z, hT] at n; cases n) e, fun b o e n _ _ => ⟨o.slots, hk b o (fun z => by rw [z, hT] at n; cases n) e⟩, fun b o e n _ => ?_, fun b o e _ => ?_, fun b xs q => e5 b _ q (neP b _ q fun _ z => nomatch z), fun b o u q => e5 b _ q (neP b _ q fun _ z => nomatch z), fun b ps q => ?_⟩ fun a o e => ?_, rfl, h f H' hnf e5 (.inr ⟨c', by rw [e2]; rfl, e3⟩) ⟨c', e4, e3⟩⟩
    · have hb := Heap.lt_size e
      rw [e1 b (Nat.ne_of_lt (Nat.lt_of_lt_of_le hb hsz)) (Nat.ne_of_lt (Nat.lt_of_lt_of_le hb hge)) (fun z => by rw [z, hT] at n; cases n)]
      exact n
    · by_cases hb : b = Pt
      · rw [hb]; exact ⟨_, htb'⟩
      · exact ⟨o, hk b o hb e⟩
    · by_cases hb : b = Pt
      · subst hb
        rw [hT] at q
        cases q
        exact ⟨_, e2⟩
      · exact ⟨#[], by rw [e5 b _ q hb]; simp⟩
    · by_cases hf' : a = f
      · subst hf'
        rw [e4] at e
        cases e
        exact fun_ext hf
      by_cases hc' : a = c'
      · subst hc'
        rw [e3] at e
        cases e
        exact codeRec_ext hrec'
      by_cases hp' : a = Pt
      · subst hp'
        rw [e2] at e
        cases e
        exact htb'
      · rw [e1 a hf' hc' hp'] at e
        refine (I.hok a o e).stay (fun b u hb q => hk b u (fun z => ?_) q) (fun b q => e5 b _ q (neP b _ q fun _ z => nomatch z)) fun b xs q => e5 b _ q (neP b _ q fun _ z => nomatch z)
        rcases hb with hb | hb
        · exact hp' (hb ▸ z)
        · rw [z, hT] at hb; cases hb
  · rw [hT] at hps0
    cases hps0
    refine W.kla_makeFunctionHit (cv := .ref c') (mg := X.mg) hcl I.ok.glob hg hcode Cs hP0 (by simp [TriplesOk, rawInt]) (by simp [codeAmong, rawInt]) ⟨bm, ob, b1, b2, neG, hbP, I.bk _ _ b3, b4, b5, b6⟩ fun ctv h' tk hk hsz => ?_
    have hn : H h'.objs.size = none := I.hok.fresh hsz
    refine ⟨.ref h'.objs.size, _, I.laid (t' := tk) (o := .ext fun h => ∃ pm ctv, h.get? h'.objs.size = some (W.kla_obj "<lambda>" qual params body scope cl pm c' ctv)) (fun b u e => Heap.get?_push_of_some _ (hk b u e)) hsz (fun_ext (Heap.get?_push_size _ rfl)), rfl, ?_⟩
    have e5 : ∀ b o, H b = some o → (upd H h'.objs.size (.ext fun h => ∃ pm ctv, h.get? h'.objs.size = some (W.kla_obj "<lambda>" qual params body scope cl pm c' ctv))) b = some o := fun b o q => by rw [upd_ne (ne_of_none q hn)]; exact q
    exact h _ _ hn (fun b o q _ => e5 b o q) (.inr ⟨c', e5 _ _ hT, e5 _ _ hc⟩) ⟨c', upd_same, e5 _ _ hc⟩
end
structure RunS (P : Program) (w : World) (K : W.Frag) (mg : Str → Option Value) (base : Heap) (k : Nat) (f : Addr) (fd : FuncData) (ps : List Str) (sp : Shared → Sp) : Prop where
  len : ∀ s vs H Q E, sp s vs H Q E → vs.length = ps.length
  run : ∀ (A : Around) (outer : List Env) (s : Shared) (H : Hp) (args : Args) (us : List Value) (vs : List V) (Q : VK) (E : XK), Room k A → Env0 P w K mg base A outer s H → BindsTo s fd args (ps.zip us) → Vals vs us → sp s vs H Q E →
    codeAny (model P w) A (.call (.ref f) args) (CR CX0 outer P w H s Q E) s
section
variable {P : Program} {w : World} {K : W.Frag} {mg : Str → Option Value} {base : Heap}
theorem Fun.okS {x qual : Str} {st : Stmt} {f : Addr} {fd : FuncData} {N ps : List Str} {k : Nat} {sp : Shared → Sp} (F : Fun K x qual st f fd) (S : FnScope N ps (defScope st)) (len : ∀ s vs H Q E, sp s vs H Q E → vs.length = ps.length)
    (hbody : ∀ (cdv : Value) (A : Around) (outer : List Env) (s : Shared) (H : Hp) (vs : List V) (Q : VK) (E : XK), Room k (A.deeper (envOfC qual (defScope st) s.heap.objs.size f cdv)) → sp s vs H Q E →
      ∃ t, PSs (cxOf CX0 P w K mg base N qual (defScope st) f cdv A outer s H E).nox (defBody st) t ∧ t { nx := fun _ H' => Q .non H', rt := Q } (start N vs) H) : RunS P w K mg base (k + 1) f fd ps sp := by
  obtain ⟨oc, od, kV, doc, pm, an, cdv, ct, osl, rfl, lk, hcd⟩ := F.ex
  refine ⟨len, fun A outer s H args us vs Q E hr e0 hb r hsp => ?_⟩
  have hl := len _ _ _ _ _ hsp
  have KX : K.In s.heap := e0.mod.kin.keeps fun b o e => (e0.bs b o e).1
  have lim : s.heap.NoLimit := e0.mod.nolimit.keeps fun b o e => (e0.bs b o e).1
  have hkind : ∀ y ∈ ps.zip us, (defScope st).names.lookup y.1 = some .local ∨ ((defScope st).names.lookup y.1 = some .cell ∧ ((cellsFrom (s.heap.objs.size + 1) (defScope st).names []).lookup y.1).isSome = true) := fun ⟨n, v⟩ hy => by
    rcases S.par n (List.of_mem_zip hy).1 with q | q
    · exact .inl q
    · exact .inr ⟨q, W.cellsFrom_some _ _ _ (.inl q)⟩
  refine codeAny_call_function hr.depth (KX _ _ lk) rfl S.co S.gen rfl (W.codeRec_of KX hcd) (hb _ _ _ _ ?_)
  refine wpAny_newFunctionEnv_cells S.kind hkind fun env he s1 x => ?_
  subst he
  refine ⟨lim.keeps x.toInCall.keep, codeAny_func ?_⟩
  obtain ⟨t, ht, hq⟩ := hbody cdv A outer s H vs Q E (hr.deeper _) hsp
  have I : Inv (cxOf CX0 P w K mg base N qual (defScope st) f cdv A outer s H E) [] (start N vs) H s1 := inv_start S hr.hd e0 hl r x
  refine wpAny_mono (ht.nox [] s1 (start N vs) H _ I hq) (fun fl s' hs => ?_) fun e s' hs => hs
  have fin : ∀ {σ' : St} {H' : Hp} {v : V} {u : Value}, Inv (cxOf CX0 P w K mg base N qual (defScope st) f cdv A outer s H E) [] σ' H' s' → RelV v u → Q v H' → CE outer P w H s Q u s' :=
    fun {σ' H' v u} J rv q => ⟨v, H', J.os, J.bare, J.base, J.hok, rv, q⟩
  cases fl with
  | ret u =>
    obtain ⟨v, σ', H', J, rv, q⟩ := hs
    exact fin J rv q
  | next =>
    obtain ⟨σ', H', J, q⟩ := hs
    exact fin (v := V.non) (u := Value.none) J rfl q
  | brk =>
    obtain ⟨_, _, _, q⟩ := hs
    exact False.elim q
  | cont =>
    obtain ⟨_, _, _, q⟩ := hs
    exact False.elim q
noncomputable def LamAt (P : Program) (w : World) (K : W.Frag) (mg : Str → Option Value) (base : Heap) (k : Nat) (s : Shared) (H : Hp) (f : Addr) (n : Nat) (g : List Int → List Int) : Prop :=
  (∃ φ : Heap → Prop, H f = some (.ext φ) ∧ ∀ h, φ h → W.FnAt f h) ∧
  ∀ (A : Around) (outer : List Env) (s' : Shared) (H' : Hp) (b : Addr) (y : List Int) (Q : VK), Room k A → Env0 P w K mg base A outer s' H' → Same H H' →
    (∀ c o, s.heap.get? c = some o → H c = none → H' c = none ∧ ∃ sl, s'.heap.get? c = some { o with slots := sl }) →
    SqT K H' b (y.map V.int) → y.length = n → AnyT K H' ((g y).map V.int) Q → codeAny (model P w) A (.call (.ref f) ⟨[.ref b], []⟩) (CR CX0 outer P w H' s' Q E0) s'
end
section
variable {X : Cx} {k : Nat} {f : Addr} {fd : FuncData} {ps : List Str} {x : Str} {p pos : Pos} {e : Expr} {es : List Expr} {t : TA} {te : TE}
theorem pe_callS {sp : Shared → Sp} (F : RunS X.prog X.w X.K X.mg X.base k f fd ps sp) (hr : Room k X.A) (hg : Gl X x) (hm : X.mg x = some (.ref f)) (hk : W.keepIn X.K (.ref f) = true) (hb : Binds X.K fd ps [])
    (ha : PA X (e :: es) t) (hdb : (x == ("__debug__" : Str)) = false := by decide) (he : starEach (e :: es) X.env = (false, eval e X.env) :: starEach es X.env := by rfl) (hpl : (backTo pos (starEach es X.env)).any (·.1) = false := by rfl) :
    PE X (.Call (.Name x p) (e :: es) [] pos) (fun σ H Q => t σ H fun vs H1 => ∀ pins s, Inv X pins σ H1 s → sp s vs H1 Q E0) := by
  intro pins s σ H Q I h
  refine wpAny_Call_Name_kw (ld_glob I hg hm ?_ hdb)
  refine W.callWith_K (h₀ := X.base) I.ok.mod.kin hk (thn (ha pos pins s σ H _ I h) fun us s1 ⟨vs, H1, I1, r, q⟩ => ⟨I1.kIn, ?_⟩) he hpl
  have hs := q pins s1 I1
  have hl : us.length = ps.length := by rw [← r.length]; exact F.len _ _ _ _ _ hs
  have hbb := hb s1 us I1.kIn (by rw [List.append_nil]; exact hl)
  rw [List.append_nil] at hbb
  refine wpAny_call (codeAny_mono (F.run X.A X.stack s1 H1 ⟨us, []⟩ us vs Q E0 hr I1.env0 hbb r hs) fun r s' hq => ?_)
  cases r with
  | error e => exact False.elim hq
  | ok fl =>
    cases fl with
    | ret u => exact I1.after hq
    | next => exact False.elim hq
    | brk => exact False.elim hq
    | cont => exact False.elim hq
theorem pe_callLam {i n : Nat} {g : List Int → List Int} (L : LamAt X.prog X.w X.K X.mg X.base k X.s₀ X.H₀ f n g) (hr : Room k X.A) (hex : X.ex = []) (hN : X.N[i]? = some x) (hv : Vis X.env.scope x) (he : PE X e te)
    (hd : (x == ("__debug__" : Str)) = false := by decide) (hcd : (x == ("__classdict__" : Str)) = false := by decide) (hs : starEach [e] X.env = [(false, eval e X.env)] := by rfl) (hst : starEach [] X.env = [] := by rfl) (hpl : (backTo pos (starEach [] X.env)).any (·.1) = false := by rfl) :
    PE X (.Call (.Name x p) [e] [] pos) (fun σ H Q => σ[i]? = some (some (.ref f)) ∧ Same X.H₀ H ∧ te σ H fun v H1 => Same X.H₀ H1 ∧ ∃ b y, v = .ref b ∧ SqT X.K H1 b (y.map V.int) ∧ y.length = n ∧ AnyT X.K H1 ((g y).map V.int) Q) := by
  intro pins s σ H Q I h
  obtain ⟨hσ, sm, h⟩ := h
  obtain ⟨⟨φ, hφ, hfn⟩, run⟩ := L
  have fnat : ∀ {σ : St} {H1 : Hp} {s1 : Shared}, Inv X pins σ H1 s1 → Same X.H₀ H1 → W.FnAt f s1.heap := fun I1 sm1 => hfn _ (I1.hok f _ (sm1 _ _ hφ)).1
  refine wpAny_Call_Name_kw (thn (pe_var hN hv hd hcd pins s σ H (fun v H1 => v = .ref f ∧ H1 = H) I ⟨_, hσ, rfl, rfl⟩) fun u s1 ⟨v, H1, I1, r, e1, e2⟩ => ?_)
  subst e1
  subst e2
  cases r
  have pa : PA X [e] (tCons te tNil) := pa_cons he pa_nil (by rw [hs, hst])
  refine W.callWith_F (fnat I1 sm) (thn (pa pos pins s1 σ H1 (fun vs H2 => match vs with | [v] => Same X.H₀ H2 ∧ ∃ b y, v = .ref b ∧ SqT X.K H2 b (y.map V.int) ∧ y.length = n ∧ AnyT X.K H2 ((g y).map V.int) Q | _ => False) I1 h) fun us s2 ⟨vs, H2, I2, rv, hq⟩ => ?_) (by rw [hs, hst]) hpl
  · match vs, hq with
    | [v], hq =>
    obtain ⟨sm2, b, y, ev, hb, hy, hQ⟩ := hq
    refine ⟨fnat I2 sm2, ?_⟩
    subst ev
    obtain ⟨u, rfl, ru⟩ := vals1 rv
    cases ru
    refine wpAny_call (codeAny_mono (run X.A X.stack s2 H2 b y Q hr I2.env0 sm2 (fun c o hc hn => ?_) hb hy hQ) fun r s' hq => ?_)
    · have hcx : c ∉ X.ex := by rw [hex]; simp
      exact ⟨I2.base.free c o hc hn hcx, I2.base.any hc hn hcx⟩
    cases r with
    | error e => exact False.elim hq
    | ok fl =>
      cases fl with
      | ret u => exact I2.after hq
      | next => exact False.elim hq
      | brk => exact False.elim hq
      | cont => exact False.elim hq
end
noncomputable def lamCx (P : Program) (w : World) (K : W.Frag) (mg : Str → Option Value) (base : Heap) (N : List Str) (qual : Str) (scope : Scope) (f c : Addr) (cl : List (Str × Addr)) (A : Around) (outer : List Env) (s : Shared) (H : Hp) : Cx where
  prog := P
  w := w
  K := K
  mg := mg
  base := base
  A := A.deeper (W.envX qual scope s.heap.objs.size f (.ref c) cl)
  N := N
  s₀ := s
  H₀ := H
  env := W.envX qual scope s.heap.objs.size f (.ref c) cl
  outer := outer
  stack := W.envX qual scope s.heap.objs.size f (.ref c) cl :: outer
  ex := []
  calm := true
  fn := fun _ => false
  pn := []
  xe := fun e s' => wpAny (model P w) (A.deeper (W.envX qual scope s.heap.objs.size f (.ref c) cl)) (leaving (W.envX qual scope s.heap.objs.size f (.ref c) cl) e) (fun _ _ => False) (fun _ _ => False) s'
structure LamScope (x : Str) (names : List Str) (scope : Scope) (params : Arguments) (cl : List (Str × Addr)) : Prop where
  kind : scope.kind = .function
  co : scope.isCoroutine = false
  gen : scope.isGenerator = false
  cell : ∀ y ∈ scope.names, y.2 ≠ .cell
  loc : scope.names.lookup x = some .local
  fr : ∀ y ∈ names, scope.names.lookup y = some .free
  has : ∀ y, scope.names.lookup y = some .free → ∃ c, cl.lookup y = some c
  inj : ∀ y z c, cl.lookup y = some c → cl.lookup z = some c → y = z
  only : ∀ y c, cl.lookup y = some c → y ∈ names
section
variable {P : Program} {w : World} {K : W.Frag} {mg : Str → Option Value} {base : Heap}
theorem lam_at {x : Str} {names : List Str} {caps : List V} {qual : Str} {params : Arguments} {body : Expr} {scope : Scope} {cl : List (Str × Addr)} {k n : Nat} {s : Shared} {H : Hp} {f : Addr} {g : List Int → List Int} (S : LamScope x names scope params cl)
    (F : LamF H f qual params body scope cl) (hbind : ∀ (pm cdv ct v : Value), bindArgs (W.kla_fn "<lambda>" qual params body scope cl pm cdv ct) ⟨[v], []⟩ = pure [(x, v)])
    (hcells : ∀ (j : Nat) (y : Str), names[j]? = some y → ∃ c v u, cl.lookup y = some c ∧ caps[j]? = some v ∧ RelV v u ∧ s.heap.IsCell c (some u) ∧ H c = none) (hlen : caps.length = names.length)
    (hbody : ∀ (c : Addr) (A : Around) (outer : List Env) (s' : Shared) (H' : Hp) (b : Addr) (y : List Int) (Q : VK), Room k (A.deeper (W.envX qual scope s'.heap.objs.size f (.ref c) cl)) → Same H H' → SqT K H' b (y.map V.int) → y.length = n → AnyT K H' ((g y).map V.int) Q →
      ∃ t, PE (lamCx P w K mg base (x :: names) qual scope f c cl A outer s' H').nox body t ∧ t (some (.ref b) :: caps.map some) H' Q) : LamAt P w K mg base (k + 1) s H f n g := by
  obtain ⟨c, hf, hc⟩ := F
  refine ⟨⟨_, hf, fun h ⟨pm, ctv, e⟩ => ⟨_, _, _, _, e⟩⟩, fun A outer s' H' b y Q hr e0 sm hk hb hy hQ => ?_⟩
  obtain ⟨⟨pm, ctv, ho⟩, _⟩ := e0.hok f _ (sm _ _ hf)
  have hcr : s'.heap.CodeRec (.ref c) qual := (e0.hok c _ (sm _ _ hc)).1
  have lim : s'.heap.NoLimit := e0.mod.nolimit.keeps fun b o e => (e0.bs b o e).1
  refine W.kla_callFunE hr.depth ho rfl S.co S.gen rfl hcr ?_
  rw [hbind]
  refine wpAny_pure (wpAny_newFunctionEnv S.cell (fun z hz => by rw [List.mem_singleton.mp hz]; exact S.loc) (fun h₁ hns hsb => ⟨lim.fresh _ hsb, ?_⟩) S.kind)
  show codeAny _ _ (.expr body (W.envX qual scope s'.heap.objs.size f (.ref c) cl)) _ _
  have hk₁ : ∀ b o, s'.heap.get? b = some o → h₁.get? b = some o := fun b o e => hsb.extBut b o (Nat.ne_of_lt (Heap.lt_size e)) (Heap.get?_push_of_some _ e)
  obtain ⟨t, ht, hq⟩ := hbody c A outer s' H' b y Q (hr.deeper _) sm hb hy hQ
  have cells : ∀ (j : Nat) (y : Str), names[j]? = some y → ∃ c v u, cl.lookup y = some c ∧ caps[j]? = some v ∧ RelV v u ∧ h₁.IsCell c (some u) ∧ H' c = none := fun j y hj => by
    obtain ⟨c0, v, u, h1, h2, h3, ⟨o, ho, hd⟩, h5⟩ := hcells j y hj
    obtain ⟨h6, sl, h7⟩ := hk c0 o ho h5
    exact ⟨c0, v, u, h1, h2, h3, ⟨_, hk₁ _ _ h7, hd⟩, h6⟩
  have cellA : ∀ y c, cl.lookup y = some c → ∃ v, h₁.IsCell c (some v) ∧ H' c = none := fun y c0 h => by
    obtain ⟨j, hj⟩ := List.getElem?_of_mem (S.only y c0 h)
    obtain ⟨c1, v, u, h1, _, _, h4, h5⟩ := cells j y hj
    rw [h] at h1
    cases h1
    exact ⟨u, h4, h5⟩
  have I : Inv (lamCx P w K mg base (x :: names) qual scope f c cl A outer s' H') [] (some (.ref b) :: caps.map some) H' { s' with heap := h₁, toks := s'.toks + 1 } := by
    have noA : ∀ b : Addr, b ∉ (lamCx P w K mg base (x :: names) qual scope f c cl A outer s' H').ex := fun b z => absurd (show b ∈ ([] : List Addr) from z) (by simp)
    refine ⟨⟨e0.mod, S.kind, rfl, rfl, Nat.le_refl _, fun y z c h1 h2 => S.inj y z c h1 h2, fun y hy => ?_, fun y c h => (nomatch h), fun _ => hr.hd, Around.frames_deeper e0.frames, .inr ⟨rfl, rfl⟩, fun b z => absurd z (noA b), e0.bs, e0.bsz, fun b _ _ => noA b, fun b z => absurd z (noA b), e0.funs, e0.frf⟩,
      rfl, e0.bare, Un.kept hk₁, ⟨_, hns, fun i y v h1 h2 h3 => ?_⟩, fun y c h => ?_, e0.hok.fresh (Nat.le_refl _), fun y c h => ?_, fun p hp => absurd (show p ∈ ([] : List (Addr × Obj)) from hp) (by simp), e0.hok.kept hk₁, by show (some (V.ref b) :: caps.map some).length = (x :: names).length; simp [hlen]⟩
    · rcases hy with hy | hy
      · exact absurd rfl (S.cell _ (PySem.mem_of_lookup hy))
      · exact S.has y hy
    · cases i with
      | zero =>
        have e1 : x = y := Option.some.inj h1
        have e2 : V.ref b = v := Option.some.inj (Option.some.inj h2)
        subst e1
        subst e2
        refine ⟨.ref b, rfl, .inl ⟨S.loc, ?_⟩⟩
        simp [List.lookup]
      | succ i =>
        have h1 : names[i]? = some y := h1
        have h2 : (caps.map some)[i]? = some (some v) := h2
        obtain ⟨c1, v', u, g1, g2, g3, g4, _⟩ := cells i y h1
        rw [List.getElem?_map, g2] at h2
        cases h2
        exact ⟨u, g3, .inr ⟨.inr (S.fr y (List.mem_of_getElem? h1)), c1, g1, g4⟩⟩
    · obtain ⟨v, h4, _⟩ := cellA y c h
      exact ⟨_, h4⟩
    · obtain ⟨v, _, h5⟩ := cellA y c h
      exact h5
  refine W.kla_codeExpr (wpAny_mono (ht.nox [] _ _ H' Q I hq) (fun u s'' hs => ?_) fun e s'' z => wpAny_mono z (fun _ _ z => False.elim z) fun _ _ z => False.elim z)
  obtain ⟨v, H'', J, rv, q⟩ := hs
  exact ⟨v, H'', J.os, J.bare, J.base, J.hok, rv, q⟩
end
section
variable {P : Program} {w : World} {K : W.Frag} {mg : Str → Option Value} {base : Heap}
theorem Fun.okC {x qual : Str} {st : Stmt} {f : Addr} {fd : FuncData} {N ps : List Str} {k : Nat} {sp : Sp} (F : Fun K x qual st f fd) (S : FnScope N ps (defScope st)) (len : ∀ vs H Q E, sp vs H Q E → vs.length = ps.length)
    (hbody : ∀ (cdv : Value) (A : Around) (outer : List Env) (s : Shared) (H : Hp) (vs : List V) (Q : VK) (E : XK), fd.code = cdv → Room k (A.deeper (envOfC qual (defScope st) s.heap.objs.size f cdv)) → sp vs H Q E →
      ∃ t, PSs (cxOf CX0 P w K mg base N qual (defScope st) f cdv A outer s H E).nox (defBody st) t ∧ t { nx := fun _ H' => Q .non H', rt := Q } (start N vs) H) : FnOk P w K mg base CX0 (k + 1) f fd ps sp := by
  obtain ⟨oc, od, kV, doc, pm, an, cdv, ct, osl, rfl, lk, hcd⟩ := F.ex
  refine fn_of lk hcd S len fun A outer s H vs Q E hr hsp => ?_
  obtain ⟨t, h, q⟩ := hbody cdv A outer s H vs Q E rfl hr hsp
  exact ⟨t, h.nox, q⟩
theorem tab_code {x : Str} {c Pt f : Addr} {oc : Value} {od : Option Addr} {fd : FuncData} {sl : Array (Option Value)} (a : W.nsIn K mainGlobals x = some (some (.ref f))) (l : K.lookup f = some ⟨oc, od, .func fd, sl⟩) (t : W.tabIn K x = some (c, Pt)) : fd.code = .ref c := by
  unfold W.tabIn at t
  rw [a] at t
  simp only [l] at t
  split at t
  · rename_i c2 hc
    split at t
    · split at t
      · cases t; exact hc
      · cases t
    · cases t
  · cases t
theorem law_callT {tabs : List (Addr × Addr)} {mb : Str → Option Value} {k : Nat} {fa a : Addr} {fd : FuncData} {x : Str} {sp : Sp} {s₁ : Shared} {vs : List Value} {ns : List Int}
    (KX : K.In s₁.heap) (noT : W.noTabs K = true) (hT : W.TabsAt tabs s₁.heap) (hns : s₁.heap.Ns mainGlobals mg) (hb : s₁.heap.Ns builtinsNs mb) (hbb : ∀ x : Str, x ≠ "__name__" → mb x = bootBuiltins x) (hbm : BltAt mg s₁.heap) (hlim : s₁.heap.NoLimit) (hg : s₁.gens = #[])
    (ha : s₁.heap.get? a = some { cls := .type "list", data := .seq vs.toArray }) (hi : IntsAre vs ns) (hl : ns.length ≤ sizeLine) (hr : Room k callerA)
    (F : ∀ base : Heap, K.In base → base.Ns mainGlobals mg → BltAt mg base → (∀ q ∈ tabs, W.CodeHd base q.1 q.2) → FnOk P w K mg base CX0 k fa fd [x] sp) (hbind : ∀ (s : Shared) (u : Value), BindsTo s fd ⟨[u], []⟩ [(x, u)])
    (hsp : ∀ H : Hp, SqL K H a (ns.map V.int) → (∀ q ∈ tabs, H q.2 = some (.tbl #[])) → sp [.ref a] H (fun v _ => v = .bl true) fun _ _ _ => False) :
    codeAny (model P w) callerA (.call (.ref fa) ⟨[.ref a], []⟩) (fun r s' => r = .ok (.ret (.bool true)) ∧ OldK s₁.heap s'.heap ∧ s'.os = s₁.os ∧ AllBare s'.gens) s₁ := by
  have rv := vals_ints hi
  have lenV := hi.length
  have tabK : ∀ q ∈ tabs, K.lookup q.2 = none := fun q hq => by
    cases e : K.lookup q.2 with
    | none => rfl
    | some o =>
      have e1 := KX _ _ e
      rw [(hT q hq).2] at e1
      cases e1
      have h2 := List.all_eq_true.mp noT (q.2, W.tabObj #[]) (W.mem_of_lookupK e)
      exact (Bool.false_ne_true (show false = true from h2)).elim
  have aT : ∀ q ∈ tabs, q.2 ≠ a := fun q hq z => by
    have e := (hT q hq).2
    rw [z, ha] at e
    cases e
  have core : ∀ H : Hp, SqL K H a (ns.map V.int) → HOk P w H s₁.heap → (∀ q ∈ tabs, H q.2 = some (.tbl #[])) → (∀ b u, H b = some u → (b = a ∧ K.lookup a = none ∧ ∃ o xs, u = .frz o (.lst xs)) ∨ (∃ q ∈ tabs, b = q.2)) →
      codeAny (model P w) callerA (.call (.ref fa) ⟨[.ref a], []⟩) (fun r s' => r = .ok (.ret (.bool true)) ∧ OldK s₁.heap s'.heap ∧ s'.os = s₁.os ∧ AllBare s'.gens) s₁ := by
    intro H hS hok hTH hA
    have base_of : ∀ {b : Addr} {o : Obj}, s₁.heap.get? b = some o → H b = none → (hidT s₁.heap H).get? b = some o := fun e n => hidT_get e n
    have noH : ∀ {b : Addr} {o : Obj}, s₁.heap.get? b = some o → o ≠ { cls := .type "list", data := .seq vs.toArray } → o ≠ W.tabObj #[] → H b = none := fun {b o} e n1 n2 => by
      cases q : H b with
      | none => rfl
      | some u =>
        rcases hA b u q with ⟨rfl, _⟩ | ⟨r, hr, rfl⟩
        · rw [ha] at e; cases e; exact absurd rfl n1
        · rw [(hT r hr).2] at e; cases e; exact absurd rfl n2
    have nsK : ∀ {b : Addr} {m : Str → Option Value}, s₁.heap.Ns b m → (hidT s₁.heap H).Ns b m := fun {b m} ⟨o, es, ep, e, d, r⟩ => ⟨o, es, ep, base_of e (noH e (fun z => by rw [z] at d; cases d) (fun z => by rw [z] at d; cases d)), d, r⟩
    have hKb : K.In (hidT s₁.heap H) := fun b o e => base_of (KX b o e) (by
      cases q : H b with
      | none => rfl
      | some u =>
        rcases hA b u q with ⟨rfl, hn, _⟩ | ⟨r, hr, rfl⟩
        · rw [hn] at e; cases e
        · rw [tabK r hr] at e; cases e)
    have hM : Mod K mg (hidT s₁.heap H) := ⟨hKb, nsK hns, ⟨mb, nsK hb, hbb⟩, let ⟨mc, h1, h2⟩ := hlim; ⟨mc, nsK h1, h2⟩⟩
    have hBB : BltAt mg (hidT s₁.heap H) := by
      obtain ⟨bm, ob, b1, b2, b3, b4, b5, b6⟩ := hbm
      exact ⟨bm, ob, b1, b2, base_of b3 (noH b3 (fun z => by rw [z] at b4; exact absurd (Value.type.inj b4) (by decide)) (fun z => by rw [z] at b4; cases b4)), b4, b5, b6⟩
    have hCC : ∀ q ∈ tabs, W.CodeHd (hidT s₁.heap H) q.1 q.2 := fun q hq => by
      obtain ⟨o, cvs, file, tf, flags, tg, inF, text, tt, e1, e2, r⟩ := (hT q hq).1
      exact ⟨o, cvs, file, tf, flags, tg, inF, text, tt, base_of e1 (noH e1 (fun z => by rw [z] at e2; exact absurd (Value.type.inj e2) (by decide)) (fun z => by rw [z] at e2; cases e2)), e2, r⟩
    have e0 : Env0 P w K mg (hidT s₁.heap H) callerA [] s₁ H := ⟨rfl, hM, fun b o e => of_hidT e, Nat.le_of_eq (hidT_size _ _), trivial, fun b hb => absurd (show b ∈ ([] : List Addr) from hb) (by simp), hok, .of_eq hg⟩
    refine codeAny_mono ((F _ hKb (nsK hns) hBB hCC).run callerA [] s₁ H ⟨[.ref a], []⟩ [.ref a] [.ref a] _ _ hr e0 (hbind s₁ (.ref a)) (.cons rfl .nil) (hsp H hS hTH)) fun r s' h => ?_
    cases r with
    | error e => exact False.elim h
    | ok fl =>
      cases fl with
      | next => exact False.elim h
      | brk => exact False.elim h
      | cont => exact False.elim h
      | ret u =>
        obtain ⟨v, H', os, bare, un, hok', r', q⟩ := h
        have q' : v = .bl true := q
        subst q'
        obtain rfl : u = Value.bool true := r'
        have keep : ∀ b o, s₁.heap.get? b = some o → s'.heap.get? b = some o ∨ ∃ q ∈ tabs, b = q.2 ∧ o = W.tabObj #[] ∧ ∃ ps, s'.heap.get? b = some (W.tabObj ps) := fun b o e => by
          cases q : H b with
          | none => exact .inl (un.keep b o e q (by intro z; exact absurd (show b ∈ ([] : List Addr) from z) (by simp)) (by simp))
          | some u =>
            rcases hA b u q with ⟨rfl, _, ob, xs, rfl⟩ | ⟨r, hr, rfl⟩
            · have z2 := un.frzs _ ob _ q
              obtain ⟨e1, _⟩ := hok _ _ q
              obtain ⟨e2, _⟩ := hok' _ _ z2
              rw [e] at e1
              cases e1
              exact .inl e2
            · obtain ⟨more, hm⟩ := un.tbls _ _ (hTH r hr)
              have e2 := (hT r hr).2
              rw [e] at e2
              exact .inr ⟨r, hr, rfl, Option.some.inj e2, _, hok' _ _ hm⟩
        refine ⟨rfl, ⟨fun b o e => ?_, fun b o e => ?_⟩, os, bare⟩
        · rcases keep b o e with h | ⟨q, hq, rfl, rfl, ps, hP⟩
          · exact .inl h
          · exact .inr (.inl ⟨((hT q hq).1.tab (hT q hq).2).isCodeTable, rfl, #[], ps, rfl, by rw [Array.empty_append]; exact hP⟩)
        · rcases keep b o e with h | ⟨q, hq, rfl, rfl, ps, hP⟩
          · exact ⟨_, h⟩
          · exact ⟨_, hP⟩
  cases hk : K.lookup a with
  | some o =>
    have e := KX a o hk
    rw [ha] at e
    cases e
    refine core (fun b => if b ∈ tabs.map (·.2) then some (.tbl #[]) else none) (.inr ⟨_, vs.toArray, _, hk, rfl, rfl, rfl, by rw [List.size_toArray, lenV]; exact hl, by simpa using rv⟩) (fun b u z => ?_) (fun q hq => if_pos (List.mem_map_of_mem hq)) fun b u z => ?_
    · by_cases hbt : b ∈ tabs.map (·.2)
      · have z' := (if_pos hbt).symm.trans z
        cases z'
        obtain ⟨q, hq, rfl⟩ := List.mem_map.mp hbt
        exact (hT q hq).2
      · have z' := (if_neg hbt).symm.trans z
        cases z'
    · by_cases hbt : b ∈ tabs.map (·.2)
      · obtain ⟨q, hq, rfl⟩ := List.mem_map.mp hbt
        exact .inr ⟨q, hq, rfl⟩
      · have z' := (if_neg hbt).symm.trans z
        cases z'
  | none =>
    have hif : ∀ b, b = a → (if b = a then some (HO.frz { cls := .type "list", data := .seq vs.toArray } (.lst (ns.map V.int))) else if b ∈ tabs.map (·.2) then some (.tbl #[]) else none) = some (HO.frz { cls := .type "list", data := .seq vs.toArray } (.lst (ns.map V.int))) := fun b hb => if_pos hb
    refine core (fun b => if b = a then some (.frz { cls := .type "list", data := .seq vs.toArray } (.lst (ns.map V.int))) else if b ∈ tabs.map (·.2) then some (.tbl #[]) else none) (.inl (.inr ⟨{ cls := .type "list", data := .seq vs.toArray }, if_pos rfl⟩)) (fun b u z => ?_) (fun q hq => (if_neg (aT q hq)).trans (if_pos (List.mem_map_of_mem hq))) fun b u z => ?_
    · by_cases hb : b = a
      · have z' := (if_pos hb).symm.trans z
        cases z'
        subst hb
        exact ⟨ha, by rw [List.length_map]; exact hl, vs, _, rv, ha⟩
      · have z := (if_neg hb).symm.trans z
        by_cases hbt : b ∈ tabs.map (·.2)
        · have z' := (if_pos hbt).symm.trans z
          cases z'
          obtain ⟨q, hq, rfl⟩ := List.mem_map.mp hbt
          exact (hT q hq).2
        · have z' := (if_neg hbt).symm.trans z
          cases z'
    · by_cases hb : b = a
      · have z' := (if_pos hb).symm.trans z
        cases z'
        exact .inl ⟨hb, hk, _, _, rfl⟩
      · have z := (if_neg hb).symm.trans z
        by_cases hbt : b ∈ tabs.map (·.2)
        · obtain ⟨q, hq, rfl⟩ := List.mem_map.mp hbt
          exact .inr ⟨q, hq, rfl⟩
        · have z' := (if_neg hbt).symm.trans z
          cases z'
end
theorem walk_ofT {l : W.OpenLaw} {n k : Nat} {q : Program} {loose : List Str} {XP : (Str → Option Value) → Heap → Prop} {YP : World → Heap → Prop} {d : DefRec} {K : Params → W.Frag} {sp : World → Sp} {x : Str} {tabs : World → List (Addr × Addr)}
    (hn : l.most = some n) (hn2 : n ≤ sizeLine) (hdf : d.params.defaults = []) (hr : Room k callerA)
    (hY : ∀ (w : World) (h : Heap), YP w h → (K w.params).In h) (noT : ∀ w : World, W.noTabs (K w.params) = true)
    (hT : ∀ (w : World) {mean : ExcName → Option Value} {lo : List Str} {mg mb : Str → Option Value} {h : Heap}, Top q lo mean mg mb h → (K w.params).In h → W.TabsAt (tabs w) h)
    (F : ∀ (w : World) (mg : Str → Option Value) (fa : Addr) (h : Heap), (K w.params).In h → h.Ns mainGlobals mg → mg d.name = some (.ref fa) →
      ∃ fd : FuncData, (∀ (s : Shared) (u : Value), BindsTo s fd ⟨[u], []⟩ [(x, u)]) ∧
        ∀ base : Heap, (K w.params).In base → base.Ns mainGlobals mg → BltAt mg base → (∀ q ∈ tabs w, W.CodeHd base q.1 q.2) → FnOk l.prog w (K w.params) mg base CX0 k fa fd [x] (sp w))
    (hsp : ∀ (w : World) (H : Hp) (a : Addr) (ns : List Int), ns.length ≤ n → SqL (K w.params) H a (ns.map V.int) → (∀ q ∈ tabs w, H q.2 = some (.tbl #[])) → sp w [.ref a] H (fun v _ => v = .bl true) fun _ _ _ => False) :
    W.WalkO q loose XP YP l.row.toRowW d [] (fun f vs => PySem.call f vs) := by
  refine Att.attach_call hn hdf fun w s₀ s₁ mg mb fa o pm cd doc a vs ns G Y ho hd hcd hmg hobj hints hlen hg => ?_
  have KX := hY w _ Y
  obtain ⟨fd, hb, hF⟩ := F w mg fa _ KX G.T.g hmg
  exact law_callT KX (noT w) (hT w G.T KX) G.T.g G.T.b G.T.builtins G.T.bmain G.T.nolimit hg hobj hints (Nat.le_trans hlen hn2) hr hF hb fun H hS hTH => hsp w H a ns hlen hS hTH
noncomputable def tabOf (K : W.Frag) (x : Str) : Addr × Addr := (W.tabIn K x).getD (0, 0)
theorem tabOf_is {K : W.Frag} {x : Str} (h : (W.tabIn K x).isSome = true) : W.tabIn K x = some (tabOf K x) := by
  unfold tabOf
  cases e : W.tabIn K x with
  | none => rw [e] at h; cases h
  | some q => rfl
theorem tabs_nil {h : Heap} : W.TabsAt [] h := fun _ hq => (nomatch hq)
theorem tabs_cons {q : Program} {lo : List Str} {mean : ExcName → Option Value} {mg mb : Str → Option Value} {h : Heap} {K : W.Frag} {x : Str} {d : DefRec} {l : List (Addr × Addr)} (T : Top q lo mean mg mb h) (X : K.In h) (hr : (recsOf q).find? (fun e => e.name == x) = some d)
    (hs : (W.tabIn K x).isSome = true) (hl : W.TabsAt l h) : W.TabsAt (tabOf K x :: l) h := List.forall_mem_cons.mpr ⟨W.tab_of (c := (tabOf K x).1) (P := (tabOf K x).2) T X hr (tabOf_is hs), hl⟩
end L2
namespace Bw
theorem led_step {p : Int} {n : Nat} {steps : List (List Int)} {r rr : List Int} {l : Nat} {tl : List Nat} (hp : p ∈ primesL) (hs : Rws p n steps) (hS : Stp steps) (hr : Rw p n r) (e : rr = restM p steps r) (hpl : placesM rr = l :: tl) :
    Rw p n (leadM p n rr l) ∧ Stp (steps ++ [leadM p n rr l]) ∧ (∀ R : Fn → Prop, (∀ st ∈ steps, Bw.Sp p R (fn st)) → Bw.Sp p R (fn r) → Bw.Sp p R (fn (leadM p n rr l))) ∧ Bw.Sp p (RS (steps ++ [leadM p n rr l])) (fn r) := by
  have p0 : 0 < p := by have := prime_pos p hp; lia
  have hR : Rw p n rr := by rw [e]; exact restM_Rw p0 hs hr
  obtain ⟨hl, hne, hlow⟩ := places_cons hpl
  have hln : l < n := by rw [← hR.1]; exact hl
  have hx := hR.at p0 l
  have htk := turn_ok (n := rr.getD l 0) hp (by lia) hx.2
  have hL := leadM_Rw (place := l) p0 hR
  have h1 : (leadM p n rr l).getD l 0 = 1 := by
    rw [leadM_at hR, if_pos hln, Int.mul_comm]
    exact htk.2.2
  have h0 : ∀ j, j < l → (leadM p n rr l).getD j 0 = 0 := fun j hj => by
    rw [leadM_at hR, if_pos (by lia), hlow j hj]; simp
  obtain ⟨t, ht⟩ := places_lead hL.1 hln h1 h0
  have ef := fstP_cons ht
  have eL := leadM_eqm (place := l) hR
  refine ⟨hL, Stp.snoc (by rw [ht]; simp) (by rw [ef]; exact h1) hS fun q hq => ?_, fun R hst hr' => ?_, ?_⟩
  · rw [leadM_at hR]
    split
    · have := rest_off p0 hs hS hr q hq
      rw [← e] at this
      rw [this]; simp
    · rfl
  · have h2 : Bw.Sp p R (fn rr) := by rw [e]; exact (rest_sp p0 hs hr hst).mpr hr'
    exact .cong ((Bw.Sp.zero.plus (turnM p (rr.getD l 0)) h2).of_eq fun j => by simp) eL
  · have hm : ∀ q ∈ steps, Bw.Sp p (RS (steps ++ [leadM p n rr l])) (fn q) := fun q hq => .mem ⟨q, List.mem_append_left _ hq, rfl⟩
    refine (rest_sp p0 hs hr hm).mp ?_
    rw [← e]
    have h3 : Bw.Sp p (RS (steps ++ [leadM p n rr l])) (fn (leadM p n rr l)) := .mem ⟨_, List.mem_append_right _ List.mem_cons_self, rfl⟩
    refine .cong ((Bw.Sp.zero.plus (rr.getD l 0) h3).of_eq (u := fun j => rr.getD l 0 * fn (leadM p n rr l) j) fun j => by simp) fun j => ?_
    obtain ⟨c, hc⟩ := eL j
    obtain ⟨d, hd⟩ : p ∣ turnM p (rr.getD l 0) * rr.getD l 0 - 1 := by
      have := dvd_mod p (turnM p (rr.getD l 0) * rr.getD l 0)
      rw [htk.2.2] at this
      have := Int.dvd_neg.mpr this
      rwa [show -(1 - turnM p (rr.getD l 0) * rr.getD l 0) = turnM p (rr.getD l 0) * rr.getD l 0 - 1 by lia] at this
    exact ⟨d * fn rr j - rr.getD l 0 * c, by grind⟩
end Bw
namespace S7
open PySem L2 Bw
noncomputable def askedM (left j : Nat) : List (List Int) := unitM left (j % left) :: List.replicate (j / left) (List.replicate left 0)
noncomputable def leadsM (p : Int) (m : Mach) (j : Nat) : List Int := stM p m (j % m.left) (j / m.left + 1)
noncomputable def WayAt (K : W.Frag) (H : Hp) (N : Addr → Prop) (p : Int) (m : Mach) (v : V) (j : Nat) : Prop :=
  ∃ t la sa AS, v = .ref t ∧ SqT K H t [.ref la, .ref sa] ∧ N la ∧ H la = some (.lst AS) ∧ HasA K H AS ((askedM m.left j).map intsT) ∧ SqT K H sa ((leadsM p m j).map V.int)
noncomputable def Ways (K : W.Frag) (H : Hp) (N : Addr → Prop) (p : Int) (m : Mach) (WS : List V) (T : List Nat) : Prop := WS.length = T.length ∧ ∀ (i : Nat) (v : V) (j : Nat), WS[i]? = some v → T[i]? = some j → WayAt K H N p m v j
section
variable {K : W.Frag} {H H' : Hp} {N N' : Addr → Prop} {p : Int} {m : Mach} {WS : List V} {T : List Nat} {v : V} {j : Nat} {l : Addr} {xs : List V} {o : HO}
theorem WayAt.mono (h : WayAt K H N p m v j) (e : Same H H') : WayAt K H' N p m v j := by
  obtain ⟨t, la, sa, AS, rfl, h1, h2, h3, h4, h5⟩ := h
  exact ⟨t, la, sa, AS, rfl, e.seqT h1, h2, e _ _ h3, h4.mono e, e.seqT h5⟩
theorem WayAt.wr (h : WayAt K H N p m v j) (hl : H l = some (.lst xs)) (hN : ∀ a, N a → a ≠ l) : WayAt K (upd H l o) N p m v j := by
  obtain ⟨t, la, sa, AS, rfl, h1, h2, h3, h4, h5⟩ := h
  exact ⟨t, la, sa, AS, rfl, SqT.wr h1 hl, h2, by rw [upd_ne (hN la h2)]; exact h3, HasA.wr hl h4, SqT.wr h5 hl⟩
theorem WayAt.imp (h : WayAt K H N p m v j) (hN : ∀ a o, H a = some o → N a → N' a) : WayAt K H N' p m v j := by
  obtain ⟨t, la, sa, AS, rfl, h1, h2, h3, h4, h5⟩ := h
  exact ⟨t, la, sa, AS, rfl, h1, hN _ _ h3 h2, h3, h4, h5⟩
theorem Ways.nil : Ways K H N p m [] [] := ⟨rfl, fun i v j h => by simp at h⟩
theorem Ways.mono (h : Ways K H N p m WS T) (e : Same H H') : Ways K H' N p m WS T := ⟨h.1, fun i v j a b => (h.2 i v j a b).mono e⟩
theorem Ways.wr (h : Ways K H N p m WS T) (hl : H l = some (.lst xs)) (hN : ∀ a, N a → a ≠ l) : Ways K (upd H l o) N p m WS T := ⟨h.1, fun i v j a b => (h.2 i v j a b).wr hl hN⟩
theorem Ways.imp (h : Ways K H N p m WS T) (hN : ∀ a o, H a = some o → N a → N' a) : Ways K H N' p m WS T := ⟨h.1, fun i v j a b => (h.2 i v j a b).imp hN⟩
theorem Ways.snoc (h : Ways K H N p m WS T) (hv : WayAt K H N p m v j) : Ways K H N p m (WS ++ [v]) (T ++ [j]) := ⟨by simp [h.1], fun i u k a b => by
  by_cases hi : i < WS.length
  · rw [List.getElem?_append_left hi] at a
    rw [List.getElem?_append_left (by rw [← h.1]; exact hi)] at b
    exact h.2 i u k a b
  · have hi' : i = WS.length := by
      have := (List.getElem?_eq_some_iff.mp a).1
      simp at this
      lia
    subst hi'
    rw [List.getElem?_append_right (Nat.le_refl _)] at a
    rw [List.getElem?_append_right (by rw [h.1]; exact Nat.le_refl _), h.1] at b
    simp at a b
    subst a
    subst b
    exact hv⟩
theorem Ways.tail {q : Nat} {T : List Nat} (h : Ways K H N p m WS (q :: T)) : ∃ v WS', WS = v :: WS' ∧ WayAt K H N p m v q ∧ Ways K H N p m WS' T := by
  cases WS with
  | nil => exact absurd h.1 (by simp)
  | cons v WS' => exact ⟨v, WS', rfl, h.2 0 v q rfl rfl, by simpa using h.1, fun i u k a b => h.2 (i + 1) u k a b⟩
end
theorem leads_Rw {p : Int} {m : Mach} (p0 : 0 < p) (MO : MachOk p m) (j : Nat) : Rw p m.states (leadsM p m j) := st_Rw p0 MO _ _
theorem asked_next {left j : Nat} (hl : 0 < left) : askedM left (j + left) = askedM left j ++ [List.replicate left 0] := by
  unfold askedM
  rw [Nat.add_mod_right, Nat.add_div_right j hl, List.replicate_succ']
  rfl
theorem leads_next {p : Int} {m : Mach} (hl : 0 < m.left) (j : Nat) : leadsM p m (j + m.left) = (outM p m (List.replicate m.left 0 ++ leadsM p m j)).drop m.right := by
  unfold leadsM
  rw [Nat.add_mod_right, Nat.add_div_right j hl, stM]
  unfold askW
  rw [if_neg (Nat.succ_ne_zero _)]
theorem leads_first {p : Int} {m : Mach} {j : Nat} (hj : j < m.left) : leadsM p m j = (outM p m (unitM m.left j ++ List.replicate m.states 0)).drop m.right := by
  unfold leadsM
  rw [Nat.mod_eq_of_lt hj, Nat.div_eq_of_lt hj, stM]
  rfl
theorem asked_first {left j : Nat} (hj : j < left) : askedM left j = [unitM left j] := by
  unfold askedM
  rw [Nat.mod_eq_of_lt hj, Nat.div_eq_of_lt hj]
  rfl
theorem nre : (["row", "p", "some"] : List Str).Nodup := by decide +kernel
noncomputable def RI (p : Int) (m : Mach) (g : List Int → List Int) (j : Nat) : Fn := fn (g (leadsM p m j))
section
variable {P : Program} {w : World} {K : W.Frag} {mg : Str → Option Value} {base : Heap}
inductive AskReached (P : Program) (w : World) (K : W.Frag) (mg : Str → Option Value) (base : Heap) (s : Shared) (vs : List V) (H : Hp) (Q : L2.VK) (E : L2.XK) : Prop where
  | mk (p : Int) (a f : Addr) (m : Mach) (g : List Int → List Int) (n B : Nat) (q0_ : vs = [.int p, .ref a, .ref f]) (q1_ : p ∈ primesL) (q2_ : MH K H a m) (q3_ : MachOk p m) (q4_ : m.left ≤ 100) (q5_ : m.states ≤ 100) (q6_ : m.right ≤ 100) (q7_ : n ≤ 900) (q8_ : B ≤ 100) (q9_ : LamAt P w K mg base 2 s H f m.states g) (q10_ : (∀ y, Rw p m.states y → Rw p n (g y))) (q11_ : Shifts p (RI p m g) m.left) (q12_ : (∀ k, (tk p (RI p m g) k).length ≤ B)) (q13_ : ∀ l WS T H', Same H H' → H' l = some (.lst WS) → Ways K H' (fun _ => True) p m WS T → (0 < m.left → ∃ k, ∀ n, tk p (RI p m g) (k + n) = T) → (m.left = 0 → T = []) → Q (.ref l) H') : AskReached P w K mg base s vs H Q E
noncomputable def spReached (P : Program) (w : World) (K : W.Frag) (mg : Str → Option Value) (base : Heap) (s : Shared) : Sp := fun vs H Q E => AskReached P w K mg base s vs H Q E
noncomputable abbrev nRe : List Str := ["p", "some", "looked", "still", "due", "steps", "taken", "way", "rest"]
theorem scRe : FnScope ["p", "some", "looked", "still", "due", "steps", "taken", "way", "rest"] ["p", "some", "looked"] (defScope sReached) := ⟨rfl, rfl, rfl, by decide +kernel, rfl, by decide +kernel, by decide +kernel⟩
noncomputable def WRe (K : W.Frag) (p : Int) (a f ts ld ls lt : Addr) (m : Mach) (g : List Int → List Int) (n B : Nat) (H : Hp) (k : Nat) (σ : St) (H' : Hp) : Prop := Same H H' ∧ ∃ (s7 s8 : Option V) (DV SV TV : List V) (D T : List Nat) (steps : List (List Int)),
  σ = [some (.int p), some (.ref a), some (.ref f), some (.ref ts), some (.ref ld), some (.ref ls), some (.ref lt), s7, s8] ∧ k = (B - T.length) + D.length ∧
  H' ld = some (.lst DV) ∧ H' ls = some (.lst SV) ∧ H' lt = some (.lst TV) ∧ SqT K H' ts ((List.replicate m.left (0 : Int)).map V.int) ∧ Ways K H' (fun b => b ≠ ld ∧ b ≠ ls ∧ b ≠ lt) p m DV D ∧ Ways K H' (fun b => b ≠ ld ∧ b ≠ ls ∧ b ≠ lt) p m TV T ∧ HasA K H' SV (steps.map intsT) ∧
  Rws p n steps ∧ Stp steps ∧ steps.length = T.length ∧ (∀ st ∈ steps, Bw.Sp p (· ∈ T.map (RI p m g)) (fn st)) ∧ (∀ j ∈ T, Bw.Sp p (RS steps) (RI p m g j)) ∧ Walk p (RI p m g) m.left T D ∧ (m.left = 0 → T = []) ∧ ∀ j ∈ D, j / m.left ≤ T.length
theorem due_len {p : Int} {R : Nat → Fn} {left : Nat} {T D : List Nat} (h : Walk p R left T D) : D.length ≤ left := by
  obtain ⟨k, _, rfl⟩ := h
  unfold dueM
  exact Nat.le_trans (List.length_filter_le _ _) (by simp)
theorem ok_reached {f fO fT fR fL fF : Addr} {fd fdO fdT fdR fdL fdF : FuncData} (F : Fun K "reached" "reached" sReached f fd) (T : Txt mg)
    (GO : FnOk P w K mg base CX0 1 fO fdO ["count"] (spOnes K)) (kO : Kp K fO) (bO : Binds K fdO ["count"] []) (mO : mg "ones" = some (.ref fO))
    (GT : FnOk P w K mg base CX0 2 fT fdT ["p", "some", "row", "states"] (spTick K)) (kT : Kp K fT) (bT : Binds K fdT ["p", "some", "row", "states"] []) (mT : mg "ticked" = some (.ref fT))
    (GR : FnOk P w K mg base CX0 3 fR fdR ["p", "steps", "row"] (spRest K)) (kR : Kp K fR) (bR : Binds K fdR ["p", "steps", "row"] []) (mR : mg "rest_of" = some (.ref fR))
    (GL : FnOk P w K mg base CX0 2 fL fdL ["p", "row", "place"] (spLed K)) (kL : Kp K fL) (bL : Binds K fdL ["p", "row", "place"] []) (mL : mg "led" = some (.ref fL))
    (GF : FnOk P w K mg base CX0 1 fF fdF ["row"] (spFirst K)) (kF : Kp K fF) (bF : Binds K fdF ["row"] []) (mF : mg "first_place" = some (.ref fF)) :
    RunS P w K mg base 4 f fd ["p", "some", "looked"] (spReached P w K mg base) := by
  refine F.okS scRe (fun s vs H Q E h => ?_) (fun cdv A outer s H vs Q E hr h => ?_)
  · obtain ⟨p, a, f', m, g, n, B, rfl, _⟩ := h
    rfl
  · obtain ⟨p, a, f', m, g, n, B, rfl, pp, hm, MO, lb, sb, rb, hn9, hB, LA, hg, hSh, hTk, k⟩ := h
    obtain ⟨p2, p97⟩ := prime_pos p pp
    have p0 : 0 < p := by lia
    have hr1 : Room 1 _ := hr.mono (by decide)
    have hr2 : Room 2 _ := hr.mono (by decide)
    have z1000 : (1000 : Nat) ≤ sizeLine := by decide
    refine ⟨_, pss_cons (ps_set (i := 3) scRe.nd rfl (Or.inl rfl) (pe_op (opRepT K rfl) (pe_tup (pa_cons pe_int pa_nil)) (pe_ix (ixT K rfl) (pv 1) pe_int (fun _ _ => rfl)))) (pss_cons (ps_setComp (i := 4) (N := ["row", "p", "some"]) (own := 1) (caps := [0, 1]) rfl scRe.nd rfl rfl (piList K rfl (pe_call GO hr1 rfl mO kO bO .nil pass0 (pa_cons (pe_ix (ixT K rfl) (pv 1) pe_int (fun _ _ => rfl)) pa_nil))) (show BlkScope nRe (defScope sReached) ["row", "p", "some"] 1 [0, 1] _ from .mk' (by decide +kernel)) (fun _ _ _ _ _ => pg_name (i := 0) nre rfl (Or.inl rfl)) (fun _ _ _ _ _ => pts_nil) (fun _ _ _ _ _ => pe_tup (pa_cons (pe_lst (pa_cons (pv 0) pa_nil)) (pa_cons (pe_ix (ixT K rfl) (pe_call GT hr2 rfl mT kT bT .nil pass0 (pa_cons (pv 1) (pa_cons (pv 2) (pa_cons (pv 0) (pa_cons (pe_op (opRepT K rfl) (pe_tup (pa_cons pe_int pa_nil)) (pe_ix (ixT K rfl) (pv 2) pe_int (fun _ _ => rfl))) pa_nil))))) pe_int (fun _ _ => rfl)) pa_nil)))) (pss_cons (ps_set (i := 5) scRe.nd rfl (Or.inl rfl) (pe_lst pa_nil)) (pss_cons (ps_set (i := 6) scRe.nd rfl (Or.inl rfl) (pe_lst pa_nil)) (pss_cons (ps_while PassesOwn.never (pt_truth (pv 4) (fun _ => rfl)) (pss_cons (ps_set (i := 7) scRe.nd rfl (Or.inl rfl) (pe_bm PySem.F.plainAttrs_list PySem.F.slot_list_pop PySem.F.type_list_pop mt_popAt (pv 4) (pa_cons pe_int pa_nil))) (pss_cons (ps_set (i := 8) scRe.nd rfl (Or.inl rfl) (pe_call GR hr rfl mR kR bR .nil pass0 (pa_cons (pv 0) (pa_cons (pv 5) (pa_cons (pe_callLam (i := 2) LA hr2 rfl rfl (Or.inl rfl) (pe_ix (ixT K rfl) (pv 7) pe_int (fun _ _ => rfl))) pa_nil))))) (pss_one (ps_if (pt_val (pe_callB (cAnyT K rfl rfl) rfl T.any bt_any (pa_cons (pv 8) pa_nil))) (pss_cons (ps_expr (pe_bm PySem.F.plainAttrs_list PySem.F.slot_list_append PySem.F.type_list_append mt_append (pv 5) (pa_cons (pe_call GL hr2 rfl mL kL bL .nil pass0 (pa_cons (pv 0) (pa_cons (pv 8) (pa_cons (pe_call GF hr1 rfl mF kF bF .nil pass0 (pa_cons (pv 8) pa_nil)) pa_nil)))) pa_nil))) (pss_cons (ps_expr (pe_bm PySem.F.plainAttrs_list PySem.F.slot_list_append PySem.F.type_list_append mt_append (pv 6) (pa_cons (pv 7) pa_nil))) (pss_one (ps_expr (pe_bm PySem.F.plainAttrs_list PySem.F.slot_list_append PySem.F.type_list_append mt_append (pv 4) (pa_cons (pe_tup (pa_cons (pe_op op_cat (pe_ix (ixT K rfl) (pv 7) pe_int (fun _ _ => rfl)) (pe_lst (pa_cons (pv 3) pa_nil))) (pa_cons (pe_ix (ixT K rfl) (pe_call GT hr2 rfl mT kT bT .nil pass0 (pa_cons (pv 0) (pa_cons (pv 1) (pa_cons (pv 3) (pa_cons (pe_ix (ixT K rfl) (pv 7) pe_int (fun _ _ => rfl)) pa_nil))))) pe_int (fun _ _ => rfl)) pa_nil))) pa_nil)))))) pss_nil))))) (pss_one (ps_ret (pv 6))))))), ?_⟩
    have hm' := hm
    obtain ⟨u, RS', h1, h2, h3⟩ := hm
    refine ⟨by decide, fun t1 g1 => ⟨_, rfl, a, _, 0, _, rfl, rfl, (Same.upd g1).seqT h1, atI_nat (j := 0) rfl, t1, (m.left : Int), _, rfl, rfl, .of upd_same, by simp, by lia, by lia, (by show 1 * ((m.left : Nat) : Int).toNat ≤ sizeLine; lia), fun ts H2 s2 hts => ?_⟩⟩
    rw [Int.toNat_natCast, flatR] at hts
    have sH2 : Same H H2 := (Same.upd g1).trans s2
    clear g1 s2
    refine ⟨_, rfl, a, _, 0, _, rfl, rfl, sH2.seqT h1, atI_nat (j := 0) rfl, m.left, _, rfl, rfl, by lia, fun lo LS H3 s3 glo hLS => ⟨lo, rfl, ⟨_, .of glo⟩, ?_⟩⟩
    have sH3 := sH2.trans s3
    have eL := lenA hLS
    have eU : (unitsM m.left).length = m.left := by simp [unitsM]
    refine comp_list (xs := LS) (cp := [some (.int p), some (.ref a)]) (fun i H' zs => Ways K H' (fun _ => True) p m zs (List.range i)) (.of glo) (by lia) .nil (fun i H' zs h => by rw [h.1, List.length_range]; exact Nat.le_refl _) ?_ ?_
    · rintro i v H4 zs hv sm h
      obtain ⟨ur, ua, hui, rfl, hua⟩ := rowAt hLS hv
      have hi : i < m.left := by rw [← eU]; exact (List.getElem?_eq_some_iff.mp hui).1
      have hur : ur = unitM m.left i := by
        unfold unitsM at hui
        rw [List.getElem?_map, List.getElem?_range hi] at hui
        exact (Option.some.inj hui).symm
      subst hur
      refine tgo ⟨_, rfl, (by show 1 ≤ sizeLine; lia), fun l1 g1 => ⟨_, rfl, _, rfl, _, rfl, by decide, fun t1 g2 => ⟨_, rfl, a, _, 1, _, rfl, rfl, (sH3.trans (sm.trans ((Same.upd g1).trans (.upd g2)))).seqT h1, atI_nat (j := 1) rfl, t1, (m.states : Int), _, rfl, rfl, .of upd_same, by simp, by lia, by lia, (by show 1 * ((m.states : Nat) : Int).toNat ≤ sizeLine; lia), fun tz Hz sz htz => ?_⟩⟩⟩
      rw [Int.toNat_natCast, flatR] at htz
      have gl : Hz l1 = some (.lst [.ref ua]) := sz _ _ (Same.upd g2 _ _ upd_same)
      have smz : Same H4 Hz := ((Same.upd g1).trans (.upd g2)).trans sz
      refine ⟨p, a, ua, tz, m, unitM m.left i, List.replicate m.states 0, rfl, p2, p97, hm'.mono (sH3.trans (sm.trans smz)), MO, lb, sb, rb, (sm.trans smz).seqT hua, htz, unit_len hi, by simp, fun v' b1 b2 H7 s7 hv' hb1 hb2 => ?_⟩
      refine ⟨v', _, 1, .ref b2, rfl, rfl, hv', atI_nat (j := 1) rfl, (by show 2 ≤ sizeLine; lia), fun tw gw => ?_⟩
      have s8 : Same H7 (upd H7 tw (.tup [.ref l1, .ref b2])) := .upd gw
      have smm := smz.trans (s7.trans s8)
      refine ⟨⟨[_], rfl, rfl⟩, sm.trans smm, ?_⟩
      rw [List.range_succ]
      refine (h.mono smm).snoc ⟨tw, l1, b2, [.ref ua], rfl, .of upd_same, trivial, (s7.trans s8) _ _ gl, ?_, ?_⟩
      · rw [asked_first hi]
        exact .cons (hasT_of ((sm.trans smm).seqT hua)) .nil
      · rw [leads_first hi]
        exact s8.seqT hb2
    rintro H4 DV sm4 hD ld hld
    rw [eL, eU] at hD
    refine ⟨by decide, fun ls hls => ⟨by decide, fun lt hlt => ?_⟩⟩
    have n1 : ls ≠ ld := fun z => by rw [z, upd_same] at hls; cases hls
    have n2 : lt ≠ ls := fun z => by rw [z, upd_same] at hlt; cases hlt
    have n3 : lt ≠ ld := fun z => by rw [z, upd_ne (Ne.symm n1), upd_same] at hlt; cases hlt
    have s5 : Same H4 (upd (upd (upd H4 ld (.lst DV)) ls (.lst [])) lt (.lst [])) := ((Same.upd hld).trans (.upd hls)).trans (.upd hlt)
    have gd : (upd (upd (upd H4 ld (.lst DV)) ls (.lst [])) lt (.lst [])) ld = some (.lst DV) := by rw [upd_ne (Ne.symm n3), upd_ne (Ne.symm n1), upd_same]
    have gs : (upd (upd (upd H4 ld (.lst DV)) ls (.lst [])) lt (.lst [])) ls = some (.lst []) := by rw [upd_ne (Ne.symm n2), upd_same]
    have gt : (upd (upd (upd H4 ld (.lst DV)) ls (.lst [])) lt (.lst [])) lt = some (.lst []) := upd_same
    have lsn : H4 ls = none := none_of (.upd hld) hls
    have ltn : H4 lt = none := none_of (.upd hld) (none_of (.upd hls) hlt)
    have hD5 := (hD.imp (N' := fun b => b ≠ ld ∧ b ≠ ls ∧ b ≠ lt) fun b o e _ => ⟨ne_of_none e hld, ne_of_none e lsn, ne_of_none e ltn⟩).mono s5
    have hts5 := (s3.trans (sm4.trans s5)).seqT hts
    have sH5 := sH3.trans (sm4.trans s5)
    have hld0 : H ld = none := none_of (sH3.trans sm4) hld
    have hls0 : H ls = none := none_of (sH3.trans sm4) lsn
    have hlt0 : H lt = none := none_of (sH3.trans sm4) ltn
    generalize upd (upd (upd H4 ld (.lst DV)) ls (.lst [])) lt (.lst []) = H5 at s5 gd gs gt hD5 hts5 sH5 ⊢
    dsimp only
    refine ⟨WRe K p a f' ts ld ls lt m g n B H, ⟨_, sH5, none, none, DV, [], [], List.range m.left, [], [], rfl, rfl, gd, gs, gt, hts5, hD5, .nil, .nil, fun r hr => (nomatch hr), trivial, rfl, fun st hs => (nomatch hs), fun j hj => (nomatch hj), walk_start, fun _ => rfl, fun j hj => by rw [Nat.div_eq_of_lt (List.mem_range.mp hj)]; exact Nat.zero_le _⟩, ?_⟩
    rintro μ σ H6 ⟨sm, s7, s8, DV, SV, TV, D, T', steps, rfl, hμ, gd, gs, gt, hts, hD, hTV, hSV, hRS, hStp, hlen, hsub, hsup, hW, hz0, hdl⟩
    have eD := hD.1
    refine ⟨_, rfl, !DV.isEmpty, .inl ⟨DV, .of gd, rfl⟩, ?_⟩
    cases D with
    | nil =>
      have : DV = [] := List.length_eq_zero_iff.mp eD
      subst this
      refine iteF ⟨_, rfl, k lt TV T' H6 sm gt (hTV.imp fun _ _ _ _ => trivial) (fun hl => walk_end hl hSh hW) hz0⟩
    | cons q D =>
      obtain ⟨v, DV', rfl, hv, hD'⟩ := hD.tail
      refine iteT ⟨fun σ' H' => ∃ m', m' < μ ∧ WRe K p a f' ts ld ls lt m g n B H m' σ' H', fun σ' H' h => h, ?_⟩
      have hl : 0 < m.left := by have := due_len hW; simp at this; lia
      have hTl : T'.length ≤ B := by obtain ⟨k', rfl, _⟩ := hW; exact hTk k'
      have hDl := due_len hW
      refine ⟨_, rfl, .inl ⟨rfl, _, SqL.of gd⟩, ld, v :: DV', 0, 0, v, rfl, rfl, gd, by decide, by decide, by simp [seqIndex?], rfl, ?_⟩
      have eE : (v :: DV').eraseIdx 0 = DV' := rfl
      rw [eE]
      have NL : ∀ b, (b ≠ ld ∧ b ≠ ls ∧ b ≠ lt) → b ≠ ld := fun b h => h.1
      have sm7 : Same H (upd H6 ld (.lst DV')) := sm.write hld0
      have gd7 : (upd H6 ld (.lst DV')) ld = some (.lst DV') := upd_same
      have gs7 : (upd H6 ld (.lst DV')) ls = some (.lst SV) := by rw [upd_ne n1]; exact gs
      have gt7 : (upd H6 ld (.lst DV')) lt = some (.lst TV) := by rw [upd_ne n3]; exact gt
      have hts7 := SqT.wr (o := .lst DV') hts gd
      have hv7 := hv.wr (o := .lst DV') gd NL
      have hD7 := hD'.wr (o := .lst DV') gd NL
      have hT7 := hTV.wr (o := .lst DV') gd NL
      have hS7 := HasA.wr (o := .lst DV') gd hSV
      generalize upd H6 ld (.lst DV') = H7 at sm7 gd7 gs7 gt7 hts7 hv7 hD7 hT7 hS7 ⊢
      clear hD hv hD' hTV hSV hts gd gs gt
      have hv0 := hv7
      obtain ⟨tw, la, sa, AS, rfl, hw1, hw2, hw3, hw4, hw5⟩ := hv7
      have hLR := leads_Rw p0 MO q
      have hgR := hg _ hLR
      refine ⟨_, rfl, _, rfl, rfl, sm7, _, rfl, tw, _, 1, .ref sa, rfl, rfl, hw1, atI_nat (j := 1) rfl, sm7, sa, _, rfl, hw5, hLR.1, fun tg H8 s8' htg => ?_⟩
      refine ⟨p, ls, tg, true, SV, steps, g (leadsM p m q), n, rfl, p2, p97, by lia, .of (s8' _ _ gs7), hS7.mono s8', hRS, hStp.ne, htg, hgR, fun tr H9 s9 htr => ?_⟩
      have s89 := s8'.trans s9
      obtain ⟨rr, err⟩ : ∃ rr, rr = restM p steps (g (leadsM p m q)) := ⟨_, rfl⟩
      have hRr : Rw p n rr := by rw [err]; exact restM_Rw p0 hRS hgR
      have hany := rest_any p0 hRS hStp hgR
      rw [← err] at htr hany
      have hspan : Bw.Sp p (RS steps) (fn (g (leadsM p m q))) ↔ Bw.Sp p (· ∈ T'.map (RI p m g)) (RI p m g q) := by
        constructor
        · intro h
          exact h.trans fun f hf => by
            obtain ⟨st, hst, rfl⟩ := hf
            exact hsub st hst
        · intro h
          exact h.trans fun f hf => by
            obtain ⟨j, hj, rfl⟩ := List.mem_map.mp hf
            exact hsup j hj
      refine ⟨_, rfl, tr, rr, rfl, htr, _, rfl, ?_⟩
      cases hc : (rr.any fun n => n != 0) with
      | false =>
        refine iteF ⟨_, ?_, sm7.trans s89, _, _, DV', SV, TV, D, T', steps, rfl, rfl, s89 _ _ gd7, s89 _ _ gs7, s89 _ _ gt7, s89.seqT hts7, hD7.mono s89, hT7.mono s89, hS7.mono s89, hRS, hStp, hlen, hsub, hsup, walk_drop hl hSh hW (hspan.mp (hany.mp hc)), hz0, fun j hj => hdl j (List.mem_cons_of_mem _ hj)⟩
        rw [hμ, List.length_cons]; lia
      | true =>
        refine iteT ?_
        have hnot : ¬ Bw.Sp p (· ∈ T'.map (RI p m g)) (RI p m g q) := fun z => by
          have := hany.mpr (hspan.mpr z)
          rw [hc] at this
          cases this
        have hW' := walk_take hl hSh hW hnot
        have hTl' : (T' ++ [q]).length ≤ B := by obtain ⟨k', e', _⟩ := hW'; rw [e']; exact hTk k'
        rw [List.length_append, List.length_singleton] at hTl'
        have hDl' := due_len hW'
        rw [List.length_append, List.length_singleton] at hDl'
        cases hpl : placesM rr with
        | nil =>
          exfalso
          have : (rr.any fun n => n != 0) = false := zero_of fun j => by
            by_cases hj : j < rr.length
            · exact places_nil hpl j hj
            · exact hRr.out (by rw [← hRr.1]; lia)
          rw [hc] at this
          cases this
        | cons l tl =>
          obtain ⟨hL1, hL2, hL3, hL4⟩ := led_step pp hRS hStp hgR err hpl
          have hlr := places_cons hpl
          refine ⟨_, rfl, .inl ⟨rfl, _, SqL.of (s89 _ _ gs7)⟩, _, rfl, _, rfl, _, rfl, tr, rr, l, tl, rfl, htr, by rw [hRr.1]; lia, hpl, fun HA sA => ?_⟩
          refine ⟨p, tr, rr, (l : Int), l, rfl, rfl, pp, sA.seqT htr, hlr.1, by rw [hRr.1]; lia, hRr.2, hlr.2.1, fun tL HB sB htL => ?_⟩
          rw [hRr.1] at htL
          have s7B := (s89.trans sA).trans sB
          have eS := lenA hS7
          refine ⟨ls, SV, .ref tL, rfl, rfl, s7B _ _ gs7, by lia, ?_⟩
          have NS : ∀ b, (b ≠ ld ∧ b ≠ ls ∧ b ≠ lt) → b ≠ ls := fun b h => h.2.1
          have gsB := s7B _ _ gs7
          have smC : Same H (upd HB ls (.lst (SV ++ [.ref tL]))) := (sm7.trans s7B).write hls0
          have gdC : (upd HB ls (.lst (SV ++ [.ref tL]))) ld = some (.lst DV') := by rw [upd_ne (Ne.symm n1)]; exact s7B _ _ gd7
          have gsC : (upd HB ls (.lst (SV ++ [.ref tL]))) ls = some (.lst (SV ++ [.ref tL])) := upd_same
          have gtC : (upd HB ls (.lst (SV ++ [.ref tL]))) lt = some (.lst TV) := by rw [upd_ne n2]; exact s7B _ _ gt7
          have htsC := SqT.wr (o := .lst (SV ++ [.ref tL])) (s7B.seqT hts7) gsB
          have hDC := (hD7.mono s7B).wr (o := .lst (SV ++ [.ref tL])) gsB NS
          have hTC := (hT7.mono s7B).wr (o := .lst (SV ++ [.ref tL])) gsB NS
          have hvC := (hv0.mono s7B).wr (o := .lst (SV ++ [.ref tL])) gsB NS
          have hSC : HasA K (upd HB ls (.lst (SV ++ [.ref tL]))) (SV ++ [.ref tL]) ((steps ++ [leadM p n rr l]).map intsT) := by
            refine HasA.wr gsB ?_
            rw [List.map_append]
            exact (hS7.mono s7B).append (.cons (hasT_of htL) .nil)
          generalize upd HB ls (.lst (SV ++ [.ref tL])) = HC at smC gdC gsC gtC htsC hDC hTC hvC hSC ⊢
          have eT := hTC.1
          refine ⟨_, rfl, .inl ⟨rfl, _, SqL.of gtC⟩, _, rfl, lt, TV, .ref tw, rfl, rfl, gtC, by lia, ?_⟩
          have NT : ∀ b, (b ≠ ld ∧ b ≠ ls ∧ b ≠ lt) → b ≠ lt := fun b h => h.2.2
          have smD : Same H (upd HC lt (.lst (TV ++ [.ref tw]))) := smC.write hlt0
          have gdD : (upd HC lt (.lst (TV ++ [.ref tw]))) ld = some (.lst DV') := by rw [upd_ne (Ne.symm n3)]; exact gdC
          have gsD : (upd HC lt (.lst (TV ++ [.ref tw]))) ls = some (.lst (SV ++ [.ref tL])) := by rw [upd_ne (Ne.symm n2)]; exact gsC
          have gtD : (upd HC lt (.lst (TV ++ [.ref tw]))) lt = some (.lst (TV ++ [.ref tw])) := upd_same
          have htsD := SqT.wr (o := .lst (TV ++ [.ref tw])) htsC gtC
          have hDD := hDC.wr (o := .lst (TV ++ [.ref tw])) gtC NT
          have hvD := hvC.wr (o := .lst (TV ++ [.ref tw])) gtC NT
          have hTD := (hTC.snoc hvC).wr (o := .lst (TV ++ [.ref tw])) gtC NT
          have hSD := HasA.wr (o := .lst (TV ++ [.ref tw])) gtC hSC
          generalize upd HC lt (.lst (TV ++ [.ref tw])) = HD at smD gdD gsD gtD htsD hDD hvD hTD hSD ⊢
          obtain ⟨tw', la, sa, AS, e', hw1, hw2, hw3, hw4, hw5⟩ := hvD
          cases e'
          have eAS := lenA hw4
          have hasl : (askedM m.left q).length ≤ B + 1 := by
            unfold askedM
            rw [List.length_cons, List.length_replicate]
            have := hdl q List.mem_cons_self
            lia
          refine ⟨_, rfl, .inl ⟨rfl, _, SqL.of gdD⟩, _, rfl, tw, _, 0, .ref la, rfl, rfl, hw1, atI_nat (j := 0) rfl, _, rfl, (by show 1 ≤ sizeLine; lia), fun l1 g1 => ?_⟩
          refine ⟨la, l1, _, _, rfl, rfl, Same.upd g1 _ _ hw3, upd_same, by rw [eAS]; show _ + 1 ≤ sizeLine; lia, fun l2 g2 => ?_⟩
          have sE : Same HD (upd (upd HD l1 (.lst [.ref ts])) l2 (.lst (AS ++ [.ref ts]))) := (Same.upd g1).trans (.upd g2)
          have gE : (upd (upd HD l1 (.lst [.ref ts])) l2 (.lst (AS ++ [.ref ts]))) l2 = some (.lst (AS ++ [.ref ts])) := upd_same
          have l2n : HD l2 = none := none_of (.upd g1) g2
          generalize upd (upd HD l1 (.lst [.ref ts])) l2 (.lst (AS ++ [.ref ts])) = HE at sE gE ⊢
          refine ⟨_, rfl, _, rfl, _, rfl, _, rfl, tw, _, 1, .ref sa, rfl, rfl, sE.seqT hw1, atI_nat (j := 1) rfl, p, a, ts, sa, m, List.replicate m.left 0, leadsM p m q, rfl, p2, p97, hm'.mono (smD.trans sE), MO, lb, sb, rb, sE.seqT htsD, sE.seqT hw5, by simp, hLR.1, fun v' b1 b2 HF sF hv' hb1 hb2 => ?_⟩
          refine ⟨v', _, 1, .ref b2, rfl, rfl, hv', atI_nat (j := 1) rfl, (by show 2 ≤ sizeLine; lia), fun tn gn => ?_⟩
          have sG : Same HD (upd HF tn (.tup [.ref l2, .ref b2])) := (sE.trans sF).trans (.upd gn)
          have sG' : Same HE (upd HF tn (.tup [.ref l2, .ref b2])) := sF.trans (.upd gn)
          have hnew : WayAt K (upd HF tn (.tup [.ref l2, .ref b2])) (fun b => b ≠ ld ∧ b ≠ ls ∧ b ≠ lt) p m (.ref tn) (q + m.left) := by
            refine ⟨tn, l2, b2, AS ++ [.ref ts], rfl, .of upd_same, ⟨fun z => ?_, fun z => ?_, fun z => ?_⟩, sG' _ _ gE, ?_, ?_⟩
            · rw [z, gdD] at l2n; cases l2n
            · rw [z, gsD] at l2n; cases l2n
            · rw [z, gtD] at l2n; cases l2n
            · rw [asked_next hl, List.map_append]
              exact (hw4.mono sG).append (.cons (hasT_of (sG.seqT htsD)) .nil)
            · rw [leads_next hl]
              exact (Same.upd gn).seqT hb2
          have gdG := sG _ _ gdD
          have eDV := hDD.1
          refine ⟨ld, DV', .ref tn, rfl, rfl, gdG, by lia, ?_⟩
          refine ⟨(B - (T' ++ [q]).length) + (D ++ [q + m.left]).length, ?_, (smD.trans sG).write hld0, _, _, DV' ++ [.ref tn], SV ++ [.ref tL], TV ++ [.ref tw], D ++ [q + m.left], T' ++ [q], steps ++ [leadM p n rr l], rfl, rfl, upd_same, by rw [upd_ne n1]; exact sG _ _ gsD, by rw [upd_ne n3]; exact sG _ _ gtD, SqT.wr (sG.seqT htsD) gdG, ((hDD.mono sG).snoc hnew).wr gdG NL, (hTD.mono sG).wr gdG NL, HasA.wr gdG (hSD.mono sG), ?_, hL2, by simp [hlen], ?_, ?_, hW', fun z => absurd z (by lia), ?_⟩
          · rw [hμ, List.length_append, List.length_append, List.length_singleton, List.length_singleton, List.length_cons]
            lia
          · intro r hr
            rcases (List.mem_append.mp hr) with (h | h)
            · exact hRS r h
            · rw [List.mem_singleton.mp h]; exact hL1
          · intro st hst
            have hmono : ∀ st ∈ steps, Bw.Sp p (· ∈ (T' ++ [q]).map (RI p m g)) (fn st) := fun st hst => sp_sub (fun f hf => by rw [List.map_append]; exact List.mem_append_left _ hf) (hsub st hst)
            rcases (List.mem_append.mp hst) with (h | h)
            · exact hmono st h
            · rw [List.mem_singleton.mp h]
              exact hL3 _ hmono (.mem (by rw [List.map_append]; exact List.mem_append_right _ List.mem_cons_self))
          · intro j hj
            rcases (List.mem_append.mp hj) with (h | h)
            · exact (hsup j h).trans fun f hf => by
                obtain ⟨st, hst, rfl⟩ := hf
                exact .mem ⟨st, List.mem_append_left _ hst, rfl⟩
            · rw [List.mem_singleton.mp h]
              exact hL4
          · intro j hj
            rw [List.length_append, List.length_singleton]
            rcases (List.mem_append.mp hj) with (h | h)
            · have := hdl j (List.mem_cons_of_mem _ h)
              lia
            · rw [List.mem_singleton.mp h, Nat.add_div_right q hl]
              have := hdl q List.mem_cons_self
              lia
end
noncomputable def del (Pt : Addr) (H : Hp) : Hp := fun b => if b = Pt then none else H b
section
variable {K : W.Frag} {H H' : Hp} {Pt a b : Addr} {ps : Array Value} {xs : List V} {o : HO}
theorem del_ne (h : b ≠ Pt) : del Pt H b = H b := if_neg h
theorem of_del (e : del Pt H b = some o) : b ≠ Pt ∧ H b = some o := by
  by_cases hb : b = Pt
  · rw [del, if_pos hb] at e; cases e
  · exact ⟨hb, (del_ne hb).symm.trans e⟩
theorem SmT.same (h : SmT Pt H H') : Same (del Pt H) H' := fun b o e => h b o (of_del e).2 (of_del e).1
theorem Same.del (h : Same H H') : Same (del Pt H) (del Pt H') := fun b o e => by rw [del_ne (of_del e).1]; exact h b o (of_del e).2
theorem neTab (hP : H Pt = some (.tbl ps)) (e : H b = some o) (hn : ∀ ps, o ≠ .tbl ps) : b ≠ Pt := fun z => by
  rw [z, hP] at e
  exact hn _ (Option.some.inj e).symm
theorem get_del (hP : H Pt = some (.tbl ps)) (e : H b = some o) (hn : ∀ ps, o ≠ .tbl ps) : del Pt H b = some o := by rw [del_ne (neTab hP e hn)]; exact e
theorem SqT.del (hP : H Pt = some (.tbl ps)) (h : SqT K H a xs) : SqT K (del Pt H) a xs := by
  rcases h with (h | ⟨o, h⟩) | h
  · exact .inl (.inl (get_del hP h fun _ z => nomatch z))
  · exact .inl (.inr ⟨o, get_del hP h fun _ z => nomatch z⟩)
  · exact .inr h
theorem SqL.del (hP : H Pt = some (.tbl ps)) (h : SqL K H a xs) : SqL K (del Pt H) a xs := by
  rcases h with (h | ⟨o, h⟩) | h
  · exact .inl (.inl (get_del hP h fun _ z => nomatch z))
  · exact .inl (.inr ⟨o, get_del hP h fun _ z => nomatch z⟩)
  · exact .inr h
mutual
theorem HasD.del (hP : H Pt = some (.tbl ps)) : ∀ {v : V} {d : W.Dat}, HasD K H v d → HasD K (S7.del Pt H) v d
  | _, _, .none => .none
  | _, _, .bool b => .bool b
  | _, _, .int i => .int i
  | _, _, .str x => .str x
  | _, _, .tuple h r => .tuple (SqT.del hP h) (HasA.del hP r)
  | _, _, .list h r => .list (SqL.del hP h) (HasA.del hP r)
theorem HasA.del (hP : H Pt = some (.tbl ps)) : ∀ {vs : List V} {ds : List W.Dat}, HasA K H vs ds → HasA K (S7.del Pt H) vs ds
  | _, _, .nil => .nil
  | _, _, .cons h r => .cons (HasD.del hP h) (HasA.del hP r)
end
theorem MH.del {m : Mach} (hP : H Pt = some (.tbl ps)) (h : MH K H a m) : MH K (S7.del Pt H) a m := by
  obtain ⟨t, RS, h1, h2, h3⟩ := h
  exact ⟨t, RS, SqT.del hP h1, SqT.del hP h2, HasA.del hP h3⟩
end
theorem _root_.L2.LamT.tab {H : Hp} {Pt : Addr} {pos : Pos} {qual : Str} (h : LamT H Pt pos qual) : ∃ ps, H Pt = some (.tbl ps) := by
  rcases h with h | ⟨c, h, _⟩
  · exact ⟨_, h⟩
  · exact ⟨_, h⟩
theorem _root_.L2.LamT.mono {H H' : Hp} {Pt : Addr} {pos : Pos} {qual : Str} (h : LamT H Pt pos qual) (e : Same H H') : LamT H' Pt pos qual := by
  rcases h with h | ⟨c, h, h2⟩
  · exact .inl (e _ _ h)
  · exact .inr ⟨c, e _ _ h, e _ _ h2⟩
section
variable {p : Int} {m1 m2 m : Mach}
theorem gr_le (hp : p ∈ primesL) {L : List (List Int)} {n : Nat} (hL : Rws p n L) (hG : Gr p (L.map fn)) : L.length ≤ n := by
  have key : ∀ k, k ≤ L.length → (redM p (L.take k)).length = k := fun k => by
    induction k with
    | zero => intro _; rfl
    | succ k ih =>
      intro hk
      have hk' : k < L.length := by lia
      have hR : Rws p n (L.take k) := fun r hr => hL r (List.mem_of_mem_take hr)
      rw [List.take_succ_eq_append_getElem hk', red_more hp hR (hL _ (List.getElem_mem hk')) fun hn => ?_, ih (by lia)]
      refine hG k (fn L[k]) (by rw [List.getElem?_map, List.getElem?_eq_getElem hk']; rfl) ?_
      rw [← List.map_take]
      exact RS_mem.mp hn
  have h1 := key L.length (Nat.le_refl _)
  rw [List.take_length] at h1
  have h2 := red_len hp hL
  lia
theorem tk_le (hp : p ∈ primesL) (MO : MachOk p m) {g : List Int → List Int} {n : Nat} (hg : ∀ y, Rw p m.states y → Rw p n (g y)) (k : Nat) : (tk p (RI p m g) k).length ≤ n := by
  have p0 : 0 < p := by have := prime_pos p hp; lia
  have h := gr_le hp (L := (tk p (RI p m g) k).map fun j => g (leadsM p m j)) (n := n) (fun r hr => by
    obtain ⟨j, _, rfl⟩ := List.mem_map.mp hr
    exact hg _ (leads_Rw p0 MO j)) (by
    rw [List.map_map]
    exact take_gr _ _ fun k f h => by simp at h)
  rwa [List.length_map] at h
theorem idx_div {left t w : Nat} (hw : w < left) : (left * t + w) / left = t ∧ (left * t + w) % left = w := by
  have hl : 0 < left := by lia
  constructor
  · rw [Nat.mul_add_div hl, Nat.div_eq_of_lt hw, Nat.add_zero]
  · rw [Nat.mul_add_mod, Nat.mod_eq_of_lt hw]
end
end S7
namespace Bw
theorem fun_sp {p : Int} {R : Fn → Prop} {f : Fn} {c j : Nat} (h : ∀ r, R r → p ∣ dot f r c - r j) {v : Fn} (hv : Sp p R v) : p ∣ dot f v c - v j := by
  induction hv with
  | zero =>
    have : dot f (fun _ => 0) c = 0 := Sg_zero fun i _ => Int.mul_zero _
    rw [this]
    exact ⟨0, by simp⟩
  | @add v r k _ hr ih =>
    rw [dot_plus]
    obtain ⟨a, ha⟩ := ih
    obtain ⟨b, hb⟩ := h r hr
    exact ⟨a + k * b, by grind⟩
  | @cong u v _ e ih =>
    obtain ⟨a, ha⟩ := ih
    obtain ⟨b, hb⟩ := dot_cong (f := f) (m := c) e
    obtain ⟨d, hd⟩ := e j
    exact ⟨a - b + d, by grind⟩
theorem dot_first {p : Int} {u v f : Fn} : ∀ {n : Nat}, (∀ k, k < n → p ∣ u k - v k) → p ∣ dot u f n - dot v f n
  | 0, _ => ⟨0, by simp [dot, Sg]⟩
  | n + 1, h => by
    obtain ⟨a, ha⟩ := dot_first (f := f) (n := n) fun k hk => h k (by lia)
    obtain ⟨b, hb⟩ := h n (by lia)
    have e1 : dot u f (n + 1) = dot u f n + u n * f n := rfl
    have e2 : dot v f (n + 1) = dot v f n + v n * f n := rfl
    rw [e1, e2]
    exact ⟨a + b * f n, by grind⟩
theorem dot_one {f : Fn} {d : Fn} {i n : Nat} (hi : i < n) (h1 : d i = 1) (h0 : ∀ k, k < n → k ≠ i → d k = 0) : dot f d n = f i := by
  unfold dot
  rw [Sg_one hi, Sg_zero fun k hk => ?_, h1]
  · lia
  · by_cases e : k = i
    · rw [if_pos e]
    · rw [if_neg e, h0 k hk e, Int.mul_zero]
structure Block (p : Int) (c m : Nat) (L D : List (List Int)) : Prop where
  len : D.length = c
  unit : ∀ (i k : Nat) (d : List Int), D[i]? = some d → k < c → d.getD k 0 = if k = i then 1 else 0
  cols : ∀ j, c ≤ j → j < m → ∀ r ∈ L, p ∣ dot (fun i => (D.getD i []).getD j 0) (fn r) c - r.getD j 0
theorem block_red {p : Int} {c m : Nat} {L : List (List Int)} (hp : p ∈ primesL) (hL : Rws p m L) (hc : c ≤ m) (indep : ∀ f : Fn, (∀ r ∈ L, p ∣ dot f (fn r) c) → ∀ k, k < c → p ∣ f k)
    (span : ∀ j, c ≤ j → j < m → ∃ a : Fn, ∀ r ∈ L, p ∣ dot a (fn r) c - r.getD j 0) : Block p c m L (redM p L) := by
  have R := redM_ok hp hL
  obtain ⟨ls, E⟩ := R.ech
  have spanD : ∀ j, c ≤ j → j < m → ∃ a : Fn, (∀ r ∈ L, p ∣ dot a (fn r) c - r.getD j 0) ∧ ∀ d ∈ redM p L, p ∣ dot a (fn d) c - d.getD j 0 := fun j h1 h2 => by
    obtain ⟨a, ha⟩ := span j h1 h2
    exact ⟨a, ha, fun d hd => fun_sp (R := RS L) (fun r hr => by obtain ⟨q, hq, rfl⟩ := hr; exact ha q hq) (R.sub d hd)⟩
  have at_ : ∀ l ∈ ls, ∃ (i : Nat) (d : List Int), ls[i]? = some l ∧ (redM p L)[i]? = some d := fun l hl => by
    obtain ⟨i, hi⟩ := List.getElem?_of_mem hl
    have h2 : i < (redM p L).length := by rw [← E.len]; exact (List.getElem?_eq_some_iff.mp hi).1
    exact ⟨i, _, hi, List.getElem?_eq_getElem h2⟩
  have low : ∀ l ∈ ls, l < c := fun l hl => by
    apply Classical.byContradiction
    intro hn
    obtain ⟨i, d, hi, hd⟩ := at_ l hl
    obtain ⟨o1, o2⟩ := E.one i d l hd hi
    obtain ⟨a, _, ha⟩ := spanD l (by lia) (E.lt l hl)
    have h1 := ha d (List.mem_of_getElem? hd)
    have h2 : dot a (fn d) c = 0 := Sg_zero fun k hk => by
      show a k * d.getD k 0 = 0
      rw [o2 k (by lia), Int.mul_zero]
    rw [h2, o1] at h1
    exact not_dvd hp (by simpa using (Int.dvd_neg.mpr h1))
  have all : ∀ k, k < c → k ∈ ls := fun k hk => by
    apply Classical.byContradiction
    intro hn
    let f : Fn := fun l => if l = k then 1 else if l ∈ ls then -(eAt (eOf (redM p L) ls) l k) else 0
    have hf : ∀ d ∈ redM p L, p ∣ dot f (fn d) c := fun d hd => by
      obtain ⟨i, hi⟩ := List.getElem?_of_mem hd
      have h2 : i < ls.length := by rw [E.len]; exact (List.getElem?_eq_some_iff.mp hi).1
      have hl : ls[i]? = some ls[i] := List.getElem?_eq_getElem h2
      have hmem : ls[i] ∈ ls := List.getElem_mem h2
      obtain ⟨o1, _⟩ := E.one i d _ hi hl
      have hne : ls[i] ≠ k := fun z => hn (z ▸ hmem)
      have he : eAt (eOf (redM p L) ls) ls[i] k = d.getD k 0 := by
        unfold eAt
        rw [eOf_at E.up hi hl]
      have e : dot f (fn d) c = f ls[i] * fn d ls[i] + f k * fn d k := by
        unfold dot
        refine Sg_two (low _ hmem) hk hne fun l hl' h1 h2 => ?_
        show f l * d.getD l 0 = 0
        by_cases hm : l ∈ ls
        · obtain ⟨i', hi'⟩ := List.getElem?_of_mem hm
          have hii : i' ≠ i := fun z => by
            rw [z, hl] at hi'
            exact h1 (Option.some.inj hi').symm
          rw [E.alone i' i d l hii hi hi', Int.mul_zero]
        · have : f l = 0 := by
            show (if l = k then 1 else if l ∈ ls then _ else 0) = 0
            rw [if_neg h2, if_neg hm]
          rw [this, Int.zero_mul]
      have f1 : f ls[i] = -(d.getD k 0) := by
        show (if ls[i] = k then 1 else if ls[i] ∈ ls then -(eAt (eOf (redM p L) ls) ls[i] k) else 0) = _
        rw [if_neg hne, if_pos hmem, he]
      have f2 : f k = 1 := if_pos rfl
      have d1 : fn d ls[i] = 1 := o1
      have d2 : fn d k = d.getD k 0 := rfl
      rw [e, f1, f2, d1, d2]
      exact ⟨0, by lia⟩
    have h1 := indep f (fun r hr => dot_sp (R := RS (redM p L)) (fun q hq => by obtain ⟨d, hd, rfl⟩ := hq; exact hf d hd) (R.sup r hr)) k hk
    have f2 : f k = 1 := if_pos rfl
    rw [f2] at h1
    exact not_dvd hp h1
  have els : ls = List.range c := sorted_ext E.up List.pairwise_lt_range fun x => ⟨fun h => List.mem_range.mpr (low x h), fun h => all x (List.mem_range.mp h)⟩
  have hlen : (redM p L).length = c := by rw [← E.len, els, List.length_range]
  have lsi : ∀ i, i < c → ls[i]? = some i := fun i hi => by rw [els]; exact List.getElem?_range hi
  have unit : ∀ (i k : Nat) (d : List Int), (redM p L)[i]? = some d → k < c → d.getD k 0 = if k = i then 1 else 0 := fun i k d hd hk => by
    by_cases e : k = i
    · rw [if_pos e, e]
      exact (E.one i d i hd (lsi i (by lia))).1
    · rw [if_neg e]
      exact E.alone k i d k e hd (lsi k hk)
  refine ⟨hlen, unit, fun j h1 h2 r hr => ?_⟩
  obtain ⟨a, ha, had⟩ := spanD j h1 h2
  have key : p ∣ dot (fun i => ((redM p L).getD i []).getD j 0) (fn r) c - dot a (fn r) c := dot_first fun i hi => by
    have hd : (redM p L)[i]? = some ((redM p L)[i]'(by lia)) := List.getElem?_eq_getElem _
    have hg : (redM p L).getD i [] = (redM p L)[i]'(by lia) := by rw [List.getD_eq_getElem?_getD, hd]; rfl
    have h3 := had _ (List.mem_of_getElem? hd)
    rw [dot_one (d := fn ((redM p L)[i]'(by lia))) hi (by have := unit i i _ hd hi; rw [if_pos rfl] at this; exact this) (fun k hk hne => by have := unit i k _ hd hk; rw [if_neg hne] at this; exact this)] at h3
    show p ∣ ((redM p L).getD i []).getD j 0 - a i
    rw [hg]
    have := Int.dvd_neg.mpr h3
    rwa [Int.neg_sub] at this
  have := Int.dvd_add key (ha r hr)
  rwa [show ∀ x y z : Int, x - y + (y - z) = x - z from fun x y z => by lia] at this
end Bw
namespace S7
open Bw
noncomputable def hearM (p : Int) (m : Mach) : List (List Int) := redM p (kry p (flipA m.states (stA m)) (seeC m) m.states)
section
variable {p : Int} {m : Mach}
theorem kryM_Rws (p0 : 0 < p) (MO : MachOk p m) : Rws p m.states (kry p (flipA m.states (stA m)) (seeC m) m.states) := kry_Rws p0 (flip_len _) (seeC_Rws MO) _
theorem hear_Rws (hp : p ∈ primesL) (MO : MachOk p m) : Rws p m.states (hearM p m) := (redM_ok hp (kryM_Rws (by have := prime_pos p hp; lia) MO)).rws
theorem hear_len (hp : p ∈ primesL) (MO : MachOk p m) : (hearM p m).length ≤ m.states := red_len hp (kryM_Rws (by have := prime_pos p hp; lia) MO)
theorem hear_obs (hp : p ∈ primesL) (MO : MachOk p m) {d : Fn} : (∀ o ∈ hearM p m, p ∣ dot d (fn o) m.states) ↔ ∀ j, p ∣ obsF p m d j := by
  have p0 : 0 < p := by have := prime_pos p hp; lia
  have R := redM_ok hp (kryM_Rws p0 MO)
  constructor
  · intro h j
    have hk : ∀ o ∈ kry p (flipA m.states (stA m)) (seeC m) m.states, p ∣ dot d (fn o) m.states := fun o ho => dot_sp (R := RS (hearM p m)) (fun f hf => by obtain ⟨q, hq, rfl⟩ := hf; exact h q hq) (R.sup o ho)
    show p ∣ dot d (obsO p m j) m.states
    unfold obsO
    (rw [List.getD_eq_getElem?_getD])
    cases e : (levK p (flipA m.states (stA m)) (seeC m) (j / m.right))[j % m.right]? with
    | some o => exact unseen hp MO hk _ o (List.mem_of_getElem? e)
    | none =>
      refine ⟨0, ?_⟩
      rw [show dot d (fn (Option.getD none [])) m.states = 0 from Sg_zero fun i _ => by
        show d i * fn [] i = 0
        rw [fn_nil, Int.mul_zero]]
      simp
  · intro h o ho
    refine dot_sp (R := RS (kry p (flipA m.states (stA m)) (seeC m) m.states)) (fun f hf => ?_) (R.sub o ho)
    obtain ⟨q, hq, rfl⟩ := hf
    obtain ⟨t, _, hm⟩ := kry_mem.mp hq
    obtain ⟨r, hr, rfl⟩ := List.mem_iff_getElem.mp hm
    have hr' : r < m.right := by rw [see_len MO p0] at hr; exact hr
    have k := h (m.right * t + r)
    obtain ⟨e1, e2⟩ := idx_div (left := m.right) (t := t) hr'
    have e3 : obsO p m (m.right * t + r) = fn ((levK p (flipA m.states (stA m)) (seeC m) t)[r]) := by
      unfold obsO
      rw [e1, e2, List.getD_eq_getElem?_getD, List.getElem?_eq_getElem hr]
      rfl
    have k : p ∣ dot d (obsO p m (m.right * t + r)) m.states := k
    rw [e3] at k
    exact k
theorem look_at (hp : p ∈ primesL) (MO : MachOk p m) {x : List Int} (hx : x.length = m.states) {i : Nat} {o : List Int} (ho : (hearM p m)[i]? = some o) : p ∣ dot (fn x) (fn o) m.states - fn (apM p (hearM p m) x) i := by
  have h := ap_T (p := p) (A := hearM p m) (fun r hr => (hear_Rws hp MO r hr).1) hx i
  unfold apT at h
  rw [ho] at h
  rw [dot_comm]
  exact h
theorem sp_obs (MO : MachOk p m) (p0 : 0 < p) {S : List (List Int)} (hS : ∀ s ∈ S, s.length = m.states) {v : Fn} (h : Bw.Sp p (· ∈ S.map (zf p m)) v) : ∃ z, Bw.Sp p (RS S) z ∧ eqm p v (obsF p m z) := by
  induction h with
  | zero => exact ⟨_, .zero, fun j => ⟨0, by rw [obs_zero]; simp⟩⟩
  | @add v r c _ hr ih =>
    obtain ⟨z, hz, e⟩ := ih
    obtain ⟨s, hs, rfl⟩ := List.mem_map.mp hr
    refine ⟨_, .add c hz ⟨s, hs, rfl⟩, fun j => ?_⟩
    rw [obs_plus]
    obtain ⟨a, ha⟩ := e j
    obtain ⟨b, hb⟩ := zf_obs MO p0 (hS s hs) j
    exact ⟨a - c * b, by grind⟩
  | @cong u v _ e ih =>
    obtain ⟨z, hz, e'⟩ := ih
    exact ⟨z, hz, e.symm.trans e'⟩
theorem sp_look (hp : p ∈ primesL) (MO : MachOk p m) {S : List (List Int)} (hS : ∀ s ∈ S, s.length = m.states) {v : Fn} (h : Bw.Sp p (RS (S.map (apM p (hearM p m)))) v) : ∃ z, Bw.Sp p (RS S) z ∧ ∀ (i : Nat) (o : List Int), (hearM p m)[i]? = some o → p ∣ v i - dot z (fn o) m.states := by
  induction h with
  | zero => exact ⟨_, .zero, fun i o _ => ⟨0, by rw [show dot (fun _ => 0) (fn o) m.states = 0 from Sg_zero fun k _ => Int.zero_mul _]; simp⟩⟩
  | @add v r c _ hr ih =>
    obtain ⟨z, hz, e⟩ := ih
    obtain ⟨q, hq, rfl⟩ := hr
    obtain ⟨s, hs, rfl⟩ := List.mem_map.mp hq
    refine ⟨_, .add c hz ⟨s, hs, rfl⟩, fun i o ho => ?_⟩
    rw [dot_comm, dot_plus, dot_comm, dot_comm (f := fn o) (g := fn s)]
    obtain ⟨a, ha⟩ := e i o ho
    obtain ⟨b, hb⟩ := look_at hp MO (hS s hs) ho
    exact ⟨a - c * b, by grind⟩
  | @cong u v _ e ih =>
    obtain ⟨z, hz, e'⟩ := ih
    refine ⟨z, hz, fun i o ho => ?_⟩
    obtain ⟨a, ha⟩ := e' i o ho
    obtain ⟨b, hb⟩ := e i
    exact ⟨a - b, by grind⟩
theorem look_iff (hp : p ∈ primesL) (MO : MachOk p m) {S : List (List Int)} {x : List Int} (hS : ∀ s ∈ S, s.length = m.states) (hx : x.length = m.states) :
    Bw.Sp p (RS (S.map (apM p (hearM p m)))) (fn (apM p (hearM p m) x)) ↔ Bw.Sp p (· ∈ S.map (zf p m)) (zf p m x) := by
  have p0 : 0 < p := by have := prime_pos p hp; lia
  constructor
  · intro h
    obtain ⟨z, hz, e⟩ := sp_look hp MO hS h
    have hd := (hear_obs hp MO (d := fun i => fn x i + -1 * z i)).mp fun o ho => by
      obtain ⟨i, hi⟩ := List.getElem?_of_mem ho
      obtain ⟨a, ha⟩ := e i o hi
      obtain ⟨b, hb⟩ := look_at hp MO hx hi
      rw [dot_comm, dot_plus, dot_comm, dot_comm (f := fn o) (g := z)]
      exact ⟨a + b, by grind⟩
    refine .cong (Sp.map (T := obsF p m) (R' := (· ∈ S.map (zf p m))) (fun j => ⟨0, by rw [obs_zero]; simp⟩) (fun u v c j => by dsimp only; rw [obs_plus]; exact ⟨0, by lia⟩) (fun u v e => obs_cong e) (fun f hf => ?_) hz) fun j => ?_
    · obtain ⟨s, hs, rfl⟩ := hf
      exact .cong (.mem (List.mem_map_of_mem hs)) (zf_obs MO p0 (hS s hs)).symm
    · obtain ⟨a, ha⟩ := hd j
      obtain ⟨b, hb⟩ := zf_obs MO p0 hx j
      rw [obs_plus] at ha
      exact ⟨b - a, by grind⟩
  · intro h
    obtain ⟨z, hz, e⟩ := sp_obs MO p0 hS h
    have hd := (hear_obs hp MO (d := fun i => fn x i + -1 * z i)).mpr fun j => by
      obtain ⟨a, ha⟩ := e j
      obtain ⟨b, hb⟩ := zf_obs MO p0 hx j
      rw [obs_plus]
      exact ⟨a + b, by grind⟩
    have hA : ∀ r ∈ hearM p m, r.length = m.states := fun r hr => (hear_Rws hp MO r hr).1
    refine .cong (apT_sp (A := hearM p m) (n := m.states) (R' := RS (S.map (apM p (hearM p m)))) (fun f hf => ?_) hz) fun i => ?_
    · obtain ⟨s, hs, rfl⟩ := hf
      exact .cong (.mem ⟨_, List.mem_map_of_mem hs, rfl⟩) (ap_T hA (hS s hs)).symm
    · unfold apT
      cases ho : (hearM p m)[i]? with
      | none =>
        have : fn (apM p (hearM p m) x) i = 0 := by
          show (apM p (hearM p m) x).getD i 0 = 0
          unfold apM
          rw [List.getD_eq_getElem?_getD, List.getElem?_map, ho]; rfl
        rw [this]
        exact ⟨0, by simp⟩
      | some o =>
        obtain ⟨a, ha⟩ := hd o (List.mem_of_getElem? ho)
        obtain ⟨b, hb⟩ := look_at hp MO hx ho
        rw [dot_comm, dot_plus] at ha
        rw [dot_comm] at hb
        dsimp only
        exact ⟨b - a, by grind⟩
noncomputable def rj (p : Int) (m : Mach) (j : Nat) : Fn := respF p m (j % m.left, j / m.left)
theorem rj_zf (MO : MachOk p m) (j : Nat) : rj p m j = zf p m (leadsM p m j) := (zf_resp MO (j % m.left, j / m.left)).symm
noncomputable abbrev lookG (p : Int) (m : Mach) : List Int → List Int := fun y => apM p (hearM p m) y
theorem look_rj (hp : p ∈ primesL) (MO : MachOk p m) (d : List Nat) (j : Nat) : Bw.Sp p (· ∈ d.map (RI p m (lookG p m))) (RI p m (lookG p m) j) ↔ Bw.Sp p (· ∈ d.map (rj p m)) (rj p m j) := by
  have p0 : 0 < p := by have := prime_pos p hp; lia
  have h := look_iff hp MO (S := d.map (leadsM p m)) (x := leadsM p m j) (fun s hs => by obtain ⟨i, _, rfl⟩ := List.mem_map.mp hs; exact (leads_Rw p0 MO i).1) (leads_Rw p0 MO j).1
  rw [RS_mem, List.map_map, List.map_map, List.map_map] at h
  rw [rj_zf MO]
  have e : d.map (rj p m) = d.map (zf p m ∘ leadsM p m) := List.map_congr_left fun i _ => rj_zf MO i
  rw [e]
  exact h
theorem tk_same {R R' : Nat → Fn} (h : ∀ (d : List Nat) (j : Nat), Bw.Sp p (· ∈ d.map R) (R j) ↔ Bw.Sp p (· ∈ d.map R') (R' j)) : ∀ k, tk p R k = tk p R' k
  | 0 => rfl
  | k + 1 => by
    have ih := tk_same h k
    by_cases hd : Bw.Sp p (· ∈ (tk p R k).map R) (R k)
    · rw [tk_yes hd, ih, tk_yes (by rw [← ih]; exact (h _ _).mp hd)]
    · rw [tk_no hd, ih, tk_no (by rw [← ih]; exact fun z => hd ((h _ _).mpr z))]
theorem order_idx {left : Nat} (hl : 0 < left) : ∀ T, orderL left T = (List.range (left * T)).map fun i => (i % left, i / left)
  | 0 => rfl
  | T + 1 => by
    rw [order_succ, order_idx hl T, Nat.mul_add, Nat.mul_one, List.range_add, List.map_append, List.map_map]
    congr 1
    exact List.map_congr_left fun w hw => by
      obtain ⟨e1, e2⟩ := idx_div (t := T) (List.mem_range.mp hw)
      show (w, T) = ((left * T + w) % left, (left * T + w) / left)
      rw [e1, e2]
theorem taken_tk (hl : 0 < m.left) (T : Nat) : takenM p m T = (tk p (rj p m) (m.left * T)).map fun i => (i % m.left, i / m.left) := by
  unfold takenM tk
  rw [order_idx hl]
  exact take_map (R := respF p m) (fun i => (i % m.left, i / m.left)) (List.range (m.left * T)) []
theorem rj_shift (MO : MachOk p m) : Shifts p (rj p m) m.left := fun d i h => by
  by_cases hl : 0 < m.left
  · have e : ∀ j, rj p m (j + m.left) = respF p m (j % m.left, j / m.left + 1) := fun j => by
      unfold rj
      rw [Nat.add_mod_right, Nat.add_div_right j hl]
    by_cases hr : 0 < m.right
    · have e2 : ∀ j, rj p m (j + m.left) = fun i => rj p m j (i + m.right) := fun j => by
        rw [e j]
        funext i
        exact resp_shift _ _ _ hr
      rw [e2 i]
      refine Sp.map (T := fun u i => u (i + m.right)) (fun j => ⟨0, by simp⟩) (fun u v c j => ⟨0, by simp⟩) (fun u v e j => e (j + m.right)) (fun f hf => ?_) h
      obtain ⟨j, hj, rfl⟩ := List.mem_map.mp hf
      refine .mem (List.mem_map.mpr ⟨j + m.left, List.mem_map.mpr ⟨j, hj, rfl⟩, ?_⟩)
      exact e2 j
    · refine Bw.Sp.zero.of_eq fun j => ?_
      rw [e i]
      exact (resp_none MO (by lia) _ j).symm
  · have h0 : m.left = 0 := by lia
    rw [h0]
    simpa using h
theorem look_shift (hp : p ∈ primesL) (MO : MachOk p m) : Shifts p (RI p m (lookG p m)) m.left := fun d i h => (look_rj hp MO _ _).mpr (rj_shift MO d i ((look_rj hp MO _ _).mp h))
theorem taken_is (hp : p ∈ primesL) (MO : MachOk p m) {T : List Nat} (h1 : 0 < m.left → ∃ k, ∀ n, tk p (RI p m (lookG p m)) (k + n) = T) (h0 : m.left = 0 → T = []) : T.map (fun i => (i % m.left, i / m.left)) = takenM p m m.states := by
  by_cases hl : 0 < m.left
  · obtain ⟨k, hk⟩ := h1 hl
    rw [← taken_more hp MO k, taken_tk hl]
    have hge : k ≤ m.left * (m.states + k) := by
      have := Nat.mul_le_mul_right (m.states + k) hl
      lia
    have e := hk (m.left * (m.states + k) - k)
    rw [show k + (m.left * (m.states + k) - k) = m.left * (m.states + k) by lia, tk_same (look_rj hp MO)] at e
    rw [e]
  · have z : m.left = 0 := by lia
    rw [h0 z]
    have e : orderL m.left m.states = [] := List.eq_nil_iff_forall_not_mem.mpr fun q hq => by
      have := order_mem.mp hq
      lia
    unfold takenM
    rw [e]
    rfl
theorem dot_sum {u : Nat → Fn} {x f : Fn} {n : Nat} : ∀ c, dot (fun i => Sg (fun k => x k * u k i) c) f n = Sg (fun k => x k * dot (u k) f n) c
  | 0 => Sg_zero fun i _ => Int.zero_mul _
  | c + 1 => by
    have e : (fun i => Sg (fun k => x k * u k i) (c + 1)) = fun i => (fun i => Sg (fun k => x k * u k i) c) i + x c * u c i := rfl
    rw [e, dot_comm, dot_plus, dot_comm, dot_sum c, dot_comm (f := f) (g := u c)]
    rfl
theorem lin_look (hp : p ∈ primesL) (MO : MachOk p m) {s : Nat → List Int} (hs : ∀ k, (s k).length = m.states) {x : Fn} {c : Nat} {y : List Int} (hy : y.length = m.states)
    (h : ∀ i, i < (hearM p m).length → p ∣ Sg (fun k => x k * fn (apM p (hearM p m) (s k)) i) c - fn (apM p (hearM p m) y) i) : eqm p (fun j => Sg (fun k => x k * zf p m (s k) j) c) (zf p m y) := by
  have p0 : 0 < p := by have := prime_pos p hp; lia
  have sub : ∀ {a b : Nat → Int}, (∀ k, p ∣ a k - b k) → p ∣ Sg (fun k => x k * a k) c - Sg (fun k => x k * b k) c := fun {a b} hab => dot_congN (f := x) (u := a) (v := b) fun k _ => hab k
  have hd := (hear_obs hp MO (d := fun i => (fun i => Sg (fun k => x k * fn (s k) i) c) i + -1 * fn y i)).mp fun o ho => by
    obtain ⟨i, hi⟩ := List.getElem?_of_mem ho
    have hil := (List.getElem?_eq_some_iff.mp hi).1
    obtain ⟨a, ha⟩ := h i hil
    obtain ⟨b, hb⟩ := look_at hp MO hy hi
    obtain ⟨d, hd⟩ := sub (a := fun k => dot (fn (s k)) (fn o) m.states) (b := fun k => fn (apM p (hearM p m) (s k)) i) fun k => look_at hp MO (hs k) hi
    rw [dot_comm, dot_plus, dot_comm, dot_sum, dot_comm (f := fn o) (g := fn y)]
    exact ⟨a + d - b, by grind⟩
  intro j
  obtain ⟨a, ha⟩ := hd j
  rw [obs_plus] at ha
  have e : obsF p m (fun i => Sg (fun k => x k * fn (s k) i) c) j = Sg (fun k => x k * obsF p m (fn (s k)) j) c := dot_sum c
  rw [e] at ha
  obtain ⟨b, hb⟩ := zf_obs MO p0 hy j
  obtain ⟨d, hd'⟩ := sub (a := fun k => obsF p m (fn (s k)) j) (b := fun k => zf p m (s k) j) fun k => zf_obs MO p0 (hs k) j
  exact ⟨a - d + b, by grind⟩
end
noncomputable def idxJ (m : Mach) (T : List Nat) : List Nat := T ++ (List.range m.left ++ T.map (· + m.left))
noncomputable def lookRows (p : Int) (m : Mach) (J : List Nat) : List (List Int) := (List.range (hearM p m).length).map fun i => J.map fun j => (lookG p m (leadsM p m j)).getD i 0
noncomputable def ansL (p : Int) (m : Mach) (T : List Nat) : List (List Int) := (m.rows.take m.right).map fun r => r.take m.left ++ apM p (T.map (leadsM p m)) (r.drop m.left)
noncomputable def onL (p : Int) (m : Mach) (T : List Nat) : List (List Int) := (redM p (lookRows p m (idxJ m T))).map (List.drop T.length)
noncomputable def leastM (p : Int) (m : Mach) (T : List Nat) : Mach := ⟨m.left, T.length, m.right, ansL p m T ++ onL p m T⟩
theorem pdot_comm : ∀ (x y : List Int), pdot x y = pdot y x
  | [], y => by cases y <;> simp [pdot]
  | _ :: _, [] => by simp [pdot]
  | a :: x, b :: y => by rw [pdot_cons, pdot_cons, pdot_comm x y, Int.mul_comm]
theorem at_of {T : List Nat} {k : Nat} (h : k < T.length) : T[k]? = some (T.getD k 0) := by
  rw [List.getElem?_eq_getElem h, List.getD_eq_getElem?_getD (i := k), List.getElem?_eq_getElem h]; rfl
section
variable {p : Int} {m : Mach} {T : List Nat}
theorem idx_len : (idxJ m T).length = T.length + (m.left + T.length) := by simp [idxJ]
theorem idx_T {k : Nat} (h : k < T.length) : (idxJ m T)[k]? = some (T.getD k 0) := by
  unfold idxJ
  rw [List.getElem?_append_left h]
  exact at_of h
theorem idx_w {w : Nat} (h : w < m.left) : (idxJ m T)[T.length + w]? = some w := by
  unfold idxJ
  rw [List.getElem?_append_right (by lia), Nat.add_sub_cancel_left, List.getElem?_append_left (by simpa using h)]
  exact List.getElem?_range h
theorem idx_n {k : Nat} (h : k < T.length) : (idxJ m T)[T.length + (m.left + k)]? = some (T.getD k 0 + m.left) := by
  unfold idxJ
  rw [List.getElem?_append_right (by lia), Nat.add_sub_cancel_left, List.getElem?_append_right (by simp), List.length_range, Nat.add_sub_cancel_left, List.getElem?_map, at_of h]
  rfl
theorem look_row {i : Nat} {J : List Nat} (hi : i < (hearM p m).length) : (J.map fun j => (lookG p m (leadsM p m j)).getD i 0) ∈ lookRows p m J := List.mem_map.mpr ⟨i, List.mem_range.mpr hi, rfl⟩
theorem row_at {J : List Nat} {i k j : Nat} (h : J[k]? = some j) : (J.map fun j => (lookG p m (leadsM p m j)).getD i 0).getD k 0 = fn (lookG p m (leadsM p m j)) i := by
  rw [List.getD_eq_getElem?_getD, List.getElem?_map, h]; rfl
theorem look_Rws (p0 : 0 < p) {J : List Nat} : Rws p J.length (lookRows p m J) := fun r hr => by
  obtain ⟨i, _, rfl⟩ := List.mem_map.mp hr
  refine ⟨by simp, fun x hx => ?_⟩
  obtain ⟨j, _, rfl⟩ := List.mem_map.mp hx
  exact (ap_Rw p0 _).at p0 i
structure TakenOk (p : Int) (m : Mach) (T : List Nat) : Prop where
  some : 0 < m.left → ∃ k, ∀ n, tk p (RI p m (lookG p m)) (k + n) = T
  none : m.left = 0 → T = []
theorem TakenOk.gr (h : TakenOk p m T) : Gr p (T.map (RI p m (lookG p m))) := by
  by_cases hl : 0 < m.left
  · obtain ⟨k, hk⟩ := h.some hl
    have e := hk 0
    rw [← e]
    exact take_gr _ _ fun k f h => by simp at h
  · rw [h.none (by lia)]
    exact fun k f h => by simp at h
theorem TakenOk.all (h : TakenOk p m T) (hl : 0 < m.left) (j : Nat) : Bw.Sp p (· ∈ T.map (RI p m (lookG p m))) (RI p m (lookG p m) j) := by
  obtain ⟨k, hk⟩ := h.some hl
  rw [← hk (j + 1)]
  exact tk_in (by lia)
theorem made_block (hp : p ∈ primesL) (MO : MachOk p m) (h : TakenOk p m T) : Block p T.length (T.length + (m.left + T.length)) (lookRows p m (idxJ m T)) (redM p (lookRows p m (idxJ m T))) := by
  have p0 : 0 < p := by have := prime_pos p hp; lia
  have hR := look_Rws (m := m) p0 (J := idxJ m T)
  rw [idx_len] at hR
  have lookl : ∀ j, (lookG p m (leadsM p m j)).length = (hearM p m).length := fun j => by simp [lookG, apM]
  refine block_red hp hR (by lia) (fun f hf k hk => ?_) fun j h1 h2 => ?_
  · refine gr_free hp h.gr f T.length (by simp) (fun i => ?_) k hk
    have e : Sg (fun k => f k * (T.map (RI p m (lookG p m))).getD k (fun _ => 0) i) T.length = Sg (fun k => f k * fn (lookG p m (leadsM p m (T.getD k 0))) i) T.length := Sg_congr fun k hk => by
      rw [List.getD_eq_getElem?_getD, List.getElem?_map, at_of hk]; rfl
    rw [e]
    by_cases hi : i < (hearM p m).length
    · have h2 := hf _ (look_row (J := idxJ m T) hi)
      unfold dot at h2
      rw [Sg_congr fun k hk => by
        show f k * List.getD _ k 0 = _
        rw [row_at (idx_T hk)]] at h2
      exact h2
    · rw [Sg_zero fun k _ => by rw [fn_out (by rw [lookl]; lia), Int.mul_zero]]
      exact ⟨0, by simp⟩
  · have hl : 0 < m.left := by
      apply Nat.pos_of_ne_zero
      intro z
      have := h.none z
      rw [this, z] at h2
      simp at h2
    have hJ : j < (idxJ m T).length := by rw [idx_len]; exact h2
    have hj : (idxJ m T)[j]? = some ((idxJ m T).getD j 0) := at_of hJ
    have hs : Bw.Sp p (RS (T.map fun j => lookG p m (leadsM p m j))) (RI p m (lookG p m) ((idxJ m T).getD j 0)) := by
      refine RS_mem.mpr ?_
      rw [List.map_map]
      exact h.all hl _
    obtain ⟨f, hf⟩ := sp_factors hs
    refine ⟨f, fun r hr => ?_⟩
    obtain ⟨i, hi, rfl⟩ := List.mem_map.mp hr
    rw [row_at hj]
    have h3 := hf i
    rw [List.length_map] at h3
    unfold dot at h3 ⊢
    rw [Sg_congr fun k hk => by
      show f k * List.getD _ k 0 = f k * col (T.map fun j => lookG p m (leadsM p m j)) i k
      rw [row_at (idx_T hk), col_at (q := lookG p m (leadsM p m (T.getD k 0))) (by rw [List.getElem?_map, at_of hk]; rfl)]
      rfl]
    exact h3
theorem red_row {D : List (List Int)} {k : Nat} (h : k < D.length) : D[k]? = some (D.getD k []) := by
  rw [List.getElem?_eq_getElem h, List.getD_eq_getElem?_getD (i := k), List.getElem?_eq_getElem h]; rfl
theorem leastM_ok (hp : p ∈ primesL) (MO : MachOk p m) (h : TakenOk p m T) : MachOk p (leastM p m T) := by
  have p0 : 0 < p := by have := prime_pos p hp; lia
  have B := made_block hp MO h
  have hR := look_Rws (m := m) p0 (J := idxJ m T)
  rw [idx_len] at hR
  have RO := redM_ok hp hR
  have L := MO.len
  refine ⟨?_, fun r hr => ?_⟩
  · show (ansL p m T ++ onL p m T).length = m.right + T.length
    unfold ansL onL
    rw [List.length_append, List.length_map, List.length_map, B.len, List.length_take]
    lia
  · show Rw p (m.left + T.length) r
    rcases (List.mem_append.mp (show r ∈ ansL p m T ++ onL p m T from hr)) with hr | hr
    · obtain ⟨q, hq, rfl⟩ := List.mem_map.mp hr
      have hQ := MO.rws q (List.mem_of_mem_take hq)
      have hA := ap_Rw (A := T.map (leadsM p m)) p0 (q.drop m.left)
      refine ⟨by rw [List.length_append, List.length_take, hQ.1, hA.1, List.length_map]; lia, fun x hx => ?_⟩
      rcases (List.mem_append.mp hx) with hx | hx
      · exact hQ.2 x (List.mem_of_mem_take hx)
      · exact hA.2 x hx
    · obtain ⟨d, hd, rfl⟩ := List.mem_map.mp hr
      have hD := RO.rws d hd
      exact ⟨by rw [List.length_drop, hD.1]; lia, fun x hx => hD.2 x (List.mem_of_mem_drop hx)⟩
theorem least_ok (hp : p ∈ primesL) (MO : MachOk p m) (h : TakenOk p m T) : LeastOk p m (leastM p m T) := by
  have p0 : 0 < p := by have := prime_pos p hp; lia
  have B := made_block hp MO h
  have okL := leastM_ok hp MO h
  have eT := taken_is hp MO h.some h.none
  have L := MO.len
  have lr : (m.rows.take m.right).length = m.right := by rw [List.length_take]; lia
  have lA : (ansL p m T).length = m.right := by unfold ansL; rw [List.length_map, lr]
  have lO : (onL p m T).length = T.length := by unfold onL; rw [List.length_map, B.len]
  have outTake : ∀ c, c < m.left + T.length → (outM p (leastM p m T) (unitM (m.left + T.length) c)).take m.right = (ansL p m T).map fun r => r.getD c 0 := fun c hc => by
    have e := col_out (L := leastM p m T) okL p0 (c := c) hc
    have e : outM p (leastM p m T) (unitM (m.left + T.length) c) = (ansL p m T ++ onL p m T).map fun r => r.getD c 0 := e
    rw [e, ← List.map_take, List.take_append_of_le_length (by lia), List.take_of_length_le (by lia)]
  have outDrop : ∀ c, c < m.left + T.length → (outM p (leastM p m T) (unitM (m.left + T.length) c)).drop m.right = (onL p m T).map fun r => r.getD c 0 := fun c hc => by
    have e := col_out (L := leastM p m T) okL p0 (c := c) hc
    have e : outM p (leastM p m T) (unitM (m.left + T.length) c) = (ansL p m T ++ onL p m T).map fun r => r.getD c 0 := e
    rw [e, ← List.map_drop, List.drop_append_of_le_length (by lia), List.drop_of_length_le (by lia), List.nil_append]
  have onAt : ∀ c k, k < T.length → fn ((onL p m T).map fun r => r.getD c 0) k = ((redM p (lookRows p m (idxJ m T))).getD k []).getD (T.length + c) 0 := fun c k hk => by
    show ((onL p m T).map fun r => r.getD c 0).getD k 0 = _
    unfold onL
    rw [List.getD_eq_getElem?_getD, List.getElem?_map, List.getElem?_map, red_row (by rw [B.len]; exact hk)]
    show (List.drop T.length ((redM p (lookRows p m (idxJ m T))).getD k [])).getD c 0 = _
    rw [List.getD_eq_getElem?_getD, List.getElem?_drop, ← List.getD_eq_getElem?_getD]
  have getQ : ∀ k q, (takenM p m m.states)[k]? = some q → k < T.length ∧ q = ((T.getD k 0) % m.left, (T.getD k 0) / m.left) := fun k q hq => by
    rw [← eT, List.getElem?_map] at hq
    have hk : k < T.length := by
      apply Classical.byContradiction
      intro hn
      rw [List.getElem?_eq_none (by lia)] at hq
      cases hq
    rw [at_of hk] at hq
    exact ⟨hk, (Option.some.inj hq).symm⟩
  have lead_len : ∀ j, (leadsM p m j).length = m.states := fun j => (leads_Rw p0 MO j).1
  have lin : ∀ c j, c < m.left + T.length → (idxJ m T)[T.length + c]? = some j → eqm p (linF p m (takenM p m m.states) (fn ((outM p (leastM p m T) (unitM (m.left + T.length) c)).drop m.right)) T.length) (rj p m j) := fun c j hc hj => by
    rw [outDrop c hc, rj_zf MO]
    have hll := lin_look hp MO (s := fun k => leadsM p m (T.getD k 0)) (fun k => lead_len _) (x := fn ((onL p m T).map fun r => r.getD c 0)) (c := T.length) (y := leadsM p m j) (lead_len j) (fun i hi => by
      have h2 := B.cols (T.length + c) (by lia) (by lia) _ (look_row (J := idxJ m T) hi)
      rw [row_at hj] at h2
      unfold dot at h2
      rw [Sg_congr fun k hk => by
        show ((redM p (lookRows p m (idxJ m T))).getD k []).getD (T.length + c) 0 * List.getD _ k 0 = fn ((onL p m T).map fun r => r.getD c 0) k * fn (apM p (hearM p m) (leadsM p m (T.getD k 0))) i
        rw [row_at (idx_T hk), onAt c k hk]] at h2
      exact h2)
    have e : linF p m (takenM p m m.states) (fn ((onL p m T).map fun r => r.getD c 0)) T.length = fun j => Sg (fun k => fn ((onL p m T).map fun r => r.getD c 0) k * zf p m (leadsM p m (T.getD k 0)) j) T.length := by
      funext j
      unfold linF
      refine Sg_congr fun k hk => ?_
      rw [← eT, List.map_map, List.getD_eq_getElem?_getD, List.getElem?_map, at_of hk, ← rj_zf MO]
      rfl
    rw [e]
    exact hll
  refine least_made hp MO okL rfl rfl (by rw [← eT, List.length_map]; rfl) (fun w hw => ?_) (fun k q hq => ?_) (fun w hw => ?_) fun k q hq => ?_
  · show (outM p (leastM p m T) (unitM (m.left + T.length) w)).take m.right = ansM p m w 0
    rw [outTake w (by lia)]
    unfold ansL
    rw [List.map_map]
    show _ = (outM p m (unitM m.left w ++ List.replicate m.states 0)).take m.right
    rw [unit_left hw, col_out MO p0 (by lia), ← List.map_take]
    exact List.map_congr_left fun r hr => by
      have hQ := MO.rws r (List.mem_of_mem_take hr)
      show (r.take m.left ++ _).getD w 0 = r.getD w 0
      rw [List.getD_eq_getElem?_getD, List.getElem?_append_left (by rw [List.length_take, hQ.1]; lia), List.getElem?_take_of_lt hw, ← List.getD_eq_getElem?_getD]
  · obtain ⟨hk, rfl⟩ := getQ k q hq
    show (outM p (leastM p m T) (unitM (m.left + T.length) (m.left + k))).take m.right = _
    rw [outTake _ (by lia), ans_see MO]
    unfold ansL apM seeC
    (rw [List.map_map, List.map_map])
    exact List.map_congr_left fun r hr => by
      have hQ := MO.rws r (List.mem_of_mem_take hr)
      show (r.take m.left ++ ((T.map (leadsM p m)).map fun t => pdot t (r.drop m.left) % p)).getD (m.left + k) 0 = pdot (r.drop m.left) (leadsM p m (T.getD k 0)) % p
      have hl : (r.take m.left).length = m.left := by rw [List.length_take, hQ.1]; lia
      rw [List.getD_eq_getElem?_getD, List.getElem?_append_right (by lia), hl, Nat.add_sub_cancel_left, List.getElem?_map, List.getElem?_map, at_of hk]
      show pdot (leadsM p m (T.getD k 0)) (r.drop m.left) % p = _
      rw [pdot_comm]
  · have e := lin w w (by lia) (idx_w hw)
    have e2 : rj p m w = respF p m (w, 0) := by
      unfold rj
      rw [Nat.mod_eq_of_lt hw, Nat.div_eq_of_lt hw]
    rw [e2] at e
    exact e
  · obtain ⟨hk, rfl⟩ := getQ k q hq
    have e := lin (m.left + k) (T.getD k 0 + m.left) (by lia) (idx_n hk)
    have hl : 0 < m.left := by
      apply Nat.pos_of_ne_zero
      intro z
      rw [h.none z] at hk
      simp at hk
    have e2 : rj p m (T.getD k 0 + m.left) = respF p m (T.getD k 0 % m.left, T.getD k 0 / m.left + 1) := by
      unfold rj
      rw [Nat.add_mod_right, Nat.add_div_right _ hl]
    rw [e2] at e
    exact e
end
end S7
namespace S7
open PySem L2 Bw
noncomputable def lamPos (e : Expr) : Pos := match e with
  | .Lambda _ _ _ q => q
  | _ => ⟨0, 0, 0, 0⟩
noncomputable def lamArgs (e : Expr) : Arguments := match e with
  | .Lambda a _ _ _ => a
  | _ => { posonlyargs := [], args := [], vararg := none, kwonlyargs := [], kw_defaults := [], kwarg := none, defaults := [] }
noncomputable def lamScope (e : Expr) : Scope := match e with
  | .Lambda _ _ s _ => s
  | _ => { kind := .function, names := [], isGenerator := false, isCoroutine := false }
theorem nwy : (["way"] : List Str).Nodup := by decide +kernel
theorem nco0 : (["place", "rows"] : List Str).Nodup := by decide +kernel
theorem nco1 : (["row", "place"] : List Str).Nodup := by decide +kernel
theorem nfo0 : (["row", "p", "some"] : List Str).Nodup := by decide +kernel
theorem nfo1 : (["states", "p", "some", "still"] : List Str).Nodup := by decide +kernel
theorem nhe0 : (["row", "some"] : List Str).Nodup := by decide +kernel
theorem nhe1 : (["row", "p", "some", "states"] : List Str).Nodup := by decide +kernel
theorem nle1 : (["states", "heard", "p"] : List Str).Nodup := by decide +kernel
theorem nle2 : (["row", "count"] : List Str).Nodup := by decide +kernel
theorem nle3 : (["row", "left", "p", "taken"] : List Str).Nodup := by decide +kernel
theorem colS_pdot {j : Nat} : ∀ (A : List (List Int)) (v : List Int), colS (A.zip v) j = pdot (A.map fun r => r.getD j 0) v
  | [], v => by simp [colS, pdot]
  | _ :: _, [] => by simp [colS, pdot]
  | r :: A, a :: v => by rw [List.zip_cons_cons, colS_cons, colS_pdot A v, List.map_cons, pdot_cons]
theorem sum_flip {p : Int} {n : Nat} {A : List (List Int)} {v : List Int} (hA : ∀ r ∈ A, r.length = n) : sumM p (A.zip v) (List.replicate n 0) = apM p (flipA n A) v := by
  rw [sumM_zero _ fun q hq => hA q.1 (List.of_mem_zip hq).1]
  unfold apM flipA
  rw [List.map_map]
  exact List.map_congr_left fun j _ => by
    show colS (A.zip v) j % p = pdot (A.map fun r => r.getD j 0) v % p
    rw [colS_pdot]
theorem lev_len {p : Int} {A L0 : List (List Int)} : ∀ t, (levK p A L0 t).length = L0.length
  | 0 => rfl
  | t + 1 => by rw [levK, List.length_map, lev_len t]
theorem kry_len {p : Int} {A L0 : List (List Int)} : ∀ t, (kry p A L0 t).length = t * L0.length
  | 0 => by simp [kry]
  | t + 1 => by rw [kry, List.length_append, kry_len t, lev_len, Nat.add_mul, Nat.one_mul]
section
variable {P : Program} {w : World} {K : W.Frag} {mg : Str → Option Value} {base : Heap}
inductive AskCols (K : W.Frag) (vs : List V) (H : Hp) (Q : L2.VK) (E : L2.XK) : Prop where
  | mk (a : Addr) (RS : List V) (rs : List (List Int)) (h : Nat) (i : Int) (q0_ : vs = [.ref a, .int i]) (q1_ : i = h) (q2_ : SqL K H a RS) (q3_ : HasA K H RS (rs.map intsT)) (q4_ : rs.length ≤ 1000) (q5_ : h ≤ 1000) (q6_ : (∀ r ∈ rs, r.length = h)) (q7_ : ∀ t H' DS, Same H H' → SqT K H' t DS → HasA K H' DS (((List.range h).map fun i => rs.map fun r => r.getD i 0).map intsT) → Q (.ref t) H') : AskCols K vs H Q E
noncomputable def spCols (K : W.Frag) : Sp := fun vs H Q E => AskCols K vs H Q E
theorem scCo : FnScope ["rows", "length"] ["rows", "length"] (defScope sCols) := ⟨rfl, rfl, rfl, by decide +kernel, rfl, by decide +kernel, by decide +kernel⟩
theorem ok_cols {f : Addr} {fd : FuncData} (F : Fun K "columns" "columns" sCols f fd) (T : Txt mg) : FnOk P w K mg base CX0 1 f fd ["rows", "length"] (spCols K) := by
  refine F.ok scCo (fun vs H Q E h => ?_) (fun cdv A outer s H vs Q E hr h => ?_)
  · obtain ⟨a, RS, rs, h, i, rfl, _⟩ := h
    rfl
  · obtain ⟨a, RS, rs, hh, i, rfl, rfl, hq, hA, hz, hn, hl, k⟩ := h
    have z1000 : (1000 : Nat) ≤ sizeLine := by decide
    have eR := lenA hA
    refine ⟨_, pss_one (ps_ret (pe_callTy (cTuple K rfl) rfl T.tuple bt_tuple (pa_cons (pe_comp (N := ["place", "rows"]) (own := 1) (caps := [0]) rfl (pi_range1 rfl T.range (pa_cons (pv 1) pa_nil)) (show BlkScope ["rows", "length"] (defScope sCols) ["place", "rows"] 1 [0] _ from .mk' (by decide +kernel)) (fun _ _ _ _ _ => pg_name (i := 0) nco0 rfl (Or.inr rfl)) (fun _ _ _ _ _ => pts_nil) (fun _ _ _ _ _ => pe_callTy (cTuple K rfl) rfl T.tuple bt_tuple (pa_cons (pe_comp (N := ["row", "place"]) (own := 1) (caps := [0]) rfl (piList K rfl (pv 1)) (show BlkScope ["place", "rows"] _ ["row", "place"] 1 [0] _ from .mk' (by kernel_rfl)) (fun _ _ _ _ _ => pg_name (i := 0) nco1 rfl (Or.inl rfl)) (fun _ _ _ _ _ => pts_nil) (fun _ _ _ _ _ => pe_ix (ixT K rfl) (pv 0) (pv 1) (fun _ _ => rfl))) pa_nil))) pa_nil))), ?_⟩
    refine ⟨_, rfl, (hh : Int), rfl, by lia, by lia, comp_rng (n := hh) (lo := 0) (cp := [some (.ref a)]) (fun i H' zs => HasA K H' zs (((List.range i).map fun i => rs.map fun r => r.getD i 0).map intsT)) (by lia) .nil (fun i H' zs h => by rw [lenA h, List.length_map, List.length_range]; exact Nat.le_refl _) ?_ ?_⟩
    · rintro i H1 zs hi sm h
      rw [Int.zero_add]
      refine tgo ⟨_, rfl, a, rfl, ⟨_, sm.seq hq⟩, comp_list (xs := RS) (cp := [some (.int (i : Int))]) (fun k H' zs => zs = ((rs.map fun r => r.getD i 0).take k).map V.int) (sm.seq hq) (by lia) rfl (fun k H' zs e => by rw [e, List.length_map]; exact List.length_take_le _ _) ?_ ?_⟩
      · rintro k' v H2 zs2 hv sm2 rfl
        obtain ⟨r, ra, hri, rfl, hra⟩ := rowAt hA hv
        have hrl := hl r (List.mem_of_getElem? hri)
        refine tgo ⟨_, rfl, _, rfl, ra, _, (i : Int), _, rfl, rfl, (sm.trans sm2).seqT hra, atI_nat (atRow (by rw [hrl]; exact hi)), ⟨[_], rfl, rfl⟩, sm2, ?_⟩
        rw [List.take_add_one, List.getElem?_map, hri, List.map_append]
        rfl
      · rintro H2 zs2 sm2 rfl lq hlq
        rw [List.take_of_length_le (by rw [List.length_map, eR]; exact Nat.le_refl _)]
        refine ⟨lq, _, rfl, .inl ⟨.of upd_same, fun t ht => ?_⟩⟩
        have smm := sm2.trans ((Same.upd hlq (o := .lst ((rs.map fun r => r.getD i 0).map V.int))).trans (Same.upd ht (o := .tup ((rs.map fun r => r.getD i 0).map V.int))))
        refine ⟨⟨[_], rfl, rfl⟩, sm.trans smm, ?_⟩
        rw [List.range_succ, List.map_append, List.map_append]
        exact (h.mono smm).append (.cons (hasT_of (.of upd_same)) .nil)
    · rintro H1 zs sm h lq hlq
      exact ⟨lq, _, rfl, .inl ⟨.of upd_same, fun t ht => k t _ zs ((sm.trans (.upd hlq)).trans (.upd ht)) (.of upd_same) (h.mono ((Same.upd hlq).trans (.upd ht)))⟩⟩
inductive AskFollow (K : W.Frag) (vs : List V) (H : Hp) (Q : L2.VK) (E : L2.XK) : Prop where
  | mk (p : Int) (a b : Addr) (m : Mach) (TS : List V) (T : List Nat) (q0_ : vs = [.int p, .ref a, .ref b]) (q1_ : p ∈ primesL) (q2_ : MH K H a m) (q3_ : MachOk p m) (q4_ : m.left ≤ 100) (q5_ : m.states ≤ 100) (q6_ : m.right ≤ 100) (q7_ : SqL K H b TS) (q8_ : HasA K H TS ((T.map (leadsM p m)).map intsT)) (q9_ : T.length ≤ 100) (q10_ : (m.left = 0 → T = [])) (q11_ : ∀ l LS H', Same H H' → H' l = some (.lst LS) → HasA K H' LS (((List.range m.left ++ T.map (· + m.left)).map (leadsM p m)).map intsT) → Q (.ref l) H') : AskFollow K vs H Q E
noncomputable def spFollow (K : W.Frag) : Sp := fun vs H Q E => AskFollow K vs H Q E
noncomputable abbrev nFo : List Str := ["p", "some", "taken", "still", "begun"]
theorem scFo : FnScope ["p", "some", "taken", "still", "begun"] ["p", "some", "taken"] (defScope sFollow) := ⟨rfl, rfl, rfl, by decide +kernel, rfl, by decide +kernel, by decide +kernel⟩
theorem ok_follow {f fO fT : Addr} {fd fdO fdT : FuncData} (F : Fun K "followers" "followers" sFollow f fd)
    (GO : FnOk P w K mg base CX0 1 fO fdO ["count"] (spOnes K)) (kO : Kp K fO) (bO : Binds K fdO ["count"] []) (mO : mg "ones" = some (.ref fO))
    (GT : FnOk P w K mg base CX0 2 fT fdT ["p", "some", "row", "states"] (spTick K)) (kT : Kp K fT) (bT : Binds K fdT ["p", "some", "row", "states"] []) (mT : mg "ticked" = some (.ref fT)) :
    FnOk P w K mg base CX0 3 f fd ["p", "some", "taken"] (spFollow K) := by
  refine F.ok scFo (fun vs H Q E h => ?_) (fun cdv A outer s H vs Q E hr h => ?_)
  · obtain ⟨p, a, b, m, TS, T, rfl, _⟩ := h
    rfl
  · obtain ⟨p, a, b, m, TS, T, rfl, pp, hm, MO, lb, sb, rb, hq, hA, hTl, h0, k⟩ := h
    obtain ⟨p2, p97⟩ := prime_pos p pp
    have p0 : 0 < p := by lia
    have hr1 : Room 1 _ := hr.mono (by decide)
    have z1000 : (1000 : Nat) ≤ sizeLine := by decide
    refine ⟨_, pss_cons (ps_set (i := 3) scFo.nd rfl (Or.inr rfl) (pe_op (opRepT K rfl) (pe_tup (pa_cons pe_int pa_nil)) (pe_ix (ixT K rfl) (pv 1) pe_int (fun _ _ => rfl)))) (pss_cons (ps_setComp (i := 4) (N := ["row", "p", "some"]) (own := 1) (caps := [0, 1]) rfl scFo.nd rfl rfl (piList K rfl (pe_call GO hr1 rfl mO kO bO .nil pass0 (pa_cons (pe_ix (ixT K rfl) (pv 1) pe_int (fun _ _ => rfl)) pa_nil))) (show BlkScope nFo (defScope sFollow) ["row", "p", "some"] 1 [0, 1] _ from .mk' (by decide +kernel)) (fun _ _ _ _ _ => pg_name (i := 0) nfo0 rfl (Or.inl rfl)) (fun _ _ _ _ _ => pts_nil) (fun _ _ _ _ _ => pe_ix (ixT K rfl) (pe_call GT hr rfl mT kT bT .nil pass0 (pa_cons (pv 1) (pa_cons (pv 2) (pa_cons (pv 0) (pa_cons (pe_op (opRepT K rfl) (pe_tup (pa_cons pe_int pa_nil)) (pe_ix (ixT K rfl) (pv 2) pe_int (fun _ _ => rfl))) pa_nil))))) pe_int (fun _ _ => rfl))) (pss_one (ps_ret (pe_op op_cat (pv 4) (pe_comp (N := ["states", "p", "some", "still"]) (own := 1) (caps := [0, 1, 3]) rfl (piList K rfl (pv 2)) (show BlkScope nFo (defScope sFollow) ["states", "p", "some", "still"] 1 [0, 1, 3] _ from .mk' (by decide +kernel)) (fun _ _ _ _ _ => pg_name (i := 0) nfo1 rfl (Or.inl rfl)) (fun _ _ _ _ _ => pts_nil) (fun _ _ _ _ _ => pe_ix (ixT K rfl) (pe_call GT hr rfl mT kT bT .nil pass0 (pa_cons (pv 1) (pa_cons (pv 2) (pa_cons (pv 3) (pa_cons (pv 0) pa_nil))))) pe_int (fun _ _ => rfl))))))), ?_⟩
    have hm' := hm
    obtain ⟨u, RS', h1, h2, h3⟩ := hm
    refine ⟨by decide, fun t1 g1 => ⟨_, rfl, a, _, 0, _, rfl, rfl, (Same.upd g1).seqT h1, atI_nat (j := 0) rfl, t1, (m.left : Int), _, rfl, rfl, .of upd_same, by simp, by lia, by lia, (by show 1 * ((m.left : Nat) : Int).toNat ≤ sizeLine; lia), fun ts H2 s2 hts => ?_⟩⟩
    rw [Int.toNat_natCast, flatR] at hts
    have sH2 : Same H H2 := (Same.upd g1).trans s2
    clear g1 s2
    refine ⟨_, rfl, a, _, 0, _, rfl, rfl, sH2.seqT h1, atI_nat (j := 0) rfl, m.left, _, rfl, rfl, by lia, fun lo LS H3 s3 glo hLS => ⟨lo, rfl, ⟨_, .of glo⟩, ?_⟩⟩
    have sH3 := sH2.trans s3
    have eL := lenA hLS
    have eU : (unitsM m.left).length = m.left := by simp [unitsM]
    refine comp_list (xs := LS) (cp := [some (.int p), some (.ref a)]) (fun i H' zs => HasA K H' zs (((List.range i).map (leadsM p m)).map intsT)) (.of glo) (by lia) .nil (fun i H' zs h => by rw [lenA h, List.length_map, List.length_range]; exact Nat.le_refl _) ?_ ?_
    · rintro i v H4 zs hv sm h
      obtain ⟨ur, ua, hui, rfl, hua⟩ := rowAt hLS hv
      have hi : i < m.left := by rw [← eU]; exact (List.getElem?_eq_some_iff.mp hui).1
      have hur : ur = unitM m.left i := by
        unfold unitsM at hui
        rw [List.getElem?_map, List.getElem?_range hi] at hui
        exact (Option.some.inj hui).symm
      subst hur
      refine tgo ⟨_, rfl, _, rfl, _, rfl, by decide, fun t1 g2 => ⟨_, rfl, a, _, 1, _, rfl, rfl, (sH3.trans (sm.trans (.upd g2))).seqT h1, atI_nat (j := 1) rfl, t1, (m.states : Int), _, rfl, rfl, .of upd_same, by simp, by lia, by lia, (by show 1 * ((m.states : Nat) : Int).toNat ≤ sizeLine; lia), fun tz Hz sz htz => ?_⟩⟩
      rw [Int.toNat_natCast, flatR] at htz
      have smz : Same H4 Hz := (Same.upd g2).trans sz
      refine ⟨p, a, ua, tz, m, unitM m.left i, List.replicate m.states 0, rfl, p2, p97, hm'.mono (sH3.trans (sm.trans smz)), MO, lb, sb, rb, (sm.trans smz).seqT hua, htz, unit_len hi, by simp, fun v' b1 b2 H7 s7 hv' hb1 hb2 => ?_⟩
      refine ⟨v', _, 1, .ref b2, rfl, rfl, hv', atI_nat (j := 1) rfl, ⟨[_], rfl, rfl⟩, sm.trans (smz.trans s7), ?_⟩
      rw [List.range_succ, List.map_append, List.map_append]
      refine (h.mono (smz.trans s7)).append (.cons (hasT_of ?_) .nil)
      rw [leads_first hi]
      exact hb2
    rintro H4 BS sm4 hBS lb' hlb
    rw [eL, eU] at hBS
    have hBS := hBS.mono (Same.upd hlb (o := .lst BS))
    have s5 : Same H3 (upd H4 lb' (.lst BS)) := sm4.trans (.upd hlb)
    have g5 : (upd H4 lb' (.lst BS)) lb' = some (.lst BS) := upd_same
    generalize upd H4 lb' (.lst BS) = H5 at hBS s5 g5 ⊢
    clear sm4 hlb
    have sH5 := sH3.trans s5
    have hts5 := (s3.trans s5).seqT hts
    have eT := lenA hA
    rw [List.length_map] at eT
    have eB := lenA hBS
    rw [List.length_map, List.length_range] at eB
    refine ⟨_, rfl, _, rfl, b, rfl, ⟨_, sH5.seq hq⟩, comp_list (xs := TS) (cp := [some (.int p), some (.ref a), some (.ref ts)]) (fun i H' zs => HasA K H' zs ((((T.map (· + m.left)).take i).map (leadsM p m)).map intsT)) (sH5.seq hq) (by lia) .nil (fun i H' zs h => by rw [lenA h, List.length_map]; exact List.length_take_le _ _) ?_ ?_⟩
    · rintro i v H6 zs hv sm h
      obtain ⟨y, ya, hyi, rfl, hya⟩ := rowAt hA hv
      rw [List.getElem?_map] at hyi
      cases hj : T[i]? with
      | none => rw [hj] at hyi; cases hyi
      | some j =>
        rw [hj] at hyi
        have ey : y = leadsM p m j := (Option.some.inj hyi).symm
        subst ey
        have hl : 0 < m.left := by
          apply Nat.pos_of_ne_zero
          intro z
          rw [h0 z] at hj
          simp at hj
        refine tgo ⟨_, rfl, _, rfl, _, rfl, _, rfl, p, a, ts, ya, m, List.replicate m.left 0, leadsM p m j, rfl, p2, p97, hm'.mono (sH5.trans sm), MO, lb, sb, rb, sm.seqT hts5, (sH5.trans sm).seqT hya, by simp, (leads_Rw p0 MO j).1, fun v' b1 b2 H7 s7 hv' hb1 hb2 => ?_⟩
        refine ⟨v', _, 1, .ref b2, rfl, rfl, hv', atI_nat (j := 1) rfl, ⟨[_], rfl, rfl⟩, sm.trans s7, ?_⟩
        rw [List.take_add_one, List.getElem?_map, hj]
        show HasA K H7 _ ((((T.map (· + m.left)).take i ++ [j + m.left]).map (leadsM p m)).map intsT)
        rw [List.map_append, List.map_append]
        refine (h.mono s7).append (.cons (hasT_of ?_) .nil)
        rw [leads_next hl]
        exact hb2
    rintro H6 NS sm6 hNS ln hln
    rw [List.take_of_length_le (by rw [List.length_map]; lia)] at hNS
    have eN := lenA hNS
    rw [List.length_map, List.length_map] at eN
    refine ⟨lb', ln, _, _, rfl, rfl, (sm6.trans (.upd hln)) _ _ g5, upd_same, by lia, fun lr hlr => ?_⟩
    refine k lr _ _ (sH5.trans ((sm6.trans (.upd hln)).trans (.upd hlr))) upd_same ?_
    rw [List.map_append, List.map_append]
    exact (hBS.mono ((sm6.trans (.upd hln)).trans (.upd hlr))).append (hNS.mono ((Same.upd hln).trans (.upd hlr)))
inductive AskHear (K : W.Frag) (vs : List V) (H : Hp) (Q : L2.VK) (E : L2.XK) : Prop where
  | mk (p : Int) (a : Addr) (m : Mach) (q0_ : vs = [.int p, .ref a]) (q1_ : p ∈ primesL) (q2_ : MH K H a m) (q3_ : MachOk p m) (q4_ : m.left ≤ 12) (q5_ : m.right ≤ 12) (q6_ : m.states ≤ 13) (q7_ : ∀ t DS H', Same H H' → SqT K H' t DS → HasA K H' DS ((hearM p m).map intsT) → Q (.ref t) H') : AskHear K vs H Q E
noncomputable def spHear (K : W.Frag) : Sp := fun vs H Q E => AskHear K vs H Q E
noncomputable abbrev nHe : List Str := ["p", "some", "states", "answers", "rows", "tick"]
theorem scHe : FnScope ["p", "some", "states", "answers", "rows", "tick"] ["p", "some"] (defScope sHearing) := ⟨rfl, rfl, rfl, by decide +kernel, rfl, by decide +kernel, by decide +kernel⟩
theorem ok_hear {f fS fD : Addr} {fd fdS fdD : FuncData} (F : Fun K "hearing" "hearing" sHearing f fd) (T : Txt mg)
    (GS : FnOk P w K mg base CX0 1 fS fdS ["p", "rows", "factors", "length"] (spSummed K)) (kS : Kp K fS) (bS : Binds K fdS ["p", "rows", "factors", "length"] []) (mS : mg "summed" = some (.ref fS))
    (GD : FnOk P w K mg base CX0 3 fD fdD ["p", "rows"] (spReduced K)) (kD : Kp K fD) (bD : Binds K fdD ["p", "rows"] []) (mD : mg "reduced" = some (.ref fD)) :
    FnOk P w K mg base CX0 4 f fd ["p", "some"] (spHear K) := by
  refine F.ok scHe (fun vs H Q E h => ?_) (fun cdv A outer s H vs Q E hr h => ?_)
  · obtain ⟨p, a, m, rfl, _⟩ := h
    rfl
  · obtain ⟨p, a, m, rfl, pp, ⟨u, RS', h1, h2, h3⟩, MO, lb, rb, sb, k⟩ := h
    obtain ⟨p2, p97⟩ := prime_pos p pp
    have p0 : 0 < p := by lia
    have hr1 : Room 1 _ := hr.mono (by decide)
    have z1000 : (1000 : Nat) ≤ sizeLine := by decide
    refine ⟨_, pss_cons (ps_set (i := 2) scHe.nd rfl (Or.inr rfl) (pe_comp (N := ["row", "some"]) (own := 1) (caps := [1]) rfl (piTup K rfl (pe_slice (slA K rfl) (pe_ix (ixT K rfl) (pv 1) pe_int (fun _ _ => rfl)) (po_some (pe_ix (ixT K rfl) (pv 1) pe_int (fun _ _ => rfl))) po_none)) (show BlkScope nHe (defScope sHearing) ["row", "some"] 1 [1] _ from .mk' (by decide +kernel)) (fun _ _ _ _ _ => pg_name (i := 0) nhe0 rfl (Or.inl rfl)) (fun _ _ _ _ _ => pts_nil) (fun _ _ _ _ _ => pe_slice (slA K rfl) (pv 0) (po_some (pe_ix (ixT K rfl) (pv 1) pe_int (fun _ _ => rfl))) po_none))) (pss_cons (ps_setComp (i := 3) (N := ["row", "some"]) (own := 1) (caps := [1]) rfl scHe.nd rfl rfl (piTup K rfl (pe_slice (slA K rfl) (pe_ix (ixT K rfl) (pv 1) pe_int (fun _ _ => rfl)) po_none (po_some (pe_ix (ixT K rfl) (pv 1) pe_int (fun _ _ => rfl))))) (show BlkScope nHe (defScope sHearing) ["row", "some"] 1 [1] _ from .mk' (by decide +kernel)) (fun _ _ _ _ _ => pg_name (i := 0) nhe0 rfl (Or.inl rfl)) (fun _ _ _ _ _ => pts_nil) (fun _ _ _ _ _ => pe_slice (slA K rfl) (pv 0) (po_some (pe_ix (ixT K rfl) (pv 1) pe_int (fun _ _ => rfl))) po_none)) (pss_cons (ps_set (i := 4) scHe.nd rfl (Or.inl rfl) (pe_lst pa_nil)) (pss_cons (ps_for PassesOwn.never rfl (pi_range1 rfl T.range (pa_cons (pe_ix (ixT K rfl) (pv 1) pe_int (fun _ _ => rfl)) pa_nil)) (pg_name (i := 5) scHe.nd rfl (Or.inl rfl)) (pss_cons (ps_set (i := 4) scHe.nd rfl (Or.inl rfl) (pe_op op_cat (pv 4) (pv 3))) (pss_one (ps_setComp (i := 3) (N := ["row", "p", "some", "states"]) (own := 1) (caps := [0, 1, 2]) rfl scHe.nd rfl rfl (piList K rfl (pv 3)) (show BlkScope nHe (defScope sHearing) ["row", "p", "some", "states"] 1 [0, 1, 2] _ from .mk' (by decide +kernel)) (fun _ _ _ _ _ => pg_name (i := 0) nhe1 rfl (Or.inl rfl)) (fun _ _ _ _ _ => pts_nil) (fun _ _ _ _ _ => pe_call GS hr1 rfl mS kS bS .nil pass0 (pa_cons (pv 1) (pa_cons (pv 3) (pa_cons (pv 0) (pa_cons (pe_ix (ixT K rfl) (pv 2) pe_int (fun _ _ => rfl)) pa_nil))))))))) (pss_one (ps_ret (pe_call GD hr rfl mD kD bD .nil pass0 (pa_cons (pv 0) (pa_cons (pv 4) pa_nil)))))))), ?_⟩
    have L := MO.len
    have eR := lenA h3
    refine ⟨_, rfl, a, _, 3, .ref u, rfl, rfl, h1, atI_nat (j := 3) rfl, _, rfl, a, _, 2, _, rfl, rfl, h1, atI_nat (j := 2) rfl, _, rfl, u, _, rfl, h2, fun t1 H1 s1 ht1 => ⟨t1, rfl, ⟨_, ht1⟩, ?_⟩⟩
    rw [cutV_lo (by lia)] at ht1
    have hD1 := HasA.cutD m.right (h3.mono s1)
    have eD1 : (RS'.drop m.right).length = m.states := by rw [lenA hD1, List.length_drop]; lia
    refine comp_tup (xs := RS'.drop m.right) (cp := [some (.ref a)]) (fun i H' zs => HasA K H' zs (((stA m).take i).map intsT)) ht1 (by lia) .nil (fun i H' zs h => by rw [lenA h]; exact List.length_take_le _ _) ?_ ?_
    · rintro i v H2 zs hv sm h
      obtain ⟨r, ra, hri, rfl, hra⟩ := rowAt hD1 hv
      have hrl := (MO.rws r (List.mem_of_mem_drop (List.mem_of_getElem? hri))).1
      refine tgo ⟨_, rfl, _, rfl, a, _, 0, _, rfl, rfl, (s1.trans sm).seqT h1, atI_nat (j := 0) rfl, _, rfl, ra, _, rfl, sm.seqT hra, fun t2 H3 s3 ht2 => ?_⟩
      rw [cutI_lo (by lia)] at ht2
      refine ⟨⟨[_], rfl, rfl⟩, sm.trans s3, ?_⟩
      have e : (stA m)[i]? = some (r.drop m.left) := by unfold stA; rw [List.getElem?_map, hri]; rfl
      rw [List.take_add_one, e]
      show HasA K H3 _ (((stA m).take i ++ [_]).map intsT)
      rw [List.map_append]
      exact (h.mono s3).append (.cons (hasT_of ht2) .nil)
    rintro H2 SS sm2 hSS ls hls
    have lst : (stA m).length = m.states := stA_len MO
    rw [List.take_of_length_le (by rw [eD1]; lia)] at hSS
    have hSS := hSS.mono (Same.upd hls (o := .lst SS))
    have sA : Same H (upd H2 ls (.lst SS)) := s1.trans (sm2.trans (.upd hls))
    have gS : (upd H2 ls (.lst SS)) ls = some (.lst SS) := upd_same
    generalize upd H2 ls (.lst SS) = HA at hSS sA gS ⊢
    clear sm2 hls
    refine ⟨_, rfl, a, _, 3, .ref u, rfl, rfl, sA.seqT h1, atI_nat (j := 3) rfl, _, rfl, a, _, 2, _, rfl, rfl, sA.seqT h1, atI_nat (j := 2) rfl, _, rfl, u, _, rfl, sA.seqT h2, fun t3 H3 s3 ht3 => ⟨t3, rfl, ⟨_, ht3⟩, ?_⟩⟩
    rw [cutV_hi (by lia)] at ht3
    have hT3 := HasA.cutT m.right (h3.mono (sA.trans s3))
    have eT3 : (RS'.take m.right).length = m.right := by rw [lenA hT3, List.length_take]; lia
    refine comp_tup (xs := RS'.take m.right) (cp := [some (.ref a)]) (fun i H' zs => HasA K H' zs (((seeC m).take i).map intsT)) ht3 (by lia) .nil (fun i H' zs h => by rw [lenA h]; exact List.length_take_le _ _) ?_ ?_
    · rintro i v H4 zs hv sm h
      obtain ⟨r, ra, hri, rfl, hra⟩ := rowAt hT3 hv
      have hrl := (MO.rws r (List.mem_of_mem_take (List.mem_of_getElem? hri))).1
      refine tgo ⟨_, rfl, _, rfl, a, _, 0, _, rfl, rfl, ((sA.trans s3).trans sm).seqT h1, atI_nat (j := 0) rfl, _, rfl, ra, _, rfl, sm.seqT hra, fun t2 H5 s5 ht2 => ?_⟩
      rw [cutI_lo (by lia)] at ht2
      refine ⟨⟨[_], rfl, rfl⟩, sm.trans s5, ?_⟩
      have e : (seeC m)[i]? = some (r.drop m.left) := by unfold seeC; rw [List.getElem?_map, hri]; rfl
      rw [List.take_add_one, e]
      show HasA K H5 _ (((seeC m).take i ++ [_]).map intsT)
      rw [List.map_append]
      exact (h.mono s5).append (.cons (hasT_of ht2) .nil)
    rintro H4 CS sm4 hCS lc hlc
    have lsee : (seeC m).length = m.right := seeC_len MO
    rw [List.take_of_length_le (by rw [eT3]; lia)] at hCS
    have hCS := hCS.mono (Same.upd hlc (o := .lst CS))
    have sB : Same HA (upd H4 lc (.lst CS)) := s3.trans (sm4.trans (.upd hlc))
    have gC : (upd H4 lc (.lst CS)) lc = some (.lst CS) := upd_same
    generalize upd H4 lc (.lst CS) = HB at hCS sB gC ⊢
    clear sm4 hlc
    refine ⟨by decide, fun lr hlr => ?_⟩
    have sC : Same HB (upd HB lr (.lst [])) := .upd hlr
    have gR : (upd HB lr (.lst [])) lr = some (.lst []) := upd_same
    generalize upd HB lr (.lst []) = HC at sC gR ⊢
    have sHC := sA.trans (sB.trans sC)
    refine ⟨_, rfl, a, _, 1, _, rfl, rfl, sHC.seqT h1, atI_nat (j := 1) rfl, (m.states : Int), rfl, by lia, by lia, for_range (n := m.states) (fun i σ H' => All2 (Same HC H') (Ex5 fun (la lb' : Addr) (s5 : Option V) (AS BS : List V) => All5 (σ = [some (.int p), some (.ref a), some (.ref ls), some (.ref la), some (.ref lb'), s5]) (H' la = some (.lst AS)) (HasA K H' AS ((levK p (flipA m.states (stA m)) (seeC m) i).map intsT)) (H' lb' = some (.lst BS)) (HasA K H' BS ((kry p (flipA m.states (stA m)) (seeC m) i).map intsT)))) ⟨.refl _, lc, lr, none, CS, [], rfl, sC _ _ gC, hCS.mono sC, gR, .nil⟩ ?_ ?_⟩
    · rintro i σ H5 hi ⟨sm, la, lb', s5, AS, BS, rfl, ga, hAS, gb, hBS⟩
      have hlev := lev_Rws p0 (flip_len (n := m.states) (stA m)) (seeC_Rws MO) i
      have eA := lenA hAS
      have eB := lenA hBS
      rw [lev_len, lsee] at eA
      rw [kry_len, lsee] at eB
      have hmul : i * m.right ≤ 13 * 12 := Nat.mul_le_mul (by lia) rb
      refine ⟨_, rfl, _, rfl, lb', la, _, _, rfl, rfl, gb, ga, by lia, fun lq hlq => ?_⟩
      have s6 : Same H5 (upd H5 lq (.lst (BS ++ AS))) := .upd hlq
      have g6 : (upd H5 lq (.lst (BS ++ AS))) lq = some (.lst (BS ++ AS)) := upd_same
      generalize upd H5 lq (.lst (BS ++ AS)) = H6 at s6 g6 ⊢
      refine ⟨_, rfl, la, rfl, ⟨_, .of (s6 _ _ ga)⟩, comp_list (xs := AS) (cp := [some (.int p), some (.ref a), some (.ref ls)]) (fun k H' zs => HasA K H' zs (((levK p (flipA m.states (stA m)) (seeC m) (i + 1)).take k).map intsT)) (.of (s6 _ _ ga)) (by lia) .nil (fun k H' zs h => by rw [lenA h]; exact List.length_take_le _ _) ?_ ?_⟩
      · rintro k' v H7 zs hv sm7 h
        obtain ⟨r, ra, hri, rfl, hra⟩ := rowAt hAS hv
        have hRr := hlev r (List.mem_of_getElem? hri)
        have sAll := (sHC.trans sm).trans (s6.trans sm7)
        have gls := (((sB.trans sC).trans sm).trans (s6.trans sm7)) _ _ gS
        have hSSm := hSS.mono (((sB.trans sC).trans sm).trans (s6.trans sm7))
        refine tgo ⟨_, rfl, _, rfl, _, rfl, _, rfl, a, _, 1, _, rfl, rfl, sAll.seqT h1, atI_nat (j := 1) rfl, p, (m.states : Int), ls, ra, true, false, SS, stA m, r, rfl, p2, p97, by lia, by lia, .of gls, hSSm, (s6.trans sm7).sq (b := false) hra, by rw [lst, hRr.1], by lia, fun q hq => by rw [stA_rows MO q hq]; rfl, hRr.2, fun t H8 s8 ht => ?_⟩
        refine ⟨⟨[_], rfl, rfl⟩, sm7.trans s8, ?_⟩
        have e : (levK p (flipA m.states (stA m)) (seeC m) (i + 1))[k']? = some (apM p (flipA m.states (stA m)) r) := by rw [levK, List.getElem?_map, hri]; rfl
        rw [List.take_add_one, e]
        show HasA K H8 _ (((levK p (flipA m.states (stA m)) (seeC m) (i + 1)).take k' ++ [_]).map intsT)
        rw [List.map_append]
        refine (h.mono s8).append (.cons (hasT_of ?_) .nil)
        rw [Int.toNat_natCast, sum_flip (stA_rows MO)] at ht
        exact ht
      · rintro H7 zs sm7 h lz hlz
        have el1 : (levK p (flipA m.states (stA m)) (seeC m) (i + 1)).length = AS.length := by rw [lev_len, lsee, eA]
        rw [List.take_of_length_le (by lia)] at h
        have s8 := sm7.trans (Same.upd hlz (o := .lst zs))
        refine ⟨sm.trans (s6.trans s8), lz, lq, _, zs, BS ++ AS, rfl, upd_same, h.mono (.upd hlz), s8 _ _ g6, ?_⟩
        rw [kry, List.map_append]
        exact (hBS.mono (s6.trans s8)).append (hAS.mono (s6.trans s8))
    · rintro σ H5 ⟨sm, la, lb', s5, AS, BS, rfl, ga, hAS, gb, hBS⟩
      have eB := lenA hBS
      rw [kry_len, lsee] at eB
      have hmul : m.states * m.right ≤ 13 * 12 := Nat.mul_le_mul sb rb
      refine ⟨_, rfl, _, rfl, p, lb', true, BS, _, m.states, rfl, pp, .of gb, hBS, by rw [kry_len, lsee]; lia, by lia, kryM_Rws p0 MO, fun t H6 DS s6 ht hDS => ?_⟩
      exact k t DS H6 (sHC.trans (sm.trans s6)) ht hDS
end
noncomputable def lamInC (st : Stmt) (i : Nat) : Expr := match (defBody st).getD i (.Pass ⟨0, 0, 0, 0⟩) with
  | .Assign _ (.ListComp _ (g :: _) _ _) _ => (match g.iter with
    | .Call _ [_, _, e] _ _ => e
    | _ => .Constant .none 0 ⟨0, 0, 0, 0⟩)
  | _ => .Constant .none 0 ⟨0, 0, 0, 0⟩
noncomputable abbrev lamLE : Expr := lamInC sLeast 2
noncomputable abbrev qLE : Str := "least" ++ ".<locals>." ++ "<lambda>"
noncomputable def cellAt (L : Nat) (x : Str) : Addr := ((cellsFrom (L + 1) (defScope sLeast).names []).lookup x).getD 0
noncomputable abbrev clLE (L : Nat) : List (Str × Addr) := [("p", cellAt L "p"), ("heard", cellAt L "heard")]
theorem clos_le {L f : Addr} {cdv : Value} : closureFor (lamScope lamLE) (PyProof.Rows.envOfC "least" (defScope sLeast) L f cdv) = pure (clLE L) := rfl
theorem cell_at {L : Nat} {x : Str} (h : (defScope sLeast).names.lookup x = some .cell) : (cellsFrom (L + 1) (defScope sLeast).names []).lookup x = some (cellAt L x) := by
  obtain ⟨c, hc⟩ := cell_has (n := L + 1) h
  unfold cellAt
  rw [hc]; rfl
theorem cl_only {L : Nat} {y : Str} {c : Addr} (h : (clLE L).lookup y = some c) : y ∈ (["heard", "p"] : List Str) := by
  rcases (List.mem_cons.mp (PySem.mem_of_lookup h)) with e | e
  · cases e; exact List.mem_cons_of_mem _ List.mem_cons_self
  · rcases (List.mem_cons.mp e) with e | e
    · cases e; exact List.mem_cons_self
    · cases e
theorem cl_env {L : Nat} {y : Str} {c : Addr} (h : (clLE L).lookup y = some c) : (cellsFrom (L + 1) (defScope sLeast).names []).lookup y = some c := by
  have hy := cl_only h
  rcases (List.mem_cons.mp hy) with rfl | hy
  · rw [cell_at rfl]; exact h
  · rw [List.mem_singleton.mp hy] at h ⊢
    rw [cell_at rfl]; exact h
theorem lsLE {L : Nat} (hinj : ∀ y z c, (cellsFrom (L + 1) (defScope sLeast).names []).lookup y = some c → (cellsFrom (L + 1) (defScope sLeast).names []).lookup z = some c → y = z) : LamScope "states" ["heard", "p"] (lamScope lamLE) (lamArgs lamLE) (clLE L) := by
  have fr : ∀ y ∈ (["heard", "p"] : List Str), (lamScope lamLE).names.lookup y = some .free := by decide +kernel
  have only : ∀ z ∈ (lamScope lamLE).names, z.2 = .free → z.1 ∈ (["heard", "p"] : List Str) := by decide +kernel
  refine ⟨rfl, rfl, rfl, by decide +kernel, rfl, fr, fun y hy => ?_, fun y z c h1 h2 => hinj y z c (cl_env h1) (cl_env h2), fun y c h => cl_only h⟩
  have hm := only _ (PySem.mem_of_lookup hy) rfl
  rcases (List.mem_cons.mp hm) with e | hm
  · have e : y = "heard" := e
    exact ⟨_, by rw [e]; rfl⟩
  · have e : y = "p" := List.mem_singleton.mp hm
    exact ⟨_, by rw [e]; rfl⟩
section
variable {P : Program} {w : World} {K : W.Frag} {mg : Str → Option Value} {base : Heap}
inductive AskLeastP (K : W.Frag) (Pt : Addr) (vs : List V) (H : Hp) (Q : L2.VK) (E : L2.XK) : Prop where
  | mk (p : Int) (a : Addr) (m : Mach) (q0_ : vs = [.int p, .ref a]) (q1_ : p ∈ primesL) (q2_ : MH K H a m) (q3_ : MachOk p m) (q4_ : m.left ≤ 12) (q5_ : m.right ≤ 12) (q6_ : m.states ≤ 13) (q7_ : LamT H Pt (lamPos lamLE) qLE) (q8_ : ∀ v L H', LeastOk p m L → Same (del Pt H) H' → LamT H' Pt (lamPos lamLE) qLE → MH K H' v L → Q (.ref v) H') : AskLeastP K Pt vs H Q E
noncomputable def spLeastP (K : W.Frag) (Pt : Addr) : Sp := fun vs H Q E => AskLeastP K Pt vs H Q E
noncomputable abbrev nLe : List Str := ["p", "some", "left", "taken", "count", "looks", "onward", "answers", "heard"]
theorem scLst : FnScope ["p", "some", "left", "taken", "count", "looks", "onward", "answers", "heard"] ["p", "some"] (defScope sLeast) := ⟨rfl, rfl, rfl, by decide +kernel, rfl, by decide +kernel, by decide +kernel⟩
theorem ok_least {c Pt f fH fX fF fP fD fC : Addr} {fd fdH fdX fdF fdP fdD fdC : FuncData} (F : Fun K "least" "least" sLeast f fd) (T : Txt mg) (hcd : fd.code = .ref c) (C : W.CodeHd base c Pt) (BB : BltAt mg base)
    (GH : FnOk P w K mg base CX0 4 fH fdH ["p", "some"] (spHear K)) (kH : Kp K fH) (bH : Binds K fdH ["p", "some"] []) (mH : mg "hearing" = some (.ref fH))
    (GX : RunS P w K mg base 4 fX fdX ["p", "some", "looked"] (spReached P w K mg base)) (kX : Kp K fX) (bX : Binds K fdX ["p", "some", "looked"] []) (mX : mg "reached" = some (.ref fX))
    (GF : FnOk P w K mg base CX0 3 fF fdF ["p", "some", "taken"] (spFollow K)) (kF : Kp K fF) (bF : Binds K fdF ["p", "some", "taken"] []) (mF : mg "followers" = some (.ref fF))
    (GP : FnOk P w K mg base CX0 1 fP fdP ["p", "rows", "other"] (spProds K)) (kP : Kp K fP) (bP : Binds K fdP ["p", "rows", "other"] []) (mP : mg "products" = some (.ref fP))
    (GD : FnOk P w K mg base CX0 3 fD fdD ["p", "rows"] (spReduced K)) (kD : Kp K fD) (bD : Binds K fdD ["p", "rows"] []) (mD : mg "reduced" = some (.ref fD))
    (GC : FnOk P w K mg base CX0 1 fC fdC ["rows", "length"] (spCols K)) (kC : Kp K fC) (bC : Binds K fdC ["rows", "length"] []) (mC : mg "columns" = some (.ref fC)) :
    FnOk P w K mg base CX0 5 f fd ["p", "some"] (spLeastP K Pt) := by
  refine F.okC scLst (fun vs H Q E h => ?_) (fun cdv A outer s H vs Q E hcv hr h => ?_)
  · obtain ⟨p, a, m, rfl, _⟩ := h
    rfl
  · obtain ⟨p, a, m, rfl, pp, hm, MO, lb, rb, sb, hLT, k⟩ := h
    have hcc : cdv = .ref c := hcv.symm.trans hcd
    subst hcc
    obtain ⟨p2, p97⟩ := prime_pos p pp
    have p0 : 0 < p := by lia
    have hr1 : Room 1 _ := hr.mono (by decide)
    have hr3 : Room 3 _ := hr.mono (by decide)
    have z1000 : (1000 : Nat) ≤ sizeLine := by decide
    refine ⟨_, pss_cons (ps_set (i := 2) scLst.nd rfl (Or.inr rfl) (pe_ix (ixT K rfl) (pv 1) pe_int (fun _ _ => rfl))) (pss_cons (ps_set (i := 8) scLst.nd rfl (Or.inr rfl) (pe_call GH hr rfl mH kH bH .nil pass0 (pa_cons (pv 0) (pa_cons (pv 1) pa_nil)))) (pss_cons (ps_set (i := 3) scLst.nd rfl (Or.inr rfl) (pe_comp (N := ["way"]) (own := 1) (caps := []) rfl (piList K rfl (pe_callS GX hr rfl mX kX bX (pa_cons (pv 0) (pa_cons (pv 1) (pa_cons (pe_lam (c := c) (Pt := Pt) (cl := clLE s.heap.objs.size) rfl C BB clos_le) pa_nil))))) (show BlkScope nLe (defScope sLeast) ["way"] 1 [] _ from .mk' (by decide +kernel)) (fun _ _ _ _ _ => pg_name (i := 0) nwy rfl (Or.inl rfl)) (fun _ _ _ _ _ => pts_nil) (fun _ _ _ _ _ => pe_ix (ixT K rfl) (pv 0) pe_int (fun _ _ => rfl)))) (pss_cons (ps_set (i := 4) scLst.nd rfl (Or.inr rfl) (pe_callB (cLen K rfl) rfl T.len bt_len (pa_cons (pv 3) pa_nil))) (pss_cons (ps_setComp (i := 5) (N := ["states", "heard", "p"]) (own := 1) (caps := [8, 0]) rfl scLst.nd rfl rfl (piList K rfl (pe_op op_cat (pv 3) (pe_call GF hr3 rfl mF kF bF .nil pass0 (pa_cons (pv 0) (pa_cons (pv 1) (pa_cons (pv 3) pa_nil)))))) (show BlkScope nLe (defScope sLeast) ["states", "heard", "p"] 1 [8, 0] _ from .mk' (by decide +kernel)) (fun _ _ _ _ _ => pg_name (i := 0) nle1 rfl (Or.inl rfl)) (fun _ _ _ _ _ => pts_nil) (fun _ _ _ _ _ => pe_call GP hr1 rfl mP kP bP .nil pass0 (pa_cons (pv 2) (pa_cons (pv 1) (pa_cons (pv 0) pa_nil))))) (pss_cons (ps_setComp (i := 6) (N := ["row", "count"]) (own := 1) (caps := [4]) rfl scLst.nd rfl rfl (piTup K rfl (pe_call GD hr3 rfl mD kD bD .nil pass0 (pa_cons (pv 0) (pa_cons (pe_call GC hr1 rfl mC kC bC .nil pass0 (pa_cons (pv 5) (pa_cons (pe_callB (cLen K rfl) rfl T.len bt_len (pa_cons (pv 8) pa_nil)) pa_nil))) pa_nil)))) (show BlkScope nLe (defScope sLeast) ["row", "count"] 1 [4] _ from .mk' (by decide +kernel)) (fun _ _ _ _ _ => pg_name (i := 0) nle2 rfl (Or.inl rfl)) (fun _ _ _ _ _ => pts_nil) (fun _ _ _ _ _ => pe_slice (slA K rfl) (pv 0) (po_some (pv 1)) po_none)) (pss_cons (ps_setComp (i := 7) (N := ["row", "left", "p", "taken"]) (own := 1) (caps := [2, 0, 3]) rfl scLst.nd rfl rfl (piTup K rfl (pe_slice (slA K rfl) (pe_ix (ixT K rfl) (pv 1) pe_int (fun _ _ => rfl)) po_none (po_some (pe_ix (ixT K rfl) (pv 1) pe_int (fun _ _ => rfl))))) (show BlkScope nLe (defScope sLeast) ["row", "left", "p", "taken"] 1 [2, 0, 3] _ from .mk' (by decide +kernel)) (fun _ _ _ _ _ => pg_name (i := 0) nle3 rfl (Or.inl rfl)) (fun _ _ _ _ _ => pts_nil) (fun _ _ _ _ _ => pe_op (opCatA K rfl) (pe_slice (slA K rfl) (pv 0) po_none (po_some (pv 1))) (pe_call GP hr1 rfl mP kP bP .nil pass0 (pa_cons (pv 2) (pa_cons (pv 3) (pa_cons (pe_slice (slA K rfl) (pv 0) (po_some (pv 1)) po_none) pa_nil)))))) (pss_one (ps_ret (pe_tup (pa_cons (pv 2) (pa_cons (pv 4) (pa_cons (pe_ix (ixT K rfl) (pv 1) pe_int (fun _ _ => rfl)) (pa_cons (pe_callTy (cTuple K rfl) rfl T.tuple bt_tuple (pa_cons (pe_op op_cat (pv 7) (pv 6)) pa_nil)) pa_nil))))))))))))), ?_⟩
    have hm' := hm
    obtain ⟨u, RS', h1, h2, h3⟩ := hm
    have Ln := MO.len
    have eRS := lenA h3
    have hHR := hear_Rws pp MO
    have hHl := hear_len pp MO
    refine ⟨_, rfl, a, _, 0, _, rfl, rfl, h1, atI_nat (j := 0) rfl, ?_⟩
    refine ⟨_, rfl, _, rfl, p, a, m, rfl, pp, hm', MO, lb, rb, sb, fun th DS H1 s1 hth hDS => ?_⟩
    have hLT1 := hLT.mono s1
    obtain ⟨ps1, hP1⟩ := hLT1.tab
    have hmD := MH.del hP1 (hm'.mono s1)
    have h1D := SqT.del hP1 (s1.seqT h1)
    have h2D := SqT.del hP1 (s1.seqT h2)
    have h3D := HasA.del hP1 (h3.mono s1)
    have hthD := SqT.del hP1 hth
    have hDSD := HasA.del hP1 hDS
    have eDS := lenA hDS
    have sD : Same (del Pt H) (del Pt H1) := Same.del s1
    refine ⟨_, rfl, _, rfl, hLT1, fun fl HL hnf smt hLT' hLF pins sI I => ?_⟩
    have sL := SmT.same smt
    have hgl : ∀ y, Rw p m.states y → Rw p (hearM p m).length (lookG p m y) := fun y _ => ap_Rw p0 y
    have cellOf : ∀ (i : Nat) (y : Str) (v : V), nLe[i]? = some y → [some (V.int p), some (V.ref a), some (V.int (m.left : Int)), none, none, none, none, none, some (V.ref th)][i]? = some (some v) → (defScope sLeast).names.lookup y = some .cell → ∃ u, RelV v u ∧ sI.heap.IsCell (cellAt s.heap.objs.size y) (some u) ∧ HL (cellAt s.heap.objs.size y) = none := fun i y v hN hσ hk => by
      obtain ⟨mm, hn, hl⟩ := I.loc
      obtain ⟨u, r, l⟩ := hl i y v hN hσ (.inr (.inl hk))
      rcases l with ⟨hk', _⟩ | ⟨_, c', hc', hcell⟩
      · have hk' : (defScope sLeast).names.lookup y = some .local := hk'
        rw [hk] at hk'
        cases hk'
      · have e : c' = cellAt s.heap.objs.size y := by
          have e1 := cell_at (L := s.heap.objs.size) hk
          have hc' : (cellsFrom (s.heap.objs.size + 1) (defScope sLeast).names []).lookup y = some c' := hc'
          rw [e1] at hc'
          exact (Option.some.inj hc').symm
        rw [← e]
        exact ⟨u, r, hcell, I.freeC y c' hc'⟩
    refine ⟨p, a, fl, m, lookG p m, (hearM p m).length, (hearM p m).length, rfl, pp, hmD.mono sL, MO, by lia, by lia, by lia, by lia, by lia,
      lam_at (k := 1) (names := ["heard", "p"]) (caps := [.ref th, .int p]) (lsLE I.ok.inj) hLF (fun _ _ _ _ => rfl) (fun j y hj => ?_) rfl (fun c' A' outer' s' H' b y Q' hr' sm' hb' hy' hQ' => ?_),
      hgl, look_shift pp MO, tk_le pp MO hgl, fun lw WS T' HW sW gW hWays hend hz => ⟨lw, rfl, ⟨_, .of gW⟩, ?_⟩⟩
    · match j, hj with
      | 0, hj =>
        have e : "heard" = y := Option.some.inj hj
        subst e
        obtain ⟨u, r, h4, h5⟩ := cellOf 8 "heard" (.ref th) rfl rfl rfl
        exact ⟨_, _, u, rfl, rfl, r, h4, h5⟩
      | 1, hj =>
        have e : "p" = y := Option.some.inj hj
        subst e
        obtain ⟨u, r, h4, h5⟩ := cellOf 0 "p" (.int p) rfl rfl rfl
        exact ⟨_, _, u, rfl, rfl, r, h4, h5⟩
      | j + 2, hj => simp at hj
    · refine ⟨_, pe_call GP hr' rfl mP kP bP .nil pass0 (pa_cons (pv 2) (pa_cons (pv 1) (pa_cons (pv 0) pa_nil))), ?_⟩
      exact ⟨_, rfl, _, rfl, _, rfl, p, th, b, false, DS, hearM p m, y, m.states, rfl, p2, p97, by lia, (sL.trans sm').sq (b := false) hthD, hDSD.mono (sL.trans sm'), hHR, by lia, hb', hy', hQ'⟩
    have sLW := sL.trans sW
    have hmW := hmD.mono sLW
    have h1W := sLW.seqT h1D
    have h2W := sLW.seqT h2D
    have h3W := h3D.mono sLW
    have hthW := sLW.seqT hthD
    have hDSW := hDSD.mono sLW
    have hLTW := hLT'.mono sW
    have sDW := sD.trans sLW
    have lWS := hWays.1
    have TO : TakenOk p m T' := ⟨hend, hz⟩
    have hTl : T'.length ≤ 13 := by
      by_cases hl : 0 < m.left
      · obtain ⟨k', hk'⟩ := hend hl
        have h9 := tk_le pp MO hgl k'
        have e9 := hk' 0
        rw [Nat.add_zero] at e9
        rw [e9] at h9
        lia
      · rw [hz (by lia)]; simp
    refine comp_list (xs := WS) (cp := []) (fun i H' zs => HasA K H' zs (((T'.map (leadsM p m)).take i).map intsT)) (.of gW) (by lia) .nil (fun i H' zs h => by rw [lenA h]; exact List.length_take_le _ _) ?_ ?_
    · rintro i v H6 zs hv sm6 h
      have hiT : i < T'.length := by rw [← lWS]; exact (List.getElem?_eq_some_iff.mp hv).1
      obtain ⟨j, hj⟩ : ∃ j, T'[i]? = some j := ⟨_, List.getElem?_eq_getElem hiT⟩
      obtain ⟨t, la, sa, AS, rfl, hw1, _, hw3, hw4, hw5⟩ := (hWays.2 i v j hv hj).mono sm6
      refine tgo ⟨_, rfl, t, _, 1, .ref sa, rfl, rfl, hw1, atI_nat (j := 1) rfl, ⟨[_], rfl, rfl⟩, sm6, ?_⟩
      rw [List.take_add_one, List.getElem?_map, hj]
      show HasA K H6 _ (((T'.map (leadsM p m)).take i ++ [leadsM p m j]).map intsT)
      rw [List.map_append]
      exact h.append (.cons (hasT_of hw5) .nil)
    rintro H6 TS sm6 hTS lt hlt
    rw [List.take_of_length_le (by rw [List.length_map]; lia)] at hTS
    have hTS := hTS.mono (Same.upd hlt (o := .lst TS))
    have sA : Same HW (upd H6 lt (.lst TS)) := sm6.trans (.upd hlt)
    have gT : (upd H6 lt (.lst TS)) lt = some (.lst TS) := upd_same
    generalize upd H6 lt (.lst TS) = HA at hTS sA gT ⊢
    clear sm6 hlt
    have eTS : TS.length = T'.length := by rw [lenA hTS, List.length_map]
    refine ⟨_, rfl, lt, TS, rfl, .inl (.of gT), ?_⟩
    rw [eTS]
    refine ⟨_, rfl, _, rfl, _, rfl, _, rfl, p, a, lt, m, TS, T', rfl, pp, hmW.mono sA, MO, by lia, by lia, by lia, .of gT, hTS, by lia, hz, fun lf FS HF sF gF hFS => ?_⟩
    have eFS : FS.length = m.left + T'.length := by rw [lenA hFS]; simp
    refine ⟨lt, lf, TS, FS, rfl, rfl, sF _ _ gT, gF, by lia, fun lj hlj => ⟨lj, rfl, ⟨_, .of upd_same⟩, ?_⟩⟩
    have sJ : Same HF (upd HF lj (.lst (TS ++ FS))) := .upd hlj
    have gJ : (upd HF lj (.lst (TS ++ FS))) lj = some (.lst (TS ++ FS)) := upd_same
    generalize upd HF lj (.lst (TS ++ FS)) = HJ at sJ gJ ⊢
    have sAJ := sF.trans sJ
    have sWJ := sA.trans sAJ
    have hJ : HasA K HJ (TS ++ FS) (((idxJ m T').map (leadsM p m)).map intsT) := by
      unfold idxJ
      rw [List.map_append (l₁ := T'), List.map_append (l₁ := T'.map (leadsM p m))]
      exact (hTS.mono sAJ).append (hFS.mono sJ)
    have eJ := lenA hJ
    rw [List.length_map, idx_len] at eJ
    have hthJ := sWJ.seqT hthW
    have hDSJ := hDSW.mono sWJ
    refine comp_list (xs := TS ++ FS) (cp := [some (.ref th), some (.int p)]) (fun i H' zs => HasA K H' zs ((((idxJ m T').map fun j => lookG p m (leadsM p m j)).take i).map intsT)) (.of gJ) (by lia) .nil (fun i H' zs h => by rw [lenA h]; exact List.length_take_le _ _) ?_ ?_
    · rintro i v H7 zs hv sm7 h
      obtain ⟨y, ya, hyi, rfl, hya⟩ := rowAt hJ hv
      rw [List.getElem?_map] at hyi
      cases hj : (idxJ m T')[i]? with
      | none => rw [hj] at hyi; cases hyi
      | some j =>
        rw [hj] at hyi
        have ey : y = leadsM p m j := (Option.some.inj hyi).symm
        subst ey
        refine tgo ⟨_, rfl, _, rfl, _, rfl, p, th, ya, false, DS, hearM p m, leadsM p m j, m.states, rfl, p2, p97, by lia, sm7.sq (b := false) hthJ, hDSJ.mono sm7, hHR, by lia, sm7.seqT hya, (leads_Rw p0 MO j).1, fun t H8 s8 ht => ?_⟩
        refine ⟨⟨[_], rfl, rfl⟩, sm7.trans s8, ?_⟩
        rw [List.take_add_one, List.getElem?_map, hj]
        show HasA K H8 _ ((((idxJ m T').map fun j => lookG p m (leadsM p m j)).take i ++ [lookG p m (leadsM p m j)]).map intsT)
        rw [List.map_append]
        exact (h.mono s8).append (.cons (hasT_of ht) .nil)
    rintro H7 LK sm7 hLK lk hlk
    rw [List.take_of_length_le (by rw [List.length_map, idx_len]; lia)] at hLK
    have hLK := hLK.mono (Same.upd hlk (o := .lst LK))
    have sK : Same HJ (upd H7 lk (.lst LK)) := sm7.trans (.upd hlk)
    have gK : (upd H7 lk (.lst LK)) lk = some (.lst LK) := upd_same
    generalize upd H7 lk (.lst LK) = HK at hLK sK gK ⊢
    clear sm7 hlk
    have sWK := sWJ.trans sK
    refine ⟨_, rfl, _, rfl, _, rfl, th, DS, rfl, .inr (sWK.seqT hthW), lk, LK, _, (hearM p m).length, _, rfl, by rw [eDS], .of gK, hLK, by rw [List.length_map, idx_len]; lia, by lia, fun r hr => ?_, fun tc HC DC sC htc hDC => ?_⟩
    · obtain ⟨j, _, rfl⟩ := List.mem_map.mp hr
      simp [lookG, apM]
    have eRows : ((List.range (hearM p m).length).map fun i => ((idxJ m T').map fun j => lookG p m (leadsM p m j)).map fun r => r.getD i 0) = lookRows p m (idxJ m T') := by
      unfold lookRows
      exact List.map_congr_left fun i _ => by rw [List.map_map]; rfl
    rw [eRows] at hDC
    have hLR := look_Rws (m := m) p0 (J := idxJ m T')
    rw [idx_len] at hLR
    have lLR : (lookRows p m (idxJ m T')).length = (hearM p m).length := by simp [lookRows]
    have B := made_block pp MO TO
    have RO := redM_ok pp hLR
    refine ⟨p, tc, false, DC, lookRows p m (idxJ m T'), T'.length + (m.left + T'.length), rfl, pp, htc, hDC, by lia, by lia, hLR, fun tr HR DR sR htr hDR => ⟨tr, rfl, ⟨_, htr⟩, ?_⟩⟩
    have eDR := lenA hDR
    rw [B.len] at eDR
    have sWR := sWK.trans (sC.trans sR)
    refine comp_tup (xs := DR) (cp := [some (.int (T'.length : Int))]) (fun i H' zs => HasA K H' zs (((onL p m T').take i).map intsT)) htr (by lia) .nil (fun i H' zs h => by rw [lenA h]; exact List.length_take_le _ _) ?_ ?_
    · rintro i v H8 zs hv sm8 h
      obtain ⟨d, da, hdi, rfl, hda⟩ := rowAt hDR hv
      have hdl := (RO.rws d (List.mem_of_getElem? hdi)).1
      refine tgo ⟨_, rfl, _, rfl, _, rfl, da, _, rfl, sm8.seqT hda, fun t H9 s9 ht => ?_⟩
      rw [cutI_lo (by lia)] at ht
      refine ⟨⟨[_], rfl, rfl⟩, sm8.trans s9, ?_⟩
      have e : (onL p m T')[i]? = some (d.drop T'.length) := by unfold onL; rw [List.getElem?_map, hdi]; rfl
      rw [List.take_add_one, e]
      show HasA K H9 _ (((onL p m T').take i ++ [_]).map intsT)
      rw [List.map_append]
      exact (h.mono s9).append (.cons (hasT_of ht) .nil)
    rintro H8 ON sm8 hON lo hlo
    have lON : (onL p m T').length = T'.length := by unfold onL; rw [List.length_map, B.len]
    rw [List.take_of_length_le (by lia)] at hON
    have hON := hON.mono (Same.upd hlo (o := .lst ON))
    have sO : Same HR (upd H8 lo (.lst ON)) := sm8.trans (.upd hlo)
    have gO : (upd H8 lo (.lst ON)) lo = some (.lst ON) := upd_same
    generalize upd H8 lo (.lst ON) = HO' at hON sO gO ⊢
    clear sm8 hlo
    have sWO := sWR.trans sO
    have sAO : Same HA HO' := sAJ.trans (sK.trans ((sC.trans sR).trans sO))
    have eON := lenA hON
    refine ⟨_, rfl, a, _, 3, .ref u, rfl, rfl, sWO.seqT h1W, atI_nat (j := 3) rfl, _, rfl, a, _, 2, _, rfl, rfl, sWO.seqT h1W, atI_nat (j := 2) rfl, _, rfl, u, _, rfl, sWO.seqT h2W, fun t3 H3 s3 ht3 => ⟨t3, rfl, ⟨_, ht3⟩, ?_⟩⟩
    rw [cutV_hi (by lia)] at ht3
    have hT3 := HasA.cutT m.right (h3W.mono (sWO.trans s3))
    have eT3 : (RS'.take m.right).length = m.right := by rw [lenA hT3, List.length_take]; lia
    have hTRw : Rws p m.states (T'.map (leadsM p m)) := fun r hr => by
      obtain ⟨j, _, rfl⟩ := List.mem_map.mp hr
      exact leads_Rw p0 MO j
    refine comp_tup (xs := RS'.take m.right) (cp := [some (.int (m.left : Int)), some (.int p), some (.ref lt)]) (fun i H' zs => HasA K H' zs (((ansL p m T').take i).map intsT)) ht3 (by lia) .nil (fun i H' zs h => by rw [lenA h]; exact List.length_take_le _ _) ?_ ?_
    · rintro i v H4 zs hv sm h
      obtain ⟨r, ra, hri, rfl, hra⟩ := rowAt hT3 hv
      have hrl := (MO.rws r (List.mem_of_mem_take (List.mem_of_getElem? hri))).1
      refine tgo ⟨_, rfl, _, rfl, _, rfl, ra, _, rfl, sm.seqT hra, fun t1 H5 s5 ht1 => ?_⟩
      rw [cutI_hi (by lia)] at ht1
      refine ⟨_, rfl, _, rfl, _, rfl, _, rfl, _, rfl, ra, _, rfl, (sm.trans s5).seqT hra, fun t2 H6 s6 ht2 => ?_⟩
      rw [cutI_lo (by lia)] at ht2
      have sA6 : Same HA H6 := sAO.trans (s3.trans (sm.trans (s5.trans s6)))
      refine ⟨p, lt, t2, true, TS, T'.map (leadsM p m), r.drop m.left, m.states, rfl, p2, p97, by lia, .of (sA6 _ _ gT), hTS.mono sA6, hTRw, by rw [List.length_map]; lia, ht2, by rw [List.length_drop]; lia, fun t4 H7 s7 ht4 => ?_⟩
      refine ⟨t1, t4, _, _, rfl, rfl, (s6.trans s7).seqT ht1, ht4, by simp only [List.length_map, List.length_take]; rw [show (apM p (T'.map (leadsM p m)) (r.drop m.left)).length = T'.length by simp [apM]]; lia, fun t5 H8 s8 ht5 => ?_⟩
      have smm := (s5.trans s6).trans (s7.trans s8)
      refine ⟨⟨[_], rfl, rfl⟩, sm.trans smm, ?_⟩
      rw [← List.map_append] at ht5
      have e : (ansL p m T')[i]? = some (r.take m.left ++ apM p (T'.map (leadsM p m)) (r.drop m.left)) := by unfold ansL; rw [List.getElem?_map, hri]; rfl
      rw [List.take_add_one, e]
      show HasA K H8 _ (((ansL p m T').take i ++ [_]).map intsT)
      rw [List.map_append]
      exact (h.mono smm).append (.cons (hasT_of ht5) .nil)
    rintro H4 AN sm4 hAN la hla
    have lAN : (ansL p m T').length = m.right := by unfold ansL; rw [List.length_map, List.length_take]; lia
    rw [List.take_of_length_le (by lia)] at hAN
    have hAN := hAN.mono (Same.upd hla (o := .lst AN))
    have sN : Same HO' (upd H4 la (.lst AN)) := s3.trans (sm4.trans (.upd hla))
    have gN : (upd H4 la (.lst AN)) la = some (.lst AN) := upd_same
    generalize upd H4 la (.lst AN) = HN at hAN sN gN ⊢
    clear sm4 hla
    have sWN := sWO.trans sN
    have eAN := lenA hAN
    refine ⟨_, rfl, _, rfl, _, rfl, a, _, 2, _, rfl, rfl, sWN.seqT h1W, atI_nat (j := 2) rfl, _, rfl, _, rfl, la, lo, AN, ON, rfl, rfl, gN, sN _ _ gO, by lia, fun lz hlz => ⟨lz, _, rfl, .inl ⟨.of upd_same, fun t9 h9 => ⟨(by show 4 ≤ sizeLine; lia), fun tt htt => ?_⟩⟩⟩⟩
    have s9 := ((Same.upd hlz (o := .lst (AN ++ ON))).trans (Same.upd h9 (o := .tup (AN ++ ON)))).trans (Same.upd htt (o := .tup [.int (m.left : Int), .int (T'.length : Int), .int (m.right : Int), .ref t9]))
    refine k tt (leastM p m T') _ (least_ok pp MO TO) (sDW.trans (sWN.trans s9)) (hLTW.mono (sWN.trans s9)) ⟨t9, AN ++ ON, .of upd_same, .of (Same.upd htt _ _ upd_same), ?_⟩
    show HasA K _ _ ((ansL p m T' ++ onL p m T').map intsT)
    rw [List.map_append]
    exact (hAN.mono s9).append (hON.mono (sN.trans s9))
end
section
variable {P : Program} {w : World} {K : W.Frag} {mg : Str → Option Value} {base : Heap}
inductive AskLaw74 (K : W.Frag) (Pt : Addr) (vs : List V) (H : Hp) (Q : L2.VK) (E : L2.XK) : Prop where
  | mk (a : Addr) (ns : List Int) (q0_ : vs = [.ref a]) (q1_ : SqL K H a (ns.map V.int)) (q2_ : ns.length ≤ 63) (q3_ : LamT H Pt (lamPos lamLE) qLE) (q4_ : ∀ H', Q (.bl true) H') : AskLaw74 K Pt vs H Q E
noncomputable def spLaw74 (K : W.Frag) (Pt : Addr) : Sp := fun vs H Q E => AskLaw74 K Pt vs H Q E
theorem scL74 : FnScope ["script", "p", "one", "other", "taken", "found", "k", "pair"] ["script"] (defScope s_law) := ⟨rfl, rfl, rfl, by decide +kernel, rfl, by decide +kernel, by decide +kernel⟩
theorem ok_law74 {k : Nat} {Pt f fP fE fL fN fH fC fU : Addr} {fd fdP fdE fdL fdN fdH fdC fdU : FuncData} (hk : k ≤ 8) (F : Fun K "law" "law" s_law f fd) (T : Txt mg)
    (GP : FnOk P w K mg base CX0 3 fP fdP ["script"] (spPair K)) (kP : Kp K fP) (bP : Binds K fdP ["script"] []) (mP : mg "_law_pair" = some (.ref fP))
    (GN : FnOk P w K mg base CX0 4 fN fdN ["p", "some"] (spTaken K)) (kN : Kp K fN) (bN : Binds K fdN ["p", "some"] []) (mN : mg "_law_taken" = some (.ref fN))
    (GH : FnOk P w K mg base CX0 1 fH fdH ["p", "found", "left", "states", "right"] (spShaped K)) (kH : Kp K fH) (bH : Binds K fdH ["p", "found", "left", "states", "right"] []) (mH : mg "_law_shaped" = some (.ref fH))
    (GC : FnOk P w K mg base CX0 3 fC fdC ["p", "some", "wire", "late"] (spReach K)) (kC : Kp K fC) (bC : Binds K fdC ["p", "some", "wire", "late"] []) (mC : mg "_law_reached" = some (.ref fC))
    (GU : FnOk P w K mg base CX0 1 fU fdU ["length", "at"] (spUnit K)) (kU : Kp K fU) (bU : Binds K fdU ["length", "at"] []) (mU : mg "_law_unit" = some (.ref fU))
    (GE0 : FnOk P w K mg base CX0 3 fE fdE ["p", "one", "other"] (spEver K)) (kE : Kp K fE) (bE : Binds K fdE ["p", "one", "other"] []) (mE : mg "_law_ever" = some (.ref fE))
    (GL : FnOk P w K mg base CX0 k fL fdL ["p", "some"] (spLeastP K Pt)) (kL : Kp K fL) (bL : Binds K fdL ["p", "some"] []) (mL : mg "least" = some (.ref fL)) :
    FnOk P w K mg base CX0 9 f fd ["script"] (spLaw74 K Pt) := by
  have GE : FnOk P w K mg base CX0 3 fE fdE ["p", "one", "other"] (spEver2 K) := GE0.imp fun vs H Q E h => by
    obtain ⟨p, a1, a2, m1, m2, rfl, pp, h1, h2, MO1, MO2, el, er, l, r, s1, s2, q⟩ := h
    exact ever_alike pp h1 h2 MO1 MO2 el er l r s1 s2 q
  refine F.ok scL74 (fun vs H Q E h => ?_) (fun cdv A outer s H vs Q E hr h => ?_)
  · obtain ⟨a, ns, rfl, _⟩ := h
    rfl
  · obtain ⟨a, ns, rfl, hS, hlen, hL0, q⟩ := h
    have hr1 : Room 1 _ := hr.mono (by decide)
    have hr3 : Room 3 _ := hr.mono (by decide)
    have hr4 : Room 4 _ := hr.mono (by decide)
    have hrk : Room k _ := hr.mono hk
    have hu := hr.units
    have z1000 : (1000 : Nat) ≤ sizeLine := by decide
    refine ⟨_, pss_cons (ps_asg (pe_call GP hr3 rfl mP kP bP .nil pass0 (pa_cons (pv 0) pa_nil)) (pgTup (n := 3) K rfl rfl (pgs_cons (pg_name (i := 1) scL74.nd rfl (Or.inl rfl)) (pgs_cons (pg_name (i := 2) scL74.nd rfl (Or.inl rfl)) (pgs_cons (pg_name (i := 3) scL74.nd rfl (Or.inl rfl)) pgs_nil))))) (pss_cons (ps_set (i := 4) scL74.nd rfl (Or.inl rfl) (pe_call GN hr4 rfl mN kN bN .nil pass0 (pa_cons (pv 1) (pa_cons (pv 3) pa_nil)))) (pss_cons (ps_set (i := 5) scL74.nd rfl (Or.inl rfl) (pe_call GL hrk rfl mL kL bL .nil pass0 (pa_cons (pv 1) (pa_cons (pv 3) pa_nil)))) (pss_cons (ps_if (pt_not (pt_val (pe_call GH hr1 rfl mH kH bH .nil pass0 (pa_cons (pv 1) (pa_cons (pv 5) (pa_cons (pe_ix (ixT K rfl) (pv 3) pe_int (fun _ _ => rfl)) (pa_cons (pe_callB (cLen K rfl) rfl T.len bt_len (pa_cons (pv 4) pa_nil)) (pa_cons (pe_ix (ixT K rfl) (pv 3) pe_int (fun _ _ => rfl)) pa_nil)))))))) (pss_one (ps_ret pe_bl)) pss_nil) (pss_cons (ps_for PassesOwn.never rfl (piEnum K rfl true rfl T.enumerate (pa_cons (pv 4) pa_nil)) (pgTup (n := 2) K rfl rfl (pgs_cons (pg_name (i := 6) scL74.nd rfl (Or.inl rfl)) (pgs_cons (pg_name (i := 7) scL74.nd rfl (Or.inl rfl)) pgs_nil))) (pss_one (ps_if (pt_cmpR (opNeD K rfl hu) (pe_call GC hr3 rfl mC kC bC .nil pass0 (pa_cons (pv 1) (pa_cons (pv 5) (pa_cons (pe_ix (ixT K rfl) (pv 7) pe_int (fun _ _ => rfl)) (pa_cons (pe_ix (ixT K rfl) (pv 7) pe_int (fun _ _ => rfl)) pa_nil))))) (pe_call GU hr1 rfl mU kU bU .nil pass0 (pa_cons (pe_callB (cLen K rfl) rfl T.len bt_len (pa_cons (pv 4) pa_nil)) (pa_cons (pv 6) pa_nil))) (nomark _)) (pss_one (ps_ret pe_bl)) pss_nil))) (pss_one (ps_ret (pe_cmpR op_eq (pe_ix (ixT K rfl) (pe_call GE hr3 rfl mE kE bE .nil pass0 (pa_cons (pv 1) (pa_cons (pv 5) (pa_cons (pv 3) pa_nil)))) pe_int (fun _ _ => rfl)) pe_str (nomark _)))))))), ?_⟩
    refine ⟨_, rfl, a, ns, rfl, hS, hlen, fun v a1 a2 p m1 m2 H1 pp s1 hv hm1 hm2 MO1 MO2 el er l2 r2 s13 t13 => ?_⟩
    obtain ⟨p2, p97⟩ := prime_pos p pp
    refine ⟨v, _, rfl, hv, rfl, _, _, rfl, _, _, rfl, _, _, rfl, rfl, ?_⟩
    refine ⟨_, rfl, _, rfl, p, a2, m2, rfl, pp, hm2, MO2, by lia, by lia, t13, fun lt TS H2 s2 glt hTS => ?_⟩
    refine ⟨_, rfl, _, rfl, p, a2, m2, rfl, pp, hm2.mono s2, MO2, by lia, by lia, t13, hL0.mono (s1.trans s2), fun b L H3 O s3 _ hb => ?_⟩
    obtain ⟨ps0, hP0⟩ := (hL0.mono (s1.trans s2)).tab
    have hm3 := (MH.del hP0 (hm2.mono s2)).mono s3
    have hle := O.le pp MO2
    have el' := O.left
    have er' := O.right
    have es' := O.states
    have g3 := s3 _ _ (get_del hP0 glt (fun _ z => nomatch z))
    have eTS := hTS.length
    rw [List.length_map, List.length_map] at eTS
    have hTS3 := (HasA.del hP0 hTS).mono s3
    have hm3' := hm3
    obtain ⟨u, RS, h1, h2, h3⟩ := hm3'
    refine ⟨_, rfl, _, rfl, _, rfl, a2, _, 0, _, rfl, rfl, h1, atI_nat (j := 0) rfl, _, rfl, lt, TS, rfl, .inl (.of g3), _, rfl, a2, _, 2, _, rfl, rfl, h1, atI_nat (j := 2) rfl, p, b, L, (m2.left : Int), (TS.length : Int), (m2.right : Int), rfl, by lia, by lia, by lia, hb, O.ok, fun H4 s4 => ⟨true, rfl, iteF ?_⟩⟩
    have g4 := s4 _ _ g3
    refine ⟨_, rfl, lt, rfl, ⟨_, .of g4⟩, for_enum (b := true) (xs := TS) (fun i σ H' => All2 (Same H4 H') (Ex2 fun (s6 s7) => (σ = [some (.ref a), some (.int p), some (.ref a1), some (.ref a2), some (.ref lt), some (.ref b), s6, s7]))) ⟨.refl _, _, _, rfl⟩ (fun i σ H' h => .of (h.1 _ _ g4)) (fun i σ Ha Hb sab ⟨e, h⟩ => ⟨e.trans sab, h⟩) ?_ ?_⟩
    · rintro i x σ H5 hx ⟨sm5, s6, s7, rfl⟩
      obtain ⟨r, xa, hri, rfl, hxa⟩ := rowAt (hTS3.mono (s4.trans sm5)) hx
      rw [List.getElem?_map] at hri
      cases hq : (takenM p m2 m2.states)[i]? with
      | none => rw [hq] at hri; cases hri
      | some qq =>
        rw [hq] at hri
        cases hri
        have hmem := taken_mem (List.mem_of_getElem? hq)
        have hil : i < TS.length := (List.getElem?_eq_some_iff.mp hx).1
        have hb5 := hb.mono (s4.trans sm5)
        refine ⟨_, rfl, _, rfl, _, rfl, xa, _, 0, _, rfl, rfl, hxa, atI_nat (j := 0) rfl, _, rfl, xa, _, 1, _, rfl, rfl, hxa, atI_nat (j := 1) rfl, p, b, L, qq.1, qq.2, (qq.1 : Int), (qq.2 : Int), rfl, rfl, rfl, p2, p97, hb5, O.ok, by lia, by lia, by lia, by lia, by lia, fun tk H6 s6' htk => ?_⟩
        rw [O.unit i qq hq] at htk
        refine ⟨_, rfl, lt, TS, rfl, .inl (.of ((sm5.trans s6') _ _ g4)), _, rfl, L.states, i, (TS.length : Int), (i : Int), rfl, by lia, rfl, by lia, by lia, fun tu H7 s7' htu => ?_⟩
        refine ⟨intsT (unitM L.states i), intsT (unitM L.states i), hasT_of (s7'.seqT htk), hasT_of htu, kqd_intsT 7 _, kqd_intsT 7 _, _, rfl, iteNeD rfl ?_⟩
        exact ⟨(sm5.trans s6').trans s7', _, _, rfl⟩
    · rintro σ H5 ⟨sm5, s6, s7, rfl⟩
      have A1 : Alike p L m2 := fun w t hw => O.ans w t (by rw [← el']; exact hw)
      refine ⟨_, rfl, _, rfl, _, rfl, p, b, a2, L, m2, rfl, pp, hb.mono (s4.trans sm5), hm3.mono (s4.trans sm5), O.ok, MO2, el', er', by lia, by lia, by lia, t13, fun v2 x2 t2 H6 ht2 s6' hv2 => ?_⟩
      refine ⟨v2, _, 0, _, rfl, rfl, hv2, atI_nat (j := 0) rfl, rfl, ?_⟩
      rw [tagS_is, ht2.mpr A1]
      exact q _
end
theorem us1 {fd : FuncData} {ps : List Str} : ∀ (us : List Value), us.length = 1 → (∀ a0, bindArgs fd ⟨[a0], []⟩ = pure (ps.zip [a0])) → bindArgs fd ⟨us, []⟩ = pure (ps.zip us)
  | [a0], _, h => h a0
theorem us2 {fd : FuncData} {ps : List Str} : ∀ (us : List Value), us.length = 2 → (∀ a0 a1, bindArgs fd ⟨[a0, a1], []⟩ = pure (ps.zip [a0, a1])) → bindArgs fd ⟨us, []⟩ = pure (ps.zip us)
  | [a0, a1], _, h => h a0 a1
theorem us3 {fd : FuncData} {ps : List Str} : ∀ (us : List Value), us.length = 3 → (∀ a0 a1 a2, bindArgs fd ⟨[a0, a1, a2], []⟩ = pure (ps.zip [a0, a1, a2])) → bindArgs fd ⟨us, []⟩ = pure (ps.zip us)
  | [a0, a1, a2], _, h => h a0 a1 a2
theorem us4 {fd : FuncData} {ps : List Str} : ∀ (us : List Value), us.length = 4 → (∀ a0 a1 a2 a3, bindArgs fd ⟨[a0, a1, a2, a3], []⟩ = pure (ps.zip [a0, a1, a2, a3])) → bindArgs fd ⟨us, []⟩ = pure (ps.zip us)
  | [a0, a1, a2, a3], _, h => h a0 a1 a2 a3
theorem us5 {fd : FuncData} {ps : List Str} : ∀ (us : List Value), us.length = 5 → (∀ a0 a1 a2 a3 a4, bindArgs fd ⟨[a0, a1, a2, a3, a4], []⟩ = pure (ps.zip [a0, a1, a2, a3, a4])) → bindArgs fd ⟨us, []⟩ = pure (ps.zip us)
  | [a0, a1, a2, a3, a4], _, h => h a0 a1 a2 a3 a4
theorem us6 {fd : FuncData} {ps : List Str} : ∀ (us : List Value), us.length = 6 → (∀ a0 a1 a2 a3 a4 a5, bindArgs fd ⟨[a0, a1, a2, a3, a4, a5], []⟩ = pure (ps.zip [a0, a1, a2, a3, a4, a5])) → bindArgs fd ⟨us, []⟩ = pure (ps.zip us)
  | [a0, a1, a2, a3, a4, a5], _, h => h a0 a1 a2 a3 a4 a5
theorem us7 {fd : FuncData} {ps : List Str} : ∀ (us : List Value), us.length = 7 → (∀ a0 a1 a2 a3 a4 a5 a6, bindArgs fd ⟨[a0, a1, a2, a3, a4, a5, a6], []⟩ = pure (ps.zip [a0, a1, a2, a3, a4, a5, a6])) → bindArgs fd ⟨us, []⟩ = pure (ps.zip us)
  | [a0, a1, a2, a3, a4, a5, a6], _, h => h a0 a1 a2 a3 a4 a5 a6
theorem all_mk {l : W.OpenLaw} {w : World} {K : W.Frag} {h : Heap} {mg : Str → Option Value} {fa f1 f2 f3 f4 f5 f6 f7 f8 f9 f10 f11 f12 f13 f14 f15 f16 f17 f18 f19 f20 f21 f22 f23 f24 f25 f26 f27 f28 f29 f30 f31 f32 f33 f34 f35 : Addr} (X : K.In h) (G : h.Ns mainGlobals mg) (hfa : mg "law" = some (.ref fa))
    {od1 an1 od2 an2 od3 an3 od4 an4 od5 an5 od6 an6 od7 an7 od8 an8 od9 an9 od10 an10 od11 an11 od12 an12 od13 an13 od14 an14 od15 an15 od16 an16 od17 an17 od18 an18 od19 an19 od20 an20 od21 an21 od22 an22 od23 an23 od24 an24 od25 an25 od26 an26 od27 an27 od28 an28 od29 an29 od30 an30 od31 an31 od32 an32 od33 an33 od34 an34 od35 an35 : Option Addr} {sl1 sl2 sl3 sl4 sl5 sl6 sl7 sl8 sl9 sl10 sl11 sl12 sl13 sl14 sl15 sl16 sl17 sl18 sl19 sl20 sl21 sl22 sl23 sl24 sl25 sl26 sl27 sl28 sl29 sl30 sl31 sl32 sl33 sl34 sl35 : Array (Option Value)} {oc1 kV1 dc1 pm1 cd1 ct1 oc2 kV2 dc2 pm2 cd2 ct2 oc3 kV3 dc3 pm3 cd3 ct3 oc4 kV4 dc4 pm4 cd4 ct4 oc5 kV5 dc5 pm5 cd5 ct5 oc6 kV6 dc6 pm6 cd6 ct6 oc7 kV7 dc7 pm7 cd7 ct7 oc8 kV8 dc8 pm8 cd8 ct8 oc9 kV9 dc9 pm9 cd9 ct9 oc10 kV10 dc10 pm10 cd10 ct10 oc11 kV11 dc11 pm11 cd11 ct11 oc12 kV12 dc12 pm12 cd12 ct12 oc13 kV13 dc13 pm13 cd13 ct13 oc14 kV14 dc14 pm14 cd14 ct14 oc15 kV15 dc15 pm15 cd15 ct15 oc16 kV16 dc16 pm16 cd16 ct16 oc17 kV17 dc17 pm17 cd17 ct17 oc18 kV18 dc18 pm18 cd18 ct18 oc19 kV19 dc19 pm19 cd19 ct19 oc20 kV20 dc20 pm20 cd20 ct20 oc21 kV21 dc21 pm21 cd21 ct21 oc22 kV22 dc22 pm22 cd22 ct22 oc23 kV23 dc23 pm23 cd23 ct23 oc24 kV24 dc24 pm24 cd24 ct24 oc25 kV25 dc25 pm25 cd25 ct25 oc26 kV26 dc26 pm26 cd26 ct26 oc27 kV27 dc27 pm27 cd27 ct27 oc28 kV28 dc28 pm28 cd28 ct28 oc29 kV29 dc29 pm29 cd29 ct29 oc30 kV30 dc30 pm30 cd30 ct30 oc31 kV31 dc31 pm31 cd31 ct31 oc32 kV32 dc32 pm32 cd32 ct32 oc33 kV33 dc33 pm33 cd33 ct33 oc34 kV34 dc34 pm34 cd34 ct34 oc35 kV35 dc35 pm35 cd35 ct35 : Value}
    (a1 : W.nsIn K mainGlobals "turned" = some (some (.ref f1))) (l1 : K.lookup f1 = some ⟨oc1, od1, .func (W.fnOf "turned" "turned" (defArgs sTurned) (defBody sTurned) (defScope sTurned) .none kV1 dc1 pm1 an1 cd1 ct1), sl1⟩) (c1 : W.codeIn K cd1 "turned" = true) (k1 : W.keepIn K (.ref f1) = true)
    (a2 : W.nsIn K mainGlobals "added" = some (some (.ref f2))) (l2 : K.lookup f2 = some ⟨oc2, od2, .func (W.fnOf "added" "added" (defArgs sAdded) (defBody sAdded) (defScope sAdded) .none kV2 dc2 pm2 an2 cd2 ct2), sl2⟩) (c2 : W.codeIn K cd2 "added" = true) (k2 : W.keepIn K (.ref f2) = true)
    (a3 : W.nsIn K mainGlobals "summed" = some (some (.ref f3))) (l3 : K.lookup f3 = some ⟨oc3, od3, .func (W.fnOf "summed" "summed" (defArgs sSummed) (defBody sSummed) (defScope sSummed) .none kV3 dc3 pm3 an3 cd3 ct3), sl3⟩) (c3 : W.codeIn K cd3 "summed" = true) (k3 : W.keepIn K (.ref f3) = true)
    (a4 : W.nsIn K mainGlobals "product" = some (some (.ref f4))) (l4 : K.lookup f4 = some ⟨oc4, od4, .func (W.fnOf "product" "product" (defArgs sProd) (defBody sProd) (defScope sProd) .none kV4 dc4 pm4 an4 cd4 ct4), sl4⟩) (c4 : W.codeIn K cd4 "product" = true) (k4 : W.keepIn K (.ref f4) = true)
    (a5 : W.nsIn K mainGlobals "products" = some (some (.ref f5))) (l5 : K.lookup f5 = some ⟨oc5, od5, .func (W.fnOf "products" "products" (defArgs sProds) (defBody sProds) (defScope sProds) .none kV5 dc5 pm5 an5 cd5 ct5), sl5⟩) (c5 : W.codeIn K cd5 "products" = true) (k5 : W.keepIn K (.ref f5) = true)
    (a6 : W.nsIn K mainGlobals "ones" = some (some (.ref f6))) (l6 : K.lookup f6 = some ⟨oc6, od6, .func (W.fnOf "ones" "ones" (defArgs sOnes) (defBody sOnes) (defScope sOnes) .none kV6 dc6 pm6 an6 cd6 ct6), sl6⟩) (c6 : W.codeIn K cd6 "ones" = true) (k6 : W.keepIn K (.ref f6) = true)
    (a7 : W.nsIn K mainGlobals "columns" = some (some (.ref f7))) (l7 : K.lookup f7 = some ⟨oc7, od7, .func (W.fnOf "columns" "columns" (defArgs sCols) (defBody sCols) (defScope sCols) .none kV7 dc7 pm7 an7 cd7 ct7), sl7⟩) (c7 : W.codeIn K cd7 "columns" = true) (k7 : W.keepIn K (.ref f7) = true)
    (a8 : W.nsIn K mainGlobals "reduced" = some (some (.ref f8))) (l8 : K.lookup f8 = some ⟨oc8, od8, .func (W.fnOf "reduced" "reduced" (defArgs sReduced) (defBody sReduced) (defScope sReduced) .none kV8 dc8 pm8 an8 cd8 ct8), sl8⟩) (c8 : W.codeIn K cd8 "reduced" = true) (k8 : W.keepIn K (.ref f8) = true)
    (a9 : W.nsIn K mainGlobals "led" = some (some (.ref f9))) (l9 : K.lookup f9 = some ⟨oc9, od9, .func (W.fnOf "led" "led" (defArgs sLed) (defBody sLed) (defScope sLed) .none kV9 dc9 pm9 an9 cd9 ct9), sl9⟩) (c9 : W.codeIn K cd9 "led" = true) (k9 : W.keepIn K (.ref f9) = true)
    (a10 : W.nsIn K mainGlobals "cleared" = some (some (.ref f10))) (l10 : K.lookup f10 = some ⟨oc10, od10, .func (W.fnOf "cleared" "cleared" (defArgs sCleared) (defBody sCleared) (defScope sCleared) .none kV10 dc10 pm10 an10 cd10 ct10), sl10⟩) (c10 : W.codeIn K cd10 "cleared" = true) (k10 : W.keepIn K (.ref f10) = true)
    (a11 : W.nsIn K mainGlobals "first_place" = some (some (.ref f11))) (l11 : K.lookup f11 = some ⟨oc11, od11, .func (W.fnOf "first_place" "first_place" (defArgs sFirst) (defBody sFirst) (defScope sFirst) .none kV11 dc11 pm11 an11 cd11 ct11), sl11⟩) (c11 : W.codeIn K cd11 "first_place" = true) (k11 : W.keepIn K (.ref f11) = true)
    (a12 : W.nsIn K mainGlobals "rest_of" = some (some (.ref f12))) (l12 : K.lookup f12 = some ⟨oc12, od12, .func (W.fnOf "rest_of" "rest_of" (defArgs sRest) (defBody sRest) (defScope sRest) .none kV12 dc12 pm12 an12 cd12 ct12), sl12⟩) (c12 : W.codeIn K cd12 "rest_of" = true) (k12 : W.keepIn K (.ref f12) = true)
    (a13 : W.nsIn K mainGlobals "ticked" = some (some (.ref f13))) (l13 : K.lookup f13 = some ⟨oc13, od13, .func (W.fnOf "ticked" "ticked" (defArgs sTicked) (defBody sTicked) (defScope sTicked) .none kV13 dc13 pm13 an13 cd13 ct13), sl13⟩) (c13 : W.codeIn K cd13 "ticked" = true) (k13 : W.keepIn K (.ref f13) = true)
    (a14 : W.nsIn K mainGlobals "reached" = some (some (.ref f14))) (l14 : K.lookup f14 = some ⟨oc14, od14, .func (W.fnOf "reached" "reached" (defArgs sReached) (defBody sReached) (defScope sReached) .none kV14 dc14 pm14 an14 cd14 ct14), sl14⟩) (c14 : W.codeIn K cd14 "reached" = true) (k14 : W.keepIn K (.ref f14) = true)
    (a15 : W.nsIn K mainGlobals "least" = some (some (.ref f15))) (l15 : K.lookup f15 = some ⟨oc15, od15, .func (W.fnOf "least" "least" (defArgs sLeast) (defBody sLeast) (defScope sLeast) .none kV15 dc15 pm15 an15 cd15 ct15), sl15⟩) (c15 : W.codeIn K cd15 "least" = true) (k15 : W.keepIn K (.ref f15) = true)
    (a16 : W.nsIn K mainGlobals "hearing" = some (some (.ref f16))) (l16 : K.lookup f16 = some ⟨oc16, od16, .func (W.fnOf "hearing" "hearing" (defArgs sHearing) (defBody sHearing) (defScope sHearing) .none kV16 dc16 pm16 an16 cd16 ct16), sl16⟩) (c16 : W.codeIn K cd16 "hearing" = true) (k16 : W.keepIn K (.ref f16) = true)
    (a17 : W.nsIn K mainGlobals "followers" = some (some (.ref f17))) (l17 : K.lookup f17 = some ⟨oc17, od17, .func (W.fnOf "followers" "followers" (defArgs sFollow) (defBody sFollow) (defScope sFollow) .none kV17 dc17 pm17 an17 cd17 ct17), sl17⟩) (c17 : W.codeIn K cd17 "followers" = true) (k17 : W.keepIn K (.ref f17) = true)
    (a18 : W.nsIn K mainGlobals "_law_draw" = some (some (.ref f18))) (l18 : K.lookup f18 = some ⟨oc18, od18, .func (W.fnOf "_law_draw" "_law_draw" (defArgs sDraw) (defBody sDraw) (defScope sDraw) .none kV18 dc18 pm18 an18 cd18 ct18), sl18⟩) (c18 : W.codeIn K cd18 "_law_draw" = true) (k18 : W.keepIn K (.ref f18) = true)
    (a19 : W.nsIn K mainGlobals "_law_prime" = some (some (.ref f19))) (l19 : K.lookup f19 = some ⟨oc19, od19, .func (W.fnOf "_law_prime" "_law_prime" (defArgs sPrime) (defBody sPrime) (defScope sPrime) .none kV19 dc19 pm19 an19 cd19 ct19), sl19⟩) (c19 : W.codeIn K cd19 "_law_prime" = true) (k19 : W.keepIn K (.ref f19) = true)
    (a20 : W.nsIn K mainGlobals "_law_unit" = some (some (.ref f20))) (l20 : K.lookup f20 = some ⟨oc20, od20, .func (W.fnOf "_law_unit" "_law_unit" (defArgs sUnit) (defBody sUnit) (defScope sUnit) .none kV20 dc20 pm20 an20 cd20 ct20), sl20⟩) (c20 : W.codeIn K cd20 "_law_unit" = true) (k20 : W.keepIn K (.ref f20) = true)
    (a21 : W.nsIn K mainGlobals "_law_number" = some (some (.ref f21))) (l21 : K.lookup f21 = some ⟨oc21, od21, .func (W.fnOf "_law_number" "_law_number" (defArgs sNumber) (defBody sNumber) (defScope sNumber) .none kV21 dc21 pm21 an21 cd21 ct21), sl21⟩) (c21 : W.codeIn K cd21 "_law_number" = true) (k21 : W.keepIn K (.ref f21) = true)
    (a22 : W.nsIn K mainGlobals "_law_machine" = some (some (.ref f22))) (l22 : K.lookup f22 = some ⟨oc22, od22, .func (W.fnOf "_law_machine" "_law_machine" (defArgs sMachine) (defBody sMachine) (defScope sMachine) .none kV22 dc22 pm22 an22 cd22 ct22), sl22⟩) (c22 : W.codeIn K cd22 "_law_machine" = true) (k22 : W.keepIn K (.ref f22) = true)
    (a23 : W.nsIn K mainGlobals "_law_times" = some (some (.ref f23))) (l23 : K.lookup f23 = some ⟨oc23, od23, .func (W.fnOf "_law_times" "_law_times" (defArgs sTimes) (defBody sTimes) (defScope sTimes) .none kV23 dc23 pm23 an23 cd23 ct23), sl23⟩) (c23 : W.codeIn K cd23 "_law_times" = true) (k23 : W.keepIn K (.ref f23) = true)
    (a24 : W.nsIn K mainGlobals "_law_tick" = some (some (.ref f24))) (l24 : K.lookup f24 = some ⟨oc24, od24, .func (W.fnOf "_law_tick" "_law_tick" (defArgs sTick) (defBody sTick) (defScope sTick) .none kV24 dc24 pm24 an24 cd24 ct24), sl24⟩) (c24 : W.codeIn K cd24 "_law_tick" = true) (k24 : W.keepIn K (.ref f24) = true)
    (a25 : W.nsIn K mainGlobals "_law_grown" = some (some (.ref f25))) (l25 : K.lookup f25 = some ⟨oc25, od25, .func (W.fnOf "_law_grown" "_law_grown" (defArgs sGrown) (defBody sGrown) (defScope sGrown) .none kV25 dc25 pm25 an25 cd25 ct25), sl25⟩) (c25 : W.codeIn K cd25 "_law_grown" = true) (k25 : W.keepIn K (.ref f25) = true)
    (a26 : W.nsIn K mainGlobals "_law_mixed" = some (some (.ref f26))) (l26 : K.lookup f26 = some ⟨oc26, od26, .func (W.fnOf "_law_mixed" "_law_mixed" (defArgs sMixed) (defBody sMixed) (defScope sMixed) .none kV26 dc26 pm26 an26 cd26 ct26), sl26⟩) (c26 : W.codeIn K cd26 "_law_mixed" = true) (k26 : W.keepIn K (.ref f26) = true)
    (a27 : W.nsIn K mainGlobals "_law_less" = some (some (.ref f27))) (l27 : K.lookup f27 = some ⟨oc27, od27, .func (W.fnOf "_law_less" "_law_less" (defArgs sLess) (defBody sLess) (defScope sLess) .none kV27 dc27 pm27 an27 cd27 ct27), sl27⟩) (c27 : W.codeIn K cd27 "_law_less" = true) (k27 : W.keepIn K (.ref f27) = true)
    (a28 : W.nsIn K mainGlobals "_law_reduced" = some (some (.ref f28))) (l28 : K.lookup f28 = some ⟨oc28, od28, .func (W.fnOf "_law_reduced" "_law_reduced" (defArgs sRedW) (defBody sRedW) (defScope sRedW) .none kV28 dc28 pm28 an28 cd28 ct28), sl28⟩) (c28 : W.codeIn K cd28 "_law_reduced" = true) (k28 : W.keepIn K (.ref f28) = true)
    (a29 : W.nsIn K mainGlobals "_law_pair" = some (some (.ref f29))) (l29 : K.lookup f29 = some ⟨oc29, od29, .func (W.fnOf "_law_pair" "_law_pair" (defArgs sPair) (defBody sPair) (defScope sPair) .none kV29 dc29 pm29 an29 cd29 ct29), sl29⟩) (c29 : W.codeIn K cd29 "_law_pair" = true) (k29 : W.keepIn K (.ref f29) = true)
    (a30 : W.nsIn K mainGlobals "_law_ever" = some (some (.ref f30))) (l30 : K.lookup f30 = some ⟨oc30, od30, .func (W.fnOf "_law_ever" "_law_ever" (defArgs s_law_ever) (defBody s_law_ever) (defScope s_law_ever) .none kV30 dc30 pm30 an30 cd30 ct30), sl30⟩) (c30 : W.codeIn K cd30 "_law_ever" = true) (k30 : W.keepIn K (.ref f30) = true)
    (a31 : W.nsIn K mainGlobals "_law_response" = some (some (.ref f31))) (l31 : K.lookup f31 = some ⟨oc31, od31, .func (W.fnOf "_law_response" "_law_response" (defArgs s_law_response) (defBody s_law_response) (defScope s_law_response) .none kV31 dc31 pm31 an31 cd31 ct31), sl31⟩) (c31 : W.codeIn K cd31 "_law_response" = true) (k31 : W.keepIn K (.ref f31) = true)
    (a32 : W.nsIn K mainGlobals "_law_reached" = some (some (.ref f32))) (l32 : K.lookup f32 = some ⟨oc32, od32, .func (W.fnOf "_law_reached" "_law_reached" (defArgs s_law_reached) (defBody s_law_reached) (defScope s_law_reached) .none kV32 dc32 pm32 an32 cd32 ct32), sl32⟩) (c32 : W.codeIn K cd32 "_law_reached" = true) (k32 : W.keepIn K (.ref f32) = true)
    (a33 : W.nsIn K mainGlobals "_law_taken" = some (some (.ref f33))) (l33 : K.lookup f33 = some ⟨oc33, od33, .func (W.fnOf "_law_taken" "_law_taken" (defArgs s_law_taken) (defBody s_law_taken) (defScope s_law_taken) .none kV33 dc33 pm33 an33 cd33 ct33), sl33⟩) (c33 : W.codeIn K cd33 "_law_taken" = true) (k33 : W.keepIn K (.ref f33) = true)
    (a34 : W.nsIn K mainGlobals "_law_shaped" = some (some (.ref f34))) (l34 : K.lookup f34 = some ⟨oc34, od34, .func (W.fnOf "_law_shaped" "_law_shaped" (defArgs s_law_shaped) (defBody s_law_shaped) (defScope s_law_shaped) .none kV34 dc34 pm34 an34 cd34 ct34), sl34⟩) (c34 : W.codeIn K cd34 "_law_shaped" = true) (k34 : W.keepIn K (.ref f34) = true)
    (a35 : W.nsIn K mainGlobals "law" = some (some (.ref f35))) (l35 : K.lookup f35 = some ⟨oc35, od35, .func (W.fnOf "law" "law" (defArgs s_law) (defBody s_law) (defScope s_law) .none kV35 dc35 pm35 an35 cd35 ct35), sl35⟩) (c35 : W.codeIn K cd35 "law" = true) (k35 : W.keepIn K (.ref f35) = true)
    (z1 : W.nsIn K mainGlobals "range" = some none) (z2 : W.nsIn K mainGlobals "zip" = some none) (z3 : W.nsIn K mainGlobals "tuple" = some none) (z4 : W.nsIn K mainGlobals "list" = some none) (z5 : W.nsIn K mainGlobals "int" = some none) (z6 : W.nsIn K mainGlobals "bool" = some none) (z7 : W.nsIn K mainGlobals "isinstance" = some none) (z8 : W.nsIn K mainGlobals "len" = some none) (z9 : W.nsIn K mainGlobals "sum" = some none) (z10 : W.nsIn K mainGlobals "max" = some none) (z11 : W.nsIn K mainGlobals "min" = some none) (z12 : W.nsIn K mainGlobals "enumerate" = some none) (z13 : W.nsIn K mainGlobals "any" = some none) (z14 : W.nsIn K mainGlobals "all" = some none) (hs1 : (W.tabIn K "least").isSome = true) :
    ∃ fd : FuncData, (∀ (s : Shared) (v : Value), BindsTo s fd ⟨[v], []⟩ [("script", v)]) ∧ ∀ base : Heap, K.In base → base.Ns mainGlobals mg → BltAt mg base → (∀ q ∈ [tabOf K "least"], W.CodeHd base q.1 q.2) → FnOk l.prog w K mg base CX0 9 fa fd ["script"] (spLaw74 K (tabOf K "least").2) := by
  have e := hfa.symm.trans (W.mg_of X G a35)
  cases e
  have T : Txt mg := ⟨W.mg_none_of X G z1, W.mg_none_of X G z2, W.mg_none_of X G z3, W.mg_none_of X G z4, W.mg_none_of X G z5, W.mg_none_of X G z6, W.mg_none_of X G z7, W.mg_none_of X G z8, W.mg_none_of X G z9, W.mg_none_of X G z10, W.mg_none_of X G z11, W.mg_none_of X G z12, W.mg_none_of X G z13, W.mg_none_of X G z14⟩
  have F1 := fun_mk (st := sTurned) l1 c1 k1
  have F2 := fun_mk (st := sAdded) l2 c2 k2
  have F3 := fun_mk (st := sSummed) l3 c3 k3
  have F4 := fun_mk (st := sProd) l4 c4 k4
  have F5 := fun_mk (st := sProds) l5 c5 k5
  have F6 := fun_mk (st := sOnes) l6 c6 k6
  have F7 := fun_mk (st := sCols) l7 c7 k7
  have F8 := fun_mk (st := sReduced) l8 c8 k8
  have F9 := fun_mk (st := sLed) l9 c9 k9
  have F10 := fun_mk (st := sCleared) l10 c10 k10
  have F11 := fun_mk (st := sFirst) l11 c11 k11
  have F12 := fun_mk (st := sRest) l12 c12 k12
  have F13 := fun_mk (st := sTicked) l13 c13 k13
  have F14 := fun_mk (st := sReached) l14 c14 k14
  have F15 := fun_mk (st := sLeast) l15 c15 k15
  have F16 := fun_mk (st := sHearing) l16 c16 k16
  have F17 := fun_mk (st := sFollow) l17 c17 k17
  have F18 := fun_mk (st := sDraw) l18 c18 k18
  have F19 := fun_mk (st := sPrime) l19 c19 k19
  have F20 := fun_mk (st := sUnit) l20 c20 k20
  have F21 := fun_mk (st := sNumber) l21 c21 k21
  have F22 := fun_mk (st := sMachine) l22 c22 k22
  have F23 := fun_mk (st := sTimes) l23 c23 k23
  have F24 := fun_mk (st := sTick) l24 c24 k24
  have F25 := fun_mk (st := sGrown) l25 c25 k25
  have F26 := fun_mk (st := sMixed) l26 c26 k26
  have F27 := fun_mk (st := sLess) l27 c27 k27
  have F28 := fun_mk (st := sRedW) l28 c28 k28
  have F29 := fun_mk (st := sPair) l29 c29 k29
  have F30 := fun_mk (st := s_law_ever) l30 c30 k30
  have F31 := fun_mk (st := s_law_response) l31 c31 k31
  have F32 := fun_mk (st := s_law_reached) l32 c32 k32
  have F33 := fun_mk (st := s_law_taken) l33 c33 k33
  have F34 := fun_mk (st := s_law_shaped) l34 c34 k34
  have F35 := fun_mk (st := s_law) l35 c35 k35
  have b1 := F1.binds (ps := ["p", "number"]) fun _ _ _ _ _ _ us hl => us2 us hl fun _ _ => rfl
  have m1 := W.mg_of X G a1
  have b2 := F2.binds (ps := ["p", "row", "factor", "other"]) fun _ _ _ _ _ _ us hl => us4 us hl fun _ _ _ _ => rfl
  have m2 := W.mg_of X G a2
  have b3 := F3.binds (ps := ["p", "rows", "factors", "length"]) fun _ _ _ _ _ _ us hl => us4 us hl fun _ _ _ _ => rfl
  have m3 := W.mg_of X G a3
  have b4 := F4.binds (ps := ["p", "row", "other"]) fun _ _ _ _ _ _ us hl => us3 us hl fun _ _ _ => rfl
  have m4 := W.mg_of X G a4
  have b5 := F5.binds (ps := ["p", "rows", "other"]) fun _ _ _ _ _ _ us hl => us3 us hl fun _ _ _ => rfl
  have m5 := W.mg_of X G a5
  have b6 := F6.binds (ps := ["count"]) fun _ _ _ _ _ _ us hl => us1 us hl fun _ => rfl
  have m6 := W.mg_of X G a6
  have b7 := F7.binds (ps := ["rows", "length"]) fun _ _ _ _ _ _ us hl => us2 us hl fun _ _ => rfl
  have m7 := W.mg_of X G a7
  have b8 := F8.binds (ps := ["p", "rows"]) fun _ _ _ _ _ _ us hl => us2 us hl fun _ _ => rfl
  have m8 := W.mg_of X G a8
  have b9 := F9.binds (ps := ["p", "row", "place"]) fun _ _ _ _ _ _ us hl => us3 us hl fun _ _ _ => rfl
  have m9 := W.mg_of X G a9
  have b10 := F10.binds (ps := ["p", "row", "lead", "place"]) fun _ _ _ _ _ _ us hl => us4 us hl fun _ _ _ _ => rfl
  have m10 := W.mg_of X G a10
  have b11 := F11.binds (ps := ["row"]) fun _ _ _ _ _ _ us hl => us1 us hl fun _ => rfl
  have m11 := W.mg_of X G a11
  have b12 := F12.binds (ps := ["p", "steps", "row"]) fun _ _ _ _ _ _ us hl => us3 us hl fun _ _ _ => rfl
  have m12 := W.mg_of X G a12
  have b13 := F13.binds (ps := ["p", "some", "row", "states"]) fun _ _ _ _ _ _ us hl => us4 us hl fun _ _ _ _ => rfl
  have m13 := W.mg_of X G a13
  have b14 := F14.binds (ps := ["p", "some", "looked"]) fun _ _ _ _ _ _ us hl => us3 us hl fun _ _ _ => rfl
  have m14 := W.mg_of X G a14
  have b15 := F15.binds (ps := ["p", "some"]) fun _ _ _ _ _ _ us hl => us2 us hl fun _ _ => rfl
  have m15 := W.mg_of X G a15
  have b16 := F16.binds (ps := ["p", "some"]) fun _ _ _ _ _ _ us hl => us2 us hl fun _ _ => rfl
  have m16 := W.mg_of X G a16
  have b17 := F17.binds (ps := ["p", "some", "taken"]) fun _ _ _ _ _ _ us hl => us3 us hl fun _ _ _ => rfl
  have m17 := W.mg_of X G a17
  have b18 := F18.binds (ps := ["script", "k"]) fun _ _ _ _ _ _ us hl => us2 us hl fun _ _ => rfl
  have m18 := W.mg_of X G a18
  have b19 := F19.binds (ps := ["script"]) fun _ _ _ _ _ _ us hl => us1 us hl fun _ => rfl
  have m19 := W.mg_of X G a19
  have b20 := F20.binds (ps := ["length", "at"]) fun _ _ _ _ _ _ us hl => us2 us hl fun _ _ => rfl
  have m20 := W.mg_of X G a20
  have b21 := F21.binds (ps := ["draw", "p"]) fun _ _ _ _ _ _ us hl => us2 us hl fun _ _ => rfl
  have m21 := W.mg_of X G a21
  have b22 := F22.binds (ps := ["script", "at", "p", "left", "right", "states"]) fun _ _ _ _ _ _ us hl => us6 us hl fun _ _ _ _ _ _ => rfl
  have m22 := W.mg_of X G a22
  have b23 := F23.binds (ps := ["p", "row", "column"]) fun _ _ _ _ _ _ us hl => us3 us hl fun _ _ _ => rfl
  have m23 := W.mg_of X G a23
  have b24 := F24.binds (ps := ["p", "some", "asked", "kept"]) fun _ _ _ _ _ _ us hl => us4 us hl fun _ _ _ _ => rfl
  have m24 := W.mg_of X G a24
  have b25 := F25.binds (ps := ["script", "at", "p", "some"]) fun _ _ _ _ _ _ us hl => us4 us hl fun _ _ _ _ => rfl
  have m25 := W.mg_of X G a25
  have b26 := F26.binds (ps := ["p", "left", "right", "rows", "one", "other", "number"]) fun _ _ _ _ _ _ us hl => us7 us hl fun _ _ _ _ _ _ _ => rfl
  have m26 := W.mg_of X G a26
  have b27 := F27.binds (ps := ["p", "row", "head", "at"]) fun _ _ _ _ _ _ us hl => us4 us hl fun _ _ _ _ => rfl
  have m27 := W.mg_of X G a27
  have b28 := F28.binds (ps := ["p", "rows", "width"]) fun _ _ _ _ _ _ us hl => us3 us hl fun _ _ _ => rfl
  have m28 := W.mg_of X G a28
  have b29 := F29.binds (ps := ["script"]) fun _ _ _ _ _ _ us hl => us1 us hl fun _ => rfl
  have m29 := W.mg_of X G a29
  have b30 := F30.binds (ps := ["p", "one", "other"]) fun _ _ _ _ _ _ us hl => us3 us hl fun _ _ _ => rfl
  have m30 := W.mg_of X G a30
  have b31 := F31.binds (ps := ["p", "some", "kept"]) fun _ _ _ _ _ _ us hl => us3 us hl fun _ _ _ => rfl
  have m31 := W.mg_of X G a31
  have b32 := F32.binds (ps := ["p", "some", "wire", "late"]) fun _ _ _ _ _ _ us hl => us4 us hl fun _ _ _ _ => rfl
  have m32 := W.mg_of X G a32
  have b33 := F33.binds (ps := ["p", "some"]) fun _ _ _ _ _ _ us hl => us2 us hl fun _ _ => rfl
  have m33 := W.mg_of X G a33
  have b34 := F34.binds (ps := ["p", "found", "left", "states", "right"]) fun _ _ _ _ _ _ us hl => us5 us hl fun _ _ _ _ _ => rfl
  have m34 := W.mg_of X G a34
  exact ⟨W.fnOf "law" "law" (defArgs s_law) (defBody s_law) (defScope s_law) .none kV35 dc35 pm35 an35 cd35 ct35, fun s v => .of_eq rfl, fun base _ _ bb cc => ok_law74 (k := 5) (by decide) F35 T (ok_pair F29 T (ok_prime6 F19 (ok_draw F18 T) k18 b18 m18) k19 b19 m19 (ok_draw F18 T) k18 b18 m18 (ok_machine F22 T (ok_draw F18 T) k18 b18 m18 (ok_number F21) k21 b21 m21) k22 b22 m22 (ok_grown F25 T (ok_draw F18 T) k18 b18 m18 (ok_number F21) k21 b21 m21 (ok_mixed F26 T) k26 b26 m26) k25 b25 m25) k29 b29 m29 (ok_taken F33 T (ok_resp F31 T (ok_tick F24 T (ok_times F23 T) k23 b23 m23) k24 b24 m24) k31 b31 m31 (ok_reach F32 T (ok_unit F20) k20 b20 m20 (ok_tick F24 T (ok_times F23 T) k23 b23 m23) k24 b24 m24) k32 b32 m32 (ok_redW F28 T (ok_less F27 T) k27 b27 m27) k28 b28 m28) k33 b33 m33 (ok_shaped F34 T) k34 b34 m34 (ok_reach F32 T (ok_unit F20) k20 b20 m20 (ok_tick F24 T (ok_times F23 T) k23 b23 m23) k24 b24 m24) k32 b32 m32 (ok_unit F20) k20 b20 m20 (ok_ever F30 T (ok_unit F20) k20 b20 m20 (ok_tick F24 T (ok_times F23 T) k23 b23 m23) k24 b24 m24 (ok_redW F28 T (ok_less F27 T) k27 b27 m27) k28 b28 m28) k30 b30 m30 (ok_least F15 T (tab_code a15 l15 (tabOf_is hs1)) (cc _ List.mem_cons_self) bb (ok_hear F16 T (ok_summed1 F3 T F2 b2 m2) k3 b3 m3 (ok_reduced F8 T F2 b2 m2 F1 b1 m1 F3 b3 m3 F10 b10 m10 F9 b9 m9) k8 b8 m8) k16 b16 m16 (ok_reached F14 T (ok_ones F6 T) k6 b6 m6 (ok_ticked F13 (ok_prods F5 T (ok_prod F4 T) k4 b4 m4) k5 b5 m5) k13 b13 m13 (ok_rest F12 (ok_cleared F10 T F2 b2 m2) k10 b10 m10 (ok_first F11 T) k11 b11 m11) k12 b12 m12 (ok_led F9 T F2 b2 m2 F1 b1 m1 F3 b3 m3) k9 b9 m9 (ok_first F11 T) k11 b11 m11) k14 b14 m14 (ok_follow F17 (ok_ones F6 T) k6 b6 m6 (ok_ticked F13 (ok_prods F5 T (ok_prod F4 T) k4 b4 m4) k5 b5 m5) k13 b13 m13) k17 b17 m17 (ok_prods F5 T (ok_prod F4 T) k4 b4 m4) k5 b5 m5 (ok_reduced F8 T F2 b2 m2 F1 b1 m1 F3 b3 m3 F10 b10 m10 F9 b9 m9) k8 b8 m8 (ok_cols F7 T) k7 b7 m7) k15 b15 m15⟩
theorem walk {l : W.OpenLaw} {q : Program} {loose : List Str} {XP : (Str → Option Value) → Heap → Prop} {YP : World → Heap → Prop} {d : DefRec} {K : Params → W.Frag} (hn : l.most = some 63) (hdf : d.params.defaults = [])
    (hY : ∀ (w : World) (h : Heap), YP w h → (K w.params).In h) (noT : ∀ w : World, W.noTabs (K w.params) = true)
    (hT : ∀ (w : World) {mean : ExcName → Option Value} {lo : List Str} {mg mb : Str → Option Value} {h : Heap}, PyProof.Rows.Top q lo mean mg mb h → (K w.params).In h → W.TabsAt [tabOf (K w.params) "least"] h)
    (F : ∀ (w : World) (mg : Str → Option Value) (fa : Addr) (h : Heap), (K w.params).In h → h.Ns mainGlobals mg → mg d.name = some (.ref fa) →
      ∃ fd : FuncData, (∀ (s : Shared) (u : Value), BindsTo s fd ⟨[u], []⟩ [("script", u)]) ∧ ∀ base : Heap, (K w.params).In base → base.Ns mainGlobals mg → BltAt mg base → (∀ q ∈ [tabOf (K w.params) "least"], W.CodeHd base q.1 q.2) → FnOk l.prog w (K w.params) mg base CX0 9 fa fd ["script"] (spLaw74 (K w.params) (tabOf (K w.params) "least").2)) :
    W.WalkO q loose XP YP l.row.toRowW d [] (fun f vs => PySem.call f vs) :=
  L2.walk_ofT (n := 63) (k := 9) (x := "script") (tabs := fun w => [tabOf (K w.params) "least"]) (sp := fun w => spLaw74 (K w.params) (tabOf (K w.params) "least").2) hn (by decide) hdf ⟨rfl, by decide, by decide⟩ hY noT hT F fun _ _ a ns hl hS hTH => ⟨a, ns, rfl, hS, hl, .inl (hTH _ List.mem_cons_self), fun _ => rfl⟩
end S7
open PySem PySem.W PyProof.Rows
set_option maxRecDepth 100000 in
set_option maxHeartbeats 0 in
theorem PySem.Challenge.cw_bentwires_k74_least_holds : PySem.Challenge.rw_bentwires_k74_least.Holds := by
  w_on; o_law; k_head; (case hw => w_witness2)
  k_fill
  refine S7.walk (l := PySem.Challenge.rw_bentwires_k74_least) rfl rfl (fun w h Y => PySem.W.km_in_of Y) ?noT ?hT ?F
  (case noT => exact fun w => by kernel_rfl)
  (case hT => exact fun w {_ _ _ _ _} T X => L2.tabs_cons T X rfl (by kernel_rfl) (L2.tabs_nil))
  case F =>
    intro w mg fa h KX G hmg
    refine' S7.all_mk KX G hmg ?a1 ?l1 ?c1 ?k1 ?a2 ?l2 ?c2 ?k2 ?a3 ?l3 ?c3 ?k3 ?a4 ?l4 ?c4 ?k4 ?a5 ?l5 ?c5 ?k5 ?a6 ?l6 ?c6 ?k6 ?a7 ?l7 ?c7 ?k7 ?a8 ?l8 ?c8 ?k8 ?a9 ?l9 ?c9 ?k9 ?a10 ?l10 ?c10 ?k10 ?a11 ?l11 ?c11 ?k11 ?a12 ?l12 ?c12 ?k12 ?a13 ?l13 ?c13 ?k13 ?a14 ?l14 ?c14 ?k14 ?a15 ?l15 ?c15 ?k15 ?a16 ?l16 ?c16 ?k16 ?a17 ?l17 ?c17 ?k17 ?a18 ?l18 ?c18 ?k18 ?a19 ?l19 ?c19 ?k19 ?a20 ?l20 ?c20 ?k20 ?a21 ?l21 ?c21 ?k21 ?a22 ?l22 ?c22 ?k22 ?a23 ?l23 ?c23 ?k23 ?a24 ?l24 ?c24 ?k24 ?a25 ?l25 ?c25 ?k25 ?a26 ?l26 ?c26 ?k26 ?a27 ?l27 ?c27 ?k27 ?a28 ?l28 ?c28 ?k28 ?a29 ?l29 ?c29 ?k29 ?a30 ?l30 ?c30 ?k30 ?a31 ?l31 ?c31 ?k31 ?a32 ?l32 ?c32 ?k32 ?a33 ?l33 ?c33 ?k33 ?a34 ?l34 ?c34 ?k34 ?a35 ?l35 ?c35 ?k35 ?z1 ?z2 ?z3 ?z4 ?z5 ?z6 ?z7 ?z8 ?z9 ?z10 ?z11 ?z12 ?z13 ?z14 ?hs1
    (case a1 => k_is)
    (case l1 => k_is)
    (case c1 => k_is)
    (case k1 => k_is)
    (case a2 => k_is)
    (case l2 => k_is)
    (case c2 => k_is)
    (case k2 => k_is)
    (case a3 => k_is)
    (case l3 => k_is)
    (case c3 => k_is)
    (case k3 => k_is)
    (case a4 => k_is)
    (case l4 => k_is)
    (case c4 => k_is)
    (case k4 => k_is)
    (case a5 => k_is)
    (case l5 => k_is)
    (case c5 => k_is)
    (case k5 => k_is)
    (case a6 => k_is)
    (case l6 => k_is)
    (case c6 => k_is)
    (case k6 => k_is)
    (case a7 => k_is)
    (case l7 => k_is)
    (case c7 => k_is)
    (case k7 => k_is)
    (case a8 => k_is)
    (case l8 => k_is)
    (case c8 => k_is)
    (case k8 => k_is)
    (case a9 => k_is)
    (case l9 => k_is)
    (case c9 => k_is)
    (case k9 => k_is)
    (case a10 => k_is)
    (case l10 => k_is)
    (case c10 => k_is)
    (case k10 => k_is)
    (case a11 => k_is)
    (case l11 => k_is)
    (case c11 => k_is)
    (case k11 => k_is)
    (case a12 => k_is)
    (case l12 => k_is)
    (case c12 => k_is)
    (case k12 => k_is)
    (case a13 => k_is)
    (case l13 => k_is)
    (case c13 => k_is)
    (case k13 => k_is)
    (case a14 => k_is)
    (case l14 => k_is)
    (case c14 => k_is)
    (case k14 => k_is)
    (case a15 => k_is)
    (case l15 => k_is)
    (case c15 => k_is)
    (case k15 => k_is)
    (case a16 => k_is)
    (case l16 => k_is)
    (case c16 => k_is)
    (case k16 => k_is)
    (case a17 => k_is)
    (case l17 => k_is)
    (case c17 => k_is)
    (case k17 => k_is)
    (case a18 => k_is)
    (case l18 => k_is)
    (case c18 => k_is)
    (case k18 => k_is)
    (case a19 => k_is)
    (case l19 => k_is)
    (case c19 => k_is)
    (case k19 => k_is)
    (case a20 => k_is)
    (case l20 => k_is)
    (case c20 => k_is)
    (case k20 => k_is)
    (case a21 => k_is)
    (case l21 => k_is)
    (case c21 => k_is)
    (case k21 => k_is)
    (case a22 => k_is)
    (case l22 => k_is)
    (case c22 => k_is)
    (case k22 => k_is)
    (case a23 => k_is)
    (case l23 => k_is)
    (case c23 => k_is)
    (case k23 => k_is)
    (case a24 => k_is)
    (case l24 => k_is)
    (case c24 => k_is)
    (case k24 => k_is)
    (case a25 => k_is)
    (case l25 => k_is)
    (case c25 => k_is)
    (case k25 => k_is)
    (case a26 => k_is)
    (case l26 => k_is)
    (case c26 => k_is)
    (case k26 => k_is)
    (case a27 => k_is)
    (case l27 => k_is)
    (case c27 => k_is)
    (case k27 => k_is)
    (case a28 => k_is)
    (case l28 => k_is)
    (case c28 => k_is)
    (case k28 => k_is)
    (case a29 => k_is)
    (case l29 => k_is)
    (case c29 => k_is)
    (case k29 => k_is)
    (case a30 => k_is)
    (case l30 => k_is)
    (case c30 => k_is)
    (case k30 => k_is)
    (case a31 => k_is)
    (case l31 => k_is)
    (case c31 => k_is)
    (case k31 => k_is)
    (case a32 => k_is)
    (case l32 => k_is)
    (case c32 => k_is)
    (case k32 => k_is)
    (case a33 => k_is)
    (case l33 => k_is)
    (case c33 => k_is)
    (case k33 => k_is)
    (case a34 => k_is)
    (case l34 => k_is)
    (case c34 => k_is)
    (case k34 => k_is)
    (case a35 => k_is)
    (case l35 => k_is)
    (case c35 => k_is)
    (case k35 => k_is)
    (case z1 => k_is)
    (case z2 => k_is)
    (case z3 => k_is)
    (case z4 => k_is)
    (case z5 => k_is)
    (case z6 => k_is)
    (case z7 => k_is)
    (case z8 => k_is)
    (case z9 => k_is)
    (case z10 => k_is)
    (case z11 => k_is)
    (case z12 => k_is)
    (case z13 => k_is)
    (case z14 => k_is)
    (case hs1 => kernel_rfl)
#print axioms PySem.Challenge.cw_bentwires_k74_least_holds
