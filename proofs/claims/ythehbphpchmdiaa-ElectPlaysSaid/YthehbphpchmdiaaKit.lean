/-
  Words for memory, whatever the elements of slices are: rows that lie, rows that a call owns, what is appended to them, what stays. Any program.
-/
import Derived.Test.YthehbphpchmdiaaChecked
import Derived.Test.YthehbphpchmdiaaCodecWords
import Derived.Laws.AppendOwnNone
import Derived.Outline
import Derived.Deep.QuietTactic
import Derived.BigQuiet
namespace Go.Proofs.Ythehbphpchmdiaa.Kit
open Go.RowKit
open _root_.Go.Proofs.Ythehbphpchmdiaa.Codec (own_below own_lower own_stays lt_of_heap frozen_of heap_set grown_set below_new)

/-- How elements are laid: n cells each. -/
structure Enc (α : Type) where
  n : Nat
  cs : α → List Value
  z : α
  pos : 0 < n
  len : ∀ x, (cs x).length = n
  one : ∀ x, ∀ u ∈ cs x, u.oneCell' = true
section
variable {α : Type} {E : Enc α}
def cells (E : Enc α) (l : List α) : List Value := l.flatMap E.cs
theorem cells_append (l m : List α) : cells E (l ++ m) = cells E l ++ cells E m := by simp [cells]
theorem cells_snoc (l : List α) (x : α) : cells E (l ++ [x]) = cells E l ++ E.cs x := by simp [cells]
theorem cells_cons (l : List α) (x : α) : cells E (x :: l) = E.cs x ++ cells E l := by simp [cells]
theorem cells_len (l : List α) : (cells E l).length = l.length * E.n := by
  induction l with
  | nil => simp [cells]
  | cons x l ih => rw [cells_cons, List.length_append, ih, E.len, List.length_cons, Nat.succ_mul, Nat.add_comm]
theorem cells_one (l : List α) : ∀ u ∈ cells E l, u.oneCell' = true := by
  intro u hu
  simp only [cells, List.mem_flatMap] at hu
  obtain ⟨s, _, hs⟩ := hu
  exact E.one s u hs
theorem cells_at : ∀ (l : List α) (j : Nat) (_ : j < l.length) (k : Nat) (u : Value), (E.cs (l.getD j E.z))[k]? = some u → (cells E l)[j * E.n + k]? = some u
  | [], j, hj, _, _, _ => by simp at hj
  | x :: l, 0, _, k, u, h => by
    have h' : (E.cs x)[k]? = some u := by simpa using h
    have hk := (List.getElem?_eq_some_iff.1 h').1
    rw [cells_cons, Nat.zero_mul, Nat.zero_add, List.getElem?_append_left hk, h']
  | x :: l, j + 1, hj, k, u, h => by
    have ih := cells_at l j (by simpa using hj) k u (by simpa [List.getD] using h)
    rw [cells_cons, List.getElem?_append_right (by rw [E.len, Nat.succ_mul]; omega), E.len, show (j + 1) * E.n + k - E.n = j * E.n + k by rw [Nat.succ_mul]; omega, ih]
theorem cells_get (l : List α) (i : Nat) (u : Value) (h : (cells E l)[i]? = some u) : i / E.n < l.length ∧ (E.cs (l.getD (i / E.n) E.z))[i % E.n]? = some u := by
  have hi := (List.getElem?_eq_some_iff.1 h).1
  rw [cells_len] at hi
  have hj : i / E.n < l.length := by rw [Nat.div_lt_iff_lt_mul E.pos]; exact hi
  refine ⟨hj, ?_⟩
  have hk : i % E.n < (E.cs (l.getD (i / E.n) E.z)).length := by rw [E.len]; exact Nat.mod_lt _ E.pos
  have h2 := cells_at (E := E) l (i / E.n) hj (i % E.n) _ (List.getElem?_eq_getElem hk)
  rw [show i / E.n * E.n + i % E.n = i by rw [Nat.mul_comm]; exact Nat.div_add_mod i E.n, h] at h2
  rw [List.getElem?_eq_getElem hk, h2]

/-- The cells of an element. -/
def At (E : Enc α) (w : World) (b o : Nat) (x : α) : Prop := ∀ k u, (E.cs x)[k]? = some u → w.cell? ⟨b, o + k, none⟩ = some u
/-- Elements that lie. -/
def Lies (E : Enc α) (w : World) (p : Option Addr) (l : List α) : Prop := l = [] ∨ ∃ b o, p = some ⟨b, o, none⟩ ∧ ∀ j, j < l.length → At E w b (o + j * E.n) (l.getD j E.z)
theorem cell_on {w w' : World} {b o : Nat} {v : Value} (h : w.cell? ⟨b, o, none⟩ = some v) (hb : Below w.heap.size w w') : w'.cell? ⟨b, o, none⟩ = some v :=
  (hb.cell (p := ⟨b, o, none⟩) (World.block_lt_of_cell? _ _ h)).trans h
theorem At.below {w w' : World} {b o : Nat} {x : α} (h : At E w b o x) (hb : Below w.heap.size w w') : At E w' b o x := fun k u hu => cell_on (h k u hu) hb
theorem Lies.below {w w' : World} {p : Option Addr} {l : List α} (h : Lies E w p l) (hb : Below w.heap.size w w') : Lies E w' p l := by
  rcases h with h | ⟨b, o, e, hc⟩
  · exact .inl h
  · exact .inr ⟨b, o, e, fun j hj => (hc j hj).below hb⟩
theorem lies_at {w : World} {p : Option Addr} {l : List α} (h : Lies E w p l) {j : Nat} (hj : j < l.length) : ∃ b o, p = some ⟨b, o, none⟩ ∧ At E w b (o + j * E.n) (l.getD j E.z) := by
  rcases h with h | ⟨b, o, e, hc⟩
  · rw [h] at hj; simp at hj
  · exact ⟨b, o, e, hc j hj⟩
/-- One element, in a block of its own. -/
theorem lies_one {w : World} {g : Nat} {x : α} {t : TypeId} {fr : Nat × Nat} (h : w.heap[g]? = some (.cells (E.cs x).toArray t fr)) : Lies E w (some ⟨g, 0, none⟩) [x] := by
  refine .inr ⟨g, 0, rfl, fun j hj => ?_⟩
  obtain rfl : j = 0 := by simpa using hj
  intro k u hu
  rw [cell_of_row w g _ _ t fr h]
  simpa using hu

/-- Elements (of type T) that a call owns. -/
def Own (E : Enc α) (T : TypeId) (B : Nat) (w : World) (v : Value) (l : List α) : Prop := w.ownsRow B T E.n v l.length (cells E l)
variable {w w' : World} {T : TypeId} {B b : Nat} {v : Value} {l : List α}
theorem Own.none (E : Enc α) (T : TypeId) (B : Nat) (w : World) : Own E T B w (.slice Option.none 0 0) [] := World.ownsRow_nil _ _ _ _
theorem Own.on (h : Own E T B w v l) (hb : Below w.heap.size w w') : Own E T B w' v l := own_below h hb
theorem Own.lower {B' : Nat} (h : Own E T B w v l) (hb : B' ≤ B) : Own E T B' w v l := own_lower h hb
theorem Own.lies (h : Own E T B w v l) : ∃ p c, v = .slice p l.length c ∧ Lies E w p l := by
  have ho := h
  rcases h.2 with ⟨rfl, h0⟩ | ⟨g, cap, cur, rfl, h1, h2, h3⟩
  · exact ⟨Option.none, 0, by rw [h0], .inl (List.eq_nil_of_length_eq_zero h0)⟩
  · refine ⟨_, cap, rfl, .inr ⟨g, 0, rfl, fun j hj k u hu => ?_⟩⟩
    have k0 := World.ownsRow.cells (g := g) ho rfl _ _ (cells_at l j hj k u hu)
    rw [Codec.add_at, ← Nat.add_assoc] at k0
    exact k0
theorem Own.set {o : Nat} {u : Value} (h : Own E T B w v l) (hb : b < B) : Own E T B (w.setCell ⟨b, o, Option.none⟩ u) v l := by
  refine ⟨h.1, ?_⟩
  rcases h.2 with h0 | ⟨g, cap, cur, rfl, h1, h2, h3⟩
  · exact .inl h0
  · exact .inr ⟨g, cap, cur, rfl, h1, (Below.heap_setCell _ _ _ _ (by simp; omega)).trans h2, h3⟩

theorem lt_heap {w : World} {g : Nat} {o : Obj} (h : w.heap[g]? = some o) : g < w.heap.size := (Array.getElem?_eq_some_iff.1 h).1
/-- What is of none of these types stays. -/
structure Kept (ts : List TypeId) (w w' : World) : Prop where
  size : w.heap.size ≤ w'.heap.size
  obj : ∀ (g : Nat) (o : Obj), w.heap[g]? = some o → (∀ cs t z, o = Obj.cells cs t z → t ∉ ts) → w'.heap[g]? = some o
theorem Kept.block {ts : List TypeId} (h : Kept ts w w') (g : Nat) (cs : Array Value) (t : TypeId) (z : Nat × Nat) (e : w.heap[g]? = some (Obj.cells cs t z)) (ht : t ∉ ts) : w'.heap[g]? = some (Obj.cells cs t z) :=
  h.obj g _ e fun cs' t' z' k => by
    simp only [Obj.cells.injEq] at k
    exact k.2.1 ▸ ht
theorem Kept.of_below {ts : List TypeId} (hb : Below w.heap.size w w') : Kept ts w w' := ⟨hb.size, fun g _ e _ => (hb.block g (lt_heap e)).trans e⟩
theorem Kept.trans {ts : List TypeId} {w2 : World} (h : Kept ts w w') (k : Kept ts w' w2) : Kept ts w w2 := ⟨Nat.le_trans h.size k.size, fun g o e ht => k.obj g o (h.obj g o e ht) ht⟩
/-- These types' blocks stay. -/
structure Off (ts : List TypeId) (w w' : World) : Prop where
  size : w.heap.size ≤ w'.heap.size
  block : ∀ (g : Nat) (cs : Array Value) (t : TypeId) (z : Nat × Nat), w.heap[g]? = some (Obj.cells cs t z) → t ∈ ts → w'.heap[g]? = some (Obj.cells cs t z)
theorem Off.of_below {ts : List TypeId} (hb : Below w.heap.size w w') : Off ts w w' := ⟨hb.size, fun g _ _ _ e _ => (hb.block g (lt_heap e)).trans e⟩
theorem Off.trans {ts : List TypeId} {w2 : World} (h : Off ts w w') (k : Off ts w' w2) : Off ts w w2 := ⟨Nat.le_trans h.size k.size, fun g cs t z e ht => k.block g cs t z (h.block g cs t z e ht) ht⟩
theorem Own.off {ts : List TypeId} (h : Own E T B w v l) (ho : Off ts w w') (ht : T ∈ ts) : Own E T B w' v l := by
  refine ⟨h.1, ?_⟩
  rcases h.2 with h0 | ⟨g, cap, cur, rfl, h1, h2, h3⟩
  · exact .inl h0
  · exact .inr ⟨g, cap, cur, rfl, h1, ho.block g _ _ _ h2 ht, h3⟩
theorem Own.kept {ts : List TypeId} (h : Own E T B w v l) (ho : Kept ts w w') (ht : T ∉ ts) : Own E T B w' v l := by
  refine ⟨h.1, ?_⟩
  rcases h.2 with h0 | ⟨g, cap, cur, rfl, h1, h2, h3⟩
  · exact .inl h0
  · exact .inr ⟨g, cap, cur, rfl, h1, ho.block g _ _ _ h2 ht, h3⟩

/-- What a program is to say of an element's type, and of its slices'. -/
structure Laid (P : Program) (E : Enc α) (T ST : TypeId) : Prop where
  sl : P.underlying ST = some (.slice T)
  info : ∃ zv byt, (P.info? T).map (fun i => (i.zero, i.size, i.bytes)) = some (some zv, E.n, byt) ∧ zv.cells.size = E.n ∧ byt ≤ 1000
/-- One element, just laid, is appended. -/
theorem push {P : Program} {ST : TypeId} (L : Laid P E T ST) {u : World} {ops : Array Oper} {rest : List Oper} {o : Oper} {a : Act} {Q : Exit → Act → World → Prop} (hgd : o.guard = Option.none) (s y : Operand)
    (ho : o.op = .call { callee := .builtin .append, args := #[s, y], argTypes := #[ST, ST] })
    (w0 wr : World) (v : Value) (hs : a.eval s = v) (l : List α) (n : Nat) (hn : l.length = n) (hown : Own E T w0.heap.size wr v l) (hbw : Below w0.heap.size w0 wr) (hu : Below wr.heap.size wr u)
    (g : Nat) (x : α) {tg : TypeId} {fr : Nat × Nat} (hy : a.eval y = .slice (some ⟨g, 0, Option.none⟩) 1 1) (hg : u.heap[g]? = some (.cells (E.cs x).toArray tg fr)) (hlen : n ≤ 100000)
    (h : ∀ p c w', Hid (Own E T w0.heap.size w' (.slice p (n + 1) c) (l ++ [x])) → Below w0.heap.size w0 w' → wpList P ops Q rest (a.put o.dst (.slice p (n + 1) c)) w') : wpList P ops Q (o :: rest) a u := by
  subst hn
  obtain ⟨zv, byt, hi0, hzc, hby⟩ := L.info
  obtain ⟨i0, hi, hz0, hz1, hz2⟩ := info_parts hi0
  have hmul : (l.length + 1) * byt ≤ 100001 * 1000 := Nat.mul_le_mul (by omega) hby
  refine wpList_append_own _ hgd s y ST ho w0.heap.size T i0 zv E.n byt L.sl hi hz0 hz1 hz2 hzc E.pos v l.length (cells E l) hs (own_below hown hu) ⟨g, 0, Option.none⟩ 1 1 (E.cs x) hy (by rw [E.len, Nat.one_mul]) (fun j z hz => World.news_of_block hg j z (by simpa using hz)) (E.one x) (by unfold maxLen; omega) (by omega) (Nat.le_trans hbw.size hu.size) ?_
  intro v' w' ho2 hg2 _
  have hb2 := (hbw.trans (hu.mono hbw.size)).grown hg2 (Nat.le_trans hbw.size hu.size) (fun k hk => (World.ownsRow.lt hown k hk).1)
  have R : Own E T w0.heap.size w' v' (l ++ [x]) := by
    unfold Own
    rw [cells_snoc, List.length_append]
    exact ho2
  obtain ⟨p, c, rfl⟩ : ∃ p c, v' = .slice p (l.length + 1) c := by
    rcases ho2.2 with ⟨_, h0⟩ | ⟨g, cap, cur, rfl, _⟩
    · omega
    · exact ⟨_, cap, rfl⟩
  exact h p c w' R hb2
/-- All elements of a slice that lies are appended. -/
theorem pushes {P : Program} {ST : TypeId} (L : Laid P E T ST) {u : World} {ops : Array Oper} {rest : List Oper} {o : Oper} {a : Act} {Q : Exit → Act → World → Prop} (hgd : o.guard = Option.none) (s y : Operand)
    (ho : o.op = .call { callee := .builtin .append, args := #[s, y], argTypes := #[ST, ST] })
    (w0 wr : World) (v : Value) (hs : a.eval s = v) (l : List α) (n : Nat) (hn : l.length = n) (hown : Own E T w0.heap.size wr v l) (hbw : Below w0.heap.size w0 wr) (hu : Below wr.heap.size wr u)
    (m : List α) (k c0 : Nat) (p0 : Option Addr) (hm : m.length = k) (hy : a.eval y = .slice p0 k c0) (hl : Lies E u p0 m) (hnil : p0 = Option.none → c0 = 0) (hlen : n + k ≤ 100000)
    (h : ∀ p c w', Hid (Own E T w0.heap.size w' (.slice p (n + k) c) (l ++ m)) → Below w0.heap.size w0 w' → wpList P ops Q rest (a.put o.dst (.slice p (n + k) c)) w') : wpList P ops Q (o :: rest) a u := by
  subst hn hm
  obtain ⟨zv, byt, hi0, hzc, hby⟩ := L.info
  obtain ⟨i0, hi, hz0, hz1, hz2⟩ := info_parts hi0
  have hmul : (l.length + m.length) * byt ≤ 100000 * 1000 := Nat.mul_le_mul (by omega) hby
  cases p0 with
  | none =>
    have hm0 : m = [] := by
      rcases hl with hl | ⟨b, o, e, -⟩
      · exact hl
      · cases e
    subst hm0
    obtain rfl := hnil rfl
    have ho1 : Own E T w0.heap.size u v l := own_below hown hu
    refine wpList_append_own_none hgd s y ST ho w0.heap.size T i0 E.n L.sl hi v l.length (cells E l) hs ho1 hy ?_
    obtain ⟨p, c, rfl, -⟩ := ho1.lies
    exact h p c u (by rw [List.append_nil]; exact ho1) (hbw.trans (hu.mono hbw.size))
  | some ad =>
    refine wpList_append_own _ hgd s y ST ho w0.heap.size T i0 zv E.n byt L.sl hi hz0 hz1 hz2 hzc E.pos v l.length (cells E l) hs (own_below hown hu) ad m.length c0 (cells E m) hy (cells_len m) ?_ (cells_one m) (by unfold maxLen; omega) (by omega) (Nat.le_trans hbw.size hu.size) ?_
    · intro j z hz
      rcases hl with hl | ⟨b, o, e, hc⟩
      · subst hl
        simp [cells] at hz
      · simp only [Option.some.injEq] at e
        subst e
        obtain ⟨h1, h2⟩ := cells_get m j z hz
        have h3 := hc _ h1 _ _ h2
        rw [Codec.add_at]
        rw [Nat.add_assoc, show j / E.n * E.n + j % E.n = j by rw [Nat.mul_comm]; exact Nat.div_add_mod j E.n] at h3
        exact h3
    · intro v' w' ho2 hg2 _
      have hb2 := (hbw.trans (hu.mono hbw.size)).grown hg2 (Nat.le_trans hbw.size hu.size) (fun k hk => (World.ownsRow.lt hown k hk).1)
      have R : Own E T w0.heap.size w' v' (l ++ m) := by
        unfold Own
        rw [cells_append, List.length_append]
        exact ho2
      obtain ⟨p, c, e, -⟩ := R.lies
      rw [List.length_append] at e
      subst e
      exact h p c w' R hb2
/-- A new, empty row with room. -/
theorem own_made (u : World) (B : Nat) (hB : B ≤ u.heap.size) : Own E T B (u.alloc (.cells #[] T)) (.slice (some ⟨u.heap.size, 0, Option.none⟩) 0 0) [] :=
  World.ownsRow_made u #[] 0 hB (Nat.zero_le _) (by simp)
end
/-- Ints. -/
def ints : Enc Int := ⟨1, fun x => [.int .i64 x], 0, by decide, fun _ => rfl, fun x u hu => by simp at hu; subst hu; rfl⟩
theorem ints_lies {w : World} {p : Option Addr} {l : List Int} : Lies ints w p l ↔ Codec.Ints w p l := by
  constructor
  · rintro (h | ⟨b, o, e, hc⟩)
    · exact .inl h
    · exact .inr ⟨b, o, e, fun j hj => by have := hc j hj 0 _ rfl; simpa [ints] using this⟩
  · rintro (h | ⟨b, o, e, hc⟩)
    · exact .inl h
    · refine .inr ⟨b, o, e, fun j hj k u hu => ?_⟩
      match k, hu with
      | 0, hu =>
        simp only [ints, List.getElem?_cons_zero, Option.some.injEq] at hu
        subst hu
        have := hc j hj
        simpa [ints] using this
theorem box5 {w : World} {b : Nat} {v0 v1 v2 v3 v4 : Value} {T : TypeId} (h : w.heap[b]? = some (.cells #[v0, v1, v2, v3, v4] T (0, 0))) : w.cell? ⟨b, 0, none⟩ = some v0 ∧ w.cell? ⟨b, 1, none⟩ = some v1 ∧ w.cell? ⟨b, 2, none⟩ = some v2 ∧ w.cell? ⟨b, 3, none⟩ = some v3 ∧ w.cell? ⟨b, 4, none⟩ = some v4 :=
  ⟨by rw [cell_of_row w b 0 _ _ (0, 0) h]; rfl, by rw [cell_of_row w b 1 _ _ (0, 0) h]; rfl, by rw [cell_of_row w b 2 _ _ (0, 0) h]; rfl, by rw [cell_of_row w b 3 _ _ (0, 0) h]; rfl, by rw [cell_of_row w b 4 _ _ (0, 0) h]; rfl⟩
theorem below_drewN (w : World) (n : Nat) : Below w.heap.size w (w.drewN n) := ⟨rfl, rfl, rfl, Nat.le_refl _, fun _ _ => rfl⟩
theorem take_snoc {α : Type} {l : List α} {j : Nat} (z : α) (h : j < l.length) : l.take (j + 1) = l.take j ++ [l.getD j z] := by
  rw [List.take_add_one]
  simp [List.getD, h]
end Go.Proofs.Ythehbphpchmdiaa.Kit
