/-
  Words for memory, whatever the elements of slices are: rows that lie, rows that a call owns, what is appended to them, what stays. Any program.
  The document's numbers (annonaref01): Fit, Two, Sub, Add, Mul return what the plain functions of SatPlain give, and leave the world as it was; any ints, and for Add any slice of up to 100000 cells that are ints.
  Words for memory: items, the document's queue, what lies of it, and what a step of it leaves alone. No conditions beyond those that each names.
  Notes as data, and estimates of them: the greatest of all, each halved as often as something was noted since; which keys have one; how much is wanted. Plain functions, no program.
  Words for memory: notes, the document's estimates, what lies of them, and what a step of them leaves alone. No conditions beyond those that each names.
  Two rows of one element type that a call owns, each in a block of its own: what is appended to the one leaves the other. Any program.
  The document's in, a key, and a row: each returns what the plain functions of FramePlain give; of what lay when the call began nothing has turned; any ints, any leases.
  Words for memory: tables and rows by value, their boxes; rows, leases and ints that a call owns. No conditions beyond those that each names.
  The document's at, Find, out, Total of any table and row of up to 1000 rows and leases return what the plain functions of LedgerPlain give; of what lay when the call began nothing has turned.
  The document's Total of any row of up to 1000 leases returns what the plain function of LedgerPlain gives; of what lay when the call began nothing has turned.
  The document's queue as two cells of a bigger block (at ov: its room; its items): what lies of it, and what a step of it leaves alone. No conditions beyond those that each names.
  The document's estimates as one cell of a bigger block (at ov): what lies of it, and what a step of it leaves alone. No conditions beyond those that each names.
  The document's Drop, of any wallet of up to 1000 leases.
  The calls of package sat return what the plain functions of SatPlain give, and leave the world as it was; any ints, and for Add any slice whose cells are ints.
  The document's Drop, of any wallet of up to 1000 leases.
-/
import Derived.Laws.AppendOwnNone
import Derived.Outline
import Derived.Deep.QuietTactic
import Derived.BigQuiet
import Derived.WalkKit
import Derived.ProofKit
import Derived.Lib.Hide
import Derived.IntWalk
import Derived.Maps.AppendAt
import Derived.Test.YtbgdlokegibkmaaGreatChecked
import Derived.Test.YtbgdlokegibkmaaGreatMmAa
namespace Go.Proofs.YtbgdlokegibkmaaGreat.Kit
open Go.RowKit
open _root_.Go.Proofs.YtbgdlokegibkmaaGreat.Codec (own_below own_lower lt_of_heap frozen_of heap_set grown_set)
/-- How elements are laid: n cells each. -/
structure Enc (α : Type) where
  n : Nat
  cs : α → List Value
  z : α
  pos : 0 < n
  len : ∀ x, (cs x).length = n
  one : ∀ x, ∀ u ∈ cs x, u.oneCell' = true
section
variable {α : Type} {E : Enc α}
def cells (E : Enc α) (l : List α) : List Value := l.flatMap E.cs
theorem cells_append (l m : List α) : cells E (l ++ m) = cells E l ++ cells E m := by simp [cells]
theorem cells_snoc (l : List α) (x : α) : cells E (l ++ [x]) = cells E l ++ E.cs x := by simp [cells]
theorem cells_cons (l : List α) (x : α) : cells E (x :: l) = E.cs x ++ cells E l := by simp [cells]
theorem cells_len (l : List α) : (cells E l).length = l.length * E.n := by
  induction l with
  | nil => simp [cells]
  | cons x l ih => rw [cells_cons, List.length_append, ih, E.len, List.length_cons, Nat.succ_mul, Nat.add_comm]
theorem cells_one (l : List α) : ∀ u ∈ cells E l, u.oneCell' = true := by
  intro u hu
  simp only [cells, List.mem_flatMap] at hu
  obtain ⟨s, _, hs⟩ := hu
  exact E.one s u hs
theorem cells_at : ∀ (l : List α) (j : Nat) (_ : j < l.length) (k : Nat) (u : Value), (E.cs (l.getD j E.z))[k]? = some u → (cells E l)[j * E.n + k]? = some u
  | [], j, hj, _, _, _ => by simp at hj
  | x :: l, 0, _, k, u, h => by
    have h' : (E.cs x)[k]? = some u := by simpa using h
    have hk := (List.getElem?_eq_some_iff.1 h').1
    rw [cells_cons, Nat.zero_mul, Nat.zero_add, List.getElem?_append_left hk, h']
  | x :: l, j + 1, hj, k, u, h => by
    have ih := cells_at l j (by simpa using hj) k u (by simpa [List.getD] using h)
    rw [cells_cons, List.getElem?_append_right (by rw [E.len, Nat.succ_mul]; omega), E.len, show (j + 1) * E.n + k - E.n = j * E.n + k by rw [Nat.succ_mul]; omega, ih]
theorem cells_get (l : List α) (i : Nat) (u : Value) (h : (cells E l)[i]? = some u) : i / E.n < l.length ∧ (E.cs (l.getD (i / E.n) E.z))[i % E.n]? = some u := by
  have hi := (List.getElem?_eq_some_iff.1 h).1
  rw [cells_len] at hi
  have hj : i / E.n < l.length := by rw [Nat.div_lt_iff_lt_mul E.pos]; exact hi
  refine ⟨hj, ?_⟩
  have hk : i % E.n < (E.cs (l.getD (i / E.n) E.z)).length := by rw [E.len]; exact Nat.mod_lt _ E.pos
  have h2 := cells_at (E := E) l (i / E.n) hj (i % E.n) _ (List.getElem?_eq_getElem hk)
  rw [show i / E.n * E.n + i % E.n = i by rw [Nat.mul_comm]; exact Nat.div_add_mod i E.n, h] at h2
  rw [List.getElem?_eq_getElem hk, h2]
/-- The cells of an element. -/
def At (E : Enc α) (w : World) (b o : Nat) (x : α) : Prop := ∀ k u, (E.cs x)[k]? = some u → w.cell? ⟨b, o + k, none⟩ = some u
/-- Elements that lie. -/
def Lies (E : Enc α) (w : World) (p : Option Addr) (l : List α) : Prop := l = [] ∨ ∃ b o, p = some ⟨b, o, none⟩ ∧ ∀ j, j < l.length → At E w b (o + j * E.n) (l.getD j E.z)
theorem cell_on {w w' : World} {b o : Nat} {v : Value} (h : w.cell? ⟨b, o, none⟩ = some v) (hb : Below w.heap.size w w') : w'.cell? ⟨b, o, none⟩ = some v :=
  (hb.cell (p := ⟨b, o, none⟩) (World.block_lt_of_cell? _ _ h)).trans h
theorem At.below {w w' : World} {b o : Nat} {x : α} (h : At E w b o x) (hb : Below w.heap.size w w') : At E w' b o x := fun k u hu => cell_on (h k u hu) hb
theorem Lies.below {w w' : World} {p : Option Addr} {l : List α} (h : Lies E w p l) (hb : Below w.heap.size w w') : Lies E w' p l := by
  rcases h with h | ⟨b, o, e, hc⟩
  · exact .inl h
  · exact .inr ⟨b, o, e, fun j hj => (hc j hj).below hb⟩
theorem lies_at {w : World} {p : Option Addr} {l : List α} (h : Lies E w p l) {j : Nat} (hj : j < l.length) : ∃ b o, p = some ⟨b, o, none⟩ ∧ At E w b (o + j * E.n) (l.getD j E.z) := by
  rcases h with h | ⟨b, o, e, hc⟩
  · rw [h] at hj; simp at hj
  · exact ⟨b, o, e, hc j hj⟩
/-- One element, in a block of its own. -/
theorem lies_one {w : World} {g : Nat} {x : α} {t : TypeId} {fr : Nat × Nat} (h : w.heap[g]? = some (.cells (E.cs x).toArray t fr)) : Lies E w (some ⟨g, 0, none⟩) [x] := by
  refine .inr ⟨g, 0, rfl, fun j hj => ?_⟩
  obtain rfl : j = 0 := by simpa using hj
  intro k u hu
  rw [cell_of_row w g _ _ t fr h]
  simpa using hu
/-- Elements (of type T) that a call owns. -/
def Own (E : Enc α) (T : TypeId) (B : Nat) (w : World) (v : Value) (l : List α) : Prop := w.ownsRow B T E.n v l.length (cells E l)
variable {w w' : World} {T : TypeId} {B b : Nat} {v : Value} {l : List α}
theorem Own.none (E : Enc α) (T : TypeId) (B : Nat) (w : World) : Own E T B w (.slice Option.none 0 0) [] := World.ownsRow_nil _ _ _ _
theorem Own.on (h : Own E T B w v l) (hb : Below w.heap.size w w') : Own E T B w' v l := own_below h hb
theorem Own.lower {B' : Nat} (h : Own E T B w v l) (hb : B' ≤ B) : Own E T B' w v l := own_lower h hb
theorem Own.lies (h : Own E T B w v l) : ∃ p c, v = .slice p l.length c ∧ Lies E w p l := by
  have ho := h
  rcases h.2 with ⟨rfl, h0⟩ | ⟨g, cap, cur, rfl, h1, h2, h3⟩
  · exact ⟨Option.none, 0, by rw [h0], .inl (List.eq_nil_of_length_eq_zero h0)⟩
  · refine ⟨_, cap, rfl, .inr ⟨g, 0, rfl, fun j hj k u hu => ?_⟩⟩
    have k0 := World.ownsRow.cells (g := g) ho rfl _ _ (cells_at l j hj k u hu)
    rw [Codec.add_at, ← Nat.add_assoc] at k0
    exact k0
theorem Own.set {o : Nat} {u : Value} (h : Own E T B w v l) (hb : b < B) : Own E T B (w.setCell ⟨b, o, Option.none⟩ u) v l := by
  refine ⟨h.1, ?_⟩
  rcases h.2 with h0 | ⟨g, cap, cur, rfl, h1, h2, h3⟩
  · exact .inl h0
  · exact .inr ⟨g, cap, cur, rfl, h1, (Below.heap_setCell _ _ _ _ (by simp; omega)).trans h2, h3⟩
theorem lt_heap {w : World} {g : Nat} {o : Obj} (h : w.heap[g]? = some o) : g < w.heap.size := (Array.getElem?_eq_some_iff.1 h).1
/-- What is of none of these types stays. -/
structure Kept (ts : List TypeId) (w w' : World) : Prop where
  size : w.heap.size ≤ w'.heap.size
  obj : ∀ (g : Nat) (o : Obj), w.heap[g]? = some o → (∀ cs t z, o = Obj.cells cs t z → t ∉ ts) → w'.heap[g]? = some o
theorem Kept.block {ts : List TypeId} (h : Kept ts w w') (g : Nat) (cs : Array Value) (t : TypeId) (z : Nat × Nat) (e : w.heap[g]? = some (Obj.cells cs t z)) (ht : t ∉ ts) : w'.heap[g]? = some (Obj.cells cs t z) :=
  h.obj g _ e fun cs' t' z' k => by
    simp only [Obj.cells.injEq] at k
    exact k.2.1 ▸ ht
theorem Kept.of_below {ts : List TypeId} (hb : Below w.heap.size w w') : Kept ts w w' := ⟨hb.size, fun g _ e _ => (hb.block g (lt_heap e)).trans e⟩
/-- These types' blocks stay. -/
structure Off (ts : List TypeId) (w w' : World) : Prop where
  size : w.heap.size ≤ w'.heap.size
  block : ∀ (g : Nat) (cs : Array Value) (t : TypeId) (z : Nat × Nat), w.heap[g]? = some (Obj.cells cs t z) → t ∈ ts → w'.heap[g]? = some (Obj.cells cs t z)
theorem Off.of_below {ts : List TypeId} (hb : Below w.heap.size w w') : Off ts w w' := ⟨hb.size, fun g _ _ _ e _ => (hb.block g (lt_heap e)).trans e⟩
theorem Off.trans {ts : List TypeId} {w2 : World} (h : Off ts w w') (k : Off ts w' w2) : Off ts w w2 := ⟨Nat.le_trans h.size k.size, fun g cs t z e ht => k.block g cs t z (h.block g cs t z e ht) ht⟩
theorem Own.off {ts : List TypeId} (h : Own E T B w v l) (ho : Off ts w w') (ht : T ∈ ts) : Own E T B w' v l := by
  refine ⟨h.1, ?_⟩
  rcases h.2 with h0 | ⟨g, cap, cur, rfl, h1, h2, h3⟩
  · exact .inl h0
  · exact .inr ⟨g, cap, cur, rfl, h1, ho.block g _ _ _ h2 ht, h3⟩
theorem Own.kept {ts : List TypeId} (h : Own E T B w v l) (ho : Kept ts w w') (ht : T ∉ ts) : Own E T B w' v l := by
  refine ⟨h.1, ?_⟩
  rcases h.2 with h0 | ⟨g, cap, cur, rfl, h1, h2, h3⟩
  · exact .inl h0
  · exact .inr ⟨g, cap, cur, rfl, h1, ho.block g _ _ _ h2 ht, h3⟩
/-- What a program is to say of an element's type, and of its slices'. -/
structure Laid (P : Program) (E : Enc α) (T ST : TypeId) : Prop where
  sl : P.underlying ST = some (.slice T)
  info : ∃ zv byt, (P.info? T).map (fun i => (i.zero, i.size, i.bytes)) = some (some zv, E.n, byt) ∧ zv.cells.size = E.n ∧ byt ≤ 1000
/-- One element, just laid, is appended. -/
theorem push {P : Program} {ST : TypeId} (L : Laid P E T ST) {u : World} {ops : Array Oper} {rest : List Oper} {o : Oper} {a : Act} {Q : Exit → Act → World → Prop} (hgd : o.guard = Option.none) (s y : Operand)
    (ho : o.op = .call { callee := .builtin .append, args := #[s, y], argTypes := #[ST, ST] })
    (w0 wr : World) (v : Value) (hs : a.eval s = v) (l : List α) (n : Nat) (hn : l.length = n) (hown : Own E T w0.heap.size wr v l) (hbw : Below w0.heap.size w0 wr) (hu : Below wr.heap.size wr u)
    (g : Nat) (x : α) {tg : TypeId} {fr : Nat × Nat} (hy : a.eval y = .slice (some ⟨g, 0, Option.none⟩) 1 1) (hg : u.heap[g]? = some (.cells (E.cs x).toArray tg fr)) (hlen : n ≤ 100000)
    (h : ∀ p c w', Hid (Own E T w0.heap.size w' (.slice p (n + 1) c) (l ++ [x])) → Below w0.heap.size w0 w' → wpList P ops Q rest (a.put o.dst (.slice p (n + 1) c)) w') : wpList P ops Q (o :: rest) a u := by
  subst hn
  obtain ⟨zv, byt, hi0, hzc, hby⟩ := L.info
  obtain ⟨i0, hi, hz0, hz1, hz2⟩ := info_parts hi0
  have hmul : (l.length + 1) * byt ≤ 100001 * 1000 := Nat.mul_le_mul (by omega) hby
  refine wpList_append_own _ hgd s y ST ho w0.heap.size T i0 zv E.n byt L.sl hi hz0 hz1 hz2 hzc E.pos v l.length (cells E l) hs (own_below hown hu) ⟨g, 0, Option.none⟩ 1 1 (E.cs x) hy (by rw [E.len, Nat.one_mul]) (fun j z hz => World.news_of_block hg j z (by simpa using hz)) (E.one x) (by unfold maxLen; omega) (by omega) (Nat.le_trans hbw.size hu.size) ?_
  intro v' w' ho2 hg2 _
  have hb2 := (hbw.trans (hu.mono hbw.size)).grown hg2 (Nat.le_trans hbw.size hu.size) (fun k hk => (World.ownsRow.lt hown k hk).1)
  have R : Own E T w0.heap.size w' v' (l ++ [x]) := by
    unfold Own
    rw [cells_snoc, List.length_append]
    exact ho2
  obtain ⟨p, c, rfl⟩ : ∃ p c, v' = .slice p (l.length + 1) c := by
    rcases ho2.2 with ⟨_, h0⟩ | ⟨g, cap, cur, rfl, _⟩
    · omega
    · exact ⟨_, cap, rfl⟩
  exact h p c w' R hb2
/-- All elements of a slice that lies are appended. -/
theorem pushes {P : Program} {ST : TypeId} (L : Laid P E T ST) {u : World} {ops : Array Oper} {rest : List Oper} {o : Oper} {a : Act} {Q : Exit → Act → World → Prop} (hgd : o.guard = Option.none) (s y : Operand)
    (ho : o.op = .call { callee := .builtin .append, args := #[s, y], argTypes := #[ST, ST] })
    (w0 wr : World) (v : Value) (hs : a.eval s = v) (l : List α) (n : Nat) (hn : l.length = n) (hown : Own E T w0.heap.size wr v l) (hbw : Below w0.heap.size w0 wr) (hu : Below wr.heap.size wr u)
    (m : List α) (k c0 : Nat) (p0 : Option Addr) (hm : m.length = k) (hy : a.eval y = .slice p0 k c0) (hl : Lies E u p0 m) (hnil : p0 = Option.none → c0 = 0) (hlen : n + k ≤ 100000)
    (h : ∀ p c w', Hid (Own E T w0.heap.size w' (.slice p (n + k) c) (l ++ m)) → Below w0.heap.size w0 w' → wpList P ops Q rest (a.put o.dst (.slice p (n + k) c)) w') : wpList P ops Q (o :: rest) a u := by
  subst hn hm
  obtain ⟨zv, byt, hi0, hzc, hby⟩ := L.info
  obtain ⟨i0, hi, hz0, hz1, hz2⟩ := info_parts hi0
  have hmul : (l.length + m.length) * byt ≤ 100000 * 1000 := Nat.mul_le_mul (by omega) hby
  cases p0 with
  | none =>
    have hm0 : m = [] := by
      rcases hl with hl | ⟨b, o, e, -⟩
      · exact hl
      · cases e
    subst hm0
    obtain rfl := hnil rfl
    have ho1 : Own E T w0.heap.size u v l := own_below hown hu
    refine wpList_append_own_none hgd s y ST ho w0.heap.size T i0 E.n L.sl hi v l.length (cells E l) hs ho1 hy ?_
    obtain ⟨p, c, rfl, -⟩ := ho1.lies
    exact h p c u (by rw [List.append_nil]; exact ho1) (hbw.trans (hu.mono hbw.size))
  | some ad =>
    refine wpList_append_own _ hgd s y ST ho w0.heap.size T i0 zv E.n byt L.sl hi hz0 hz1 hz2 hzc E.pos v l.length (cells E l) hs (own_below hown hu) ad m.length c0 (cells E m) hy (cells_len m) ?_ (cells_one m) (by unfold maxLen; omega) (by omega) (Nat.le_trans hbw.size hu.size) ?_
    · intro j z hz
      rcases hl with hl | ⟨b, o, e, hc⟩
      · subst hl
        simp [cells] at hz
      · simp only [Option.some.injEq] at e
        subst e
        obtain ⟨h1, h2⟩ := cells_get m j z hz
        have h3 := hc _ h1 _ _ h2
        rw [Codec.add_at]
        rw [Nat.add_assoc, show j / E.n * E.n + j % E.n = j by rw [Nat.mul_comm]; exact Nat.div_add_mod j E.n] at h3
        exact h3
    · intro v' w' ho2 hg2 _
      have hb2 := (hbw.trans (hu.mono hbw.size)).grown hg2 (Nat.le_trans hbw.size hu.size) (fun k hk => (World.ownsRow.lt hown k hk).1)
      have R : Own E T w0.heap.size w' v' (l ++ m) := by
        unfold Own
        rw [cells_append, List.length_append]
        exact ho2
      obtain ⟨p, c, e, -⟩ := R.lies
      rw [List.length_append] at e
      subst e
      exact h p c w' R hb2
/-- A new, empty row with room. -/
theorem own_made (u : World) (B : Nat) (hB : B ≤ u.heap.size) : Own E T B (u.alloc (.cells #[] T)) (.slice (some ⟨u.heap.size, 0, Option.none⟩) 0 0) [] :=
  World.ownsRow_made u #[] 0 hB (Nat.zero_le _) (by simp)
end
/-- Ints. -/
def ints : Enc Int := ⟨1, fun x => [.int .i64 x], 0, by decide, fun _ => rfl, fun x u hu => by simp at hu; subst hu; rfl⟩
theorem box5 {w : World} {b : Nat} {v0 v1 v2 v3 v4 : Value} {T : TypeId} (h : w.heap[b]? = some (.cells #[v0, v1, v2, v3, v4] T (0, 0))) : w.cell? ⟨b, 0, none⟩ = some v0 ∧ w.cell? ⟨b, 1, none⟩ = some v1 ∧ w.cell? ⟨b, 2, none⟩ = some v2 ∧ w.cell? ⟨b, 3, none⟩ = some v3 ∧ w.cell? ⟨b, 4, none⟩ = some v4 :=
  ⟨by rw [cell_of_row w b 0 _ _ (0, 0) h]; rfl, by rw [cell_of_row w b 1 _ _ (0, 0) h]; rfl, by rw [cell_of_row w b 2 _ _ (0, 0) h]; rfl, by rw [cell_of_row w b 3 _ _ (0, 0) h]; rfl, by rw [cell_of_row w b 4 _ _ (0, 0) h]; rfl⟩
theorem below_drewN (w : World) (n : Nat) : Below w.heap.size w (w.drewN n) := ⟨rfl, rfl, rfl, Nat.le_refl _, fun _ _ => rfl⟩
theorem take_snoc {α : Type} {l : List α} {j : Nat} (z : α) (h : j < l.length) : l.take (j + 1) = l.take j ++ [l.getD j z] := by
  rw [List.take_add_one]
  simp [List.getD, h]
end Go.Proofs.YtbgdlokegibkmaaGreat.Kit

namespace Go.Proofs.YtbgdlokegibkmaaGreat.Sat
open Go.RowKit
theorem rret_int {k : IntKind} {a b : Int} (h : a = b) : Ending.returned (.int k a) = .returned (.int k b) := by rw [h]
theorem rfit_any (x : Int) (w : World) :
    Calls Tryz.prog 70 #[.int .i64 x] w fun e w' => e = .returned (.int .i64 (fit x)) ∧ w = w' := by
  by_cases h1 : x < 0
  · go_enter Tryz.func70, Tryz.ntmps70
    go_wp2
    go_ret
    exact ⟨rret_int (by unfold fit; rw [if_pos h1]), rfl⟩
  · by_cases h2 : 4611686018427387904 < x
    · go_enter Tryz.func70, Tryz.ntmps70
      go_wp2
      go_ret
      exact ⟨rret_int (by unfold fit top; rw [if_neg (by omega), if_pos h2]), rfl⟩
    · go_enter Tryz.func70, Tryz.ntmps70
      go_wp2
      go_ret
      exact ⟨rret_int (by unfold fit top; rw [if_neg (by omega), if_neg (by omega)]), rfl⟩
theorem add_two (a b : Int) : add [a, b] = if 4611686018427387904 - fit a < fit b then 4611686018427387904 else fit a + fit b := by
  unfold add top; rw [sum_two]
  by_cases h : 4611686018427387904 < fit a + fit b
  · rw [if_pos h, if_pos (by omega)]
  · rw [if_neg h, if_neg (by omega)]
theorem rtwo_any (a b : Int) (w : World) :
    Calls Tryz.prog 50 #[.int .i64 a, .int .i64 b] w fun e w' => e = .returned (.int .i64 (add [a, b])) ∧ w = w' := by
  have a0 := fit_lo a; have a1 := fit_hi a; have b0 := fit_lo b; have b1 := fit_hi b
  have HE := Lib.hid (add_two a b)
  by_cases h : 4611686018427387904 - fit a < fit b
  · go_enter Tryz.func50, Tryz.ntmps50
    go_wp2_with (go_at_call 70; refine (rfit_any _ _).mono ?_; rintro e w' ⟨rfl, rfl⟩)
    go_ret
    exact ⟨rret_int (by rw [HE.out, if_pos h]), rfl⟩
  · go_enter Tryz.func50, Tryz.ntmps50
    go_wp2_with (go_at_call 70; refine (rfit_any _ _).mono ?_; rintro e w' ⟨rfl, rfl⟩)
    go_ret
    exact ⟨rret_int (by rw [HE.out, if_neg (by omega)]), rfl⟩
theorem radd_take (l : List Int) (k : Nat) (h : k < l.length) : add (l.take (k + 1)) = add [add (l.take k), l.getD k 0] := by
  have e : l.take (k + 1) = l.take k ++ [l.getD k 0] := by
    rw [List.take_succ_eq_append_getElem h]
    simp [List.getD, h]
  have h1 : sum (l.take (k + 1)) = sum (l.take k) + fit (l.getD k 0) := by rw [e, sum_append]; simp [sum]
  have h2 := sum_two (add (l.take k)) (l.getD k 0)
  rw [fit_add] at h2
  have h3 := fit_lo (l.getD k 0)
  unfold add at h2 ⊢
  rw [h1, h2]
  unfold top
  repeat' split
  all_goals omega
theorem radd_any (l : List Int) (p : Option Addr) (c : Nat) (w : World) (hl : l.length ≤ 100000)
    (hc : ∀ k : Nat, k < l.length → ∃ b o, p = some ⟨b, o, none⟩ ∧ w.cell? ⟨b, o + k, none⟩ = some (.int .i64 (l.getD k 0))) :
    Calls Tryz.prog 72 #[.slice p l.length c] w fun e w' => e = .returned (.int .i64 (add l)) ∧ w = w' := by
  have HC := Lib.hid hc; clear hc
  go_enter Tryz.func72, Tryz.ntmps72
  go_wp2
  go_loop [3, 4] (fun s i => ∃ k : Nat, k ≤ l.length ∧ i = .int .i64 (k : Int) ∧ s = .int .i64 (add (l.take k))) (fun _ i => l.length - (intOf i).toNat)
  case atStart => exact ⟨0, Nat.zero_le _, rfl, rfl⟩
  case round =>
    obtain ⟨k, hk, rfl, rfl⟩ := hrel
    by_cases hlt : k < l.length
    · have hlt' : (k : Int) < (l.length : Int) := by omega
      obtain ⟨b, o, rfl, hcell⟩ := HC.out k hlt
      have HS := Lib.hid (radd_take l k hlt)
      generalize l.getD k 0 = x at *
      go_wp2_with (go_at_call 50; refine (rtwo_any _ _ _).mono ?_; rintro e w' ⟨rfl, rfl⟩)
      go_round
      case rel => exact ⟨k + 1, by omega, by go_num, by rw [HS.out]⟩
      case measure => simp only [intOf]; omega
    · have hke : k = l.length := by omega
      subst hke
      rw [List.take_length]
      go_wp2
      go_ret
      exact ⟨rfl, rfl⟩
/-- A product that ends at 2^62. -/
def cap (x : Int) : Int := if top < x then top else x
end Go.Proofs.YtbgdlokegibkmaaGreat.Sat

namespace Go.Proofs.YtbgdlokegibkmaaGreat.Queue
open Go.RowKit
open _root_.Go.Proofs.YtbgdlokegibkmaaGreat.Codec (lt_of_heap frozen_of heap_set)
open _root_.Go.Proofs.YtbgdlokegibkmaaGreat.Kit (Enc Lies Own At Kept Laid cell_on lt_heap)
def val (x : It) : Value := .agg #[.int .i64 x.id, .int .i64 x.key, .int .i64 x.cost, .int .i64 x.cls, .int .i64 x.til]
def item : Enc It := ⟨5, fun x => [.int .i64 x.id, .int .i64 x.key, .int .i64 x.cost, .int .i64 x.cls, .int .i64 x.til], z, by decide, fun _ => rfl, fun x u hu => by simp at hu; rcases hu with rfl | rfl | rfl | rfl | rfl <;> rfl⟩
theorem at5 {w : World} {b o : Nat} {x : It} (h : At item w b o x) : w.cell? ⟨b, o, none⟩ = some (.int .i64 x.id) ∧ w.cell? ⟨b, o + 1, none⟩ = some (.int .i64 x.key) ∧ w.cell? ⟨b, o + 2, none⟩ = some (.int .i64 x.cost) ∧ w.cell? ⟨b, o + 3, none⟩ = some (.int .i64 x.cls) ∧ w.cell? ⟨b, o + 4, none⟩ = some (.int .i64 x.til) :=
  ⟨h 0 _ rfl, h 1 _ rfl, h 2 _ rfl, h 3 _ rfl, h 4 _ rfl⟩
theorem lies_at {w : World} {p : Option Addr} {l : List It} (h : Lies item w p l) {j : Nat} (hj : j < l.length) : ∃ b o, p = some ⟨b, o, none⟩ ∧ At item w b (o + j * 5) (l.getD j z) := Kit.lies_at h hj
/-- The document's queue. -/
def Qu (B : Nat) (w : World) (v : Nat) (room : Int) (l : List It) : Prop := B ≤ v ∧ ∃ y, w.heap[v]? = some (.cells #[.int .i64 room, y] 90 (0, 0)) ∧ Own item 113 B w y l
/-- An item is stored into a box. -/
def set5 (w : World) (b : Nat) (x : It) : World := ((((w.setCell ⟨b, 0, none⟩ (.int .i64 x.id)).setCell ⟨b, 1, none⟩ (.int .i64 x.key)).setCell ⟨b, 2, none⟩ (.int .i64 x.cost)).setCell ⟨b, 3, none⟩ (.int .i64 x.cls)).setCell ⟨b, 4, none⟩ (.int .i64 x.til)
theorem set5_block {w : World} {b : Nat} {c0 c1 c2 c3 c4 : Value} {T : TypeId} (h : w.heap[b]? = some (.cells #[c0, c1, c2, c3, c4] T (0, 0))) (x : It) : (set5 w b x).heap[b]? = some (.cells #[.int .i64 x.id, .int .i64 x.key, .int .i64 x.cost, .int .i64 x.cls, .int .i64 x.til] T (0, 0)) := by
  unfold set5
  rw [heap_set b 4 _ _ (heap_set b 3 _ _ (heap_set b 2 _ _ (heap_set b 1 _ _ (heap_set b 0 _ _ h))))]
  rfl
theorem set5_below {w w0 : World} {b B : Nat} (h : Below B w0 w) (hb : B ≤ b) (x : It) : Below B w0 (set5 w b x) :=
  ((((h.setCell (p := ⟨b, 0, none⟩) hb _).setCell (p := ⟨b, 1, none⟩) hb _).setCell (p := ⟨b, 2, none⟩) hb _).setCell (p := ⟨b, 3, none⟩) hb _).setCell (p := ⟨b, 4, none⟩) hb _
theorem set5_off {w : World} {b g : Nat} (x : It) (h : g ≠ b) : (set5 w b x).heap[g]? = w.heap[g]? :=
  (Below.heap_setCell _ _ _ _ (by simpa using h)).trans ((Below.heap_setCell _ _ _ _ (by simpa using h)).trans ((Below.heap_setCell _ _ _ _ (by simpa using h)).trans ((Below.heap_setCell _ _ _ _ (by simpa using h)).trans (Below.heap_setCell _ _ _ _ (by simpa using h)))))
end Go.Proofs.YtbgdlokegibkmaaGreat.Queue

namespace Go.Proofs.YtbgdlokegibkmaaGreat.Demand
open _root_.Go.Proofs.YtbgdlokegibkmaaGreat.Sat (fit add fit_lo fit_hi)
open _root_.Go.Proofs.YtbgdlokegibkmaaGreat.Kit (take_snoc)
structure Nt where
  key : Int
  spent : Int
def z : Nt := ⟨0, 0⟩
def Num (x : Int) : Prop := -9223372036854775808 ≤ x ∧ x ≤ 9223372036854775807
/-- A key's estimate, behind one note more. -/
def estep (k e : Int) (x : Nt) : Int := if x.key = k then max (fit x.spent) (e / 2) else e
def of (l : List Nt) (k : Int) : Int := l.foldl (estep k) 0
def want (e q m : Int) : Int := min (add [e, q]) (fit m)
/-- A number is put among numbers that rise, as the document does it. -/
def kstep (k : Int) (s : List Int × Bool) (a : Int) : List Int × Bool :=
  if s.2 = false ∧ k ≤ a then (if a = k then s.1 ++ [k] else s.1 ++ [k] ++ [a], true) else (if a = k then s.1 else s.1 ++ [a], s.2)
def kfold (k : Int) (l : List Int) : List Int × Bool := l.foldl (kstep k) ([], false)
def kput (k : Int) (l : List Int) : List Int := if (kfold k l).2 = true then (kfold k l).1 else (kfold k l).1 ++ [k]
/-- The keys that have an estimate, of all these notes, among the first ones. -/
def kon (L : List Nt) (s : List Int) (x : Nt) : List Int := if of L x.key = 0 then s else kput x.key s
def some' (L l : List Nt) : List Int := l.foldl (kon L) []
def keys (l : List Nt) : List Int := some' l l
theorem kstep_len (k : Int) (s : List Int × Bool) (a : Int) : (kstep k s a).1.length + (if (kstep k s a).2 = true then 0 else 1) ≤ s.1.length + (if s.2 = true then 0 else 1) + 1 := by
  obtain ⟨l, d⟩ := s
  unfold kstep
  cases d <;> simp only <;> repeat' split <;> simp_all
theorem kfold_snoc (k : Int) (l : List Int) (a : Int) : kfold k (l ++ [a]) = kstep k (kfold k l) a := by unfold kfold; rw [List.foldl_append]; rfl
theorem kfold_len (k : Int) (l : List Int) : (kfold k l).1.length + (if (kfold k l).2 = true then 0 else 1) ≤ l.length + 1 := by
  suffices h : ∀ (l : List Int) (s : List Int × Bool), (l.foldl (kstep k) s).1.length + (if (l.foldl (kstep k) s).2 = true then 0 else 1) ≤ s.1.length + (if s.2 = true then 0 else 1) + l.length by
    have := h l ([], false)
    unfold kfold
    simp at this ⊢
    omega
  intro l
  induction l with
  | nil => intro s; exact Nat.le_refl _
  | cons a l ih =>
    intro s
    have h1 := ih (kstep k s a)
    have h2 := kstep_len k s a
    rw [List.foldl_cons, List.length_cons]
    omega
theorem kput_len (k : Int) (l : List Int) : (kput k l).length ≤ l.length + 1 := by
  have := kfold_len k l
  unfold kput
  split
  · rename_i h
    rw [if_pos h] at this
    omega
  · rename_i h
    rw [if_neg h] at this
    simp
    omega
theorem estep_num (k : Int) {e : Int} (h : 0 ≤ e ∧ e ≤ 4611686018427387904) (x : Nt) : 0 ≤ estep k e x ∧ estep k e x ≤ 4611686018427387904 := by
  have h1 := fit_lo x.spent
  have h2 := fit_hi x.spent
  unfold estep
  split <;> omega
theorem fold_num (k : Int) : ∀ (l : List Nt) {e : Int}, 0 ≤ e ∧ e ≤ 4611686018427387904 → 0 ≤ l.foldl (estep k) e ∧ l.foldl (estep k) e ≤ 4611686018427387904
  | [], _, h => h
  | x :: l, _, h => fold_num k l (estep_num k h x)
theorem of_num (l : List Nt) (k : Int) : 0 ≤ of l k ∧ of l k ≤ 4611686018427387904 := fold_num k l (by omega)
theorem of_snoc (l : List Nt) (x : Nt) (k : Int) : of (l ++ [x]) k = estep k (of l k) x := by unfold of; rw [List.foldl_append]; rfl
theorem of_same (l : List Nt) (k s : Int) : of (l ++ [⟨k, s⟩]) k = max (fit s) (of l k / 2) := by rw [of_snoc]; unfold estep; rw [if_pos rfl]
theorem of_other (l : List Nt) {k k' : Int} (s : Int) (h : k ≠ k') : of (l ++ [⟨k, s⟩]) k' = of l k' := by rw [of_snoc]; unfold estep; rw [if_neg h]
theorem of_none {l : List Nt} {k : Int} (h : ∀ x ∈ l, x.key ≠ k) : of l k = 0 := by
  suffices hh : ∀ (l : List Nt) (e : Int), (∀ x ∈ l, x.key ≠ k) → l.foldl (estep k) e = e from hh l 0 h
  intro l
  induction l with
  | nil => intro e _; rfl
  | cons x l ih =>
    intro e hx
    rw [List.foldl_cons, show estep k e x = e by unfold estep; rw [if_neg (hx x (by simp))]]
    exact ih e fun y hy => hx y (by simp [hy])
theorem kon_len (L : List Nt) (s : List Int) (x : Nt) : (kon L s x).length ≤ s.length + 1 := by
  unfold kon
  split
  · omega
  · exact kput_len _ _
theorem some_len (L : List Nt) (l : List Nt) : (some' L l).length ≤ l.length := by
  suffices h : ∀ (l : List Nt) (s : List Int), (l.foldl (kon L) s).length ≤ s.length + l.length by
    have := h l []
    simp only [List.length_nil, Nat.zero_add] at this
    exact this
  intro l
  induction l with
  | nil => intro s; simp
  | cons a l ih =>
    intro s
    have h1 := ih (kon L s a)
    have h2 := kon_len L s a
    rw [List.foldl_cons, List.length_cons]
    omega
theorem keys_len (l : List Nt) : (keys l).length ≤ l.length := some_len l l
theorem kfold_spec (k : Int) : ∀ (n : Nat) (l : List Int), l.length = n → l.Pairwise (· < ·) → kfold k l = if ∃ a ∈ l, k ≤ a then (l.filter (fun x => decide (x < k)) ++ [k] ++ l.filter (fun x => decide (k < x)), true) else (l, false)
  | 0, l, hn, _ => by
    obtain rfl := List.eq_nil_of_length_eq_zero hn
    simp [kfold]
  | n + 1, l, hn, h => by
    obtain ⟨m, a, rfl⟩ : ∃ m a, l = m ++ [a] := ⟨l.dropLast, l.getLast (by intro e; subst e; simp at hn), (List.dropLast_concat_getLast _).symm⟩
    rw [List.pairwise_append] at h
    obtain ⟨h1, -, h3⟩ := h
    have h3 : ∀ x ∈ m, x < a := fun x hx => h3 x hx a (by simp)
    rw [kfold_snoc, kfold_spec k n m (by simpa using hn) h1]
    by_cases hex : ∃ a ∈ m, k ≤ a
    · obtain ⟨b, hb, hkb⟩ := hex
      have := h3 b hb
      rw [if_pos ⟨b, hb, hkb⟩, if_pos ⟨a, by simp, by omega⟩]
      unfold kstep
      simp only [Bool.true_eq_false, false_and, if_false]
      rw [if_neg (by omega)]
      simp [show ¬ a < k by omega, show k < a by omega]
    · rw [if_neg hex]
      have hall : ∀ x ∈ m, x < k := fun x hx => by
        by_cases hc : k ≤ x
        · exact absurd ⟨x, hx, hc⟩ hex
        · omega
      have f1 : m.filter (fun x => decide (x < k)) = m := List.filter_eq_self.2 fun x hx => by simpa using hall x hx
      have f2 : m.filter (fun x => decide (k < x)) = [] := List.filter_eq_nil_iff.2 fun x hx => by have := hall x hx; simp; omega
      by_cases hka : k ≤ a
      · rw [if_pos (show ∃ x ∈ m ++ [a], k ≤ x from ⟨a, by simp, hka⟩)]
        by_cases e : a = k
        · subst e
          have e1 : kstep a (m, false) a = (m ++ [a], true) := by unfold kstep; simp
          rw [e1]
          simp [f1, f2]
        · have e1 : kstep k (m, false) a = (m ++ [k] ++ [a], true) := by unfold kstep; simp [hka, e]
          rw [e1]
          simp [f1, f2, show ¬ a < k by omega, show k < a by omega]
      · have e1 : kstep k (m, false) a = (m ++ [a], false) := by unfold kstep; simp [hka, show ¬ a = k by omega]
        rw [e1, if_neg]
        rintro ⟨x, hx, hc⟩
        rcases List.mem_append.1 hx with hx | hx
        · exact hex ⟨x, hx, hc⟩
        · rw [List.mem_singleton.1 hx] at hc
          exact hka hc
theorem kput_spec (k : Int) {l : List Int} (h : l.Pairwise (· < ·)) : kput k l = l.filter (fun x => decide (x < k)) ++ [k] ++ l.filter (fun x => decide (k < x)) := by
  unfold kput
  rw [kfold_spec k _ l rfl h]
  by_cases hex : ∃ a ∈ l, k ≤ a
  · rw [if_pos hex]; rfl
  · rw [if_neg hex]
    have hall : ∀ x ∈ l, x < k := fun x hx => by
      by_cases hc : k ≤ x
      · exact absurd ⟨x, hx, hc⟩ hex
      · omega
    have f1 : l.filter (fun x => decide (x < k)) = l := List.filter_eq_self.2 fun x hx => by simpa using hall x hx
    have f2 : l.filter (fun x => decide (k < x)) = [] := List.filter_eq_nil_iff.2 fun x hx => by have := hall x hx; simp; omega
    rw [f1, f2, List.append_nil]
    rfl
/-- A number is put among numbers that rise. -/
theorem kput_rise (k : Int) {l : List Int} (h : l.Pairwise (· < ·)) : (kput k l).Pairwise (· < ·) ∧ ∀ x, x ∈ kput k l ↔ x = k ∨ x ∈ l := by
  rw [kput_spec k h]
  refine ⟨?_, fun x => ?_⟩
  · rw [List.append_assoc, List.pairwise_append]
    refine ⟨h.filter _, ?_, fun x hx y hy => ?_⟩
    · rw [List.singleton_append, List.pairwise_cons]
      exact ⟨fun y hy => by simpa using (List.mem_filter.1 hy).2, h.filter _⟩
    · have h1 : x < k := by simpa using (List.mem_filter.1 hx).2
      rcases List.mem_append.1 hy with hy | hy
      · rw [List.mem_singleton.1 hy]; exact h1
      · have h2 : k < y := by simpa using (List.mem_filter.1 hy).2
        omega
  · simp only [List.mem_append, List.mem_filter, List.mem_singleton, decide_eq_true_eq]
    constructor
    · rintro ((h | h) | h)
      · exact .inr h.1
      · exact .inl h
      · exact .inr h.1
    · rintro (h | h)
      · exact .inl (.inr h)
      · rcases Int.lt_trichotomy x k with e | e | e
        · exact .inl (.inl ⟨h, e⟩)
        · exact .inl (.inr e)
        · exact .inr ⟨h, e⟩
theorem some_spec (L : List Nt) (l : List Nt) : (some' L l).Pairwise (· < ·) ∧ ∀ k, k ∈ some' L l ↔ of L k ≠ 0 ∧ ∃ x ∈ l, x.key = k := by
  suffices h : ∀ (l : List Nt) (s : List Int), s.Pairwise (· < ·) → (l.foldl (kon L) s).Pairwise (· < ·) ∧ ∀ k, k ∈ l.foldl (kon L) s ↔ k ∈ s ∨ of L k ≠ 0 ∧ ∃ x ∈ l, x.key = k by
    have := h l [] .nil
    refine ⟨this.1, fun k => (this.2 k).trans (by simp)⟩
  intro l
  induction l with
  | nil => intro s hs; exact ⟨hs, fun k => by simp⟩
  | cons a l ih =>
    intro s hs
    rw [List.foldl_cons]
    by_cases h0 : of L a.key = 0
    · have e : kon L s a = s := by unfold kon; rw [if_pos h0]
      rw [e]
      obtain ⟨i1, i2⟩ := ih s hs
      refine ⟨i1, fun k => (i2 k).trans ⟨?_, ?_⟩⟩
      · rintro (h | ⟨h, x, hx, e⟩)
        · exact .inl h
        · exact .inr ⟨h, x, by simp [hx], e⟩
      · rintro (h | ⟨h, x, hx, ex⟩)
        · exact .inl h
        · rcases List.mem_cons.1 hx with rfl | hx
          · rw [ex] at h0; exact absurd h0 h
          · exact .inr ⟨h, x, hx, ex⟩
    · have e : kon L s a = kput a.key s := by unfold kon; rw [if_neg h0]
      rw [e]
      obtain ⟨k1, k2⟩ := kput_rise a.key hs
      obtain ⟨i1, i2⟩ := ih _ k1
      refine ⟨i1, fun k => (i2 k).trans ⟨?_, ?_⟩⟩
      · rintro (h | ⟨h, x, hx, e⟩)
        · rcases (k2 k).1 h with rfl | h
          · exact .inr ⟨h0, a, by simp, rfl⟩
          · exact .inl h
        · exact .inr ⟨h, x, by simp [hx], e⟩
      · rintro (h | ⟨h, x, hx, ex⟩)
        · exact .inl ((k2 k).2 (.inr h))
        · rcases List.mem_cons.1 hx with rfl | hx
          · exact .inl ((k2 k).2 (.inl ex.symm))
          · exact .inr ⟨h, x, hx, ex⟩
theorem keys_rise (l : List Nt) : (keys l).Pairwise (· < ·) := (some_spec l l).1
theorem keys_mem (l : List Nt) (k : Int) : k ∈ keys l ↔ of l k ≠ 0 := by
  refine ((some_spec l l).2 k).trans ⟨fun h => h.1, fun h => ⟨h, ?_⟩⟩
  by_cases hx : ∃ x ∈ l, x.key = k
  · exact hx
  · exact absurd (of_none fun x hm e => hx ⟨x, hm, e⟩) h
/-- Two lists that rise, of the same numbers, are one. -/
theorem rise_eq : ∀ {a b : List Int}, a.Pairwise (· < ·) → b.Pairwise (· < ·) → (∀ x, x ∈ a ↔ x ∈ b) → a = b
  | [], [], _, _, _ => rfl
  | [], y :: b, _, _, h => by have := (h y).2 (by simp); simp at this
  | x :: a, [], _, _, h => by have := (h x).1 (by simp); simp at this
  | x :: a, y :: b, ha, hb, h => by
    obtain ⟨a1, a2⟩ := List.pairwise_cons.1 ha
    obtain ⟨b1, b2⟩ := List.pairwise_cons.1 hb
    have e : x = y := by
      have h1 := (h x).1 (by simp)
      have h2 := (h y).2 (by simp)
      rcases List.mem_cons.1 h1 with h1 | h1
      · exact h1
      · rcases List.mem_cons.1 h2 with h2 | h2
        · exact h2.symm
        · have := b1 x h1
          have := a1 y h2
          omega
    subst e
    refine congrArg (x :: ·) (rise_eq a2 b2 fun w => ⟨fun hw => ?_, fun hw => ?_⟩)
    · rcases List.mem_cons.1 ((h w).1 (by simp [hw])) with e | e
      · have := a1 w hw; omega
      · exact e
    · rcases List.mem_cons.1 ((h w).2 (by simp [hw])) with e | e
      · have := b1 w hw; omega
      · exact e
theorem keys_zero (l : List Nt) {k s : Int} (h : of (l ++ [⟨k, s⟩]) k = 0) : keys (l ++ [⟨k, s⟩]) = (keys l).filter (fun x => !(x == k)) :=
  rise_eq (keys_rise _) ((keys_rise _).filter _) fun x => by
    rw [keys_mem, List.mem_filter, keys_mem]
    by_cases e : x = k
    · subst e; simp [h]
    · rw [of_other l s (Ne.symm e)]; simp [e]
theorem keys_some (l : List Nt) {k s : Int} (h : of (l ++ [⟨k, s⟩]) k ≠ 0) : keys (l ++ [⟨k, s⟩]) = kput k (keys l) :=
  rise_eq (keys_rise _) (kput_rise k (keys_rise l)).1 fun x => by
    rw [keys_mem, (kput_rise k (keys_rise l)).2, keys_mem]
    by_cases e : x = k
    · subst e; simp [h]
    · rw [of_other l s (Ne.symm e)]; simp [e]
end Go.Proofs.YtbgdlokegibkmaaGreat.Demand

namespace Go.Proofs.YtbgdlokegibkmaaGreat.Demand
open Go.RowKit
open _root_.Go.Proofs.YtbgdlokegibkmaaGreat.Codec (lt_of_heap frozen_of heap_set)
open _root_.Go.Proofs.YtbgdlokegibkmaaGreat.Kit (Enc Lies Own At Kept Laid cell_on lt_heap)
def val (x : Nt) : Value := .agg #[.int .i64 x.key, .int .i64 x.spent]
def note : Enc Nt := ⟨2, fun x => [.int .i64 x.key, .int .i64 x.spent], z, by decide, fun _ => rfl, fun x u hu => by simp at hu; rcases hu with rfl | rfl <;> rfl⟩
/-- The document's estimates: all that was noted. -/
def Dm (B : Nat) (w : World) (v : Nat) (l : List Nt) : Prop := B ≤ v ∧ ∃ y, w.heap[v]? = some (.cells #[y] 95 (0, 0)) ∧ Own note 244 B w y l
end Go.Proofs.YtbgdlokegibkmaaGreat.Demand

namespace Go.Proofs.YtbgdlokegibkmaaGreat.Kit
open Go.RowKit
open _root_.Go.Proofs.YtbgdlokegibkmaaGreat.Codec (own_below own_lower lt_of_heap frozen_of heap_set grown_set)
section
variable {α : Type} {E : Enc α} {T : TypeId} {B : Nat} {w w' : World} {v1 v2 : Value} {l1 l2 : List α}
theorem own_keep {v : Value} {l : List α} (h : Own E T B w v l) (hk : ∀ b, v.ownBlock = some b → w'.heap[b]? = w.heap[b]?) : Own E T B w' v l := by
  refine ⟨h.1, ?_⟩
  rcases h.2 with h0 | ⟨g, cap, cur, rfl, h1, h2, h3⟩
  · exact .inl h0
  · exact .inr ⟨g, cap, cur, rfl, h1, (hk g rfl).trans h2, h3⟩
theorem own_lt {v : Value} {l : List α} (h : Own E T B w v l) {b : Nat} (hb : v.ownBlock = some b) : b < w.heap.size := by
  rcases h.2 with ⟨rfl, -⟩ | ⟨g, cap, cur, rfl, h1, h2, -⟩
  · simp [Value.ownBlock] at hb
  · simp only [Value.ownBlock, Option.some.injEq] at hb
    subst hb
    exact lt_of_heap h2
end
theorem frozen5 {w : World} {b : Nat} {cs : Array Value} {T : TypeId} (h : w.heap[b]? = some (.cells cs T (0, 0))) : w.frozen? ⟨b, 0, none⟩ = false ∧ w.frozen? ⟨b, 1, none⟩ = false ∧ w.frozen? ⟨b, 2, none⟩ = false ∧ w.frozen? ⟨b, 3, none⟩ = false ∧ w.frozen? ⟨b, 4, none⟩ = false :=
  ⟨frozen_of h, frozen_of h, frozen_of h, frozen_of h, frozen_of h⟩
end Go.Proofs.YtbgdlokegibkmaaGreat.Kit

namespace Go.Proofs.YtbgdlokegibkmaaGreat.Frame
open Go.RowKit Codec
/-- What a call tells that only asks. -/
def Asked (w : World) (b : Bool) (e : Ending) (w' : World) : Prop := e = .returned (.bool b) ∧ Below w.heap.size w w'
theorem lease_false {l : List (Int × Int)} {i : Nat} (h : isIn (l.getD i (0, 0)).1 0 63 = false ∨ isIn (l.getD i (0, 0)).2 1 2147483648 = false ∨ (0 < i ∧ (l.getD i (0, 0)).1 ≤ (l.getD (i - 1) (0, 0)).1)) : leaseAt l i = false := by
  unfold leaseAt
  rcases h with h | h | ⟨h0, h1⟩
  · rw [h]; simp
  · rw [h]; simp
  · have : (i == 0 || decide ((l.getD (i - 1) (0, 0)).1 < (l.getD i (0, 0)).1)) = false := by
      rw [Bool.or_eq_false_iff]
      exact ⟨by simp; omega, decide_eq_false (by omega)⟩
    rw [this]; simp
theorem lease_true {l : List (Int × Int)} {i : Nat} (h0 : isIn (l.getD i (0, 0)).1 0 63 = true) (h1 : isIn (l.getD i (0, 0)).2 1 2147483648 = true) (h2 : i = 0 ∨ (l.getD (i - 1) (0, 0)).1 < (l.getD i (0, 0)).1) : leaseAt l i = true := by
  unfold leaseAt
  rw [h0, h1, Bool.and_true, Bool.true_and, Bool.or_eq_true]
  rcases h2 with h2 | h2
  · exact .inl (by simp [h2])
  · exact .inr (decide_eq_true h2)
end Go.Proofs.YtbgdlokegibkmaaGreat.Frame

namespace Go.Proofs.YtbgdlokegibkmaaGreat.Ledger
open Go.RowKit
open _root_.Go.Proofs.YtbgdlokegibkmaaGreat.Frame (Rw Tb noRow LeasesAt cell_on)
open _root_.Go.Proofs.YtbgdlokegibkmaaGreat.Codec (own_below own_lower lt_of_heap frozen_of heap_set Ints)
/-- Rows, each with its leases: a slice's capacity is its length at least. -/
def RowAt (w : World) (b o : Nat) (r : Rw) : Prop :=
  w.cell? ⟨b, o, none⟩ = some (.int .i64 r.key) ∧ w.cell? ⟨b, o + 1, none⟩ = some (.int .i64 r.avail) ∧ w.cell? ⟨b, o + 2, none⟩ = some (.int .i64 r.mark) ∧
    ∃ p c, w.cell? ⟨b, o + 3, none⟩ = some (.slice p r.out.length (c + r.out.length)) ∧ LeasesAt w p r.out
def RowsAt (w : World) (p : Option Addr) (l : List Rw) : Prop :=
  l = [] ∨ ∃ b o, p = some ⟨b, o, none⟩ ∧ ∀ j, j < l.length → RowAt w b (o + j * 4) (l.getD j noRow)
theorem RowAt.below {w w' : World} {b o : Nat} {r : Rw} (h : RowAt w b o r) (hb : Below w.heap.size w w') : RowAt w' b o r := by
  obtain ⟨h0, h1, h2, p, c, h3, h4⟩ := h
  exact ⟨cell_on h0 hb, cell_on h1 hb, cell_on h2 hb, p, c, cell_on h3 hb, h4.below hb⟩
theorem RowsAt.below {w w' : World} {p : Option Addr} {l : List Rw} (h : RowsAt w p l) (hb : Below w.heap.size w w') : RowsAt w' p l := by
  rcases h with h | ⟨b, o, e, hc⟩
  · exact .inl h
  · exact .inr ⟨b, o, e, fun j hj => (hc j hj).below hb⟩
theorem RowsAt.frame {w : World} {p : Option Addr} {l : List Rw} (h : RowsAt w p l) : Frame.RowsAt w p l := by
  rcases h with h | ⟨b, o, e, hc⟩
  · exact .inl h
  · refine .inr ⟨b, o, e, fun j hj => ?_⟩
    obtain ⟨h0, h1, h2, p, c, h3, h4⟩ := hc j hj
    exact ⟨h0, h1, h2, p, _, h3, h4⟩
def rowVal (r : Rw) (p : Option Addr) (c : Nat) : Value := .agg #[.int .i64 r.key, .int .i64 r.avail, .int .i64 r.mark, .slice p r.out.length (c + r.out.length)]
def tabVal (t : Tb) (p : Option Addr) (c : Nat) : Value := .agg #[.int .i64 t.start, .slice p t.rows.length (c + t.rows.length)]
/-- What tells a row, whose leases lay in W; a table. -/
def TellsRow (W w : World) (r : Rw) (mk : Value → Value) (e : Ending) (w' : World) : Prop := ∃ p c, e = .returned (mk (rowVal r p c)) ∧ LeasesAt W p r.out ∧ Below w.heap.size w w'
theorem infoI : (Tryz.prog.info? 3).map (fun i => (i.zero, i.size, i.bytes)) = some (some (.int .i64 0), 1, 8) := by kernel_rfl
theorem infoR : (Tryz.prog.info? 80).map (fun i => (i.zero, i.size, i.bytes)) = some (some (.agg #[.int .i64 0, .int .i64 0, .int .i64 0, .slice none 0 0]), 4, 48) := by kernel_rfl
theorem infoL : (Tryz.prog.info? 141).map (fun i => (i.zero, i.size, i.bytes)) = some (some (.agg #[.int .i64 0, .int .i64 0]), 2, 16) := by kernel_rfl
def cellsI (l : List Int) : List Value := l.map (Value.int .i64)
/-- Ints that a call owns. -/
def OwnI (B : Nat) (w : World) (v : Value) (l : List Int) : Prop := w.ownsRow B 3 1 v l.length (cellsI l)
theorem OwnI.app {B n : Nat} {w : World} {v : Value} {l xs : List Int} (h : w.ownsRow B 3 1 v (l.length + n) (cellsI l ++ cellsI xs)) (hn : xs.length = n) : OwnI B w v (l ++ xs) := by
  unfold OwnI
  rw [List.length_append, hn]
  simpa [cellsI] using h
theorem OwnI.ints {B : Nat} {w : World} {v : Value} {l : List Int} (h : OwnI B w v l) : ∃ p c, v = .slice p l.length c ∧ ∀ k : Nat, k < l.length → ∃ b o, p = some ⟨b, o, none⟩ ∧ w.cell? ⟨b, o + k, none⟩ = some (.int .i64 (l.getD k 0)) := by
  rcases h.2 with ⟨rfl, h0⟩ | ⟨g, cap, cur, rfl, h1, h2, h3, h4, h5, h6⟩
  · exact ⟨none, 0, by rw [h0], fun k hk => by omega⟩
  · refine ⟨_, cap, rfl, fun k hk => ⟨g, 0, rfl, ?_⟩⟩
    have := World.ownsRow.cells (g := g) h rfl k (.int .i64 (l.getD k 0)) (by simp [cellsI, List.getD, hk])
    rwa [Codec.add_at] at this
/-- The cells of rows, whose leases lie at ps. -/
def cellsR (l : List (Rw × (Option Addr × Nat))) : List Value := l.flatMap fun x => [.int .i64 x.1.key, .int .i64 x.1.avail, .int .i64 x.1.mark, .slice x.2.1 x.1.out.length (x.2.2 + x.1.out.length)]
theorem cellsR_snoc (l : List (Rw × (Option Addr × Nat))) (x : Rw × (Option Addr × Nat)) : cellsR (l ++ [x]) = cellsR l ++ [.int .i64 x.1.key, .int .i64 x.1.avail, .int .i64 x.1.mark, .slice x.2.1 x.1.out.length (x.2.2 + x.1.out.length)] := by simp [cellsR]
theorem cellsR_one (l : List (Rw × (Option Addr × Nat))) : ∀ u ∈ cellsR l, u.oneCell' = true := by
  intro u hu
  simp only [cellsR, List.mem_flatMap] at hu
  obtain ⟨s, _, hs⟩ := hu
  simp at hs
  rcases hs with rfl | rfl | rfl | rfl <;> rfl
theorem cellsR_at : ∀ (l : List (Rw × (Option Addr × Nat))) (j : Nat) (hj : j < l.length), (cellsR l)[j * 4]? = some (.int .i64 l[j].1.key) ∧ (cellsR l)[j * 4 + 1]? = some (.int .i64 l[j].1.avail) ∧ (cellsR l)[j * 4 + 2]? = some (.int .i64 l[j].1.mark) ∧ (cellsR l)[j * 4 + 3]? = some (.slice l[j].2.1 l[j].1.out.length (l[j].2.2 + l[j].1.out.length))
  | [], j, hj => by simp at hj
  | x :: l, 0, _ => by simp [cellsR]
  | x :: l, j + 1, hj => by
    have := cellsR_at l j (by simpa using hj)
    have e : cellsR (x :: l) = [.int .i64 x.1.key, .int .i64 x.1.avail, .int .i64 x.1.mark, .slice x.2.1 x.1.out.length (x.2.2 + x.1.out.length)] ++ cellsR l := by simp [cellsR]
    rw [e]
    have s : ∀ n, ([Value.int .i64 x.1.key, .int .i64 x.1.avail, .int .i64 x.1.mark, .slice x.2.1 x.1.out.length (x.2.2 + x.1.out.length)] ++ cellsR l)[4 + n]? = (cellsR l)[n]? := fun n => by
      rw [List.getElem?_append_right (by simp)]; simp
    refine ⟨?_, ?_, ?_, ?_⟩
    · rw [show (j + 1) * 4 = 4 + j * 4 by omega, s]; exact this.1
    · rw [show (j + 1) * 4 + 1 = 4 + (j * 4 + 1) by omega, s]; exact this.2.1
    · rw [show (j + 1) * 4 + 2 = 4 + (j * 4 + 2) by omega, s]; exact this.2.2.1
    · rw [show (j + 1) * 4 + 3 = 4 + (j * 4 + 3) by omega, s]; exact this.2.2.2
/-- Rows that a call owns; their leases lay in W. -/
def OwnR (W : World) (B : Nat) (w : World) (v : Value) (l : List Rw) : Prop := ∃ m : List (Rw × (Option Addr × Nat)), m.map (·.1) = l ∧ w.ownsRow B 80 4 v l.length (cellsR m) ∧ ∀ x ∈ m, LeasesAt W x.2.1 x.1.out
theorem OwnR.rows {W : World} {B : Nat} {w : World} {v : Value} {l : List Rw} (h : OwnR W B w v l) (hW : Below W.heap.size W w) : ∃ p c, v = .slice p l.length (c + l.length) ∧ RowsAt w p l := by
  obtain ⟨m, hm, ho, hl⟩ := h
  subst hm
  have ho' := ho
  rcases ho.2 with ⟨rfl, h0⟩ | ⟨g, cap, cur, rfl, h1, h2, h3⟩
  · exact ⟨Option.none, 0, by rw [h0], .inl (List.eq_nil_of_length_eq_zero h0)⟩
  · refine ⟨_, cap - (m.map (·.1)).length, by rw [Nat.sub_add_cancel h3.1], .inr ⟨g, 0, rfl, fun j hj => ?_⟩⟩
    have hj' : j < m.length := by simpa using hj
    obtain ⟨c0, c1, c2, c3⟩ := cellsR_at m j hj'
    have hc := ho'.cells (g := g) rfl
    have k0 := hc _ _ c0
    have k1 := hc _ _ c1
    have k2 := hc _ _ c2
    have k3 := hc _ _ c3
    rw [Codec.add_at] at k0 k1 k2 k3
    have e : (m.map (·.1)).getD j noRow = m[j].1 := by simp [List.getD, hj']
    rw [e]
    refine ⟨k0, ?_, ?_, m[j].2.1, m[j].2.2, ?_, (hl _ (List.getElem_mem hj')).below hW⟩
    · rw [← Nat.add_assoc] at k1; exact k1
    · rw [← Nat.add_assoc] at k2; exact k2
    · rw [← Nat.add_assoc] at k3; exact k3
/-- The boxes. -/
theorem tab_cells {w : World} {b : Nat} {t : Tb} {p : Option Addr} {c : Nat} (h : w.heap[b]? = some (.cells #[.int .i64 t.start, .slice p t.rows.length (c + t.rows.length)] 28 (0, 0))) :
    w.cell? ⟨b, 0, Option.none⟩ = some (.int .i64 t.start) ∧ w.cell? ⟨b, 1, Option.none⟩ = some (.slice p t.rows.length (c + t.rows.length)) ∧ ∀ o, w.frozen? ⟨b, o, Option.none⟩ = false :=
  ⟨by rw [cell_of_row w b 0 _ _ (0, 0) h]; rfl, by rw [cell_of_row w b 1 _ _ (0, 0) h]; rfl, fun _ => frozen_of h⟩
theorem row_cells {w : World} {b : Nat} {v1 v2 v3 v4 : Value} (h : w.heap[b]? = some (.cells #[v1, v2, v3, v4] 80 (0, 0))) :
    w.cell? ⟨b, 0, Option.none⟩ = some v1 ∧ w.cell? ⟨b, 1, Option.none⟩ = some v2 ∧ w.cell? ⟨b, 2, Option.none⟩ = some v3 ∧ w.cell? ⟨b, 3, Option.none⟩ = some v4 ∧ ∀ o, w.frozen? ⟨b, o, Option.none⟩ = false :=
  ⟨by rw [cell_of_row w b 0 _ _ (0, 0) h]; rfl, by rw [cell_of_row w b 1 _ _ (0, 0) h]; rfl, by rw [cell_of_row w b 2 _ _ (0, 0) h]; rfl, by rw [cell_of_row w b 3 _ _ (0, 0) h]; rfl, fun _ => frozen_of h⟩
end Go.Proofs.YtbgdlokegibkmaaGreat.Ledger

namespace Go.Proofs.YtbgdlokegibkmaaGreat.Ledger
open Go.RowKit
open _root_.Go.Proofs.YtbgdlokegibkmaaGreat.Frame (Rw Tb noRow LeasesAt cell_on)
open _root_.Go.Proofs.YtbgdlokegibkmaaGreat.Codec (own_below own_lower lt_of_heap frozen_of heap_set)
open _root_.Go.Proofs.YtbgdlokegibkmaaGreat.Sat (fit add sub mul radd_any)
theorem rows_some {w : World} {p : Option Addr} {l : List Rw} (h : RowsAt w p l) {j : Nat} (hj : j < l.length) : ∃ b o, p = some ⟨b, o, none⟩ ∧ RowAt w b (o + j * 4) (l.getD j noRow) := by
  rcases h with h | ⟨b, o, e, hc⟩
  · rw [h] at hj; simp at hj
  · exact ⟨b, o, e, hc j hj⟩
theorem leases_some {w : World} {p : Option Addr} {l : List (Int × Int)} (h : LeasesAt w p l) {j : Nat} (hj : j < l.length) : ∃ b o, p = some ⟨b, o, none⟩ ∧ w.cell? ⟨b, o + j * 2, none⟩ = some (.int .i64 (l.getD j (0, 0)).1) ∧ w.cell? ⟨b, o + j * 2 + 1, none⟩ = some (.int .i64 (l.getD j (0, 0)).2) := by
  rcases h with h | ⟨b, o, e, hc⟩
  · rw [h] at hj; simp at hj
  · exact ⟨b, o, e, hc j hj⟩
set_option maxRecDepth 100000 in
theorem at_any (t : Tb) (p : Option Addr) (c : Nat) (key : Int) (w : World) (h : RowsAt w p t.rows) (hl : t.rows.length ≤ 1000) :
    Calls Tryz.prog 119 #[tabVal t p c, .int .i64 key] w fun e w' => e = .returned (.int .i64 (place t.rows key)) ∧ Below w.heap.size w w' := by
  obtain ⟨start, rows⟩ := t
  have hb := (Below.refl w.heap.size w).alloc (Nat.le_refl _) (.cells #[.int .i64 start, .slice p rows.length (c + rows.length)] 28)
  have hr := h.below hb
  have hc := tab_cells (t := ⟨start, rows⟩) (heap_alloc_new w (.cells #[.int .i64 start, .slice p rows.length (c + rows.length)] 28))
  simp only [tabVal] at *
  have HPL := Lib.hid (show place rows key = spot (fun r => r.key == key) rows from rfl)
  generalize place rows key = R at HPL ⊢
  go_enter Tryz.func119, Tryz.ntmps119
  go_wp2
  generalize w.alloc (.cells #[.int .i64 start, .slice p rows.length (c + rows.length)] 28) = w1 at *
  obtain ⟨-, c1, -⟩ := hc
  have HR := Lib.hid hr
  have HB := Lib.hid hb
  clear hr hb h
  go_loop [5] (fun i => ∃ j : Nat, j ≤ rows.length ∧ i = .int .i64 (j : Int) ∧ Hid (∀ i, i < j → (rows.getD i noRow).key ≠ key)) (fun i => rows.length - (intOf i).toNat)
  case atStart => exact ⟨0, by omega, rfl, fun i hi => by omega⟩
  case round =>
    obtain ⟨j, hj, rfl, hne⟩ := hrel
    by_cases hlt : j < rows.length
    · obtain ⟨b, o, rfl, k0, -⟩ := rows_some HR.out hlt
      have hlt' : (j : Int) < (rows.length : Int) := by omega
      by_cases hk : (rows.getD j noRow).key = key
      · have HE := Lib.hid (show R = (j : Int) by rw [HPL.out]; exact spot_at _ noRow rows j hlt (fun i hi => by simpa using hne.out i hi) (by simpa using hk))
        rw [hk] at k0
        clear hne HPL HR hk
        go_wp2
        go_ret
        exact ⟨by rw [HE.out]; rfl, HB.out⟩
      · have HN : Hid (∀ i, i < j + 1 → (rows.getD i noRow).key ≠ key) := fun i hi => by
          by_cases e : i < j
          · exact hne.out i e
          · rw [show i = j by omega]; exact hk
        generalize (rows.getD j noRow).key = y at k0 hk
        clear hne HPL HR
        go_wp2
        go_round
        case rel => exact ⟨j + 1, by omega, by go_num, HN⟩
        case measure => simp only [intOf]; omega
    · obtain rfl : j = rows.length := by omega
      have HE := Lib.hid (show R = -1 by rw [HPL.out]; exact spot_none _ noRow rows (fun i hi => by simpa using hne.out i hi))
      clear hne HPL HR
      go_wp2
      go_ret
      exact ⟨by rw [HE.out]; rfl, HB.out⟩
set_option maxRecDepth 100000 in
theorem find_any (t : Tb) (p : Option Addr) (c : Nat) (key : Int) (W w : World) (h0 : RowsAt W p t.rows) (hW : Below W.heap.size W w) (hl : t.rows.length ≤ 1000) :
    Calls Tryz.prog 67 #[tabVal t p c, .int .i64 key] w (TellsRow W w (findRow t key) (fun v => .tuple #[v, .bool (findIs t key)])) := by
  obtain ⟨start, rows⟩ := t
  have h := h0.below hW
  have H0 := Lib.hid h0
  have HWW := Lib.hid hW
  clear h0 hW
  have hb0 := (Below.refl w.heap.size w).alloc (Nat.le_refl _) (.cells #[.int .i64 start, .slice p rows.length (c + rows.length)] 28)
  have hat := at_any ⟨start, rows⟩ p c key ((w.alloc (.cells #[.int .i64 start, .slice p rows.length (c + rows.length)] 28)).alloc (.cells #[.int .i64 0, .int .i64 0, .int .i64 0, .slice none 0 0] 80)) (h.below (hb0.alloc hb0.size _)) hl
  have hb : Below w.heap.size w ((w.alloc (.cells #[.int .i64 start, .slice p rows.length (c + rows.length)] 28)).alloc (.cells #[.int .i64 0, .int .i64 0, .int .i64 0, .slice none 0 0] 80)) := hb0.alloc hb0.size _
  have k0 : ((w.alloc (.cells #[.int .i64 start, .slice p rows.length (c + rows.length)] 28)).alloc (.cells #[.int .i64 0, .int .i64 0, .int .i64 0, .slice none 0 0] 80)).heap[w.heap.size]? = some (.cells #[.int .i64 start, .slice p rows.length (c + rows.length)] 28 (0, 0)) := (Below.heap_alloc _ _ _ (by simp)).trans (heap_alloc_new _ _)
  have k1 : ((w.alloc (.cells #[.int .i64 start, .slice p rows.length (c + rows.length)] 28)).alloc (.cells #[.int .i64 0, .int .i64 0, .int .i64 0, .slice none 0 0] 80)).heap[w.heap.size + 1]? = some (.cells #[.int .i64 0, .int .i64 0, .int .i64 0, .slice none 0 0] 80 (0, 0)) := by
    have := heap_alloc_new (w.alloc (.cells #[.int .i64 start, .slice p rows.length (c + rows.length)] 28)) (.cells #[.int .i64 0, .int .i64 0, .int .i64 0, .slice none 0 0] 80)
    rwa [show (w.alloc (.cells #[.int .i64 start, .slice p rows.length (c + rows.length)] 28)).heap.size = w.heap.size + 1 by simp] at this
  simp only [tabVal] at *
  have HF := Lib.hid (show findRow ⟨start, rows⟩ key = if place rows key < 0 then ⟨key, 0, start, []⟩ else rows.getD (place rows key).toNat noRow from rfl)
  have HI := Lib.hid (show findIs ⟨start, rows⟩ key = decide (0 ≤ place rows key) from rfl)
  have hsp := spot_cases (fun r => r.key == key) noRow rows
  have hpe : place rows key = spot (fun r => r.key == key) rows := rfl
  rw [← hpe] at hsp
  generalize place rows key = P at *
  generalize findRow ⟨start, rows⟩ key = F at HF ⊢
  generalize findIs ⟨start, rows⟩ key = I at HI ⊢
  have HB := Lib.hid hb
  have K0 := Lib.hid k0
  have K1 := Lib.hid k1
  have HH := Lib.hid h
  have arm : ∀ u, Below ((w.alloc (.cells #[.int .i64 start, .slice p rows.length (c + rows.length)] 28)).alloc (.cells #[.int .i64 0, .int .i64 0, .int .i64 0, .slice none 0 0] 80)).heap.size ((w.alloc (.cells #[.int .i64 start, .slice p rows.length (c + rows.length)] 28)).alloc (.cells #[.int .i64 0, .int .i64 0, .int .i64 0, .slice none 0 0] 80)) u →
      Below w.heap.size w u ∧ u.heap[w.heap.size]? = some (.cells #[.int .i64 start, .slice p rows.length (c + rows.length)] 28 (0, 0)) ∧ u.heap[w.heap.size + 1]? = some (.cells #[.int .i64 0, .int .i64 0, .int .i64 0, .slice none 0 0] 80 (0, 0)) ∧ RowsAt u p rows := fun u hu =>
    ⟨HB.out.trans (hu.mono HB.out.size), (hu.block _ (lt_of_heap K0.out)).trans K0.out, (hu.block _ (lt_of_heap K1.out)).trans K1.out, (HH.out.below HB.out).below hu⟩
  clear hb0 hb k0 k1 h hpe HB K0 K1
  rcases hsp with ⟨rfl, -⟩ | ⟨j, rfl, hj, -, -⟩
  · have HR := Lib.hid (show F = ⟨key, 0, start, []⟩ by rw [HF.out]; rfl)
    have HRI := Lib.hid (show I = false by rw [HI.out]; rfl)
    clear HF HI
    go_enter Tryz.func67, Tryz.ntmps67
    go_wp2_with (go_at_call 119; (with_reducible refine hat.mono ?_); rintro e u ⟨rfl, hbu⟩; obtain ⟨b1, q0, q1, q2⟩ := arm _ hbu; obtain ⟨c0, c1, -⟩ := tab_cells (t := ⟨start, rows⟩) q0; obtain ⟨d0, d1, d2, d3, ff⟩ := row_cells q1; have f0 := ff 0; have f1 := ff 1; have f2 := ff 2; have f3 := ff 3; have B1 := Lib.hid b1; clear hat arm hbu b1 q0 q1 q2 ff)
    refine bodyPost_ret (v := .tuple #[.agg #[.int .i64 key, .int .i64 0, .int .i64 start, .slice none 0 0], .bool false]) (by simp [results, Tryz.results67, go_sem, d0, d1, d2, d3]) rfl ?_
    rw [HR.out, HRI.out]
    exact ⟨none, 0, rfl, .inl rfl, ((((B1.out.setCell (by simp) _).setCell (by simp) _).setCell (by simp) _).setCell (by simp) _)⟩
  · have HR := Lib.hid (show F = rows.getD j noRow by rw [HF.out, if_neg (by omega)]; simp)
    have HRI := Lib.hid (show I = true by rw [HI.out]; simp)
    have hj' : (j : Int) < (rows.length : Int) := by omega
    obtain ⟨b, o, rfl, r0', r1', r2', pl, cl, r3', hls⟩ := rows_some H0.out hj
    have r0 := cell_on r0' HWW.out
    have r1 := cell_on r1' HWW.out
    have r2 := cell_on r2' HWW.out
    have r3 := cell_on r3' HWW.out
    have HL := Lib.hid hls
    have R0 := Lib.hid (And.intro r0 (And.intro r1 (And.intro r2 r3)))
    clear r0 r1 r2 r3 r0' r1' r2' r3' hls HH
    generalize rows.getD j noRow = z at *
    clear HF HI
    go_enter Tryz.func67, Tryz.ntmps67
    go_wp2_with (go_at_call 119; (with_reducible refine hat.mono ?_); rintro e u ⟨rfl, hbu⟩; obtain ⟨b1, q0, q1, q2⟩ := arm _ hbu; obtain ⟨c0, c1, -⟩ := tab_cells (t := ⟨start, rows⟩) q0; obtain ⟨d0, d1, d2, d3, ff⟩ := row_cells q1; have f0 := ff 0; have f1 := ff 1; have f2 := ff 2; have f3 := ff 3; have B1 := Lib.hid b1; have r0 := cell_on R0.out.1 b1; have r1 := cell_on R0.out.2.1 b1; have r2 := cell_on R0.out.2.2.1 b1; have r3 := cell_on R0.out.2.2.2 b1; clear hat arm hbu b1 q0 q1 q2 ff R0)
    have BF := Lib.hid (((((B1.out.setCell (p := ⟨w.heap.size + 1, 0, none⟩) (by simp) (.int .i64 z.key)).setCell (p := ⟨w.heap.size + 1, 1, none⟩) (by simp) (.int .i64 z.avail)).setCell (p := ⟨w.heap.size + 1, 2, none⟩) (by simp) (.int .i64 z.mark)).setCell (p := ⟨w.heap.size + 1, 3, none⟩) (by simp) (.slice pl z.out.length (cl + z.out.length))))
    refine bodyPost_ret (v := .tuple #[.agg #[.int .i64 z.key, .int .i64 z.avail, .int .i64 z.mark, .slice pl z.out.length (cl + z.out.length)], .bool true]) (by simp [results, Tryz.results67, go_sem, d0, d1, d2, d3]) rfl ?_
    rw [HR.out, HRI.out]
    exact ⟨pl, cl, rfl, HL.out, BF.out⟩
end Go.Proofs.YtbgdlokegibkmaaGreat.Ledger

namespace Go.Proofs.YtbgdlokegibkmaaGreat.Ledger
open Go.RowKit
open _root_.Go.Proofs.YtbgdlokegibkmaaGreat.Frame (Rw Tb noRow LeasesAt cell_on)
open _root_.Go.Proofs.YtbgdlokegibkmaaGreat.Codec (own_below own_lower lt_of_heap frozen_of heap_set)
open _root_.Go.Proofs.YtbgdlokegibkmaaGreat.Sat (fit add sub mul radd_any)
/-- The numbers so far. -/
def soFar (r : Rw) (j : Nat) : List Int := r.avail :: (r.out.take j).map (·.2)
theorem soFar_succ (r : Rw) (j : Nat) (h : j < r.out.length) : soFar r (j + 1) = soFar r j ++ [(r.out.getD j (0, 0)).2] := by
  have e : r.out.getD j (0, 0) = r.out[j] := by simp [List.getD, h]
  rw [e, soFar, List.take_succ_eq_append_getElem h]
  simp only [List.map_append, List.map_cons, List.map_nil, List.cons_append, soFar]
theorem soFar_all (r : Rw) : total r = add (soFar r r.out.length) := by simp [soFar, total]
theorem soFar_len (r : Rw) (j : Nat) (h : j ≤ r.out.length) : (soFar r j).length = j + 1 := by simp [soFar]; omega
set_option maxRecDepth 100000 in
set_option maxHeartbeats 1000000 in
theorem total_any (r : Rw) (p : Option Addr) (c : Nat) (w : World) (h : LeasesAt w p r.out) (hl : r.out.length ≤ 1000) :
    Calls Tryz.prog 30 #[rowVal r p c] w fun e w' => e = .returned (.int .i64 (total r)) ∧ Below w.heap.size w w' := by
  obtain ⟨i0, hi, hz0, hz1, hz2⟩ := info_parts infoI
  have HT := Lib.hid (soFar_all r)
  have HS := fun j => Lib.hid (soFar_succ r j)
  have HL := fun j => Lib.hid (soFar_len r j)
  have h00 : soFar r 0 = [r.avail] := by simp [soFar]
  generalize total r = T at HT ⊢
  generalize soFar r = F at *
  obtain ⟨key, avail, mark, out⟩ := r
  simp only at *
  have hb := (Below.refl w.heap.size w).alloc (Nat.le_refl _) (.cells #[.int .i64 key, .int .i64 avail, .int .i64 mark, .slice p out.length (c + out.length)] 80)
  have hr := h.below hb
  have hbx := heap_alloc_new w (.cells #[.int .i64 key, .int .i64 avail, .int .i64 mark, .slice p out.length (c + out.length)] 80)
  have hO : OwnI (w.alloc (.cells #[.int .i64 key, .int .i64 avail, .int .i64 mark, .slice p out.length (c + out.length)] 80)).heap.size ((w.alloc (.cells #[.int .i64 key, .int .i64 avail, .int .i64 mark, .slice p out.length (c + out.length)] 80)).alloc (.cells #[.int .i64 avail] 3)) (.slice (some ⟨w.heap.size + 1, 0, none⟩) 1 1) (F 0) := by
    rw [h00]
    refine ⟨rfl, .inr ⟨w.heap.size + 1, 1, #[.int .i64 avail], rfl, by simp, ?_, Nat.le_refl _, (by unfold maxLen; omega), rfl, rfl⟩⟩
    have := heap_alloc_new (w.alloc (.cells #[.int .i64 key, .int .i64 avail, .int .i64 mark, .slice p out.length (c + out.length)] 80)) (.cells #[.int .i64 avail] 3)
    rwa [show (w.alloc (.cells #[.int .i64 key, .int .i64 avail, .int .i64 mark, .slice p out.length (c + out.length)] 80)).heap.size = w.heap.size + 1 by simp] at this
  have hb1 := (Below.refl (w.alloc (.cells #[.int .i64 key, .int .i64 avail, .int .i64 mark, .slice p out.length (c + out.length)] 80)).heap.size (w.alloc (.cells #[.int .i64 key, .int .i64 avail, .int .i64 mark, .slice p out.length (c + out.length)] 80))).alloc (Nat.le_refl _) (.cells #[.int .i64 avail] 3)
  simp only [rowVal] at *
  have HH := Lib.hid hr
  have HB := Lib.hid hb
  have HX := Lib.hid hbx
  have HO := Lib.hid hO
  have HB1 := Lib.hid hb1
  clear h hb hr hbx hO hb1 h00
  go_enter Tryz.func30, Tryz.ntmps30
  go_wp2
  have hsz : (w.alloc (.cells #[.int .i64 key, .int .i64 avail, .int .i64 mark, .slice p out.length (c + out.length)] 80)).heap.size = w.heap.size + 1 := by simp
  generalize w.alloc (.cells #[.int .i64 key, .int .i64 avail, .int .i64 mark, .slice p out.length (c + out.length)] 80) = w1 at *
  have HZ := Lib.hid hsz
  clear hsz
  go_loopw [3, 4] (fun v i wr => ∃ j : Nat, j ≤ out.length ∧ i = .int .i64 (j : Int) ∧ Hid (OwnI w1.heap.size wr v (F j)) ∧ Below w1.heap.size w1 wr) (fun _ i _ => out.length - (intOf i).toNat)
  case atStart => exact ⟨0, by omega, rfl, HO, HB1.out⟩
  case round =>
    obtain ⟨j, hj, rfl, hown, hbw⟩ := hrel
    obtain ⟨-, -, -, c3, -⟩ := row_cells ((hbw.block _ (lt_of_heap HX.out)).trans HX.out)
    by_cases hlt : j < out.length
    · obtain ⟨b, o, rfl, -, k1⟩ := leases_some (HH.out.below hbw) hlt
      have hlt' : (j : Int) < (out.length : Int) := by omega
      have hlen := (HL j).out (by omega)
      have HSJ := Lib.hid ((HS j).out hlt)
      have HW := Lib.hid hown.out
      unfold OwnI at HW
      have hBr : w1.heap.size ≤ wr.heap.size := hbw.size
      generalize (out.getD j (0, 0)).2 = x at *
      clear hown
      go_wp2_with (at_builtin; refine wpList_append_own _ rfl (.tmp 15) (.tmp 22) 25 rfl w1.heap.size 3 i0 (.int .i64 0) 1 8 Tryz.underlying25 hi hz0 hz1 hz2 rfl (by decide) _ _ _ rfl (HW.out.alloc _) ⟨wr.heap.size, 0, none⟩ 1 1 [.int .i64 x] rfl rfl ?c1 ?c2 ?c3 ?c4 ?c5 ?_)
      case c1 => intro j u hj; match j, hj with | 0, hj => simp at hj; subst hj; simp [Addr.add]
      case c2 => intro u hu; simp at hu; subst hu; rfl
      case c3 => unfold maxLen; omega
      case c4 => omega
      case c5 => simp; omega
      intro v' w2 ho hg _
      have ho' : OwnI w1.heap.size w2 v' (F (j + 1)) := by
        rw [HSJ.out]
        refine OwnI.app (n := 1) (xs := [x]) ?_ rfl
        rw [hlen]
        exact ho
      have hb2 := (hbw.alloc hBr _).grown hg (by simp; omega) (fun k hk => (HW.out.lt k hk).1)
      have R := Lib.hid ho'
      clear hg ho ho' HW
      go_wp2
      go_roundw
      case rel => exact ⟨j + 1, by omega, by go_num, R, hb2⟩
      case measure => simp [intOf]; omega
    · obtain rfl : j = out.length := by omega
      obtain ⟨pv, cv, rfl, hints⟩ := hown.out.ints
      have hadd := radd_any (F out.length) pv cv wr (by rw [(HL _).out (Nat.le_refl _)]; omega) hints
      rw [← HT.out] at hadd
      generalize (F out.length).length = n at *
      clear hown hints
      go_wp2_with (go_at_call 72; (with_reducible refine hadd.mono ?_); rintro e w' ⟨rfl, rfl⟩; clear hadd)
      go_ret
      exact ⟨rfl, HB.out.trans (hbw.mono HB.out.size)⟩
end Go.Proofs.YtbgdlokegibkmaaGreat.Ledger

namespace Go.Proofs.YtbgdlokegibkmaaGreat.Queue2
open Go.RowKit
open _root_.Go.Proofs.YtbgdlokegibkmaaGreat.Codec (own_below own_lower lt_of_heap frozen_of heap_set grown_set)
open _root_.Go.Proofs.YtbgdlokegibkmaaGreat.Queue
open _root_.Go.Proofs.YtbgdlokegibkmaaGreat.Kit (Enc Lies Own At Kept Laid cell_on lt_heap)
/-- The document's queue. -/
def Qu (B : Nat) (w : World) (v ov : Nat) (room : Int) (l : List It) : Prop := B ≤ v ∧ ∃ cs T y, w.heap[v]? = some (.cells cs T (0, 0)) ∧ cs[ov]? = some (.int .i64 room) ∧ cs[ov + 1]? = some y ∧ Own item 113 B w y l
end Go.Proofs.YtbgdlokegibkmaaGreat.Queue2

namespace Go.Proofs.YtbgdlokegibkmaaGreat.Demand2
open Go.RowKit
open _root_.Go.Proofs.YtbgdlokegibkmaaGreat.Codec (own_below own_lower lt_of_heap frozen_of heap_set grown_set)
open _root_.Go.Proofs.YtbgdlokegibkmaaGreat.Demand
open _root_.Go.Proofs.YtbgdlokegibkmaaGreat.Kit (Enc Lies Own At Kept Laid cell_on lt_heap)
/-- The document's estimates: all that was noted. -/
def Dm (B : Nat) (w : World) (v ov : Nat) (l : List Nt) : Prop := B ≤ v ∧ ∃ cs T y, w.heap[v]? = some (.cells cs T (0, 0)) ∧ cs[ov]? = some y ∧ Own note 244 B w y l
end Go.Proofs.YtbgdlokegibkmaaGreat.Demand2

namespace Go.Proofs.YtbgdlokegibkmaaGreat.Lease2
open _root_.Go.Proofs.YtbgdlokegibkmaaGreat.Lease
variable {ov : Nat}
open Go.RowKit
open _root_.Go.Proofs.YtbgdlokegibkmaaGreat.Codec (lt_of_heap frozen_of heap_set)
/-- What is left, and how many are gone, behind those from j on. -/
def kept (l : List Lz) (g : Int) (j : Nat) : List Lz := l.take j ++ (l.drop j).filter fun x => !elder g x
end Go.Proofs.YtbgdlokegibkmaaGreat.Lease2

namespace Go.Proofs.YtbgdlokegibkmaaGreat.Sat
open Go.RowKit
theorem ret_int {k : IntKind} {a b : Int} (h : a = b) : Ending.returned (.int k a) = .returned (.int k b) := by rw [h]
theorem clamp_any (x lo hi : Int) (w : World) :
    Calls Tryz.prog 144 #[.int .i64 x, .int .i64 lo, .int .i64 hi] w fun e w' => e = .returned (.int .i64 (clamp x lo hi)) ∧ w = w' := by
  by_cases h1 : x < lo
  · go_enter Tryz.func144, Tryz.ntmps144
    go_wp2
    go_ret
    exact ⟨ret_int (by unfold clamp; rw [if_pos (Or.inl h1)]), rfl⟩
  · by_cases h2 : hi < lo
    · go_enter Tryz.func144, Tryz.ntmps144
      go_wp2
      go_ret
      exact ⟨ret_int (by unfold clamp; rw [if_pos (Or.inr h2)]), rfl⟩
    · by_cases h3 : hi < x
      · go_enter Tryz.func144, Tryz.ntmps144
        go_wp2
        go_ret
        exact ⟨ret_int (by unfold clamp; rw [if_neg (by omega), if_pos h3]), rfl⟩
      · go_enter Tryz.func144, Tryz.ntmps144
        go_wp2
        go_ret
        exact ⟨ret_int (by unfold clamp; rw [if_neg (by omega), if_neg (by omega)]), rfl⟩
theorem fit_any (x : Int) (w : World) :
    Calls Tryz.prog 100 #[.int .i64 x] w fun e w' => e = .returned (.int .i64 (fit x)) ∧ w = w' := by
  go_enter Tryz.func100, Tryz.ntmps100
  go_wp2_with (go_at_call 144; refine (clamp_any _ _ _ _).mono ?_; rintro e w' ⟨rfl, rfl⟩)
  go_ret
  exact ⟨ret_int (clamp_fit x), rfl⟩
theorem sub_any (a b : Int) (w : World) :
    Calls Tryz.prog 154 #[.int .i64 a, .int .i64 b] w fun e w' => e = .returned (.int .i64 (sub a b)) ∧ w = w' := by
  have a0 := fit_lo a; have a1 := fit_hi a; have b0 := fit_lo b; have b1 := fit_hi b
  go_enter Tryz.func154, Tryz.ntmps154
  go_wp2_with (go_at_call 100; refine (fit_any _ _).mono ?_; rintro e w' ⟨rfl, rfl⟩)
  go_ret
  exact ⟨rfl, rfl⟩
theorem mul_over (a b : Int) (h0 : 0 < a) : (4611686018427387904 / a < b) ↔ 4611686018427387904 < a * b := by
  rw [Int.mul_comm]; exact Int.ediv_lt_iff_lt_mul h0
theorem mul_any (a b : Int) (w : World) :
    Calls Tryz.prog 223 #[.int .i64 a, .int .i64 b] w fun e w' => e = .returned (.int .i64 (mul a b)) ∧ w = w' := by
  have a0 := fit_lo a; have a1 := fit_hi a; have b0 := fit_lo b; have b1 := fit_hi b
  have hm : mul a b = if top < fit a * fit b then top else fit a * fit b := rfl
  have HM := Lib.hid hm; clear hm
  by_cases hz : 0 < fit a
  · have ho := mul_over (fit a) (fit b) hz
    have HO := Lib.hid ho; clear ho
    by_cases ht : 4611686018427387904 / fit a < fit b
    · go_enter Tryz.func223, Tryz.ntmps223
      go_wp2_with (go_at_call 100; refine (fit_any _ _).mono ?_; rintro e w' ⟨rfl, rfl⟩)
      go_ret
      exact ⟨ret_int (by rw [HM.out, if_pos (by unfold top; exact HO.out.1 ht)]; rfl), rfl⟩
    · have hn : ¬ (4611686018427387904 < fit a * fit b) := fun h => ht (HO.out.2 h)
      have hp := Int.mul_nonneg a0 b0
      go_enter Tryz.func223, Tryz.ntmps223
      go_wp2_with (go_at_call 100; refine (fit_any _ _).mono ?_; rintro e w' ⟨rfl, rfl⟩)
      go_ret
      exact ⟨ret_int (by rw [HM.out, if_neg (by unfold top; omega)]), rfl⟩
  · have hp : 0 ≤ fit a * fit b := Int.mul_nonneg a0 b0
    have hn : fit a * fit b ≤ 0 := Int.mul_nonpos_of_nonpos_of_nonneg (by omega) b0
    go_enter Tryz.func223, Tryz.ntmps223
    go_wp2_with (go_at_call 100; refine (fit_any _ _).mono ?_; rintro e w' ⟨rfl, rfl⟩)
    go_ret
    exact ⟨ret_int (by rw [HM.out, if_neg (by unfold top; omega)]), rfl⟩
theorem sum_take (l : List Int) (k : Nat) (h : k < l.length) : sum (l.take (k + 1)) = sum (l.take k) + fit (l.getD k 0) := by
  rw [List.take_succ_eq_append_getElem h, sum_append]; simp [sum, h]
theorem sum_take_le (l : List Int) (k : Nat) : sum (l.take k) ≤ sum l := by
  have h := sum_append (l.take k) (l.drop k)
  rw [List.take_append_drop] at h
  have := sum_lo (l.drop k)
  omega
/-- Add of a slice whose cells are ints. -/
theorem add_any (l : List Int) (b c : Nat) (w : World) (hl : l.length ≤ 1000)
    (hc : ∀ k : Nat, k < l.length → w.cell? ⟨b, k, none⟩ = some (.int .i64 (l.getD k 0))) :
    Calls Tryz.prog 88 #[.slice (some ⟨b, 0, none⟩) l.length c] w fun e w' => e = .returned (.int .i64 (add l)) ∧ w = w' := by
  have HC := Lib.hid hc; clear hc
  go_enter Tryz.func88, Tryz.ntmps88
  go_wp2
  go_loop [3, 9] (fun s i => ∃ k : Nat, k ≤ l.length ∧ i = .int .i64 k ∧ s = .int .i64 (sum (l.take k)) ∧ sum (l.take k) ≤ 4611686018427387904) (fun _ i => l.length - (intOf i).toNat)
  case atStart => exact ⟨0, Nat.zero_le _, rfl, rfl, by simp [sum]⟩
  case round =>
    obtain ⟨k, hk, rfl, rfl, hs⟩ := hrel
    have hs0 := sum_lo (l.take k)
    by_cases hlt : k < l.length
    · have hcell := HC.out k hlt
      have f0 := fit_lo (l.getD k 0); have f1 := fit_hi (l.getD k 0)
      have hst := sum_take l k hlt
      have hle := sum_take_le l (k + 1)
      have HS := Lib.hid hst; clear hst
      have HL := Lib.hid hle; clear hle
      generalize l.getD k 0 = x at *
      by_cases ht : 4611686018427387904 - sum (l.take k) < fit x
      · go_wp2_with (go_at_call 100; refine (fit_any _ _).mono ?_; rintro e w' ⟨rfl, rfl⟩)
        go_ret
        exact ⟨ret_int (by have h1 := HS.out; have h2 := HL.out; unfold add; rw [if_pos (by unfold top; omega)]; rfl), rfl⟩
      · go_wp2_with (go_at_call 100; refine (fit_any _ _).mono ?_; rintro e w' ⟨rfl, rfl⟩)
        go_round
        case rel => exact ⟨k + 1, by omega, by go_num, by rw [HS.out], by rw [HS.out]; omega⟩
        case measure => simp [intOf]; omega
    · go_wp2
      go_ret
      exact ⟨ret_int (by unfold add; rw [List.take_of_length_le (by omega)] at hs ⊢; rw [if_neg (by unfold top; omega)]), rfl⟩
/-- Add of two numbers, of three, in a new block. -/
theorem add2 (x y : Int) (w : World) (b : Nat) (hb : b = w.heap.size) :
    Calls Tryz.prog 88 #[.slice (some ⟨b, 0, none⟩) 2 2] (w.alloc (.cells #[.int .i64 x, .int .i64 y] 3)) fun e w' => e = .returned (.int .i64 (add [x, y])) ∧ w.alloc (.cells #[.int .i64 x, .int .i64 y] 3) = w' := by
  subst hb
  refine add_any [x, y] _ 2 _ (by simp) fun k hk => ?_
  rw [World.cell?_alloc_new]
  match k, hk with
  | 0, _ => rfl
  | 1, _ => rfl
end Go.Proofs.YtbgdlokegibkmaaGreat.Sat

namespace Go.Proofs.YtbgdlokegibkmaaGreat.Lease
open Go.RowKit
open _root_.Go.Proofs.YtbgdlokegibkmaaGreat.Codec (lt_of_heap frozen_of heap_set)
/-- What is left, and how many are gone, behind those from j on. -/
def kept (l : List Lz) (g : Int) (j : Nat) : List Lz := l.take j ++ (l.drop j).filter fun x => !elder g x
end Go.Proofs.YtbgdlokegibkmaaGreat.Lease
