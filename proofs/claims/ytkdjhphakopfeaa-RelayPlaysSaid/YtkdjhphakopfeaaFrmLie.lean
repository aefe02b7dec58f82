/-
  Words for memory: ints, leases and rows that lie ahead of a block, or in blocks of a type; what of them stays behind a call. No condition beyond those that each names.
-/
import Derived.Test.YtkdjhphakopfeaaFrmRight
import Derived.Test.YtkdjhphakopfeaaFrmTable
namespace Go.Proofs.Ytkdjhphakopfeaa.Frame
open Go.RowKit Codec

/-- Blocks ahead of B stay, and blocks of type T. -/
def Kp (B : Nat) (T : TypeId) (w w' : World) : Prop := B ≤ w.heap.size ∧ (∀ g, g < B → w'.heap[g]? = w.heap[g]?) ∧ Stays T w w'
section
variable {B : Nat} {T : TypeId} {w w' w'' : World}
theorem Kp.below (hb : Below w.heap.size w w') (hB : B ≤ w.heap.size) : Kp B T w w' := ⟨hB, fun g hg => hb.block g (by omega), .below hb⟩
theorem Kp.grown {b : Nat} {cs : Array Value} {z : Nat × Nat} {T' : TypeId} (hb : w.heap[b]? = some (.cells cs T' z)) (hT : T' ≠ T) (hB : B ≤ b) (hg : w.grownBy w' (some b)) : Kp B T w w' :=
  ⟨Nat.le_of_lt (Nat.lt_of_le_of_lt hB (lt_of_heap hb)), fun g h => hg.block g (Nat.lt_trans (Nat.lt_of_lt_of_le h hB) (lt_of_heap hb)) (by simp; omega), .grown hb hT hg⟩
theorem Kp.trans (h : Kp B T w w') (k : Kp B T w' w'') : Kp B T w w'' := ⟨h.1, fun g hg => (k.2.1 g hg).trans (h.2.1 g hg), h.2.2.trans k.2.2⟩

/-- Where a block may lie: ahead of B, or it is of type T. -/
def Lies2 (B : Nat) (T : TypeId) (w : World) (g : Nat) : Prop := g < B ∨ ∃ cs z, w.heap[g]? = some (Obj.cells cs T z)
theorem Lies2.cell {g o : Nat} (h : Lies2 B T w g) (k : Kp B T w w') : w'.cell? ⟨g, o, none⟩ = w.cell? ⟨g, o, none⟩ := by
  have e : w'.heap[g]? = w.heap[g]? := by
    rcases h with h | ⟨cs, z, h⟩
    · exact k.2.1 g h
    · rw [h]; exact k.2.2 g cs z h
  simp [World.cell?, e]
theorem Lies2.keep {g : Nat} (h : Lies2 B T w g) (k : Kp B T w w') : Lies2 B T w' g := by
  rcases h with h | ⟨cs, z, h⟩
  · exact .inl h
  · exact .inr ⟨cs, z, k.2.2 g cs z h⟩

def IntsS (B : Nat) (w : World) (p : Option Addr) (l : List Int) : Prop :=
  l = [] ∨ ∃ b o, p = some ⟨b, o, none⟩ ∧ Lies2 B 3 w b ∧ ∀ j, j < l.length → w.cell? ⟨b, o + j, none⟩ = some (.int .i64 (l.getD j 0))
def LeasesS (B : Nat) (w : World) (p : Option Addr) (l : List (Int × Int)) : Prop :=
  l = [] ∨ ∃ b o, p = some ⟨b, o, none⟩ ∧ Lies2 B 97 w b ∧ ∀ j, j < l.length → w.cell? ⟨b, o + j * 2, none⟩ = some (.int .i64 (l.getD j (0, 0)).1) ∧ w.cell? ⟨b, o + j * 2 + 1, none⟩ = some (.int .i64 (l.getD j (0, 0)).2)
def RowS (B : Nat) (w : World) (b o : Nat) (r : Rw) : Prop :=
  w.cell? ⟨b, o, none⟩ = some (.int .i64 r.key) ∧ w.cell? ⟨b, o + 1, none⟩ = some (.int .i64 r.avail) ∧ w.cell? ⟨b, o + 2, none⟩ = some (.int .i64 r.mark) ∧
    ∃ p c, w.cell? ⟨b, o + 3, none⟩ = some (.slice p r.out.length c) ∧ LeasesS B w p r.out
def RowsS (B : Nat) (w : World) (p : Option Addr) (l : List Rw) : Prop :=
  l = [] ∨ ∃ b o, p = some ⟨b, o, none⟩ ∧ Lies2 B 89 w b ∧ ∀ j, j < l.length → RowS B w b (o + j * 4) (l.getD j noRow)

theorem IntsS.ints {p : Option Addr} {l : List Int} (h : IntsS B w p l) : Ints w p l := by
  rcases h with h | ⟨b, o, h, _, hc⟩
  · exact .inl h
  · exact .inr ⟨b, o, h, hc⟩
theorem LeasesS.leases {p : Option Addr} {l : List (Int × Int)} (h : LeasesS B w p l) : LeasesAt w p l := by
  rcases h with h | ⟨b, o, h, _, hc⟩
  · exact .inl h
  · exact .inr ⟨b, o, h, hc⟩
theorem RowS.row {b o : Nat} {r : Rw} (h : RowS B w b o r) : RowAt w b o r := by
  obtain ⟨h0, h1, h2, p, c, h3, h4⟩ := h
  exact ⟨h0, h1, h2, p, c, h3, h4.leases⟩
theorem RowsS.rows {p : Option Addr} {l : List Rw} (h : RowsS B w p l) : RowsAt w p l := by
  rcases h with h | ⟨b, o, h, _, hc⟩
  · exact .inl h
  · exact .inr ⟨b, o, h, fun j hj => (hc j hj).row⟩

theorem LeasesS.of {p : Option Addr} {l : List (Int × Int)} (h : LeasesAt w p l) : LeasesS w.heap.size w p l := by
  by_cases h0 : l = []
  · exact .inl h0
  · rcases h with h | ⟨b, o, h, hc⟩
    · exact .inl h
    · exact .inr ⟨b, o, h, .inl (World.block_lt_of_cell? _ _ (hc 0 (List.length_pos_iff.2 h0)).1), hc⟩
theorem RowS.of {b o : Nat} {r : Rw} (h : RowAt w b o r) : RowS w.heap.size w b o r := by
  obtain ⟨h0, h1, h2, p, c, h3, h4⟩ := h
  exact ⟨h0, h1, h2, p, c, h3, .of h4⟩

theorem IntsS.keep {p : Option Addr} {l : List Int} (h : IntsS B w p l) (k : Kp B 3 w w') : IntsS B w' p l := by
  rcases h with h | ⟨b, o, h, hl, hc⟩
  · exact .inl h
  · exact .inr ⟨b, o, h, hl.keep k, fun j hj => (hl.cell k).trans (hc j hj)⟩
theorem LeasesS.keep {p : Option Addr} {l : List (Int × Int)} (h : LeasesS B w p l) (k : Kp B 97 w w') : LeasesS B w' p l := by
  rcases h with h | ⟨b, o, h, hl, hc⟩
  · exact .inl h
  · exact .inr ⟨b, o, h, hl.keep k, fun j hj => ⟨(hl.cell k).trans (hc j hj).1, (hl.cell k).trans (hc j hj).2⟩⟩
theorem RowS.keep {b o : Nat} {r : Rw} (h : RowS B w b o r) (hl : Lies2 B 89 w b) (k : Kp B 89 w w') (k' : Kp B 97 w w') : RowS B w' b o r := by
  obtain ⟨h0, h1, h2, p, c, h3, h4⟩ := h
  exact ⟨(hl.cell k).trans h0, (hl.cell k).trans h1, (hl.cell k).trans h2, p, c, (hl.cell k).trans h3, h4.keep k'⟩
theorem RowsS.keep {p : Option Addr} {l : List Rw} (h : RowsS B w p l) (k : Kp B 89 w w') (k' : Kp B 97 w w') : RowsS B w' p l := by
  rcases h with h | ⟨b, o, h, hl, hc⟩
  · exact .inl h
  · exact .inr ⟨b, o, h, hl.keep k, fun j hj => (hc j hj).keep hl k k'⟩

theorem Lies2.lower {B' g : Nat} (h : Lies2 B T w g) (hB : B ≤ B') : Lies2 B' T w g := by
  rcases h with h | h
  · exact .inl (by omega)
  · exact .inr h
theorem LeasesS.lower {B' : Nat} {p : Option Addr} {l : List (Int × Int)} (h : LeasesS B w p l) (hB : B ≤ B') : LeasesS B' w p l := by
  rcases h with h | ⟨b, o, h, hl, hc⟩
  · exact .inl h
  · exact .inr ⟨b, o, h, hl.lower hB, hc⟩

/-- A row of cells, as they lie. -/
theorem cells_of (w : World) (b o m : Nat) (h : ∀ j, j < m → ∃ u, w.cell? ⟨b, o + j, none⟩ = some u ∧ u.oneCell' = true) :
    ∃ xs : List Value, xs.length = m ∧ (∀ j u, xs[j]? = some u → w.cell? ((⟨b, o, none⟩ : Addr).add j) = some u) ∧ (∀ j, j < m → ∃ u, xs[j]? = some u ∧ w.cell? ⟨b, o + j, none⟩ = some u) ∧ ∀ u ∈ xs, u.oneCell' = true := by
  induction m with
  | zero => exact ⟨[], rfl, by simp, by intro j hj; omega, by simp⟩
  | succ m ih =>
    obtain ⟨xs, h1, h2, h3, h4⟩ := ih (fun j hj => h j (by omega))
    obtain ⟨u, hu, ho⟩ := h m (by omega)
    refine ⟨xs ++ [u], by simp [h1], fun j v hj => ?_, fun j hj => ?_, fun v hv => ?_⟩
    · by_cases hlt : j < xs.length
      · rw [List.getElem?_append_left hlt] at hj
        exact h2 j v hj
      · rw [List.getElem?_append_right (by omega)] at hj
        have : j = m := by
          by_cases hjm : j - xs.length = 0
          · omega
          · rw [List.getElem?_eq_none (by simp; omega)] at hj; cases hj
        subst this
        rw [h1, Nat.sub_self] at hj
        simp only [List.getElem?_cons_zero, Option.some.injEq] at hj
        rw [add_at, ← hj]
        exact hu
    · by_cases hlt : j < m
      · obtain ⟨v, hv, hc⟩ := h3 j hlt
        exact ⟨v, by rw [List.getElem?_append_left (by omega)]; exact hv, hc⟩
      · obtain rfl : j = m := by omega
        exact ⟨u, by rw [List.getElem?_append_right (by omega), h1, Nat.sub_self]; rfl, hu⟩
    · rcases List.mem_append.1 hv with hv | hv
      · exact h4 v hv
      · simp only [List.mem_singleton] at hv
        rw [hv]; exact ho
end
end Go.Proofs.Ytkdjhphakopfeaa.Frame
