/-
  The program's relay in memory: its block, the frame that it holds, in a block of its own, with lists of its own. No condition beyond those that each names.
-/
import Derived.Test.YtkdjhphakopfeaaRelayRef
import Derived.Test.YtkdjhphakopfeaaRelayWay
import Derived.Test.YtkdjhphakopfeaaFrmClone2
import Derived.Test.YtkdjhphakopfeaaRlAtomic
namespace Go.Proofs.Ytkdjhphakopfeaa.Relay
open Go.RowKit
open _root_.Go.Proofs.Ytkdjhphakopfeaa.Codec (lt_of_heap frozen_of heap_set grown_set below_new Ints)
open _root_.Go.Proofs.Ytkdjhphakopfeaa.Frame (Fr Tk Tb Rw noRow frameOk Lying frameVal fitsTk OwnS RowsS Kp allTo Small)
open _root_.Go.Proofs.Ytkdjhphakopfeaa.Kit (Kept Off cell_on)

theorem fits_few {t : Tk} (h : fitsTk t = true) : t.stamps.length ≤ 100 ∧ t.table.rows.length ≤ 100 ∧ ∀ r ∈ t.table.rows, r.out.length ≤ 100 := by
  simp only [fitsTk, Bool.and_eq_true, decide_eq_true_eq] at h
  refine ⟨h.1.1, h.1.2, fun r hr => ?_⟩
  obtain ⟨j, hj, rfl⟩ := List.getElem_of_mem hr
  have := List.all_eq_true.1 h.2 j (List.mem_range.2 hj)
  simpa [List.getD, hj] using this
/-- A frame's lists lie in blocks of their types. -/
structure LyT (w : World) (f : Fr) (ps p : Option Addr) : Prop where
  stamps : OwnS 0 w ps f.token.stamps
  rows : RowsS 0 w p f.token.table.rows
  fits : fitsTk f.token = true
section
variable {F G : Nat → Prop} {w w' u : World} {B q : Nat} {r r' : Rl} {f : Fr} {ps p : Option Addr}
theorem LyT.lying (h : LyT w f ps p) : Lying w f ps p := by
  obtain ⟨h1, h2, h3⟩ := fits_few h.fits
  exact ⟨h.stamps.ints, h.rows.rows, fun r hr => by have := h3 r hr; omega, by omega, by omega⟩
theorem LyT.keep (h : LyT w f ps p) (k1 : Kp 0 3 w w') (k2 : Kp 0 89 w w') (k3 : Kp 0 97 w w') : LyT w' f ps p := ⟨h.stamps.keep k1, h.rows.keep k2 k3, h.fits⟩
theorem kp_kept {T : TypeId} (h : Kept [30] w w') (hT : T ≠ 30) : Kp 0 T w w' := ⟨Nat.zero_le _, fun g hg => absurd hg (Nat.not_lt_zero _), fun g cs z e => h.block g cs T z e (by simpa using hT)⟩
theorem LyT.kept (h : LyT w f ps p) (k : Kept [30] w w') : LyT w' f ps p := h.keep (kp_kept k (by decide)) (kp_kept k (by decide)) (kp_kept k (by decide))
theorem LyT.below (h : LyT w f ps p) (hb : Below w.heap.size w w') : LyT w' f ps p := h.kept (.of_below hb)
theorem LyT.grown (h : LyT w f ps p) {b : Nat} {cs : Array Value} {z : Nat × Nat} {T : TypeId} (hb : w.heap[b]? = some (.cells cs T z)) (h1 : T ≠ 3) (h2 : T ≠ 89) (h3 : T ≠ 97) (hg : w.grownBy w' (some b)) : LyT w' f ps p :=
  h.keep (.grown hb h1 (Nat.zero_le _) hg) (.grown hb h2 (Nat.zero_le _) hg) (.grown hb h3 (Nat.zero_le _) hg)
/-- The program's relay. -/
def Pr (F : Nat → Prop) (B : Nat) (w : World) (q : Nat) (r : Rl) : Prop := B ≤ q ∧ ¬ F q ∧ ∃ y, w.heap[q]? = some (.cells #[.pointer y, .int .i64 (r.sent : Int)] 62 (0, 0)) ∧
  match r.held with
  | none => y = none
  | some f => ∃ g ps p cs c, y = some ⟨g, 0, none⟩ ∧ w.heap[g]? = some (.cells (cells11 f ps p cs c) 41 (0, 0)) ∧ LyT w f ps p
theorem Pr.lt (h : Pr F B w q r) : q < w.heap.size := by
  obtain ⟨_, _, y, h1, _⟩ := h
  exact lt_of_heap h1
theorem Pr.turned (h : Pr F B w q r) (hk : Kept [30] w w') (hF : ¬ G q) : Pr G B w' q r := by
  obtain ⟨h0, _, y, h1, h2⟩ := h
  refine ⟨h0, hF, y, hk.block q _ _ _ h1 (by decide), ?_⟩
  obtain ⟨hd, n⟩ := r
  cases hd with
  | none => exact h2
  | some f =>
    obtain ⟨g, ps, p, cs, c, e, h3, h4⟩ := h2
    exact ⟨g, ps, p, cs, c, e, hk.block g _ _ _ h3 (by decide), h4.kept hk⟩
theorem Pr.below (h : Pr F B w q r) (hb : Below w.heap.size w w') : Pr F B w' q r := h.turned (.of_below hb) h.2.1
theorem Pr.grow (h : Pr F B w q r) (hb : Below w.heap.size w w') : Pr (fun g => F g ∨ (w.heap.size ≤ g ∧ g < w'.heap.size)) B w' q r := by
  have hl := h.lt
  have h2 := h.2.1
  refine h.turned (.of_below hb) ?_
  rintro (k | k)
  · exact h2 k
  · omega
/-- The relay's cells. -/
theorem Pr.cell (h : Pr F B w q r) : ∃ y, y.isSome = isHeld r ∧ w.cell? ⟨q, 0, none⟩ = some (.pointer y) ∧ w.cell? ⟨q, 1, none⟩ = some (.int .i64 (r.sent : Int)) ∧ w.frozen? ⟨q, 0, none⟩ = false ∧ w.frozen? ⟨q, 1, none⟩ = false := by
  obtain ⟨_, _, y, h1, h2⟩ := h
  refine ⟨y, ?_, by rw [cell_of_row w q 0 _ _ (0, 0) h1]; rfl, by rw [cell_of_row w q 1 _ _ (0, 0) h1]; rfl, frozen_of h1, frozen_of h1⟩
  obtain ⟨hd, n⟩ := r
  cases hd with
  | none => subst h2; rfl
  | some f =>
    obtain ⟨g, ps, p, cs, c, rfl, -, -⟩ := h2
    rfl
/-- Where the frame that is held lies. -/
theorem Pr.first (h : Pr F B w q r) {f : Fr} (e : r.held = some f) : ∃ g ps p cs c, w.cell? ⟨q, 0, none⟩ = some (.pointer (some ⟨g, 0, none⟩)) ∧ w.heap[g]? = some (.cells (cells11 f ps p cs c) 41 (0, 0)) ∧ LyT w f ps p := by
  obtain ⟨_, _, y, h1, h2⟩ := h
  obtain ⟨hd, n⟩ := r
  subst e
  obtain ⟨g, ps, p, cs, c, rfl, h3, h4⟩ := h2
  exact ⟨g, ps, p, cs, c, by rw [cell_of_row w q 0 _ _ (0, 0) h1]; rfl, h3, h4⟩
/-- A step that turns nothing but the relay's block, and new ones. -/
theorem Moved.of (h : Pr F B w q r) (_ : B ≤ w.heap.size) (hp : Pr F B w' q r') (hs : w.heap.size ≤ w'.heap.size) (ho : ∀ g, g ≠ q → g < w.heap.size → w'.heap[g]? = w.heap[g]?) (hb : Below B w w') : Moved Pr F B w q r' w' := by
  obtain ⟨h0, h1, y, h2, -⟩ := h
  refine ⟨hp, ⟨hs, fun g cs t z e ht => ?_⟩, hb, ⟨hs, fun g hg hl => ho g (fun e => h1 (e ▸ hg)) hl⟩⟩
  refine (ho g ?_ (lt_of_heap e)).trans e
  rintro rfl
  rw [h2] at e
  simp only [Option.some.injEq, Obj.cells.injEq] at e
  obtain ⟨-, rfl, -⟩ := e
  revert ht
  decide
theorem Moved.same (h : Pr F B w q r) (hB : B ≤ w.heap.size) (hb : Below w.heap.size w w') : Moved Pr F B w q r w' := .of h hB (h.below hb) hb.size (fun g _ hg => hb.block g hg) (hb.mono hB)
/-- The relay is emptied. -/
theorem Pr.empty (h : Pr F B w q r) : Pr F B (w.setCell ⟨q, 0, none⟩ (.pointer none)) q ⟨none, r.sent⟩ := by
  obtain ⟨h0, h1, y, h2, -⟩ := h
  exact ⟨h0, h1, none, heap_set q 0 _ _ h2, rfl⟩
theorem Moved.empty (h : Pr F B w q r) (hB : B ≤ w.heap.size) (hb : Below w.heap.size w u) : Moved Pr F B w q ⟨none, r.sent⟩ (u.setCell ⟨q, 0, none⟩ (.pointer none)) :=
  .of h hB (h.below hb).empty (by simpa using hb.size) (fun g hn hg => (Below.heap_setCell _ _ _ _ hn).trans (hb.block g hg)) ((hb.mono hB).setCell (p := ⟨q, 0, none⟩) h.1 _)
/-- A frame of its own is put into it. -/
theorem Pr.put (h : Pr F B w q r) {f : Fr} {g : Nat} {ps p : Option Addr} {cs c : Nat} (hg : w.heap[g]? = some (.cells (cells11 f ps p cs c) 41 (0, 0))) (hl : LyT w f ps p) : Pr F B (w.setCell ⟨q, 0, none⟩ (.pointer (some ⟨g, 0, none⟩))) q ⟨some f, r.sent⟩ := by
  obtain ⟨h0, h1, y, h2, -⟩ := h
  have hne : g ≠ q := by
    rintro rfl
    rw [h2] at hg
    simp only [Option.some.injEq, Obj.cells.injEq] at hg
    exact absurd hg.2.1 (by decide)
  exact ⟨h0, h1, _, heap_set q 0 _ _ h2, g, ps, p, cs, c, rfl, (Below.heap_setCell _ _ _ _ hne).trans hg, hl.grown h2 (by decide) (by decide) (by decide) (grown_set q 0 _)⟩
/-- One more is counted. -/
theorem Pr.count (h : Pr F B w q r) : Pr F B (w.setCell ⟨q, 1, none⟩ (.int .i64 ((r.sent : Int) + 1))) q ⟨r.held, r.sent + 1⟩ := by
  obtain ⟨h0, h1, y, h2, h3⟩ := h
  refine ⟨h0, h1, y, by rw [show ((r.sent + 1 : Nat) : Int) = (r.sent : Int) + 1 by omega]; exact heap_set q 1 _ _ h2, ?_⟩
  obtain ⟨hd, n⟩ := r
  cases hd with
  | none => exact h3
  | some f =>
    obtain ⟨g, ps, p, cs, c, e, h4, h5⟩ := h3
    have hne : g ≠ q := by
      rintro rfl
      rw [h2] at h4
      simp only [Option.some.injEq, Obj.cells.injEq] at h4
      exact absurd h4.2.1 (by decide)
    exact ⟨g, ps, p, cs, c, e, (Below.heap_setCell _ _ _ _ hne).trans h4, h5.grown h2 (by decide) (by decide) (by decide) (grown_set q 1 _)⟩
end
end Go.Proofs.Ytkdjhphakopfeaa.Relay
