/-
  The program's view in memory: its block, and its readings, all of a block of their own. No condition beyond those that each names.
-/
import Derived.Test.YtgbenfdffhcjiaaViewWay
namespace Go.Proofs.Ytgbenfdffhcjiaa.View
open Go.RowKit
open _root_.Go.Proofs.Ytgbenfdffhcjiaa.Codec (lt_of_heap frozen_of heap_set below_new)
open _root_.Go.Proofs.Ytgbenfdffhcjiaa.Kit (Enc Lies Own At Kept Laid Off cell_on lt_heap take_snoc below_drewN ints)

/-- Numbers that are all of a block. -/
def Row (w : World) (g : Nat) (l : List Int) : Prop := w.heap[g]? = some (.cells (l.map (Value.int .i64)).toArray 3 (0, 0))
section
variable {F G : Nat → Prop} {w w' u : World} {B q g : Nat} {V V' : Vw} {l : List Int}
theorem Row.set (h : Row w g l) (i : Nat) (x : Int) : Row (w.setCell ⟨g, i, none⟩ (.int .i64 x)) g (l.set i x) := by
  have := heap_set (w := w) g i _ (.int .i64 x) h
  unfold Row
  rw [this, List.map_set]
  simp
theorem Row.cell (h : Row w g l) {i : Nat} (hi : i < l.length) : w.cell? ⟨g, i, none⟩ = some (.int .i64 (l.getD i 0)) := by
  rw [cell_of_row w g i _ _ (0, 0) h]
  simp [List.getD, hi]
theorem Row.frozen (h : Row w g l) (o : Nat) : w.frozen? ⟨g, o, none⟩ = false := frozen_of h
theorem Row.lies (h : Row w g l) : Lies ints w (some ⟨g, 0, none⟩) l := by
  refine .inr ⟨g, 0, rfl, fun j hj k v hv => ?_⟩
  have hn : ints.n = 1 := rfl
  rw [hn]
  obtain rfl : k = 0 := by
    have := (List.getElem?_eq_some_iff.1 hv).1
    have hl : (ints.cs (l.getD j ints.z)).length = 1 := rfl
    omega
  have e : v = .int .i64 (l.getD j 0) := (Option.some.inj hv).symm
  rw [e, show 0 + j * 1 + 0 = j by omega]
  exact h.cell hj
theorem Row.on (h : Row w g l) (e : w'.heap[g]? = w.heap[g]?) : Row w' g l := e.trans h
/-- The program's view. -/
def Pv (F : Nat → Prop) (B : Nat) (w : World) (q : Nat) (V : Vw) : Prop := B ≤ q ∧ ¬ F q ∧ (V.l.length ≤ 64 ∧ Ring.okRing (V.l.length : Int) = true) ∧ ∃ g, (B ≤ g ∧ ¬ F g) ∧ w.heap[q]? = some (.cells #[.int .i64 V.node, .int .i64 V.span, .slice (some ⟨g, 0, none⟩) V.l.length V.l.length] 52 (0, 0)) ∧ Row w g V.l
theorem Pv.turned (h : Pv F B w q V) (hs : Spare F w w') (hG : ∀ g, G g → F g ∨ w.heap.size ≤ g) : Pv G B w' q V := by
  obtain ⟨h0, h1, hl, g, ⟨h2, h3⟩, h4, h5⟩ := h
  have l4 := lt_of_heap h4
  have l5 := lt_of_heap h5
  refine ⟨h0, fun k => ?_, hl, g, ⟨h2, fun k => ?_⟩, hs.obj q _ h4 h1 ?_, hs.obj g _ h5 h3 ?_⟩
  · rcases hG _ k with k | k
    · exact h1 k
    · omega
  · rcases hG _ k with k | k
    · exact h3 k
    · omega
  · intro cs t z e
    simp only [Obj.cells.injEq] at e
    rw [← e.2.1]
    decide
  · intro cs t z e
    simp only [Obj.cells.injEq] at e
    rw [← e.2.1]
    decide
/-- The view's cells. -/
theorem Pv.cell (h : Pv F B w q V) : ∃ g, w.cell? ⟨q, 0, none⟩ = some (.int .i64 V.node) ∧ w.cell? ⟨q, 1, none⟩ = some (.int .i64 V.span) ∧ w.cell? ⟨q, 2, none⟩ = some (.slice (some ⟨g, 0, none⟩) V.l.length V.l.length) ∧ Row w g V.l := by
  obtain ⟨h0, h1, hl, g, ⟨h2, h3⟩, h4, h5⟩ := h
  exact ⟨g, by rw [cell_of_row w q 0 _ _ (0, 0) h4]; rfl, by rw [cell_of_row w q 1 _ _ (0, 0) h4]; rfl, by rw [cell_of_row w q 2 _ _ (0, 0) h4]; rfl, h5⟩
/-- A reading is stored. -/
theorem Pv.put (h : Pv F B w q V) (hB : B ≤ w.heap.size) {g : Nat} (hg : w.cell? ⟨q, 2, none⟩ = some (.slice (some ⟨g, 0, none⟩) V.l.length V.l.length)) (hb : Below w.heap.size w u) (i : Nat) (x : Int) : Moved Pv F B w q ⟨V.node, V.span, V.l.set i x⟩ (u.setCell ⟨g, i, none⟩ (.int .i64 x)) := by
  obtain ⟨h0, h1, hl, g', ⟨h2, h3⟩, h4, h5⟩ := h
  obtain rfl : g' = g := by
    rw [cell_of_row w q 2 _ _ (0, 0) h4] at hg
    simpa using hg
  have l4 := lt_of_heap h4
  have l5 := lt_of_heap h5
  have k4 := (hb.block _ l4).trans h4
  have k5 : Row u g' V.l := (hb.block _ l5).trans h5
  have hne : q ≠ g' := by
    rintro rfl
    rw [h5] at h4
    simp only [Option.some.injEq, Obj.cells.injEq] at h4
    exact absurd h4.2.1 (by decide)
  refine ⟨⟨h0, h1, by simpa using hl, g', ⟨h2, h3⟩, ?_, k5.set i x⟩, ⟨by simpa using hb.size, fun g cs t z e ht => ?_⟩, (hb.mono hB).setCell (p := ⟨g', i, none⟩) h2 _, ⟨by simpa using hb.size, fun g hF hl => ?_⟩⟩
  · refine (Below.heap_setCell _ _ _ _ hne).trans ?_
    simpa using k4
  · refine (Below.heap_setCell _ _ _ _ ?_).trans ((hb.block g (lt_heap e)).trans e)
    rintro rfl
    rw [h5] at e
    simp only [Option.some.injEq, Obj.cells.injEq] at e
    rw [← e.2.1] at ht
    revert ht
    decide
  · exact (Below.heap_setCell _ _ _ _ (by rintro rfl; exact h3 hF)).trans (hb.block g hl)
theorem Moved.same (h : Pv F B w q V) (hB : B ≤ w.heap.size) (hb : Below w.heap.size w w') : Moved Pv F B w q V w' :=
  ⟨h.turned (.of_below hb) fun _ hg => .inl hg, .of_below hb, hb.mono hB, .below hb⟩
theorem Moved.draw (h : Moved Pv F B w q V w') : Moved Pv F B w q V w'.drew :=
  ⟨h.pw.turned (.of_below (Below.refl _ _).drew) fun _ hg => .inl hg, h.off.trans (.of_below (Below.refl _ _).drew), h.below.drew, h.rest.trans (.below (Below.refl _ _).drew)⟩
end
theorem one_out {l : List Int} {i x : Int} (h : ¬ (0 ≤ i ∧ i < (l.length : Int))) : hearTo l i x l.length = l := by
  refine List.ext_getElem (hearTo_len _ _ _ _) fun k h1 h2 => ?_
  simp only [hearTo, List.getElem_map, List.getElem_range, one]
  rw [if_neg (by omega)]
  simp [List.getD, h2]
theorem one_in {l : List Int} {x : Int} {k : Nat} (_ : k < l.length) : hearTo l (k : Int) x l.length = l.set k (max (l.getD k 0) x) := by
  refine List.ext_getElem (by rw [hearTo_len, List.length_set]) fun j h1 h2 => ?_
  simp only [hearTo, List.getElem_map, List.getElem_range, one]
  have hj : j < l.length := by simpa using h2
  rw [List.getElem_set]
  by_cases e : k = j
  · subst e
    rw [if_pos rfl]
    split <;> omega
  · rw [if_neg e, if_neg (by omega)]
    simp [List.getD, hj]
/-- A row of n numbers, of which j are told. -/
def fill (x : Int) (n j : Nat) : List Int := List.replicate j x ++ List.replicate (n - j) 0
theorem fill_len (x : Int) {n j : Nat} (h : j ≤ n) : (fill x n j).length = n := by simp [fill]; omega
theorem fill_all (x : Int) (n : Nat) : fill x n n = List.replicate n x := by simp [fill]
theorem fill_none (x : Int) (n : Nat) : fill x n 0 = List.replicate n 0 := by simp [fill]
theorem fill_set (x : Int) {n j : Nat} (h : j < n) : (fill x n j).set j x = fill x n (j + 1) := by
  obtain ⟨m, rfl⟩ : ∃ m, n = j + 1 + m := ⟨n - j - 1, by omega⟩
  unfold fill
  rw [show j + 1 + m - j = m + 1 by omega, show j + 1 + m - (j + 1) = m by omega, List.set_append, if_neg (by simp), List.length_replicate, Nat.sub_self, List.replicate_succ, List.set_cons_zero, List.replicate_succ', List.append_assoc]
  rfl
theorem row_made (w : World) (n : Nat) : Row (w.alloc (.cells (madeCells #[.int .i64 0] n) 3)) w.heap.size (List.replicate n 0) := by
  unfold Row
  rw [heap_alloc_new]
  congr 2
  refine Array.ext (by simp [madeCells]) fun i h1 h2 => ?_
  simp [madeCells, Nat.mod_one]
end Go.Proofs.Ytgbenfdffhcjiaa.View
