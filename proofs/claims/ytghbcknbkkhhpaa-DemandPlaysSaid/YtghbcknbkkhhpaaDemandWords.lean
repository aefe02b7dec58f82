/-
  Words for memory: notes, the document's estimates, what lies of them, and what a step of them leaves alone. No conditions beyond those that each names.
-/
import Derived.Test.YtghbcknbkkhhpaaDemandPlain
namespace Go.Proofs.Ytghbcknbkkhhpaa.Demand
open Go.RowKit
open _root_.Go.Proofs.Ytghbcknbkkhhpaa.Codec (lt_of_heap frozen_of heap_set below_new)
open _root_.Go.Proofs.Ytghbcknbkkhhpaa.Kit (Enc Lies Own At Kept Laid cell_on lt_heap)

def val (x : Nt) : Value := .agg #[.int .i64 x.key, .int .i64 x.spent]
def note : Enc Nt := ⟨2, fun x => [.int .i64 x.key, .int .i64 x.spent], z, by decide, fun _ => rfl, fun x u hu => by simp at hu; rcases hu with rfl | rfl <;> rfl⟩
theorem at2 {w : World} {b o : Nat} {x : Nt} (h : At note w b o x) : w.cell? ⟨b, o, none⟩ = some (.int .i64 x.key) ∧ w.cell? ⟨b, o + 1, none⟩ = some (.int .i64 x.spent) := ⟨h 0 _ rfl, h 1 _ rfl⟩
theorem lies_at {w : World} {p : Option Addr} {l : List Nt} (h : Lies note w p l) {j : Nat} (hj : j < l.length) : ∃ b o, p = some ⟨b, o, none⟩ ∧ At note w b (o + j * 2) (l.getD j z) := Kit.lies_at h hj
theorem laidN : Laid Try.prog note 32 22 := ⟨Try.underlying22, .agg #[.int .i64 0, .int .i64 0], 16, by kernel_rfl, rfl, by decide⟩
/-- The document's estimates: all that was noted. -/
def Dm (B : Nat) (w : World) (v : Nat) (l : List Nt) : Prop := B ≤ v ∧ ∃ y, w.heap[v]? = some (.cells #[y] 29 (0, 0)) ∧ Own note 32 B w y l
/-- The document's step. -/
structure Step (B : Nat) (w : World) (v : Nat) (l : List Nt) (w' : World) : Prop where
  dm : Dm B w' v l
  kept : Kept [29] w w'
  below : Below B w w'
section
variable {w w' : World} {B b : Nat} {l : List Nt}
theorem Dm.lt (h : Dm B w b l) : b < w.heap.size := by
  obtain ⟨_, y, h, _⟩ := h
  exact lt_of_heap h
theorem Dm.below (h : Dm B w b l) (hb : Below w.heap.size w w') : Dm B w' b l := by
  obtain ⟨h0, y, h1, h2⟩ := h
  exact ⟨h0, y, (hb.block b (lt_of_heap h1)).trans h1, h2.on hb⟩
theorem Dm.cell (h : Dm B w b l) : ∃ p c, w.cell? ⟨b, 0, Option.none⟩ = some (.slice p l.length c) ∧ Lies note w p l ∧ (p = none → c = 0) := by
  obtain ⟨_, y, h1, h2⟩ := h
  obtain ⟨p, c, rfl, hl⟩ := h2.lies
  refine ⟨p, c, by rw [cell_of_row w b 0 _ _ (0, 0) h1]; rfl, hl, ?_⟩
  rintro rfl
  rcases h2.2 with ⟨e, -⟩ | ⟨g, cap, cur, e, -⟩
  · simp only [Value.slice.injEq] at e
    exact e.2.2
  · simp at e
/-- New notes are stored. -/
theorem Dm.store {l' : List Nt} {y : Value} (h : Dm B w b l) (hB : B ≤ w.heap.size) (hb : Below w.heap.size w w') (ho : Own note 32 w.heap.size w' y l') :
    w'.frozen? ⟨b, 0, Option.none⟩ = false ∧ (∃ u, w'.cell? ⟨b, 0, Option.none⟩ = some u) ∧ Hid (Step B w b l' (w'.setCell ⟨b, 0, Option.none⟩ y)) := by
  obtain ⟨h0, y0, h1, h2⟩ := h
  have hv : w'.heap[b]? = _ := (hb.block b (lt_of_heap h1)).trans h1
  refine ⟨frozen_of hv, ⟨_, by rw [cell_of_row w' b 0 _ _ (0, 0) hv]; rfl⟩, ⟨⟨h0, y, ?_, ?_⟩, ⟨Nat.le_trans hb.size (by simp), ?_⟩, (hb.mono hB).setCell (p := ⟨b, 0, Option.none⟩) h0 _⟩⟩
  · rw [heap_set b 0 _ _ hv]; rfl
  · exact (Own.set ho (lt_of_heap h1)).lower hB
  · intro g o e ht
    have hne : g ≠ b := by
      rintro rfl
      rw [h1] at e
      simp only [Option.some.injEq] at e
      exact ht _ _ _ e.symm (by simp)
    exact (Below.heap_setCell _ _ _ _ hne).trans ((hb.block g (lt_heap e)).trans e)
theorem Step.lift {u : World} (hB : B ≤ w.heap.size) (hb : Below w.heap.size w u) (h : Step B u b l w') : Step B w b l w' :=
  ⟨h.dm, ⟨Nat.le_trans hb.size h.kept.size, fun g o e ht => h.kept.obj g o ((hb.block g (lt_heap e)).trans e) ht⟩, (hb.mono hB).trans h.below⟩
theorem Step.on {u : World} (h : Step B w b l w') (hb : Below w'.heap.size w' u) (hB : B ≤ w'.heap.size) : Step B w b l u :=
  ⟨h.dm.below hb, h.kept.trans (Kept.of_below hb), h.below.trans (hb.mono hB)⟩
end
end Go.Proofs.Ytghbcknbkkhhpaa.Demand
