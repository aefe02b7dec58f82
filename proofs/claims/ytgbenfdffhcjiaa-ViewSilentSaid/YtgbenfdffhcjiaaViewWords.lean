/-
  Words for memory: lists of numbers that stay where some blocks stay; the document's view. No conditions beyond those that each names.
-/
import Derived.Test.YtgbenfdffhcjiaaViewPlain
import Derived.Test.YtgbenfdffhcjiaaViewRing
namespace Go.Proofs.Ytgbenfdffhcjiaa.View
open Go.RowKit
open _root_.Go.Proofs.Ytgbenfdffhcjiaa.Codec (lt_of_heap frozen_of heap_set below_new)
open _root_.Go.Proofs.Ytgbenfdffhcjiaa.Kit (Enc Lies Own At Kept Laid Off cell_on lt_heap take_snoc below_drewN ints)

/-- These blocks stay. -/
structure Stays (F : Nat → Prop) (w w' : World) : Prop where
  size : w.heap.size ≤ w'.heap.size
  same : ∀ g, F g → g < w.heap.size → w'.heap[g]? = w.heap[g]?
theorem lay (w : World) (o : Obj) : Below w.heap.size w (w.alloc o) := (Below.refl _ w).alloc (Nat.le_refl _) o
section
variable {F G : Nat → Prop} {w w' u : World} {l : List Int} {p : Option Addr}
theorem Stays.refl (F : Nat → Prop) (w : World) : Stays F w w := ⟨Nat.le_refl _, fun _ _ _ => rfl⟩
theorem Stays.trans (h : Stays F w w') (k : Stays F w' u) : Stays F w u := ⟨Nat.le_trans h.size k.size, fun g hg hl => (k.same g hg (Nat.lt_of_lt_of_le hl h.size)).trans (h.same g hg hl)⟩
theorem Stays.below (hb : Below w.heap.size w w') : Stays F w w' := ⟨hb.size, fun g _ hl => hb.block g hl⟩
theorem Stays.sub (h : Stays F w w') (hg : ∀ g, G g → F g) : Stays G w w' := ⟨h.size, fun g hG hl => h.same g (hg g hG) hl⟩
/-- Numbers lie wherever these blocks stay. -/
def LyI (F : Nat → Prop) (w : World) (p : Option Addr) (l : List Int) : Prop := ∀ u, Stays F w u → Lies ints u p l
theorem LyI.now (h : LyI F w p l) : Lies ints w p l := h w (Stays.refl _ _)
theorem LyI.on (h : LyI F w p l) (hs : Stays F w w') : LyI F w' p l := fun _ hu => h _ (hs.trans hu)
theorem LyI.sup (h : LyI F w p l) (hg : ∀ g, F g → G g) : LyI G w p l := fun u hu => h u (hu.sub hg)
/-- What a call owns lies wherever the blocks from there on stay. -/
theorem lyI_own {T : TypeId} {B : Nat} {v : Value} (h : Own ints T B w v l) : ∃ p c, v = .slice p l.length c ∧ LyI (fun g => B ≤ g ∧ g < w.heap.size) w p l := by
  have h2 := h.2
  rcases h2 with ⟨rfl, h0⟩ | ⟨g, cap, cur, rfl, h1, h2, h3⟩
  · have e : l = [] := by
      have := h0
      exact List.eq_nil_of_length_eq_zero (by omega)
    subst e
    exact ⟨none, 0, rfl, fun _ _ => .inl rfl⟩
  · refine ⟨_, cap, rfl, fun u hu => ?_⟩
    have ho : Own ints T B u (.slice (some ⟨g, 0, none⟩) l.length cap) l := ⟨h.1, .inr ⟨g, cap, cur, rfl, h1, (hu.same g ⟨h1, lt_heap h2⟩ (lt_heap h2)).trans h2, h3⟩⟩
    obtain ⟨p, c, e, hl⟩ := ho.lies
    simp only [Value.slice.injEq] at e
    obtain ⟨rfl, -, rfl⟩ := e
    exact hl
end
/-- The document's view. -/
def Rv (F : Nat → Prop) (B : Nat) (w : World) (v : Nat) (V : Vw) : Prop := B ≤ v ∧ ∃ p c, w.heap[v]? = some (.cells #[.int .i64 V.node, .int .i64 V.span, .slice p V.l.length c] 38 (0, 0)) ∧ LyI F w p V.l
/-- The document's step: what it makes may be looked at from then on. -/
structure RStep (F : Nat → Prop) (B : Nat) (w : World) (v : Nat) (V : Vw) (w' : World) : Prop where
  rv : Rv (fun g => F g ∨ (w.heap.size ≤ g ∧ g < w'.heap.size)) B w' v V
  kept : Kept [38] w w'
  below : Below B w w'
section
variable {F G : Nat → Prop} {w w' u : World} {B v : Nat} {V V' : Vw}
theorem Rv.lt (h : Rv F B w v V) : v < w.heap.size := by
  obtain ⟨_, p, c, h1, _⟩ := h
  exact lt_of_heap h1
theorem Rv.off (h : Rv F B w v V) (ho : Off [38] w w') (hs : Stays F w w') : Rv F B w' v V := by
  obtain ⟨h0, p, c, h1, h2⟩ := h
  exact ⟨h0, p, c, ho.block v _ _ _ h1 (by simp), h2.on hs⟩
theorem Rv.below (h : Rv F B w v V) (hb : Below w.heap.size w w') : Rv F B w' v V := h.off (Off.of_below hb) (Stays.below hb)
theorem Rv.sup (h : Rv F B w v V) (hg : ∀ g, F g → G g) : Rv G B w v V := by
  obtain ⟨h0, p, c, h1, h2⟩ := h
  exact ⟨h0, p, c, h1, h2.sup hg⟩
/-- What the document's view tells. -/
theorem Rv.cell (h : Rv F B w v V) : ∃ p c, w.cell? ⟨v, 0, none⟩ = some (.int .i64 V.node) ∧ w.cell? ⟨v, 1, none⟩ = some (.int .i64 V.span) ∧ w.cell? ⟨v, 2, none⟩ = some (.slice p V.l.length c) ∧ w.frozen? ⟨v, 2, none⟩ = false ∧ Lies ints w p V.l := by
  obtain ⟨_, p, c, h1, h2⟩ := h
  exact ⟨p, c, by rw [cell_of_row w v 0 _ _ (0, 0) h1]; rfl, by rw [cell_of_row w v 1 _ _ (0, 0) h1]; rfl, by rw [cell_of_row w v 2 _ _ (0, 0) h1]; rfl, frozen_of h1, h2.now⟩
/-- New readings are stored. -/
theorem Rv.store {l : List Int} {y : Value} {T : TypeId} (h : Rv F B w v V) (hB : B ≤ w.heap.size) (hb : Below w.heap.size w u) (ho : Own ints T w.heap.size u y l) : RStep F B w v ⟨V.node, V.span, l⟩ (u.setCell ⟨v, 2, none⟩ y) := by
  have hvl := h.lt
  obtain ⟨h0, p, c, h1, -⟩ := h
  obtain ⟨p', c', rfl, hl⟩ := lyI_own ho
  have hv : u.heap[v]? = _ := (hb.block v hvl).trans h1
  refine ⟨⟨h0, p', c', heap_set v 2 _ _ hv, (hl.on ⟨by simp, fun g hg _ => Below.heap_setCell _ _ _ _ (by show g ≠ v; omega)⟩).sup fun g hg => .inr ⟨hg.1, by simpa using hg.2⟩⟩, ⟨Nat.le_trans hb.size (by simp), fun g o e ht => ?_⟩, (hb.mono hB).setCell (p := ⟨v, 2, none⟩) h0 _⟩
  have hne : g ≠ v := by
    rintro rfl
    rw [h1] at e
    simp only [Option.some.injEq] at e
    exact ht _ _ _ e.symm (by simp)
  exact (Below.heap_setCell _ _ _ _ hne).trans ((hb.block g (lt_heap e)).trans e)
end
end Go.Proofs.Ytgbenfdffhcjiaa.View
