/-
  Words for memory: items, the document's queue, what lies of it, and what a step of it leaves alone. No conditions beyond those that each names.
-/
import Derived.Test.YtdcclmellabnlaaKit
import Derived.Test.YtdcclmellabnlaaQueuePlain
namespace Go.Proofs.Ytdcclmellabnlaa.Queue
open Go.RowKit
open _root_.Go.Proofs.Ytdcclmellabnlaa.Codec (lt_of_heap frozen_of heap_set below_new)
open _root_.Go.Proofs.Ytdcclmellabnlaa.Kit (Enc Lies Own At Kept Laid cell_on lt_heap)

def val (x : It) : Value := .agg #[.int .i64 x.id, .int .i64 x.key, .int .i64 x.cost, .int .i64 x.cls, .int .i64 x.til]
def item : Enc It := ⟨5, fun x => [.int .i64 x.id, .int .i64 x.key, .int .i64 x.cost, .int .i64 x.cls, .int .i64 x.til], z, by decide, fun _ => rfl, fun x u hu => by simp at hu; rcases hu with rfl | rfl | rfl | rfl | rfl <;> rfl⟩
theorem at5 {w : World} {b o : Nat} {x : It} (h : At item w b o x) : w.cell? ⟨b, o, none⟩ = some (.int .i64 x.id) ∧ w.cell? ⟨b, o + 1, none⟩ = some (.int .i64 x.key) ∧ w.cell? ⟨b, o + 2, none⟩ = some (.int .i64 x.cost) ∧ w.cell? ⟨b, o + 3, none⟩ = some (.int .i64 x.cls) ∧ w.cell? ⟨b, o + 4, none⟩ = some (.int .i64 x.til) :=
  ⟨h 0 _ rfl, h 1 _ rfl, h 2 _ rfl, h 3 _ rfl, h 4 _ rfl⟩
theorem lies_at {w : World} {p : Option Addr} {l : List It} (h : Lies item w p l) {j : Nat} (hj : j < l.length) : ∃ b o, p = some ⟨b, o, none⟩ ∧ At item w b (o + j * 5) (l.getD j z) := Kit.lies_at h hj
theorem laidR : Laid Try.prog item 49 30 := ⟨Try.underlying30, .agg #[.int .i64 0, .int .i64 0, .int .i64 0, .int .i64 0, .int .i64 0], 40, by kernel_rfl, rfl, by decide⟩
/-- The document's queue. -/
def Qu (B : Nat) (w : World) (v : Nat) (room : Int) (l : List It) : Prop := B ≤ v ∧ ∃ y, w.heap[v]? = some (.cells #[.int .i64 room, y] 32 (0, 0)) ∧ Own item 49 B w y l
/-- The document's step. -/
structure Step (B : Nat) (w : World) (v : Nat) (room : Int) (l : List It) (w' : World) : Prop where
  qu : Qu B w' v room l
  kept : Kept [32] w w'
  below : Below B w w'
  only : ∀ g, g ≠ v → g < w.heap.size → w'.heap[g]? = w.heap[g]?
section
variable {w w' : World} {B b : Nat} {room : Int} {l : List It}
theorem Qu.lt (h : Qu B w b room l) : b < w.heap.size := by
  obtain ⟨_, y, h, _⟩ := h
  exact lt_of_heap h
theorem Qu.below (h : Qu B w b room l) (hb : Below w.heap.size w w') : Qu B w' b room l := by
  obtain ⟨h0, y, h1, h2⟩ := h
  exact ⟨h0, y, (hb.block b (lt_of_heap h1)).trans h1, h2.on hb⟩
theorem Qu.cell (h : Qu B w b room l) : ∃ p c, w.cell? ⟨b, 1, Option.none⟩ = some (.slice p l.length c) ∧ Lies item w p l ∧ (p = none → c = 0) ∧ w.cell? ⟨b, 0, Option.none⟩ = some (.int .i64 room) := by
  obtain ⟨_, y, h1, h2⟩ := h
  obtain ⟨p, c, rfl, hl⟩ := h2.lies
  refine ⟨p, c, by rw [cell_of_row w b 1 _ _ (0, 0) h1]; rfl, hl, ?_, by rw [cell_of_row w b 0 _ _ (0, 0) h1]; rfl⟩
  rintro rfl
  rcases h2.2 with ⟨e, -⟩ | ⟨g, cap, cur, e, -⟩
  · simp only [Value.slice.injEq] at e
    exact e.2.2
  · simp at e
theorem Step.same (h : Qu B w b room l) (hB : B ≤ w.heap.size) (hb : Below w.heap.size w w') : Step B w b room l w' :=
  ⟨h.below hb, Kept.of_below hb, hb.mono hB, fun g _ hg => hb.block g hg⟩
theorem Step.trans {w2 : World} {l' l2 : List It} (h : Step B w b room l' w') (k : Step B w' b room l2 w2) : Step B w b room l2 w2 :=
  ⟨k.qu, h.kept.trans k.kept, h.below.trans k.below, fun g hn hg => (k.only g hn (Nat.lt_of_lt_of_le hg h.kept.size)).trans (h.only g hn hg)⟩
/-- New items are stored. -/
theorem Qu.store {l' : List It} {y : Value} (h : Qu B w b room l) (hB : B ≤ w.heap.size) (hb : Below w.heap.size w w') (ho : Own item 49 w.heap.size w' y l') :
    w'.frozen? ⟨b, 1, Option.none⟩ = false ∧ (∃ u, w'.cell? ⟨b, 1, Option.none⟩ = some u) ∧ Hid (Step B w b room l' (w'.setCell ⟨b, 1, Option.none⟩ y)) := by
  obtain ⟨h0, y0, h1, h2⟩ := h
  have hv : w'.heap[b]? = _ := (hb.block b (lt_of_heap h1)).trans h1
  refine ⟨frozen_of hv, ⟨_, by rw [cell_of_row w' b 1 _ _ (0, 0) hv]; rfl⟩, ⟨⟨h0, y, ?_, ?_⟩, ⟨Nat.le_trans hb.size (by simp), ?_⟩, (hb.mono hB).setCell (p := ⟨b, 1, Option.none⟩) h0 _, fun g hn hg => (Below.heap_setCell _ _ _ _ hn).trans (hb.block g hg)⟩⟩
  · rw [heap_set b 1 _ _ hv]; rfl
  · exact (Own.set ho (lt_of_heap h1)).lower hB
  · intro g o e ht
    have hne : g ≠ b := by
      rintro rfl
      rw [h1] at e
      simp only [Option.some.injEq] at e
      exact ht _ _ _ e.symm (by simp)
    exact (Below.heap_setCell _ _ _ _ hne).trans ((hb.block g (lt_heap e)).trans e)
end
/-- An item is stored into a box. -/
def set5 (w : World) (b : Nat) (x : It) : World := ((((w.setCell ⟨b, 0, none⟩ (.int .i64 x.id)).setCell ⟨b, 1, none⟩ (.int .i64 x.key)).setCell ⟨b, 2, none⟩ (.int .i64 x.cost)).setCell ⟨b, 3, none⟩ (.int .i64 x.cls)).setCell ⟨b, 4, none⟩ (.int .i64 x.til)
theorem set5_block {w : World} {b : Nat} {c0 c1 c2 c3 c4 : Value} {T : TypeId} (h : w.heap[b]? = some (.cells #[c0, c1, c2, c3, c4] T (0, 0))) (x : It) : (set5 w b x).heap[b]? = some (.cells #[.int .i64 x.id, .int .i64 x.key, .int .i64 x.cost, .int .i64 x.cls, .int .i64 x.til] T (0, 0)) := by
  unfold set5
  rw [heap_set b 4 _ _ (heap_set b 3 _ _ (heap_set b 2 _ _ (heap_set b 1 _ _ (heap_set b 0 _ _ h))))]
  rfl
theorem set5_below {w w0 : World} {b B : Nat} (h : Below B w0 w) (hb : B ≤ b) (x : It) : Below B w0 (set5 w b x) :=
  ((((h.setCell (p := ⟨b, 0, none⟩) hb _).setCell (p := ⟨b, 1, none⟩) hb _).setCell (p := ⟨b, 2, none⟩) hb _).setCell (p := ⟨b, 3, none⟩) hb _).setCell (p := ⟨b, 4, none⟩) hb _
theorem set5_off {w : World} {b g : Nat} (x : It) (h : g ≠ b) : (set5 w b x).heap[g]? = w.heap[g]? :=
  (Below.heap_setCell _ _ _ _ (by simpa using h)).trans ((Below.heap_setCell _ _ _ _ (by simpa using h)).trans ((Below.heap_setCell _ _ _ _ (by simpa using h)).trans ((Below.heap_setCell _ _ _ _ (by simpa using h)).trans (Below.heap_setCell _ _ _ _ (by simpa using h)))))
theorem own_set5 {w : World} {B b : Nat} {y : Value} {l : List It} {T : TypeId} (h : Own item T B w y l) (hb : b < B) (x : It) : Own item T B (set5 w b x) y l :=
  Own.set (Own.set (Own.set (Own.set (Own.set h hb) hb) hb) hb) hb
/-- What lies stays, where the document's queue moves. -/
theorem lies_step {w w' : World} {B v : Nat} {room : Int} {l t t' : List It} {p : Option Addr} (h : Lies item w p l) (hq : Qu B w v room t) (hs : Step B w v room t' w') : Lies item w' p l := by
  rcases h with h | ⟨b, o, e, hc⟩
  · exact .inl h
  · refine .inr ⟨b, o, e, fun j hj => ?_⟩
    have ha := hc j hj
    have hlt : b < w.heap.size := World.block_lt_of_cell? _ _ (at5 ha).1
    have hne : b ≠ v := by
      rintro rfl
      obtain ⟨_, y, h1, _⟩ := hq
      have h4 := (at5 ha).2.2.2.2
      rw [cell_of_row w b _ _ _ (0, 0) h1, Array.getElem?_eq_none (by simp)] at h4
      cases h4
    exact fun k u hu => (World.cell?_of_block (hs.only b hne hlt)).trans (ha k u hu)
/-- New items are stored, and then an item in a box that is newer than the queue. -/
theorem Qu.store5 {w w' : World} {B b C g : Nat} {room : Int} {l l' : List It} {y : Value} (h : Qu B w b room l) (hB : B ≤ w.heap.size) (hb : Below w.heap.size w w') (hg : w.heap.size ≤ g) (hC : g < C) (ho : Own item 49 C w' y l') (x : It) :
    Step B w b room l' (set5 (w'.setCell ⟨b, 1, Option.none⟩ y) g x) := by
  obtain ⟨h0, y0, h1, h2⟩ := h
  have hlt := lt_of_heap h1
  have hv : w'.heap[b]? = _ := (hb.block b hlt).trans h1
  refine ⟨⟨h0, y, ?_, ?_⟩, ⟨?_, ?_⟩, ?_, fun k hn hk => (set5_off x (by omega)).trans ((Below.heap_setCell _ _ _ _ hn).trans (hb.block k hk))⟩
  · rw [set5_off x (by omega), heap_set b 1 _ _ hv]; rfl
  · exact (own_set5 (Own.set ho (by omega)) hC x).lower (by omega)
  · have := (set5_below (B := 0) (w0 := w) (b := g) ((hb.mono (Nat.zero_le _)).setCell (p := ⟨b, 1, Option.none⟩) (Nat.zero_le _) y) (Nat.zero_le _) x).size
    exact this
  · intro k o e ht
    have hk := lt_heap e
    have hne : k ≠ b := by
      rintro rfl
      rw [h1] at e
      simp only [Option.some.injEq] at e
      exact ht _ _ _ e.symm (by simp)
    exact (set5_off x (by omega)).trans ((Below.heap_setCell _ _ _ _ hne).trans ((hb.block k hk).trans e))
  · exact set5_below ((hb.mono hB).setCell (p := ⟨b, 1, Option.none⟩) h0 _) (by omega) x
end Go.Proofs.Ytdcclmellabnlaa.Queue
