/-
  Words for memory: items, the document's queue, what lies of it, and what a step of it leaves alone. No conditions beyond those that each names.
  The document's queue as two cells of a bigger block (at ov: its room; its items): what lies of it, and what a step of it leaves alone. No conditions beyond those that each names.
  Words for memory: notes, the document's estimates, what lies of them, and what a step of them leaves alone. No conditions beyond those that each names.
  The document's estimates as one cell of a bigger block (at ov): what lies of it, and what a step of it leaves alone. No conditions beyond those that each names.
  Words for memory: answers, the document's edge (a block of thirteen cells: its configuration, wallet, queue, estimates), and what a step of it leaves alone. No conditions beyond those that each names.
-/
import Derived.Test.YtlbpeeelgpjciaaGreatMgAb
import Derived.Test.YtlbpeeelgpjciaaGreatMgAa
import Derived.Test.YtlbpeeelgpjciaaGreatMgAc
import Derived.Test.YtlbpeeelgpjciaaGreatMgAd
namespace Go.Proofs.YtlbpeeelgpjciaaGreat.Queue
open Go.RowKit
open _root_.Go.Proofs.YtlbpeeelgpjciaaGreat.Codec (lt_of_heap frozen_of heap_set below_new)
open _root_.Go.Proofs.YtlbpeeelgpjciaaGreat.Kit (Enc Lies Own At Kept Laid cell_on lt_heap)

def val (x : It) : Value := .agg #[.int .i64 x.id, .int .i64 x.key, .int .i64 x.cost, .int .i64 x.cls, .int .i64 x.til]
def item : Enc It := ⟨5, fun x => [.int .i64 x.id, .int .i64 x.key, .int .i64 x.cost, .int .i64 x.cls, .int .i64 x.til], z, by decide, fun _ => rfl, fun x u hu => by simp at hu; rcases hu with rfl | rfl | rfl | rfl | rfl <;> rfl⟩
theorem at5 {w : World} {b o : Nat} {x : It} (h : At item w b o x) : w.cell? ⟨b, o, none⟩ = some (.int .i64 x.id) ∧ w.cell? ⟨b, o + 1, none⟩ = some (.int .i64 x.key) ∧ w.cell? ⟨b, o + 2, none⟩ = some (.int .i64 x.cost) ∧ w.cell? ⟨b, o + 3, none⟩ = some (.int .i64 x.cls) ∧ w.cell? ⟨b, o + 4, none⟩ = some (.int .i64 x.til) :=
  ⟨h 0 _ rfl, h 1 _ rfl, h 2 _ rfl, h 3 _ rfl, h 4 _ rfl⟩
theorem lies_at {w : World} {p : Option Addr} {l : List It} (h : Lies item w p l) {j : Nat} (hj : j < l.length) : ∃ b o, p = some ⟨b, o, none⟩ ∧ At item w b (o + j * 5) (l.getD j z) := Kit.lies_at h hj
theorem laidR : Laid Tryz.prog item 95 47 := ⟨Tryz.underlying47, .agg #[.int .i64 0, .int .i64 0, .int .i64 0, .int .i64 0, .int .i64 0], 40, by kernel_rfl, rfl, by decide⟩
/-- The document's queue. -/
def Qu (B : Nat) (w : World) (v : Nat) (room : Int) (l : List It) : Prop := B ≤ v ∧ ∃ y, w.heap[v]? = some (.cells #[.int .i64 room, y] 52 (0, 0)) ∧ Own item 95 B w y l
/-- The document's step. -/
structure Step (B : Nat) (w : World) (v : Nat) (room : Int) (l : List It) (w' : World) : Prop where
  qu : Qu B w' v room l
  kept : Kept [52] w w'
  below : Below B w w'
  only : ∀ g, g ≠ v → g < w.heap.size → w'.heap[g]? = w.heap[g]?
section
variable {w w' : World} {B b : Nat} {room : Int} {l : List It}
theorem Qu.lt (h : Qu B w b room l) : b < w.heap.size := by
  obtain ⟨_, y, h, _⟩ := h
  exact lt_of_heap h
theorem Qu.below (h : Qu B w b room l) (hb : Below w.heap.size w w') : Qu B w' b room l := by
  obtain ⟨h0, y, h1, h2⟩ := h
  exact ⟨h0, y, (hb.block b (lt_of_heap h1)).trans h1, h2.on hb⟩
theorem Qu.cell (h : Qu B w b room l) : ∃ p c, w.cell? ⟨b, 1, Option.none⟩ = some (.slice p l.length c) ∧ Lies item w p l ∧ (p = none → c = 0) ∧ w.cell? ⟨b, 0, Option.none⟩ = some (.int .i64 room) := by
  obtain ⟨_, y, h1, h2⟩ := h
  obtain ⟨p, c, rfl, hl⟩ := h2.lies
  refine ⟨p, c, by rw [cell_of_row w b 1 _ _ (0, 0) h1]; rfl, hl, ?_, by rw [cell_of_row w b 0 _ _ (0, 0) h1]; rfl⟩
  rintro rfl
  rcases h2.2 with ⟨e, -⟩ | ⟨g, cap, cur, e, -⟩
  · simp only [Value.slice.injEq] at e
    exact e.2.2
  · simp at e
theorem Step.same (h : Qu B w b room l) (hB : B ≤ w.heap.size) (hb : Below w.heap.size w w') : Step B w b room l w' :=
  ⟨h.below hb, Kept.of_below hb, hb.mono hB, fun g _ hg => hb.block g hg⟩
theorem Step.trans {w2 : World} {l' l2 : List It} (h : Step B w b room l' w') (k : Step B w' b room l2 w2) : Step B w b room l2 w2 :=
  ⟨k.qu, h.kept.trans k.kept, h.below.trans k.below, fun g hn hg => (k.only g hn (Nat.lt_of_lt_of_le hg h.kept.size)).trans (h.only g hn hg)⟩
/-- New items are stored. -/
theorem Qu.store {l' : List It} {y : Value} (h : Qu B w b room l) (hB : B ≤ w.heap.size) (hb : Below w.heap.size w w') (ho : Own item 95 w.heap.size w' y l') :
    w'.frozen? ⟨b, 1, Option.none⟩ = false ∧ (∃ u, w'.cell? ⟨b, 1, Option.none⟩ = some u) ∧ Hid (Step B w b room l' (w'.setCell ⟨b, 1, Option.none⟩ y)) := by
  obtain ⟨h0, y0, h1, h2⟩ := h
  have hv : w'.heap[b]? = _ := (hb.block b (lt_of_heap h1)).trans h1
  refine ⟨frozen_of hv, ⟨_, by rw [cell_of_row w' b 1 _ _ (0, 0) hv]; rfl⟩, ⟨⟨h0, y, ?_, ?_⟩, ⟨Nat.le_trans hb.size (by simp), ?_⟩, (hb.mono hB).setCell (p := ⟨b, 1, Option.none⟩) h0 _, fun g hn hg => (Below.heap_setCell _ _ _ _ hn).trans (hb.block g hg)⟩⟩
  · rw [heap_set b 1 _ _ hv]; rfl
  · exact (Own.set ho (lt_of_heap h1)).lower hB
  · intro g o e ht
    have hne : g ≠ b := by
      rintro rfl
      rw [h1] at e
      simp only [Option.some.injEq] at e
      exact ht _ _ _ e.symm (by simp)
    exact (Below.heap_setCell _ _ _ _ hne).trans ((hb.block g (lt_heap e)).trans e)
end
/-- An item is stored into a box. -/
def set5 (w : World) (b : Nat) (x : It) : World := ((((w.setCell ⟨b, 0, none⟩ (.int .i64 x.id)).setCell ⟨b, 1, none⟩ (.int .i64 x.key)).setCell ⟨b, 2, none⟩ (.int .i64 x.cost)).setCell ⟨b, 3, none⟩ (.int .i64 x.cls)).setCell ⟨b, 4, none⟩ (.int .i64 x.til)
theorem set5_block {w : World} {b : Nat} {c0 c1 c2 c3 c4 : Value} {T : TypeId} (h : w.heap[b]? = some (.cells #[c0, c1, c2, c3, c4] T (0, 0))) (x : It) : (set5 w b x).heap[b]? = some (.cells #[.int .i64 x.id, .int .i64 x.key, .int .i64 x.cost, .int .i64 x.cls, .int .i64 x.til] T (0, 0)) := by
  unfold set5
  rw [heap_set b 4 _ _ (heap_set b 3 _ _ (heap_set b 2 _ _ (heap_set b 1 _ _ (heap_set b 0 _ _ h))))]
  rfl
theorem set5_below {w w0 : World} {b B : Nat} (h : Below B w0 w) (hb : B ≤ b) (x : It) : Below B w0 (set5 w b x) :=
  ((((h.setCell (p := ⟨b, 0, none⟩) hb _).setCell (p := ⟨b, 1, none⟩) hb _).setCell (p := ⟨b, 2, none⟩) hb _).setCell (p := ⟨b, 3, none⟩) hb _).setCell (p := ⟨b, 4, none⟩) hb _
theorem set5_off {w : World} {b g : Nat} (x : It) (h : g ≠ b) : (set5 w b x).heap[g]? = w.heap[g]? :=
  (Below.heap_setCell _ _ _ _ (by simpa using h)).trans ((Below.heap_setCell _ _ _ _ (by simpa using h)).trans ((Below.heap_setCell _ _ _ _ (by simpa using h)).trans ((Below.heap_setCell _ _ _ _ (by simpa using h)).trans (Below.heap_setCell _ _ _ _ (by simpa using h)))))
theorem own_set5 {w : World} {B b : Nat} {y : Value} {l : List It} {T : TypeId} (h : Own item T B w y l) (hb : b < B) (x : It) : Own item T B (set5 w b x) y l :=
  Own.set (Own.set (Own.set (Own.set (Own.set h hb) hb) hb) hb) hb
/-- What lies stays, where the document's queue moves. -/
theorem lies_step {w w' : World} {B v : Nat} {room : Int} {l t t' : List It} {p : Option Addr} (h : Lies item w p l) (hq : Qu B w v room t) (hs : Step B w v room t' w') : Lies item w' p l := by
  rcases h with h | ⟨b, o, e, hc⟩
  · exact .inl h
  · refine .inr ⟨b, o, e, fun j hj => ?_⟩
    have ha := hc j hj
    have hlt : b < w.heap.size := World.block_lt_of_cell? _ _ (at5 ha).1
    have hne : b ≠ v := by
      rintro rfl
      obtain ⟨_, y, h1, _⟩ := hq
      have h4 := (at5 ha).2.2.2.2
      rw [cell_of_row w b _ _ _ (0, 0) h1, Array.getElem?_eq_none (by simp)] at h4
      cases h4
    exact fun k u hu => (World.cell?_of_block (hs.only b hne hlt)).trans (ha k u hu)
/-- New items are stored, and then an item in a box that is newer than the queue. -/
theorem Qu.store5 {w w' : World} {B b C g : Nat} {room : Int} {l l' : List It} {y : Value} (h : Qu B w b room l) (hB : B ≤ w.heap.size) (hb : Below w.heap.size w w') (hg : w.heap.size ≤ g) (hC : g < C) (ho : Own item 95 C w' y l') (x : It) :
    Step B w b room l' (set5 (w'.setCell ⟨b, 1, Option.none⟩ y) g x) := by
  obtain ⟨h0, y0, h1, h2⟩ := h
  have hlt := lt_of_heap h1
  have hv : w'.heap[b]? = _ := (hb.block b hlt).trans h1
  refine ⟨⟨h0, y, ?_, ?_⟩, ⟨?_, ?_⟩, ?_, fun k hn hk => (set5_off x (by omega)).trans ((Below.heap_setCell _ _ _ _ hn).trans (hb.block k hk))⟩
  · rw [set5_off x (by omega), heap_set b 1 _ _ hv]; rfl
  · exact (own_set5 (Own.set ho (by omega)) hC x).lower (by omega)
  · have := (set5_below (B := 0) (w0 := w) (b := g) ((hb.mono (Nat.zero_le _)).setCell (p := ⟨b, 1, Option.none⟩) (Nat.zero_le _) y) (Nat.zero_le _) x).size
    exact this
  · intro k o e ht
    have hk := lt_heap e
    have hne : k ≠ b := by
      rintro rfl
      rw [h1] at e
      simp only [Option.some.injEq] at e
      exact ht _ _ _ e.symm (by simp)
    exact (set5_off x (by omega)).trans ((Below.heap_setCell _ _ _ _ hne).trans ((hb.block k hk).trans e))
  · exact set5_below ((hb.mono hB).setCell (p := ⟨b, 1, Option.none⟩) h0 _) (by omega) x
end Go.Proofs.YtlbpeeelgpjciaaGreat.Queue

namespace Go.Proofs.YtlbpeeelgpjciaaGreat.Queue2
open Go.RowKit
open _root_.Go.Proofs.YtlbpeeelgpjciaaGreat.Codec (own_below own_lower own_stays lt_of_heap frozen_of heap_set grown_set below_new)
open _root_.Go.Proofs.YtlbpeeelgpjciaaGreat.Queue
open _root_.Go.Proofs.YtlbpeeelgpjciaaGreat.Kit (Enc Lies Own At Kept Laid cell_on lt_heap)

/-- The document's queue. -/
def Qu (B : Nat) (w : World) (v ov : Nat) (room : Int) (l : List It) : Prop := B ≤ v ∧ ∃ cs T y, w.heap[v]? = some (.cells cs T (0, 0)) ∧ cs[ov]? = some (.int .i64 room) ∧ cs[ov + 1]? = some y ∧ Own item 95 B w y l
/-- The document's step. -/
structure Step (B : Nat) (w : World) (v ov : Nat) (room : Int) (l : List It) (w' : World) : Prop where
  qu : Qu B w' v ov room l
  row : ∀ cs T, w.heap[v]? = some (.cells cs T (0, 0)) → ∃ cs', w'.heap[v]? = some (.cells cs' T (0, 0)) ∧ ∀ k, k ≠ ov + 1 → cs'[k]? = cs[k]?
  only : ∀ g, g ≠ v → g < w.heap.size → w'.heap[g]? = w.heap[g]?
  below : Below B w w'
  size : w.heap.size ≤ w'.heap.size
section
variable {w w' : World} {B b ov : Nat} {room : Int} {l : List It}
theorem Qu.lt (h : Qu B w b ov room l) : b < w.heap.size := by
  obtain ⟨_, cs, T, y, h, _⟩ := h
  exact lt_of_heap h
theorem Qu.below (h : Qu B w b ov room l) (hb : Below w.heap.size w w') : Qu B w' b ov room l := by
  obtain ⟨h0, cs, T, y, h1, h2, h3, h4⟩ := h
  exact ⟨h0, cs, T, y, (hb.block b (lt_of_heap h1)).trans h1, h2, h3, h4.on hb⟩
theorem Qu.cell (h : Qu B w b ov room l) : ∃ p c, w.cell? ⟨b, ov + 1, Option.none⟩ = some (.slice p l.length c) ∧ Lies item w p l ∧ (p = none → c = 0) ∧ w.cell? ⟨b, ov, Option.none⟩ = some (.int .i64 room) := by
  obtain ⟨_, cs, T, y, h1, h2, h3, h4⟩ := h
  obtain ⟨p, c, rfl, hl⟩ := h4.lies
  refine ⟨p, c, by rw [cell_of_row w b (ov + 1) _ _ (0, 0) h1, h3], hl, ?_, by rw [cell_of_row w b ov _ _ (0, 0) h1, h2]⟩
  rintro rfl
  rcases h4.2 with ⟨e, -⟩ | ⟨g, cap, cur, e, -⟩
  · simp only [Value.slice.injEq] at e
    exact e.2.2
  · simp at e
theorem Step.same (h : Qu B w b ov room l) (hB : B ≤ w.heap.size) (hb : Below w.heap.size w w') : Step B w b ov room l w' :=
  ⟨h.below hb, fun cs _ e => ⟨cs, (hb.block b (lt_of_heap e)).trans e, fun _ _ => rfl⟩, fun g _ hg => hb.block g hg, hb.mono hB, hb.size⟩
theorem Step.trans {w2 : World} {l' l2 : List It} (h : Step B w b ov room l' w') (k : Step B w' b ov room l2 w2) : Step B w b ov room l2 w2 :=
  ⟨k.qu, fun cs T e => by
    obtain ⟨c1, e1, h1⟩ := h.row cs T e
    obtain ⟨c2, e2, h2⟩ := k.row c1 T e1
    exact ⟨c2, e2, fun i hi => (h2 i hi).trans (h1 i hi)⟩, fun g hn hg => (k.only g hn (Nat.lt_of_lt_of_le hg h.size)).trans (h.only g hn hg), h.below.trans k.below, Nat.le_trans h.size k.size⟩
/-- New items are stored. -/
theorem Qu.store {l' : List It} {y : Value} (h : Qu B w b ov room l) (hB : B ≤ w.heap.size) (hb : Below w.heap.size w w') (ho : Own item 95 w.heap.size w' y l') :
    w'.frozen? ⟨b, ov + 1, Option.none⟩ = false ∧ (∃ u, w'.cell? ⟨b, ov + 1, Option.none⟩ = some u) ∧ Hid (Step B w b ov room l' (w'.setCell ⟨b, ov + 1, Option.none⟩ y)) := by
  obtain ⟨h0, cs, T, y0, h1, h2, h3, h4⟩ := h
  have hv : w'.heap[b]? = _ := (hb.block b (lt_of_heap h1)).trans h1
  have hlt : ov + 1 < cs.size := (Array.getElem?_eq_some_iff.1 h3).1
  refine ⟨frozen_of hv, ⟨_, by rw [cell_of_row w' b (ov + 1) _ _ (0, 0) hv, h3]⟩, ⟨⟨h0, cs.setIfInBounds (ov + 1) y, T, y, heap_set b (ov + 1) _ _ hv, ?_, by simp [hlt], (Own.set ho (lt_of_heap h1)).lower hB⟩, fun cs' T' e => ?_, fun g hn hg => (Below.heap_setCell _ _ _ _ hn).trans (hb.block g hg), (hb.mono hB).setCell (p := ⟨b, ov + 1, Option.none⟩) h0 _, Nat.le_trans hb.size (by simp)⟩⟩
  · rw [Array.getElem?_setIfInBounds, if_neg (by omega)]
    exact h2
  · rw [h1] at e
    cases e
    refine ⟨_, heap_set b (ov + 1) _ _ hv, fun k hk => ?_⟩
    simp [Ne.symm hk]
/-- New items are stored, and then an item in a box that is newer than the queue. -/
theorem Qu.store5 {C g : Nat} {l' : List It} {y : Value} (h : Qu B w b ov room l) (hB : B ≤ w.heap.size) (hb : Below w.heap.size w w') (hg : w.heap.size ≤ g) (hC : g < C) (ho : Own item 95 C w' y l') (x : It) :
    Step B w b ov room l' (set5 (w'.setCell ⟨b, ov + 1, Option.none⟩ y) g x) := by
  obtain ⟨h0, cs, T, y0, h1, h2, h3, h4⟩ := h
  have hlt := lt_of_heap h1
  have hv : w'.heap[b]? = _ := (hb.block b hlt).trans h1
  have hsz : ov + 1 < cs.size := (Array.getElem?_eq_some_iff.1 h3).1
  have hset := heap_set b (ov + 1) _ y hv
  have hsize : w.heap.size ≤ (set5 (w'.setCell ⟨b, ov + 1, Option.none⟩ y) g x).heap.size :=
    (set5_below (B := 0) (w0 := w) (b := g) ((hb.mono (Nat.zero_le _)).setCell (p := ⟨b, ov + 1, Option.none⟩) (Nat.zero_le _) y) (Nat.zero_le _) x).size
  refine ⟨⟨h0, cs.setIfInBounds (ov + 1) y, T, y, (set5_off x (by omega)).trans hset, ?_, by simp [hsz], (own_set5 (Own.set ho (by omega)) hC x).lower (by omega)⟩, fun cs' T' e => ?_, fun k hn hk => (set5_off x (by omega)).trans ((Below.heap_setCell _ _ _ _ hn).trans (hb.block k hk)), set5_below ((hb.mono hB).setCell (p := ⟨b, ov + 1, Option.none⟩) h0 _) (by omega) x, hsize⟩
  · rw [Array.getElem?_setIfInBounds, if_neg (by omega)]
    exact h2
  · rw [h1] at e
    cases e
    refine ⟨_, (set5_off x (by omega)).trans hset, fun k hk => ?_⟩
    simp [Ne.symm hk]
end
end Go.Proofs.YtlbpeeelgpjciaaGreat.Queue2

namespace Go.Proofs.YtlbpeeelgpjciaaGreat.Demand
open Go.RowKit
open _root_.Go.Proofs.YtlbpeeelgpjciaaGreat.Codec (lt_of_heap frozen_of heap_set below_new)
open _root_.Go.Proofs.YtlbpeeelgpjciaaGreat.Kit (Enc Lies Own At Kept Laid cell_on lt_heap)

def val (x : Nt) : Value := .agg #[.int .i64 x.key, .int .i64 x.spent]
def note : Enc Nt := ⟨2, fun x => [.int .i64 x.key, .int .i64 x.spent], z, by decide, fun _ => rfl, fun x u hu => by simp at hu; rcases hu with rfl | rfl <;> rfl⟩
theorem at2 {w : World} {b o : Nat} {x : Nt} (h : At note w b o x) : w.cell? ⟨b, o, none⟩ = some (.int .i64 x.key) ∧ w.cell? ⟨b, o + 1, none⟩ = some (.int .i64 x.spent) := ⟨h 0 _ rfl, h 1 _ rfl⟩
theorem lies_at {w : World} {p : Option Addr} {l : List Nt} (h : Lies note w p l) {j : Nat} (hj : j < l.length) : ∃ b o, p = some ⟨b, o, none⟩ ∧ At note w b (o + j * 2) (l.getD j z) := Kit.lies_at h hj
theorem laidN : Laid Tryz.prog note 178 56 := ⟨Tryz.underlying56, .agg #[.int .i64 0, .int .i64 0], 16, by kernel_rfl, rfl, by decide⟩
/-- The document's estimates: all that was noted. -/
def Dm (B : Nat) (w : World) (v : Nat) (l : List Nt) : Prop := B ≤ v ∧ ∃ y, w.heap[v]? = some (.cells #[y] 58 (0, 0)) ∧ Own note 178 B w y l
/-- The document's step. -/
structure Step (B : Nat) (w : World) (v : Nat) (l : List Nt) (w' : World) : Prop where
  dm : Dm B w' v l
  kept : Kept [58] w w'
  below : Below B w w'
section
variable {w w' : World} {B b : Nat} {l : List Nt}
theorem Dm.lt (h : Dm B w b l) : b < w.heap.size := by
  obtain ⟨_, y, h, _⟩ := h
  exact lt_of_heap h
theorem Dm.below (h : Dm B w b l) (hb : Below w.heap.size w w') : Dm B w' b l := by
  obtain ⟨h0, y, h1, h2⟩ := h
  exact ⟨h0, y, (hb.block b (lt_of_heap h1)).trans h1, h2.on hb⟩
theorem Dm.cell (h : Dm B w b l) : ∃ p c, w.cell? ⟨b, 0, Option.none⟩ = some (.slice p l.length c) ∧ Lies note w p l ∧ (p = none → c = 0) := by
  obtain ⟨_, y, h1, h2⟩ := h
  obtain ⟨p, c, rfl, hl⟩ := h2.lies
  refine ⟨p, c, by rw [cell_of_row w b 0 _ _ (0, 0) h1]; rfl, hl, ?_⟩
  rintro rfl
  rcases h2.2 with ⟨e, -⟩ | ⟨g, cap, cur, e, -⟩
  · simp only [Value.slice.injEq] at e
    exact e.2.2
  · simp at e
/-- New notes are stored. -/
theorem Dm.store {l' : List Nt} {y : Value} (h : Dm B w b l) (hB : B ≤ w.heap.size) (hb : Below w.heap.size w w') (ho : Own note 178 w.heap.size w' y l') :
    w'.frozen? ⟨b, 0, Option.none⟩ = false ∧ (∃ u, w'.cell? ⟨b, 0, Option.none⟩ = some u) ∧ Hid (Step B w b l' (w'.setCell ⟨b, 0, Option.none⟩ y)) := by
  obtain ⟨h0, y0, h1, h2⟩ := h
  have hv : w'.heap[b]? = _ := (hb.block b (lt_of_heap h1)).trans h1
  refine ⟨frozen_of hv, ⟨_, by rw [cell_of_row w' b 0 _ _ (0, 0) hv]; rfl⟩, ⟨⟨h0, y, ?_, ?_⟩, ⟨Nat.le_trans hb.size (by simp), ?_⟩, (hb.mono hB).setCell (p := ⟨b, 0, Option.none⟩) h0 _⟩⟩
  · rw [heap_set b 0 _ _ hv]; rfl
  · exact (Own.set ho (lt_of_heap h1)).lower hB
  · intro g o e ht
    have hne : g ≠ b := by
      rintro rfl
      rw [h1] at e
      simp only [Option.some.injEq] at e
      exact ht _ _ _ e.symm (by simp)
    exact (Below.heap_setCell _ _ _ _ hne).trans ((hb.block g (lt_heap e)).trans e)
theorem Step.lift {u : World} (hB : B ≤ w.heap.size) (hb : Below w.heap.size w u) (h : Step B u b l w') : Step B w b l w' :=
  ⟨h.dm, ⟨Nat.le_trans hb.size h.kept.size, fun g o e ht => h.kept.obj g o ((hb.block g (lt_heap e)).trans e) ht⟩, (hb.mono hB).trans h.below⟩
theorem Step.on {u : World} (h : Step B w b l w') (hb : Below w'.heap.size w' u) (hB : B ≤ w'.heap.size) : Step B w b l u :=
  ⟨h.dm.below hb, h.kept.trans (Kept.of_below hb), h.below.trans (hb.mono hB)⟩
end
end Go.Proofs.YtlbpeeelgpjciaaGreat.Demand

namespace Go.Proofs.YtlbpeeelgpjciaaGreat.Demand2
open Go.RowKit
open _root_.Go.Proofs.YtlbpeeelgpjciaaGreat.Codec (own_below own_lower own_stays lt_of_heap frozen_of heap_set grown_set below_new)
open _root_.Go.Proofs.YtlbpeeelgpjciaaGreat.Demand
open _root_.Go.Proofs.YtlbpeeelgpjciaaGreat.Kit (Enc Lies Own At Kept Laid cell_on lt_heap)

/-- The document's estimates: all that was noted. -/
def Dm (B : Nat) (w : World) (v ov : Nat) (l : List Nt) : Prop := B ≤ v ∧ ∃ cs T y, w.heap[v]? = some (.cells cs T (0, 0)) ∧ cs[ov]? = some y ∧ Own note 178 B w y l
/-- The document's step. -/
structure Step (B : Nat) (w : World) (v ov : Nat) (l : List Nt) (w' : World) : Prop where
  dm : Dm B w' v ov l
  row : ∀ cs T, w.heap[v]? = some (.cells cs T (0, 0)) → ∃ cs', w'.heap[v]? = some (.cells cs' T (0, 0)) ∧ ∀ k, k ≠ ov → cs'[k]? = cs[k]?
  only : ∀ g, g ≠ v → g < w.heap.size → w'.heap[g]? = w.heap[g]?
  below : Below B w w'
  size : w.heap.size ≤ w'.heap.size
section
variable {w w' : World} {B b ov : Nat} {l : List Nt}
theorem Dm.lt (h : Dm B w b ov l) : b < w.heap.size := by
  obtain ⟨_, cs, T, y, h, _⟩ := h
  exact lt_of_heap h
theorem Dm.below (h : Dm B w b ov l) (hb : Below w.heap.size w w') : Dm B w' b ov l := by
  obtain ⟨h0, cs, T, y, h1, h2, h3⟩ := h
  exact ⟨h0, cs, T, y, (hb.block b (lt_of_heap h1)).trans h1, h2, h3.on hb⟩
theorem Dm.cell (h : Dm B w b ov l) : ∃ p c, w.cell? ⟨b, ov, Option.none⟩ = some (.slice p l.length c) ∧ Lies note w p l ∧ (p = none → c = 0) := by
  obtain ⟨_, cs, T, y, h1, h2, h3⟩ := h
  obtain ⟨p, c, rfl, hl⟩ := h3.lies
  refine ⟨p, c, by rw [cell_of_row w b ov _ _ (0, 0) h1, h2], hl, ?_⟩
  rintro rfl
  rcases h3.2 with ⟨e, -⟩ | ⟨g, cap, cur, e, -⟩
  · simp only [Value.slice.injEq] at e
    exact e.2.2
  · simp at e
theorem Step.same (h : Dm B w b ov l) (hB : B ≤ w.heap.size) (hb : Below w.heap.size w w') : Step B w b ov l w' :=
  ⟨h.below hb, fun cs _ e => ⟨cs, (hb.block b (lt_of_heap e)).trans e, fun _ _ => rfl⟩, fun g _ hg => hb.block g hg, hb.mono hB, hb.size⟩
theorem Step.trans {w2 : World} {l' l2 : List Nt} (h : Step B w b ov l' w') (k : Step B w' b ov l2 w2) : Step B w b ov l2 w2 :=
  ⟨k.dm, fun cs T e => by
    obtain ⟨c1, e1, h1⟩ := h.row cs T e
    obtain ⟨c2, e2, h2⟩ := k.row c1 T e1
    exact ⟨c2, e2, fun i hi => (h2 i hi).trans (h1 i hi)⟩, fun g hn hg => (k.only g hn (Nat.lt_of_lt_of_le hg h.size)).trans (h.only g hn hg), h.below.trans k.below, Nat.le_trans h.size k.size⟩
/-- New notes are stored. -/
theorem Dm.store {l' : List Nt} {y : Value} (h : Dm B w b ov l) (hB : B ≤ w.heap.size) (hb : Below w.heap.size w w') (ho : Own note 178 w.heap.size w' y l') :
    w'.frozen? ⟨b, ov, Option.none⟩ = false ∧ (∃ u, w'.cell? ⟨b, ov, Option.none⟩ = some u) ∧ Hid (Step B w b ov l' (w'.setCell ⟨b, ov, Option.none⟩ y)) := by
  obtain ⟨h0, cs, T, y0, h1, h2, h3⟩ := h
  have hv : w'.heap[b]? = _ := (hb.block b (lt_of_heap h1)).trans h1
  have hlt : ov < cs.size := (Array.getElem?_eq_some_iff.1 h2).1
  refine ⟨frozen_of hv, ⟨_, by rw [cell_of_row w' b ov _ _ (0, 0) hv, h2]⟩, ⟨⟨h0, cs.setIfInBounds ov y, T, y, heap_set b ov _ _ hv, by simp [hlt], (Own.set ho (lt_of_heap h1)).lower hB⟩, fun cs' T' e => ?_, fun g hn hg => (Below.heap_setCell _ _ _ _ hn).trans (hb.block g hg), (hb.mono hB).setCell (p := ⟨b, ov, Option.none⟩) h0 _, Nat.le_trans hb.size (by simp)⟩⟩
  rw [h1] at e
  cases e
  refine ⟨_, heap_set b ov _ _ hv, fun k hk => ?_⟩
  simp [Ne.symm hk]
theorem Step.on {u : World} (h : Step B w b ov l w') (hb : Below w'.heap.size w' u) (hB : B ≤ w'.heap.size) : Step B w b ov l u :=
  h.trans (Step.same h.dm hB hb)
end
end Go.Proofs.YtlbpeeelgpjciaaGreat.Demand2

namespace Go.Proofs.YtlbpeeelgpjciaaGreat.Edge
open Go.RowKit
open _root_.Go.Proofs.YtlbpeeelgpjciaaGreat.Codec (lt_of_heap frozen_of heap_set below_new)
open _root_.Go.Proofs.YtlbpeeelgpjciaaGreat.Kit (Enc Lies At Kept Laid Off cell_on lt_heap)
open _root_.Go.Proofs.YtlbpeeelgpjciaaGreat.Lease (Lz)
open _root_.Go.Proofs.YtlbpeeelgpjciaaGreat.Queue (It)
open _root_.Go.Proofs.YtlbpeeelgpjciaaGreat.Demand (Nt)

def ans : Enc An := ⟨3, fun x => [.int .i64 x.id, .int .i64 x.gen, .int .i64 x.why], az, by decide, fun _ => rfl, fun x u hu => by simp at hu; rcases hu with rfl | rfl | rfl <;> rfl⟩
theorem at3 {w : World} {b o : Nat} {x : An} (h : At ans w b o x) : w.cell? ⟨b, o, none⟩ = some (.int .i64 x.id) ∧ w.cell? ⟨b, o + 1, none⟩ = some (.int .i64 x.gen) ∧ w.cell? ⟨b, o + 2, none⟩ = some (.int .i64 x.why) := ⟨h 0 _ rfl, h 1 _ rfl, h 2 _ rfl⟩
theorem ans_at {w : World} {p : Option Addr} {l : List An} (h : Lies ans w p l) {j : Nat} (hj : j < l.length) : ∃ b o, p = some ⟨b, o, none⟩ ∧ At ans w b (o + j * 3) (l.getD j az) := Kit.lies_at h hj
theorem laidA : Laid Tryz.prog ans 79 34 := ⟨Tryz.underlying34, .agg #[.int .i64 0, .int .i64 0, .int .i64 0], 24, by kernel_rfl, rfl, by decide⟩
/-- Answers that are told. -/
def Told (w : World) (v : Value) (l : List An) : Prop := ∃ p c, v = .slice p l.length c ∧ Lies ans w p l ∧ (p = none → c = 0)
theorem told_none (w : World) : Told w (.slice none 0 0) [] := ⟨none, 0, rfl, .inl rfl, fun _ => rfl⟩
theorem Told.below {w w' : World} {v : Value} {l : List An} (h : Told w v l) (hb : Below w.heap.size w w') : Told w' v l := by
  obtain ⟨p, c, e, hl, hn⟩ := h
  exact ⟨p, c, e, hl.below hb, hn⟩
theorem told_own {w : World} {B : Nat} {v : Value} {l : List An} (h : Kit.Own ans 79 B w v l) : Told w v l := by
  obtain ⟨p, c, rfl, hl⟩ := h.lies
  refine ⟨p, c, rfl, hl, ?_⟩
  rintro rfl
  rcases h.2 with ⟨e, -⟩ | ⟨g, cap, cur, e, -⟩
  · simp only [Value.slice.injEq] at e
    exact e.2.2
  · simp at e
/-- Rates that lie below a block. -/
def RatesB (B : Nat) (w : World) (p : Option Addr) (zs : List (Int × Int)) : Prop :=
  zs = [] ∨ ∃ b o, p = some ⟨b, o, none⟩ ∧ b < B ∧ ∀ i, i < zs.length →
    w.cell? ⟨b, o + i * 2, none⟩ = some (.int .i64 (zs.getD i (0, 0)).1) ∧ w.cell? ⟨b, o + i * 2 + 1, none⟩ = some (.int .i64 (zs.getD i (0, 0)).2)
theorem RatesB.on {B : Nat} {w w' : World} {p : Option Addr} {zs : List (Int × Int)} (h : RatesB B w p zs) (hb : Below B w w') : RatesB B w' p zs := by
  rcases h with h | ⟨b, o, e, hlt, hc⟩
  · exact .inl h
  · exact .inr ⟨b, o, e, hlt, fun i hi => ⟨(hb.cell (p := ⟨b, _, none⟩) hlt).trans (hc i hi).1, (hb.cell (p := ⟨b, _, none⟩) hlt).trans (hc i hi).2⟩⟩
/-- The nine cells of a configuration, at the beginning of a block. -/
structure Nine (cs : Array Value) (c : Cf) (p : Option Addr) (k : Nat) : Prop where
  c0 : cs[0]? = some (.int .i64 c.n)
  c1 : cs[1]? = some (.int .i64 c.sk)
  c2 : cs[2]? = some (.int .i64 c.tl)
  c3 : cs[3]? = some (.int .i64 c.va)
  c4 : cs[4]? = some (.int .i64 c.lo)
  c5 : cs[5]? = some (.int .i64 c.he)
  c6 : cs[6]? = some (.int .i64 c.ke)
  c7 : cs[7]? = some (.int .i64 c.qu)
  c8 : cs[8]? = some (.slice p c.zs.length k)
theorem Nine.on {cs cs' : Array Value} {c : Cf} {p : Option Addr} {k : Nat} (h : Nine cs c p k) (he : ∀ i, i < 9 → cs'[i]? = cs[i]?) : Nine cs' c p k :=
  ⟨(he 0 (by decide)).trans h.c0, (he 1 (by decide)).trans h.c1, (he 2 (by decide)).trans h.c2, (he 3 (by decide)).trans h.c3, (he 4 (by decide)).trans h.c4, (he 5 (by decide)).trans h.c5, (he 6 (by decide)).trans h.c6, (he 7 (by decide)).trans h.c7, (he 8 (by decide)).trans h.c8⟩
/-- The document's edge. -/
def Ed (B : Nat) (w : World) (v : Nat) (c : Cf) (e : Eg) : Prop := B ≤ v ∧ ∃ cs p k yL yQ yD, w.heap[v]? = some (.cells cs 60 (0, 0)) ∧ Nine cs c p k ∧ RatesB B w p c.zs ∧
  cs[9]? = some yL ∧ Lease.Own 93 B w yL e.L ∧ cs[10]? = some (.int .i64 c.qu) ∧ cs[11]? = some yQ ∧ Kit.Own Queue.item 95 B w yQ e.Q ∧ cs[12]? = some yD ∧ Kit.Own Demand.note 178 B w yD e.D
/-- The document's step. -/
structure EStep (B : Nat) (w : World) (v : Nat) (c : Cf) (e : Eg) (w' : World) : Prop where
  ed : Ed B w' v c e
  only : ∀ g, g ≠ v → g < w.heap.size → w'.heap[g]? = w.heap[g]?
  below : Below B w w'
  size : w.heap.size ≤ w'.heap.size
section
variable {w w' : World} {B v : Nat} {c : Cf} {e : Eg}
theorem Ed.lt (h : Ed B w v c e) : v < w.heap.size := by
  obtain ⟨_, cs, p, k, yL, yQ, yD, h1, _⟩ := h
  exact lt_of_heap h1
theorem Ed.below (h : Ed B w v c e) (hB : B ≤ w.heap.size) (hb : Below w.heap.size w w') : Ed B w' v c e := by
  obtain ⟨h0, cs, p, k, yL, yQ, yD, h1, h2, h3, h4, h5, h6, h7, h8, h9, h10⟩ := h
  exact ⟨h0, cs, p, k, yL, yQ, yD, (hb.block v (lt_of_heap h1)).trans h1, h2, h3.on (hb.mono hB), h4, h5.on hb, h6, h7, h8.on hb, h9, h10.on hb⟩
theorem EStep.same (h : Ed B w v c e) (hB : B ≤ w.heap.size) (hb : Below w.heap.size w w') : EStep B w v c e w' := ⟨h.below hB hb, fun g _ hg => hb.block g hg, hb.mono hB, hb.size⟩
theorem EStep.trans {w2 : World} {e' e2 : Eg} (h : EStep B w v c e' w') (k : EStep B w' v c e2 w2) : EStep B w v c e2 w2 :=
  ⟨k.ed, fun g hn hg => (k.only g hn (Nat.lt_of_lt_of_le hg h.size)).trans (h.only g hn hg), h.below.trans k.below, Nat.le_trans h.size k.size⟩
theorem EStep.on {w2 : World} {e' : Eg} (h : EStep B w v c e' w') (hB : B ≤ w'.heap.size) (hb : Below w'.heap.size w' w2) : EStep B w v c e' w2 := h.trans (EStep.same h.ed hB hb)
/-- A row of its own, where only a block of another type turns. -/
theorem owns_only {T TE : TypeId} {n k : Nat} {y : Value} {cells : List Value} {cs0 : Array Value} {z : Nat × Nat} (h : w.ownsRow B T k y n cells) (hv : w.heap[v]? = some (.cells cs0 TE z)) (hT : T ≠ TE) (ho : ∀ g, g ≠ v → g < w.heap.size → w'.heap[g]? = w.heap[g]?) : w'.ownsRow B T k y n cells := by
  refine ⟨h.1, ?_⟩
  rcases h.2 with h0 | ⟨g, cap, cur, rfl, h1, h2, h3⟩
  · exact .inl h0
  · refine .inr ⟨g, cap, cur, rfl, h1, (ho g ?_ (lt_of_heap h2)).trans h2, h3⟩
    rintro rfl
    rw [hv] at h2
    simp only [Option.some.injEq, Obj.cells.injEq] at h2
    exact hT h2.2.1.symm
theorem Ed.wl (h : Ed B w v c e) : Lease2.Wl B w v 9 e.L := by
  obtain ⟨h0, cs, p, k, yL, yQ, yD, h1, h2, h3, h4, h5, h6, h7, h8, h9, h10⟩ := h
  exact ⟨h0, cs, _, yL, h1, h4, h5⟩
theorem Ed.qu (h : Ed B w v c e) : Queue2.Qu B w v 10 c.qu e.Q := by
  obtain ⟨h0, cs, p, k, yL, yQ, yD, h1, h2, h3, h4, h5, h6, h7, h8, h9, h10⟩ := h
  exact ⟨h0, cs, _, yQ, h1, h6, h7, h8⟩
theorem Ed.dm (h : Ed B w v c e) : Demand2.Dm B w v 12 e.D := by
  obtain ⟨h0, cs, p, k, yL, yQ, yD, h1, h2, h3, h4, h5, h6, h7, h8, h9, h10⟩ := h
  exact ⟨h0, cs, _, yD, h1, h9, h10⟩
theorem cells_eq {cs cs' : Array Value} {T T' : TypeId} {z z' : Nat × Nat} (h : w.heap[v]? = some (.cells cs T z)) (h' : w.heap[v]? = some (.cells cs' T' z')) : cs = cs' := by
  rw [h] at h'
  simp only [Option.some.injEq, Obj.cells.injEq] at h'
  exact h'.1
theorem Ed.step_l {L : List Lz} (h : Ed B w v c e) (hs : Lease2.Step B w v 9 L w') : EStep B w v c ⟨L, e.Q, e.D⟩ w' := by
  obtain ⟨h0, cs, p, k, yL, yQ, yD, h1, h2, h3, h4, h5, h6, h7, h8, h9, h10⟩ := h
  obtain ⟨cs', e1, e2⟩ := hs.row _ _ h1
  obtain ⟨-, cs2, T2, y2, g1, g2, g3⟩ := hs.wl
  obtain rfl := cells_eq e1 g1
  exact ⟨⟨h0, cs', p, k, y2, yQ, yD, e1, h2.on fun i hi => e2 i (by omega), h3.on hs.below, g2, g3, (e2 10 (by decide)).trans h6, (e2 11 (by decide)).trans h7, owns_only h8 h1 (by decide) hs.only, (e2 12 (by decide)).trans h9, owns_only h10 h1 (by decide) hs.only⟩, hs.only, hs.below, hs.size⟩
theorem Ed.step_q {Q : List It} (h : Ed B w v c e) (hs : Queue2.Step B w v 10 c.qu Q w') : EStep B w v c ⟨e.L, Q, e.D⟩ w' := by
  obtain ⟨h0, cs, p, k, yL, yQ, yD, h1, h2, h3, h4, h5, h6, h7, h8, h9, h10⟩ := h
  obtain ⟨cs', e1, e2⟩ := hs.row _ _ h1
  obtain ⟨-, cs2, T2, y2, g1, g2, g3, g4⟩ := hs.qu
  obtain rfl := cells_eq e1 g1
  exact ⟨⟨h0, cs', p, k, yL, y2, yD, e1, h2.on fun i hi => e2 i (by omega), h3.on hs.below, (e2 9 (by decide)).trans h4, owns_only h5 h1 (by decide) hs.only, g2, g3, g4, (e2 12 (by decide)).trans h9, owns_only h10 h1 (by decide) hs.only⟩, hs.only, hs.below, hs.size⟩
theorem Ed.step_d {D : List Nt} (h : Ed B w v c e) (hs : Demand2.Step B w v 12 D w') : EStep B w v c ⟨e.L, e.Q, D⟩ w' := by
  obtain ⟨h0, cs, p, k, yL, yQ, yD, h1, h2, h3, h4, h5, h6, h7, h8, h9, h10⟩ := h
  obtain ⟨cs', e1, e2⟩ := hs.row _ _ h1
  obtain ⟨-, cs2, T2, y2, g1, g2, g3⟩ := hs.dm
  obtain rfl := cells_eq e1 g1
  exact ⟨⟨h0, cs', p, k, yL, yQ, y2, e1, h2.on fun i hi => e2 i (by omega), h3.on hs.below, (e2 9 (by decide)).trans h4, owns_only h5 h1 (by decide) hs.only, (e2 10 (by decide)).trans h6, (e2 11 (by decide)).trans h7, owns_only h8 h1 (by decide) hs.only, g2, g3⟩, hs.only, hs.below, hs.size⟩
/-- The configuration's cells, and the queue's. -/
theorem Ed.conf (h : Ed B w v c e) : ∃ p k, RatesB B w p c.zs ∧ w.cell? ⟨v, 0, none⟩ = some (.int .i64 c.n) ∧ w.cell? ⟨v, 1, none⟩ = some (.int .i64 c.sk) ∧ w.cell? ⟨v, 2, none⟩ = some (.int .i64 c.tl) ∧ w.cell? ⟨v, 3, none⟩ = some (.int .i64 c.va) ∧ w.cell? ⟨v, 4, none⟩ = some (.int .i64 c.lo) ∧
    w.cell? ⟨v, 5, none⟩ = some (.int .i64 c.he) ∧ w.cell? ⟨v, 6, none⟩ = some (.int .i64 c.ke) ∧ w.cell? ⟨v, 7, none⟩ = some (.int .i64 c.qu) ∧ w.cell? ⟨v, 8, none⟩ = some (.slice p c.zs.length k) := by
  obtain ⟨h0, cs, p, k, yL, yQ, yD, h1, h2, h3, h4, h5, h6, h7, h8, h9, h10⟩ := h
  have hc : ∀ i u, cs[i]? = some u → w.cell? ⟨v, i, none⟩ = some u := fun i u hu => by rw [cell_of_row w v i _ _ (0, 0) h1, hu]
  exact ⟨p, k, h3, hc _ _ h2.c0, hc _ _ h2.c1, hc _ _ h2.c2, hc _ _ h2.c3, hc _ _ h2.c4, hc _ _ h2.c5, hc _ _ h2.c6, hc _ _ h2.c7, hc _ _ h2.c8⟩
end
end Go.Proofs.YtlbpeeelgpjciaaGreat.Edge
