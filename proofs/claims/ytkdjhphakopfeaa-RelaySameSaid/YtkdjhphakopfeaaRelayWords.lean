/-
  Words for memory: frames whose lists stay where some blocks stay; the document's relay. No conditions beyond those that each names.
-/
import Derived.Test.YtkdjhphakopfeaaRelayPlain
import Derived.Test.YtkdjhphakopfeaaFrameRight
import Derived.Test.YtkdjhphakopfeaaKit
namespace Go.Proofs.Ytkdjhphakopfeaa.Relay
open Go.RowKit
open _root_.Go.Proofs.Ytkdjhphakopfeaa.Codec (lt_of_heap frozen_of heap_set below_new Ints)
open _root_.Go.Proofs.Ytkdjhphakopfeaa.Frame (Fr Tk Tb Rw frameOk Lying frameVal LeasesAt RowAt RowsAt)
open _root_.Go.Proofs.Ytkdjhphakopfeaa.Kit (Kept Off cell_on)

/-- These blocks stay. -/
structure Stays (F : Nat → Prop) (w w' : World) : Prop where
  size : w.heap.size ≤ w'.heap.size
  same : ∀ g, F g → g < w.heap.size → w'.heap[g]? = w.heap[g]?
section
variable {F G : Nat → Prop} {w w' u : World}
theorem Stays.refl (F : Nat → Prop) (w : World) : Stays F w w := ⟨Nat.le_refl _, fun _ _ _ => rfl⟩
theorem Stays.trans (h : Stays F w w') (k : Stays F w' u) : Stays F w u := ⟨Nat.le_trans h.size k.size, fun g hg hl => (k.same g hg (Nat.lt_of_lt_of_le hl h.size)).trans (h.same g hg hl)⟩
theorem Stays.below (hb : Below w.heap.size w w') : Stays F w w' := ⟨hb.size, fun g _ hl => hb.block g hl⟩
theorem Stays.sub (h : Stays F w w') (hg : ∀ g, G g → F g) : Stays G w w' := ⟨h.size, fun g hG hl => h.same g (hg g hG) hl⟩
theorem Stays.of_base {B : Nat} (hb : Below B w w') (hs : w.heap.size ≤ w'.heap.size) : Stays (fun g => g < B) w w' := ⟨hs, fun g hg _ => hb.block g hg⟩
/-- A frame's lists lie wherever these blocks stay. -/
def LyF (F : Nat → Prop) (w : World) (f : Fr) (ps p : Option Addr) : Prop := ∀ u, Stays F w u → Lying u f ps p
theorem LyF.now {f : Fr} {ps p : Option Addr} (h : LyF F w f ps p) : Lying w f ps p := h w (Stays.refl _ _)
theorem LyF.on {f : Fr} {ps p : Option Addr} (h : LyF F w f ps p) (hs : Stays F w w') : LyF F w' f ps p := fun _ hu => h _ (hs.trans hu)
theorem LyF.sup {f : Fr} {ps p : Option Addr} (h : LyF F w f ps p) (hg : ∀ g, F g → G g) : LyF G w f ps p := fun u hu => h u (hu.sub hg)
/-- Cells that are there stay. -/
def CellsOn (w w' : World) : Prop := ∀ (b o : Nat) (v : Value), w.cell? ⟨b, o, none⟩ = some v → w'.cell? ⟨b, o, none⟩ = some v
theorem cellsOn (h : Stays (fun g => g < w.heap.size) w w') : CellsOn w w' := fun b o v hv => by
  have hl := World.block_lt_of_cell? _ _ hv
  exact (World.cell?_of_block (a := ⟨b, o, none⟩) (h.same b hl hl)).trans hv
theorem leases_on {p : Option Addr} {l : List (Int × Int)} (h : LeasesAt w p l) (hc : CellsOn w w') : LeasesAt w' p l := by
  rcases h with h | ⟨b, o, e, k⟩
  · exact .inl h
  · exact .inr ⟨b, o, e, fun j hj => ⟨hc _ _ _ (k j hj).1, hc _ _ _ (k j hj).2⟩⟩
theorem row_on {b o : Nat} {r : Rw} (h : RowAt w b o r) (hc : CellsOn w w') : RowAt w' b o r := by
  obtain ⟨h0, h1, h2, p, c, h3, h4⟩ := h
  exact ⟨hc _ _ _ h0, hc _ _ _ h1, hc _ _ _ h2, p, c, hc _ _ _ h3, leases_on h4 hc⟩
theorem rows_on {p : Option Addr} {l : List Rw} (h : RowsAt w p l) (hc : CellsOn w w') : RowsAt w' p l := by
  rcases h with h | ⟨b, o, e, k⟩
  · exact .inl h
  · exact .inr ⟨b, o, e, fun j hj => row_on (k j hj) hc⟩
theorem ints_on {p : Option Addr} {l : List Int} (h : Ints w p l) (hc : CellsOn w w') : Ints w' p l := by
  rcases h with h | ⟨b, o, e, k⟩
  · exact .inl h
  · exact .inr ⟨b, o, e, fun j hj => hc _ _ _ (k j hj)⟩
/-- All that lies now stays where what is there stays. -/
theorem lyF_of {f : Fr} {ps p : Option Addr} (h : Lying w f ps p) : LyF (fun g => g < w.heap.size) w f ps p := fun _ hu =>
  ⟨ints_on h.stamps (cellsOn hu), rows_on h.rows (cellsOn hu), h.small, h.few, h.many⟩
theorem lying_none (w : World) (ps p : Option Addr) : Lying w noFr ps p := ⟨.inl rfl, .inl rfl, fun i hi => by simp [noFr] at hi, by decide, by decide⟩
end
/-- The eleven cells of a frame. -/
def cells11 (f : Fr) (ps p : Option Addr) (cs c : Nat) : Array Value := #[.int .i64 f.kind, .int .i64 f.src, .int .i64 f.dst, .int .i64 f.gen, .int .i64 f.hop, .int .u64 f.bits, .int .i64 f.token.gen, .int .i64 f.token.hop, .slice ps f.token.stamps.length cs, .int .i64 f.token.table.start, .slice p f.token.table.rows.length c]
/-- The document's relay. -/
def Rd (F : Nat → Prop) (B : Nat) (w : World) (v : Nat) (r : Rl) : Prop := B ≤ v ∧ ∃ y, w.heap[v]? = some (.cells #[y, .int .i64 (r.sent : Int)] 30 (0, 0)) ∧
  match r.held with
  | none => ∃ p c, y = .slice p 0 c
  | some f => ∃ g ps p cs c, y = .slice (some ⟨g, 0, none⟩) 1 1 ∧ B ≤ g ∧ w.heap[g]? = some (.cells (cells11 f ps p cs c) 41 (0, 0)) ∧ LyF F w f ps p
/-- The document's step. -/
structure RStep (F : Nat → Prop) (B : Nat) (w : World) (v : Nat) (r : Rl) (w' : World) : Prop where
  rd : Rd F B w' v r
  only : ∀ g, g ≠ v → g < w.heap.size → w'.heap[g]? = w.heap[g]?
  below : Below B w w'
  size : w.heap.size ≤ w'.heap.size
section
variable {F : Nat → Prop} {w w' : World} {B v : Nat} {r r' : Rl}
theorem Rd.lt (h : Rd F B w v r) : v < w.heap.size := by
  obtain ⟨_, y, h1, _⟩ := h
  exact lt_of_heap h1
theorem Rd.off (h : Rd F B w v r) (ho : Off [30, 41] w w') (hs : Stays F w w') : Rd F B w' v r := by
  obtain ⟨h0, y, h1, h2⟩ := h
  refine ⟨h0, y, ho.block v _ _ _ h1 (by simp), ?_⟩
  obtain ⟨hd, n⟩ := r
  cases hd with
  | none => exact h2
  | some f =>
    obtain ⟨g, ps, p, cs, c, e, hg, h3, h4⟩ := h2
    exact ⟨g, ps, p, cs, c, e, hg, ho.block g _ _ _ h3 (by simp), h4.on hs⟩
theorem Rd.below (h : Rd F B w v r) (hb : Below w.heap.size w w') : Rd F B w' v r := h.off (Off.of_below hb) (Stays.below hb)
theorem RStep.same (h : Rd F B w v r) (hB : B ≤ w.heap.size) (hb : Below w.heap.size w w') : RStep F B w v r w' := ⟨h.below hb, fun g _ hg => hb.block g hg, hb.mono hB, hb.size⟩
theorem RStep.trans {w2 : World} {r2 : Rl} (h : RStep F B w v r' w') (k : RStep F B w' v r2 w2) : RStep F B w v r2 w2 :=
  ⟨k.rd, fun g hn hg => (k.only g hn (Nat.lt_of_lt_of_le hg h.size)).trans (h.only g hn hg), h.below.trans k.below, Nat.le_trans h.size k.size⟩
theorem RStep.on {w2 : World} (h : RStep F B w v r' w') (hB : B ≤ w'.heap.size) (hb : Below w'.heap.size w' w2) : RStep F B w v r' w2 := h.trans (RStep.same h.rd hB hb)
/-- What the document's relay tells. -/
theorem Rd.cell (h : Rd F B w v r) : ∃ p c, w.cell? ⟨v, 0, none⟩ = some (.slice p (if isHeld r = true then 1 else 0) c) ∧ w.cell? ⟨v, 1, none⟩ = some (.int .i64 (r.sent : Int)) ∧ w.frozen? ⟨v, 0, none⟩ = false ∧ w.frozen? ⟨v, 1, none⟩ = false := by
  obtain ⟨_, y, h1, h2⟩ := h
  obtain ⟨hd, n⟩ := r
  cases hd with
  | none =>
    obtain ⟨p, c, rfl⟩ := h2
    exact ⟨p, c, by rw [cell_of_row w v 0 _ _ (0, 0) h1]; rfl, by rw [cell_of_row w v 1 _ _ (0, 0) h1]; rfl, frozen_of h1, frozen_of h1⟩
  | some f =>
    obtain ⟨g, ps, p, cs, c, rfl, -⟩ := h2
    exact ⟨_, 1, by rw [cell_of_row w v 0 _ _ (0, 0) h1]; rfl, by rw [cell_of_row w v 1 _ _ (0, 0) h1]; rfl, frozen_of h1, frozen_of h1⟩
/-- Where the frame that is held lies. -/
theorem Rd.first (h : Rd F B w v r) {f : Fr} (e : r.held = some f) : ∃ g ps p cs c, w.cell? ⟨v, 0, none⟩ = some (.slice (some ⟨g, 0, none⟩) 1 1) ∧ B ≤ g ∧ w.heap[g]? = some (.cells (cells11 f ps p cs c) 41 (0, 0)) := by
  obtain ⟨_, y, h1, h2⟩ := h
  obtain ⟨hd, n⟩ := r
  subst e
  obtain ⟨g, ps, p, cs, c, rfl, hg, h3, -⟩ := h2
  exact ⟨g, ps, p, cs, c, by rw [cell_of_row w v 0 _ _ (0, 0) h1]; rfl, hg, h3⟩
end
end Go.Proofs.Ytkdjhphakopfeaa.Relay
