/-
  Words for memory: the program's queue (Pq): a block with a room and a slice of items that it owns; how it moves.
-/
import Derived.Test.YtdcclmellabnlaaQueueWay
import Derived.Shelf.Abstract
namespace Go.Proofs.Ytdcclmellabnlaa.Queue
open Go.RowKit
open _root_.Go.Proofs.Ytdcclmellabnlaa.Codec (lt_of_heap frozen_of heap_set below_new own_below)
open _root_.Go.Proofs.Ytdcclmellabnlaa.Kit (Enc Lies Own At Kept Laid Off cell_on lt_heap take_snoc below_drewN box5 ints own_keep own_lt)

theorem laidP : Laid Try.prog item 35 40 := ⟨Try.underlying40, .agg #[.int .i64 0, .int .i64 0, .int .i64 0, .int .i64 0, .int .i64 0], 40, by kernel_rfl, rfl, by decide⟩
/-- The program's queue, whose slice is y. -/
structure Pqy (F : Nat → Prop) (B : Nat) (w : World) (q : Nat) (room : Int) (l : List It) (y : Value) : Prop where
  ge : B ≤ q
  nf : ¬ F q
  blk : w.heap[q]? = some (.cells #[.int .i64 room, y] 56 (0, 0))
  own : Own item 35 B w y l
  nfy : ∀ g, y.ownBlock = some g → ¬ F g
  fl : ∀ g, F g → g < w.heap.size
def Pq : Pw := fun F B w q room l => ∃ y, Pqy F B w q room l y
section
variable {F G : Nat → Prop} {B q : Nat} {w w' u : World} {room : Int} {l l' : List It} {y y' : Value}
theorem Pqy.lt (h : Pqy F B w q room l y) : q < w.heap.size := lt_of_heap h.blk
theorem Pqy.below (h : Pqy F B w q room l y) (hb : Below w.heap.size w w') : Pqy F B w' q room l y :=
  ⟨h.ge, h.nf, (hb.block q h.lt).trans h.blk, h.own.on hb, h.nfy, fun g hg => Nat.lt_of_lt_of_le (h.fl g hg) hb.size⟩
theorem Pqy.kept (h : Pqy F B w q room l y) (hk : Kept [32] w w') : Pqy F B w' q room l y :=
  ⟨h.ge, h.nf, hk.block q _ _ _ h.blk (by simp), Own.kept h.own hk (by simp), h.nfy, fun g hg => Nat.lt_of_lt_of_le (h.fl g hg) hk.size⟩
theorem Pqy.sub (h : Pqy F B w q room l y) (hg : ∀ g, G g → F g) : Pqy G B w q room l y :=
  ⟨h.ge, fun e => h.nf (hg _ e), h.blk, h.own, fun g e e2 => h.nfy g e (hg _ e2), fun g e => h.fl g (hg _ e)⟩
theorem Pqy.grow (h : Pqy F B w q room l y) (hb : Below w.heap.size w w') : Pqy (fun g => F g ∨ w.heap.size ≤ g ∧ g < w'.heap.size) B w' q room l y := by
  have h' := h.below hb
  refine ⟨h.ge, fun e => ?_, h'.blk, h'.own, fun g e e2 => ?_, fun g e => ?_⟩
  · rcases e with e | e
    · exact h.nf e
    · have := h.lt; omega
  · rcases e2 with e2 | e2
    · exact h.nfy g e e2
    · have := own_lt h.own e; omega
  · rcases e with e | e
    · exact h'.fl g e
    · exact e.2
theorem Pqy.cell (h : Pqy F B w q room l y) : ∃ p c, y = .slice p l.length c ∧ w.cell? ⟨q, 1, none⟩ = some (.slice p l.length c) ∧ Lies item w p l ∧ (p = none → c = 0) ∧ w.cell? ⟨q, 0, none⟩ = some (.int .i64 room) := by
  obtain ⟨p, c, rfl, hl⟩ := h.own.lies
  refine ⟨p, c, rfl, by rw [cell_of_row w q 1 _ _ (0, 0) h.blk]; rfl, hl, ?_, by rw [cell_of_row w q 0 _ _ (0, 0) h.blk]; rfl⟩
  rintro rfl
  rcases h.own.2 with ⟨e, -⟩ | ⟨g, cap, cur, e, -⟩
  · simp only [Value.slice.injEq] at e
    exact e.2.2
  · simp at e
theorem own_type {B : Nat} {w : World} {v : Value} {l : List It} {T : TypeId} (h : Own item T B w v l) {b : Nat} (hb : v.ownBlock = some b) : ∃ cur, w.heap[b]? = some (.cells cur T (0, 0)) := by
  rcases h.2 with ⟨rfl, -⟩ | ⟨g, cap, cur, rfl, h1, h2, -⟩
  · simp [Value.ownBlock] at hb
  · simp only [Value.ownBlock, Option.some.injEq] at hb
    subst hb
    exact ⟨cur, h2⟩
/-- The slice's own block is not the queue's. -/
theorem Pqy.apart (h : Pqy F B w q room l y) : y.ownBlock ≠ some q := by
  intro e
  obtain ⟨cur, hc⟩ := own_type h.own e
  rw [h.blk] at hc
  simp only [Option.some.injEq, Obj.cells.injEq] at hc
  exact absurd hc.2.1 (by decide)
/-- The slice's block may have turned, and a new slice is stored. -/
theorem Pqy.turn (h : Pqy F B w q room l y) (hB : B ≤ w.heap.size) (hg : w.grownBy u y.ownBlock) (ho : Own item 35 B u y' l') (hy : ∀ g, y'.ownBlock = some g → y.ownBlock = some g ∨ w.heap.size ≤ g) :
    u.frozen? ⟨q, 1, none⟩ = false ∧ u.cell? ⟨q, 1, none⟩ = some y ∧ Hid (Moved Pq F B w q room l' (u.setCell ⟨q, 1, none⟩ y')) := by
  have hq : u.heap[q]? = _ := (hg.block q h.lt (fun e => h.apart e.symm)).trans h.blk
  have ne1 : ∀ g, y'.ownBlock = some g → g ≠ q := fun g e => by
    rintro rfl
    rcases hy g e with e | e
    · exact h.apart e
    · have := h.lt; omega
  have hb : Below B w u := (Below.refl B w).grown hg hB (fun k e => (World.ownsRow.lt h.own k e).1)
  refine ⟨frozen_of hq, by rw [cell_of_row u q 1 _ _ (0, 0) hq]; rfl, ⟨⟨y', ⟨h.ge, h.nf, ?_, ?_, fun g e e2 => ?_, fun g e => ?_⟩⟩, ⟨Nat.le_trans hg.size (by simp), fun g cs t z e ht => ?_⟩, hb.setCell (p := ⟨q, 1, none⟩) h.ge _, fun g hf hl => ?_⟩⟩
  · rw [heap_set q 1 _ _ hq]; rfl
  · exact own_keep ho (fun b e => Below.heap_setCell _ _ _ _ (ne1 b e))
  · rcases hy g e with e | e
    · exact h.nfy g e e2
    · have := h.fl g e2; omega
  · exact Nat.lt_of_lt_of_le (h.fl g e) (Nat.le_trans hg.size (by simp))
  · have hne : g ≠ q := by
      rintro rfl
      rw [h.blk] at e
      simp only [Option.some.injEq, Obj.cells.injEq] at e
      rw [← e.2.1] at ht
      exact absurd ht (by decide)
    refine (Below.heap_setCell _ _ _ _ hne).trans ((hg.block g (lt_heap e) (fun e2 => ?_)).trans e)
    obtain ⟨cur, hc⟩ := own_type h.own e2.symm
    rw [e] at hc
    simp only [Option.some.injEq, Obj.cells.injEq] at hc
    rw [hc.2.1] at ht
    exact absurd ht (by decide)
  · have hne : g ≠ q := fun e => h.nf (e ▸ hf)
    exact (Below.heap_setCell _ _ _ _ hne).trans (hg.block g hl (fun e => h.nfy g e.symm hf))
theorem Pqy.same (h : Pqy F B w q room l y) (hB : B ≤ w.heap.size) (hb : Below w.heap.size w w') : Moved Pq F B w q room l w' :=
  ⟨⟨y, h.below hb⟩, Off.of_below hb, hb.mono hB, fun g _ hl => hb.block g hl⟩
end
theorem Moved.lift {PW : Pw} {F : Nat → Prop} {B q : Nat} {w u w' : World} {room : Int} {l : List It} (hB : B ≤ w.heap.size) (hb : Below w.heap.size w u) (h : Moved PW F B u q room l w') : Moved PW F B w q room l w' :=
  ⟨h.pw, (Off.of_below hb).trans h.off, (hb.mono hB).trans h.below, fun g hf hl => (h.rest g hf (Nat.lt_of_lt_of_le hl hb.size)).trans (hb.block g hl)⟩
theorem Moved.on {F : Nat → Prop} {B q : Nat} {w u w' : World} {room : Int} {l : List It} (hB : B ≤ w.heap.size) (h : Moved Pq F B w q room l u) (hb : Below u.heap.size u w') : Moved Pq F B w q room l w' :=
  ⟨by obtain ⟨y, hy⟩ := h.pw; exact ⟨y, hy.below hb⟩, h.off.trans (Off.of_below hb), h.below.trans (hb.mono (Nat.le_trans hB h.off.size)), fun g hf hl => (hb.block g (Nat.lt_of_lt_of_le hl h.off.size)).trans (h.rest g hf hl)⟩

set_option maxRecDepth 100000 in
set_option maxHeartbeats 1000000 in
theorem new_no (room : Int) (w : World) (h : room < 0 ∨ 16 < room) : Calls Try.prog 6 #[.int .i64 room] w fun e w' => e = .returned (.tuple #[.pointer none, .int .i64 1]) ∧ Below w.heap.size w w' := by
  have hc : decide (room < 0) = true ∨ decide (room < 0) = false ∧ decide (16 < room) = true := by
    by_cases h1 : room < 0
    · exact .inl (by simpa using h1)
    · exact .inr ⟨by simpa using h1, by simp; omega⟩
  rcases hc with h1 | ⟨h1, h2⟩
  all_goals
    go_enter Try.func6, Try.ntmps6
    go_wp2
    refine bodyPost_ret (v := .tuple #[.pointer none, .int .i64 1]) (by simp [results, Try.results6, go_sem]) rfl ⟨rfl, Below.refl _ _⟩
set_option maxRecDepth 100000 in
set_option maxHeartbeats 1000000 in
theorem new_ok (room : Int) (w : World) (h0 : 0 ≤ room) (h1 : room ≤ 16) : Calls Try.prog 6 #[.int .i64 room] w fun e w' => ∃ q, e = .returned (.tuple #[.pointer (some ⟨q, 0, none⟩), .int .i64 0]) ∧ Pq (fun g => g < w.heap.size) w.heap.size w' q room [] ∧ Below w.heap.size w w' := by
  have h2 : decide (room < 0) = false := by simp; omega
  have h3 : decide (16 < room) = false := by simp; omega
  have HB := Lib.hid (lay w (.cells #[.int .i64 room, .slice none 0 0] 56))
  have HK := Lib.hid (heap_alloc_new w (.cells #[.int .i64 room, .slice none 0 0] 56))
  go_enter Try.func6, Try.ntmps6
  go_wp2
  refine bodyPost_ret (v := .tuple #[.pointer (some ⟨w.heap.size, 0, none⟩), .int .i64 0]) (by simp [results, Try.results6, go_sem]) rfl ⟨w.heap.size, rfl, ⟨_, ⟨Nat.le_refl _, by simp, HK.out, Own.none _ _ _ _, fun g e => by simp [Value.ownBlock] at e, fun g e => Nat.lt_of_lt_of_le e HB.out.size⟩⟩, HB.out⟩
end Go.Proofs.Ytdcclmellabnlaa.Queue
