/-
  A hall of elections in memory: its block, three rows, boxes of the law's; what stays of it.
-/
import Derived.Test.YthehbphpchmdiaaElectAlive
import Derived.Test.YthehbphpchmdiaaElectMoves
namespace Go.Proofs.Ythehbphpchmdiaa.Elect
open Go.RowKit
open _root_.Go.Proofs.Ythehbphpchmdiaa.Codec (lt_of_heap frozen_of heap_set below_new)
open _root_.Go.Proofs.Ythehbphpchmdiaa.Kit (Enc Lies Own At Laid cell_on lt_heap take_snoc below_drewN ints)

/-- Pointers to elections. -/
def ptrs : Enc Nat := ⟨1, fun q => [.pointer (some ⟨q, 0, none⟩)], 0, by decide, fun _ => rfl, fun q u hu => by simp at hu; subst hu; rfl⟩
/-- Results. -/
def resE : Enc Rs := ⟨4, fun r => [.bool r.send, .int .i64 r.gen, .int .u64 r.bits, .bool r.won], noRs, by decide, fun _ => rfl, fun r u hu => by simp at hu; rcases hu with rfl | rfl | rfl | rfl <;> rfl⟩
theorem laidP : Laid Try.prog ptrs 25 48 := ⟨Try.underlying48, .pointer none, 8, by kernel_rfl, rfl, by decide⟩
theorem laidR : Laid Try.prog resE 40 49 := ⟨Try.underlying49, .agg #[.bool false, .int .i64 0, .int .u64 0, .bool false], 32, by kernel_rfl, rfl, by decide⟩
theorem laidI : Laid Try.prog ints 3 50 := ⟨Try.underlying50, .int .i64 0, 8, by kernel_rfl, rfl, by decide⟩
/-- What a value owns stays where its block does. -/
theorem own_stays {α : Type} {E : Enc α} {T : TypeId} {C : Nat} {w w' : World} {y : Value} {l : List α} (h : Own E T C w y l) (hs : ∀ g, y.ownBlock = some g → g < w.heap.size → w'.heap[g]? = w.heap[g]?) : Own E T C w' y l := by
  refine ⟨h.1, ?_⟩
  rcases h.2 with h0 | ⟨g, cap, cur, rfl, h1, h2, h3⟩
  · exact .inl h0
  · exact .inr ⟨g, cap, cur, rfl, h1, (hs g (by simp [Value.ownBlock]) (lt_heap h2)).trans h2, h3⟩
theorem own_lt {α : Type} {E : Enc α} {T : TypeId} {C : Nat} {w : World} {y : Value} {l : List α} (h : Own E T C w y l) {g : Nat} (hg : y.ownBlock = some g) : C ≤ g ∧ g < w.heap.size ∧ ∃ cs, w.heap[g]? = some (.cells cs T (0, 0)) := by
  rcases h.2 with ⟨rfl, -⟩ | ⟨g', cap, cur, rfl, h1, h2, -⟩
  · simp [Value.ownBlock] at hg
  · simp only [Value.ownBlock, Option.some.injEq] at hg
    subst hg
    exact ⟨h1, lt_heap h2, _, h2⟩
/-- A hall's memory. -/
structure Hm (F : Nat → Prop) (C : Nat) (w : World) (hb n : Nat) (y1 y2 y3 : Value) (qs : List Nat) (fr : List Rs) (won : List Int) (bs : List (Nat × Obj)) : Prop where
  hall : w.heap[hb]? = some (.cells #[.int .i64 (n : Int), y1, y2, y3] 52 (0, 0))
  fh : F hb
  low : C ≤ hb
  o1 : Own ptrs 25 C w y1 qs
  o2 : Own resE 40 C w y2 fr
  o3 : Own ints 3 C w y3 won
  f1 : ∀ g, y1.ownBlock = some g → F g
  f2 : ∀ g, y2.ownBlock = some g → F g
  f3 : ∀ g, y3.ownBlock = some g → F g
  box : ∀ x ∈ bs, F x.1 ∧ w.heap[x.1]? = some x.2 ∧ x.1 ≠ hb ∧ C ≤ x.1 ∧ y1.ownBlock ≠ some x.1 ∧ y2.ownBlock ≠ some x.1 ∧ y3.ownBlock ≠ some x.1
section
variable {F G : Nat → Prop} {C hb n : Nat} {w w' : World} {y1 y2 y3 : Value} {qs : List Nat} {fr : List Rs} {won : List Int} {bs : List (Nat × Obj)}
theorem Hm.on (h : Hm F C w hb n y1 y2 y3 qs fr won bs) (hs : Stays F w w') : Hm F C w' hb n y1 y2 y3 qs fr won bs :=
  ⟨(hs.same hb h.fh (lt_heap h.hall)).trans h.hall, h.fh, h.low, own_stays h.o1 fun g hg hl => hs.same g (h.f1 g hg) hl, own_stays h.o2 fun g hg hl => hs.same g (h.f2 g hg) hl, own_stays h.o3 fun g hg hl => hs.same g (h.f3 g hg) hl, h.f1, h.f2, h.f3, fun x hx => by
    obtain ⟨b1, b2, b3⟩ := h.box x hx
    exact ⟨b1, (hs.same _ b1 (lt_heap b2)).trans b2, b3⟩⟩
theorem Hm.sup (h : Hm F C w hb n y1 y2 y3 qs fr won bs) (hg : ∀ g, F g → G g) : Hm G C w hb n y1 y2 y3 qs fr won bs :=
  ⟨h.hall, hg _ h.fh, h.low, h.o1, h.o2, h.o3, fun g k => hg g (h.f1 g k), fun g k => hg g (h.f2 g k), fun g k => hg g (h.f3 g k), fun x hx => ⟨hg _ (h.box x hx).1, (h.box x hx).2⟩⟩
/-- Types tell a hall's blocks apart. -/
theorem Hm.apart (h : Hm F C w hb n y1 y2 y3 qs fr won bs) : y1.ownBlock ≠ some hb ∧ y2.ownBlock ≠ some hb ∧ y3.ownBlock ≠ some hb ∧ (∀ g, y1.ownBlock = some g → y2.ownBlock ≠ some g ∧ y3.ownBlock ≠ some g) ∧ (∀ g, y2.ownBlock = some g → y1.ownBlock ≠ some g ∧ y3.ownBlock ≠ some g) ∧ (∀ g, y3.ownBlock = some g → y1.ownBlock ≠ some g ∧ y2.ownBlock ≠ some g) := by
  have t : ∀ {g : Nat} {cs ds : Array Value} {S T : TypeId}, w.heap[g]? = some (.cells cs S (0, 0)) → w.heap[g]? = some (.cells ds T (0, 0)) → S = T := fun a b => by
    rw [a] at b
    simp only [Option.some.injEq, Obj.cells.injEq] at b
    exact b.2.1
  have k1 : ∀ g, y1.ownBlock = some g → ∃ cs, w.heap[g]? = some (.cells cs 25 (0, 0)) := fun g hg => (own_lt h.o1 hg).2.2
  have k2 : ∀ g, y2.ownBlock = some g → ∃ cs, w.heap[g]? = some (.cells cs 40 (0, 0)) := fun g hg => (own_lt h.o2 hg).2.2
  have k3 : ∀ g, y3.ownBlock = some g → ∃ cs, w.heap[g]? = some (.cells cs 3 (0, 0)) := fun g hg => (own_lt h.o3 hg).2.2
  refine ⟨fun e => ?_, fun e => ?_, fun e => ?_, fun g e => ⟨fun e' => ?_, fun e' => ?_⟩, fun g e => ⟨fun e' => ?_, fun e' => ?_⟩, fun g e => ⟨fun e' => ?_, fun e' => ?_⟩⟩
  · obtain ⟨cs, k⟩ := k1 _ e; exact absurd (t k h.hall) (by decide)
  · obtain ⟨cs, k⟩ := k2 _ e; exact absurd (t k h.hall) (by decide)
  · obtain ⟨cs, k⟩ := k3 _ e; exact absurd (t k h.hall) (by decide)
  · obtain ⟨cs, k⟩ := k1 _ e; obtain ⟨ds, k'⟩ := k2 _ e'; exact absurd (t k k') (by decide)
  · obtain ⟨cs, k⟩ := k1 _ e; obtain ⟨ds, k'⟩ := k3 _ e'; exact absurd (t k k') (by decide)
  · obtain ⟨cs, k⟩ := k2 _ e; obtain ⟨ds, k'⟩ := k1 _ e'; exact absurd (t k k') (by decide)
  · obtain ⟨cs, k⟩ := k2 _ e; obtain ⟨ds, k'⟩ := k3 _ e'; exact absurd (t k k') (by decide)
  · obtain ⟨cs, k⟩ := k3 _ e; obtain ⟨ds, k'⟩ := k1 _ e'; exact absurd (t k k') (by decide)
  · obtain ⟨cs, k⟩ := k3 _ e; obtain ⟨ds, k'⟩ := k2 _ e'; exact absurd (t k k') (by decide)
/-- A box is laid. -/
theorem Hm.lay (h : Hm F C w hb n y1 y2 y3 qs fr won bs) (hC : C ≤ w.heap.size) (o : Obj) : Hm (fun g => F g ∨ g = w.heap.size) C (w.alloc o) hb n y1 y2 y3 qs fr won ((w.heap.size, o) :: bs) := by
  have hb1 := Elect.lay w o
  have h1 := (h.on (Stays.below hb1)).sup (G := fun g => F g ∨ g = w.heap.size) fun g hg => .inl hg
  have hl := lt_heap h.hall
  refine ⟨h1.hall, h1.fh, h1.low, h1.o1, h1.o2, h1.o3, h1.f1, h1.f2, h1.f3, fun x hx => ?_⟩
  rcases List.mem_cons.1 hx with rfl | hx
  · refine ⟨.inr rfl, heap_alloc_new w o, by show w.heap.size ≠ hb; omega, hC, fun e => ?_, fun e => ?_, fun e => ?_⟩
    · have := (own_lt h.o1 e).2.1; simp at this
    · have := (own_lt h.o2 e).2.1; simp at this
    · have := (own_lt h.o3 e).2.1; simp at this
  · exact h1.box x hx
/-- A box is written. -/
theorem Hm.write {b : Nat} {o : Obj} (h : Hm F C w hb n y1 y2 y3 qs fr won ((b, o) :: bs)) (hd : ∀ x ∈ bs, x.1 ≠ b) {o' : Obj} (hs : ∀ g, g ≠ b → g < w.heap.size → w'.heap[g]? = w.heap[g]?) (ho : w'.heap[b]? = some o') : Hm F C w' hb n y1 y2 y3 qs fr won ((b, o') :: bs) := by
  obtain ⟨b1, b2, b3, b4, b5, b6, b7⟩ := h.box (b, o) (by simp)
  refine ⟨(hs hb (fun e => b3 e.symm) (lt_heap h.hall)).trans h.hall, h.fh, h.low, own_stays h.o1 fun g hg hl => hs g (fun e => b5 (e ▸ hg)) hl, own_stays h.o2 fun g hg hl => hs g (fun e => b6 (e ▸ hg)) hl, own_stays h.o3 fun g hg hl => hs g (fun e => b7 (e ▸ hg)) hl, h.f1, h.f2, h.f3, fun x hx => ?_⟩
  rcases List.mem_cons.1 hx with rfl | hx
  · exact ⟨b1, ho, b3, b4, b5, b6, b7⟩
  · obtain ⟨c1, c2, c3⟩ := h.box x (by simp [hx])
    exact ⟨c1, (hs _ (hd x hx) (lt_heap c2)).trans c2, c3⟩
theorem Hm.less {cs : List (Nat × Obj)} (h : Hm F C w hb n y1 y2 y3 qs fr won bs) (hc : ∀ x ∈ cs, x ∈ bs) : Hm F C w hb n y1 y2 y3 qs fr won cs :=
  ⟨h.hall, h.fh, h.low, h.o1, h.o2, h.o3, h.f1, h.f2, h.f3, fun x hx => h.box x (hc x hx)⟩
end
end Go.Proofs.Ythehbphpchmdiaa.Elect
