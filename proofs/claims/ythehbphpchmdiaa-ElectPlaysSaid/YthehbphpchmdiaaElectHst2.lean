/-
  A hall of elections: a result is stored into its box; what is appended to its rows, in a region that draws.
-/
import Derived.Test.YthehbphpchmdiaaElectHst
import Derived.Test.YthehbphpchmdiaaElectStep
import Derived.Deep.AppendLies
namespace Go.Proofs.Ythehbphpchmdiaa.Elect
open Go.RowKit
open _root_.Go.Proofs.Ythehbphpchmdiaa.Codec (lt_of_heap frozen_of heap_set below_new)
open _root_.Go.Proofs.Ythehbphpchmdiaa.Kit (Enc Lies Own At Laid cell_on lt_heap take_snoc below_drewN ints)

theorem mv3 {u : World} {b : Nat} {k g x : Int} (h : u.heap[b]? = some (.cells #[.int .u8 k, .int .u8 g, .int .u16 x] 56 (0, 0))) : u.cell? ⟨b, 0, none⟩ = some (.int .u8 k) ∧ u.cell? ⟨b, 1, none⟩ = some (.int .u8 g) ∧ u.cell? ⟨b, 2, none⟩ = some (.int .u16 x) :=
  ⟨by rw [cell_of_row u b 0 _ _ (0, 0) h]; rfl, by rw [cell_of_row u b 1 _ _ (0, 0) h]; rfl, by rw [cell_of_row u b 2 _ _ (0, 0) h]; rfl⟩
theorem rbox {PW : Pw} {W u : World} {hb : Nat} {qs : List Nat} {H : Hl} {b : Nat} {r : Rs} {T : TypeId} {bs : List (Nat × Obj)} (h : Hst PW W hb qs H ((b, .cells #[.bool r.send, .int .i64 r.gen, .int .u64 r.bits, .bool r.won] T (0, 0)) :: bs) u) : u.cell? ⟨b, 0, none⟩ = some (.bool r.send) ∧ u.cell? ⟨b, 1, none⟩ = some (.int .i64 r.gen) ∧ u.cell? ⟨b, 2, none⟩ = some (.int .u64 r.bits) ∧ u.cell? ⟨b, 3, none⟩ = some (.bool r.won) ∧ (∀ o, u.frozen? ⟨b, o, none⟩ = false) ∧ ¬ (b = hb) ∧ ¬ (hb = b) := by
  have k := h.obj (b := b) (o := .cells #[.bool r.send, .int .i64 r.gen, .int .u64 r.bits, .bool r.won] T (0, 0)) (by simp)
  obtain ⟨k1, k2, k3, k4⟩ := rs4 k.1
  exact ⟨k1, k2, k3, k4, fun _ => frozen_of k.1, k.2, fun e => k.2 e.symm⟩
/-- A result is stored into its box. -/
theorem Hst.put {PW : Pw} (P : Way17 PW) {W u : World} {hb : Nat} {qs : List Nat} {H : Hl} {b : Nat} {s r : Rs} {bs : List (Nat × Obj)} (h : Hst PW W hb qs H ((b, rsObj s) :: bs) u) (hd : ∀ x ∈ bs, x.1 ≠ b) : Hst PW W hb qs H ((b, rsObj r) :: bs) (put4 u b r) := by
  have h0 := h
  obtain ⟨F, y1, y2, y3, h1, -⟩ := h0
  obtain ⟨-, k, -, k2, -⟩ := h1.box (b, rsObj s) (by simp)
  have e0 := heap_set b 0 _ (.bool r.send) k
  have e1 := heap_set b 1 _ (.int .i64 r.gen) e0
  have e2 := heap_set b 2 _ (.int .u64 r.bits) e1
  have e3 := heap_set b 3 _ (.bool r.won) e2
  refine h.write P hd (fun g hg _ => ?_) e3 ((((h.below.setCell k2 _).setCell k2 _).setCell k2 _).setCell k2 _) (by simp [put4, World.setCell])
  unfold put4
  rw [Below.heap_setCell _ _ _ _ hg, Below.heap_setCell _ _ _ _ hg, Below.heap_setCell _ _ _ _ hg, Below.heap_setCell _ _ _ _ hg]

section
variable {PW : Pw} {W u : World} {hb : Nat} {qs : List Nat} {H : Hl} {bs : List (Nat × Obj)}
theorem Hst.lt (h : Hst PW W hb qs H bs u) : hb < u.heap.size := by
  obtain ⟨_, _, _, _, h1, -⟩ := h
  exact lt_heap h1.hall
/-- One result is appended to the frames. -/
theorem Hst.frames (P : Way17 PW) (h : Hst PW W hb qs H bs u) : ∃ p1 c1 p2 c2 p3 c3, (u.cell? ⟨hb, 0, none⟩ = some (.int .i64 (H.n : Int)) ∧ u.cell? ⟨hb, 1, none⟩ = some (.slice p1 H.n c1) ∧ u.cell? ⟨hb, 2, none⟩ = some (.slice p2 H.frames.length c2) ∧ u.cell? ⟨hb, 3, none⟩ = some (.slice p3 H.won.length c3) ∧ ∀ o, u.frozen? ⟨hb, o, none⟩ = false) ∧ ∀ u', Below u.heap.size u u' → Own resE 40 W.heap.size u' (.slice p2 H.frames.length c2) H.frames ∧ ∀ (r : Rs) g cap w', w'.ownsRow W.heap.size 40 4 (.slice (some ⟨g, 0, none⟩) (H.frames.length + 1) cap) (H.frames.length + 1) (Kit.cells resE H.frames ++ resE.cs r) → u'.grownBy w' (Value.slice p2 H.frames.length c2).ownBlock → ((Value.slice p2 H.frames.length c2).ownBlock = some g ∨ g = u'.heap.size) →
      (w'.cell? ⟨hb, 0, none⟩ = some (.int .i64 (H.n : Int)) ∧ w'.cell? ⟨hb, 1, none⟩ = some (.slice p1 H.n c1) ∧ w'.cell? ⟨hb, 2, none⟩ = some (.slice p2 H.frames.length c2) ∧ w'.cell? ⟨hb, 3, none⟩ = some (.slice p3 H.won.length c3) ∧ ∀ o, w'.frozen? ⟨hb, o, none⟩ = false) ∧ (∀ x ∈ bs, w'.heap[x.1]? = some x.2) ∧ Hst PW W hb qs ⟨H.n, H.el, H.frames ++ [r], H.won⟩ bs (w'.setCell ⟨hb, 2, none⟩ (.slice (some ⟨g, 0, none⟩) (H.frames.length + 1) cap)) := by
  obtain ⟨F, y1, y2, y3, h1, h2, h3, h4, h5⟩ := h
  obtain ⟨p1, c1, rfl, -⟩ := h1.o1.lies
  obtain ⟨p2, c2, rfl, -⟩ := h1.o2.lies
  obtain ⟨p3, c3, rfl, -⟩ := h1.o3.lies
  rw [h2] at h1
  have row : ∀ {v : World}, v.heap[hb]? = some (.cells #[.int .i64 (H.n : Int), .slice p1 H.n c1, .slice p2 H.frames.length c2, .slice p3 H.won.length c3] 52 (0, 0)) → v.cell? ⟨hb, 0, none⟩ = some (.int .i64 (H.n : Int)) ∧ v.cell? ⟨hb, 1, none⟩ = some (.slice p1 H.n c1) ∧ v.cell? ⟨hb, 2, none⟩ = some (.slice p2 H.frames.length c2) ∧ v.cell? ⟨hb, 3, none⟩ = some (.slice p3 H.won.length c3) ∧ ∀ o, v.frozen? ⟨hb, o, none⟩ = false := fun k => ⟨by rw [cell_of_row _ hb 0 _ _ (0, 0) k]; rfl, by rw [cell_of_row _ hb 1 _ _ (0, 0) k]; rfl, by rw [cell_of_row _ hb 2 _ _ (0, 0) k]; rfl, by rw [cell_of_row _ hb 3 _ _ (0, 0) k]; rfl, fun _ => frozen_of k⟩
  refine ⟨p1, c1, p2, c2, p3, c3, row h1.hall, fun u' hu => ?_⟩
  have k := h1.on (Stays.below hu)
  refine ⟨k.o2, fun r g cap w' ho hg hat => ?_⟩
  have hC : W.heap.size ≤ u'.heap.size := Nat.le_trans h5.size hu.size
  have ho' : Own resE 40 W.heap.size w' (.slice (some ⟨g, 0, none⟩) (H.frames.length + 1) cap) (H.frames ++ [r]) := by
    unfold Kit.Own
    rw [Kit.cells_snoc, List.length_append]
    exact ho
  have hs : ∀ k', (Value.slice p2 H.frames.length c2).ownBlock ≠ some k' → k' < u'.heap.size → w'.heap[k']? = u'.heap[k']? := fun k' hk hl => hg.block k' hl (fun e => hk e.symm)
  obtain ⟨a1, a2⟩ := k.frames ho' hs (by rcases hat with e | e <;> simp [Value.ownBlock] at e ⊢ <;> simp_all)
  obtain ⟨-, b2, -⟩ := k.apart
  refine ⟨row ((hs hb b2 (lt_heap k.hall)).trans k.hall), fun x hx => ?_, _, _, _, _, a1, h2, h3, fun j hj => P.turned (P.below (h4 j hj) hu) ⟨?_, a2⟩ (fun g' hg' => hg'.imp id fun e => by omega), ?_⟩
  · obtain ⟨-, x1, -, -, -, x2, -⟩ := k.box x hx
    exact (hs _ x2 (lt_heap x1)).trans x1
  · have hz := ((Below.refl W.heap.size u').grown hg hC (fun k' hk => (World.ownsRow.lt k.o2 k' hk).1)).size
    simpa [World.setCell] using hz
  · exact ((h5.trans (hu.mono h5.size)).grown hg hC (fun k' hk => (World.ownsRow.lt k.o2 k' hk).1)).setCell k.low _
/-- One ballot is appended to those that were won. -/
theorem Hst.wons (P : Way17 PW) (h : Hst PW W hb qs H bs u) : ∃ p1 c1 p2 c2 p3 c3, (u.cell? ⟨hb, 0, none⟩ = some (.int .i64 (H.n : Int)) ∧ u.cell? ⟨hb, 1, none⟩ = some (.slice p1 H.n c1) ∧ u.cell? ⟨hb, 2, none⟩ = some (.slice p2 H.frames.length c2) ∧ u.cell? ⟨hb, 3, none⟩ = some (.slice p3 H.won.length c3) ∧ ∀ o, u.frozen? ⟨hb, o, none⟩ = false) ∧ ∀ u', Below u.heap.size u u' → Own ints 3 W.heap.size u' (.slice p3 H.won.length c3) H.won ∧ ∀ (r : Int) g cap w', w'.ownsRow W.heap.size 3 1 (.slice (some ⟨g, 0, none⟩) (H.won.length + 1) cap) (H.won.length + 1) (Kit.cells ints H.won ++ ints.cs r) → u'.grownBy w' (Value.slice p3 H.won.length c3).ownBlock → ((Value.slice p3 H.won.length c3).ownBlock = some g ∨ g = u'.heap.size) →
      (w'.cell? ⟨hb, 0, none⟩ = some (.int .i64 (H.n : Int)) ∧ w'.cell? ⟨hb, 1, none⟩ = some (.slice p1 H.n c1) ∧ w'.cell? ⟨hb, 2, none⟩ = some (.slice p2 H.frames.length c2) ∧ w'.cell? ⟨hb, 3, none⟩ = some (.slice p3 H.won.length c3) ∧ ∀ o, w'.frozen? ⟨hb, o, none⟩ = false) ∧ (∀ x ∈ bs, w'.heap[x.1]? = some x.2) ∧ Hst PW W hb qs ⟨H.n, H.el, H.frames, H.won ++ [r]⟩ bs (w'.setCell ⟨hb, 3, none⟩ (.slice (some ⟨g, 0, none⟩) (H.won.length + 1) cap)) := by
  obtain ⟨F, y1, y2, y3, h1, h2, h3, h4, h5⟩ := h
  obtain ⟨p1, c1, rfl, -⟩ := h1.o1.lies
  obtain ⟨p2, c2, rfl, -⟩ := h1.o2.lies
  obtain ⟨p3, c3, rfl, -⟩ := h1.o3.lies
  rw [h2] at h1
  have row : ∀ {v : World}, v.heap[hb]? = some (.cells #[.int .i64 (H.n : Int), .slice p1 H.n c1, .slice p2 H.frames.length c2, .slice p3 H.won.length c3] 52 (0, 0)) → v.cell? ⟨hb, 0, none⟩ = some (.int .i64 (H.n : Int)) ∧ v.cell? ⟨hb, 1, none⟩ = some (.slice p1 H.n c1) ∧ v.cell? ⟨hb, 2, none⟩ = some (.slice p2 H.frames.length c2) ∧ v.cell? ⟨hb, 3, none⟩ = some (.slice p3 H.won.length c3) ∧ ∀ o, v.frozen? ⟨hb, o, none⟩ = false := fun k => ⟨by rw [cell_of_row _ hb 0 _ _ (0, 0) k]; rfl, by rw [cell_of_row _ hb 1 _ _ (0, 0) k]; rfl, by rw [cell_of_row _ hb 2 _ _ (0, 0) k]; rfl, by rw [cell_of_row _ hb 3 _ _ (0, 0) k]; rfl, fun _ => frozen_of k⟩
  refine ⟨p1, c1, p2, c2, p3, c3, row h1.hall, fun u' hu => ?_⟩
  have k := h1.on (Stays.below hu)
  refine ⟨k.o3, fun r g cap w' ho hg hat => ?_⟩
  have hC : W.heap.size ≤ u'.heap.size := Nat.le_trans h5.size hu.size
  have ho' : Own ints 3 W.heap.size w' (.slice (some ⟨g, 0, none⟩) (H.won.length + 1) cap) (H.won ++ [r]) := by
    unfold Kit.Own
    rw [Kit.cells_snoc, List.length_append]
    exact ho
  have hs : ∀ k', (Value.slice p3 H.won.length c3).ownBlock ≠ some k' → k' < u'.heap.size → w'.heap[k']? = u'.heap[k']? := fun k' hk hl => hg.block k' hl (fun e => hk e.symm)
  obtain ⟨a1, a2⟩ := k.wons ho' hs (by rcases hat with e | e <;> simp [Value.ownBlock] at e ⊢ <;> simp_all)
  obtain ⟨-, -, b3, -⟩ := k.apart
  refine ⟨row ((hs hb b3 (lt_heap k.hall)).trans k.hall), fun x hx => ?_, _, _, _, _, a1, h2, h3, fun j hj => P.turned (P.below (h4 j hj) hu) ⟨?_, a2⟩ (fun g' hg' => hg'.imp id fun e => by omega), ?_⟩
  · obtain ⟨-, x1, -, -, -, -, x2⟩ := k.box x hx
    exact (hs _ x2 (lt_heap x1)).trans x1
  · have hz := ((Below.refl W.heap.size u').grown hg hC (fun k' hk => (World.ownsRow.lt k.o3 k' hk).1)).size
    simpa [World.setCell] using hz
  · exact ((h5.trans (hu.mono h5.size)).grown hg hC (fun k' hk => (World.ownsRow.lt k.o3 k' hk).1)).setCell k.low _
end
end Go.Proofs.Ythehbphpchmdiaa.Elect
