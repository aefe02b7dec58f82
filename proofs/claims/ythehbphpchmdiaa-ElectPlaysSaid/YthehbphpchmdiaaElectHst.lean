/-
  A hall of the program's elections: what holds of memory while it moves.
-/
import Derived.Test.YthehbphpchmdiaaElectMem2
namespace Go.Proofs.Ythehbphpchmdiaa.Elect
open Go.RowKit
open _root_.Go.Proofs.Ythehbphpchmdiaa.Codec (lt_of_heap frozen_of heap_set below_new)
open _root_.Go.Proofs.Ythehbphpchmdiaa.Kit (Enc Lies Own At Laid cell_on lt_heap take_snoc below_drewN ints)

/-- One election of a hall has moved. -/
def Hl.move (H : Hl) (i : Nat) (e : El) : Hl := ⟨H.n, fun k => if k = i then e else H.el k, H.frames, H.won⟩
/-- Each one is another. -/
def Apart (qs : List Nat) : Prop := ∀ i j, i < qs.length → j < qs.length → qs.getD i 0 = qs.getD j 0 → i = j
def Hst (PW : Pw) (W : World) (hb : Nat) (qs : List Nat) (H : Hl) (bs : List (Nat × Obj)) (u : World) : Prop := ∃ F y1 y2 y3, Hm F W.heap.size u hb H.n y1 y2 y3 qs H.frames H.won bs ∧ qs.length = H.n ∧ Apart qs ∧ (∀ k, k < H.n → PW F W.heap.size u (qs.getD k 0) (H.el k)) ∧ Below W.heap.size W u
section
variable {PW : Pw} {W u u' : World} {hb : Nat} {qs : List Nat} {H : Hl} {bs : List (Nat × Obj)}
theorem Hst.below (h : Hst PW W hb qs H bs u) : Below W.heap.size W u := by
  obtain ⟨_, _, _, _, _, _, _, _, h⟩ := h
  exact h
theorem Hst.on (P : Way17 PW) (h : Hst PW W hb qs H bs u) (hu : Below u.heap.size u u') : Hst PW W hb qs H bs u' := by
  obtain ⟨F, y1, y2, y3, h1, h2, h3, h4, h5⟩ := h
  exact ⟨F, y1, y2, y3, h1.on (Stays.below hu), h2, h3, fun k hk => P.below (h4 k hk) hu, h5.trans (hu.mono h5.size)⟩
theorem Hst.box (P : Way17 PW) (h : Hst PW W hb qs H bs u) (o : Obj) : Hst PW W hb qs H ((u.heap.size, o) :: bs) (u.alloc o) := by
  obtain ⟨F, y1, y2, y3, h1, h2, h3, h4, h5⟩ := h
  exact ⟨_, y1, y2, y3, h1.lay h5.size o, h2, h3, fun k hk => P.turned (h4 k hk) (Spare.below (lay u o)) (fun g hg => hg.imp id fun e => by omega), h5.trans ((lay u o).mono h5.size)⟩
theorem Hst.less {cs : List (Nat × Obj)} (h : Hst PW W hb qs H bs u) (hc : ∀ x ∈ cs, x ∈ bs) : Hst PW W hb qs H cs u := by
  obtain ⟨F, y1, y2, y3, h1, h2⟩ := h
  exact ⟨F, y1, y2, y3, h1.less hc, h2⟩
theorem Hst.obj (h : Hst PW W hb qs H bs u) {b : Nat} {o : Obj} (hx : (b, o) ∈ bs) : u.heap[b]? = some o ∧ b ≠ hb := by
  obtain ⟨F, y1, y2, y3, h1, h2⟩ := h
  exact ⟨(h1.box _ hx).2.1, (h1.box _ hx).2.2.1⟩
/-- A box is written. -/
theorem Hst.write {b : Nat} {o o' : Obj} (P : Way17 PW) (h : Hst PW W hb qs H ((b, o) :: bs) u) (hd : ∀ x ∈ bs, x.1 ≠ b) (hs : ∀ g, g ≠ b → g < u.heap.size → u'.heap[g]? = u.heap[g]?) (ho : u'.heap[b]? = some o') (hB : Below W.heap.size W u') (hz : u.heap.size ≤ u'.heap.size) : Hst PW W hb qs H ((b, o') :: bs) u' := by
  obtain ⟨F, y1, y2, y3, h1, h2, h3, h4, h5⟩ := h
  have hF := (h1.box (b, o) (by simp)).1
  exact ⟨F, y1, y2, y3, h1.write hd hs ho, h2, h3, fun k hk => P.turned (h4 k hk) (Spare.one hF hz hs) (fun _ hg => .inl hg), hB⟩
/-- The contracts of one election of it. -/
theorem hst_moved (_ : Way17 PW) (h : Hst PW W hb qs H bs u) {i : Nat} (hi : i < H.n) {R : Ending → Prop} {e : El} {N : Nat} {args : Array Value}
    (hc : ∀ F, PW F W.heap.size u (qs.getD i 0) (H.el i) → W.heap.size ≤ u.heap.size → Calls Try.prog N args u fun y w' => R y ∧ Moved PW F W.heap.size u (qs.getD i 0) e w') :
    Calls Try.prog N args u fun y w' => R y ∧ Hst PW W hb qs (H.move i e) bs w' := by
  obtain ⟨F, y1, y2, y3, h1, h2, h3, h4, h5⟩ := h
  refine (hc F (h4 i hi) h5.size).mono fun y w' ⟨hR, hm⟩ => ⟨hR, F, y1, y2, y3, h1.on hm.rest, h2, h3, fun k hk => ?_, h5.trans hm.below⟩
  have hk' : k < H.n := hk
  show PW F W.heap.size w' (qs.getD k 0) (if k = i then e else H.el k)
  by_cases e1 : k = i
  · subst e1
    rw [if_pos rfl]
    exact hm.pw
  · rw [if_neg e1]
    exact hm.others _ _ (fun e2 => e1 (h3 _ _ (by omega) (by omega) e2)) (h4 k hk')
theorem hst_promised (P : Way17 PW) (h : Hst PW W hb qs H bs u) {i : Nat} (hi : i < H.n) : Calls Try.prog 8 #[.pointer (some ⟨qs.getD i 0, 0, none⟩)] u fun y w' => y = .returned (.int .i64 (H.el i).promised) ∧ Hst PW W hb qs H bs w' ∧ Below u.heap.size u w' := by
  have hh := h
  obtain ⟨F, y1, y2, y3, h1, h2, h3, h4, h5⟩ := h
  exact (P.promised (h4 i hi)).mono fun y w' ⟨he, hb⟩ => ⟨he, hh.on P hb, hb⟩
/-- The cells of a hall. -/
theorem Hst.cells (h : Hst PW W hb qs H bs u) : ∃ p1 c1 p2 c2 p3 c3, u.cell? ⟨hb, 0, none⟩ = some (.int .i64 (H.n : Int)) ∧ u.cell? ⟨hb, 1, none⟩ = some (.slice p1 H.n c1) ∧ u.cell? ⟨hb, 2, none⟩ = some (.slice p2 H.frames.length c2) ∧ u.cell? ⟨hb, 3, none⟩ = some (.slice p3 H.won.length c3) ∧ Lies ptrs u p1 qs ∧ Lies resE u p2 H.frames ∧ Lies ints u p3 H.won ∧ ∀ o, u.frozen? ⟨hb, o, none⟩ = false := by
  obtain ⟨F, y1, y2, y3, h1, h2, -⟩ := h
  obtain ⟨p1, c1, rfl, l1⟩ := h1.o1.lies
  obtain ⟨p2, c2, rfl, l2⟩ := h1.o2.lies
  obtain ⟨p3, c3, rfl, l3⟩ := h1.o3.lies
  rw [h2] at h1
  have k := h1.hall
  exact ⟨p1, c1, p2, c2, p3, c3, by rw [cell_of_row u hb 0 _ _ (0, 0) k]; rfl, by rw [cell_of_row u hb 1 _ _ (0, 0) k]; rfl, by rw [cell_of_row u hb 2 _ _ (0, 0) k]; rfl, by rw [cell_of_row u hb 3 _ _ (0, 0) k]; rfl, l1, l2, l3, fun o => frozen_of k⟩
theorem ptr_at {p : Option Addr} (h : Lies ptrs u p qs) {j : Nat} (hj : j < qs.length) : ∃ b o, p = some ⟨b, o, none⟩ ∧ u.cell? ⟨b, o + j, none⟩ = some (.pointer (some ⟨qs.getD j 0, 0, none⟩)) := by
  obtain ⟨b, o, e, ha⟩ := Kit.lies_at h hj
  refine ⟨b, o, e, ?_⟩
  have := ha 0 _ rfl
  rwa [show ptrs.n = 1 from rfl, Nat.mul_one] at this
end
end Go.Proofs.Ythehbphpchmdiaa.Elect
