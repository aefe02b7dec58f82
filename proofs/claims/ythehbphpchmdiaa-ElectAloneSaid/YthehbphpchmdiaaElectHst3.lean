/-
  A hall of elections: one election is made anew, and its pointer stored.
-/
import Derived.Test.YthehbphpchmdiaaElectHst2
namespace Go.Proofs.Ythehbphpchmdiaa.Elect
open Go.RowKit
open _root_.Go.Proofs.Ythehbphpchmdiaa.Codec (lt_of_heap frozen_of heap_set below_new)
open _root_.Go.Proofs.Ythehbphpchmdiaa.Kit (Enc Lies Own At Laid cell_on lt_heap take_snoc below_drewN ints)

theorem row_set {w : World} {B g n c o s : Nat} {T : TypeId} {xs : List Value} (h : w.ownsRow B T s (.slice (some ⟨g, 0, none⟩) n c) n xs) (u : Value) : (w.setCell ⟨g, o, none⟩ u).ownsRow B T s (.slice (some ⟨g, 0, none⟩) n c) n (xs.set o u) := by
  refine ⟨by rw [List.length_set, h.1], ?_⟩
  rcases h.2 with ⟨e, -⟩ | ⟨g', cap, cur, e, h1, h2, h3, h4, h5, h6⟩
  · simp at e
  · simp only [Value.slice.injEq, Option.some.injEq, Addr.mk.injEq, and_true, true_and] at e
    obtain ⟨rfl, rfl⟩ := e
    exact .inr ⟨g, c, _, rfl, h1, heap_set g o _ _ h2, h3, h4, by simpa using h5, by rw [Array.toList_setIfInBounds, List.take_set, h6]⟩
theorem ptrs_set (x : Nat) : ∀ (m : List Nat) (i : Nat), Kit.cells ptrs (m.set i x) = (Kit.cells ptrs m).set i (.pointer (some ⟨x, 0, none⟩))
  | [], _ => by simp [Kit.cells]
  | y :: m, 0 => rfl
  | y :: m, i + 1 => by
    rw [List.set_cons_succ, Kit.cells_cons, ptrs_set x m i, Kit.cells_cons]
    rfl
section
variable {PW : Pw} {W u u1 : World} {hb : Nat} {qs : List Nat} {H : Hl} {bs : List (Nat × Obj)}
/-- An election is made anew, and stored. -/
theorem Hst.anew (P : Way17 PW) (h : Hst PW W hb qs H bs u) {i : Nat} (hi : i < H.n) {q : Nat} {e : El} (hq : PW (fun g => g < u.heap.size) u.heap.size u1 q e) (hu : Below u.heap.size u u1) {b o c : Nat} (hc : u.cell? ⟨hb, 1, none⟩ = some (.slice (some ⟨b, o, none⟩) H.n c)) :
    Hst PW W hb (qs.set i q) (H.move i e) bs (u1.setCell ⟨b, o + i, none⟩ (.pointer (some ⟨q, 0, none⟩))) := by
  obtain ⟨F, y1, y2, y3, h1, h2, h3, h4, h5⟩ := h
  have e1 : u.cell? ⟨hb, 1, none⟩ = some y1 := by rw [cell_of_row u hb 1 _ _ (0, 0) h1.hall]; rfl
  rw [e1, Option.some.injEq] at hc
  subst hc
  have hbF : F b := h1.f1 b rfl
  have hbl := (own_lt h1.o1 (g := b) rfl).2.1
  have hbw := (own_lt h1.o1 (g := b) rfl).1
  obtain ⟨a1, a2, a3, a4, -⟩ := h1.apart
  obtain rfl : o = 0 := by
    rcases h1.o1.2 with ⟨e, -⟩ | ⟨g', cap, cur, e, -⟩
    · simp at e
    · simp only [Value.slice.injEq, Option.some.injEq, Addr.mk.injEq, and_true] at e
      exact e.1.2
  rw [Nat.zero_add]
  have k := h1.on (Stays.below hu)
  have same : ∀ g, g ≠ b → (u1.setCell ⟨b, i, none⟩ (.pointer (some ⟨q, 0, none⟩))).heap[g]? = u1.heap[g]? := fun g hg => Below.heap_setCell _ _ _ _ hg
  have hz : (u1.setCell ⟨b, i, none⟩ (.pointer (some ⟨q, 0, none⟩))).heap.size = u1.heap.size := by simp [World.setCell]
  have hqlt := P.lt hq
  refine ⟨fun g => F g ∧ g < u.heap.size, .slice (some ⟨b, 0, none⟩) H.n c, y2, y3, ⟨?_, ⟨h1.fh, lt_heap h1.hall⟩, h1.low, ?_, ?_, ?_, ?_, ?_, ?_, ?_⟩, ?_, ?_, ?_, ?_⟩
  · rw [same hb (fun e => a1 (by rw [e]; rfl))]
    exact k.hall
  · unfold Kit.Own
    rw [ptrs_set, List.length_set]
    have hl : qs.length = H.n := h2
    rw [hl]
    have k1 := k.o1
    unfold Kit.Own at k1
    rw [hl] at k1
    exact row_set (o := i) k1 _
  · exact own_stays k.o2 fun g hg _ => same g (fun e => (a4 b rfl).1 (e ▸ hg))
  · exact own_stays k.o3 fun g hg _ => same g (fun e => (a4 b rfl).2 (e ▸ hg))
  · exact fun g hg => ⟨h1.f1 g hg, (own_lt h1.o1 hg).2.1⟩
  · exact fun g hg => ⟨h1.f2 g hg, (own_lt h1.o2 hg).2.1⟩
  · exact fun g hg => ⟨h1.f3 g hg, (own_lt h1.o3 hg).2.1⟩
  · intro x hx
    obtain ⟨b1, b2, b3, b4, b5, b6, b7⟩ := h1.box x hx
    exact ⟨⟨b1, lt_heap b2⟩, by rw [same _ (fun e => b5 (by rw [e]; rfl))]; exact (k.box x hx).2.1, b3, b4, b5, b6, b7⟩
  · rw [List.length_set]; exact h2
  · have lo : ∀ j, j < qs.length → qs.getD j 0 < u.heap.size := fun j hj => (P.lt (h4 j (by omega))).2
    have ge : ∀ j, j < qs.length → (qs.set i q).getD j 0 = if j = i then q else qs.getD j 0 := fun j hj => by
      simp only [List.getD, List.getElem?_set]
      by_cases e : i = j
      · subst e; simp [hj]
      · rw [if_neg e, if_neg (fun e' => e e'.symm)]
    intro j j' hj hj' he
    rw [List.length_set] at hj hj'
    rw [ge j hj, ge j' hj'] at he
    have := lo j hj
    have := lo j' hj'
    by_cases e1 : j = i <;> by_cases e2 : j' = i
    · omega
    · rw [if_pos e1, if_neg e2] at he; omega
    · rw [if_neg e1, if_pos e2] at he; omega
    · rw [if_neg e1, if_neg e2] at he
      exact h3 j j' hj hj' he
  · intro j hj
    have hj' : j < H.n := hj
    have sp : Spare F u1 (u1.setCell ⟨b, i, none⟩ (.pointer (some ⟨q, 0, none⟩))) := ⟨by omega, fun g hg _ => same g (fun e => hg (e ▸ hbF))⟩
    have sp2 : Spare (fun g => g < u.heap.size) u1 (u1.setCell ⟨b, i, none⟩ (.pointer (some ⟨q, 0, none⟩))) := ⟨by omega, fun g hg _ => same g (fun e => hg (e ▸ hbl))⟩
    show PW _ _ _ ((qs.set i q).getD j 0) (if j = i then e else H.el j)
    by_cases e1 : j = i
    · subst e1
      rw [if_pos rfl, show (qs.set j q).getD j 0 = q by simp [List.getD, show j < qs.length by omega]]
      exact P.turned (P.lower hq h5.size) sp2 fun g hg => .inl hg.2
    · rw [if_neg e1, show (qs.set i q).getD j 0 = qs.getD j 0 by simp only [List.getD, List.getElem?_set]; rw [if_neg (fun e' => e1 e'.symm)]]
      exact P.turned (P.below (h4 j hj') hu) sp fun g hg => .inl hg.1
  · exact (h5.trans (hu.mono h5.size)).setCell hbw _
end
end Go.Proofs.Ythehbphpchmdiaa.Elect
