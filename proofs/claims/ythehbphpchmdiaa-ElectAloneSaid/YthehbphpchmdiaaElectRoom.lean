/-
  Words for annonalaw17's move: what stays where one election moves, rows of frames and ballots, the boxes of move.
-/
import Derived.Test.YthehbphpchmdiaaElectHst2
import Derived.Deep.QuietTactic
namespace Go.Proofs.Ythehbphpchmdiaa.Elect
open Go.RowKit
open _root_.Go.Proofs.Ythehbphpchmdiaa.Codec (lt_of_heap frozen_of heap_set below_new)
open _root_.Go.Proofs.Ythehbphpchmdiaa.Kit (Enc Lies Own At Laid cell_on lt_heap take_snoc below_drewN ints)

theorem infoR : (Try.prog.info? 40).map (fun i => (i.zero, i.size, i.bytes)) = some (some (.agg #[.bool false, .int .i64 0, .int .u64 0, .bool false]), 4, 32) := by kernel_rfl
theorem infoI : (Try.prog.info? 3).map (fun i => (i.zero, i.size, i.bytes)) = some (some (.int .i64 0), 1, 8) := by kernel_rfl
theorem getD_mem {l : List Int} {j : Nat} (hj : j < l.length) : l.getD j 0 ∈ l := by simp [List.getD, hj]
theorem cnt_yes {t j : Nat} {p : Nat → Bool} (h : t = (List.range j).countP p) (hp : p j = true) : t + 1 = (List.range (j + 1)).countP p := by
  rw [List.range_succ, List.countP_append, ← h]
  simp [hp]
theorem cnt_no {t j : Nat} {p : Nat → Bool} (h : t = (List.range j).countP p) (hp : p j = false) : t = (List.range (j + 1)).countP p := by
  rw [List.range_succ, List.countP_append, ← h]
  simp [hp]
theorem int_at {u : World} {p : Option Addr} {l : List Int} (h : Lies ints u p l) {j : Nat} (hj : j < l.length) : ∃ b o, p = some ⟨b, o, none⟩ ∧ u.cell? ⟨b, o + j, none⟩ = some (.int .i64 (l.getD j 0)) := by
  obtain ⟨b, o, e, ha⟩ := Kit.lies_at h hj
  refine ⟨b, o, e, ?_⟩
  have := ha 0 _ rfl
  rwa [show ints.n = 1 from rfl, Nat.mul_one] at this
/-- The boxes of move: a result, and what came. -/
abbrev boxes (b : Nat) (r : Rs) (kd who what : Int) : List (Nat × Obj) := [(b + 1, .cells #[.bool r.send, .int .i64 r.gen, .int .u64 r.bits, .bool r.won] 40), (b, .cells #[.int .u8 kd, .int .u8 who, .int .u16 what] 56)]
theorem rs_at {u : World} {p : Option Addr} {l : List Rs} (h : Lies resE u p l) {j : Nat} (hj : j < l.length) : ∃ b o, p = some ⟨b, o, none⟩ ∧ At resE u b (o + j * 4) (l.getD j noRs) := Kit.lies_at h hj
theorem cell_same {u w : World} {b o : Nat} (h : w.heap[b]? = u.heap[b]?) : w.cell? ⟨b, o, none⟩ = u.cell? ⟨b, o, none⟩ := by
  simp only [World.cell?, h]
theorem hst_kept {PW : Pw} (_ : Way17 PW) {W u : World} {hb : Nat} {qs : List Nat} {H : Hl} {bs : List (Nat × Obj)} (h : Hst PW W hb qs H bs u) {i : Nat} (hi : i < H.n) {R : Ending → Prop} {e : El} {N : Nat} {args : Array Value}
    (hc : ∀ F, PW F W.heap.size u (qs.getD i 0) (H.el i) → W.heap.size ≤ u.heap.size → Calls Try.prog N args u fun y w' => R y ∧ Moved PW F W.heap.size u (qs.getD i 0) e w') :
    Calls Try.prog N args u fun y w' => R y ∧ Hst PW W hb qs (H.move i e) bs w' ∧ (∀ o v, u.cell? ⟨hb, o, none⟩ = some v → w'.cell? ⟨hb, o, none⟩ = some v) ∧ ∀ b o c, u.cell? ⟨hb, 1, none⟩ = some (.slice (some ⟨b, o, none⟩) H.n c) → ∀ k v, u.cell? ⟨b, k, none⟩ = some v → w'.cell? ⟨b, k, none⟩ = some v := by
  obtain ⟨F, y1, y2, y3, h1, h2, h3, h4, h5⟩ := h
  refine (hc F (h4 i hi) h5.size).mono fun y w' ⟨hR, hm⟩ => ⟨hR, ⟨F, y1, y2, y3, h1.on hm.rest, h2, h3, fun k hk => ?_, h5.trans hm.below⟩, fun o v hv => ?_, fun b o c hc k v hv => ?_⟩
  · have hk' : k < H.n := hk
    show PW F W.heap.size w' (qs.getD k 0) (if k = i then e else H.el k)
    by_cases e1 : k = i
    · subst e1
      rw [if_pos rfl]
      exact hm.pw
    · rw [if_neg e1]
      exact hm.others _ _ (fun e2 => e1 (h3 _ _ (by omega) (by omega) e2)) (h4 k hk')
  · rw [cell_same (hm.rest.same hb h1.fh (lt_heap h1.hall))]
    exact hv
  · have e1 : u.cell? ⟨hb, 1, none⟩ = some y1 := by rw [cell_of_row u hb 1 _ _ (0, 0) h1.hall]; rfl
    rw [e1] at hc
    have hy : y1.ownBlock = some b := by simp only [Option.some.injEq] at hc; rw [hc]; rfl
    have hl : b < u.heap.size := World.block_lt_of_cell? _ _ hv
    rw [cell_same (hm.rest.same b (h1.f1 b hy) hl)]
    exact hv
theorem put4_far {u : World} {b g o : Nat} {r : Rs} {v : Value} (hg : ¬ g = b) (h : u.cell? ⟨g, o, none⟩ = some v) : (put4 u b r).cell? ⟨g, o, none⟩ = some v := by
  rw [cell_same (w := put4 u b r) (u := u) (by unfold put4; rw [Below.heap_setCell _ _ _ _ hg, Below.heap_setCell _ _ _ _ hg, Below.heap_setCell _ _ _ _ hg, Below.heap_setCell _ _ _ _ hg])]
  exact h
theorem Hst.rowbox {PW : Pw} {W u : World} {hb : Nat} {qs : List Nat} {H : Hl} {bs : List (Nat × Obj)} (h : Hst PW W hb qs H bs u) {b o n c g : Nat} {ob : Obj} (hc : u.cell? ⟨hb, 1, none⟩ = some (.slice (some ⟨b, o, none⟩) n c)) (hx : (g, ob) ∈ bs) : ¬ b = g := by
  obtain ⟨F, y1, y2, y3, h1, -⟩ := h
  have e1 : u.cell? ⟨hb, 1, none⟩ = some y1 := by rw [cell_of_row u hb 1 _ _ (0, 0) h1.hall]; rfl
  rw [e1, Option.some.injEq] at hc
  obtain ⟨-, -, -, -, k, -⟩ := h1.box _ hx
  intro e
  exact k (by rw [hc, e]; rfl)
theorem rs_four {u : World} {b o : Nat} {r : Rs} (h : At resE u b o r) : u.cell? ⟨b, o, none⟩ = some (.bool r.send) ∧ u.cell? ⟨b, o + 1, none⟩ = some (.int .i64 r.gen) ∧ u.cell? ⟨b, o + 2, none⟩ = some (.int .u64 r.bits) ∧ u.cell? ⟨b, o + 3, none⟩ = some (.bool r.won) := ⟨h 0 _ rfl, h 1 _ rfl, h 2 _ rfl, h 3 _ rfl⟩
/-- What is sent is not won. -/
theorem take_one (e : El) (g x : Int) : ¬ ((take e g x).2.send = true ∧ (take e g x).2.won = true) := by
  unfold take
  split
  · simp [noRs]
  · split
    · simp
    · split <;> simp [noRs]
end Go.Proofs.Ythehbphpchmdiaa.Elect
