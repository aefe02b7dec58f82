/-
  The program's mayBe, promise, win, Raise, Promised, Round, Standing, and of none; any election that may be.
-/
import Derived.Test.YthehbphpchmdiaaElMem
import Derived.Deep.RegionHeld3
import Derived.Deep.QuietTactic
import Derived.BigQuiet
namespace Go.Proofs.Ythehbphpchmdiaa.Elect
open Go.RowKit
open _root_.Go.Proofs.Ythehbphpchmdiaa.Codec (lt_of_heap frozen_of heap_set below_new)
open _root_.Go.Proofs.Ythehbphpchmdiaa.Kit (cell_on lt_heap below_drewN)
open _root_.Go.Proofs.Ythehbphpchmdiaa.Ring (has put okRing all meet count maj only all_lo all_hi meet_lo meet_hi)

set_option maxRecDepth 100000 in
theorem mayBe_any (x : Int) (w : World) : Calls Try.prog 18 #[.int .i64 x] w fun e w' => e = .returned (.bool (in40 x)) ∧ w' = w := by
  have hc : (0 ≤ x ∧ in40 x = decide (x ≤ 1099511627776)) ∨ (¬ 0 ≤ x ∧ in40 x = false) := by
    unfold in40
    by_cases h : 0 ≤ x <;> simp [h]
  rcases hc with ⟨h, e⟩ | ⟨h, e⟩
  · have HE := Lib.hid e
    clear e
    go_enter Try.func18, Try.ntmps18
    go_wp2
    go_ret
    exact ⟨by rw [HE.out]; rfl, rfl⟩
  · have HE := Lib.hid e
    clear e
    go_enter Try.func18, Try.ntmps18
    go_wp2
    go_ret
    exact ⟨by rw [HE.out]; rfl, rfl⟩
section
variable {w : World} {q : Nat} {e : El}
set_option maxRecDepth 100000 in
theorem promise_any (h : Pb w q e) (b : Int) : Calls Try.prog 26 #[.pointer (some ⟨q, 0, none⟩), .int .i64 b] w fun x w' => x = .returned (.tuple #[]) ∧ PStep w q (ppromise e b) w' := by
  have HP := Lib.hid (fun u => Ring.with_any 0 e.node u (by omega) (by omega))
  have HS := Lib.hid ((((PStep.same h (Below.refl _ _)).set (o := 2) (x := .int .i64 b) rfl (e' := ⟨e.n, e.node, b, e.round, e.ballot, e.bits⟩) rfl).set (o := 4) (x := .int .i64 0) rfl (e' := ⟨e.n, e.node, b, e.round, 0, e.bits⟩) rfl).set (o := 5) (x := .int .u64 (put 0 e.node)) rfl (e' := ppromise e b) rfl)
  obtain ⟨k0, k1, k2, k3, k4, k5, f0⟩ := h.cell
  generalize ppromise e b = e2 at *
  generalize put 0 e.node = z at *
  clear h
  go_enter Try.func26, Try.ntmps26
  go_wp2_with (go_at_call 36; (with_reducible refine (HP.out _).mono ?_); rintro x u1 ⟨rfl, rfl⟩)
  go_end0
  exact ⟨rfl, HS.out⟩
set_option maxRecDepth 100000 in
set_option maxHeartbeats 4000000 in
theorem win_any (h : Pb w q e) (hn : 1 ≤ e.n ∧ e.n ≤ 64) (hb : Set64 e.bits) : Calls Try.prog 27 #[.pointer (some ⟨q, 0, none⟩)] w fun x w' => x = .returned (.bool (pwon e)) ∧ PStep w q (pwin e) w' := by
  have HS := Lib.hid (fun u (hu : Below w.heap.size w u) => PStep.same h hu)
  by_cases h0 : e.ballot = 0
  · rw [pwin_zero h0, pwon_zero h0]
    obtain ⟨k0, k1, k2, k3, k4, k5, f0⟩ := h.cell
    rw [h0] at k4
    clear h0 h hb
    have hz : ((0 : Int) == 0) = true := rfl
    go_enter Try.func27, Try.ntmps27
    go_wp2
    go_quiet (fail)
    go_wp2
    go_ret
    exact ⟨rfl, HS.out _ (below_drewN _ _)⟩
  · have hbz : (e.ballot == 0) = false := by simp [h0]
    rw [pwon_some h0, pwin_some h0]
    have HW := Lib.hid (fun u (hu : Below w.heap.size w u) => (PStep.same h hu).set (o := 4) (x := .int .i64 0) rfl (e' := ⟨e.n, e.node, e.promised, e.round, 0, e.bits⟩) rfl)
    have HA := Lib.hid (fun u => (Ring.all_any e.n u).mono (R' := fun x w' => x = .returned (.int .u64 (all e.n)) ∧ w' = u) fun x w' h => ⟨h.1, h.2.symm⟩)
    have hm := maj_count hn
    have HMJ := Lib.hid (fun u => (Ring.maj_any e.n u (by omega)).mono (R' := fun x w' => x = .returned (.int .i64 (maj e.n)) ∧ w' = u) fun x w' h => ⟨h.1, h.2.symm⟩)
    have hmt : bits .and .u64 e.bits (all e.n) = meet e.bits (all e.n) := Ring.and_meet _ _ hb.1 hb.2 (all_lo _) (all_hi _)
    have HC := Lib.hid (fun u => (Ring.count_any (meet e.bits (all e.n)) u (meet_lo _ _) (meet_hi _ _ (all_hi _))).mono (R' := fun x w' => x = .returned (.int .i64 (count (meet e.bits (all e.n)))) ∧ w' = u) fun x w' h => ⟨h.1, h.2.symm⟩)
    have HCell := Lib.hid (fun u (hu : Below w.heap.size w u) => (h.below hu).cell)
    have HWN := Lib.hid (show wins e = if majority e = true then ⟨e.n, e.node, e.promised, e.round, 0, e.bits⟩ else e from rfl)
    obtain ⟨k0, k1, k2, k3, k4, k5, f0⟩ := h.cell
    generalize wins e = e2 at *
    generalize majority e = m at *
    generalize meet e.bits (all e.n) = mt at *
    generalize all e.n = al at *
    generalize count mt = ct at *
    generalize maj e.n = mj at *
    clear h hb h0
    cases m
    · have HW2 := Lib.hid (show e2 = e by rw [HWN.out]; rfl)
      have hm' : ct < mj := by simpa using hm
      clear hm HWN
      go_enter Try.func27, Try.ntmps27
      go_wp2
      go_quiet (first
        | ((go_at_call 16; exact Calls.quiet_of_same (HA.out _)))
        | ((go_at_call 37; exact Calls.quiet_of_same (HC.out _)))
        | ((go_at_call 28; exact Calls.quiet_of_same (HMJ.out _))))
      go_wp2
      go_ret
      exact ⟨rfl, by rw [HW2.out]; exact HS.out _ (below_drewN _ _)⟩
    · have HW2 := Lib.hid (show e2 = ⟨e.n, e.node, e.promised, e.round, 0, e.bits⟩ by rw [HWN.out]; rfl)
      have hm' : ¬ ct < mj := by simpa using hm
      clear hm HWN
      go_enter Try.func27, Try.ntmps27
      go_wp2
      go_quiet (first
        | ((go_at_call 16; exact Calls.quiet_of_same (HA.out _)))
        | ((go_at_call 37; exact Calls.quiet_of_same (HC.out _)))
        | ((go_at_call 28; exact Calls.quiet_of_same (HMJ.out _))))
      have HBq := Lib.hid (below_drewN w nq)
      generalize w.drewN nq = W at *
      obtain ⟨k0, k1, k2, k3, k4, k5, f0⟩ := HCell.out _ HBq.out
      clear HCell
      go_wp2
      go_ret
      exact ⟨rfl, by rw [HW2.out]; exact HW.out _ HBq.out⟩
set_option maxRecDepth 100000 in
theorem praise_any (h : Pb w q e) (gen : Int) : Calls Try.prog 14 #[.pointer (some ⟨q, 0, none⟩), .int .i64 gen] w fun x w' => x = .returned (.bool (praise e gen).2) ∧ PStep w q (praise e gen).1 w' := by
  have HI := Lib.hid (fun u => mayBe_any gen u)
  have HS := Lib.hid (PStep.same h (Below.refl _ _))
  obtain ⟨k0, k1, k2, k3, k4, k5, f0⟩ := h.cell
  by_cases h1 : gen ≤ e.promised
  · have HR := Lib.hid (show praise e gen = (e, false) by unfold praise; rw [if_pos (.inl h1)])
    clear h
    go_enter Try.func14, Try.ntmps14
    go_wp2
    go_ret
    exact ⟨by rw [HR.out]; rfl, by rw [HR.out]; exact HS.out⟩
  · cases hi : in40 gen
    · have HR := Lib.hid (show praise e gen = (e, false) by unfold praise; rw [if_pos (.inr hi)])
      rw [hi] at HI
      clear h hi
      go_enter Try.func14, Try.ntmps14
      go_wp2_with (go_at_call 18; (with_reducible refine (HI.out _).mono ?_); rintro x w1 ⟨rfl, rfl⟩)
      go_ret
      exact ⟨by rw [HR.out]; rfl, by rw [HR.out]; exact HS.out⟩
    · have HR := Lib.hid (show praise e gen = (ppromise e gen, true) by unfold praise; rw [if_neg (by rw [hi]; simp; omega)])
      have HP := Lib.hid (promise_any h gen)
      rw [hi] at HI
      clear h hi
      go_enter Try.func14, Try.ntmps14
      go_wp2_with (first
        | (go_at_call 18; (with_reducible refine (HI.out _).mono ?_); rintro x w1 ⟨rfl, rfl⟩)
        | (go_at_call 26; (with_reducible refine HP.out.mono ?_); rintro x w1 ⟨rfl, hp⟩; have HQ := Lib.hid hp; clear hp))
      go_ret
      exact ⟨by rw [HR.out]; rfl, by rw [HR.out]; exact HQ.out⟩
theorem ppromised_any (h : Pb w q e) : Calls Try.prog 8 #[.pointer (some ⟨q, 0, none⟩)] w fun x w' => x = .returned (.int .i64 e.promised) ∧ Below w.heap.size w w' := by
  obtain ⟨k0, k1, k2, k3, k4, k5, f0⟩ := h.cell
  go_enter Try.func8, Try.ntmps8
  go_wp2
  go_ret
  exact ⟨rfl, Below.refl _ _⟩
theorem pround_any (h : Pb w q e) : Calls Try.prog 10 #[.pointer (some ⟨q, 0, none⟩)] w fun x w' => x = .returned (.int .i64 e.round) ∧ Below w.heap.size w w' := by
  obtain ⟨k0, k1, k2, k3, k4, k5, f0⟩ := h.cell
  go_enter Try.func10, Try.ntmps10
  go_wp2
  go_ret
  exact ⟨rfl, Below.refl _ _⟩
theorem pstanding_any (h : Pb w q e) : Calls Try.prog 11 #[.pointer (some ⟨q, 0, none⟩)] w fun x w' => x = .returned (.int .i64 e.ballot) ∧ Below w.heap.size w w' := by
  obtain ⟨k0, k1, k2, k3, k4, k5, f0⟩ := h.cell
  go_enter Try.func11, Try.ntmps11
  go_wp2
  go_ret
  exact ⟨rfl, Below.refl _ _⟩
end
theorem pnpromised_any (w : World) : Calls Try.prog 8 #[.pointer none] w fun x w' => x = .returned (.int .i64 0) ∧ Below w.heap.size w w' := by
  go_enter Try.func8, Try.ntmps8
  go_wp2
  go_ret
  exact ⟨rfl, Below.refl _ _⟩
theorem pnround_any (w : World) : Calls Try.prog 10 #[.pointer none] w fun x w' => x = .returned (.int .i64 0) ∧ Below w.heap.size w w' := by
  go_enter Try.func10, Try.ntmps10
  go_wp2
  go_ret
  exact ⟨rfl, Below.refl _ _⟩
theorem pnstanding_any (w : World) : Calls Try.prog 11 #[.pointer none] w fun x w' => x = .returned (.int .i64 0) ∧ Below w.heap.size w w' := by
  go_enter Try.func11, Try.ntmps11
  go_wp2
  go_ret
  exact ⟨rfl, Below.refl _ _⟩
theorem pnraise_any (gen : Int) (w : World) : Calls Try.prog 14 #[.pointer none, .int .i64 gen] w fun x w' => x = .returned (.bool false) ∧ Below w.heap.size w w' := by
  go_enter Try.func14, Try.ntmps14
  go_wp2
  go_ret
  exact ⟨rfl, Below.refl _ _⟩
end Go.Proofs.Ythehbphpchmdiaa.Elect
