/-
  The statements' live question about package ring answers true, and of what lay nothing has turned; no condition.
-/
import Derived.Test.YtblmmijjabahiaaRingNthWalk
namespace Go.Proofs.Ytblmmijjabahiaa.Ring
open Go.RowKit

theorem next_acc (x m i r : Int) (w0 w : World) (hb : Below w0.heap.size w0 w) (hx0 : 0 ≤ x) (hx1 : x < 18446744073709551616) (hr : next x m i = r) :
    Calls Try.prog 29 #[.int .u64 x, .int .i64 m, .int .i64 i] w fun e W' => e = .returned (.int .i64 r) ∧ Below w0.heap.size w0 W' := by
  subst hr
  exact (next_any x m i w hx0 hx1).mono fun e w' h => ⟨h.1, hb.trans (h.2.mono hb.size)⟩

theorem nodes_acc (x : Int) (k : Nat) (w0 w : World) (hb : Below w0.heap.size w0 w) (hx0 : 0 ≤ x) (hx1 : x < 18446744073709551616) (hk : (nodes x).length = k + 1) :
    Calls Try.prog 21 #[.int .u64 x] w fun e W' => ∃ g cap, e = .returned (.slice (some ⟨g, 0, none⟩) (k + 1) cap) ∧ Below w0.heap.size w0 W' := by
  refine (nodes_any x w hx0 hx1).mono ?_
  rintro e w' ⟨v, rfl, hown, hb'⟩
  rw [hk] at hown
  obtain ⟨g, cap, rfl⟩ := ownsRow_succ hown
  exact ⟨g, cap, rfl, hb.trans (hb'.mono hb.size)⟩

theorem nth479 : nth [4, 9, 7] 2 = 7 := by
  have e : srt [4, 9, 7] = [4, 7, 9] := by unfold srt; simp [List.mergeSort, List.MergeSort.Internal.splitInTwo]
  unfold nth; rw [e]; decide

theorem nth_alive (w : World) (b : Nat) (hb : b = w.heap.size) :
    Calls Try.prog 37 #[.slice (some ⟨b, 0, none⟩) 3 3, .int .i64 2] (w.alloc (.cells #[.int .i64 4, .int .i64 9, .int .i64 7] 3)) fun e w' => e = .returned (.tuple #[.int .i64 7, .bool true]) ∧ Below w.heap.size w w' := by
  subst hb
  have h := nth_in w.heap.size 0 3 [4, 9, 7] 2 (w.alloc (.cells #[.int .i64 4, .int .i64 9, .int .i64 7] 3)) (by simp) (by decide) (by decide) (fun k hk => by
    rw [Nat.zero_add, World.cell?_alloc_new]
    match k, hk with
    | 0, _ => rfl
    | 1, _ => rfl
    | 2, _ => rfl)
  rw [nth479] at h
  refine h.mono fun e w' h => ⟨h.1, ?_⟩
  have h0 : Below w.heap.size w (w.alloc (.cells #[.int .i64 4, .int .i64 9, .int .i64 7] 3)) := (Below.refl _ w).alloc (Nat.le_refl _) _
  exact h0.trans (h.2.mono (by simp))

theorem all5 (w : World) : Calls Try.prog 31 #[.int .i64 5] w fun e w' => e = .returned (.int .u64 31) ∧ w = w' := by
  have h := all_any 5 w; rwa [show all 5 = 31 by decide +kernel] at h
theorem without1 (w : World) : Calls Try.prog 27 #[.int .u64 31, .int .i64 1] w fun e w' => e = .returned (.int .u64 29) ∧ w = w' := by
  have h := without_any 31 1 w (by decide) (by decide); rwa [show cut 31 1 = 29 by decide +kernel] at h
theorem with1 (w : World) : Calls Try.prog 25 #[.int .u64 29, .int .i64 1] w fun e w' => e = .returned (.int .u64 31) ∧ w = w' := by
  have h := with_any 29 1 w (by decide) (by decide); rwa [show put 29 1 = 31 by decide +kernel] at h
theorem has1 (w : World) : Calls Try.prog 23 #[.int .u64 29, .int .i64 1] w fun e w' => e = .returned (.bool false) ∧ w = w' := by
  have h := has_any 29 1 w (by decide) (by decide); rwa [show has 29 1 = false by decide +kernel] at h
theorem count29 (w : World) : Calls Try.prog 35 #[.int .u64 29] w fun e w' => e = .returned (.int .i64 4) ∧ w = w' := by
  have h := count_any 29 w (by decide) (by decide); rwa [show count 29 = 4 by decide +kernel] at h
theorem maj4 (w : World) : Calls Try.prog 33 #[.int .i64 4] w fun e w' => e = .returned (.int .i64 3) ∧ w = w' := by
  have h := maj_any 4 w (by decide); rwa [show maj 4 = 3 by decide +kernel] at h
theorem next0 : next 29 5 0 = 2 := by decide +kernel
theorem next4 : next 29 5 4 = 0 := by decide +kernel
theorem nodes29 : (nodes 29).length = 3 + 1 := by decide +kernel

set_option maxRecDepth 100000 in
set_option maxHeartbeats 1000000 in
theorem alive_any (w : World) :
    Calls Try.prog 36 #[] w fun e w' => e = .returned (.bool true) ∧ Below w.heap.size w w' := by
  go_enter Try.func36, Try.ntmps36
  go_wp2_with (first
    | (go_at_call 31; refine (all5 _).mono ?_; rintro e w' ⟨rfl, rfl⟩)
    | (go_at_call 27; refine (without1 _).mono ?_; rintro e w' ⟨rfl, rfl⟩)
    | (go_at_call 37; (with_reducible refine (nth_alive _ _ ?hb).mono ?_); (case hb => simp); rintro e w1 ⟨rfl, hb⟩)
    | (go_at_call 29; first | (with_reducible refine (next_acc 29 5 0 2 _ _ hb (by decide) (by decide) next0).mono ?_) | (with_reducible refine (next_acc 29 5 4 0 _ _ hb (by decide) (by decide) next4).mono ?_)
       clear hb; rintro e w1 ⟨rfl, hb⟩)
    | (go_at_call 35; refine (count29 _).mono ?_; rintro e w' ⟨rfl, rfl⟩)
    | (go_at_call 23; refine (has1 _).mono ?_; rintro e w' ⟨rfl, rfl⟩)
    | (go_at_call 25; refine (with1 _).mono ?_; rintro e w' ⟨rfl, rfl⟩)
    | (go_at_call 21; (with_reducible refine (nodes_acc 29 3 _ _ hb (by decide) (by decide) nodes29).mono ?_); clear hb; rintro e w1 ⟨g, cap, rfl, hb⟩)
    | (go_at_call 33; refine (maj4 _).mono ?_; rintro e w' ⟨rfl, rfl⟩))
  go_ret
  exact ⟨rfl, hb⟩
end Go.Proofs.Ytblmmijjabahiaa.Ring
