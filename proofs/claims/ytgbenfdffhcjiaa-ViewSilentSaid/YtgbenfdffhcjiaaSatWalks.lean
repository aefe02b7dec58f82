/-
  The calls of package sat return what the plain functions of SatPlain give, and leave the world as it was; any ints, and for Add any slice whose cells are ints.
-/
import Derived.Test.YtgbenfdffhcjiaaChecked
import Derived.Test.YtgbenfdffhcjiaaSatPlain
import Derived.WalkKit
import Derived.ProofKit
import Derived.Outline
import Derived.Lib.Hide
import Derived.IntWalk
import Derived.Deep.QuietTactic
import Derived.BigQuiet
namespace Go.Proofs.Ytgbenfdffhcjiaa.Sat
open Go.RowKit

theorem ret_int {k : IntKind} {a b : Int} (h : a = b) : Ending.returned (.int k a) = .returned (.int k b) := by rw [h]

theorem clamp_any (x lo hi : Int) (w : World) :
    Calls Try.prog 38 #[.int .i64 x, .int .i64 lo, .int .i64 hi] w fun e w' => e = .returned (.int .i64 (clamp x lo hi)) ∧ w = w' := by
  by_cases h1 : x < lo
  · go_enter Try.func38, Try.ntmps38
    go_wp2
    go_ret
    exact ⟨ret_int (by unfold clamp; rw [if_pos (Or.inl h1)]), rfl⟩
  · by_cases h2 : hi < lo
    · go_enter Try.func38, Try.ntmps38
      go_wp2
      go_ret
      exact ⟨ret_int (by unfold clamp; rw [if_pos (Or.inr h2)]), rfl⟩
    · by_cases h3 : hi < x
      · go_enter Try.func38, Try.ntmps38
        go_wp2
        go_ret
        exact ⟨ret_int (by unfold clamp; rw [if_neg (by omega), if_pos h3]), rfl⟩
      · go_enter Try.func38, Try.ntmps38
        go_wp2
        go_ret
        exact ⟨ret_int (by unfold clamp; rw [if_neg (by omega), if_neg (by omega)]), rfl⟩

theorem fit_any (x : Int) (w : World) :
    Calls Try.prog 37 #[.int .i64 x] w fun e w' => e = .returned (.int .i64 (fit x)) ∧ w = w' := by
  go_enter Try.func37, Try.ntmps37
  go_wp2_with (go_at_call 38; refine (clamp_any _ _ _ _).mono ?_; rintro e w' ⟨rfl, rfl⟩)
  go_ret
  exact ⟨ret_int (clamp_fit x), rfl⟩

theorem sub_any (a b : Int) (w : World) :
    Calls Try.prog 34 #[.int .i64 a, .int .i64 b] w fun e w' => e = .returned (.int .i64 (sub a b)) ∧ w = w' := by
  have a0 := fit_lo a; have a1 := fit_hi a; have b0 := fit_lo b; have b1 := fit_hi b
  go_enter Try.func34, Try.ntmps34
  go_wp2_with (go_at_call 37; refine (fit_any _ _).mono ?_; rintro e w' ⟨rfl, rfl⟩)
  go_ret
  exact ⟨rfl, rfl⟩




theorem sum_take (l : List Int) (k : Nat) (h : k < l.length) : sum (l.take (k + 1)) = sum (l.take k) + fit (l.getD k 0) := by
  rw [List.take_succ_eq_append_getElem h, sum_append]; simp [sum, h]
theorem sum_take_le (l : List Int) (k : Nat) : sum (l.take k) ≤ sum l := by
  have h := sum_append (l.take k) (l.drop k)
  rw [List.take_append_drop] at h
  have := sum_lo (l.drop k)
  omega

/-- Add of a slice whose cells are ints. -/
theorem add_any (l : List Int) (b c : Nat) (w : World) (hl : l.length ≤ 1000)
    (hc : ∀ k : Nat, k < l.length → w.cell? ⟨b, k, none⟩ = some (.int .i64 (l.getD k 0))) :
    Calls Try.prog 35 #[.slice (some ⟨b, 0, none⟩) l.length c] w fun e w' => e = .returned (.int .i64 (add l)) ∧ w = w' := by
  have HC := Lib.hid hc; clear hc
  go_enter Try.func35, Try.ntmps35
  go_wp2
  go_loop [3, 9] (fun s i => ∃ k : Nat, k ≤ l.length ∧ i = .int .i64 k ∧ s = .int .i64 (sum (l.take k)) ∧ sum (l.take k) ≤ 4611686018427387904) (fun _ i => l.length - (intOf i).toNat)
  case atStart => exact ⟨0, Nat.zero_le _, rfl, rfl, by simp [sum]⟩
  case round =>
    obtain ⟨k, hk, rfl, rfl, hs⟩ := hrel
    have hs0 := sum_lo (l.take k)
    by_cases hlt : k < l.length
    · have hcell := HC.out k hlt
      have f0 := fit_lo (l.getD k 0); have f1 := fit_hi (l.getD k 0)
      have hst := sum_take l k hlt
      have hle := sum_take_le l (k + 1)
      have HS := Lib.hid hst; clear hst
      have HL := Lib.hid hle; clear hle
      generalize l.getD k 0 = x at *
      by_cases ht : 4611686018427387904 - sum (l.take k) < fit x
      · go_wp2_with (go_at_call 37; refine (fit_any _ _).mono ?_; rintro e w' ⟨rfl, rfl⟩)
        go_ret
        exact ⟨ret_int (by have h1 := HS.out; have h2 := HL.out; unfold add; rw [if_pos (by unfold top; omega)]; rfl), rfl⟩
      · go_wp2_with (go_at_call 37; refine (fit_any _ _).mono ?_; rintro e w' ⟨rfl, rfl⟩)
        go_round
        case rel => exact ⟨k + 1, by omega, by go_num, by rw [HS.out], by rw [HS.out]; omega⟩
        case measure => simp [intOf]; omega
    · go_wp2
      go_ret
      exact ⟨ret_int (by unfold add; rw [List.take_of_length_le (by omega)] at hs ⊢; rw [if_neg (by unfold top; omega)]), rfl⟩
/-- Add of two numbers, of three, in a new block. -/
theorem add2 (x y : Int) (w : World) (b : Nat) (hb : b = w.heap.size) :
    Calls Try.prog 35 #[.slice (some ⟨b, 0, none⟩) 2 2] (w.alloc (.cells #[.int .i64 x, .int .i64 y] 3)) fun e w' => e = .returned (.int .i64 (add [x, y])) ∧ w.alloc (.cells #[.int .i64 x, .int .i64 y] 3) = w' := by
  subst hb
  refine add_any [x, y] _ 2 _ (by simp) fun k hk => ?_
  rw [World.cell?_alloc_new]
  match k, hk with
  | 0, _ => rfl
  | 1, _ => rfl
theorem add3 (x y z : Int) (w : World) (b : Nat) (hb : b = w.heap.size) :
    Calls Try.prog 35 #[.slice (some ⟨b, 0, none⟩) 3 3] (w.alloc (.cells #[.int .i64 x, .int .i64 y, .int .i64 z] 3)) fun e w' => e = .returned (.int .i64 (add [x, y, z])) ∧ w.alloc (.cells #[.int .i64 x, .int .i64 y, .int .i64 z] 3) = w' := by
  subst hb
  refine add_any [x, y, z] _ 3 _ (by simp) fun k hk => ?_
  rw [World.cell?_alloc_new]
  match k, hk with
  | 0, _ => rfl
  | 1, _ => rfl
  | 2, _ => rfl
end Go.Proofs.Ytgbenfdffhcjiaa.Sat
