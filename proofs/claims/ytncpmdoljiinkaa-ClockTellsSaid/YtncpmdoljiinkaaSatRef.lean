/-
  The document's numbers (annonaref01): Fit, Two, Sub, Add, Mul return what the plain functions of SatPlain give, and leave the world as it was; any ints, and for Add any slice of up to 100000 cells that are ints.
-/
import Derived.Test.YtncpmdoljiinkaaChecked
import Derived.Test.YtncpmdoljiinkaaSatPlain
import Derived.WalkKit
import Derived.ProofKit
import Derived.Outline
import Derived.Lib.Hide
import Derived.IntWalk
import Derived.Deep.QuietTactic
import Derived.BigQuiet
namespace Go.Proofs.Ytncpmdoljiinkaa.Sat
open Go.RowKit

theorem rret_int {k : IntKind} {a b : Int} (h : a = b) : Ending.returned (.int k a) = .returned (.int k b) := by rw [h]
theorem rfit_any (x : Int) (w : World) :
    Calls Try.prog 12 #[.int .i64 x] w fun e w' => e = .returned (.int .i64 (fit x)) ∧ w = w' := by
  by_cases h1 : x < 0
  · go_enter Try.func12, Try.ntmps12
    go_wp2
    go_ret
    exact ⟨rret_int (by unfold fit; rw [if_pos h1]), rfl⟩
  · by_cases h2 : 4611686018427387904 < x
    · go_enter Try.func12, Try.ntmps12
      go_wp2
      go_ret
      exact ⟨rret_int (by unfold fit top; rw [if_neg (by omega), if_pos h2]), rfl⟩
    · go_enter Try.func12, Try.ntmps12
      go_wp2
      go_ret
      exact ⟨rret_int (by unfold fit top; rw [if_neg (by omega), if_neg (by omega)]), rfl⟩

theorem add_two (a b : Int) : add [a, b] = if 4611686018427387904 - fit a < fit b then 4611686018427387904 else fit a + fit b := by
  unfold add top; rw [sum_two]
  by_cases h : 4611686018427387904 < fit a + fit b
  · rw [if_pos h, if_pos (by omega)]
  · rw [if_neg h, if_neg (by omega)]
theorem rtwo_any (a b : Int) (w : World) :
    Calls Try.prog 13 #[.int .i64 a, .int .i64 b] w fun e w' => e = .returned (.int .i64 (add [a, b])) ∧ w = w' := by
  have a0 := fit_lo a; have a1 := fit_hi a; have b0 := fit_lo b; have b1 := fit_hi b
  have HE := Lib.hid (add_two a b)
  by_cases h : 4611686018427387904 - fit a < fit b
  · go_enter Try.func13, Try.ntmps13
    go_wp2_with (go_at_call 12; refine (rfit_any _ _).mono ?_; rintro e w' ⟨rfl, rfl⟩)
    go_ret
    exact ⟨rret_int (by rw [HE.out, if_pos h]), rfl⟩
  · go_enter Try.func13, Try.ntmps13
    go_wp2_with (go_at_call 12; refine (rfit_any _ _).mono ?_; rintro e w' ⟨rfl, rfl⟩)
    go_ret
    exact ⟨rret_int (by rw [HE.out, if_neg (by omega)]), rfl⟩

theorem sub_if (a b : Int) : sub a b = if fit a < fit b then 0 else fit a - fit b := by
  have a1 := fit_hi a; have b0 := fit_lo b; have b1 := fit_hi b
  unfold sub
  by_cases h : fit a < fit b
  · rw [if_pos h]; generalize fit a = x at *; generalize fit b = y at *; unfold fit; rw [if_pos (by omega)]
  · rw [if_neg h, fit_self (by omega) (by omega)]
theorem rsub_any (a b : Int) (w : World) :
    Calls Try.prog 19 #[.int .i64 a, .int .i64 b] w fun e w' => e = .returned (.int .i64 (sub a b)) ∧ w = w' := by
  have a0 := fit_lo a; have a1 := fit_hi a; have b0 := fit_lo b; have b1 := fit_hi b
  have HE := Lib.hid (sub_if a b)
  by_cases h : fit a < fit b
  · go_enter Try.func19, Try.ntmps19
    go_wp2_with (go_at_call 12; refine (rfit_any _ _).mono ?_; rintro e w' ⟨rfl, rfl⟩)
    go_ret
    exact ⟨rret_int (by rw [HE.out, if_pos h]), rfl⟩
  · have h' : fit b ≤ fit a := by omega
    go_enter Try.func19, Try.ntmps19
    go_wp2_with (go_at_call 12; refine (rfit_any _ _).mono ?_; rintro e w' ⟨rfl, rfl⟩)
    go_ret
    exact ⟨rret_int (by rw [HE.out, if_neg (by omega)]), rfl⟩

theorem radd_take (l : List Int) (k : Nat) (h : k < l.length) : add (l.take (k + 1)) = add [add (l.take k), l.getD k 0] := by
  have e : l.take (k + 1) = l.take k ++ [l.getD k 0] := by
    rw [List.take_succ_eq_append_getElem h]
    simp [List.getD, h]
  have h1 : sum (l.take (k + 1)) = sum (l.take k) + fit (l.getD k 0) := by rw [e, sum_append]; simp [sum]
  have h2 := sum_two (add (l.take k)) (l.getD k 0)
  rw [fit_add] at h2
  have h3 := fit_lo (l.getD k 0)
  unfold add at h2 ⊢
  rw [h1, h2]
  unfold top
  repeat' split
  all_goals omega
theorem radd_any (l : List Int) (p : Option Addr) (c : Nat) (w : World) (hl : l.length ≤ 100000)
    (hc : ∀ k : Nat, k < l.length → ∃ b o, p = some ⟨b, o, none⟩ ∧ w.cell? ⟨b, o + k, none⟩ = some (.int .i64 (l.getD k 0))) :
    Calls Try.prog 14 #[.slice p l.length c] w fun e w' => e = .returned (.int .i64 (add l)) ∧ w = w' := by
  have HC := Lib.hid hc; clear hc
  go_enter Try.func14, Try.ntmps14
  go_wp2
  go_loop [3, 4] (fun s i => ∃ k : Nat, k ≤ l.length ∧ i = .int .i64 (k : Int) ∧ s = .int .i64 (add (l.take k))) (fun _ i => l.length - (intOf i).toNat)
  case atStart => exact ⟨0, Nat.zero_le _, rfl, rfl⟩
  case round =>
    obtain ⟨k, hk, rfl, rfl⟩ := hrel
    by_cases hlt : k < l.length
    · have hlt' : (k : Int) < (l.length : Int) := by omega
      obtain ⟨b, o, rfl, hcell⟩ := HC.out k hlt
      have HS := Lib.hid (radd_take l k hlt)
      generalize l.getD k 0 = x at *
      go_wp2_with (go_at_call 13; refine (rtwo_any _ _ _).mono ?_; rintro e w' ⟨rfl, rfl⟩)
      go_round
      case rel => exact ⟨k + 1, by omega, by go_num, by rw [HS.out]⟩
      case measure => simp only [intOf]; omega
    · have hke : k = l.length := by omega
      subst hke
      rw [List.take_length]
      go_wp2
      go_ret
      exact ⟨rfl, rfl⟩

end Go.Proofs.Ytncpmdoljiinkaa.Sat
