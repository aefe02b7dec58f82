/-
  The document's numbers (annonaref01): Fit, Two, Sub, Add, Mul return what the plain functions of SatPlain give, and leave the world as it was; any ints, and for Add any slice of up to 100000 cells that are ints.
-/
import Derived.Test.YtgbenfdffhcjiaaChecked
import Derived.Test.YtgbenfdffhcjiaaSatPlain
import Derived.WalkKit
import Derived.ProofKit
import Derived.Outline
import Derived.Lib.Hide
import Derived.IntWalk
import Derived.Deep.QuietTactic
import Derived.BigQuiet
namespace Go.Proofs.Ytgbenfdffhcjiaa.Sat
open Go.RowKit

theorem rret_int {k : IntKind} {a b : Int} (h : a = b) : Ending.returned (.int k a) = .returned (.int k b) := by rw [h]
theorem rfit_any (x : Int) (w : World) :
    Calls Try.prog 30 #[.int .i64 x] w fun e w' => e = .returned (.int .i64 (fit x)) ∧ w = w' := by
  by_cases h1 : x < 0
  · go_enter Try.func30, Try.ntmps30
    go_wp2
    go_ret
    exact ⟨rret_int (by unfold fit; rw [if_pos h1]), rfl⟩
  · by_cases h2 : 4611686018427387904 < x
    · go_enter Try.func30, Try.ntmps30
      go_wp2
      go_ret
      exact ⟨rret_int (by unfold fit top; rw [if_neg (by omega), if_pos h2]), rfl⟩
    · go_enter Try.func30, Try.ntmps30
      go_wp2
      go_ret
      exact ⟨rret_int (by unfold fit top; rw [if_neg (by omega), if_neg (by omega)]), rfl⟩

theorem add_two (a b : Int) : add [a, b] = if 4611686018427387904 - fit a < fit b then 4611686018427387904 else fit a + fit b := by
  unfold add top; rw [sum_two]
  by_cases h : 4611686018427387904 < fit a + fit b
  · rw [if_pos h, if_pos (by omega)]
  · rw [if_neg h, if_neg (by omega)]
theorem rtwo_any (a b : Int) (w : World) :
    Calls Try.prog 31 #[.int .i64 a, .int .i64 b] w fun e w' => e = .returned (.int .i64 (add [a, b])) ∧ w = w' := by
  have a0 := fit_lo a; have a1 := fit_hi a; have b0 := fit_lo b; have b1 := fit_hi b
  have HE := Lib.hid (add_two a b)
  by_cases h : 4611686018427387904 - fit a < fit b
  · go_enter Try.func31, Try.ntmps31
    go_wp2_with (go_at_call 30; refine (rfit_any _ _).mono ?_; rintro e w' ⟨rfl, rfl⟩)
    go_ret
    exact ⟨rret_int (by rw [HE.out, if_pos h]), rfl⟩
  · go_enter Try.func31, Try.ntmps31
    go_wp2_with (go_at_call 30; refine (rfit_any _ _).mono ?_; rintro e w' ⟨rfl, rfl⟩)
    go_ret
    exact ⟨rret_int (by rw [HE.out, if_neg (by omega)]), rfl⟩



end Go.Proofs.Ytgbenfdffhcjiaa.Sat
