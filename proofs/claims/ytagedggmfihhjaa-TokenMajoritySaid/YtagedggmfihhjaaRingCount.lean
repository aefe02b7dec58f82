/-
  bits.OnesCount64, and Count of a set, return how many bits are set, and leave the world as it was; any number from 0 to 2^64 less 1.
-/
import Derived.Test.YtagedggmfihhjaaRingWalks
import Derived.Test.YtagedggmfihhjaaRingOnes
namespace Go.Proofs.Ytagedggmfihhjaa.Ring
open Go.RowKit

theorem ones_any (x : Int) (w : World) (h0 : 0 ≤ x) (h1 : x < 18446744073709551616) :
    Calls Try.prog 31 #[.int .u64 x] w fun e w' => e = .returned (.int .i64 (count x)) ∧ w = w' := by
  go_enter Try.func31, Try.ntmps31
  go_wp2
  go_ret
  exact ⟨ret_int (ones_eq x h0 h1), rfl⟩

theorem count_any (x : Int) (w : World) (h0 : 0 ≤ x) (h1 : x < 18446744073709551616) :
    Calls Try.prog 16 #[.int .u64 x] w fun e w' => e = .returned (.int .i64 (count x)) ∧ w = w' := by
  go_enter Try.func16, Try.ntmps16
  go_wp2_with (go_at_call 31; refine (ones_any _ _ h0 h1).mono ?_; rintro e w' ⟨rfl, rfl⟩)
  go_ret
  exact ⟨rfl, rfl⟩
end Go.Proofs.Ytagedggmfihhjaa.Ring
