/-
  bits.OnesCount64, and Count of a set, return how many bits are set, and leave the world as it was; any number from 0 to 2^64 less 1.
-/
import Derived.Test.YthehbphpchmdiaaRingWalks
import Derived.Test.YthehbphpchmdiaaRingOnes
namespace Go.Proofs.Ythehbphpchmdiaa.Ring
open Go.RowKit

theorem ones_any (x : Int) (w : World) (h0 : 0 ≤ x) (h1 : x < 18446744073709551616) :
    Calls Try.prog 40 #[.int .u64 x] w fun e w' => e = .returned (.int .i64 (count x)) ∧ w = w' := by
  go_enter Try.func40, Try.ntmps40
  go_wp2
  go_ret
  exact ⟨ret_int (ones_eq x h0 h1), rfl⟩

theorem count_any (x : Int) (w : World) (h0 : 0 ≤ x) (h1 : x < 18446744073709551616) :
    Calls Try.prog 37 #[.int .u64 x] w fun e w' => e = .returned (.int .i64 (count x)) ∧ w = w' := by
  go_enter Try.func37, Try.ntmps37
  go_wp2_with (go_at_call 40; refine (ones_any _ _ h0 h1).mono ?_; rintro e w' ⟨rfl, rfl⟩)
  go_ret
  exact ⟨rfl, rfl⟩
end Go.Proofs.Ythehbphpchmdiaa.Ring
