/-
  The plain calls of package ring (only, Has, With, Without, isRing, All, Majority) and of the document's answers (Has, With, Without, Right, All, Majority) return what the plain functions of RingPlain give, and leave the world as it was; any ints, any set from 0 to 2^64 less 1.
-/
import Derived.Test.YtcnnepmhdccipaaChecked
import Derived.Test.YtcnnepmhdccipaaMgA
import Derived.WalkKit
import Derived.ProofKit
import Derived.Outline
import Derived.Lib.Hide
import Derived.IntWalk
namespace Go.Proofs.Ytcnnepmhdccipaa.Ring
open Go.RowKit

theorem ret_int {k : IntKind} {a b : Int} (h : a = b) : Ending.returned (.int k a) = .returned (.int k b) := by rw [h]
theorem ret_bool {a b : Bool} (h : a = b) : Ending.returned (.bool a) = .returned (.bool b) := by rw [h]






theorem right_any (n : Int) (w : World) :
    Calls Try.prog 54 #[.int .i64 n] w fun e w' => e = .returned (.bool (okRing n)) ∧ w = w' := by
  by_cases h : 1 ≤ n
  · go_enter Try.func54, Try.ntmps54
    go_wp2
    go_ret
    exact ⟨ret_bool (by unfold okRing; rw [Bool.eq_iff_iff]; simp; omega), rfl⟩
  · go_enter Try.func54, Try.ntmps54
    go_wp2
    go_ret
    exact ⟨ret_bool (by unfold okRing; rw [Bool.eq_iff_iff]; simp; omega), rfl⟩






end Go.Proofs.Ytcnnepmhdccipaa.Ring
