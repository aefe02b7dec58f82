/-
  What is asked of the program's clock; with it the live question of layer 8, ClockTells and ClockSkew return true for all ints.
-/
import Derived.Test.YtgbenfdffhcjiaaClockRef
import Derived.Deep.RegionHeld3
namespace Go.Proofs.Ytgbenfdffhcjiaa.Clock
open Go.RowKit
open _root_.Go.Proofs.Ytgbenfdffhcjiaa.Sat (fit add sub fit_lo fit_hi fit_self)

/-- An int. -/
def Num (x : Int) : Prop := -9223372036854775808 ≤ x ∧ x ≤ 9223372036854775807
theorem num_fit (x : Int) : Num (fit x) := by have := fit_lo x; have := fit_hi x; unfold Num; omega
theorem num_wf {a : Int} (h : (Lit.int .i64 a).wf = true) : Num a := by simp [Lit.wf, IntKind.min, IntKind.max, IntKind.signed, IntKind.bits] at h; unfold Num; omega

structure Way8 : Prop where
  passed : ∀ (a b c : Int) (w : World), Num a → Num b → Num c → Calls Try.prog 21 #[.int .i64 a, .int .i64 b, .int .i64 c] w fun e w' => e = .returned (.bool (cpassed a b c)) ∧ Below w.heap.size w w'
  left : ∀ (a b c : Int) (w : World), Num a → Num b → Num c → Calls Try.prog 29 #[.int .i64 a, .int .i64 b, .int .i64 c] w fun e w' => e = .returned (.int .i64 (cleft a b c)) ∧ Below w.heap.size w w'

theorem k1 : cread 50 (-9) 4 = 46 := by decide
theorem k2 : cread 50 3 4 = 53 := by decide
theorem k3 : cread 2 (-9) 4 = 0 := by decide
theorem k4 : cpassed 10 15 5 = true := by decide
theorem k5 : cpassed 10 14 5 = false := by decide
theorem k6 : cleft 10 12 5 = 3 := by decide

end Go.Proofs.Ytgbenfdffhcjiaa.Clock
