/-
  The document's Read, Passed, Left (annonaref08) of any ints return what the plain functions of ClockPlain give, and leave the world as it was.
-/
import Derived.Test.YtgbenfdffhcjiaaClockPlain
import Derived.Test.YtgbenfdffhcjiaaSatRef
namespace Go.Proofs.Ytgbenfdffhcjiaa.Clock
open Go.RowKit
open _root_.Go.Proofs.Ytgbenfdffhcjiaa.Sat (fit add sub fit_lo fit_hi rfit_any rtwo_any rret_int)

theorem rpassed_any (since now span : Int) (w : World) :
    Calls Try.prog 23 #[.int .i64 since, .int .i64 now, .int .i64 span] w fun e w' => e = .returned (.bool (cpassed since now span)) ∧ w = w' := by
  go_enter Try.func23, Try.ntmps23
  go_wp2_with (first
    | (go_at_call 30; (with_reducible refine (rfit_any _ _).mono ?_); rintro e w' ⟨rfl, rfl⟩)
    | (go_at_call 31; (with_reducible refine (rtwo_any _ _ _).mono ?_); rintro e w' ⟨rfl, rfl⟩))
  go_ret
  exact ⟨rfl, rfl⟩
end Go.Proofs.Ytgbenfdffhcjiaa.Clock
