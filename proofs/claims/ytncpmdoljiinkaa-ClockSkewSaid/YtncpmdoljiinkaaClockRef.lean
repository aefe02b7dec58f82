/-
  The document's Read, Passed, Left (annonaref08) of any ints return what the plain functions of ClockPlain give, and leave the world as it was.
-/
import Derived.Test.YtncpmdoljiinkaaClockPlain
import Derived.Test.YtncpmdoljiinkaaSatRef
namespace Go.Proofs.Ytncpmdoljiinkaa.Clock
open Go.RowKit
open _root_.Go.Proofs.Ytncpmdoljiinkaa.Sat (fit add sub fit_lo fit_hi rfit_any rtwo_any rsub_any rret_int)

theorem rread_any (t draw skew : Int) (h0 : -9223372036854775808 ≤ draw) (w : World) :
    Calls Try.prog 7 #[.int .i64 t, .int .i64 draw, .int .i64 skew] w fun e w' => e = .returned (.int .i64 (cread t draw skew)) ∧ w = w' := by
  have s0 := fit_lo skew; have s1 := fit_hi skew
  have HC := Lib.hid (show cread t draw skew = if draw < 0 then (if draw < -fit skew then sub (fit t) (fit skew) else sub (fit t) (-draw)) else if fit skew < draw then add [fit t, fit skew] else add [fit t, draw] from rfl)
  generalize cread t draw skew = R at HC ⊢
  have hft := rfit_any t
  have hfs := rfit_any skew
  generalize fit t = x at *
  generalize fit skew = s at *
  by_cases h1 : draw < 0
  · by_cases h2 : draw < -s
    · have HR := Lib.hid (show R = sub x s by rw [HC.out, if_pos h1, if_pos h2])
      clear HC
      go_enter Try.func7, Try.ntmps7
      go_wp2_with (first
        | (go_at_call 12; (with_reducible refine (hft _).mono ?_); rintro e w' ⟨rfl, rfl⟩)
        | (go_at_call 12; (with_reducible refine (hfs _).mono ?_); rintro e w' ⟨rfl, rfl⟩)
        | (go_at_call 19; (with_reducible refine (rsub_any _ _ _).mono ?_); rintro e w' ⟨rfl, rfl⟩)
        | (go_at_call 13; (with_reducible refine (rtwo_any _ _ _).mono ?_); rintro e w' ⟨rfl, rfl⟩))
      go_ret
      exact ⟨rret_int HR.out.symm, rfl⟩
    · have HR := Lib.hid (show R = sub x (-draw) by rw [HC.out, if_pos h1, if_neg h2])
      have h2' : -s ≤ draw := by omega
      clear HC
      go_enter Try.func7, Try.ntmps7
      go_wp2_with (first
        | (go_at_call 12; (with_reducible refine (hft _).mono ?_); rintro e w' ⟨rfl, rfl⟩)
        | (go_at_call 12; (with_reducible refine (hfs _).mono ?_); rintro e w' ⟨rfl, rfl⟩)
        | (go_at_call 19; (with_reducible refine (rsub_any _ _ _).mono ?_); rintro e w' ⟨rfl, rfl⟩)
        | (go_at_call 13; (with_reducible refine (rtwo_any _ _ _).mono ?_); rintro e w' ⟨rfl, rfl⟩))
      go_ret
      exact ⟨rret_int HR.out.symm, rfl⟩
  · have h1' : 0 ≤ draw := by omega
    by_cases h2 : s < draw
    · have HR := Lib.hid (show R = add [x, s] by rw [HC.out, if_neg h1, if_pos h2])
      clear HC
      go_enter Try.func7, Try.ntmps7
      go_wp2_with (first
        | (go_at_call 12; (with_reducible refine (hft _).mono ?_); rintro e w' ⟨rfl, rfl⟩)
        | (go_at_call 12; (with_reducible refine (hfs _).mono ?_); rintro e w' ⟨rfl, rfl⟩)
        | (go_at_call 19; (with_reducible refine (rsub_any _ _ _).mono ?_); rintro e w' ⟨rfl, rfl⟩)
        | (go_at_call 13; (with_reducible refine (rtwo_any _ _ _).mono ?_); rintro e w' ⟨rfl, rfl⟩))
      go_ret
      exact ⟨rret_int HR.out.symm, rfl⟩
    · have HR := Lib.hid (show R = add [x, draw] by rw [HC.out, if_neg h1, if_neg h2])
      have h2' : draw ≤ s := by omega
      clear HC
      go_enter Try.func7, Try.ntmps7
      go_wp2_with (first
        | (go_at_call 12; (with_reducible refine (hft _).mono ?_); rintro e w' ⟨rfl, rfl⟩)
        | (go_at_call 12; (with_reducible refine (hfs _).mono ?_); rintro e w' ⟨rfl, rfl⟩)
        | (go_at_call 19; (with_reducible refine (rsub_any _ _ _).mono ?_); rintro e w' ⟨rfl, rfl⟩)
        | (go_at_call 13; (with_reducible refine (rtwo_any _ _ _).mono ?_); rintro e w' ⟨rfl, rfl⟩))
      go_ret
      exact ⟨rret_int HR.out.symm, rfl⟩
theorem rpassed_any (since now span : Int) (w : World) :
    Calls Try.prog 9 #[.int .i64 since, .int .i64 now, .int .i64 span] w fun e w' => e = .returned (.bool (cpassed since now span)) ∧ w = w' := by
  go_enter Try.func9, Try.ntmps9
  go_wp2_with (first
    | (go_at_call 12; (with_reducible refine (rfit_any _ _).mono ?_); rintro e w' ⟨rfl, rfl⟩)
    | (go_at_call 13; (with_reducible refine (rtwo_any _ _ _).mono ?_); rintro e w' ⟨rfl, rfl⟩))
  go_ret
  exact ⟨rfl, rfl⟩
theorem rleft_any (since now span : Int) (w : World) :
    Calls Try.prog 11 #[.int .i64 since, .int .i64 now, .int .i64 span] w fun e w' => e = .returned (.int .i64 (cleft since now span)) ∧ w = w' := by
  go_enter Try.func11, Try.ntmps11
  go_wp2_with (first
    | (go_at_call 19; (with_reducible refine (rsub_any _ _ _).mono ?_); rintro e w' ⟨rfl, rfl⟩)
    | (go_at_call 13; (with_reducible refine (rtwo_any _ _ _).mono ?_); rintro e w' ⟨rfl, rfl⟩))
  go_ret
  exact ⟨rfl, rfl⟩
end Go.Proofs.Ytncpmdoljiinkaa.Clock
