/-
  The program's Read, Passed, Left (clock) of any ints return what the plain functions of ClockPlain give, and leave what memory there was as it was: all that is asked of the program's clock.
-/
import Derived.Test.YtgbenfdffhcjiaaSatWalks
import Derived.Test.YtgbenfdffhcjiaaClockWay
namespace Go.Proofs.Ytgbenfdffhcjiaa.Clock
open Go.RowKit
open _root_.Go.Proofs.Ytgbenfdffhcjiaa.Sat (fit add sub fit_lo fit_hi fit_self fit_fit fit_any sub_any add2 ret_int)

theorem sub_fit (a b : Int) : sub (fit a) b = sub a b := by unfold sub; rw [fit_fit]
theorem sub_fit2 (a b : Int) : sub a (fit b) = sub a b := by unfold sub; rw [fit_fit]
theorem add_fit (a b : Int) : add [fit a, b] = add [a, b] := by unfold add; rw [Sat.sum_two, Sat.sum_two, fit_fit]
theorem add_fit2 (a b : Int) : add [a, fit b] = add [a, b] := by unfold add; rw [Sat.sum_two, Sat.sum_two, fit_fit]

/-- x, or the bound that it is beyond. -/
def held (x lo hi : Int) : Int := if x < lo then lo else if hi < x then hi else x


/-- The reading, as the program finds it. -/
theorem cread_neg {t draw skew : Int} (h : held draw (-fit skew) (fit skew) < 0) : cread t draw skew = sub t (-held draw (-fit skew) (fit skew)) := by
  have s0 := fit_lo skew; have s1 := fit_hi skew
  unfold held at h ⊢
  unfold cread
  split at h
  · rename_i h1; rw [if_pos (by omega), if_pos h1, if_pos h1, sub_fit, Int.neg_neg]
  · rename_i h1
    split at h
    · omega
    · rename_i h2; rw [if_pos h, if_neg h1, if_neg h1, if_neg h2, sub_fit]
theorem cread_pos {t draw skew : Int} (h : ¬ held draw (-fit skew) (fit skew) < 0) : cread t draw skew = add [t, held draw (-fit skew) (fit skew)] := by
  have s0 := fit_lo skew; have s1 := fit_hi skew
  unfold held at h ⊢
  unfold cread
  split at h
  · rename_i h1
    have e : fit skew = 0 := by omega
    rw [if_pos (by omega), if_pos h1, if_pos h1, sub_fit, e]
    have t0 := fit_lo t; have t1 := fit_hi t
    rw [show (-0 : Int) = 0 from rfl, sub2, Clock.add2, fit_self (x := 0) (by omega) (by omega), if_neg (by omega), if_neg (by omega)]; omega
  · rename_i h1
    split at h
    · rename_i h2
      rw [if_neg (by omega), if_pos h2, if_neg h1, if_pos h2, add_fit]
    · rename_i h2; rw [if_neg h, if_neg h2, if_neg h1, if_neg h2, add_fit]

theorem below_made {w : World} (b : Obj) : Below w.heap.size w (w.alloc b) := (Below.refl _ _).alloc (Nat.le_refl _) _

theorem left_any (since now span : Int) (w : World) :
    Calls Try.prog 29 #[.int .i64 since, .int .i64 now, .int .i64 span] w fun e w' => e = .returned (.int .i64 (cleft since now span)) ∧ Below w.heap.size w w' := by
  go_enter Try.func29, Try.ntmps29
  go_wp2_with (first
    | (go_at_call 34; (with_reducible refine (sub_any _ _ _).mono ?_); rintro e w' ⟨rfl, rfl⟩)
    | (go_at_call 35; (with_reducible refine (Sat.add2 _ _ _ _ rfl).mono ?_); rintro e w' ⟨rfl, rfl⟩))
  go_ret
  exact ⟨rfl, below_made _⟩
theorem passed_left (since now span : Int) : cpassed since now span = decide (cleft since now span = 0) := by
  have h0 := Sat.add_lo [since, span]
  have h2 := fit_lo now; have h3 := fit_hi now
  unfold cpassed cleft
  rw [sub2, Sat.fit_add]
  congr 1
  split <;> simp <;> omega
theorem passed_any (since now span : Int) (w : World) :
    Calls Try.prog 21 #[.int .i64 since, .int .i64 now, .int .i64 span] w fun e w' => e = .returned (.bool (cpassed since now span)) ∧ Below w.heap.size w w' := by
  have HP := Lib.hid (passed_left since now span)
  have hl := left_any since now span
  generalize cleft since now span = x at *
  generalize cpassed since now span = y at *
  go_enter Try.func21, Try.ntmps21
  go_wp2_with (go_at_call 29; (with_reducible refine (hl _).mono ?_); rintro e w' ⟨rfl, hb⟩)
  go_ret
  refine ⟨?_, hb⟩
  rw [HP.out]
  congr 2

/-- All that is asked of the program's clock. -/
theorem way8 : Way8 where
  passed a b c w _ _ _ := passed_any a b c w
  left a b c w _ _ _ := left_any a b c w
end Go.Proofs.Ytgbenfdffhcjiaa.Clock
