/-
  Readings, plain: a clock's reading, whether a span has passed, how long it is till then, in the numbers of SatPlain; and within the skew. No program, no condition.
-/
import Derived.Test.YtgbenfdffhcjiaaSatPlain
namespace Go.Proofs.Ytgbenfdffhcjiaa.Clock
open _root_.Go.Proofs.Ytgbenfdffhcjiaa.Sat (fit add sub top fit_lo fit_hi fit_self fit_fit sum_two)

def cread (t draw skew : Int) : Int := if draw < 0 then (if draw < -fit skew then sub (fit t) (fit skew) else sub (fit t) (-draw)) else if fit skew < draw then add [fit t, fit skew] else add [fit t, draw]
def cpassed (since now span : Int) : Bool := decide (add [since, span] ≤ fit now)
def cleft (since now span : Int) : Int := sub (add [since, span]) now

theorem add2 (a b : Int) : add [a, b] = if 4611686018427387904 < fit a + fit b then 4611686018427387904 else fit a + fit b := by
  unfold add top; rw [sum_two]
theorem sub2 (a b : Int) : sub a b = if fit a < fit b then 0 else fit a - fit b := by
  have a1 := fit_hi a; have b0 := fit_lo b; have b1 := fit_hi b
  unfold sub
  by_cases h : fit a < fit b
  · rw [if_pos h]; generalize fit a = x at *; generalize fit b = y at *; unfold fit; rw [if_pos (by omega)]
  · rw [if_neg h, fit_self (by omega) (by omega)]
/-- A reading is within the skew, and a number. -/
theorem cread_skew (t draw skew : Int) : 0 ≤ cread t draw skew ∧ cread t draw skew ≤ 4611686018427387904 ∧ cread t draw skew ≤ fit t + fit skew ∧ fit t - fit skew ≤ cread t draw skew := by
  have t0 := fit_lo t; have t1 := fit_hi t; have s0 := fit_lo skew; have s1 := fit_hi skew
  unfold cread
  split
  · split
    · rw [sub2, fit_fit, fit_fit]; split <;> omega
    · rw [sub2, fit_fit, fit_self (x := -draw) (by omega) (by omega)]; split <;> omega
  · split
    · rw [add2, fit_fit, fit_fit]; split <;> omega
    · rw [add2, fit_fit, fit_self (x := draw) (by omega) (by omega)]; split <;> omega
/-- If a span has passed by the readings, the true times tell so, but for twice the skew. -/
theorem cpassed_skew {t u d e skew span : Int} (h : cpassed (cread t d skew) (cread u e skew) span = true) : add [t, span] ≤ add [u, skew, skew] := by
  have h1 := cread_skew t d skew
  have h2 := cread_skew u e skew
  generalize cread t d skew = a at *
  generalize cread u e skew = b at *
  have t0 := fit_lo t; have t1 := fit_hi t; have u0 := fit_lo u; have u1 := fit_hi u; have s0 := fit_lo skew; have s1 := fit_hi skew; have p0 := fit_lo span; have p1 := fit_hi span
  have fa : fit a = a := fit_self (by omega) (by omega)
  have fb : fit b = b := fit_self (by omega) (by omega)
  simp only [cpassed, decide_eq_true_eq] at h
  rw [add2, fa, fb] at h
  have e3 : add [u, skew, skew] = if 4611686018427387904 < fit u + (fit skew + fit skew) then 4611686018427387904 else fit u + (fit skew + fit skew) := by
    unfold add top
    simp only [Sat.sum, Int.add_zero]
  rw [add2, e3]
  split at h <;> split <;> split <;> omega
end Go.Proofs.Ytgbenfdffhcjiaa.Clock
