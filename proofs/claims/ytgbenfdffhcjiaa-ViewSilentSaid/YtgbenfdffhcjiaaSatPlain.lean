/-
  Plain facts on the numbers of the layer sat: fit, sums, products, differences and quotients that do not run over are in order. No condition.
-/
import Derived.WalkKit
namespace Go.Proofs.Ytgbenfdffhcjiaa.Sat

/-- The end of time. -/
def top : Int := 4611686018427387904
def clamp (x lo hi : Int) : Int := if x < lo ∨ hi < lo then lo else if hi < x then hi else x
def fit (x : Int) : Int := if x < 0 then 0 else if top < x then top else x
def sum : List Int → Int
  | [] => 0
  | x :: r => fit x + sum r
def add (l : List Int) : Int := if top < sum l then top else sum l
def sub (a b : Int) : Int := fit (fit a - fit b)
def mul (a b : Int) : Int := if top < fit a * fit b then top else fit a * fit b
def ceil (a b : Int) : Int := if fit b = 0 then top else (fit a + fit b - 1) / fit b

theorem top_eq : top = 4611686018427387904 := rfl
theorem clamp_fit (x : Int) : clamp x 0 4611686018427387904 = fit x := by
  unfold clamp fit top
  by_cases h : x < 0
  · rw [if_pos (Or.inl h), if_pos h]
  · rw [if_neg (by omega), if_neg h]
theorem fit_lo (x : Int) : 0 ≤ fit x := by unfold fit top; split <;> (try split) <;> omega
theorem fit_hi (x : Int) : fit x ≤ 4611686018427387904 := by unfold fit top; split <;> (try split) <;> omega
theorem fit_self {x : Int} (h0 : 0 ≤ x) (h1 : x ≤ 4611686018427387904) : fit x = x := by
  unfold fit top; rw [if_neg (by omega), if_neg (by omega)]
theorem fit_fit (x : Int) : fit (fit x) = fit x := fit_self (fit_lo x) (fit_hi x)
theorem sum_lo (l : List Int) : 0 ≤ sum l := by
  induction l with
  | nil => exact Int.le_refl _
  | cons x r ih => have := fit_lo x; simp only [sum]; omega
theorem sum_append (a b : List Int) : sum (a ++ b) = sum a + sum b := by
  induction a with
  | nil => simp [sum]
  | cons x r ih => simp only [List.cons_append, sum, ih]; omega
theorem sum_two (a b : Int) : sum [a, b] = fit a + fit b := by simp [sum]
theorem add_lo (l : List Int) : 0 ≤ add l := by have := sum_lo l; unfold add top; split <;> omega
theorem add_hi (l : List Int) : add l ≤ 4611686018427387904 := by unfold add top; split <;> omega
theorem add_comm (a b : Int) : add [a, b] = add [b, a] := by
  unfold add; rw [sum_two, sum_two, Int.add_comm]
theorem mul_lo (a b : Int) : 0 ≤ mul a b := by
  have := Int.mul_nonneg (fit_lo a) (fit_lo b)
  unfold mul top; split <;> omega
theorem mul_hi (a b : Int) : mul a b ≤ 4611686018427387904 := by unfold mul top; split <;> omega
theorem mul_comm (a b : Int) : mul a b = mul b a := by unfold mul; rw [Int.mul_comm]
theorem fit_add (l : List Int) : fit (add l) = add l := fit_self (add_lo l) (add_hi l)
theorem sub_lo (a b : Int) : 0 ≤ sub a b := fit_lo _
theorem sub_hi (a b : Int) : sub a b ≤ 4611686018427387904 := fit_hi _
theorem ceil_lo (a b : Int) : 0 ≤ ceil a b := by
  have ha := fit_lo a; have hb := fit_lo b
  unfold ceil
  by_cases h : fit b = 0
  · rw [if_pos h]; decide
  · rw [if_neg h]; exact Int.ediv_nonneg (by omega) hb
theorem ceil_hi (a b : Int) : ceil a b ≤ 4611686018427387904 := by
  have ha := fit_lo a; have ha' := fit_hi a; have hb := fit_lo b
  unfold ceil
  by_cases h : fit b = 0
  · rw [if_pos h]; decide
  · rw [if_neg h]
    have h1 : 0 < fit b := by omega
    refine Int.le_trans ?_ ha'
    generalize fit b = y at *
    generalize fit a = x at *
    by_cases hx : x = 0
    · subst hx
      rw [Int.ediv_eq_zero_of_lt (by omega) (by omega)]; exact Int.le_refl _
    · have h2 : x + y - 1 < (x + 1) * y := by
        have h3 : x * 1 ≤ x * y := Int.mul_le_mul_of_nonneg_left (by omega) (by omega)
        rw [Int.add_mul]; omega
      have := Int.ediv_lt_of_lt_mul h1 h2
      omega
/-- The quotient rounded up, as the code finds it. -/
theorem ceil_code (x y : Int) (hy : 0 < y) :
    (x + y - 1) / y = if 0 < x % y then x / y + 1 else x / y := by
  have hm := Int.emod_nonneg x (by omega : y ≠ 0)
  have hl := Int.emod_lt_of_pos x hy
  have he := Int.mul_ediv_add_emod x y
  have e1 : x + y - 1 = (x % y + y - 1) + y * (x / y) := by omega
  rw [e1, Int.add_mul_ediv_left _ _ (by omega : y ≠ 0)]
  by_cases h : 0 < x % y
  · rw [if_pos h]
    have e2 : x % y + y - 1 = (x % y - 1) + y * 1 := by omega
    rw [e2, Int.add_mul_ediv_left _ _ (by omega : y ≠ 0), Int.ediv_eq_zero_of_lt (by omega) (by omega)]
    omega
  · rw [if_neg h, Int.ediv_eq_zero_of_lt (by omega) (by omega)]; omega
theorem ceil_mul (x y : Int) (hy : 0 < y) : x ≤ (x + y - 1) / y * y ∧ (x + y - 1) / y * y < x + y := by
  have he := Int.mul_ediv_add_emod (x + y - 1) y
  have hm := Int.emod_nonneg (x + y - 1) (by omega : y ≠ 0)
  have hl := Int.emod_lt_of_pos (x + y - 1) hy
  rw [Int.mul_comm] at he
  omega

/-! ### The law -/
theorem law_add (a b c : Int) : ¬ add [add [fit a, fit c], fit b] < add [a, b] := by
  have ha := fit_lo a; have hb := fit_lo b; have hc := fit_lo c
  have e : fit (add [fit a, fit c]) = add [fit a, fit c] := fit_add _
  unfold add at *
  rw [sum_two, sum_two] at *
  rw [sum_two, e, fit_fit, fit_fit, fit_fit]
  have h1 := fit_hi a
  unfold top
  repeat' split
  all_goals omega
theorem law_mul (a b c : Int) : ¬ mul (add [fit a, fit c]) (fit b) < mul a b := by
  have ha := fit_lo a; have hb := fit_lo b; have hc := fit_lo c; have h1 := fit_hi a
  have e : fit (add [fit a, fit c]) = add [fit a, fit c] := fit_add _
  have h : fit a ≤ add [fit a, fit c] := by
    unfold add; rw [sum_two, fit_fit, fit_fit]; unfold top; split <;> omega
  have hm := Int.mul_le_mul_of_nonneg_right h hb
  unfold mul
  rw [e, fit_fit]
  unfold top
  repeat' split
  all_goals omega
theorem law_sub (a b : Int) (h : add [a, b] < 4611686018427387904) : sub (add [a, b]) a = fit b := by
  have ha := fit_lo a; have hb := fit_lo b
  have e : fit (add [a, b]) = add [a, b] := fit_add _
  have hs : add [a, b] = fit a + fit b := by
    unfold add at h ⊢; rw [sum_two] at *; unfold top at *; split at h <;> rename_i h'
    · omega
    · rw [if_neg h']
  unfold sub
  rw [e, hs, show fit a + fit b - fit a = fit b from by omega, fit_fit]
theorem law_ceil_zero (a b : Int) (h : fit b = 0) : ceil a b = 4611686018427387904 := by
  unfold ceil; rw [if_pos h, top_eq]
theorem law_ceil (a b : Int) (h : 0 < fit b) (hne : mul (ceil a b) b ≠ 4611686018427387904) :
    fit a ≤ mul (ceil a b) b ∧ mul (ceil a b) b < add [fit a, fit b] := by
  have hq : fit (ceil a b) = ceil a b := fit_self (ceil_lo a b) (ceil_hi a b)
  have hk := ceil_mul (fit a) (fit b) h
  have hc : ceil a b = (fit a + fit b - 1) / fit b := by unfold ceil; rw [if_neg (by omega)]
  have hh := mul_hi (ceil a b) b
  have hm : mul (ceil a b) b = (fit a + fit b - 1) / fit b * fit b := by
    unfold mul at hne ⊢
    rw [hq, hc] at hne ⊢
    by_cases ht : top < (fit a + fit b - 1) / fit b * fit b
    · rw [if_pos ht] at hne; exact absurd top_eq hne
    · rw [if_neg ht]
  rw [hm] at hh hne ⊢
  refine ⟨hk.1, ?_⟩
  unfold add; rw [sum_two, fit_fit, fit_fit]; unfold top; split <;> omega
end Go.Proofs.Ytgbenfdffhcjiaa.Sat
