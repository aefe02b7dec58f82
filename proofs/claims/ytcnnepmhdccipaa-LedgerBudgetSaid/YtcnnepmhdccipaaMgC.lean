/-
  The document's numbers (annonaref01): Fit, Two, Sub, Add, Mul return what the plain functions of SatPlain give, and leave the world as it was; any ints, and for Add any slice of up to 100000 cells that are ints.
  The calls of package sat return what the plain functions of SatPlain give, and leave the world as it was; any ints, and for Add any slice whose cells are ints.
-/
import Derived.WalkKit
import Derived.ProofKit
import Derived.Outline
import Derived.Lib.Hide
import Derived.IntWalk
import Derived.Deep.QuietTactic
import Derived.BigQuiet
import Derived.Test.YtcnnepmhdccipaaChecked
import Derived.Test.YtcnnepmhdccipaaMgA
namespace Go.Proofs.Ytcnnepmhdccipaa.Sat
open Go.RowKit

theorem rret_int {k : IntKind} {a b : Int} (h : a = b) : Ending.returned (.int k a) = .returned (.int k b) := by rw [h]
theorem rfit_any (x : Int) (w : World) :
    Calls Try.prog 49 #[.int .i64 x] w fun e w' => e = .returned (.int .i64 (fit x)) ∧ w = w' := by
  by_cases h1 : x < 0
  · go_enter Try.func49, Try.ntmps49
    go_wp2
    go_ret
    exact ⟨rret_int (by unfold fit; rw [if_pos h1]), rfl⟩
  · by_cases h2 : 4611686018427387904 < x
    · go_enter Try.func49, Try.ntmps49
      go_wp2
      go_ret
      exact ⟨rret_int (by unfold fit top; rw [if_neg (by omega), if_pos h2]), rfl⟩
    · go_enter Try.func49, Try.ntmps49
      go_wp2
      go_ret
      exact ⟨rret_int (by unfold fit top; rw [if_neg (by omega), if_neg (by omega)]), rfl⟩

theorem add_two (a b : Int) : add [a, b] = if 4611686018427387904 - fit a < fit b then 4611686018427387904 else fit a + fit b := by
  unfold add top; rw [sum_two]
  by_cases h : 4611686018427387904 < fit a + fit b
  · rw [if_pos h, if_pos (by omega)]
  · rw [if_neg h, if_neg (by omega)]
theorem rtwo_any (a b : Int) (w : World) :
    Calls Try.prog 22 #[.int .i64 a, .int .i64 b] w fun e w' => e = .returned (.int .i64 (add [a, b])) ∧ w = w' := by
  have a0 := fit_lo a; have a1 := fit_hi a; have b0 := fit_lo b; have b1 := fit_hi b
  have HE := Lib.hid (add_two a b)
  by_cases h : 4611686018427387904 - fit a < fit b
  · go_enter Try.func22, Try.ntmps22
    go_wp2_with (go_at_call 49; refine (rfit_any _ _).mono ?_; rintro e w' ⟨rfl, rfl⟩)
    go_ret
    exact ⟨rret_int (by rw [HE.out, if_pos h]), rfl⟩
  · go_enter Try.func22, Try.ntmps22
    go_wp2_with (go_at_call 49; refine (rfit_any _ _).mono ?_; rintro e w' ⟨rfl, rfl⟩)
    go_ret
    exact ⟨rret_int (by rw [HE.out, if_neg (by omega)]), rfl⟩

theorem sub_if (a b : Int) : sub a b = if fit a < fit b then 0 else fit a - fit b := by
  have a1 := fit_hi a; have b0 := fit_lo b; have b1 := fit_hi b
  unfold sub
  by_cases h : fit a < fit b
  · rw [if_pos h]; generalize fit a = x at *; generalize fit b = y at *; unfold fit; rw [if_pos (by omega)]
  · rw [if_neg h, fit_self (by omega) (by omega)]
theorem rsub_any (a b : Int) (w : World) :
    Calls Try.prog 50 #[.int .i64 a, .int .i64 b] w fun e w' => e = .returned (.int .i64 (sub a b)) ∧ w = w' := by
  have a0 := fit_lo a; have a1 := fit_hi a; have b0 := fit_lo b; have b1 := fit_hi b
  have HE := Lib.hid (sub_if a b)
  by_cases h : fit a < fit b
  · go_enter Try.func50, Try.ntmps50
    go_wp2_with (go_at_call 49; refine (rfit_any _ _).mono ?_; rintro e w' ⟨rfl, rfl⟩)
    go_ret
    exact ⟨rret_int (by rw [HE.out, if_pos h]), rfl⟩
  · have h' : fit b ≤ fit a := by omega
    go_enter Try.func50, Try.ntmps50
    go_wp2_with (go_at_call 49; refine (rfit_any _ _).mono ?_; rintro e w' ⟨rfl, rfl⟩)
    go_ret
    exact ⟨rret_int (by rw [HE.out, if_neg (by omega)]), rfl⟩

theorem radd_take (l : List Int) (k : Nat) (h : k < l.length) : add (l.take (k + 1)) = add [add (l.take k), l.getD k 0] := by
  have e : l.take (k + 1) = l.take k ++ [l.getD k 0] := by
    rw [List.take_succ_eq_append_getElem h]
    simp [List.getD, h]
  have h1 : sum (l.take (k + 1)) = sum (l.take k) + fit (l.getD k 0) := by rw [e, sum_append]; simp [sum]
  have h2 := sum_two (add (l.take k)) (l.getD k 0)
  rw [fit_add] at h2
  have h3 := fit_lo (l.getD k 0)
  unfold add at h2 ⊢
  rw [h1, h2]
  unfold top
  repeat' split
  all_goals omega
theorem radd_any (l : List Int) (p : Option Addr) (c : Nat) (w : World) (hl : l.length ≤ 100000)
    (hc : ∀ k : Nat, k < l.length → ∃ b o, p = some ⟨b, o, none⟩ ∧ w.cell? ⟨b, o + k, none⟩ = some (.int .i64 (l.getD k 0))) :
    Calls Try.prog 48 #[.slice p l.length c] w fun e w' => e = .returned (.int .i64 (add l)) ∧ w = w' := by
  have HC := Lib.hid hc; clear hc
  go_enter Try.func48, Try.ntmps48
  go_wp2
  go_loop [3, 4] (fun s i => ∃ k : Nat, k ≤ l.length ∧ i = .int .i64 (k : Int) ∧ s = .int .i64 (add (l.take k))) (fun _ i => l.length - (intOf i).toNat)
  case atStart => exact ⟨0, Nat.zero_le _, rfl, rfl⟩
  case round =>
    obtain ⟨k, hk, rfl, rfl⟩ := hrel
    by_cases hlt : k < l.length
    · have hlt' : (k : Int) < (l.length : Int) := by omega
      obtain ⟨b, o, rfl, hcell⟩ := HC.out k hlt
      have HS := Lib.hid (radd_take l k hlt)
      generalize l.getD k 0 = x at *
      go_wp2_with (go_at_call 22; refine (rtwo_any _ _ _).mono ?_; rintro e w' ⟨rfl, rfl⟩)
      go_round
      case rel => exact ⟨k + 1, by omega, by go_num, by rw [HS.out]⟩
      case measure => simp only [intOf]; omega
    · have hke : k = l.length := by omega
      subst hke
      rw [List.take_length]
      go_wp2
      go_ret
      exact ⟨rfl, rfl⟩

/-- A product that ends at 2^62. -/
def cap (x : Int) : Int := if top < x then top else x
theorem mul_cap (a b : Int) : mul a b = cap (fit a * fit b) := rfl
theorem cap_two {x y : Int} (hx : 0 ≤ x) (hy : 0 ≤ y) : add [cap x, cap y] = cap (x + y) := by
  have h1 : fit (cap x) = cap x := by apply fit_self <;> (unfold cap top; split <;> omega)
  have h2 : fit (cap y) = cap y := by apply fit_self <;> (unfold cap top; split <;> omega)
  unfold add
  rw [sum_two, h1, h2]
  unfold cap top
  repeat' split
  all_goals omega
theorem cap_add {x y : Int} (hx : 0 ≤ x) (h0 : 0 ≤ y) (h1 : y ≤ 4611686018427387904) : add [cap x, y] = cap (x + y) := by
  have : cap y = y := by unfold cap top; rw [if_neg (by omega)]
  rw [← cap_two hx h0, this]
theorem half (y : Int) (i : Nat) : y / 2 ^ i = 2 * (y / 2 ^ (i + 1)) + y / 2 ^ i % 2 := by
  rw [Int.pow_succ, ← Int.ediv_ediv_of_nonneg (Int.le_of_lt (Int.pow_pos (by omega)))]
  generalize y / 2 ^ i = q
  omega
set_option maxRecDepth 100000 in
theorem rmul_any (a b : Int) (w : World) :
    Calls Try.prog 23 #[.int .i64 a, .int .i64 b] w fun e w' => e = .returned (.int .i64 (mul a b)) ∧ w = w' := by
  have a0 := fit_lo a; have a1 := fit_hi a; have b0 := fit_lo b; have b1 := fit_hi b
  have HM := Lib.hid (mul_cap a b)
  generalize mul a b = m at HM ⊢
  have hfa := rfit_any a
  have hfb := rfit_any b
  generalize fit a = x at *
  generalize fit b = y at *
  go_enter Try.func23, Try.ntmps23
  go_wp2_with (first
    | (go_at_call 49; (with_reducible refine (hfa _).mono ?_); rintro e w' ⟨rfl, rfl⟩)
    | (go_at_call 49; (with_reducible refine (hfb _).mono ?_); rintro e w' ⟨rfl, rfl⟩))
  go_loop [7, 8] (fun s i => ∃ n : Nat, n ≤ 63 ∧ i = .int .i64 ((n : Int) - 1) ∧ s = .int .i64 (cap (x * (y / 2 ^ n)))) (fun _ i => (intOf i + 1).toNat)
  case atStart =>
    refine ⟨63, by omega, rfl, ?_⟩
    rw [show y / 2 ^ 63 = 0 by apply Int.ediv_eq_zero_of_lt b0; omega]
    simp [cap, top]
  case round =>
    obtain ⟨n, hn, rfl, rfl⟩ := hrel
    cases n with
    | zero =>
      go_wp2
      go_ret
      exact ⟨rret_int HM.out.symm, rfl⟩
    | succ n =>
      rw [show ((n + 1 : Nat) : Int) - 1 = (n : Int) by omega]
      have hq := half y n
      have q0 : 0 ≤ y / 2 ^ (n + 1) := Int.ediv_nonneg b0 (Int.le_of_lt (Int.pow_pos (by omega)))
      have hs : add [cap (x * (y / 2 ^ (n + 1))), cap (x * (y / 2 ^ (n + 1)))] = cap (x * (2 * (y / 2 ^ (n + 1)))) := by
        rw [cap_two (Int.mul_nonneg a0 q0) (Int.mul_nonneg a0 q0)]
        congr 1
        rw [Int.mul_left_comm, Int.two_mul]
      have ht := cap_add (x := x * (2 * (y / 2 ^ (n + 1)))) (y := x) (Int.mul_nonneg a0 (by omega)) a0 a1
      have htwo := rtwo_any (cap (x * (y / 2 ^ (n + 1)))) (cap (x * (y / 2 ^ (n + 1))))
      have htwo2 := rtwo_any (cap (x * (2 * (y / 2 ^ (n + 1))))) x
      rw [hs] at htwo
      rw [ht] at htwo2
      have hb : y / 2 ^ n % 2 = 0 ∨ y / 2 ^ n % 2 = 1 := by omega
      have y0 : 0 ≤ y / 2 ^ n := Int.ediv_nonneg b0 (Int.le_of_lt (Int.pow_pos (by omega)))
      rcases hb with hb | hb
      · have HR := Lib.hid (show x * (2 * (y / 2 ^ (n + 1))) = x * (y / 2 ^ n) by congr 1; omega)
        clear hs ht hq htwo2
        generalize y / 2 ^ (n + 1) = q at *
        go_wp2_with (go_at_call 22; (with_reducible refine (htwo _).mono ?_); rintro e w' ⟨rfl, rfl⟩)
        go_round
        case rel => exact ⟨n, by omega, by go_num, by rw [HR.out]⟩
        case measure => simp only [intOf]; omega
      · have HR := Lib.hid (show x * (2 * (y / 2 ^ (n + 1))) + x = x * (y / 2 ^ n) by rw [show y / 2 ^ n = 2 * (y / 2 ^ (n + 1)) + 1 by omega, Int.mul_add, Int.mul_one])
        clear hs ht hq
        generalize y / 2 ^ (n + 1) = q at *
        go_wp2_with (first
          | (go_at_call 22; (with_reducible refine (htwo _).mono ?_); rintro e w' ⟨rfl, rfl⟩)
          | (go_at_call 22; (with_reducible refine (htwo2 _).mono ?_); rintro e w' ⟨rfl, rfl⟩))
        go_round
        case rel => exact ⟨n, by omega, by go_num, by rw [HR.out]⟩
        case measure => simp only [intOf]; omega
end Go.Proofs.Ytcnnepmhdccipaa.Sat

namespace Go.Proofs.Ytcnnepmhdccipaa.Sat
open Go.RowKit

theorem ret_int {k : IntKind} {a b : Int} (h : a = b) : Ending.returned (.int k a) = .returned (.int k b) := by rw [h]

theorem clamp_any (x lo hi : Int) (w : World) :
    Calls Try.prog 65 #[.int .i64 x, .int .i64 lo, .int .i64 hi] w fun e w' => e = .returned (.int .i64 (clamp x lo hi)) ∧ w = w' := by
  by_cases h1 : x < lo
  · go_enter Try.func65, Try.ntmps65
    go_wp2
    go_ret
    exact ⟨ret_int (by unfold clamp; rw [if_pos (Or.inl h1)]), rfl⟩
  · by_cases h2 : hi < lo
    · go_enter Try.func65, Try.ntmps65
      go_wp2
      go_ret
      exact ⟨ret_int (by unfold clamp; rw [if_pos (Or.inr h2)]), rfl⟩
    · by_cases h3 : hi < x
      · go_enter Try.func65, Try.ntmps65
        go_wp2
        go_ret
        exact ⟨ret_int (by unfold clamp; rw [if_neg (by omega), if_pos h3]), rfl⟩
      · go_enter Try.func65, Try.ntmps65
        go_wp2
        go_ret
        exact ⟨ret_int (by unfold clamp; rw [if_neg (by omega), if_neg (by omega)]), rfl⟩

theorem fit_any (x : Int) (w : World) :
    Calls Try.prog 47 #[.int .i64 x] w fun e w' => e = .returned (.int .i64 (fit x)) ∧ w = w' := by
  go_enter Try.func47, Try.ntmps47
  go_wp2_with (go_at_call 65; refine (clamp_any _ _ _ _).mono ?_; rintro e w' ⟨rfl, rfl⟩)
  go_ret
  exact ⟨ret_int (clamp_fit x), rfl⟩

theorem sub_any (a b : Int) (w : World) :
    Calls Try.prog 40 #[.int .i64 a, .int .i64 b] w fun e w' => e = .returned (.int .i64 (sub a b)) ∧ w = w' := by
  have a0 := fit_lo a; have a1 := fit_hi a; have b0 := fit_lo b; have b1 := fit_hi b
  go_enter Try.func40, Try.ntmps40
  go_wp2_with (go_at_call 47; refine (fit_any _ _).mono ?_; rintro e w' ⟨rfl, rfl⟩)
  go_ret
  exact ⟨rfl, rfl⟩

theorem mul_over (a b : Int) (h0 : 0 < a) : (4611686018427387904 / a < b) ↔ 4611686018427387904 < a * b := by
  rw [Int.mul_comm]; exact Int.ediv_lt_iff_lt_mul h0

theorem mul_any (a b : Int) (w : World) :
    Calls Try.prog 39 #[.int .i64 a, .int .i64 b] w fun e w' => e = .returned (.int .i64 (mul a b)) ∧ w = w' := by
  have a0 := fit_lo a; have a1 := fit_hi a; have b0 := fit_lo b; have b1 := fit_hi b
  have hm : mul a b = if top < fit a * fit b then top else fit a * fit b := rfl
  have HM := Lib.hid hm; clear hm
  by_cases hz : 0 < fit a
  · have ho := mul_over (fit a) (fit b) hz
    have HO := Lib.hid ho; clear ho
    by_cases ht : 4611686018427387904 / fit a < fit b
    · go_enter Try.func39, Try.ntmps39
      go_wp2_with (go_at_call 47; refine (fit_any _ _).mono ?_; rintro e w' ⟨rfl, rfl⟩)
      go_ret
      exact ⟨ret_int (by rw [HM.out, if_pos (by unfold top; exact HO.out.1 ht)]; rfl), rfl⟩
    · have hn : ¬ (4611686018427387904 < fit a * fit b) := fun h => ht (HO.out.2 h)
      have hp := Int.mul_nonneg a0 b0
      go_enter Try.func39, Try.ntmps39
      go_wp2_with (go_at_call 47; refine (fit_any _ _).mono ?_; rintro e w' ⟨rfl, rfl⟩)
      go_ret
      exact ⟨ret_int (by rw [HM.out, if_neg (by unfold top; omega)]), rfl⟩
  · have hp : 0 ≤ fit a * fit b := Int.mul_nonneg a0 b0
    have hn : fit a * fit b ≤ 0 := Int.mul_nonpos_of_nonpos_of_nonneg (by omega) b0
    go_enter Try.func39, Try.ntmps39
    go_wp2_with (go_at_call 47; refine (fit_any _ _).mono ?_; rintro e w' ⟨rfl, rfl⟩)
    go_ret
    exact ⟨ret_int (by rw [HM.out, if_neg (by unfold top; omega)]), rfl⟩


theorem sum_take (l : List Int) (k : Nat) (h : k < l.length) : sum (l.take (k + 1)) = sum (l.take k) + fit (l.getD k 0) := by
  rw [List.take_succ_eq_append_getElem h, sum_append]; simp [sum, h]
theorem sum_take_le (l : List Int) (k : Nat) : sum (l.take k) ≤ sum l := by
  have h := sum_append (l.take k) (l.drop k)
  rw [List.take_append_drop] at h
  have := sum_lo (l.drop k)
  omega

/-- Add of a slice whose cells are ints. -/
theorem add_any (l : List Int) (b c : Nat) (w : World) (hl : l.length ≤ 1000)
    (hc : ∀ k : Nat, k < l.length → w.cell? ⟨b, k, none⟩ = some (.int .i64 (l.getD k 0))) :
    Calls Try.prog 41 #[.slice (some ⟨b, 0, none⟩) l.length c] w fun e w' => e = .returned (.int .i64 (add l)) ∧ w = w' := by
  have HC := Lib.hid hc; clear hc
  go_enter Try.func41, Try.ntmps41
  go_wp2
  go_loop [3, 9] (fun s i => ∃ k : Nat, k ≤ l.length ∧ i = .int .i64 k ∧ s = .int .i64 (sum (l.take k)) ∧ sum (l.take k) ≤ 4611686018427387904) (fun _ i => l.length - (intOf i).toNat)
  case atStart => exact ⟨0, Nat.zero_le _, rfl, rfl, by simp [sum]⟩
  case round =>
    obtain ⟨k, hk, rfl, rfl, hs⟩ := hrel
    have hs0 := sum_lo (l.take k)
    by_cases hlt : k < l.length
    · have hcell := HC.out k hlt
      have f0 := fit_lo (l.getD k 0); have f1 := fit_hi (l.getD k 0)
      have hst := sum_take l k hlt
      have hle := sum_take_le l (k + 1)
      have HS := Lib.hid hst; clear hst
      have HL := Lib.hid hle; clear hle
      generalize l.getD k 0 = x at *
      by_cases ht : 4611686018427387904 - sum (l.take k) < fit x
      · go_wp2_with (go_at_call 47; refine (fit_any _ _).mono ?_; rintro e w' ⟨rfl, rfl⟩)
        go_ret
        exact ⟨ret_int (by have h1 := HS.out; have h2 := HL.out; unfold add; rw [if_pos (by unfold top; omega)]; rfl), rfl⟩
      · go_wp2_with (go_at_call 47; refine (fit_any _ _).mono ?_; rintro e w' ⟨rfl, rfl⟩)
        go_round
        case rel => exact ⟨k + 1, by omega, by go_num, by rw [HS.out], by rw [HS.out]; omega⟩
        case measure => simp [intOf]; omega
    · go_wp2
      go_ret
      exact ⟨ret_int (by unfold add; rw [List.take_of_length_le (by omega)] at hs ⊢; rw [if_neg (by unfold top; omega)]), rfl⟩
/-- Add of two numbers, of three, in a new block. -/
theorem add2 (x y : Int) (w : World) (b : Nat) (hb : b = w.heap.size) :
    Calls Try.prog 41 #[.slice (some ⟨b, 0, none⟩) 2 2] (w.alloc (.cells #[.int .i64 x, .int .i64 y] 3)) fun e w' => e = .returned (.int .i64 (add [x, y])) ∧ w.alloc (.cells #[.int .i64 x, .int .i64 y] 3) = w' := by
  subst hb
  refine add_any [x, y] _ 2 _ (by simp) fun k hk => ?_
  rw [World.cell?_alloc_new]
  match k, hk with
  | 0, _ => rfl
  | 1, _ => rfl
theorem add3 (x y z : Int) (w : World) (b : Nat) (hb : b = w.heap.size) :
    Calls Try.prog 41 #[.slice (some ⟨b, 0, none⟩) 3 3] (w.alloc (.cells #[.int .i64 x, .int .i64 y, .int .i64 z] 3)) fun e w' => e = .returned (.int .i64 (add [x, y, z])) ∧ w.alloc (.cells #[.int .i64 x, .int .i64 y, .int .i64 z] 3) = w' := by
  subst hb
  refine add_any [x, y, z] _ 3 _ (by simp) fun k hk => ?_
  rw [World.cell?_alloc_new]
  match k, hk with
  | 0, _ => rfl
  | 1, _ => rfl
  | 2, _ => rfl
end Go.Proofs.Ytcnnepmhdccipaa.Sat
