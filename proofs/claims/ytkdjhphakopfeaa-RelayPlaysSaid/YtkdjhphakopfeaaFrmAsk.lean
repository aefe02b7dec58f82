/-
  The program's within, isNode, genMayBe, hopMayBe, and conf's within and Right: each returns what the plain functions of FramePlain give; the world stays.
-/
import Derived.Test.YtkdjhphakopfeaaFrameSameToken
namespace Go.Proofs.Ytkdjhphakopfeaa.Frame
open Go.RowKit Codec

theorem within_any (x lo hi : Int) (w : World) : Calls Try.prog 50 #[.int .i64 x, .int .i64 lo, .int .i64 hi] w fun e w' => e = .returned (.bool (isIn x lo hi)) ∧ w = w' := by
  cases h : isIn x lo hi with
  | true =>
    obtain ⟨h0, h1⟩ := isIn_yes h
    clear h
    go_enter Try.func50, Try.ntmps50
    go_wp2
    go_ret
    exact ⟨rfl, rfl⟩
  | false =>
    rcases isIn_no h with h0 | ⟨h0, h1⟩
    · have h2 : decide (lo ≤ x) = false := by simp; omega
      clear h h0
      go_enter Try.func50, Try.ntmps50
      go_wp2
      go_ret
      exact ⟨rfl, rfl⟩
    · have h2 : decide (x ≤ hi) = false := by simp; omega
      clear h h1
      go_enter Try.func50, Try.ntmps50
      go_wp2
      go_ret
      exact ⟨rfl, rfl⟩
theorem cwithin_any (x lo hi : Int) (w : World) : Calls Try.prog 72 #[.int .i64 x, .int .i64 lo, .int .i64 hi] w fun e w' => e = .returned (.bool (isIn x lo hi)) ∧ w = w' := by
  cases h : isIn x lo hi with
  | true =>
    obtain ⟨h0, h1⟩ := isIn_yes h
    clear h
    go_enter Try.func72, Try.ntmps72
    go_wp2
    go_ret
    exact ⟨rfl, rfl⟩
  | false =>
    rcases isIn_no h with h0 | ⟨h0, h1⟩
    · have h2 : decide (lo ≤ x) = false := by simp; omega
      clear h h0
      go_enter Try.func72, Try.ntmps72
      go_wp2
      go_ret
      exact ⟨rfl, rfl⟩
    · have h2 : decide (x ≤ hi) = false := by simp; omega
      clear h h1
      go_enter Try.func72, Try.ntmps72
      go_wp2
      go_ret
      exact ⟨rfl, rfl⟩

theorem within_b {x lo hi : Int} {b : Bool} (h : isIn x lo hi = b) (w : World) : Calls Try.prog 50 #[.int .i64 x, .int .i64 lo, .int .i64 hi] w fun e w' => e = .returned (.bool b) ∧ w = w' := by
  rw [← h]
  exact within_any x lo hi w

theorem ckey_any (x : Int) (w : World) : Calls Try.prog 70 #[.int .i64 x] w fun e w' => e = .returned (.bool (isKey x)) ∧ w = w' := by
  have hk : isIn x 0 524287 = isKey x := by
    unfold isIn isKey
    congr 1
    apply propext
    omega
  have hc := fun u => cwithin_any x 0 524287 u
  rw [hk] at hc
  generalize isKey x = b at hc ⊢
  clear hk
  go_enter Try.func70, Try.ntmps70
  go_wp2_with (go_at_call 72; (with_reducible refine (hc _).mono ?_); rintro e w1 ⟨rfl, rfl⟩)
  go_ret
  exact ⟨rfl, rfl⟩
theorem isnode_any (x : Int) (w : World) : Calls Try.prog 36 #[.int .i64 x] w fun e w' => e = .returned (.bool (isIn x 0 63)) ∧ w = w' := by
  have hc := fun u => within_any x 0 63 u
  generalize isIn x 0 63 = b at hc ⊢
  go_enter Try.func36, Try.ntmps36
  go_wp2_with (go_at_call 50; (with_reducible refine (hc _).mono ?_); rintro e w1 ⟨rfl, rfl⟩)
  go_ret
  exact ⟨rfl, rfl⟩
theorem gen_any (x : Int) (w : World) : Calls Try.prog 53 #[.int .i64 x] w fun e w' => e = .returned (.bool (isIn x 1 1099511627776)) ∧ w = w' := by
  have hc := fun u => within_any x 1 1099511627776 u
  generalize isIn x 1 1099511627776 = b at hc ⊢
  go_enter Try.func53, Try.ntmps53
  go_wp2_with (go_at_call 50; (with_reducible refine (hc _).mono ?_); rintro e w1 ⟨rfl, rfl⟩)
  go_ret
  exact ⟨rfl, rfl⟩
theorem hop_any (x : Int) (w : World) : Calls Try.prog 54 #[.int .i64 x] w fun e w' => e = .returned (.bool (isIn x 0 1099511627776)) ∧ w = w' := by
  have hc := fun u => within_any x 0 1099511627776 u
  generalize isIn x 0 1099511627776 = b at hc ⊢
  go_enter Try.func54, Try.ntmps54
  go_wp2_with (go_at_call 50; (with_reducible refine (hc _).mono ?_); rintro e w1 ⟨rfl, rfl⟩)
  go_ret
  exact ⟨rfl, rfl⟩

/-! The parts that a kind has, as a number. -/
set_option maxRecDepth 100000 in
theorem gen_fits (g q : Int) (w : World) (hq : q = 0 ∨ q = 1 ∨ q = 6 ∨ q = 10) : Calls Try.prog 38 #[.int .i64 g, .int .i64 q] w fun e w' => e = .returned (.bool (if q = 6 ∨ q = 10 then isIn g 1 1099511627776 else g == 0)) ∧ w = w' := by
  rcases hq with rfl | rfl | rfl | rfl
  · rw [if_neg (by omega)]
    go_enter Try.func38, Try.ntmps38
    go_wp2
    go_ret
    exact ⟨rfl, rfl⟩
  · rw [if_neg (by omega)]
    go_enter Try.func38, Try.ntmps38
    go_wp2
    go_ret
    exact ⟨rfl, rfl⟩
  · rw [if_pos (by omega)]
    have hc := fun u => gen_any g u
    generalize isIn g 1 1099511627776 = b at hc ⊢
    go_enter Try.func38, Try.ntmps38
    go_wp2_with (go_at_call 53; (with_reducible refine (hc _).mono ?_); rintro e w1 ⟨rfl, rfl⟩)
    go_ret
    exact ⟨rfl, rfl⟩
  · rw [if_pos (by omega)]
    have hc := fun u => gen_any g u
    generalize isIn g 1 1099511627776 = b at hc ⊢
    go_enter Try.func38, Try.ntmps38
    go_wp2_with (go_at_call 53; (with_reducible refine (hc _).mono ?_); rintro e w1 ⟨rfl, rfl⟩)
    go_ret
    exact ⟨rfl, rfl⟩
set_option maxRecDepth 100000 in
theorem hop_fits (g q : Int) (w : World) (hq : q = 0 ∨ q = 1 ∨ q = 6 ∨ q = 10) : Calls Try.prog 39 #[.int .i64 g, .int .i64 q] w fun e w' => e = .returned (.bool (if q = 6 then isIn g 0 1099511627776 else g == 0)) ∧ w = w' := by
  rcases hq with rfl | rfl | rfl | rfl
  · rw [if_neg (by omega)]
    go_enter Try.func39, Try.ntmps39
    go_wp2
    go_ret
    exact ⟨rfl, rfl⟩
  · rw [if_neg (by omega)]
    go_enter Try.func39, Try.ntmps39
    go_wp2
    go_ret
    exact ⟨rfl, rfl⟩
  · rw [if_pos rfl]
    have hc := fun u => hop_any g u
    generalize isIn g 0 1099511627776 = b at hc ⊢
    go_enter Try.func39, Try.ntmps39
    go_wp2_with (go_at_call 54; (with_reducible refine (hc _).mono ?_); rintro e w1 ⟨rfl, rfl⟩)
    go_ret
    exact ⟨rfl, rfl⟩
  · rw [if_neg (by omega)]
    go_enter Try.func39, Try.ntmps39
    go_wp2
    go_ret
    exact ⟨rfl, rfl⟩
set_option maxRecDepth 100000 in
theorem bits_fit (g q : Int) (w : World) (hq : q = 0 ∨ q = 1 ∨ q = 6 ∨ q = 10) : Calls Try.prog 40 #[.int .u64 g, .int .i64 q] w fun e w' => e = .returned (.bool (if q = 10 then true else g == 0)) ∧ w = w' := by
  rcases hq with rfl | rfl | rfl | rfl
  · rw [if_neg (by omega)]
    go_enter Try.func40, Try.ntmps40
    go_wp2
    go_ret
    exact ⟨rfl, rfl⟩
  · rw [if_neg (by omega)]
    go_enter Try.func40, Try.ntmps40
    go_wp2
    go_ret
    exact ⟨rfl, rfl⟩
  · rw [if_neg (by omega)]
    go_enter Try.func40, Try.ntmps40
    go_wp2
    go_ret
    exact ⟨rfl, rfl⟩
  · rw [if_pos rfl]
    go_enter Try.func40, Try.ntmps40
    go_wp2
    go_ret
    exact ⟨rfl, rfl⟩
end Go.Proofs.Ytkdjhphakopfeaa.Frame
