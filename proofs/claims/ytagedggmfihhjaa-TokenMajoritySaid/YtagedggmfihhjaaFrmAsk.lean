/-
  The program's within, isNode, genMayBe, hopMayBe, and conf's within and Right: each returns what the plain functions of FramePlain give; the world stays.
-/
import Derived.Test.YtagedggmfihhjaaFrameSameToken
namespace Go.Proofs.Ytagedggmfihhjaa.Frame
open Go.RowKit Codec

theorem within_any (x lo hi : Int) (w : World) : Calls Try.prog 51 #[.int .i64 x, .int .i64 lo, .int .i64 hi] w fun e w' => e = .returned (.bool (isIn x lo hi)) ∧ w = w' := by
  cases h : isIn x lo hi with
  | true =>
    obtain ⟨h0, h1⟩ := isIn_yes h
    clear h
    go_enter Try.func51, Try.ntmps51
    go_wp2
    go_ret
    exact ⟨rfl, rfl⟩
  | false =>
    rcases isIn_no h with h0 | ⟨h0, h1⟩
    · have h2 : decide (lo ≤ x) = false := by simp; omega
      clear h h0
      go_enter Try.func51, Try.ntmps51
      go_wp2
      go_ret
      exact ⟨rfl, rfl⟩
    · have h2 : decide (x ≤ hi) = false := by simp; omega
      clear h h1
      go_enter Try.func51, Try.ntmps51
      go_wp2
      go_ret
      exact ⟨rfl, rfl⟩
theorem cwithin_any (x lo hi : Int) (w : World) : Calls Try.prog 61 #[.int .i64 x, .int .i64 lo, .int .i64 hi] w fun e w' => e = .returned (.bool (isIn x lo hi)) ∧ w = w' := by
  cases h : isIn x lo hi with
  | true =>
    obtain ⟨h0, h1⟩ := isIn_yes h
    clear h
    go_enter Try.func61, Try.ntmps61
    go_wp2
    go_ret
    exact ⟨rfl, rfl⟩
  | false =>
    rcases isIn_no h with h0 | ⟨h0, h1⟩
    · have h2 : decide (lo ≤ x) = false := by simp; omega
      clear h h0
      go_enter Try.func61, Try.ntmps61
      go_wp2
      go_ret
      exact ⟨rfl, rfl⟩
    · have h2 : decide (x ≤ hi) = false := by simp; omega
      clear h h1
      go_enter Try.func61, Try.ntmps61
      go_wp2
      go_ret
      exact ⟨rfl, rfl⟩

theorem within_b {x lo hi : Int} {b : Bool} (h : isIn x lo hi = b) (w : World) : Calls Try.prog 51 #[.int .i64 x, .int .i64 lo, .int .i64 hi] w fun e w' => e = .returned (.bool b) ∧ w = w' := by
  rw [← h]
  exact within_any x lo hi w

theorem ckey_any (x : Int) (w : World) : Calls Try.prog 56 #[.int .i64 x] w fun e w' => e = .returned (.bool (isKey x)) ∧ w = w' := by
  have hk : isIn x 0 524287 = isKey x := by
    unfold isIn isKey
    congr 1
    apply propext
    omega
  have hc := fun u => cwithin_any x 0 524287 u
  rw [hk] at hc
  generalize isKey x = b at hc ⊢
  clear hk
  go_enter Try.func56, Try.ntmps56
  go_wp2_with (go_at_call 61; (with_reducible refine (hc _).mono ?_); rintro e w1 ⟨rfl, rfl⟩)
  go_ret
  exact ⟨rfl, rfl⟩
theorem isnode_any (x : Int) (w : World) : Calls Try.prog 62 #[.int .i64 x] w fun e w' => e = .returned (.bool (isIn x 0 63)) ∧ w = w' := by
  have hc := fun u => within_any x 0 63 u
  generalize isIn x 0 63 = b at hc ⊢
  go_enter Try.func62, Try.ntmps62
  go_wp2_with (go_at_call 51; (with_reducible refine (hc _).mono ?_); rintro e w1 ⟨rfl, rfl⟩)
  go_ret
  exact ⟨rfl, rfl⟩
theorem gen_any (x : Int) (w : World) : Calls Try.prog 34 #[.int .i64 x] w fun e w' => e = .returned (.bool (isIn x 1 1099511627776)) ∧ w = w' := by
  have hc := fun u => within_any x 1 1099511627776 u
  generalize isIn x 1 1099511627776 = b at hc ⊢
  go_enter Try.func34, Try.ntmps34
  go_wp2_with (go_at_call 51; (with_reducible refine (hc _).mono ?_); rintro e w1 ⟨rfl, rfl⟩)
  go_ret
  exact ⟨rfl, rfl⟩
theorem hop_any (x : Int) (w : World) : Calls Try.prog 35 #[.int .i64 x] w fun e w' => e = .returned (.bool (isIn x 0 1099511627776)) ∧ w = w' := by
  have hc := fun u => within_any x 0 1099511627776 u
  generalize isIn x 0 1099511627776 = b at hc ⊢
  go_enter Try.func35, Try.ntmps35
  go_wp2_with (go_at_call 51; (with_reducible refine (hc _).mono ?_); rintro e w1 ⟨rfl, rfl⟩)
  go_ret
  exact ⟨rfl, rfl⟩

/-! The parts that a kind has, as a number. -/
end Go.Proofs.Ytagedggmfihhjaa.Frame
