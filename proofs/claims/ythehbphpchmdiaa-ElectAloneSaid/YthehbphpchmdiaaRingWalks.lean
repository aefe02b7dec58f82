/-
  The plain calls of package ring (only, Has, With, Without, isRing, All, Majority) and of the document's answers (Has, With, Without, Right, All, Majority) return what the plain functions of RingPlain give, and leave the world as it was; any ints, any set from 0 to 2^64 less 1.
-/
import Derived.Test.YthehbphpchmdiaaChecked
import Derived.Test.YthehbphpchmdiaaRingPlain
import Derived.WalkKit
import Derived.ProofKit
import Derived.Outline
import Derived.Lib.Hide
import Derived.IntWalk
namespace Go.Proofs.Ythehbphpchmdiaa.Ring
open Go.RowKit

theorem ret_int {k : IntKind} {a b : Int} (h : a = b) : Ending.returned (.int k a) = .returned (.int k b) := by rw [h]
theorem ret_bool {a b : Bool} (h : a = b) : Ending.returned (.bool a) = .returned (.bool b) := by rw [h]

theorem only_any (i : Int) (w : World) :
    Calls Try.prog 30 #[.int .i64 i] w fun e w' => e = .returned (.int .u64 (only i)) ∧ w = w' := by
  by_cases h : 0 ≤ i ∧ i < 64
  · obtain ⟨h0, h1⟩ := h
    go_enter Try.func30, Try.ntmps30
    go_wp2
    go_ret
    exact ⟨ret_int (only_wrap h0 h1), rfl⟩
  · have ho := Lib.hid (only_out h)
    by_cases h0 : i < 0
    · go_enter Try.func30, Try.ntmps30
      go_wp2
      go_ret
      exact ⟨ret_int ho.out.symm, rfl⟩
    · have h1 : 64 ≤ i := by omega
      clear h
      go_enter Try.func30, Try.ntmps30
      go_wp2
      go_ret
      exact ⟨ret_int ho.out.symm, rfl⟩

theorem has_any (x i : Int) (w : World) (h0 : 0 ≤ x) (h1 : x < 18446744073709551616) :
    Calls Try.prog 17 #[.int .u64 x, .int .i64 i] w fun e w' => e = .returned (.bool (has x i)) ∧ w = w' := by
  go_enter Try.func17, Try.ntmps17
  go_wp2_with (go_at_call 30; refine (only_any _ _).mono ?_; rintro e w' ⟨rfl, rfl⟩)
  go_ret
  exact ⟨ret_bool (and_has x i h0 h1), rfl⟩

theorem with_any (x i : Int) (w : World) (h0 : 0 ≤ x) (h1 : x < 18446744073709551616) :
    Calls Try.prog 36 #[.int .u64 x, .int .i64 i] w fun e w' => e = .returned (.int .u64 (put x i)) ∧ w = w' := by
  go_enter Try.func36, Try.ntmps36
  go_wp2_with (go_at_call 30; refine (only_any _ _).mono ?_; rintro e w' ⟨rfl, rfl⟩)
  go_ret
  exact ⟨ret_int (or_put x i h0 h1), rfl⟩


theorem isRing_any (n : Int) (w : World) :
    Calls Try.prog 29 #[.int .i64 n] w fun e w' => e = .returned (.bool (okRing n)) ∧ w = w' := by
  by_cases h : 1 ≤ n
  · go_enter Try.func29, Try.ntmps29
    go_wp2
    go_ret
    exact ⟨ret_bool (by unfold okRing; rw [Bool.eq_iff_iff]; simp; omega), rfl⟩
  · go_enter Try.func29, Try.ntmps29
    go_wp2
    go_ret
    exact ⟨ret_bool (by unfold okRing; rw [Bool.eq_iff_iff]; simp; omega), rfl⟩

theorem right_any (n : Int) (w : World) :
    Calls Try.prog 19 #[.int .i64 n] w fun e w' => e = .returned (.bool (okRing n)) ∧ w = w' := by
  by_cases h : 1 ≤ n
  · go_enter Try.func19, Try.ntmps19
    go_wp2
    go_ret
    exact ⟨ret_bool (by unfold okRing; rw [Bool.eq_iff_iff]; simp; omega), rfl⟩
  · go_enter Try.func19, Try.ntmps19
    go_wp2
    go_ret
    exact ⟨ret_bool (by unfold okRing; rw [Bool.eq_iff_iff]; simp; omega), rfl⟩

theorem all_any (n : Int) (w : World) :
    Calls Try.prog 16 #[.int .i64 n] w fun e w' => e = .returned (.int .u64 (all n)) ∧ w = w' := by
  rcases Bool.eq_false_or_eq_true (okRing n) with ho | ho
  · have hb : 1 ≤ n ∧ n ≤ 64 := by have h := ho; unfold okRing at h; simpa using h
    obtain ⟨h0, h1⟩ := hb
    go_enter Try.func16, Try.ntmps16
    go_wp2_with (go_at_call 29; refine (isRing_any _ _).mono ?_; rintro e w' ⟨rfl, rfl⟩)
    go_ret
    exact ⟨ret_int (all_shift n h0 h1), rfl⟩
  · have hz : all n = 0 := by unfold all; rw [ho]; rfl
    go_enter Try.func16, Try.ntmps16
    go_wp2_with (go_at_call 29; refine (isRing_any _ _).mono ?_; rintro e w' ⟨rfl, rfl⟩)
    go_ret
    exact ⟨ret_int hz.symm, rfl⟩

theorem maj_any (n : Int) (w : World) (hn : n ≤ 9223372036854775807) :
    Calls Try.prog 28 #[.int .i64 n] w fun e w' => e = .returned (.int .i64 (maj n)) ∧ w = w' := by
  by_cases h : n < 1
  · go_enter Try.func28, Try.ntmps28
    go_wp2
    go_ret
    exact ⟨ret_int (by unfold maj; rw [if_pos h]), rfl⟩
  · go_enter Try.func28, Try.ntmps28
    go_wp2
    go_ret
    refine ⟨ret_int ?_, rfl⟩
    unfold maj; rw [if_neg (by omega)]


theorem refhas_any (x i : Int) (w : World) (h : 0 ≤ x) :
    Calls Try.prog 38 #[.int .u64 x, .int .i64 i] w fun e w' => e = .returned (.bool (has x i)) ∧ w = w' := by
  by_cases h0 : 0 ≤ i
  · by_cases h1 : i < 64
    · go_enter Try.func38, Try.ntmps38
      go_wp2
      go_ret
      exact ⟨ret_bool (ref_has x i h h0 h1), rfl⟩
    · have hf : Hid (has x i = false) := Lib.hid (by unfold has; rw [decide_eq_false (by omega)]; rfl)
      go_enter Try.func38, Try.ntmps38
      go_wp2
      go_ret
      exact ⟨ret_bool hf.out.symm, rfl⟩
  · have hf : Hid (has x i = false) := Lib.hid (by unfold has; rw [decide_eq_false (by omega)]; rfl)
    go_enter Try.func38, Try.ntmps38
    go_wp2
    go_ret
    exact ⟨ret_bool hf.out.symm, rfl⟩

theorem refwith_any (x i : Int) (w : World) (h : 0 ≤ x) (hx : x < 18446744073709551616) :
    Calls Try.prog 32 #[.int .u64 x, .int .i64 i] w fun e w' => e = .returned (.int .u64 (put x i)) ∧ w = w' := by
  have hw : (has x i = true ∧ put x i = x) ∨ (has x i = false ∧ i < 0 ∧ put x i = x) ∨ (has x i = false ∧ 63 < i ∧ put x i = x) ∨ (has x i = false ∧ 0 ≤ i ∧ i ≤ 63 ∧ IntKind.u64.wrap (x + IntKind.u64.wrap (2 ^ i.toNat)) = put x i) := by
    rcases Bool.eq_false_or_eq_true (has x i) with e | e
    · exact .inl ⟨e, put_same x i h hx (.inl e)⟩
    · by_cases h0 : i < 0
      · exact .inr (.inl ⟨e, h0, put_same x i h hx (.inr (by omega))⟩)
      · by_cases h1 : 63 < i
        · exact .inr (.inr (.inl ⟨e, h1, put_same x i h hx (.inr (by omega))⟩))
        · exact .inr (.inr (.inr ⟨e, by omega, by omega, ref_put x i h hx (by omega) (by omega) e⟩))
  rcases hw with ⟨e, p⟩ | ⟨e, h0, p⟩ | ⟨e, h1, p⟩ | ⟨e, h0, h1, p⟩
  all_goals
    have P := Lib.hid p; clear p
    go_enter Try.func32, Try.ntmps32
    go_wp2_with (go_at_call 38; refine (refhas_any _ _ _ h).mono ?_; rintro e w' ⟨rfl, rfl⟩)
    go_ret
    first | exact ⟨ret_int P.out, rfl⟩ | exact ⟨ret_int P.out.symm, rfl⟩

end Go.Proofs.Ythehbphpchmdiaa.Ring
