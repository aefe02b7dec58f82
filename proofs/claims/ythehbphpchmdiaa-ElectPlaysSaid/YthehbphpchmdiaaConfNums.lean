/-
  The calls of package conf on numbers alone (within, isRing, Right, Key, Owner, Next) and the document's answers (Right, Owner, Next) return what the plain functions of ConfPlain give, and leave the world as it was; any ints.
-/
import Derived.Test.YthehbphpchmdiaaChecked
import Derived.Test.YthehbphpchmdiaaConfPlain
import Derived.Test.YthehbphpchmdiaaRingWalks
import Derived.WalkKit
import Derived.ProofKit
import Derived.Outline
import Derived.Lib.Hide
import Derived.IntWalk
namespace Go.Proofs.Ythehbphpchmdiaa.Conf
open Go.RowKit Ring

theorem okRing_within (n : Int) : okRing n = within n 1 64 := rfl

theorem within_any (x lo hi : Int) (w : World) :
    Calls Try.prog 35 #[.int .i64 x, .int .i64 lo, .int .i64 hi] w fun e w' => e = .returned (.bool (within x lo hi)) ∧ w = w' := by
  by_cases h : lo ≤ x
  · go_enter Try.func35, Try.ntmps35
    go_wp2
    go_ret
    exact ⟨ret_bool (by unfold within; simp [h]), rfl⟩
  · go_enter Try.func35, Try.ntmps35
    go_wp2
    go_ret
    exact ⟨ret_bool (within_no (by omega)).symm, rfl⟩

theorem isRing_any (n : Int) (w : World) :
    Calls Try.prog 34 #[.int .i64 n] w fun e w' => e = .returned (.bool (within n 1 64)) ∧ w = w' := by
  go_enter Try.func34, Try.ntmps34
  go_wp2_with (go_at_call 35; refine (within_any _ _ _ _).mono ?_; rintro e w' ⟨rfl, rfl⟩)
  go_ret
  exact ⟨rfl, rfl⟩



theorem ret_pair {a b c d : Int} (h : (c, d) = (a, b)) : Ending.returned (.tuple #[.int .i64 a, .int .i64 b]) = .returned (.tuple #[.int .i64 c, .int .i64 d]) := by
  cases h; rfl




theorem next_any (n a d : Int) (w : World) :
    Calls Try.prog 25 #[.int .i64 n, .int .i64 a, .int .i64 d] w fun e w' => e = .returned (.tuple #[.int .i64 (next n a d).1, .int .i64 (next n a d).2]) ∧ w = w' := by
  by_cases h0 : 1 ≤ n ∧ n ≤ 64
  · have t0 := within_yes h0.1 h0.2
    by_cases h1 : 0 ≤ d ∧ d ≤ n - 1
    · have t1 := within_yes h1.1 h1.2
      have H : 1 ≤ n ∧ n ≤ 64 ∧ 0 ≤ d ∧ d < n := by omega
      obtain ⟨a0, a1⟩ := h0; obtain ⟨b0, b1⟩ := h1
      by_cases h2 : 1099511627776 ≤ a
      · have hk := Lib.hid (next_far H h2)
        clear H
        go_enter Try.func25, Try.ntmps25
        go_wp2_with (first | (go_at_call 35; refine (within_any _ _ _ _).mono ?_; rintro e w' ⟨rfl, rfl⟩) | (go_at_call 34; refine (isRing_any _ _).mono ?_; rintro e w' ⟨rfl, rfl⟩))
        go_ret2
        exact ⟨ret_pair hk.out, rfl⟩
      · by_cases h3 : n + d ≤ a
        · have e : bal n a d = a - (a - d) % n + n := by unfold bal; rw [if_pos h3]
          have r0 := Int.emod_nonneg (a - d) (by omega : n ≠ 0)
          have r1 := Int.emod_lt_of_pos (a - d) (by omega : 0 < n)
          by_cases h4 : 1099511627776 < a - (a - d) % n + n
          · have hk := Lib.hid (next_over H h2 (e ▸ h4))
            clear H e
            go_enter Try.func25, Try.ntmps25
            go_wp2_with (first | (go_at_call 35; refine (within_any _ _ _ _).mono ?_; rintro e w' ⟨rfl, rfl⟩) | (go_at_call 34; refine (isRing_any _ _).mono ?_; rintro e w' ⟨rfl, rfl⟩))
            go_ret2
            exact ⟨ret_pair hk.out, rfl⟩
          · have hk := next_ok H h2 (e ▸ h4)
            rw [e] at hk
            have hk := Lib.hid hk
            clear H e
            go_enter Try.func25, Try.ntmps25
            go_wp2_with (first | (go_at_call 35; refine (within_any _ _ _ _).mono ?_; rintro e w' ⟨rfl, rfl⟩) | (go_at_call 34; refine (isRing_any _ _).mono ?_; rintro e w' ⟨rfl, rfl⟩))
            go_ret2
            exact ⟨ret_pair hk.out, rfl⟩
        · have e : bal n a d = n + d := by unfold bal; rw [if_neg h3]
          have hk := next_ok H h2 (by rw [e]; omega)
          rw [e] at hk
          have hk := Lib.hid hk
          clear H e
          go_enter Try.func25, Try.ntmps25
          go_wp2_with (first | (go_at_call 35; refine (within_any _ _ _ _).mono ?_; rintro e w' ⟨rfl, rfl⟩) | (go_at_call 34; refine (isRing_any _ _).mono ?_; rintro e w' ⟨rfl, rfl⟩))
          go_ret2
          exact ⟨ret_pair hk.out, rfl⟩
    · have t1 := within_no h1
      have hk := Lib.hid (next_arg (above := a) (fun k => h1 ⟨k.2.2.1, by omega⟩ : ¬ (1 ≤ n ∧ n ≤ 64 ∧ 0 ≤ d ∧ d < n)))
      obtain ⟨a0, a1⟩ := h0; clear h1
      go_enter Try.func25, Try.ntmps25
      go_wp2_with (first | (go_at_call 35; refine (within_any _ _ _ _).mono ?_; rintro e w' ⟨rfl, rfl⟩) | (go_at_call 34; refine (isRing_any _ _).mono ?_; rintro e w' ⟨rfl, rfl⟩))
      go_ret2
      exact ⟨ret_pair hk.out, rfl⟩
  · have t0 := within_no h0
    have hk := Lib.hid (next_arg (above := a) (fun k => h0 ⟨k.1, k.2.1⟩ : ¬ (1 ≤ n ∧ n ≤ 64 ∧ 0 ≤ d ∧ d < n)))
    clear h0
    go_enter Try.func25, Try.ntmps25
    go_wp2_with (first | (go_at_call 35; refine (within_any _ _ _ _).mono ?_; rintro e w' ⟨rfl, rfl⟩) | (go_at_call 34; refine (isRing_any _ _).mono ?_; rintro e w' ⟨rfl, rfl⟩))
    go_ret2
    exact ⟨ret_pair hk.out, rfl⟩

theorem refnext_any (n a d : Int) (w : World) (ha : -9223372036854775808 ≤ a) :
    Calls Try.prog 31 #[.int .i64 n, .int .i64 a, .int .i64 d] w fun e w' => e = .returned (.tuple #[.int .i64 (next n a d).1, .int .i64 (next n a d).2]) ∧ w = w' := by
  by_cases h0 : 1 ≤ n ∧ n ≤ 64
  · have t0 : okRing n = true := within_yes h0.1 h0.2
    obtain ⟨a0, a1⟩ := h0
    by_cases h1 : 0 ≤ d
    · by_cases h1' : d < n
      · have H : 1 ≤ n ∧ n ≤ 64 ∧ 0 ≤ d ∧ d < n := by omega
        by_cases h2 : 1099511627776 ≤ a
        · have hk := Lib.hid (next_far H h2)
          clear H
          go_enter Try.func31, Try.ntmps31
          go_wp2_with (go_at_call 19; refine (Ring.right_any _ _).mono ?_; rintro e w' ⟨rfl, rfl⟩)
          go_ret2
          exact ⟨ret_pair hk.out, rfl⟩
        · have hlo := bal_lo (above := a) a0 h1
          have hab := bal_above (above := a) (node := d) a0
          have hne := bal_near (above := a) a0 h1'
          have HE := Lib.hid (fun (b : Int) (k0 : b ≤ bal n a d) (k1 : bal n a d < b + n) (km : b % n = d) => bal_here (above := a) h1 h1' k0 k1 km)
          have HN := Lib.hid (fun (b : Int) (k0 : b ≤ bal n a d) (km : b % n ≠ d) => bal_not (above := a) h1 h1' k0 km)
          have H4 : Hid ((1099511627776 < bal n a d ∧ next n a d = (0, 6)) ∨ (bal n a d ≤ 1099511627776 ∧ next n a d = (bal n a d, 0))) := Lib.hid (by
            by_cases h4 : 1099511627776 < bal n a d
            · exact .inl ⟨h4, next_over H h2 h4⟩
            · exact .inr ⟨by omega, next_ok H h2 h4⟩)
          have hbig : bal n a d < 1099511627776 + 130 := by omega
          clear H
          generalize bal n a d = T at *
          have hs : (n ≤ a + 1 ∧ T < a + 1 + n) ∨ (a + 1 < n ∧ T < n + n) := by omega
          clear hne
          rcases hs with ⟨hs, hne⟩ | ⟨hs, hne⟩
          all_goals
            go_enter Try.func31, Try.ntmps31
            go_wp2_with (go_at_call 19; refine (Ring.right_any _ _).mono ?_; rintro e w' ⟨rfl, rfl⟩)
            go_loop [9] (fun i => ∃ b : Int, i = .int .i64 b ∧ n ≤ b ∧ b ≤ T ∧ T < b + n) (fun i => (T - intOf i).toNat)
            case atStart => exact ⟨_, rfl, by omega, by omega, by omega⟩
            case round =>
              obtain ⟨b, rfl, k0, k1, k2⟩ := hrel
              have hr0 := Int.emod_nonneg b (by omega : n ≠ 0)
              by_cases hm : b % n = d
              · have hbT := HE.out b k1 k2 hm
                have hmb : (b % n == d) = true := beq_iff_eq.2 hm
                clear hm
                have H5 := H4.out
                rw [← hbT] at H5
                clear hbT
                rcases H5 with ⟨h4, hk0⟩ | ⟨h4, hk0⟩
                all_goals
                  have hk := Lib.hid hk0; clear hk0
                  go_wp2
                  all_goals (go_ret2; exact ⟨ret_pair hk.out, rfl⟩)
              · have hbT := HN.out b k1 hm
                have hmb : (b % n == d) = false := beq_eq_false_iff_ne.2 hm
                clear hm
                go_wp2
                go_round
                case rel => exact ⟨b + 1, rfl, by omega, by omega, by omega⟩
                case measure => simp only [intOf]; omega
      · have hk := Lib.hid (next_arg (above := a) (fun k => h1' k.2.2.2 : ¬ (1 ≤ n ∧ n ≤ 64 ∧ 0 ≤ d ∧ d < n)))
        go_enter Try.func31, Try.ntmps31
        go_wp2_with (go_at_call 19; refine (Ring.right_any _ _).mono ?_; rintro e w' ⟨rfl, rfl⟩)
        go_ret2
        exact ⟨ret_pair hk.out, rfl⟩
    · have hk := Lib.hid (next_arg (above := a) (fun k => h1 k.2.2.1 : ¬ (1 ≤ n ∧ n ≤ 64 ∧ 0 ≤ d ∧ d < n)))
      go_enter Try.func31, Try.ntmps31
      go_wp2_with (go_at_call 19; refine (Ring.right_any _ _).mono ?_; rintro e w' ⟨rfl, rfl⟩)
      go_ret2
      exact ⟨ret_pair hk.out, rfl⟩
  · have t0 : okRing n = false := within_no h0
    have hk := Lib.hid (next_arg (above := a) (fun k => h0 ⟨k.1, k.2.1⟩ : ¬ (1 ≤ n ∧ n ≤ 64 ∧ 0 ≤ d ∧ d < n)))
    clear h0
    go_enter Try.func31, Try.ntmps31
    go_wp2_with (go_at_call 19; refine (Ring.right_any _ _).mono ?_; rintro e w' ⟨rfl, rfl⟩)
    go_ret2
    exact ⟨ret_pair hk.out, rfl⟩
end Go.Proofs.Ythehbphpchmdiaa.Conf
