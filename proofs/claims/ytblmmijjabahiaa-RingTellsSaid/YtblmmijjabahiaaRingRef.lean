/-
  The document's answers All, Next, Nodes and Same of layer 2 return what the plain functions of RingPlain give (Same: of two slices that hold one list, true); of what lay nothing has turned; any ints, any set from 0 to 2^64 less 1.
-/
import Derived.Test.YtblmmijjabahiaaRingNodes
import Derived.Deep.QuietTactic
import Derived.BigQuiet
namespace Go.Proofs.Ytblmmijjabahiaa.Ring
open Go.RowKit Go.Shelf

theorem all_step (k : Nat) (hk : k < 64) : put ((2 ^ k - 1 : Nat) : Int) (k : Int) = ((2 ^ (k + 1) - 1 : Nat) : Int) := by
  have hp := Nat.two_pow_pos k
  have hl : 2 ^ k ≤ 2 ^ 63 := Nat.pow_le_pow_right (by decide) (by omega)
  have hn : has ((2 ^ k - 1 : Nat) : Int) (k : Int) = false := by
    rw [has_nat _ k hk, Int.toNat_natCast, Nat.testBit_two_pow_sub_one]; simp
  have h := ref_put ((2 ^ k - 1 : Nat) : Int) (k : Int) (Int.natCast_nonneg _) (by omega) (Int.natCast_nonneg _) (by omega) hn
  rw [← h, only_wrap (Int.natCast_nonneg _) (by omega), only_in (Int.natCast_nonneg _) (by omega), IntKind.wrap_u64, Int.toNat_natCast, Nat.pow_succ]
  generalize 2 ^ k = q at hp hl
  omega

set_option maxRecDepth 100000 in
theorem refall_any (n : Int) (w : World) (hn1 : n ≤ 9223372036854775807) :
    Calls Try.prog 32 #[.int .i64 n] w fun e w' => e = .returned (.int .u64 (all n)) ∧ w = w' := by
  rcases Bool.eq_false_or_eq_true (okRing n) with ho | ho
  · have hb : 1 ≤ n ∧ n ≤ 64 := by have h := ho; unfold okRing at h; simpa using h
    obtain ⟨h0, h1⟩ := hb
    have ha : all n = ((2 ^ n.toNat - 1 : Nat) : Int) := by unfold all; rw [ho]; rfl
    have HA := Lib.hid ha; clear ha
    go_enter Try.func32, Try.ntmps32
    go_wp2_with (go_at_call 55; refine (right_any _ _).mono ?_; rintro e w' ⟨rfl, rfl⟩)
    go_loop [4, 5] (fun s i => ∃ (k : Nat) (x : Int), (k : Int) ≤ n ∧ i = .int .i64 k ∧ s = .int .u64 x ∧ x = ((2 ^ k - 1 : Nat) : Int)) (fun _ i => 64 - (intOf i).toNat)
    case atStart => exact ⟨0, 0, by omega, rfl, rfl, rfl⟩
    case round =>
      obtain ⟨k, x, hk, rfl, rfl, hx⟩ := hrel
      have x0 : 0 ≤ x := by rw [hx]; exact Int.natCast_nonneg _
      have x1 : x < 18446744073709551616 := by
        have : 2 ^ k ≤ 2 ^ 64 := Nat.pow_le_pow_right (by decide) (by omega)
        omega
      have HX := Lib.hid hx; clear hx
      by_cases hlt : (k : Int) < n
      · have hs := all_step k (by omega)
        have HS := Lib.hid hs; clear hs
        go_wp2_with (go_at_call 26; refine (refwith_any _ _ _ x0 x1).mono ?_; rintro e w' ⟨rfl, rfl⟩)
        go_round
        case rel => exact ⟨k + 1, put x k, by omega, by go_num, rfl, by rw [HX.out, HS.out]⟩
        case measure => simp [intOf]; omega
      · have he : (k : Int) = n := by omega
        go_wp2
        go_ret
        refine ⟨ret_int ?_, rfl⟩
        rw [HA.out, HX.out, show n.toNat = k by omega]
  · have hz : all n = 0 := by unfold all; rw [ho]; rfl
    have HZ := Lib.hid hz; clear hz
    go_enter Try.func32, Try.ntmps32
    go_wp2_with (go_at_call 55; refine (right_any _ _).mono ?_; rintro e w' ⟨rfl, rfl⟩)
    go_loop [4, 5] (fun s i => s = .int .u64 0 ∧ i = .int .i64 0) (fun _ i => 64 - (intOf i).toNat)
    case atStart => exact ⟨rfl, rfl⟩
    case round =>
      obtain ⟨rfl, rfl⟩ := hrel
      by_cases hlt : 0 < n
      · go_wp2
        go_ret
        exact ⟨ret_int HZ.out.symm, rfl⟩
      · go_wp2
        go_ret
        exact ⟨ret_int HZ.out.symm, rfl⟩

set_option maxRecDepth 100000 in
theorem refnext_any (x n i : Int) (w : World) (hx0 : 0 ≤ x) :
    Calls Try.prog 30 #[.int .u64 x, .int .i64 n, .int .i64 i] w fun e w' => e = .returned (.int .i64 (next x n i)) ∧ w = w' := by
  rcases Bool.eq_false_or_eq_true (okRing n) with ho | ho
  · have hb : 1 ≤ n ∧ n ≤ 64 := by have h := ho; unfold okRing at h; simpa using h
    obtain ⟨h0, h1⟩ := hb
    by_cases hi0 : 0 ≤ i
    · by_cases hi1 : i < n
      · have hr : next x n i = ((behind n i).find? (fun j => has x j)).getD i := next_in (by rw [has_all, ho]; simp [hi0, hi1])
        have HR := Lib.hid hr; clear hr
        go_enter Try.func30, Try.ntmps30
        go_wp2_with (go_at_call 55; refine (right_any _ _).mono ?_; rintro e w' ⟨rfl, rfl⟩)
        go_loop [8] (fun k => ∃ q : Nat, k = .int .i64 ((q : Int) + 1) ∧ (q : Int) + 1 ≤ n ∧ ∀ y ∈ bpre n i q, has x y = false) (fun k => 65 - (intOf k).toNat)
        case atStart => exact ⟨0, rfl, by omega, by simp [bpre]⟩
        case round =>
          obtain ⟨q, rfl, hq, hf⟩ := hrel
          have HF := Lib.hid hf; clear hf
          by_cases hq2 : (q : Int) + 1 < n
          · have he : (i + ((q : Int) + 1)).tmod n = (i + ((q : Int) + 1)) % n := Int.tmod_eq_emod_of_nonneg (by omega)
            have hs := bpre_succ n i q
            have hp := bpre_in n i (q + 1) (by omega)
            rw [hs] at hp
            have HS := Lib.hid hs; clear hs
            have HP := Lib.hid hp; clear hp
            rcases Bool.eq_false_or_eq_true (has x ((i + ((q : Int) + 1)) % n)) with hy | hy
            · go_wp2_with (go_at_call 24; refine (refhas_any _ _ _ hx0).mono ?_; rintro e w' ⟨rfl, rfl⟩)
              go_ret
              refine ⟨ret_int ?_, rfl⟩
              rw [HR.out, find_first HP.out HF.out hy]
            · go_wp2_with (go_at_call 24; refine (refhas_any _ _ _ hx0).mono ?_; rintro e w' ⟨rfl, rfl⟩)
              go_round
              case rel => exact ⟨q + 1, by go_num, by omega, fun z hz => by rw [HS.out] at hz; exact (List.mem_append.1 hz).elim (HF.out z) (fun e => by simp at e; rw [e]; exact hy)⟩
              case measure => simp [intOf]; omega
          · have hqe : bpre n i q = behind n i := by rw [← bpre_all]; congr 1; omega
            have HQ := Lib.hid hqe; clear hqe
            go_wp2
            go_ret
            refine ⟨ret_int ?_, rfl⟩
            have h := HF.out; rw [HQ.out] at h
            rw [HR.out, find_none h]
      · have hr : next x n i = -1 := next_out (by rw [has_all]; simp [hi1])
        have HR := Lib.hid hr; clear hr
        go_enter Try.func30, Try.ntmps30
        go_wp2_with (go_at_call 55; refine (right_any _ _).mono ?_; rintro e w' ⟨rfl, rfl⟩)
        go_ret
        exact ⟨ret_int HR.out.symm, rfl⟩
    · have hr : next x n i = -1 := next_out (by rw [has_all]; simp [hi0])
      have HR := Lib.hid hr; clear hr
      go_enter Try.func30, Try.ntmps30
      go_wp2_with (go_at_call 55; refine (right_any _ _).mono ?_; rintro e w' ⟨rfl, rfl⟩)
      go_ret
      exact ⟨ret_int HR.out.symm, rfl⟩
  · have hr : next x n i = -1 := next_out (by rw [has_all, ho]; rfl)
    have HR := Lib.hid hr; clear hr
    go_enter Try.func30, Try.ntmps30
    go_wp2_with (go_at_call 55; refine (right_any _ _).mono ?_; rintro e w' ⟨rfl, rfl⟩)
    go_ret
    exact ⟨ret_int HR.out.symm, rfl⟩
end Go.Proofs.Ytblmmijjabahiaa.Ring
