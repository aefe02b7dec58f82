/-
  conf.Quarantine and the document's of any configuration return the same number, and of what lay nothing has turned.
-/
import Derived.Test.YtblmmijjabahiaaConfCheck
import Derived.Test.YtblmmijjabahiaaSatWalks
import Derived.Deep.RegionHeld3
namespace Go.Proofs.Ytblmmijjabahiaa.Conf
open Go.RowKit Ring

theorem add3d (x y z : Int) (w : World) (b : Nat) (hb : b = w.heap.size) :
    Calls Try.prog 15 #[.slice (some ⟨b, 0, none⟩) 3 3] (w.alloc (.cells #[.int .i64 x, .int .i64 y, .int .i64 z] 3)).drew fun e w' => e = .returned (.int .i64 (Sat.add [x, y, z])) ∧ (w.alloc (.cells #[.int .i64 x, .int .i64 y, .int .i64 z] 3)).drew = w' := by
  subst hb
  refine Sat.add_any [x, y, z] _ 3 _ (by simp) fun k hk => ?_
  show (w.alloc (.cells #[.int .i64 x, .int .i64 y, .int .i64 z] 3)).cell? _ = _
  rw [World.cell?_alloc_new]
  match k, hk with
  | 0, _ => rfl
  | 1, _ => rfl
  | 2, _ => rfl

set_option maxRecDepth 100000 in
set_option maxHeartbeats 1000000 in
theorem wait_any (n sk tl va lo he ke qu : Int) (p : Option Addr) (l c : Nat) (w : World) :
    Calls Try.prog 44 #[.agg #[.int .i64 n, .int .i64 sk, .int .i64 tl, .int .i64 va, .int .i64 lo, .int .i64 he, .int .i64 ke, .int .i64 qu, .slice p l c]] w fun e w' => e = .returned (.int .i64 (Sat.add [va, tl, Sat.mul 4 sk])) ∧ Below w.heap.size w w' := by
  have hS := start w n sk tl va lo he ke qu p l c
  go_enter Try.func44, Try.ntmps44
  go_wp2
  generalize w.alloc (.cells #[.int .i64 n, .int .i64 sk, .int .i64 tl, .int .i64 va, .int .i64 lo, .int .i64 he, .int .i64 ke, .int .i64 qu, .slice p l c] 48) = W at hS ⊢
  obtain ⟨hb, _, c1, c2, c3, _, _, _, _, _⟩ := hS
  go_region_held3 (fun u => u.cell? ⟨w.heap.size, 1, none⟩ = some (.int .i64 sk) ∧ u.cell? ⟨w.heap.size, 2, none⟩ = some (.int .i64 tl) ∧ u.cell? ⟨w.heap.size, 3, none⟩ = some (.int .i64 va)) (first | exact ⟨c1, c2, c3⟩ | go_keep) (first | (go_at_call 16; refine (Sat.mul_any _ _ _).mono ?_; rintro e w' ⟨rfl, rfl⟩) | (go_at_call 15; (with_reducible refine (add3d _ _ _ _ _ ?hb).mono ?_); (case hb => simp); rintro e w' ⟨rfl, rfl⟩))
  go_wp2
  go_ret
  exact ⟨rfl, (hb.alloc hb.size _).drew⟩

/-! The document's sum. -/

theorem reffit_any (x : Int) (w : World) :
    Calls Try.prog 108 #[.int .i64 x] w fun e w' => e = .returned (.int .i64 (Sat.fit x)) ∧ w = w' := by
  by_cases h1 : x < 0
  · go_enter Try.func108, Try.ntmps108
    go_wp2
    go_ret
    exact ⟨ret_int (by unfold Sat.fit; rw [if_pos h1]), rfl⟩
  · by_cases h2 : 4611686018427387904 < x
    · go_enter Try.func108, Try.ntmps108
      go_wp2
      go_ret
      exact ⟨ret_int (by unfold Sat.fit Sat.top; rw [if_neg (by omega), if_pos h2]), rfl⟩
    · go_enter Try.func108, Try.ntmps108
      go_wp2
      go_ret
      exact ⟨ret_int (by unfold Sat.fit Sat.top; rw [if_neg (by omega), if_neg (by omega)]), rfl⟩

theorem two_eq (a b : Int) : Sat.add [a, b] = if 4611686018427387904 - Sat.fit a < Sat.fit b then 4611686018427387904 else Sat.fit a + Sat.fit b := by
  unfold Sat.add Sat.top; rw [Sat.sum_two]
  by_cases h : 4611686018427387904 < Sat.fit a + Sat.fit b
  · rw [if_pos h, if_pos (by omega)]
  · rw [if_neg h, if_neg (by omega)]

theorem reftwo_any (a b : Int) (w : World) :
    Calls Try.prog 96 #[.int .i64 a, .int .i64 b] w fun e w' => e = .returned (.int .i64 (Sat.add [a, b])) ∧ w = w' := by
  have a0 := Sat.fit_lo a; have a1 := Sat.fit_hi a; have b0 := Sat.fit_lo b; have b1 := Sat.fit_hi b
  have HE := Lib.hid (two_eq a b)
  by_cases h : 4611686018427387904 - Sat.fit a < Sat.fit b
  · go_enter Try.func96, Try.ntmps96
    go_wp2_with (go_at_call 108; refine (reffit_any _ _).mono ?_; rintro e w' ⟨rfl, rfl⟩)
    go_ret
    exact ⟨ret_int (by rw [HE.out, if_pos h]), rfl⟩
  · go_enter Try.func96, Try.ntmps96
    go_wp2_with (go_at_call 108; refine (reffit_any _ _).mono ?_; rintro e w' ⟨rfl, rfl⟩)
    go_ret
    exact ⟨ret_int (by rw [HE.out, if_neg (by omega)]), rfl⟩

theorem add_take (l : List Int) (k : Nat) (h : k < l.length) : Sat.add (l.take (k + 1)) = Sat.add [Sat.add (l.take k), l.getD k 0] := by
  have h1 := Sat.sum_take l k h
  have h2 := Sat.sum_two (Sat.add (l.take k)) (l.getD k 0)
  rw [Sat.fit_add] at h2
  have h3 := Sat.fit_lo (l.getD k 0)
  unfold Sat.add at h2 ⊢
  rw [h1, h2]
  unfold Sat.top
  repeat' split
  all_goals omega

theorem refadd_any (l : List Int) (b c : Nat) (w : World) (hl : l.length ≤ 1000)
    (hc : ∀ k : Nat, k < l.length → w.cell? ⟨b, k, none⟩ = some (.int .i64 (l.getD k 0))) :
    Calls Try.prog 84 #[.slice (some ⟨b, 0, none⟩) l.length c] w fun e w' => e = .returned (.int .i64 (Sat.add l)) ∧ w = w' := by
  have HC := Lib.hid hc; clear hc
  go_enter Try.func84, Try.ntmps84
  go_wp2
  go_loop [3, 4] (fun s i => ∃ k : Nat, k ≤ l.length ∧ i = .int .i64 (k : Int) ∧ s = .int .i64 (Sat.add (l.take k))) (fun _ i => l.length - (intOf i).toNat)
  case atStart => exact ⟨0, Nat.zero_le _, rfl, rfl⟩
  case round =>
    obtain ⟨k, hk, rfl, rfl⟩ := hrel
    by_cases hlt : k < l.length
    · have hlt' : (k : Int) < (l.length : Int) := by omega
      have hcell := HC.out k hlt
      have HS := Lib.hid (add_take l k hlt)
      generalize l.getD k 0 = x at *
      go_wp2_with (go_at_call 96; refine (reftwo_any _ _ _).mono ?_; rintro e w' ⟨rfl, rfl⟩)
      go_round
      case rel => exact ⟨k + 1, by omega, by go_num, by rw [HS.out]⟩
      case measure => simp only [intOf]; omega
    · have hke : k = l.length := by omega
      subst hke
      go_wp2
      go_ret
      exact ⟨rfl, rfl⟩

theorem refadd6 (a b c d e f : Int) (w : World) (g : Nat) (hb : g = w.heap.size) :
    Calls Try.prog 84 #[.slice (some ⟨g, 0, none⟩) 6 6] (w.alloc (.cells #[.int .i64 a, .int .i64 b, .int .i64 c, .int .i64 d, .int .i64 e, .int .i64 f] 3)) fun x w' => x = .returned (.int .i64 (Sat.add [a, b, c, d, e, f])) ∧ w.alloc (.cells #[.int .i64 a, .int .i64 b, .int .i64 c, .int .i64 d, .int .i64 e, .int .i64 f] 3) = w' := by
  subst hb
  refine refadd_any [a, b, c, d, e, f] _ 6 _ (by simp) fun k hk => ?_
  rw [World.cell?_alloc_new]
  match k, hk with
  | 0, _ => rfl
  | 1, _ => rfl
  | 2, _ => rfl
  | 3, _ => rfl
  | 4, _ => rfl
  | 5, _ => rfl

theorem capped (a b c : Int) (ha : 0 ≤ a) (hb : 0 ≤ b) :
    (if 4611686018427387904 < a + (b + (c + (c + (c + (c + 0))))) then (4611686018427387904 : Int) else a + (b + (c + (c + (c + (c + 0)))))) =
    (if 4611686018427387904 < a + (b + ((if 4611686018427387904 < 4 * c then 4611686018427387904 else 4 * c) + 0)) then (4611686018427387904 : Int) else a + (b + ((if 4611686018427387904 < 4 * c then 4611686018427387904 else 4 * c) + 0))) := by
  by_cases h : 4611686018427387904 < 4 * c
  · have h1 : 4611686018427387904 < a + (b + (c + (c + (c + (c + 0))))) := by omega
    rw [if_pos h, if_pos h1]
    by_cases k : 4611686018427387904 < a + (b + (4611686018427387904 + 0))
    · rw [if_pos k]
    · rw [if_neg k]; omega
  · rw [if_neg h]
    have e : a + (b + (c + (c + (c + (c + 0))))) = a + (b + (4 * c + 0)) := by omega
    rw [e]

theorem wait_eq (va tl sk : Int) : Sat.add [va, tl, sk, sk, sk, sk] = Sat.add [va, tl, Sat.mul 4 sk] := by
  have h1 := Sat.fit_lo va; have h2 := Sat.fit_lo tl
  have h4 : Sat.fit (Sat.mul 4 sk) = Sat.mul 4 sk := Sat.fit_self (Sat.mul_lo _ _) (Sat.mul_hi _ _)
  have h5 : Sat.fit 4 = 4 := by decide
  unfold Sat.add
  simp only [Sat.sum, h4]
  unfold Sat.mul
  rw [h5]
  exact capped _ _ _ h1 h2

set_option maxRecDepth 100000 in
set_option maxHeartbeats 1000000 in
theorem refwait_any (n sk tl va lo he ke qu : Int) (p : Option Addr) (l c : Nat) (w : World) :
    Calls Try.prog 45 #[.agg #[.int .i64 n, .int .i64 sk, .int .i64 tl, .int .i64 va, .int .i64 lo, .int .i64 he, .int .i64 ke, .int .i64 qu, .slice p l c]] w fun e w' => e = .returned (.int .i64 (Sat.add [va, tl, Sat.mul 4 sk])) ∧ Below w.heap.size w w' := by
  have HE := Lib.hid (wait_eq va tl sk)
  go_enter Try.func45, Try.ntmps45
  go_wp2_with (go_at_call 84; (with_reducible refine (refadd6 _ _ _ _ _ _ _ _ ?hb).mono ?_); (case hb => simp); rintro e w' ⟨rfl, rfl⟩)
  go_ret
  exact ⟨ret_int HE.out, (below_new _ _).trans ((below_new _ _).mono (by simp))⟩
end Go.Proofs.Ytblmmijjabahiaa.Conf
