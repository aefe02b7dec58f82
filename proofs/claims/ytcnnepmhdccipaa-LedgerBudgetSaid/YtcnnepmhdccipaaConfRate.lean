/-
  conf.Rate and the document's Rate of any configuration and key: the rate of the key's policy and true, or a zero rate and false; which one it is, or -1; of what lay nothing has turned.
-/
import Derived.Test.YtcnnepmhdccipaaConfBase
namespace Go.Proofs.Ytcnnepmhdccipaa.Conf
open Go.RowKit Ring

set_option maxRecDepth 100000 in
set_option maxHeartbeats 1000000 in
theorem rate_none (n sk tl va lo he ke qu : Int) (p : Option Addr) (l c : Nat) (key : Int) (w : World) (h : within key 0 524287 = false ∨ (within key 0 524287 = true ∧ 0 ≤ key ∧ key ≤ 524287 ∧ (l : Int) ≤ key / 65536)) :
    Calls Try.prog 56 #[.agg #[.int .i64 n, .int .i64 sk, .int .i64 tl, .int .i64 va, .int .i64 lo, .int .i64 he, .int .i64 ke, .int .i64 qu, .slice p l c], .int .i64 key] w fun e w' => e = .returned (.tuple #[.agg #[.int .i64 0, .int .i64 0], .bool false]) ∧ Below w.heap.size w w' := by
  rcases h with h | ⟨h, h1, h1', h2⟩
  all_goals
    go_enter Try.func56, Try.ntmps56
    go_wp2_with (go_at_call 66; refine (right_any _ _).mono ?_; rintro e w' ⟨rfl, rfl⟩)
    refine bodyPost_ret (v := .tuple #[.agg #[.int .i64 0, .int .i64 0], .bool false]) (by simp [results, Try.results56, go_sem]) rfl ⟨rfl, (below_new _ _).trans ((below_new _ _).mono (by simp))⟩

set_option maxRecDepth 100000 in
set_option maxHeartbeats 1000000 in
theorem rate_some (n sk tl va lo he ke qu : Int) (b o l c k : Nat) (key x y : Int) (w : World) (h : within key 0 524287 = true) (h0 : 0 ≤ key) (h0' : key ≤ 524287) (hk : key / 65536 = (k : Int)) (hl : (k : Int) < (l : Int))
    (g1 : w.cell? ⟨b, o + k * 2, none⟩ = some (.int .i64 x)) (g2 : w.cell? ⟨b, o + k * 2 + 1, none⟩ = some (.int .i64 y)) :
    Calls Try.prog 56 #[.agg #[.int .i64 n, .int .i64 sk, .int .i64 tl, .int .i64 va, .int .i64 lo, .int .i64 he, .int .i64 ke, .int .i64 qu, .slice (some ⟨b, o, none⟩) l c], .int .i64 key] w fun e w' => e = .returned (.tuple #[.agg #[.int .i64 x, .int .i64 y], .bool true]) ∧ Below w.heap.size w w' := by
  have g3 := cell_stays (below_new w (.cells #[.int .i64 n, .int .i64 sk, .int .i64 tl, .int .i64 va, .int .i64 lo, .int .i64 he, .int .i64 ke, .int .i64 qu, .slice (some ⟨b, o, none⟩) l c] 27)) g1
  have g4 := cell_stays (below_new w (.cells #[.int .i64 n, .int .i64 sk, .int .i64 tl, .int .i64 va, .int .i64 lo, .int .i64 he, .int .i64 ke, .int .i64 qu, .slice (some ⟨b, o, none⟩) l c] 27)) g2
  have g5 := cell_stays (below_new _ (.cells #[.int .i64 0, .int .i64 0] 44)) g3
  have g6 := cell_stays (below_new _ (.cells #[.int .i64 0, .int .i64 0] 44)) g4
  clear g1 g2 g3 g4
  go_enter Try.func56, Try.ntmps56
  go_wp2_with (go_at_call 66; refine (right_any _ _).mono ?_; rintro e w' ⟨rfl, rfl⟩)
  refine bodyPost_ret (v := .tuple #[.agg #[.int .i64 x, .int .i64 y], .bool true]) (by simp [results, Try.results56, go_sem]) rfl ⟨rfl, (below_new _ _).trans ((below_new _ _).mono (by simp))⟩

set_option maxRecDepth 100000 in
set_option maxHeartbeats 1000000 in
theorem refrate_none (n sk tl va lo he ke qu : Int) (p : Option Addr) (l c : Nat) (key : Int) (w : World) (h : within key 0 524287 = false ∨ (within key 0 524287 = true ∧ 0 ≤ key ∧ key ≤ 524287 ∧ (l : Int) ≤ key / 65536)) :
    Calls Try.prog 26 #[.agg #[.int .i64 n, .int .i64 sk, .int .i64 tl, .int .i64 va, .int .i64 lo, .int .i64 he, .int .i64 ke, .int .i64 qu, .slice p l c], .int .i64 key] w fun e w' => e = .returned (.int .i64 (-1)) ∧ Below w.heap.size w w' := by
  rcases h with h | ⟨h, h1, h1', h2⟩
  all_goals
    go_enter Try.func26, Try.ntmps26
    go_wp2_with (go_at_call 51; refine (refright_any _ _).mono ?_; rintro e w' ⟨rfl, rfl⟩)
    go_ret
    exact ⟨rfl, below_new _ _⟩

set_option maxRecDepth 100000 in
set_option maxHeartbeats 1000000 in
theorem refrate_some (n sk tl va lo he ke qu : Int) (p : Option Addr) (l c k : Nat) (key : Int) (w : World) (h : within key 0 524287 = true) (h0 : 0 ≤ key) (h0' : key ≤ 524287) (hk : key / 65536 = (k : Int)) (hl : (k : Int) < (l : Int)) :
    Calls Try.prog 26 #[.agg #[.int .i64 n, .int .i64 sk, .int .i64 tl, .int .i64 va, .int .i64 lo, .int .i64 he, .int .i64 ke, .int .i64 qu, .slice p l c], .int .i64 key] w fun e w' => e = .returned (.int .i64 (k : Int)) ∧ Below w.heap.size w w' := by
  go_enter Try.func26, Try.ntmps26
  go_wp2_with (go_at_call 51; refine (refright_any _ _).mono ?_; rintro e w' ⟨rfl, rfl⟩)
  go_ret
  exact ⟨ret_int hk, below_new _ _⟩
end Go.Proofs.Ytcnnepmhdccipaa.Conf
