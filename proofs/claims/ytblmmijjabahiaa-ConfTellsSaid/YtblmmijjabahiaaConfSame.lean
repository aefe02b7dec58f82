/-
  conf.Same and the document's Same of any two configurations of at most 100 rates return the same, and of what lay nothing has turned.
-/
import Derived.Test.YtblmmijjabahiaaConfCheck
import Derived.Test.YtblmmijjabahiaaConfEq
import Derived.Deep.RegionHeld3
namespace Go.Proofs.Ytblmmijjabahiaa.Conf
open Go.RowKit Ring

set_option maxRecDepth 100000 in
set_option maxHeartbeats 1000000 in
theorem numbers_any (n sk tl va lo he ke qu : Int) (p : Option Addr) (l c : Nat) (w : World) :
    Calls Try.prog 85 #[.agg #[.int .i64 n, .int .i64 sk, .int .i64 tl, .int .i64 va, .int .i64 lo, .int .i64 he, .int .i64 ke, .int .i64 qu, .slice p l c]] w fun e w' => e = .returned (.agg #[.int .i64 n, .int .i64 sk, .int .i64 tl, .int .i64 va, .int .i64 lo, .int .i64 he, .int .i64 ke, .int .i64 qu]) ∧ Below w.heap.size w w' := by
  go_enter Try.func85, Try.ntmps85
  go_wp2
  refine bodyPost_ret (v := (.agg #[.int .i64 n, .int .i64 sk, .int .i64 tl, .int .i64 va, .int .i64 lo, .int .i64 he, .int .i64 ke, .int .i64 qu])) (by simp [results, Try.results85, go_sem]) rfl ⟨rfl, (below_new _ _).trans ((below_new _ _).mono (by simp))⟩

theorem below_drewN {w W : World} (h : Below w.heap.size w W) (n : Nat) : Below w.heap.size w (W.drewN n) := h.trans ⟨rfl, rfl, rfl, Nat.le_refl _, fun _ _ => rfl⟩
theorem take_same {zs ys : List (Int × Int)} {k : Nat} (hy : ys.length = zs.length) (hk : k < zs.length) (h : zs.take k = ys.take k) (h1 : ((zs.getD k (0, 0)).1 == (ys.getD k (0, 0)).1 && (zs.getD k (0, 0)).2 == (ys.getD k (0, 0)).2) = true) : zs.take (k + 1) = ys.take (k + 1) := by
  have hk' : k < ys.length := by omega
  rw [List.take_succ_eq_append_getElem hk, List.take_succ_eq_append_getElem hk', h]
  simp [hk, hk'] at h1
  rw [Prod.ext h1.1 h1.2]
theorem take_other {zs ys : List (Int × Int)} {k : Nat} (h1 : ((zs.getD k (0, 0)).1 == (ys.getD k (0, 0)).1 && (zs.getD k (0, 0)).2 == (ys.getD k (0, 0)).2) = false) : zs ≠ ys := by
  rintro rfl
  simp at h1

set_option maxRecDepth 100000 in
set_option maxHeartbeats 1000000 in
theorem sameRates_in (b o b' o' c c' : Nat) (zs ys : List (Int × Int)) (w : World) (r : Bool) (hl : zs.length ≤ 100) (hy : ys.length = zs.length) (hr : Hid (r = decide (zs = ys)))
    (hz : ∀ i, i < zs.length → w.cell? ⟨b, o + i * 2, none⟩ = some (.int .i64 (zs.getD i (0, 0)).1) ∧ w.cell? ⟨b, o + i * 2 + 1, none⟩ = some (.int .i64 (zs.getD i (0, 0)).2))
    (hz' : ∀ i, i < zs.length → w.cell? ⟨b', o' + i * 2, none⟩ = some (.int .i64 (ys.getD i (0, 0)).1) ∧ w.cell? ⟨b', o' + i * 2 + 1, none⟩ = some (.int .i64 (ys.getD i (0, 0)).2)) :
    Calls Try.prog 86 #[.slice (some ⟨b, o, none⟩) zs.length c, .slice (some ⟨b', o', none⟩) zs.length c'] w fun e w' => e = .returned (.bool r) ∧ Below w.heap.size w w' := by
  have HZ := Lib.hid hz; clear hz
  have HY := Lib.hid hz'; clear hz'
  have HL := Lib.hid hy; clear hy
  have hm : Try.prog.follows .mixedOrders = true := by kernel_rfl
  go_enter Try.func86, Try.ntmps86
  go_wp2
  go_loopw [14] (fun i wr => ∃ k : Nat, i = .int .i64 (k : Int) ∧ k ≤ zs.length ∧ Hid (zs.take k = ys.take k) ∧ Hid (Below w.heap.size w wr)) (fun i _ => zs.length - (intOf i).toNat)
  case atStart => exact ⟨0, rfl, by omega, Lib.hid rfl, Lib.hid (Below.refl _ _)⟩
  case round =>
    obtain ⟨k, rfl, hk, HA, HB⟩ := hrel
    by_cases hlt : k < zs.length
    · have hlt' : (k : Int) < (zs.length : Int) := by omega
      have g1 : wr.cell? ⟨b, o + k * 2, none⟩ = some (.int .i64 (zs.getD k (0, 0)).1) := cell_stays HB.out (HZ.out k hlt).1
      have g2 : wr.cell? ⟨b, o + k * 2 + 1, none⟩ = some (.int .i64 (zs.getD k (0, 0)).2) := cell_stays HB.out (HZ.out k hlt).2
      have g3 : (wr.alloc (.cells #[.int .i64 (zs.getD k (0, 0)).1, .int .i64 (zs.getD k (0, 0)).2] 50)).cell? ⟨b', o' + k * 2, none⟩ = some (.int .i64 (ys.getD k (0, 0)).1) := cell_stays (below_new _ _) (cell_stays HB.out (HY.out k hlt).1)
      have g4 : (wr.alloc (.cells #[.int .i64 (zs.getD k (0, 0)).1, .int .i64 (zs.getD k (0, 0)).2] 50)).cell? ⟨b', o' + k * 2 + 1, none⟩ = some (.int .i64 (ys.getD k (0, 0)).2) := cell_stays (below_new _ _) (cell_stays HB.out (HY.out k hlt).2)
      have TS := Lib.hid (take_same (k := k) HL.out hlt HA.out)
      have TO := Lib.hid (take_other (zs := zs) (ys := ys) (k := k))
      generalize (zs.getD k (0, 0)).1 = x at *
      generalize (zs.getD k (0, 0)).2 = y at *
      generalize (ys.getD k (0, 0)).1 = x' at *
      generalize (ys.getD k (0, 0)).2 = y' at *
      cases hq : (x == x' && y == y')
      · have nq : ∀ u, (binOp .neq 50 (.agg #[.int .i64 x, .int .i64 y]) (.agg #[.int .i64 x', .int .i64 y'])).run Try.prog u = .ok (.bool true) u := fun u => by rw [neq_rate, hq]; rfl
        have HQ := Lib.hid hq; clear hq
        go_wp2
        go_quiet (fail)
        go_wp2
        go_ret
        exact ⟨ret_bool (by rw [hr.out, decide_eq_false (TO.out HQ.out)]), below_drewN (HB.out.alloc HB.out.size _) _⟩
      · have nq : ∀ u, (binOp .neq 50 (.agg #[.int .i64 x, .int .i64 y]) (.agg #[.int .i64 x', .int .i64 y'])).run Try.prog u = .ok (.bool false) u := fun u => by rw [neq_rate, hq]; rfl
        have HQ := Lib.hid hq; clear hq
        go_wp2
        go_quiet (fail)
        go_wp2
        go_roundw
        case rel => exact ⟨k + 1, by go_num, by omega, Lib.hid (TS.out HQ.out), Lib.hid (below_drewN (HB.out.alloc HB.out.size _) _)⟩
        case measure => simp only [intOf]; omega
    · have hke : k = zs.length := by omega
      subst hke
      go_wp2
      go_ret
      exact ⟨ret_bool (by rw [hr.out, decide_eq_true]; have h := HA.out; rwa [List.take_length, ← HL.out, List.take_length] at h), HB.out⟩
end Go.Proofs.Ytblmmijjabahiaa.Conf
