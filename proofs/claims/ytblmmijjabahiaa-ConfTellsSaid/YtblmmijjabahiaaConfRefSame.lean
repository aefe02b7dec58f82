/-
  The document's Same of two configurations with a number that differs, or another number of rates, tells false, and of what lay nothing has turned.
-/
import Derived.Test.YtblmmijjabahiaaConfSame2
namespace Go.Proofs.Ytblmmijjabahiaa.Conf
open Go.RowKit Ring

set_option maxRecDepth 100000 in
set_option maxHeartbeats 2000000 in
theorem refsame_0 (n sk tl va lo he ke qu : Int) (p : Option Addr) (l c : Nat) (n' sk' tl' va' lo' he' ke' qu' : Int) (p' : Option Addr) (l' c' : Nat) (w : World) (h0 : (n != n') = true) :
    Calls Try.prog 47 #[.agg #[.int .i64 n, .int .i64 sk, .int .i64 tl, .int .i64 va, .int .i64 lo, .int .i64 he, .int .i64 ke, .int .i64 qu, .slice p l c], .agg #[.int .i64 n', .int .i64 sk', .int .i64 tl', .int .i64 va', .int .i64 lo', .int .i64 he', .int .i64 ke', .int .i64 qu', .slice p' l' c']] w fun e w' => e = .returned (.bool false) ∧ Below w.heap.size w w' := by
  go_enter Try.func47, Try.ntmps47
  go_wp2
  go_ret
  exact ⟨rfl, (below_new _ _).trans ((below_new _ _).mono (by simp))⟩

set_option maxRecDepth 100000 in
set_option maxHeartbeats 2000000 in
theorem refsame_1 (n sk tl va lo he ke qu : Int) (p : Option Addr) (l c : Nat) (n' sk' tl' va' lo' he' ke' qu' : Int) (p' : Option Addr) (l' c' : Nat) (w : World) (h0 : (n != n') = false) (h1 : (sk != sk') = true) :
    Calls Try.prog 47 #[.agg #[.int .i64 n, .int .i64 sk, .int .i64 tl, .int .i64 va, .int .i64 lo, .int .i64 he, .int .i64 ke, .int .i64 qu, .slice p l c], .agg #[.int .i64 n', .int .i64 sk', .int .i64 tl', .int .i64 va', .int .i64 lo', .int .i64 he', .int .i64 ke', .int .i64 qu', .slice p' l' c']] w fun e w' => e = .returned (.bool false) ∧ Below w.heap.size w w' := by
  go_enter Try.func47, Try.ntmps47
  go_wp2
  go_ret
  exact ⟨rfl, (below_new _ _).trans ((below_new _ _).mono (by simp))⟩

set_option maxRecDepth 100000 in
set_option maxHeartbeats 2000000 in
theorem refsame_2 (n sk tl va lo he ke qu : Int) (p : Option Addr) (l c : Nat) (n' sk' tl' va' lo' he' ke' qu' : Int) (p' : Option Addr) (l' c' : Nat) (w : World) (h0 : (n != n') = false) (h1 : (sk != sk') = false) (h2 : (tl != tl') = true) :
    Calls Try.prog 47 #[.agg #[.int .i64 n, .int .i64 sk, .int .i64 tl, .int .i64 va, .int .i64 lo, .int .i64 he, .int .i64 ke, .int .i64 qu, .slice p l c], .agg #[.int .i64 n', .int .i64 sk', .int .i64 tl', .int .i64 va', .int .i64 lo', .int .i64 he', .int .i64 ke', .int .i64 qu', .slice p' l' c']] w fun e w' => e = .returned (.bool false) ∧ Below w.heap.size w w' := by
  go_enter Try.func47, Try.ntmps47
  go_wp2
  go_ret
  exact ⟨rfl, (below_new _ _).trans ((below_new _ _).mono (by simp))⟩

set_option maxRecDepth 100000 in
set_option maxHeartbeats 2000000 in
theorem refsame_3 (n sk tl va lo he ke qu : Int) (p : Option Addr) (l c : Nat) (n' sk' tl' va' lo' he' ke' qu' : Int) (p' : Option Addr) (l' c' : Nat) (w : World) (h0 : (n != n') = false) (h1 : (sk != sk') = false) (h2 : (tl != tl') = false) (h3 : (va != va') = true) :
    Calls Try.prog 47 #[.agg #[.int .i64 n, .int .i64 sk, .int .i64 tl, .int .i64 va, .int .i64 lo, .int .i64 he, .int .i64 ke, .int .i64 qu, .slice p l c], .agg #[.int .i64 n', .int .i64 sk', .int .i64 tl', .int .i64 va', .int .i64 lo', .int .i64 he', .int .i64 ke', .int .i64 qu', .slice p' l' c']] w fun e w' => e = .returned (.bool false) ∧ Below w.heap.size w w' := by
  go_enter Try.func47, Try.ntmps47
  go_wp2
  go_ret
  exact ⟨rfl, (below_new _ _).trans ((below_new _ _).mono (by simp))⟩

set_option maxRecDepth 100000 in
set_option maxHeartbeats 2000000 in
theorem refsame_4 (n sk tl va lo he ke qu : Int) (p : Option Addr) (l c : Nat) (n' sk' tl' va' lo' he' ke' qu' : Int) (p' : Option Addr) (l' c' : Nat) (w : World) (h0 : (n != n') = false) (h1 : (sk != sk') = false) (h2 : (tl != tl') = false) (h3 : (va != va') = false) (h4 : (lo != lo') = true) :
    Calls Try.prog 47 #[.agg #[.int .i64 n, .int .i64 sk, .int .i64 tl, .int .i64 va, .int .i64 lo, .int .i64 he, .int .i64 ke, .int .i64 qu, .slice p l c], .agg #[.int .i64 n', .int .i64 sk', .int .i64 tl', .int .i64 va', .int .i64 lo', .int .i64 he', .int .i64 ke', .int .i64 qu', .slice p' l' c']] w fun e w' => e = .returned (.bool false) ∧ Below w.heap.size w w' := by
  go_enter Try.func47, Try.ntmps47
  go_wp2
  go_ret
  exact ⟨rfl, (below_new _ _).trans ((below_new _ _).mono (by simp))⟩

set_option maxRecDepth 100000 in
set_option maxHeartbeats 2000000 in
theorem refsame_5 (n sk tl va lo he ke qu : Int) (p : Option Addr) (l c : Nat) (n' sk' tl' va' lo' he' ke' qu' : Int) (p' : Option Addr) (l' c' : Nat) (w : World) (h0 : (n != n') = false) (h1 : (sk != sk') = false) (h2 : (tl != tl') = false) (h3 : (va != va') = false) (h4 : (lo != lo') = false) (h5 : (he != he') = true) :
    Calls Try.prog 47 #[.agg #[.int .i64 n, .int .i64 sk, .int .i64 tl, .int .i64 va, .int .i64 lo, .int .i64 he, .int .i64 ke, .int .i64 qu, .slice p l c], .agg #[.int .i64 n', .int .i64 sk', .int .i64 tl', .int .i64 va', .int .i64 lo', .int .i64 he', .int .i64 ke', .int .i64 qu', .slice p' l' c']] w fun e w' => e = .returned (.bool false) ∧ Below w.heap.size w w' := by
  go_enter Try.func47, Try.ntmps47
  go_wp2
  go_ret
  exact ⟨rfl, (below_new _ _).trans ((below_new _ _).mono (by simp))⟩

set_option maxRecDepth 100000 in
set_option maxHeartbeats 2000000 in
theorem refsame_6 (n sk tl va lo he ke qu : Int) (p : Option Addr) (l c : Nat) (n' sk' tl' va' lo' he' ke' qu' : Int) (p' : Option Addr) (l' c' : Nat) (w : World) (h0 : (n != n') = false) (h1 : (sk != sk') = false) (h2 : (tl != tl') = false) (h3 : (va != va') = false) (h4 : (lo != lo') = false) (h5 : (he != he') = false) (h6 : (ke != ke') = true) :
    Calls Try.prog 47 #[.agg #[.int .i64 n, .int .i64 sk, .int .i64 tl, .int .i64 va, .int .i64 lo, .int .i64 he, .int .i64 ke, .int .i64 qu, .slice p l c], .agg #[.int .i64 n', .int .i64 sk', .int .i64 tl', .int .i64 va', .int .i64 lo', .int .i64 he', .int .i64 ke', .int .i64 qu', .slice p' l' c']] w fun e w' => e = .returned (.bool false) ∧ Below w.heap.size w w' := by
  go_enter Try.func47, Try.ntmps47
  go_wp2
  go_ret
  exact ⟨rfl, (below_new _ _).trans ((below_new _ _).mono (by simp))⟩

set_option maxRecDepth 100000 in
set_option maxHeartbeats 2000000 in
theorem refsame_7 (n sk tl va lo he ke qu : Int) (p : Option Addr) (l c : Nat) (n' sk' tl' va' lo' he' ke' qu' : Int) (p' : Option Addr) (l' c' : Nat) (w : World) (h0 : (n != n') = false) (h1 : (sk != sk') = false) (h2 : (tl != tl') = false) (h3 : (va != va') = false) (h4 : (lo != lo') = false) (h5 : (he != he') = false) (h6 : (ke != ke') = false) (h7 : (qu != qu') = true) :
    Calls Try.prog 47 #[.agg #[.int .i64 n, .int .i64 sk, .int .i64 tl, .int .i64 va, .int .i64 lo, .int .i64 he, .int .i64 ke, .int .i64 qu, .slice p l c], .agg #[.int .i64 n', .int .i64 sk', .int .i64 tl', .int .i64 va', .int .i64 lo', .int .i64 he', .int .i64 ke', .int .i64 qu', .slice p' l' c']] w fun e w' => e = .returned (.bool false) ∧ Below w.heap.size w w' := by
  go_enter Try.func47, Try.ntmps47
  go_wp2
  go_ret
  exact ⟨rfl, (below_new _ _).trans ((below_new _ _).mono (by simp))⟩

set_option maxRecDepth 100000 in
set_option maxHeartbeats 2000000 in
theorem refsame_8 (n sk tl va lo he ke qu : Int) (p : Option Addr) (l c : Nat) (n' sk' tl' va' lo' he' ke' qu' : Int) (p' : Option Addr) (l' c' : Nat) (w : World) (h0 : (n != n') = false) (h1 : (sk != sk') = false) (h2 : (tl != tl') = false) (h3 : (va != va') = false) (h4 : (lo != lo') = false) (h5 : (he != he') = false) (h6 : (ke != ke') = false) (h7 : (qu != qu') = false) (h8 : ((l : Int) != (l' : Int)) = true) :
    Calls Try.prog 47 #[.agg #[.int .i64 n, .int .i64 sk, .int .i64 tl, .int .i64 va, .int .i64 lo, .int .i64 he, .int .i64 ke, .int .i64 qu, .slice p l c], .agg #[.int .i64 n', .int .i64 sk', .int .i64 tl', .int .i64 va', .int .i64 lo', .int .i64 he', .int .i64 ke', .int .i64 qu', .slice p' l' c']] w fun e w' => e = .returned (.bool false) ∧ Below w.heap.size w w' := by
  go_enter Try.func47, Try.ntmps47
  go_wp2
  go_ret
  exact ⟨rfl, (below_new _ _).trans ((below_new _ _).mono (by simp))⟩

set_option maxRecDepth 100000 in
set_option maxHeartbeats 2000000 in
theorem refsame_none (n sk tl va lo he ke qu : Int) (p : Option Addr) (c : Nat) (n' sk' tl' va' lo' he' ke' qu' : Int) (p' : Option Addr) (c' : Nat) (w : World) (h0 : (n != n') = false) (h1 : (sk != sk') = false) (h2 : (tl != tl') = false) (h3 : (va != va') = false) (h4 : (lo != lo') = false) (h5 : (he != he') = false) (h6 : (ke != ke') = false) (h7 : (qu != qu') = false) :
    Calls Try.prog 47 #[.agg #[.int .i64 n, .int .i64 sk, .int .i64 tl, .int .i64 va, .int .i64 lo, .int .i64 he, .int .i64 ke, .int .i64 qu, .slice p 0 c], .agg #[.int .i64 n', .int .i64 sk', .int .i64 tl', .int .i64 va', .int .i64 lo', .int .i64 he', .int .i64 ke', .int .i64 qu', .slice p' 0 c']] w fun e w' => e = .returned (.bool true) ∧ Below w.heap.size w w' := by
  go_enter Try.func47, Try.ntmps47
  go_wp2
  go_loop [5] (fun i => i = .int .i64 0) (fun _ => 0)
  case atStart => rfl
  case round =>
    obtain rfl := hrel
    go_wp2
    go_ret
    exact ⟨rfl, (below_new _ _).trans ((below_new _ _).mono (by simp))⟩

set_option maxRecDepth 100000 in
set_option maxHeartbeats 2000000 in
theorem refsame_in (n sk tl va lo he ke qu : Int) (b o c : Nat) (n' sk' tl' va' lo' he' ke' qu' : Int) (b' o' c' : Nat) (zs ys : List (Int × Int)) (w : World) (r : Bool) (hl : zs.length ≤ 100) (hy : ys.length = zs.length) (hr : Hid (r = decide (zs = ys)))
    (hz : ∀ i, i < zs.length → w.cell? ⟨b, o + i * 2, none⟩ = some (.int .i64 (zs.getD i (0, 0)).1) ∧ w.cell? ⟨b, o + i * 2 + 1, none⟩ = some (.int .i64 (zs.getD i (0, 0)).2))
    (hz' : ∀ i, i < zs.length → w.cell? ⟨b', o' + i * 2, none⟩ = some (.int .i64 (ys.getD i (0, 0)).1) ∧ w.cell? ⟨b', o' + i * 2 + 1, none⟩ = some (.int .i64 (ys.getD i (0, 0)).2)) (h0 : (n != n') = false) (h1 : (sk != sk') = false) (h2 : (tl != tl') = false) (h3 : (va != va') = false) (h4 : (lo != lo') = false) (h5 : (he != he') = false) (h6 : (ke != ke') = false) (h7 : (qu != qu') = false) :
    Calls Try.prog 47 #[.agg #[.int .i64 n, .int .i64 sk, .int .i64 tl, .int .i64 va, .int .i64 lo, .int .i64 he, .int .i64 ke, .int .i64 qu, .slice (some ⟨b, o, none⟩) zs.length c], .agg #[.int .i64 n', .int .i64 sk', .int .i64 tl', .int .i64 va', .int .i64 lo', .int .i64 he', .int .i64 ke', .int .i64 qu', .slice (some ⟨b', o', none⟩) zs.length c']] w fun e w' => e = .returned (.bool r) ∧ Below w.heap.size w w' := by
  have HL := Lib.hid hy; clear hy
  have hm : Try.prog.follows .mixedOrders = true := by kernel_rfl
  have b1 : Below w.heap.size w ((w.alloc (.cells #[.int .i64 n, .int .i64 sk, .int .i64 tl, .int .i64 va, .int .i64 lo, .int .i64 he, .int .i64 ke, .int .i64 qu, .slice (some ⟨b, o, none⟩) zs.length c] 48)).alloc (.cells #[.int .i64 n', .int .i64 sk', .int .i64 tl', .int .i64 va', .int .i64 lo', .int .i64 he', .int .i64 ke', .int .i64 qu', .slice (some ⟨b', o', none⟩) zs.length c'] 48)) := (below_new _ _).trans ((below_new _ _).mono (by simp))
  have HZ := Lib.hid (fun i (hi : i < zs.length) => And.intro (cell_stays b1 (hz i hi).1) (cell_stays b1 (hz i hi).2)); clear hz
  have HY := Lib.hid (fun i (hi : i < zs.length) => And.intro (cell_stays b1 (hz' i hi).1) (cell_stays b1 (hz' i hi).2)); clear hz'
  have n1 := (nine_new w (.int .i64 n) (.int .i64 sk) (.int .i64 tl) (.int .i64 va) (.int .i64 lo) (.int .i64 he) (.int .i64 ke) (.int .i64 qu) (.slice (some ⟨b, o, none⟩) zs.length c) 48).stays (below_new _ (.cells #[.int .i64 n', .int .i64 sk', .int .i64 tl', .int .i64 va', .int .i64 lo', .int .i64 he', .int .i64 ke', .int .i64 qu', .slice (some ⟨b', o', none⟩) zs.length c'] 48))
  have n2 := nine_new (w.alloc (.cells #[.int .i64 n, .int .i64 sk, .int .i64 tl, .int .i64 va, .int .i64 lo, .int .i64 he, .int .i64 ke, .int .i64 qu, .slice (some ⟨b, o, none⟩) zs.length c] 48)) (.int .i64 n') (.int .i64 sk') (.int .i64 tl') (.int .i64 va') (.int .i64 lo') (.int .i64 he') (.int .i64 ke') (.int .i64 qu') (.slice (some ⟨b', o', none⟩) zs.length c') 48
  rw [World.size_alloc] at n2
  have N1 := Lib.hid n1.2.2.2.2.2.2.2.2; clear n1
  have N2 := Lib.hid n2.2.2.2.2.2.2.2.2; clear n2
  have HB1 := Lib.hid b1; clear b1
  go_enter Try.func47, Try.ntmps47
  go_wp2
  generalize (w.alloc (.cells #[.int .i64 n, .int .i64 sk, .int .i64 tl, .int .i64 va, .int .i64 lo, .int .i64 he, .int .i64 ke, .int .i64 qu, .slice (some ⟨b, o, none⟩) zs.length c] 48)).alloc (.cells #[.int .i64 n', .int .i64 sk', .int .i64 tl', .int .i64 va', .int .i64 lo', .int .i64 he', .int .i64 ke', .int .i64 qu', .slice (some ⟨b', o', none⟩) zs.length c'] 48) = W at HZ HY N1 N2 HB1 ⊢
  go_loopw [5] (fun i wr => ∃ k : Nat, i = .int .i64 (k : Int) ∧ k ≤ zs.length ∧ Hid (zs.take k = ys.take k) ∧ Hid ((∀ q, wr.cell? q = W.cell? q) ∧ Below w.heap.size w wr)) (fun i _ => zs.length - (intOf i).toNat)
  case atStart => exact ⟨0, rfl, by omega, Lib.hid rfl, Lib.hid ⟨fun _ => rfl, HB1.out⟩⟩
  case round =>
    obtain ⟨k, rfl, hk, HA, HB⟩ := hrel
    have e1 : wr.cell? ⟨w.heap.size, 8, none⟩ = some (.slice (some ⟨b, o, none⟩) zs.length c) := (HB.out.1 _).trans N1.out
    have e2 : wr.cell? ⟨w.heap.size + 1, 8, none⟩ = some (.slice (some ⟨b', o', none⟩) zs.length c') := (HB.out.1 _).trans N2.out
    by_cases hlt : k < zs.length
    · have hlt' : (k : Int) < (zs.length : Int) := by omega
      have g1 : wr.cell? ⟨b, o + k * 2, none⟩ = some (.int .i64 (zs.getD k (0, 0)).1) := (HB.out.1 _).trans (HZ.out k hlt).1
      have g2 : wr.cell? ⟨b, o + k * 2 + 1, none⟩ = some (.int .i64 (zs.getD k (0, 0)).2) := (HB.out.1 _).trans (HZ.out k hlt).2
      have g3 : wr.cell? ⟨b', o' + k * 2, none⟩ = some (.int .i64 (ys.getD k (0, 0)).1) := (HB.out.1 _).trans (HY.out k hlt).1
      have g4 : wr.cell? ⟨b', o' + k * 2 + 1, none⟩ = some (.int .i64 (ys.getD k (0, 0)).2) := (HB.out.1 _).trans (HY.out k hlt).2
      have TS := Lib.hid (take_same (k := k) HL.out hlt HA.out)
      have TO := Lib.hid (take_other (zs := zs) (ys := ys) (k := k))
      generalize (zs.getD k (0, 0)).1 = x at *
      generalize (zs.getD k (0, 0)).2 = y at *
      generalize (ys.getD k (0, 0)).1 = x' at *
      generalize (ys.getD k (0, 0)).2 = y' at *
      cases hq : (x == x' && y == y')
      · have nq : ∀ u, (binOp .neq 50 (.agg #[.int .i64 x, .int .i64 y]) (.agg #[.int .i64 x', .int .i64 y'])).run Try.prog u = .ok (.bool true) u := fun u => by rw [neq_rate, hq]; rfl
        have HQ := Lib.hid hq; clear hq
        go_wp2
        go_quiet (fail)
        go_wp2
        go_ret
        exact ⟨ret_bool (by rw [hr.out, decide_eq_false (TO.out HQ.out)]), below_drewN HB.out.2 _⟩
      · have nq : ∀ u, (binOp .neq 50 (.agg #[.int .i64 x, .int .i64 y]) (.agg #[.int .i64 x', .int .i64 y'])).run Try.prog u = .ok (.bool false) u := fun u => by rw [neq_rate, hq]; rfl
        have HQ := Lib.hid hq; clear hq
        go_wp2
        go_quiet (fail)
        go_wp2
        go_roundw
        case rel => exact ⟨k + 1, by go_num, by omega, Lib.hid (TS.out HQ.out), Lib.hid ⟨fun q => HB.out.1 q, below_drewN HB.out.2 _⟩⟩
        case measure => simp only [intOf]; omega
    · have hke : k = zs.length := by omega
      subst hke
      go_wp2
      go_ret
      exact ⟨ret_bool (by rw [hr.out, decide_eq_true]; have h := HA.out; rwa [List.take_length, ← HL.out, List.take_length] at h), HB.out.2⟩

theorem bne_no {a b : Int} (h : (a == b) = true) : (a != b) = false := by unfold bne; rw [h]; rfl
theorem bne_yes {a b : Int} (h : (a == b) = false) : (a != b) = true := by unfold bne; rw [h]; rfl

theorem refsame_any (n sk tl va lo he ke qu : Int) (p : Option Addr) (c : Nat) (n' sk' tl' va' lo' he' ke' qu' : Int) (p' : Option Addr) (c' : Nat) (zs ys : List (Int × Int)) (w : World) (hl : zs.length ≤ 100) (hz : IsRates w p zs) (hy : IsRates w p' ys) :
    Calls Try.prog 47 #[.agg #[.int .i64 n, .int .i64 sk, .int .i64 tl, .int .i64 va, .int .i64 lo, .int .i64 he, .int .i64 ke, .int .i64 qu, .slice p zs.length c], .agg #[.int .i64 n', .int .i64 sk', .int .i64 tl', .int .i64 va', .int .i64 lo', .int .i64 he', .int .i64 ke', .int .i64 qu', .slice p' ys.length c']] w fun e w' => e = .returned (.bool (same n sk tl va lo he ke qu n' sk' tl' va' lo' he' ke' qu' zs ys)) ∧ Below w.heap.size w w' := by
  unfold same
  cases h0 : (n == n')
  · simpa using refsame_0 n sk tl va lo he ke qu p zs.length c n' sk' tl' va' lo' he' ke' qu' p' ys.length c' w  (bne_yes h0)
  · skip
    cases h1 : (sk == sk')
    · simpa using refsame_1 n sk tl va lo he ke qu p zs.length c n' sk' tl' va' lo' he' ke' qu' p' ys.length c' w (bne_no h0) (bne_yes h1)
    · skip
      cases h2 : (tl == tl')
      · simpa using refsame_2 n sk tl va lo he ke qu p zs.length c n' sk' tl' va' lo' he' ke' qu' p' ys.length c' w (bne_no h0) (bne_no h1) (bne_yes h2)
      · skip
        cases h3 : (va == va')
        · simpa using refsame_3 n sk tl va lo he ke qu p zs.length c n' sk' tl' va' lo' he' ke' qu' p' ys.length c' w (bne_no h0) (bne_no h1) (bne_no h2) (bne_yes h3)
        · skip
          cases h4 : (lo == lo')
          · simpa using refsame_4 n sk tl va lo he ke qu p zs.length c n' sk' tl' va' lo' he' ke' qu' p' ys.length c' w (bne_no h0) (bne_no h1) (bne_no h2) (bne_no h3) (bne_yes h4)
          · skip
            cases h5 : (he == he')
            · simpa using refsame_5 n sk tl va lo he ke qu p zs.length c n' sk' tl' va' lo' he' ke' qu' p' ys.length c' w (bne_no h0) (bne_no h1) (bne_no h2) (bne_no h3) (bne_no h4) (bne_yes h5)
            · skip
              cases h6 : (ke == ke')
              · simpa using refsame_6 n sk tl va lo he ke qu p zs.length c n' sk' tl' va' lo' he' ke' qu' p' ys.length c' w (bne_no h0) (bne_no h1) (bne_no h2) (bne_no h3) (bne_no h4) (bne_no h5) (bne_yes h6)
              · skip
                cases h7 : (qu == qu')
                · simpa using refsame_7 n sk tl va lo he ke qu p zs.length c n' sk' tl' va' lo' he' ke' qu' p' ys.length c' w (bne_no h0) (bne_no h1) (bne_no h2) (bne_no h3) (bne_no h4) (bne_no h5) (bne_no h6) (bne_yes h7)
                · by_cases hn : zs.length = ys.length
                  · rcases hz with hz | ⟨b, o, rfl, hz⟩
                    · subst hz
                      have e : ys = [] := List.length_eq_zero_iff.1 (by simpa using hn.symm)
                      subst e
                      simpa using refsame_none n sk tl va lo he ke qu p c n' sk' tl' va' lo' he' ke' qu' p' c' w (bne_no h0) (bne_no h1) (bne_no h2) (bne_no h3) (bne_no h4) (bne_no h5) (bne_no h6) (bne_no h7)
                    · rcases hy with hy | ⟨b', o', rfl, hy⟩
                      · subst hy
                        have e : zs = [] := List.length_eq_zero_iff.1 (by simpa using hn)
                        subst e
                        simpa using refsame_none n sk tl va lo he ke qu _ c n' sk' tl' va' lo' he' ke' qu' p' c' w (bne_no h0) (bne_no h1) (bne_no h2) (bne_no h3) (bne_no h4) (bne_no h5) (bne_no h6) (bne_no h7)
                      · rw [← hn] at hy ⊢
                        simpa using refsame_in n sk tl va lo he ke qu b o c n' sk' tl' va' lo' he' ke' qu' b' o' c' zs ys w _ hl hn.symm (Lib.hid rfl) hz hy (bne_no h0) (bne_no h1) (bne_no h2) (bne_no h3) (bne_no h4) (bne_no h5) (bne_no h6) (bne_no h7)
                  · have e : decide (zs = ys) = false := decide_eq_false (fun k => hn (by rw [k]))
                    rw [e]
                    simpa using refsame_8 n sk tl va lo he ke qu p zs.length c n' sk' tl' va' lo' he' ke' qu' p' ys.length c' w (bne_no h0) (bne_no h1) (bne_no h2) (bne_no h3) (bne_no h4) (bne_no h5) (bne_no h6) (bne_no h7) (bne_yes (beq_eq_false_iff_ne.2 (by omega)))
end Go.Proofs.Ytblmmijjabahiaa.Conf
