/-
  The document's Check of any configuration of at most 100 rates returns its error, and of what lay nothing has turned.
-/
import Derived.Test.YtcnnepmhdccipaaConfCheck
namespace Go.Proofs.Ytcnnepmhdccipaa.Conf
open Go.RowKit Ring

theorem span_any (x lo : Int) (w : World) :
    Calls Try.prog 55 #[.int .i64 x, .int .i64 lo] w fun e w' => e = .returned (.bool (within x lo 2147483648)) ∧ w = w' := by
  by_cases h : lo ≤ x
  · go_enter Try.func55, Try.ntmps55
    go_wp2
    go_ret
    exact ⟨ret_bool (by unfold within; simp [h]), rfl⟩
  · go_enter Try.func55, Try.ntmps55
    go_wp2
    go_ret
    exact ⟨ret_bool (within_no (by omega)).symm, rfl⟩

set_option maxRecDepth 100000 in
set_option maxHeartbeats 1000000 in
theorem refcheck_early (n sk tl va lo he ke qu : Int) (p : Option Addr) (l c : Nat) (w : World) (r : Int)
    (h : (okRing n = false ∧ r = 21) ∨
      (okRing n = true ∧ within sk 0 2147483648 = false ∧ r = 22) ∨
      (okRing n = true ∧ within sk 0 2147483648 = true ∧ within tl 1 2147483648 = false ∧ r = 22) ∨
      (okRing n = true ∧ within sk 0 2147483648 = true ∧ within tl 1 2147483648 = true ∧ within va 1 2147483648 = false ∧ r = 22) ∨
      (okRing n = true ∧ within sk 0 2147483648 = true ∧ within tl 1 2147483648 = true ∧ within va 1 2147483648 = true ∧ within lo 1 2147483648 = false ∧ r = 22) ∨
      (okRing n = true ∧ within sk 0 2147483648 = true ∧ within tl 1 2147483648 = true ∧ within va 1 2147483648 = true ∧ within lo 1 2147483648 = true ∧ within he 1 2147483648 = false ∧ r = 22) ∨
      (okRing n = true ∧ within sk 0 2147483648 = true ∧ within tl 1 2147483648 = true ∧ within va 1 2147483648 = true ∧ within lo 1 2147483648 = true ∧ within he 1 2147483648 = true ∧ (ke < 1 ∨ (1 ≤ ke ∧ 16 < ke) ∨ (1 ≤ ke ∧ ke ≤ 16 ∧ qu < 0) ∨ (1 ≤ ke ∧ ke ≤ 16 ∧ 0 ≤ qu ∧ 16 < qu)) ∧ r = 23)) :
    Calls Try.prog 29 #[.agg #[.int .i64 n, .int .i64 sk, .int .i64 tl, .int .i64 va, .int .i64 lo, .int .i64 he, .int .i64 ke, .int .i64 qu, .slice p l c]] w fun e w' => e = .returned (.int .i64 r) ∧ Below w.heap.size w w' := by
  rcases h with ⟨h1, rfl⟩ | ⟨h1, h2, rfl⟩ | ⟨h1, h2, h3, rfl⟩ | ⟨h1, h2, h3, h4, rfl⟩ | ⟨h1, h2, h3, h4, h5, rfl⟩ | ⟨h1, h2, h3, h4, h5, h6, rfl⟩ | ⟨h1, h2, h3, h4, h5, h6, k1 | ⟨k1, k2⟩ | ⟨k1, k2, k3⟩ | ⟨k1, k2, k3, k4⟩, rfl⟩
  all_goals
    go_enter Try.func29, Try.ntmps29
    go_wp2_with (first | (go_at_call 55; refine (span_any _ _ _).mono ?_; rintro e w' ⟨rfl, rfl⟩) | (go_at_call 54; refine (Ring.right_any _ _).mono ?_; rintro e w' ⟨rfl, rfl⟩))
    go_ret
    exact ⟨rfl, below_new _ _⟩

set_option maxRecDepth 100000 in
set_option maxHeartbeats 1000000 in
theorem refcheck_none (n sk tl va lo he ke qu : Int) (p : Option Addr) (c : Nat) (w : World)
    (h1 : okRing n = true) (h2 : within sk 0 2147483648 = true) (h3 : within tl 1 2147483648 = true) (h4 : within va 1 2147483648 = true) (h5 : within lo 1 2147483648 = true) (h6 : within he 1 2147483648 = true)
    (k1 : 1 ≤ ke) (k2 : ke ≤ 16) (k3 : 0 ≤ qu) (k4 : qu ≤ 16) :
    Calls Try.prog 29 #[.agg #[.int .i64 n, .int .i64 sk, .int .i64 tl, .int .i64 va, .int .i64 lo, .int .i64 he, .int .i64 ke, .int .i64 qu, .slice p 0 c]] w fun e w' => e = .returned (.int .i64 24) ∧ Below w.heap.size w w' := by
  go_enter Try.func29, Try.ntmps29
  go_wp2_with (first | (go_at_call 55; refine (span_any _ _ _).mono ?_; rintro e w' ⟨rfl, rfl⟩) | (go_at_call 54; refine (Ring.right_any _ _).mono ?_; rintro e w' ⟨rfl, rfl⟩))
  go_loop [5, 6] (fun b i => b = .bool false ∧ i = .int .i64 0) (fun _ _ => 0)
  case atStart => exact ⟨rfl, rfl⟩
  case round =>
    obtain ⟨rfl, rfl⟩ := hrel
    go_wp2
    go_ret
    exact ⟨rfl, below_new _ _⟩

set_option maxRecDepth 100000 in
set_option maxHeartbeats 1000000 in
theorem refcheck_few (n sk tl va lo he ke qu : Int) (b o : Nat) (zs : List (Int × Int)) (c : Nat) (w : World) (r : Int)
    (hc : ∀ i, i < zs.length → w.cell? ⟨b, o + i * 2, none⟩ = some (.int .i64 (zs.getD i (0, 0)).1) ∧ w.cell? ⟨b, o + i * 2 + 1, none⟩ = some (.int .i64 (zs.getD i (0, 0)).2))
    (h1 : okRing n = true) (h2 : within sk 0 2147483648 = true) (h3 : within tl 1 2147483648 = true) (h4 : within va 1 2147483648 = true) (h5 : within lo 1 2147483648 = true) (h6 : within he 1 2147483648 = true)
    (k1 : 1 ≤ ke) (k2 : ke ≤ 16) (k3 : 0 ≤ qu) (k4 : qu ≤ 16)
    (z1 : (1 : Int) ≤ zs.length) (z8 : (zs.length : Int) ≤ 8) (hr : Hid ((zs.all rate1 = true → r = 0) ∧ (zs.all rate1 = false → r = 24))) :
    Calls Try.prog 29 #[.agg #[.int .i64 n, .int .i64 sk, .int .i64 tl, .int .i64 va, .int .i64 lo, .int .i64 he, .int .i64 ke, .int .i64 qu, .slice (some ⟨b, o, none⟩) zs.length c]] w fun e w' => e = .returned (.int .i64 r) ∧ Below w.heap.size w w' := by
  have HR := Lib.hid hc; clear hc
  go_enter Try.func29, Try.ntmps29
  go_wp2_with (first | (go_at_call 55; refine (span_any _ _ _).mono ?_; rintro e w' ⟨rfl, rfl⟩) | (go_at_call 54; refine (Ring.right_any _ _).mono ?_; rintro e w' ⟨rfl, rfl⟩))
  go_loop [5, 6] (fun b i => ∃ k : Nat, i = .int .i64 (k : Int) ∧ k ≤ zs.length ∧ b = .bool ((zs.take k).all rate1)) (fun _ i => zs.length - (intOf i).toNat)
  case atStart => exact ⟨0, rfl, by omega, rfl⟩
  case round =>
    obtain ⟨k, rfl, hk, rfl⟩ := hrel
    by_cases hlt : k < zs.length
    · have hlt' : (k : Int) < (zs.length : Int) := by omega
      have g1 := cell_stays (below_new w (.cells #[.int .i64 n, .int .i64 sk, .int .i64 tl, .int .i64 va, .int .i64 lo, .int .i64 he, .int .i64 ke, .int .i64 qu, .slice (some ⟨b, o, none⟩) zs.length c] 27)) (HR.out k hlt).1
      have g2 := cell_stays (below_new w (.cells #[.int .i64 n, .int .i64 sk, .int .i64 tl, .int .i64 va, .int .i64 lo, .int .i64 he, .int .i64 ke, .int .i64 qu, .slice (some ⟨b, o, none⟩) zs.length c] 27)) (HR.out k hlt).2
      have AT := Lib.hid (all_take zs k hlt)
      generalize (zs.getD k (0, 0)).1 = x at *
      generalize (zs.getD k (0, 0)).2 = y at *
      generalize (zs.take k).all rate1 = q at *
      rcases Bool.eq_false_or_eq_true (within x 0 2147483648) with m1 | m1
      · cases q
        all_goals
          go_wp2_with (go_at_call 55; refine (span_any _ _ _).mono ?_; rintro e w' ⟨rfl, rfl⟩)
          go_round
          case rel => exact ⟨k + 1, by go_num, by omega, by rw [AT.out, m1]; rfl⟩
          case measure => simp only [intOf]; omega
      · cases q
        all_goals
          go_wp2_with (go_at_call 55; refine (span_any _ _ _).mono ?_; rintro e w' ⟨rfl, rfl⟩)
          go_round
          case rel => exact ⟨k + 1, by go_num, by omega, by rw [AT.out, m1]; rfl⟩
          case measure => simp only [intOf]; omega
    · have hke : k = zs.length := by omega
      subst hke
      rw [List.take_length]
      generalize zs.all rate1 = q at *
      cases q
      · have h := hr.out.2 rfl
        subst h
        go_wp2
        go_ret
        exact ⟨rfl, below_new _ _⟩
      · have h := hr.out.1 rfl
        subst h
        go_wp2
        go_ret
        exact ⟨rfl, below_new _ _⟩

set_option maxRecDepth 100000 in
set_option maxHeartbeats 1000000 in
theorem refcheck_many (n sk tl va lo he ke qu : Int) (b o : Nat) (zs : List (Int × Int)) (c : Nat) (w : World) (hl : zs.length ≤ 100)
    (hc : ∀ i, i < zs.length → w.cell? ⟨b, o + i * 2, none⟩ = some (.int .i64 (zs.getD i (0, 0)).1) ∧ w.cell? ⟨b, o + i * 2 + 1, none⟩ = some (.int .i64 (zs.getD i (0, 0)).2))
    (h1 : okRing n = true) (h2 : within sk 0 2147483648 = true) (h3 : within tl 1 2147483648 = true) (h4 : within va 1 2147483648 = true) (h5 : within lo 1 2147483648 = true) (h6 : within he 1 2147483648 = true)
    (k1 : 1 ≤ ke) (k2 : ke ≤ 16) (k3 : 0 ≤ qu) (k4 : qu ≤ 16)
    (z8 : (8 : Int) < zs.length) :
    Calls Try.prog 29 #[.agg #[.int .i64 n, .int .i64 sk, .int .i64 tl, .int .i64 va, .int .i64 lo, .int .i64 he, .int .i64 ke, .int .i64 qu, .slice (some ⟨b, o, none⟩) zs.length c]] w fun e w' => e = .returned (.int .i64 24) ∧ Below w.heap.size w w' := by
  have HR := Lib.hid hc; clear hc
  have z1 : (1 : Int) ≤ zs.length := by omega
  go_enter Try.func29, Try.ntmps29
  go_wp2_with (first | (go_at_call 55; refine (span_any _ _ _).mono ?_; rintro e w' ⟨rfl, rfl⟩) | (go_at_call 54; refine (Ring.right_any _ _).mono ?_; rintro e w' ⟨rfl, rfl⟩))
  go_loop [5, 6] (fun b i => ∃ k : Nat, i = .int .i64 (k : Int) ∧ k ≤ zs.length ∧ b = .bool false) (fun _ i => zs.length - (intOf i).toNat)
  case atStart => exact ⟨0, rfl, by omega, congrArg Value.bool (decide_eq_false (by omega))⟩
  case round =>
    obtain ⟨k, rfl, hk, rfl⟩ := hrel
    by_cases hlt : k < zs.length
    · have hlt' : (k : Int) < (zs.length : Int) := by omega
      have g1 := cell_stays (below_new w (.cells #[.int .i64 n, .int .i64 sk, .int .i64 tl, .int .i64 va, .int .i64 lo, .int .i64 he, .int .i64 ke, .int .i64 qu, .slice (some ⟨b, o, none⟩) zs.length c] 27)) (HR.out k hlt).1
      have g2 := cell_stays (below_new w (.cells #[.int .i64 n, .int .i64 sk, .int .i64 tl, .int .i64 va, .int .i64 lo, .int .i64 he, .int .i64 ke, .int .i64 qu, .slice (some ⟨b, o, none⟩) zs.length c] 27)) (HR.out k hlt).2
      generalize (zs.getD k (0, 0)).1 = x at *
      generalize (zs.getD k (0, 0)).2 = y at *
      rcases Bool.eq_false_or_eq_true (within x 0 2147483648) with m1 | m1
      all_goals
        go_wp2_with (go_at_call 55; refine (span_any _ _ _).mono ?_; rintro e w' ⟨rfl, rfl⟩)
        go_round
        case rel => exact ⟨k + 1, by go_num, by omega, rfl⟩
        case measure => simp only [intOf]; omega
    · have hke : k = zs.length := by omega
      subst hke
      go_wp2
      go_ret
      exact ⟨rfl, below_new _ _⟩

theorem refcheck_any (n sk tl va lo he ke qu : Int) (p : Option Addr) (zs : List (Int × Int)) (c : Nat) (w : World) (hl : zs.length ≤ 100) (hr : IsRates w p zs) :
    Calls Try.prog 29 #[.agg #[.int .i64 n, .int .i64 sk, .int .i64 tl, .int .i64 va, .int .i64 lo, .int .i64 he, .int .i64 ke, .int .i64 qu, .slice p zs.length c]] w fun e w' => e = .returned (.int .i64 (check n sk tl va lo he ke qu zs)) ∧ Below w.heap.size w w' := by
  have ok := okRing_within n
  unfold check times
  rcases Bool.eq_false_or_eq_true (within n 1 64) with h1 | h1
  · rw [h1] at ok
    rcases Bool.eq_false_or_eq_true (within sk 0 2147483648) with h2 | h2
    · rcases Bool.eq_false_or_eq_true (within tl 1 2147483648) with h3 | h3
      · rcases Bool.eq_false_or_eq_true (within va 1 2147483648) with h4 | h4
        · rcases Bool.eq_false_or_eq_true (within lo 1 2147483648) with h5 | h5
          · rcases Bool.eq_false_or_eq_true (within he 1 2147483648) with h6 | h6
            · by_cases k : (1 ≤ ke ∧ ke ≤ 16) ∧ (0 ≤ qu ∧ qu ≤ 16)
              · have e : rooms ke qu = true := by unfold rooms; rw [within_yes k.1.1 k.1.2, within_yes k.2.1 k.2.2]; rfl
                simp only [h1, h2, h3, h4, h5, h6, e]
                obtain ⟨⟨k1, k2⟩, k3, k4⟩ := k
                rcases hr with h0 | ⟨b, o, rfl, hc⟩
                · subst h0
                  simpa [show rates [] = false by decide] using refcheck_none n sk tl va lo he ke qu p c w ok h2 h3 h4 h5 h6 k1 k2 k3 k4
                · by_cases z8 : (zs.length : Int) ≤ 8
                  · by_cases z1 : (1 : Int) ≤ zs.length
                    · have e : rates zs = zs.all rate1 := by unfold rates; rw [within_yes z1 z8]; rfl
                      refine refcheck_few n sk tl va lo he ke qu b o zs c w _ hc ok h2 h3 h4 h5 h6 k1 k2 k3 k4 z1 z8 (Lib.hid ⟨fun h => ?_, fun h => ?_⟩)
                      · simp [e, h]
                      · simp [e, h]
                    · have h0 : zs = [] := List.length_eq_zero_iff.1 (by omega)
                      subst h0
                      simpa [show rates [] = false by decide] using refcheck_none n sk tl va lo he ke qu _ c w ok h2 h3 h4 h5 h6 k1 k2 k3 k4
                  · have e : rates zs = false := by unfold rates; rw [within_no (by omega)]; rfl
                    have h := refcheck_many n sk tl va lo he ke qu b o zs c w hl hc ok h2 h3 h4 h5 h6 k1 k2 k3 k4 (by omega)
                    simpa [e] using h
              · have e : rooms ke qu = false := by
                  unfold rooms
                  by_cases k' : 1 ≤ ke ∧ ke ≤ 16
                  · rw [within_no (x := qu) (lo := 0) (hi := 16) (fun h => k ⟨k', h⟩)]; simp
                  · rw [within_no k']; rfl
                have h := refcheck_early n sk tl va lo he ke qu p zs.length c w 23 (.inr (.inr (.inr (.inr (.inr (.inr ⟨ok, h2, h3, h4, h5, h6, by omega, rfl⟩))))))
                simpa [h1, h2, h3, h4, h5, h6, e] using h
            · have h := refcheck_early n sk tl va lo he ke qu p zs.length c w 22 (.inr (.inr (.inr (.inr (.inr (.inl ⟨ok, h2, h3, h4, h5, h6, rfl⟩))))))
              simpa [h1, h2, h3, h4, h5, h6] using h
          · have h := refcheck_early n sk tl va lo he ke qu p zs.length c w 22 (.inr (.inr (.inr (.inr (.inl ⟨ok, h2, h3, h4, h5, rfl⟩)))))
            simpa [h1, h2, h3, h4, h5] using h
        · have h := refcheck_early n sk tl va lo he ke qu p zs.length c w 22 (.inr (.inr (.inr (.inl ⟨ok, h2, h3, h4, rfl⟩))))
          simpa [h1, h2, h3, h4] using h
      · have h := refcheck_early n sk tl va lo he ke qu p zs.length c w 22 (.inr (.inr (.inl ⟨ok, h2, h3, rfl⟩)))
        simpa [h1, h2, h3] using h
    · have h := refcheck_early n sk tl va lo he ke qu p zs.length c w 22 (.inr (.inl ⟨ok, h2, rfl⟩))
      simpa [h1, h2] using h
  · have h := refcheck_early n sk tl va lo he ke qu p zs.length c w 21 (.inl ⟨ok.trans h1, rfl⟩)
    simpa [h1] using h
end Go.Proofs.Ytcnnepmhdccipaa.Conf
