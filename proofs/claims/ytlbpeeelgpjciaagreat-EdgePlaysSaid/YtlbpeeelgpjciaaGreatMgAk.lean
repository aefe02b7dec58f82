/-
  The document's Check of any configuration of at most 100 rates returns its error, and of what lay nothing has turned.
  The document's New of an edge; its Ask, whatever is asked; Same, of two lists of answers that are one.
  The document's Keys, of any queue of up to 1000 items.
  The document's Keys, of any estimates of up to 900 notes.
-/
import Derived.Laws.StructEq
import Derived.Test.YtlbpeeelgpjciaaGreatMgAj
import Derived.Test.YtlbpeeelgpjciaaGreatMgAf
import Derived.Test.YtlbpeeelgpjciaaGreatMgAh
namespace Go.Proofs.YtlbpeeelgpjciaaGreat.Conf
open Go.RowKit Ring

theorem span_any (x lo : Int) (w : World) :
    Calls Tryz.prog 69 #[.int .i64 x, .int .i64 lo] w fun e w' => e = .returned (.bool (within x lo 2147483648)) ∧ w = w' := by
  by_cases h : lo ≤ x
  · go_enter Tryz.func69, Tryz.ntmps69
    go_wp2
    go_ret
    exact ⟨ret_bool (by unfold within; simp [h]), rfl⟩
  · go_enter Tryz.func69, Tryz.ntmps69
    go_wp2
    go_ret
    exact ⟨ret_bool (within_no (by omega)).symm, rfl⟩

set_option maxRecDepth 100000 in
set_option maxHeartbeats 1000000 in
theorem refcheck_early (n sk tl va lo he ke qu : Int) (p : Option Addr) (l c : Nat) (w : World) (r : Int)
    (h : (okRing n = false ∧ r = 21) ∨
      (okRing n = true ∧ within sk 0 2147483648 = false ∧ r = 22) ∨
      (okRing n = true ∧ within sk 0 2147483648 = true ∧ within tl 1 2147483648 = false ∧ r = 22) ∨
      (okRing n = true ∧ within sk 0 2147483648 = true ∧ within tl 1 2147483648 = true ∧ within va 1 2147483648 = false ∧ r = 22) ∨
      (okRing n = true ∧ within sk 0 2147483648 = true ∧ within tl 1 2147483648 = true ∧ within va 1 2147483648 = true ∧ within lo 1 2147483648 = false ∧ r = 22) ∨
      (okRing n = true ∧ within sk 0 2147483648 = true ∧ within tl 1 2147483648 = true ∧ within va 1 2147483648 = true ∧ within lo 1 2147483648 = true ∧ within he 1 2147483648 = false ∧ r = 22) ∨
      (okRing n = true ∧ within sk 0 2147483648 = true ∧ within tl 1 2147483648 = true ∧ within va 1 2147483648 = true ∧ within lo 1 2147483648 = true ∧ within he 1 2147483648 = true ∧ (ke < 1 ∨ (1 ≤ ke ∧ 16 < ke) ∨ (1 ≤ ke ∧ ke ≤ 16 ∧ qu < 0) ∨ (1 ≤ ke ∧ ke ≤ 16 ∧ 0 ≤ qu ∧ 16 < qu)) ∧ r = 23)) :
    Calls Tryz.prog 30 #[.agg #[.int .i64 n, .int .i64 sk, .int .i64 tl, .int .i64 va, .int .i64 lo, .int .i64 he, .int .i64 ke, .int .i64 qu, .slice p l c]] w fun e w' => e = .returned (.int .i64 r) ∧ Below w.heap.size w w' := by
  rcases h with ⟨h1, rfl⟩ | ⟨h1, h2, rfl⟩ | ⟨h1, h2, h3, rfl⟩ | ⟨h1, h2, h3, h4, rfl⟩ | ⟨h1, h2, h3, h4, h5, rfl⟩ | ⟨h1, h2, h3, h4, h5, h6, rfl⟩ | ⟨h1, h2, h3, h4, h5, h6, k1 | ⟨k1, k2⟩ | ⟨k1, k2, k3⟩ | ⟨k1, k2, k3, k4⟩, rfl⟩
  all_goals
    go_enter Tryz.func30, Tryz.ntmps30
    go_wp2_with (first | (go_at_call 69; refine (span_any _ _ _).mono ?_; rintro e w' ⟨rfl, rfl⟩) | (go_at_call 68; refine (Ring.right_any _ _).mono ?_; rintro e w' ⟨rfl, rfl⟩))
    go_ret
    exact ⟨rfl, below_new _ _⟩

set_option maxRecDepth 100000 in
set_option maxHeartbeats 1000000 in
theorem refcheck_none (n sk tl va lo he ke qu : Int) (p : Option Addr) (c : Nat) (w : World)
    (h1 : okRing n = true) (h2 : within sk 0 2147483648 = true) (h3 : within tl 1 2147483648 = true) (h4 : within va 1 2147483648 = true) (h5 : within lo 1 2147483648 = true) (h6 : within he 1 2147483648 = true)
    (k1 : 1 ≤ ke) (k2 : ke ≤ 16) (k3 : 0 ≤ qu) (k4 : qu ≤ 16) :
    Calls Tryz.prog 30 #[.agg #[.int .i64 n, .int .i64 sk, .int .i64 tl, .int .i64 va, .int .i64 lo, .int .i64 he, .int .i64 ke, .int .i64 qu, .slice p 0 c]] w fun e w' => e = .returned (.int .i64 24) ∧ Below w.heap.size w w' := by
  go_enter Tryz.func30, Tryz.ntmps30
  go_wp2_with (first | (go_at_call 69; refine (span_any _ _ _).mono ?_; rintro e w' ⟨rfl, rfl⟩) | (go_at_call 68; refine (Ring.right_any _ _).mono ?_; rintro e w' ⟨rfl, rfl⟩))
  go_loop [5, 6] (fun b i => b = .bool false ∧ i = .int .i64 0) (fun _ _ => 0)
  case atStart => exact ⟨rfl, rfl⟩
  case round =>
    obtain ⟨rfl, rfl⟩ := hrel
    go_wp2
    go_ret
    exact ⟨rfl, below_new _ _⟩

set_option maxRecDepth 100000 in
set_option maxHeartbeats 1000000 in
theorem refcheck_few (n sk tl va lo he ke qu : Int) (b o : Nat) (zs : List (Int × Int)) (c : Nat) (w : World) (r : Int)
    (hc : ∀ i, i < zs.length → w.cell? ⟨b, o + i * 2, none⟩ = some (.int .i64 (zs.getD i (0, 0)).1) ∧ w.cell? ⟨b, o + i * 2 + 1, none⟩ = some (.int .i64 (zs.getD i (0, 0)).2))
    (h1 : okRing n = true) (h2 : within sk 0 2147483648 = true) (h3 : within tl 1 2147483648 = true) (h4 : within va 1 2147483648 = true) (h5 : within lo 1 2147483648 = true) (h6 : within he 1 2147483648 = true)
    (k1 : 1 ≤ ke) (k2 : ke ≤ 16) (k3 : 0 ≤ qu) (k4 : qu ≤ 16)
    (z1 : (1 : Int) ≤ zs.length) (z8 : (zs.length : Int) ≤ 8) (hr : Hid ((zs.all rate1 = true → r = 0) ∧ (zs.all rate1 = false → r = 24))) :
    Calls Tryz.prog 30 #[.agg #[.int .i64 n, .int .i64 sk, .int .i64 tl, .int .i64 va, .int .i64 lo, .int .i64 he, .int .i64 ke, .int .i64 qu, .slice (some ⟨b, o, none⟩) zs.length c]] w fun e w' => e = .returned (.int .i64 r) ∧ Below w.heap.size w w' := by
  have HR := Lib.hid hc; clear hc
  go_enter Tryz.func30, Tryz.ntmps30
  go_wp2_with (first | (go_at_call 69; refine (span_any _ _ _).mono ?_; rintro e w' ⟨rfl, rfl⟩) | (go_at_call 68; refine (Ring.right_any _ _).mono ?_; rintro e w' ⟨rfl, rfl⟩))
  go_loop [5, 6] (fun b i => ∃ k : Nat, i = .int .i64 (k : Int) ∧ k ≤ zs.length ∧ b = .bool ((zs.take k).all rate1)) (fun _ i => zs.length - (intOf i).toNat)
  case atStart => exact ⟨0, rfl, by omega, rfl⟩
  case round =>
    obtain ⟨k, rfl, hk, rfl⟩ := hrel
    by_cases hlt : k < zs.length
    · have hlt' : (k : Int) < (zs.length : Int) := by omega
      have g1 := cell_stays (below_new w (.cells #[.int .i64 n, .int .i64 sk, .int .i64 tl, .int .i64 va, .int .i64 lo, .int .i64 he, .int .i64 ke, .int .i64 qu, .slice (some ⟨b, o, none⟩) zs.length c] 24)) (HR.out k hlt).1
      have g2 := cell_stays (below_new w (.cells #[.int .i64 n, .int .i64 sk, .int .i64 tl, .int .i64 va, .int .i64 lo, .int .i64 he, .int .i64 ke, .int .i64 qu, .slice (some ⟨b, o, none⟩) zs.length c] 24)) (HR.out k hlt).2
      have AT := Lib.hid (all_take zs k hlt)
      generalize (zs.getD k (0, 0)).1 = x at *
      generalize (zs.getD k (0, 0)).2 = y at *
      generalize (zs.take k).all rate1 = q at *
      rcases Bool.eq_false_or_eq_true (within x 0 2147483648) with m1 | m1
      · cases q
        all_goals
          go_wp2_with (go_at_call 69; refine (span_any _ _ _).mono ?_; rintro e w' ⟨rfl, rfl⟩)
          go_round
          case rel => exact ⟨k + 1, by go_num, by omega, by rw [AT.out, m1]; rfl⟩
          case measure => simp only [intOf]; omega
      · cases q
        all_goals
          go_wp2_with (go_at_call 69; refine (span_any _ _ _).mono ?_; rintro e w' ⟨rfl, rfl⟩)
          go_round
          case rel => exact ⟨k + 1, by go_num, by omega, by rw [AT.out, m1]; rfl⟩
          case measure => simp only [intOf]; omega
    · have hke : k = zs.length := by omega
      subst hke
      rw [List.take_length]
      generalize zs.all rate1 = q at *
      cases q
      · have h := hr.out.2 rfl
        subst h
        go_wp2
        go_ret
        exact ⟨rfl, below_new _ _⟩
      · have h := hr.out.1 rfl
        subst h
        go_wp2
        go_ret
        exact ⟨rfl, below_new _ _⟩

set_option maxRecDepth 100000 in
set_option maxHeartbeats 1000000 in
theorem refcheck_many (n sk tl va lo he ke qu : Int) (b o : Nat) (zs : List (Int × Int)) (c : Nat) (w : World) (hl : zs.length ≤ 100)
    (hc : ∀ i, i < zs.length → w.cell? ⟨b, o + i * 2, none⟩ = some (.int .i64 (zs.getD i (0, 0)).1) ∧ w.cell? ⟨b, o + i * 2 + 1, none⟩ = some (.int .i64 (zs.getD i (0, 0)).2))
    (h1 : okRing n = true) (h2 : within sk 0 2147483648 = true) (h3 : within tl 1 2147483648 = true) (h4 : within va 1 2147483648 = true) (h5 : within lo 1 2147483648 = true) (h6 : within he 1 2147483648 = true)
    (k1 : 1 ≤ ke) (k2 : ke ≤ 16) (k3 : 0 ≤ qu) (k4 : qu ≤ 16)
    (z8 : (8 : Int) < zs.length) :
    Calls Tryz.prog 30 #[.agg #[.int .i64 n, .int .i64 sk, .int .i64 tl, .int .i64 va, .int .i64 lo, .int .i64 he, .int .i64 ke, .int .i64 qu, .slice (some ⟨b, o, none⟩) zs.length c]] w fun e w' => e = .returned (.int .i64 24) ∧ Below w.heap.size w w' := by
  have HR := Lib.hid hc; clear hc
  have z1 : (1 : Int) ≤ zs.length := by omega
  go_enter Tryz.func30, Tryz.ntmps30
  go_wp2_with (first | (go_at_call 69; refine (span_any _ _ _).mono ?_; rintro e w' ⟨rfl, rfl⟩) | (go_at_call 68; refine (Ring.right_any _ _).mono ?_; rintro e w' ⟨rfl, rfl⟩))
  go_loop [5, 6] (fun b i => ∃ k : Nat, i = .int .i64 (k : Int) ∧ k ≤ zs.length ∧ b = .bool false) (fun _ i => zs.length - (intOf i).toNat)
  case atStart => exact ⟨0, rfl, by omega, congrArg Value.bool (decide_eq_false (by omega))⟩
  case round =>
    obtain ⟨k, rfl, hk, rfl⟩ := hrel
    by_cases hlt : k < zs.length
    · have hlt' : (k : Int) < (zs.length : Int) := by omega
      have g1 := cell_stays (below_new w (.cells #[.int .i64 n, .int .i64 sk, .int .i64 tl, .int .i64 va, .int .i64 lo, .int .i64 he, .int .i64 ke, .int .i64 qu, .slice (some ⟨b, o, none⟩) zs.length c] 24)) (HR.out k hlt).1
      have g2 := cell_stays (below_new w (.cells #[.int .i64 n, .int .i64 sk, .int .i64 tl, .int .i64 va, .int .i64 lo, .int .i64 he, .int .i64 ke, .int .i64 qu, .slice (some ⟨b, o, none⟩) zs.length c] 24)) (HR.out k hlt).2
      generalize (zs.getD k (0, 0)).1 = x at *
      generalize (zs.getD k (0, 0)).2 = y at *
      rcases Bool.eq_false_or_eq_true (within x 0 2147483648) with m1 | m1
      all_goals
        go_wp2_with (go_at_call 69; refine (span_any _ _ _).mono ?_; rintro e w' ⟨rfl, rfl⟩)
        go_round
        case rel => exact ⟨k + 1, by go_num, by omega, rfl⟩
        case measure => simp only [intOf]; omega
    · have hke : k = zs.length := by omega
      subst hke
      go_wp2
      go_ret
      exact ⟨rfl, below_new _ _⟩

theorem refcheck_any (n sk tl va lo he ke qu : Int) (p : Option Addr) (zs : List (Int × Int)) (c : Nat) (w : World) (hl : zs.length ≤ 100) (hr : IsRates w p zs) :
    Calls Tryz.prog 30 #[.agg #[.int .i64 n, .int .i64 sk, .int .i64 tl, .int .i64 va, .int .i64 lo, .int .i64 he, .int .i64 ke, .int .i64 qu, .slice p zs.length c]] w fun e w' => e = .returned (.int .i64 (check n sk tl va lo he ke qu zs)) ∧ Below w.heap.size w w' := by
  have ok := okRing_within n
  unfold check times
  rcases Bool.eq_false_or_eq_true (within n 1 64) with h1 | h1
  · rw [h1] at ok
    rcases Bool.eq_false_or_eq_true (within sk 0 2147483648) with h2 | h2
    · rcases Bool.eq_false_or_eq_true (within tl 1 2147483648) with h3 | h3
      · rcases Bool.eq_false_or_eq_true (within va 1 2147483648) with h4 | h4
        · rcases Bool.eq_false_or_eq_true (within lo 1 2147483648) with h5 | h5
          · rcases Bool.eq_false_or_eq_true (within he 1 2147483648) with h6 | h6
            · by_cases k : (1 ≤ ke ∧ ke ≤ 16) ∧ (0 ≤ qu ∧ qu ≤ 16)
              · have e : rooms ke qu = true := by unfold rooms; rw [within_yes k.1.1 k.1.2, within_yes k.2.1 k.2.2]; rfl
                simp only [h1, h2, h3, h4, h5, h6, e]
                obtain ⟨⟨k1, k2⟩, k3, k4⟩ := k
                rcases hr with h0 | ⟨b, o, rfl, hc⟩
                · subst h0
                  simpa [show rates [] = false by decide] using refcheck_none n sk tl va lo he ke qu p c w ok h2 h3 h4 h5 h6 k1 k2 k3 k4
                · by_cases z8 : (zs.length : Int) ≤ 8
                  · by_cases z1 : (1 : Int) ≤ zs.length
                    · have e : rates zs = zs.all rate1 := by unfold rates; rw [within_yes z1 z8]; rfl
                      refine refcheck_few n sk tl va lo he ke qu b o zs c w _ hc ok h2 h3 h4 h5 h6 k1 k2 k3 k4 z1 z8 (Lib.hid ⟨fun h => ?_, fun h => ?_⟩)
                      · simp [e, h]
                      · simp [e, h]
                    · have h0 : zs = [] := List.length_eq_zero_iff.1 (by omega)
                      subst h0
                      simpa [show rates [] = false by decide] using refcheck_none n sk tl va lo he ke qu _ c w ok h2 h3 h4 h5 h6 k1 k2 k3 k4
                  · have e : rates zs = false := by unfold rates; rw [within_no (by omega)]; rfl
                    have h := refcheck_many n sk tl va lo he ke qu b o zs c w hl hc ok h2 h3 h4 h5 h6 k1 k2 k3 k4 (by omega)
                    simpa [e] using h
              · have e : rooms ke qu = false := by
                  unfold rooms
                  by_cases k' : 1 ≤ ke ∧ ke ≤ 16
                  · rw [within_no (x := qu) (lo := 0) (hi := 16) (fun h => k ⟨k', h⟩)]; simp
                  · rw [within_no k']; rfl
                have h := refcheck_early n sk tl va lo he ke qu p zs.length c w 23 (.inr (.inr (.inr (.inr (.inr (.inr ⟨ok, h2, h3, h4, h5, h6, by omega, rfl⟩))))))
                simpa [h1, h2, h3, h4, h5, h6, e] using h
            · have h := refcheck_early n sk tl va lo he ke qu p zs.length c w 22 (.inr (.inr (.inr (.inr (.inr (.inl ⟨ok, h2, h3, h4, h5, h6, rfl⟩))))))
              simpa [h1, h2, h3, h4, h5, h6] using h
          · have h := refcheck_early n sk tl va lo he ke qu p zs.length c w 22 (.inr (.inr (.inr (.inr (.inl ⟨ok, h2, h3, h4, h5, rfl⟩)))))
            simpa [h1, h2, h3, h4, h5] using h
        · have h := refcheck_early n sk tl va lo he ke qu p zs.length c w 22 (.inr (.inr (.inr (.inl ⟨ok, h2, h3, h4, rfl⟩))))
          simpa [h1, h2, h3, h4] using h
      · have h := refcheck_early n sk tl va lo he ke qu p zs.length c w 22 (.inr (.inr (.inl ⟨ok, h2, h3, rfl⟩)))
        simpa [h1, h2, h3] using h
    · have h := refcheck_early n sk tl va lo he ke qu p zs.length c w 22 (.inr (.inl ⟨ok, h2, rfl⟩))
      simpa [h1, h2] using h
  · have h := refcheck_early n sk tl va lo he ke qu p zs.length c w 21 (.inl ⟨ok.trans h1, rfl⟩)
    simpa [h1] using h
end Go.Proofs.YtlbpeeelgpjciaaGreat.Conf

namespace Go.Proofs.YtlbpeeelgpjciaaGreat.Edge
open Go.RowKit
open _root_.Go.Proofs.YtlbpeeelgpjciaaGreat.Codec (lt_of_heap frozen_of heap_set below_new)
open _root_.Go.Proofs.YtlbpeeelgpjciaaGreat.Kit (Enc Lies At Kept Laid Off cell_on lt_heap take_snoc below_drewN)

theorem rask_any {B v : Nat} {c : Cf} {e : Eg} {w : World} (h : Ed B w v c e) (hB : B ≤ w.heap.size) (hg : Good c e) (hf : e.L.length ≤ 150 ∧ e.Q.length ≤ 150) (r : Rq) (now : Int) :
    Calls Tryz.prog 37 #[.pointer (some ⟨v, 0, none⟩), rval r, .int .i64 now] w fun e' w' => ∃ y, e' = .returned y ∧ Told w' y (ask c e r now).2 ∧ EStep B w v c (ask c e r now).1 w' := by
  by_cases hb : bad e.Q r
  · have hE : ask c e r now = (e, no r.id 7) := by unfold ask; rw [if_pos hb]
    rw [hE]
    exact rask_bad h hB hf.2 r now hb
  · exact rask_good h hB hg hf r now hb
theorem RatesB.rates {B : Nat} {w : World} {p : Option Addr} {zs : List (Int × Int)} (h : RatesB B w p zs) : Conf.IsRates w p zs := by
  rcases h with h | ⟨b, o, e, -, hc⟩
  · exact .inl h
  · exact .inr ⟨b, o, e, hc⟩
set_option maxRecDepth 100000 in
set_option maxHeartbeats 4000000 in
theorem rnew_any {B : Nat} {c : Cf} {w : World} {p : Option Addr} {k : Nat} (hB : B ≤ w.heap.size) (hr : RatesB B w p c.zs) (hl : c.zs.length ≤ 100) :
    Calls Tryz.prog 7 #[c.val p k] w fun e' w' => Below w.heap.size w w' ∧ ((c.check ≠ 0 ∧ e' = .returned (.tuple #[.pointer none, .int .i64 c.check])) ∨ (c.check = 0 ∧ ∃ v, e' = .returned (.tuple #[.pointer (some ⟨v, 0, none⟩), .int .i64 0]) ∧ Ed B w' v c e0 ∧ w.heap.size ≤ v)) := by
  have HC := Lib.hid (fun u (hu : Below w.heap.size w u) => Conf.refcheck_any c.n c.sk c.tl c.va c.lo c.he c.ke c.qu p c.zs k u hl (hr.on (hu.mono hB)).rates)
  have HR := Lib.hid (fun u (hu : Below w.heap.size w u) => hr.on (hu.mono hB))
  have hcheck : c.check = Conf.check c.n c.sk c.tl c.va c.lo c.he c.ke c.qu c.zs := rfl
  rw [← hcheck] at HC
  generalize c.check = ck at *
  clear hcheck
  obtain ⟨cn, csk, ctl, cva, clo, che, cke, cqu, zs⟩ := c
  simp only [Cf.val] at *
  have HBX := Lib.hid (lay w (.cells #[.int .i64 cn, .int .i64 csk, .int .i64 ctl, .int .i64 cva, .int .i64 clo, .int .i64 che, .int .i64 cke, .int .i64 cqu, .slice p zs.length k] 24))
  have HK := Lib.hid (heap_alloc_new w (.cells #[.int .i64 cn, .int .i64 csk, .int .i64 ctl, .int .i64 cva, .int .i64 clo, .int .i64 che, .int .i64 cke, .int .i64 cqu, .slice p zs.length k] 24))
  have hlt := w.heap.size.lt_succ_self
  have h9 : ∀ u : World, u.heap[w.heap.size]? = some (.cells #[.int .i64 cn, .int .i64 csk, .int .i64 ctl, .int .i64 cva, .int .i64 clo, .int .i64 che, .int .i64 cke, .int .i64 cqu, .slice p zs.length k] 24 (0, 0)) →
      u.cell? ⟨w.heap.size, 0, none⟩ = some (.int .i64 cn) ∧ u.cell? ⟨w.heap.size, 1, none⟩ = some (.int .i64 csk) ∧ u.cell? ⟨w.heap.size, 2, none⟩ = some (.int .i64 ctl) ∧ u.cell? ⟨w.heap.size, 3, none⟩ = some (.int .i64 cva) ∧ u.cell? ⟨w.heap.size, 4, none⟩ = some (.int .i64 clo) ∧ u.cell? ⟨w.heap.size, 5, none⟩ = some (.int .i64 che) ∧
      u.cell? ⟨w.heap.size, 6, none⟩ = some (.int .i64 cke) ∧ u.cell? ⟨w.heap.size, 7, none⟩ = some (.int .i64 cqu) ∧ u.cell? ⟨w.heap.size, 8, none⟩ = some (.slice p zs.length k) := fun u hu =>
    ⟨by rw [cell_of_row u _ 0 _ _ (0, 0) hu]; rfl, by rw [cell_of_row u _ 1 _ _ (0, 0) hu]; rfl, by rw [cell_of_row u _ 2 _ _ (0, 0) hu]; rfl, by rw [cell_of_row u _ 3 _ _ (0, 0) hu]; rfl, by rw [cell_of_row u _ 4 _ _ (0, 0) hu]; rfl, by rw [cell_of_row u _ 5 _ _ (0, 0) hu]; rfl, by rw [cell_of_row u _ 6 _ _ (0, 0) hu]; rfl, by rw [cell_of_row u _ 7 _ _ (0, 0) hu]; rfl, by rw [cell_of_row u _ 8 _ _ (0, 0) hu]; rfl⟩
  have H9 := Lib.hid h9
  clear hr h9
  rcases Decidable.em (ck = 0) with h0 | h0
  · subst h0
    go_enter Tryz.func7, Tryz.ntmps7
    go_wp2_with (go_at_call 30; (with_reducible refine (HC.out _ HBX.out).mono ?_); rintro e1 w1 ⟨rfl, hb⟩; have HB1 := Lib.hid (HBX.out.trans (hb.mono HBX.out.size)); have K1 := Lib.hid ((hb.block w.heap.size (lt_of_heap HK.out)).trans HK.out); obtain ⟨b0, b1, b2, b3, b4, b5, b6, b7, b8⟩ := H9.out _ K1.out; clear hb)
    refine bodyPost_ret (v := .tuple #[.pointer (some ⟨w1.heap.size, 0, none⟩), .int .i64 0]) (by simp [results, Tryz.results7, go_sem]) rfl ?_
    have hz := HB1.out.size
    have hba : Below w1.heap.size w1 (w1.alloc (.cells #[.int .i64 cn, .int .i64 csk, .int .i64 ctl, .int .i64 cva, .int .i64 clo, .int .i64 che, .int .i64 cke, .int .i64 cqu, .slice p zs.length k, .slice none 0 0, .int .i64 cqu, .slice none 0 0, .slice none 0 0] 60)) := lay w1 _
    have hb2 := HB1.out.trans (hba.mono hz)
    exact ⟨hb2, .inr ⟨trivial, w1.heap.size, rfl, ⟨Nat.le_trans hB hz, _, p, k, _, _, _, heap_alloc_new w1 _, ⟨rfl, rfl, rfl, rfl, rfl, rfl, rfl, rfl, rfl⟩, HR.out _ hb2, rfl, World.ownsRow_nil _ _ _ _, rfl, rfl, Kit.Own.none _ _ _ _, rfl, Kit.Own.none _ _ _ _⟩, hz⟩⟩
  · have h1 : (ck != 0) = true := by simpa using h0
    go_enter Tryz.func7, Tryz.ntmps7
    go_wp2_with (go_at_call 30; (with_reducible refine (HC.out _ HBX.out).mono ?_); rintro e1 w1 ⟨rfl, hb⟩; have HB1 := Lib.hid (HBX.out.trans (hb.mono HBX.out.size)); clear hb)
    refine bodyPost_ret (v := .tuple #[.pointer none, .int .i64 ck]) (by simp [results, Tryz.results7, go_sem]) rfl ?_
    exact ⟨HB1.out, .inl ⟨h0, rfl⟩⟩
/-- Are they the same? -/
def same3 (a b : An) : Bool := a.id == b.id && (a.gen == b.gen && a.why == b.why)
theorem same3_iff {a b : An} : same3 a b = true ↔ a = b := by
  obtain ⟨a1, a2, a3⟩ := a
  obtain ⟨b1, b2, b3⟩ := b
  simp [same3]
def aval (x : An) : Value := .agg #[.int .i64 x.id, .int .i64 x.gen, .int .i64 x.why]
theorem eq3 (a b : An) (w : World) : (Op.equalIn 10000 79 (aval a) (aval b)).run Tryz.prog w = .ok (same3 a b) w := by
  obtain ⟨a1, a2, a3⟩ := a
  obtain ⟨b1, b2, b3⟩ := b
  unfold aval same3
  rw [run_equalIn_agg w 9999 _ _ _ (by kernel_rfl) (by kernel_rfl)]
  have e : ∀ (a b : Int) (w : World), (Op.equalIn 9999 3 (.int .i64 a) (.int .i64 b)).run Tryz.prog w = .ok (a == b) w := fun a b w => run_equalIn_int w 9998 _ _ _ a b Tryz.underlying3
  have e' : ∀ (a b : Int) (w : World), (Op.equalIn 9999 41 (.int .i64 a) (.int .i64 b)).run Tryz.prog w = .ok (a == b) w := fun a b w => run_equalIn_int w 9998 _ _ _ a b Tryz.underlying41
  by_cases h1 : a1 = b1
  · by_cases h2 : a2 = b2
    · by_cases h3 : a3 = b3
      · simp [Program.fieldsOf, Tryz.underlying79, Op.eqFields, part, isAgg, run_underlying Tryz.underlying3, run_underlying Tryz.underlying41, e, e', h1, h2, h3]
      · simp [Program.fieldsOf, Tryz.underlying79, Op.eqFields, part, isAgg, run_underlying Tryz.underlying3, run_underlying Tryz.underlying41, e, e', h1, h2, h3]
    · simp [Program.fieldsOf, Tryz.underlying79, Op.eqFields, part, isAgg, run_underlying Tryz.underlying3, run_underlying Tryz.underlying41, e, h1, h2]
  · simp [Program.fieldsOf, Tryz.underlying79, Op.eqFields, part, isAgg, run_underlying Tryz.underlying3, run_underlying Tryz.underlying41, e, h1]
theorem neq3 (a b : An) (w : World) : (binOp .neq 79 (aval a) (aval b)).run Tryz.prog w = .ok (.bool (!same3 a b)) w := by
  have := eq3 a b w
  unfold aval at this ⊢
  rw [run_neq_struct, this]; rfl
theorem eql3 (a b : An) (w : World) : (binOp .eql 79 (aval a) (aval b)).run Tryz.prog w = .ok (.bool (same3 a b)) w := by
  have := eq3 a b w
  unfold aval at this ⊢
  rw [run_eql_struct, this]; rfl
/-- Two lists of answers that lie are the same list: Same says so. -/
theorem rsame_any {l : List An} {p q : Option Addr} {c d : Nat} {w : World} (h : Lies ans w p l) (h' : Lies ans w q l) (hl : l.length ≤ 1000) :
    Calls Tryz.prog 10 #[.slice p l.length c, .slice q l.length d] w fun e w' => e = .returned (.bool true) ∧ Below w.heap.size w w' := by
  have HB := Lib.hid (Below.refl w.heap.size w)
  have HL := Lib.hid h
  have HM := Lib.hid h'
  clear h h'
  have hne : ((l.length : Int) != (l.length : Int)) = false := by simp
  go_enter Tryz.func10, Tryz.ntmps10
  go_wp2
  go_loopw [5] (fun i wr => ∃ j : Nat, j ≤ l.length ∧ i = .int .i64 (j : Int) ∧ Hid (Below w.heap.size w wr)) (fun i _ => l.length - (intOf i).toNat)
  case atStart => exact ⟨0, by omega, rfl, HB⟩
  case round =>
    obtain ⟨j, hj, rfl, hbw⟩ := hrel
    by_cases hlt : j < l.length
    · obtain ⟨b, o, rfl, ha⟩ := ans_at (HL.out.below hbw.out) hlt
      obtain ⟨k0, k1, k2⟩ := at3 ha
      obtain ⟨b', o', rfl, ha'⟩ := ans_at (HM.out.below hbw.out) hlt
      obtain ⟨x0, x1, x2⟩ := at3 ha'
      have hlt' : (j : Int) < (l.length : Int) := by omega
      have heq := fun i => neq3 (l.getD j az) (l.getD j az) (wr.drewN i)
      rw [same3_iff.2 rfl] at heq
      clear HL HM ha ha'
      generalize l.getD j az = x at *
      obtain ⟨xi, xg, xw⟩ := x
      simp only [aval, Bool.not_true] at heq k0 k1 k2 x0 x1 x2
      go_wp2
      go_quiet (fail)
      go_wp2
      go_roundw
      case rel => exact ⟨j + 1, by omega, by go_num, Lib.hid (hbw.out.trans ((below_drewN _ _).mono hbw.out.size))⟩
      case measure => simp only [intOf]; omega
    · have hlt' : ¬ (j : Int) < (l.length : Int) := by omega
      clear HL HM
      go_wp2
      go_ret
      exact ⟨rfl, hbw.out⟩
end Go.Proofs.YtlbpeeelgpjciaaGreat.Edge

namespace Go.Proofs.YtlbpeeelgpjciaaGreat.Queue2
open _root_.Go.Proofs.YtlbpeeelgpjciaaGreat.Queue
variable {ov : Nat}
open Go.RowKit
open _root_.Go.Proofs.YtlbpeeelgpjciaaGreat.Codec (lt_of_heap frozen_of heap_set below_new)
open _root_.Go.Proofs.YtlbpeeelgpjciaaGreat.Kit (Enc Lies Own At Kept Laid cell_on lt_heap take_snoc below_drewN box5 ints)

theorem laidI : Laid Tryz.prog ints 3 106 := ⟨Tryz.underlying106, .int .i64 0, 8, by kernel_rfl, rfl, by decide⟩
theorem at1 {w : World} {b o : Nat} {x : Int} (h : At ints w b o x) : w.cell? ⟨b, o, none⟩ = some (.int .i64 x) := h 0 _ rfl
theorem ints_at {w : World} {p : Option Addr} {l : List Int} (h : Lies ints w p l) {j : Nat} (hj : j < l.length) : ∃ b o, p = some ⟨b, o, none⟩ ∧ w.cell? ⟨b, o + j, none⟩ = some (.int .i64 (l.getD j 0)) := by
  obtain ⟨b, o, e, ha⟩ := Kit.lies_at h hj
  refine ⟨b, o, e, ?_⟩
  have := at1 ha
  rwa [show ints.n = 1 from rfl, Nat.mul_one] at this
/-- Four ways of one round. -/
theorem kstep_cases (k a : Int) (s : List Int × Bool) :
    (s.2 = false ∧ k ≤ a ∧ a = k ∧ kstep k s a = (s.1 ++ [k], true)) ∨ (s.2 = false ∧ k ≤ a ∧ a ≠ k ∧ kstep k s a = (s.1 ++ [k] ++ [a], true)) ∨
    ((s.2 = true ∨ s.2 = false ∧ ¬ k ≤ a) ∧ a = k ∧ kstep k s a = s) ∨ ((s.2 = true ∨ s.2 = false ∧ ¬ k ≤ a) ∧ a ≠ k ∧ kstep k s a = (s.1 ++ [a], s.2)) := by
  obtain ⟨l, d⟩ := s
  unfold kstep
  cases d <;> by_cases h1 : k ≤ a <;> by_cases h2 : a = k <;> simp [h1, h2]
theorem kfold_at {k : Int} {l : List Int} {j : Nat} (h : j < l.length) : kfold k (l.take (j + 1)) = kstep k (kfold k (l.take j)) (l.getD j 0) := by
  rw [take_snoc 0 h, kfold_snoc]
theorem keys_at {l : List It} {j : Nat} (h : j < l.length) : keys (l.take (j + 1)) = kput (l.getD j z).key (keys (l.take j)) := by
  rw [take_snoc z h, keys_snoc]
set_option maxRecDepth 100000 in
set_option maxHeartbeats 8000000 in
theorem rkeys_own {B v : Nat} {room : Int} {l : List It} {w : World} (h : Qu B w v ov room l) (hl : l.length ≤ 1000) :
    Calls Tryz.prog 133 #[.pointer (some ⟨v, ov, none⟩)] w fun e w' => ∃ p c, e = .returned (.slice p (keys l).length c) ∧ Own ints 3 w.heap.size w' (.slice p (keys l).length c) (keys l) ∧ Below w.heap.size w w' := by
  have HV := Lib.hid h
  have HD := Lib.hid (show keys l = keys (l.take l.length) by rw [List.take_length])
  have HS := Lib.hid (fun (j : Nat) (h : j < l.length) => keys_at h)
  have HL := Lib.hid (fun j => keys_len (l.take j))
  have H0 := Lib.hid (show keys (l.take 0) = [] from rfl)
  generalize keys l = R at HD ⊢
  generalize hK : (fun j => keys (l.take j)) = KS
  have hK' : ∀ j, keys (l.take j) = KS j := fun j => by rw [← hK]
  simp only [hK'] at HD HS HL H0
  clear h hK hK'
  go_enter Tryz.func133, Tryz.ntmps133
  go_wp2
  go_loopw [3, 4] (fun y k wr => ∃ (j : Nat) (p : Option Addr) (d n : Nat), j ≤ l.length ∧ k = .int .i64 (j : Int) ∧ y = .slice p n d ∧ Hid (Own ints 3 w.heap.size wr y (KS j)) ∧ Hid ((KS j).length = n) ∧ Hid (Below w.heap.size w wr)) (fun _ k _ => l.length - (intOf k).toNat)
  case atStart => exact ⟨0, none, 0, 0, by omega, rfl, rfl, by rw [H0.out]; exact Lib.hid (Own.none _ _ _ _), by rw [H0.out]; exact Lib.hid rfl, Lib.hid (Below.refl _ _)⟩
  case round =>
    obtain ⟨j, p, d, n, hj, rfl, rfl, hown, hn, HBW⟩ := hrel
    obtain ⟨q0, cq0, c1, hr, -⟩ := (HV.out.below HBW.out).cell
    by_cases hlt : j < l.length
    · have hlt' : (j : Int) < (l.length : Int) := by omega
      have HE := Lib.hid (HS.out j hlt)
      have hn5 : n ≤ 1000 := by
        rw [← hn.out]
        exact Nat.le_trans (HL.out j) (by simp; omega)
      have HPJ := Lib.hid (fun u (hu : Below w.heap.size w u) => lies_at (HV.out.below hu).cell.choose_spec.choose_spec.2.1 hlt)
      generalize KS j = M at *
      have hlies := hown.out.lies
      obtain ⟨p', c', e', HM⟩ := hlies
      simp only [Value.slice.injEq] at e'
      obtain ⟨rfl, hn', rfl⟩ := e'
      subst hn'
      have HML := Lib.hid HM
      have HAT := Lib.hid (lies_at hr hlt)
      clear hr HM HPJ
      generalize l.getD j z = x at *
      obtain ⟨xi, xk, xc, xs, xt⟩ := x
      obtain ⟨b, o, rfl, hat⟩ := HAT.out
      obtain ⟨k0, k1, k2, k3, k4⟩ := at5 hat
      simp only at k0 k1 k2 k3 k4 HE
      have HX := Lib.hid (fun u (hu : Below wr.heap.size wr u) => And.intro (cell_on c1 hu) (cell_on k1 hu))
      clear hat k0 k2 k3 k4 HAT
      have HKS := Lib.hid (fun (m : Nat) (hm : m < M.length) => kfold_at (k := xk) hm)
      have HKL := Lib.hid (fun m => kfold_len xk (M.take m))
      have HK0 := Lib.hid (show kfold xk (M.take 0) = ([], false) from rfl)
      have HKP := Lib.hid (show kput xk M = if (kfold xk (M.take M.length)).2 = true then (kfold xk (M.take M.length)).1 else (kfold xk (M.take M.length)).1 ++ [xk] by rw [List.take_length]; rfl)
      generalize kput xk M = M' at *
      generalize hK : (fun j => kfold xk (M.take j)) = KF
      have hK' : ∀ j, kfold xk (M.take j) = KF j := fun j => by rw [← hK]
      simp only [hK'] at HKS HKL HK0 HKP
      clear hK hK' k1
      go_wp2
      clear c1
      rename World => W1
      go_loopw [5, 6, 7] (fun y dn k wu => ∃ (m : Nat) (p2 : Option Addr) (d2 n2 : Nat), m ≤ M.length ∧ k = .int .i64 (m : Int) ∧ y = .slice p2 n2 d2 ∧ dn = .bool (KF m).2 ∧ Hid (Own ints 3 W1.heap.size wu y (KF m).1) ∧ Hid ((KF m).1.length = n2) ∧ Hid (Below W1.heap.size W1 wu)) (fun _ _ k _ => M.length - (intOf k).toNat)
      case atStart => exact ⟨0, none, 0, 0, by omega, rfl, rfl, by rw [HK0.out], by rw [HK0.out]; exact Lib.hid (Own.none _ _ _ _), by rw [HK0.out]; exact Lib.hid rfl, Lib.hid (Below.refl _ _)⟩
      case round =>
        obtain ⟨m, p2, d2, n2, hm, rfl, rfl, rfl, hown2, hn2, HBU⟩ := hrel
        obtain ⟨c1, k1⟩ := HX.out _ HBU.out
        have hn6 : n2 ≤ 1002 := by
          rw [← hn2.out]
          have := HKL.out m
          have h5 : (M.take m).length ≤ M.length := by simp; omega
          omega
        by_cases hlm : m < M.length
        · have hlm' : (m : Int) < (M.length : Int) := by omega
          obtain ⟨b2, o2, rfl, a1⟩ := ints_at HML.out hlm
          have HA := Lib.hid (fun u (hu : Below W1.heap.size W1 u) => cell_on a1 hu)
          have a0 := HA.out _ HBU.out
          have hst := HKS.out m hlm
          have hc := kstep_cases xk (M.getD m 0) (KF m)
          rw [← hst] at hc
          clear hst a1 HML HKS HKL
          generalize M.getD m 0 = a at *
          generalize KF m = S at *
          generalize hS' : KF (m + 1) = S' at *
          have HS' := Lib.hid hS'
          obtain ⟨L, D⟩ := S
          simp only at hn2 hown2 hc
          have HO1 := hown2
          have HB1 := HBU
          clear hown2 HBU hS'
          rcases hc with ⟨hD, h1, h2, h3⟩ | ⟨hD, h1, h2, h3⟩ | ⟨hD, h2, h3⟩ | ⟨hD, h2, h3⟩
          · subst hD
            have H3 := Lib.hid (HS'.out.trans h3)
            have g1 : decide (a ≥ xk) = true := by simp; exact h1
            have g2 : (a != xk) = false := by simp [h2]
            clear HS' h3 h2
            go_wp2
            go_quiet (fail)
            have HB2 := Lib.hid (HB1.out.trans ((below_drewN wr nq).mono HB1.out.size))
            have HO2 := Lib.hid (HO1.out.on (below_drewN wr nq))
            clear c1 k1 a0 HB1 HO1
            generalize wr.drewN nq = w2 at *
            obtain ⟨c1, k1⟩ := HX.out _ HB2.out
            have a0 := HA.out _ HB2.out
            go_wp2_with (at_builtin; refine Kit.push laidI rfl _ _ rfl W1 w2 (.slice p2 n2 d2) rfl L n2 hn2.out HO2.out HB2.out ((Below.refl _ _).alloc (Nat.le_refl _) _) w2.heap.size xk rfl (heap_alloc_new _ _) (by omega) ?_; intro p3 c3 w3 R3 B3; have HO3 := R3; have HB3 := Lib.hid B3; clear R3 B3 c1 k1 a0; obtain ⟨c1, k1⟩ := HX.out _ HB3.out; have a0 := HA.out _ HB3.out)
            go_quiet (fail)
            have HB4 := Lib.hid (HB3.out.trans ((below_drewN w3 nq).mono HB3.out.size))
            have HO4 := Lib.hid (HO3.out.on (below_drewN w3 nq))
            clear c1 k1 a0 HB3 HO3
            generalize w3.drewN nq = w4 at *
            obtain ⟨c1, k1⟩ := HX.out _ HB4.out
            have a0 := HA.out _ HB4.out
            go_wp2
            go_roundw
            case rel => exact ⟨m + 1, p3, c3, n2 + 1, by omega, by go_num, rfl, by rw [H3.out], by rw [H3.out]; exact HO4, by rw [H3.out]; exact Lib.hid (by simp [hn2.out]), HB4⟩
            case measure => simp only [intOf]; omega
          · subst hD
            have H3 := Lib.hid (HS'.out.trans h3)
            have g1 : decide (a ≥ xk) = true := by simp; exact h1
            have g2 : (a != xk) = true := by simp [h2]
            have hn7 := Lib.hid (show (L ++ [xk]).length = n2 + 1 by simp [hn2.out])
            clear HS' h3 h2
            go_wp2
            go_quiet (fail)
            have HB2 := Lib.hid (HB1.out.trans ((below_drewN wr nq).mono HB1.out.size))
            have HO2 := Lib.hid (HO1.out.on (below_drewN wr nq))
            clear c1 k1 a0 HB1 HO1
            generalize wr.drewN nq = w2 at *
            obtain ⟨c1, k1⟩ := HX.out _ HB2.out
            have a0 := HA.out _ HB2.out
            go_wp2_with (at_builtin; refine Kit.push laidI rfl _ _ rfl W1 w2 (.slice p2 n2 d2) rfl L n2 hn2.out HO2.out HB2.out ((Below.refl _ _).alloc (Nat.le_refl _) _) w2.heap.size xk rfl (heap_alloc_new _ _) (by omega) ?_; intro p3 c3 w3 R3 B3; have HO3 := R3; have HB3 := Lib.hid B3; clear R3 B3 c1 k1 a0; obtain ⟨c1, k1⟩ := HX.out _ HB3.out; have a0 := HA.out _ HB3.out)
            go_quiet (fail)
            have HB4 := Lib.hid (HB3.out.trans ((below_drewN w3 nq).mono HB3.out.size))
            have HO4 := Lib.hid (HO3.out.on (below_drewN w3 nq))
            clear c1 k1 a0 HB3 HO3
            generalize w3.drewN nq = w4 at *
            obtain ⟨c1, k1⟩ := HX.out _ HB4.out
            have a0 := HA.out _ HB4.out
            go_wp2_with (at_builtin; refine Kit.push laidI rfl _ _ rfl W1 w4 (.slice p3 (n2 + 1) c3) rfl (L ++ [xk]) (n2 + 1) hn7.out HO4.out HB4.out ((Below.refl _ _).alloc (Nat.le_refl _) _) w4.heap.size a rfl (heap_alloc_new _ _) (by omega) ?_; intro p5 c5 w5 R5 B5; have HO5 := R5; have HB5 := Lib.hid B5; clear R5 B5 c1 k1 a0; obtain ⟨c1, k1⟩ := HX.out _ HB5.out; have a0 := HA.out _ HB5.out)
            go_roundw
            case rel => exact ⟨m + 1, p5, c5, n2 + 1 + 1, by omega, by go_num, rfl, by rw [H3.out], by rw [H3.out]; exact HO5, by rw [H3.out]; exact Lib.hid (by simp [hn2.out]), HB5⟩
            case measure => simp only [intOf]; omega
          · have H3 := Lib.hid (HS'.out.trans h3)
            have g2 : (a != xk) = false := by simp [h2]
            clear HS' h3 h2
            rcases hD with hD | ⟨hD, h1⟩
            all_goals
              subst hD
              first | have g1 : decide (a ≥ xk) = false := (by simp; omega) | skip
              go_wp2
              go_quiet (fail)
              have HB2 := Lib.hid (HB1.out.trans ((below_drewN wr nq).mono HB1.out.size))
              have HO2 := Lib.hid (HO1.out.on (below_drewN wr nq))
              clear c1 k1 a0 HB1 HO1
              generalize wr.drewN nq = w2 at *
              obtain ⟨c1, k1⟩ := HX.out _ HB2.out
              have a0 := HA.out _ HB2.out
              go_wp2
              go_quiet (fail)
              have HB3 := Lib.hid (HB2.out.trans ((below_drewN w2 nq).mono HB2.out.size))
              have HO3 := Lib.hid (HO2.out.on (below_drewN w2 nq))
              clear c1 k1 a0 HB2 HO2
              generalize w2.drewN nq = w3 at *
              obtain ⟨c1, k1⟩ := HX.out _ HB3.out
              have a0 := HA.out _ HB3.out
              go_wp2
              go_roundw
              case rel => exact ⟨m + 1, p2, d2, n2, by omega, by go_num, rfl, by rw [H3.out], by rw [H3.out]; exact HO3, by rw [H3.out]; exact hn2, HB3⟩
              case measure => simp only [intOf]; omega
          · have H3 := Lib.hid (HS'.out.trans h3)
            have g2 : (a != xk) = true := by simp [h2]
            clear HS' h3 h2
            rcases hD with hD | ⟨hD, h1⟩
            all_goals
              subst hD
              first | have g1 : decide (a ≥ xk) = false := (by simp; omega) | skip
              go_wp2
              go_quiet (fail)
              have HB2 := Lib.hid (HB1.out.trans ((below_drewN wr nq).mono HB1.out.size))
              have HO2 := Lib.hid (HO1.out.on (below_drewN wr nq))
              clear c1 k1 a0 HB1 HO1
              generalize wr.drewN nq = w2 at *
              obtain ⟨c1, k1⟩ := HX.out _ HB2.out
              have a0 := HA.out _ HB2.out
              go_wp2
              go_quiet (fail)
              have HB3 := Lib.hid (HB2.out.trans ((below_drewN w2 nq).mono HB2.out.size))
              have HO3 := Lib.hid (HO2.out.on (below_drewN w2 nq))
              clear c1 k1 a0 HB2 HO2
              generalize w2.drewN nq = w3 at *
              obtain ⟨c1, k1⟩ := HX.out _ HB3.out
              have a0 := HA.out _ HB3.out
              go_wp2_with (at_builtin; refine Kit.push laidI rfl _ _ rfl W1 w3 (.slice p2 n2 d2) rfl L n2 hn2.out HO3.out HB3.out ((Below.refl _ _).alloc (Nat.le_refl _) _) w3.heap.size a rfl (heap_alloc_new _ _) (by omega) ?_; intro p4 c4 w4 R4 B4; have HO4 := R4; have HB4 := Lib.hid B4; clear R4 B4 c1 k1 a0; obtain ⟨c1, k1⟩ := HX.out _ HB4.out; have a0 := HA.out _ HB4.out)
              go_roundw
              case rel => exact ⟨m + 1, p4, c4, n2 + 1, by omega, by go_num, rfl, by rw [H3.out], by rw [H3.out]; exact HO4, by rw [H3.out]; exact Lib.hid (by simp [hn2.out]), HB4⟩
              case measure => simp only [intOf]; omega
        · have hlm' : ¬ (m : Int) < (M.length : Int) := by omega
          obtain rfl : m = M.length := by omega
          have hkp := HKP.out
          clear HKS HKL HML HKP hlm
          generalize KF M.length = S at *
          obtain ⟨L, D⟩ := S
          simp only at hn2 hown2 hkp
          cases D
          · have HM' := Lib.hid (show M' = L ++ [xk] by rw [hkp]; rfl)
            clear hkp
            go_wp2_with (at_builtin; refine Kit.push laidI rfl _ _ rfl W1 wr (.slice p2 n2 d2) rfl L n2 hn2.out hown2.out HBU.out ((Below.refl _ _).alloc (Nat.le_refl _) _) wr.heap.size xk rfl (heap_alloc_new _ _) (by omega) ?_; intro p3 c3 w3 R3 B3)
            go_roundw
            case rel => exact ⟨j + 1, p3, c3, n2 + 1, by omega, by go_num, rfl, by rw [HE.out, HM'.out]; exact Lib.hid (Own.lower R3.out HBW.out.size), by rw [HE.out, HM'.out]; exact Lib.hid (by simp [hn2.out]), Lib.hid (HBW.out.trans (B3.mono HBW.out.size))⟩
            case measure => simp only [intOf]; omega
          · have HM' := Lib.hid (show M' = L by rw [hkp]; rfl)
            clear hkp
            go_wp2
            go_roundw
            case rel => exact ⟨j + 1, p2, d2, n2, by omega, by go_num, rfl, by rw [HE.out, HM'.out]; exact Lib.hid (Own.lower hown2.out HBW.out.size), by rw [HE.out, HM'.out]; exact hn2, Lib.hid (HBW.out.trans (HBU.out.mono HBW.out.size))⟩
            case measure => simp only [intOf]; omega
    · have hlt' : ¬ (j : Int) < (l.length : Int) := by omega
      obtain rfl : j = l.length := by omega
      rw [← HD.out] at hown hn
      have hw := hown.out
      have hnn := hn.out
      subst hnn
      obtain ⟨q', d', hq, hlies⟩ := hw.lies
      simp only [Value.slice.injEq] at hq
      obtain ⟨rfl, -, rfl⟩ := hq
      have HQ := Lib.hid hw
      clear hlies hw hown hn hr
      go_wp2
      refine bodyPost_ret (v := .slice p R.length d) (by simp [results, Tryz.results133, go_sem]) rfl ⟨p, d, rfl, HQ.out, HBW.out⟩
theorem rkeys_any {B v : Nat} {room : Int} {l : List It} {w : World} (h : Qu B w v ov room l) (hl : l.length ≤ 1000) :
    Calls Tryz.prog 133 #[.pointer (some ⟨v, ov, none⟩)] w fun e w' => ∃ p c, e = .returned (.slice p (keys l).length c) ∧ Lies ints w' p (keys l) ∧ Below w.heap.size w w' := by
  refine (rkeys_own h hl).mono ?_
  rintro e w' ⟨p, c, rfl, ho, hb⟩
  obtain ⟨p', c', e', hl'⟩ := Own.lies ho
  simp only [Value.slice.injEq] at e'
  obtain ⟨rfl, -, rfl⟩ := e'
  exact ⟨p, c, rfl, hl', hb⟩
end Go.Proofs.YtlbpeeelgpjciaaGreat.Queue2

namespace Go.Proofs.YtlbpeeelgpjciaaGreat.Demand2
open _root_.Go.Proofs.YtlbpeeelgpjciaaGreat.Demand
variable {ov : Nat}
open Go.RowKit
open _root_.Go.Proofs.YtlbpeeelgpjciaaGreat.Codec (lt_of_heap frozen_of heap_set below_new)
open _root_.Go.Proofs.YtlbpeeelgpjciaaGreat.Kit (Enc Lies Own At Kept Laid cell_on lt_heap take_snoc below_drewN box5 ints)

theorem laidI : Laid Tryz.prog ints 3 106 := ⟨Tryz.underlying106, .int .i64 0, 8, by kernel_rfl, rfl, by decide⟩
theorem at1 {w : World} {b o : Nat} {x : Int} (h : At ints w b o x) : w.cell? ⟨b, o, none⟩ = some (.int .i64 x) := h 0 _ rfl
theorem ints_at {w : World} {p : Option Addr} {l : List Int} (h : Lies ints w p l) {j : Nat} (hj : j < l.length) : ∃ b o, p = some ⟨b, o, none⟩ ∧ w.cell? ⟨b, o + j, none⟩ = some (.int .i64 (l.getD j 0)) := by
  obtain ⟨b, o, e, ha⟩ := Kit.lies_at h hj
  refine ⟨b, o, e, ?_⟩
  have := at1 ha
  rwa [show ints.n = 1 from rfl, Nat.mul_one] at this
/-- Four ways of one round. -/
theorem kstep_cases (k a : Int) (s : List Int × Bool) :
    (s.2 = false ∧ k ≤ a ∧ a = k ∧ kstep k s a = (s.1 ++ [k], true)) ∨ (s.2 = false ∧ k ≤ a ∧ a ≠ k ∧ kstep k s a = (s.1 ++ [k] ++ [a], true)) ∨
    ((s.2 = true ∨ s.2 = false ∧ ¬ k ≤ a) ∧ a = k ∧ kstep k s a = s) ∨ ((s.2 = true ∨ s.2 = false ∧ ¬ k ≤ a) ∧ a ≠ k ∧ kstep k s a = (s.1 ++ [a], s.2)) := by
  obtain ⟨l, d⟩ := s
  unfold kstep
  cases d <;> by_cases h1 : k ≤ a <;> by_cases h2 : a = k <;> simp [h1, h2]
theorem kfold_at {k : Int} {l : List Int} {j : Nat} (h : j < l.length) : kfold k (l.take (j + 1)) = kstep k (kfold k (l.take j)) (l.getD j 0) := by
  rw [take_snoc 0 h, kfold_snoc]
set_option maxRecDepth 100000 in
set_option maxHeartbeats 8000000 in
theorem rkeys_own {B v : Nat} {l : List Nt} {w : World} (h : Dm B w v ov l) (hl : l.length ≤ 900) :
    Calls Tryz.prog 134 #[.pointer (some ⟨v, ov, none⟩)] w fun e w' => ∃ p c, e = .returned (.slice p (keys l).length c) ∧ Own ints 3 w.heap.size w' (.slice p (keys l).length c) (keys l) ∧ Below w.heap.size w w' := by
  have HV := Lib.hid h
  have HD := Lib.hid (show keys l = some' l (l.take l.length) by rw [List.take_length]; rfl)
  have HOF := Lib.hid (fun u k (hu : Below w.heap.size w u) => rof_any (HV.out.below hu) (by omega) k)
  have HS := Lib.hid (fun (j : Nat) (h : j < l.length) => some_at l h)
  have HL := Lib.hid (fun j => some_len l (l.take j))
  have H0 := Lib.hid (show some' l (l.take 0) = [] from rfl)
  generalize keys l = R at HD ⊢
  generalize hK : (fun j => some' l (l.take j)) = KS
  have hK' : ∀ j, some' l (l.take j) = KS j := fun j => by rw [← hK]
  simp only [hK'] at HD HS HL H0
  clear h hK hK'
  go_enter Tryz.func134, Tryz.ntmps134
  go_wp2
  go_loopw [3, 4] (fun y k wr => ∃ (j : Nat) (p : Option Addr) (d n : Nat), j ≤ l.length ∧ k = .int .i64 (j : Int) ∧ y = .slice p n d ∧ Hid (Own ints 3 w.heap.size wr y (KS j)) ∧ Hid ((KS j).length = n) ∧ Hid (Below w.heap.size w wr)) (fun _ k _ => l.length - (intOf k).toNat)
  case atStart => exact ⟨0, none, 0, 0, by omega, rfl, rfl, by rw [H0.out]; exact Lib.hid (Own.none _ _ _ _), by rw [H0.out]; exact Lib.hid rfl, Lib.hid (Below.refl _ _)⟩
  case round =>
    obtain ⟨j, p, d, n, hj, rfl, rfl, hown, hn, HBW⟩ := hrel
    obtain ⟨q0, cq0, c1, hr, -⟩ := (HV.out.below HBW.out).cell
    by_cases hlt : j < l.length
    · have hlt' : (j : Int) < (l.length : Int) := by omega
      have HE := Lib.hid (HS.out j hlt)
      have hn5 : n ≤ 1000 := by
        rw [← hn.out]
        exact Nat.le_trans (HL.out j) (by simp; omega)
      have HPJ := Lib.hid (fun u (hu : Below w.heap.size w u) => lies_at (HV.out.below hu).cell.choose_spec.choose_spec.2.1 hlt)
      generalize KS j = M at *
      have hlies := hown.out.lies
      obtain ⟨p', c', e', HM⟩ := hlies
      simp only [Value.slice.injEq] at e'
      obtain ⟨rfl, hn', rfl⟩ := e'
      subst hn'
      have HML := Lib.hid HM
      have HAT := Lib.hid (lies_at hr hlt)
      clear hr HM HPJ
      generalize l.getD j z = x at *
      obtain ⟨xk, xs⟩ := x
      obtain ⟨b, o, rfl, hat⟩ := HAT.out
      obtain ⟨k0, k1⟩ := at2 hat
      have HX := Lib.hid (fun u (hu : Below wr.heap.size wr u) => And.intro (cell_on c1 hu) (cell_on k0 hu))
      have HOW := Lib.hid (HOF.out _ xk HBW.out)
      have HE2 := Lib.hid (show KS (j + 1) = if of l xk = 0 then M else kput xk M from HE.out)
      generalize of l xk = E at *
      simp only at k0
      clear hat k1 HAT HE
      by_cases hE : E = 0
      · subst hE
        have HE := Lib.hid (show KS (j + 1) = M by rw [HE2.out, if_pos rfl])
        clear HE2
        go_wp2_with (go_at_call 125; (with_reducible refine HOW.out.mono ?_); rintro e w1 ⟨rfl, hb⟩; have HB1 := Lib.hid hb; clear hb HOW)
        go_roundw
        case rel => exact ⟨j + 1, p, d, M.length, by omega, by go_num, rfl, by rw [HE.out]; exact Lib.hid (Own.on hown.out HB1.out), by rw [HE.out]; exact Lib.hid rfl, Lib.hid (HBW.out.trans (HB1.out.mono HBW.out.size))⟩
        case measure => simp only [intOf]; omega
      have HE := Lib.hid (show KS (j + 1) = kput xk M by rw [HE2.out, if_neg hE])
      have hE2 : (E == 0) = false := by simpa using hE
      clear HE2 hE
      have HKS := Lib.hid (fun (m : Nat) (hm : m < M.length) => kfold_at (k := xk) hm)
      have HKL := Lib.hid (fun m => kfold_len xk (M.take m))
      have HK0 := Lib.hid (show kfold xk (M.take 0) = ([], false) from rfl)
      have HKP := Lib.hid (show kput xk M = if (kfold xk (M.take M.length)).2 = true then (kfold xk (M.take M.length)).1 else (kfold xk (M.take M.length)).1 ++ [xk] by rw [List.take_length]; rfl)
      generalize kput xk M = M' at *
      generalize hK : (fun j => kfold xk (M.take j)) = KF
      have hK' : ∀ j, kfold xk (M.take j) = KF j := fun j => by rw [← hK]
      simp only [hK'] at HKS HKL HK0 HKP
      clear hK hK'
      go_wp2_with (go_at_call 125; (with_reducible refine HOW.out.mono ?_); rintro e w1 ⟨rfl, hb⟩; have HB1 := Lib.hid hb; clear hb HOW c1 k0)
      have HX := Lib.hid (fun u (hu : Below w1.heap.size w1 u) => HX.out u (HB1.out.trans (hu.mono HB1.out.size)))
      have HML := Lib.hid (HML.out.below HB1.out)
      have HBW := Lib.hid (HBW.out.trans (HB1.out.mono HBW.out.size))
      have hown := Lib.hid (Own.on hown.out HB1.out)
      rename World => W1
      go_loopw [5, 6, 7] (fun y dn k wu => ∃ (m : Nat) (p2 : Option Addr) (d2 n2 : Nat), m ≤ M.length ∧ k = .int .i64 (m : Int) ∧ y = .slice p2 n2 d2 ∧ dn = .bool (KF m).2 ∧ Hid (Own ints 3 W1.heap.size wu y (KF m).1) ∧ Hid ((KF m).1.length = n2) ∧ Hid (Below W1.heap.size W1 wu)) (fun _ _ k _ => M.length - (intOf k).toNat)
      case atStart => exact ⟨0, none, 0, 0, by omega, rfl, rfl, by rw [HK0.out], by rw [HK0.out]; exact Lib.hid (Own.none _ _ _ _), by rw [HK0.out]; exact Lib.hid rfl, Lib.hid (Below.refl _ _)⟩
      case round =>
        obtain ⟨m, p2, d2, n2, hm, rfl, rfl, rfl, hown2, hn2, HBU⟩ := hrel
        obtain ⟨c1, k1⟩ := HX.out _ HBU.out
        have hn6 : n2 ≤ 1002 := by
          rw [← hn2.out]
          have := HKL.out m
          have h5 : (M.take m).length ≤ M.length := by simp; omega
          omega
        by_cases hlm : m < M.length
        · have hlm' : (m : Int) < (M.length : Int) := by omega
          obtain ⟨b2, o2, rfl, a1⟩ := ints_at HML.out hlm
          have HA := Lib.hid (fun u (hu : Below W1.heap.size W1 u) => cell_on a1 hu)
          have a0 := HA.out _ HBU.out
          have hst := HKS.out m hlm
          have hc := kstep_cases xk (M.getD m 0) (KF m)
          rw [← hst] at hc
          clear hst a1 HML HKS HKL
          generalize M.getD m 0 = a at *
          generalize KF m = S at *
          generalize hS' : KF (m + 1) = S' at *
          have HS' := Lib.hid hS'
          obtain ⟨L, D⟩ := S
          simp only at hn2 hown2 hc
          have HO1 := hown2
          have HB1 := HBU
          clear hown2 HBU hS'
          rcases hc with ⟨hD, h1, h2, h3⟩ | ⟨hD, h1, h2, h3⟩ | ⟨hD, h2, h3⟩ | ⟨hD, h2, h3⟩
          · subst hD
            have H3 := Lib.hid (HS'.out.trans h3)
            have g1 : decide (a ≥ xk) = true := by simp; exact h1
            have g2 : (a != xk) = false := by simp [h2]
            clear HS' h3 h2
            go_wp2
            go_quiet (fail)
            have HB2 := Lib.hid (HB1.out.trans ((below_drewN wr nq).mono HB1.out.size))
            have HO2 := Lib.hid (HO1.out.on (below_drewN wr nq))
            clear c1 k1 a0 HB1 HO1
            generalize wr.drewN nq = w2 at *
            obtain ⟨c1, k1⟩ := HX.out _ HB2.out
            have a0 := HA.out _ HB2.out
            go_wp2_with (at_builtin; refine Kit.push laidI rfl _ _ rfl W1 w2 (.slice p2 n2 d2) rfl L n2 hn2.out HO2.out HB2.out ((Below.refl _ _).alloc (Nat.le_refl _) _) w2.heap.size xk rfl (heap_alloc_new _ _) (by omega) ?_; intro p3 c3 w3 R3 B3; have HO3 := R3; have HB3 := Lib.hid B3; clear R3 B3 c1 k1 a0; obtain ⟨c1, k1⟩ := HX.out _ HB3.out; have a0 := HA.out _ HB3.out)
            go_quiet (fail)
            have HB4 := Lib.hid (HB3.out.trans ((below_drewN w3 nq).mono HB3.out.size))
            have HO4 := Lib.hid (HO3.out.on (below_drewN w3 nq))
            clear c1 k1 a0 HB3 HO3
            generalize w3.drewN nq = w4 at *
            obtain ⟨c1, k1⟩ := HX.out _ HB4.out
            have a0 := HA.out _ HB4.out
            go_wp2
            go_roundw
            case rel => exact ⟨m + 1, p3, c3, n2 + 1, by omega, by go_num, rfl, by rw [H3.out], by rw [H3.out]; exact HO4, by rw [H3.out]; exact Lib.hid (by simp [hn2.out]), HB4⟩
            case measure => simp only [intOf]; omega
          · subst hD
            have H3 := Lib.hid (HS'.out.trans h3)
            have g1 : decide (a ≥ xk) = true := by simp; exact h1
            have g2 : (a != xk) = true := by simp [h2]
            have hn7 := Lib.hid (show (L ++ [xk]).length = n2 + 1 by simp [hn2.out])
            clear HS' h3 h2
            go_wp2
            go_quiet (fail)
            have HB2 := Lib.hid (HB1.out.trans ((below_drewN wr nq).mono HB1.out.size))
            have HO2 := Lib.hid (HO1.out.on (below_drewN wr nq))
            clear c1 k1 a0 HB1 HO1
            generalize wr.drewN nq = w2 at *
            obtain ⟨c1, k1⟩ := HX.out _ HB2.out
            have a0 := HA.out _ HB2.out
            go_wp2_with (at_builtin; refine Kit.push laidI rfl _ _ rfl W1 w2 (.slice p2 n2 d2) rfl L n2 hn2.out HO2.out HB2.out ((Below.refl _ _).alloc (Nat.le_refl _) _) w2.heap.size xk rfl (heap_alloc_new _ _) (by omega) ?_; intro p3 c3 w3 R3 B3; have HO3 := R3; have HB3 := Lib.hid B3; clear R3 B3 c1 k1 a0; obtain ⟨c1, k1⟩ := HX.out _ HB3.out; have a0 := HA.out _ HB3.out)
            go_quiet (fail)
            have HB4 := Lib.hid (HB3.out.trans ((below_drewN w3 nq).mono HB3.out.size))
            have HO4 := Lib.hid (HO3.out.on (below_drewN w3 nq))
            clear c1 k1 a0 HB3 HO3
            generalize w3.drewN nq = w4 at *
            obtain ⟨c1, k1⟩ := HX.out _ HB4.out
            have a0 := HA.out _ HB4.out
            go_wp2_with (at_builtin; refine Kit.push laidI rfl _ _ rfl W1 w4 (.slice p3 (n2 + 1) c3) rfl (L ++ [xk]) (n2 + 1) hn7.out HO4.out HB4.out ((Below.refl _ _).alloc (Nat.le_refl _) _) w4.heap.size a rfl (heap_alloc_new _ _) (by omega) ?_; intro p5 c5 w5 R5 B5; have HO5 := R5; have HB5 := Lib.hid B5; clear R5 B5 c1 k1 a0; obtain ⟨c1, k1⟩ := HX.out _ HB5.out; have a0 := HA.out _ HB5.out)
            go_roundw
            case rel => exact ⟨m + 1, p5, c5, n2 + 1 + 1, by omega, by go_num, rfl, by rw [H3.out], by rw [H3.out]; exact HO5, by rw [H3.out]; exact Lib.hid (by simp [hn2.out]), HB5⟩
            case measure => simp only [intOf]; omega
          · have H3 := Lib.hid (HS'.out.trans h3)
            have g2 : (a != xk) = false := by simp [h2]
            clear HS' h3 h2
            rcases hD with hD | ⟨hD, h1⟩
            all_goals
              subst hD
              first | have g1 : decide (a ≥ xk) = false := (by simp; omega) | skip
              go_wp2
              go_quiet (fail)
              have HB2 := Lib.hid (HB1.out.trans ((below_drewN wr nq).mono HB1.out.size))
              have HO2 := Lib.hid (HO1.out.on (below_drewN wr nq))
              clear c1 k1 a0 HB1 HO1
              generalize wr.drewN nq = w2 at *
              obtain ⟨c1, k1⟩ := HX.out _ HB2.out
              have a0 := HA.out _ HB2.out
              go_wp2
              go_quiet (fail)
              have HB3 := Lib.hid (HB2.out.trans ((below_drewN w2 nq).mono HB2.out.size))
              have HO3 := Lib.hid (HO2.out.on (below_drewN w2 nq))
              clear c1 k1 a0 HB2 HO2
              generalize w2.drewN nq = w3 at *
              obtain ⟨c1, k1⟩ := HX.out _ HB3.out
              have a0 := HA.out _ HB3.out
              go_wp2
              go_roundw
              case rel => exact ⟨m + 1, p2, d2, n2, by omega, by go_num, rfl, by rw [H3.out], by rw [H3.out]; exact HO3, by rw [H3.out]; exact hn2, HB3⟩
              case measure => simp only [intOf]; omega
          · have H3 := Lib.hid (HS'.out.trans h3)
            have g2 : (a != xk) = true := by simp [h2]
            clear HS' h3 h2
            rcases hD with hD | ⟨hD, h1⟩
            all_goals
              subst hD
              first | have g1 : decide (a ≥ xk) = false := (by simp; omega) | skip
              go_wp2
              go_quiet (fail)
              have HB2 := Lib.hid (HB1.out.trans ((below_drewN wr nq).mono HB1.out.size))
              have HO2 := Lib.hid (HO1.out.on (below_drewN wr nq))
              clear c1 k1 a0 HB1 HO1
              generalize wr.drewN nq = w2 at *
              obtain ⟨c1, k1⟩ := HX.out _ HB2.out
              have a0 := HA.out _ HB2.out
              go_wp2
              go_quiet (fail)
              have HB3 := Lib.hid (HB2.out.trans ((below_drewN w2 nq).mono HB2.out.size))
              have HO3 := Lib.hid (HO2.out.on (below_drewN w2 nq))
              clear c1 k1 a0 HB2 HO2
              generalize w2.drewN nq = w3 at *
              obtain ⟨c1, k1⟩ := HX.out _ HB3.out
              have a0 := HA.out _ HB3.out
              go_wp2_with (at_builtin; refine Kit.push laidI rfl _ _ rfl W1 w3 (.slice p2 n2 d2) rfl L n2 hn2.out HO3.out HB3.out ((Below.refl _ _).alloc (Nat.le_refl _) _) w3.heap.size a rfl (heap_alloc_new _ _) (by omega) ?_; intro p4 c4 w4 R4 B4; have HO4 := R4; have HB4 := Lib.hid B4; clear R4 B4 c1 k1 a0; obtain ⟨c1, k1⟩ := HX.out _ HB4.out; have a0 := HA.out _ HB4.out)
              go_roundw
              case rel => exact ⟨m + 1, p4, c4, n2 + 1, by omega, by go_num, rfl, by rw [H3.out], by rw [H3.out]; exact HO4, by rw [H3.out]; exact Lib.hid (by simp [hn2.out]), HB4⟩
              case measure => simp only [intOf]; omega
        · have hlm' : ¬ (m : Int) < (M.length : Int) := by omega
          obtain rfl : m = M.length := by omega
          have hkp := HKP.out
          clear HKS HKL HML HKP hlm
          generalize KF M.length = S at *
          obtain ⟨L, D⟩ := S
          simp only at hn2 hown2 hkp
          cases D
          · have HM' := Lib.hid (show M' = L ++ [xk] by rw [hkp]; rfl)
            clear hkp
            go_wp2_with (at_builtin; refine Kit.push laidI rfl _ _ rfl W1 wr (.slice p2 n2 d2) rfl L n2 hn2.out hown2.out HBU.out ((Below.refl _ _).alloc (Nat.le_refl _) _) wr.heap.size xk rfl (heap_alloc_new _ _) (by omega) ?_; intro p3 c3 w3 R3 B3)
            go_roundw
            case rel => exact ⟨j + 1, p3, c3, n2 + 1, by omega, by go_num, rfl, by rw [HE.out, HM'.out]; exact Lib.hid (Own.lower R3.out HBW.out.size), by rw [HE.out, HM'.out]; exact Lib.hid (by simp [hn2.out]), Lib.hid (HBW.out.trans (B3.mono HBW.out.size))⟩
            case measure => simp only [intOf]; omega
          · have HM' := Lib.hid (show M' = L by rw [hkp]; rfl)
            clear hkp
            go_wp2
            go_roundw
            case rel => exact ⟨j + 1, p2, d2, n2, by omega, by go_num, rfl, by rw [HE.out, HM'.out]; exact Lib.hid (Own.lower hown2.out HBW.out.size), by rw [HE.out, HM'.out]; exact hn2, Lib.hid (HBW.out.trans (HBU.out.mono HBW.out.size))⟩
            case measure => simp only [intOf]; omega
    · have hlt' : ¬ (j : Int) < (l.length : Int) := by omega
      obtain rfl : j = l.length := by omega
      rw [← HD.out] at hown hn
      have hw := hown.out
      have hnn := hn.out
      subst hnn
      obtain ⟨q', d', hq, hlies⟩ := hw.lies
      simp only [Value.slice.injEq] at hq
      obtain ⟨rfl, -, rfl⟩ := hq
      have HQ := Lib.hid hw
      clear hlies hw hown hn hr
      go_wp2
      refine bodyPost_ret (v := .slice p R.length d) (by simp [results, Tryz.results134, go_sem]) rfl ⟨p, d, rfl, HQ.out, HBW.out⟩
theorem rkeys_any {B v : Nat} {l : List Nt} {w : World} (h : Dm B w v ov l) (hl : l.length ≤ 900) :
    Calls Tryz.prog 134 #[.pointer (some ⟨v, ov, none⟩)] w fun e w' => ∃ p c, e = .returned (.slice p (keys l).length c) ∧ Lies ints w' p (keys l) ∧ Below w.heap.size w w' := by
  refine (rkeys_own h hl).mono ?_
  rintro e w' ⟨p, c, rfl, ho, hb⟩
  obtain ⟨p', c', e', hl'⟩ := Own.lies ho
  simp only [Value.slice.injEq] at e'
  obtain ⟨rfl, -, rfl⟩ := e'
  exact ⟨p, c, rfl, hl', hb⟩
end Go.Proofs.YtlbpeeelgpjciaaGreat.Demand2
