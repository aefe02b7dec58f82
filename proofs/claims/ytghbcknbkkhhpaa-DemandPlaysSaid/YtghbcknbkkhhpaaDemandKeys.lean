/-
  The document's Keys, of any estimates of up to 900 notes.
-/
import Derived.Test.YtghbcknbkkhhpaaDemandOf
namespace Go.Proofs.Ytghbcknbkkhhpaa.Demand
open Go.RowKit
open _root_.Go.Proofs.Ytghbcknbkkhhpaa.Codec (lt_of_heap frozen_of heap_set below_new)
open _root_.Go.Proofs.Ytghbcknbkkhhpaa.Kit (Enc Lies Own At Kept Laid cell_on lt_heap take_snoc below_drewN box5 ints)

theorem laidI : Laid Try.prog ints 3 36 := ⟨Try.underlying36, .int .i64 0, 8, by kernel_rfl, rfl, by decide⟩
theorem at1 {w : World} {b o : Nat} {x : Int} (h : At ints w b o x) : w.cell? ⟨b, o, none⟩ = some (.int .i64 x) := h 0 _ rfl
theorem ints_at {w : World} {p : Option Addr} {l : List Int} (h : Lies ints w p l) {j : Nat} (hj : j < l.length) : ∃ b o, p = some ⟨b, o, none⟩ ∧ w.cell? ⟨b, o + j, none⟩ = some (.int .i64 (l.getD j 0)) := by
  obtain ⟨b, o, e, ha⟩ := Kit.lies_at h hj
  refine ⟨b, o, e, ?_⟩
  have := at1 ha
  rwa [show ints.n = 1 from rfl, Nat.mul_one] at this
/-- Four ways of one round. -/
theorem kstep_cases (k a : Int) (s : List Int × Bool) :
    (s.2 = false ∧ k ≤ a ∧ a = k ∧ kstep k s a = (s.1 ++ [k], true)) ∨ (s.2 = false ∧ k ≤ a ∧ a ≠ k ∧ kstep k s a = (s.1 ++ [k] ++ [a], true)) ∨
    ((s.2 = true ∨ s.2 = false ∧ ¬ k ≤ a) ∧ a = k ∧ kstep k s a = s) ∨ ((s.2 = true ∨ s.2 = false ∧ ¬ k ≤ a) ∧ a ≠ k ∧ kstep k s a = (s.1 ++ [a], s.2)) := by
  obtain ⟨l, d⟩ := s
  unfold kstep
  cases d <;> by_cases h1 : k ≤ a <;> by_cases h2 : a = k <;> simp [h1, h2]
theorem kfold_at {k : Int} {l : List Int} {j : Nat} (h : j < l.length) : kfold k (l.take (j + 1)) = kstep k (kfold k (l.take j)) (l.getD j 0) := by
  rw [take_snoc 0 h, kfold_snoc]
set_option maxRecDepth 100000 in
set_option maxHeartbeats 8000000 in
theorem rkeys_any {B v : Nat} {l : List Nt} {w : World} (h : Dm B w v l) (hl : l.length ≤ 900) :
    Calls Try.prog 15 #[.pointer (some ⟨v, 0, none⟩)] w fun e w' => ∃ p c, e = .returned (.slice p (keys l).length c) ∧ Lies ints w' p (keys l) ∧ Below w.heap.size w w' := by
  have HV := Lib.hid h
  have HD := Lib.hid (show keys l = some' l (l.take l.length) by rw [List.take_length]; rfl)
  have HOF := Lib.hid (fun u k (hu : Below w.heap.size w u) => rof_any (HV.out.below hu) (by omega) k)
  have HS := Lib.hid (fun (j : Nat) (h : j < l.length) => some_at l h)
  have HL := Lib.hid (fun j => some_len l (l.take j))
  have H0 := Lib.hid (show some' l (l.take 0) = [] from rfl)
  generalize keys l = R at HD ⊢
  generalize hK : (fun j => some' l (l.take j)) = KS
  have hK' : ∀ j, some' l (l.take j) = KS j := fun j => by rw [← hK]
  simp only [hK'] at HD HS HL H0
  clear h hK hK'
  go_enter Try.func15, Try.ntmps15
  go_wp2
  go_loopw [3, 4] (fun y k wr => ∃ (j : Nat) (p : Option Addr) (d n : Nat), j ≤ l.length ∧ k = .int .i64 (j : Int) ∧ y = .slice p n d ∧ Hid (Own ints 3 w.heap.size wr y (KS j)) ∧ Hid ((KS j).length = n) ∧ Hid (Below w.heap.size w wr)) (fun _ k _ => l.length - (intOf k).toNat)
  case atStart => exact ⟨0, none, 0, 0, by omega, rfl, rfl, by rw [H0.out]; exact Lib.hid (Own.none _ _ _ _), by rw [H0.out]; exact Lib.hid rfl, Lib.hid (Below.refl _ _)⟩
  case round =>
    obtain ⟨j, p, d, n, hj, rfl, rfl, hown, hn, HBW⟩ := hrel
    obtain ⟨q0, cq0, c1, hr, -⟩ := (HV.out.below HBW.out).cell
    by_cases hlt : j < l.length
    · have hlt' : (j : Int) < (l.length : Int) := by omega
      have HE := Lib.hid (HS.out j hlt)
      have hn5 : n ≤ 1000 := by
        rw [← hn.out]
        exact Nat.le_trans (HL.out j) (by simp; omega)
      have HPJ := Lib.hid (fun u (hu : Below w.heap.size w u) => lies_at (HV.out.below hu).cell.choose_spec.choose_spec.2.1 hlt)
      generalize KS j = M at *
      have hlies := hown.out.lies
      obtain ⟨p', c', e', HM⟩ := hlies
      simp only [Value.slice.injEq] at e'
      obtain ⟨rfl, hn', rfl⟩ := e'
      subst hn'
      have HML := Lib.hid HM
      have HAT := Lib.hid (lies_at hr hlt)
      clear hr HM HPJ
      generalize l.getD j z = x at *
      obtain ⟨xk, xs⟩ := x
      obtain ⟨b, o, rfl, hat⟩ := HAT.out
      obtain ⟨k0, k1⟩ := at2 hat
      have HX := Lib.hid (fun u (hu : Below wr.heap.size wr u) => And.intro (cell_on c1 hu) (cell_on k0 hu))
      have HOW := Lib.hid (HOF.out _ xk HBW.out)
      have HE2 := Lib.hid (show KS (j + 1) = if of l xk = 0 then M else kput xk M from HE.out)
      generalize of l xk = E at *
      simp only at k0
      clear hat k1 HAT HE
      by_cases hE : E = 0
      · subst hE
        have HE := Lib.hid (show KS (j + 1) = M by rw [HE2.out, if_pos rfl])
        clear HE2
        go_wp2_with (go_at_call 10; (with_reducible refine HOW.out.mono ?_); rintro e w1 ⟨rfl, hb⟩; have HB1 := Lib.hid hb; clear hb HOW)
        go_roundw
        case rel => exact ⟨j + 1, p, d, M.length, by omega, by go_num, rfl, by rw [HE.out]; exact Lib.hid (Own.on hown.out HB1.out), by rw [HE.out]; exact Lib.hid rfl, Lib.hid (HBW.out.trans (HB1.out.mono HBW.out.size))⟩
        case measure => simp only [intOf]; omega
      have HE := Lib.hid (show KS (j + 1) = kput xk M by rw [HE2.out, if_neg hE])
      have hE2 : (E == 0) = false := by simpa using hE
      clear HE2 hE
      have HKS := Lib.hid (fun (m : Nat) (hm : m < M.length) => kfold_at (k := xk) hm)
      have HKL := Lib.hid (fun m => kfold_len xk (M.take m))
      have HK0 := Lib.hid (show kfold xk (M.take 0) = ([], false) from rfl)
      have HKP := Lib.hid (show kput xk M = if (kfold xk (M.take M.length)).2 = true then (kfold xk (M.take M.length)).1 else (kfold xk (M.take M.length)).1 ++ [xk] by rw [List.take_length]; rfl)
      generalize kput xk M = M' at *
      generalize hK : (fun j => kfold xk (M.take j)) = KF
      have hK' : ∀ j, kfold xk (M.take j) = KF j := fun j => by rw [← hK]
      simp only [hK'] at HKS HKL HK0 HKP
      clear hK hK'
      go_wp2_with (go_at_call 10; (with_reducible refine HOW.out.mono ?_); rintro e w1 ⟨rfl, hb⟩; have HB1 := Lib.hid hb; clear hb HOW c1 k0)
      have HX := Lib.hid (fun u (hu : Below w1.heap.size w1 u) => HX.out u (HB1.out.trans (hu.mono HB1.out.size)))
      have HML := Lib.hid (HML.out.below HB1.out)
      have HBW := Lib.hid (HBW.out.trans (HB1.out.mono HBW.out.size))
      have hown := Lib.hid (Own.on hown.out HB1.out)
      rename World => W1
      go_loopw [5, 6, 7] (fun y dn k wu => ∃ (m : Nat) (p2 : Option Addr) (d2 n2 : Nat), m ≤ M.length ∧ k = .int .i64 (m : Int) ∧ y = .slice p2 n2 d2 ∧ dn = .bool (KF m).2 ∧ Hid (Own ints 3 W1.heap.size wu y (KF m).1) ∧ Hid ((KF m).1.length = n2) ∧ Hid (Below W1.heap.size W1 wu)) (fun _ _ k _ => M.length - (intOf k).toNat)
      case atStart => exact ⟨0, none, 0, 0, by omega, rfl, rfl, by rw [HK0.out], by rw [HK0.out]; exact Lib.hid (Own.none _ _ _ _), by rw [HK0.out]; exact Lib.hid rfl, Lib.hid (Below.refl _ _)⟩
      case round =>
        obtain ⟨m, p2, d2, n2, hm, rfl, rfl, rfl, hown2, hn2, HBU⟩ := hrel
        obtain ⟨c1, k1⟩ := HX.out _ HBU.out
        have hn6 : n2 ≤ 1002 := by
          rw [← hn2.out]
          have := HKL.out m
          have h5 : (M.take m).length ≤ M.length := by simp; omega
          omega
        by_cases hlm : m < M.length
        · have hlm' : (m : Int) < (M.length : Int) := by omega
          obtain ⟨b2, o2, rfl, a1⟩ := ints_at HML.out hlm
          have HA := Lib.hid (fun u (hu : Below W1.heap.size W1 u) => cell_on a1 hu)
          have a0 := HA.out _ HBU.out
          have hst := HKS.out m hlm
          have hc := kstep_cases xk (M.getD m 0) (KF m)
          rw [← hst] at hc
          clear hst a1 HML HKS HKL
          generalize M.getD m 0 = a at *
          generalize KF m = S at *
          generalize hS' : KF (m + 1) = S' at *
          have HS' := Lib.hid hS'
          obtain ⟨L, D⟩ := S
          simp only at hn2 hown2 hc
          have HO1 := hown2
          have HB1 := HBU
          clear hown2 HBU hS'
          rcases hc with ⟨hD, h1, h2, h3⟩ | ⟨hD, h1, h2, h3⟩ | ⟨hD, h2, h3⟩ | ⟨hD, h2, h3⟩
          · subst hD
            have H3 := Lib.hid (HS'.out.trans h3)
            have g1 : decide (a ≥ xk) = true := by simp; exact h1
            have g2 : (a != xk) = false := by simp [h2]
            clear HS' h3 h2
            go_wp2
            go_quiet (fail)
            have HB2 := Lib.hid (HB1.out.trans ((below_drewN wr nq).mono HB1.out.size))
            have HO2 := Lib.hid (HO1.out.on (below_drewN wr nq))
            clear c1 k1 a0 HB1 HO1
            generalize wr.drewN nq = w2 at *
            obtain ⟨c1, k1⟩ := HX.out _ HB2.out
            have a0 := HA.out _ HB2.out
            go_wp2_with (at_builtin; refine Kit.push laidI rfl _ _ rfl W1 w2 (.slice p2 n2 d2) rfl L n2 hn2.out HO2.out HB2.out ((Below.refl _ _).alloc (Nat.le_refl _) _) w2.heap.size xk rfl (heap_alloc_new _ _) (by omega) ?_; intro p3 c3 w3 R3 B3; have HO3 := R3; have HB3 := Lib.hid B3; clear R3 B3 c1 k1 a0; obtain ⟨c1, k1⟩ := HX.out _ HB3.out; have a0 := HA.out _ HB3.out)
            go_quiet (fail)
            have HB4 := Lib.hid (HB3.out.trans ((below_drewN w3 nq).mono HB3.out.size))
            have HO4 := Lib.hid (HO3.out.on (below_drewN w3 nq))
            clear c1 k1 a0 HB3 HO3
            generalize w3.drewN nq = w4 at *
            obtain ⟨c1, k1⟩ := HX.out _ HB4.out
            have a0 := HA.out _ HB4.out
            go_wp2
            go_roundw
            case rel => exact ⟨m + 1, p3, c3, n2 + 1, by omega, by go_num, rfl, by rw [H3.out], by rw [H3.out]; exact HO4, by rw [H3.out]; exact Lib.hid (by simp [hn2.out]), HB4⟩
            case measure => simp only [intOf]; omega
          · subst hD
            have H3 := Lib.hid (HS'.out.trans h3)
            have g1 : decide (a ≥ xk) = true := by simp; exact h1
            have g2 : (a != xk) = true := by simp [h2]
            have hn7 := Lib.hid (show (L ++ [xk]).length = n2 + 1 by simp [hn2.out])
            clear HS' h3 h2
            go_wp2
            go_quiet (fail)
            have HB2 := Lib.hid (HB1.out.trans ((below_drewN wr nq).mono HB1.out.size))
            have HO2 := Lib.hid (HO1.out.on (below_drewN wr nq))
            clear c1 k1 a0 HB1 HO1
            generalize wr.drewN nq = w2 at *
            obtain ⟨c1, k1⟩ := HX.out _ HB2.out
            have a0 := HA.out _ HB2.out
            go_wp2_with (at_builtin; refine Kit.push laidI rfl _ _ rfl W1 w2 (.slice p2 n2 d2) rfl L n2 hn2.out HO2.out HB2.out ((Below.refl _ _).alloc (Nat.le_refl _) _) w2.heap.size xk rfl (heap_alloc_new _ _) (by omega) ?_; intro p3 c3 w3 R3 B3; have HO3 := R3; have HB3 := Lib.hid B3; clear R3 B3 c1 k1 a0; obtain ⟨c1, k1⟩ := HX.out _ HB3.out; have a0 := HA.out _ HB3.out)
            go_quiet (fail)
            have HB4 := Lib.hid (HB3.out.trans ((below_drewN w3 nq).mono HB3.out.size))
            have HO4 := Lib.hid (HO3.out.on (below_drewN w3 nq))
            clear c1 k1 a0 HB3 HO3
            generalize w3.drewN nq = w4 at *
            obtain ⟨c1, k1⟩ := HX.out _ HB4.out
            have a0 := HA.out _ HB4.out
            go_wp2_with (at_builtin; refine Kit.push laidI rfl _ _ rfl W1 w4 (.slice p3 (n2 + 1) c3) rfl (L ++ [xk]) (n2 + 1) hn7.out HO4.out HB4.out ((Below.refl _ _).alloc (Nat.le_refl _) _) w4.heap.size a rfl (heap_alloc_new _ _) (by omega) ?_; intro p5 c5 w5 R5 B5; have HO5 := R5; have HB5 := Lib.hid B5; clear R5 B5 c1 k1 a0; obtain ⟨c1, k1⟩ := HX.out _ HB5.out; have a0 := HA.out _ HB5.out)
            go_roundw
            case rel => exact ⟨m + 1, p5, c5, n2 + 1 + 1, by omega, by go_num, rfl, by rw [H3.out], by rw [H3.out]; exact HO5, by rw [H3.out]; exact Lib.hid (by simp [hn2.out]), HB5⟩
            case measure => simp only [intOf]; omega
          · have H3 := Lib.hid (HS'.out.trans h3)
            have g2 : (a != xk) = false := by simp [h2]
            clear HS' h3 h2
            rcases hD with hD | ⟨hD, h1⟩
            all_goals
              subst hD
              first | have g1 : decide (a ≥ xk) = false := (by simp; omega) | skip
              go_wp2
              go_quiet (fail)
              have HB2 := Lib.hid (HB1.out.trans ((below_drewN wr nq).mono HB1.out.size))
              have HO2 := Lib.hid (HO1.out.on (below_drewN wr nq))
              clear c1 k1 a0 HB1 HO1
              generalize wr.drewN nq = w2 at *
              obtain ⟨c1, k1⟩ := HX.out _ HB2.out
              have a0 := HA.out _ HB2.out
              go_wp2
              go_quiet (fail)
              have HB3 := Lib.hid (HB2.out.trans ((below_drewN w2 nq).mono HB2.out.size))
              have HO3 := Lib.hid (HO2.out.on (below_drewN w2 nq))
              clear c1 k1 a0 HB2 HO2
              generalize w2.drewN nq = w3 at *
              obtain ⟨c1, k1⟩ := HX.out _ HB3.out
              have a0 := HA.out _ HB3.out
              go_wp2
              go_roundw
              case rel => exact ⟨m + 1, p2, d2, n2, by omega, by go_num, rfl, by rw [H3.out], by rw [H3.out]; exact HO3, by rw [H3.out]; exact hn2, HB3⟩
              case measure => simp only [intOf]; omega
          · have H3 := Lib.hid (HS'.out.trans h3)
            have g2 : (a != xk) = true := by simp [h2]
            clear HS' h3 h2
            rcases hD with hD | ⟨hD, h1⟩
            all_goals
              subst hD
              first | have g1 : decide (a ≥ xk) = false := (by simp; omega) | skip
              go_wp2
              go_quiet (fail)
              have HB2 := Lib.hid (HB1.out.trans ((below_drewN wr nq).mono HB1.out.size))
              have HO2 := Lib.hid (HO1.out.on (below_drewN wr nq))
              clear c1 k1 a0 HB1 HO1
              generalize wr.drewN nq = w2 at *
              obtain ⟨c1, k1⟩ := HX.out _ HB2.out
              have a0 := HA.out _ HB2.out
              go_wp2
              go_quiet (fail)
              have HB3 := Lib.hid (HB2.out.trans ((below_drewN w2 nq).mono HB2.out.size))
              have HO3 := Lib.hid (HO2.out.on (below_drewN w2 nq))
              clear c1 k1 a0 HB2 HO2
              generalize w2.drewN nq = w3 at *
              obtain ⟨c1, k1⟩ := HX.out _ HB3.out
              have a0 := HA.out _ HB3.out
              go_wp2_with (at_builtin; refine Kit.push laidI rfl _ _ rfl W1 w3 (.slice p2 n2 d2) rfl L n2 hn2.out HO3.out HB3.out ((Below.refl _ _).alloc (Nat.le_refl _) _) w3.heap.size a rfl (heap_alloc_new _ _) (by omega) ?_; intro p4 c4 w4 R4 B4; have HO4 := R4; have HB4 := Lib.hid B4; clear R4 B4 c1 k1 a0; obtain ⟨c1, k1⟩ := HX.out _ HB4.out; have a0 := HA.out _ HB4.out)
              go_roundw
              case rel => exact ⟨m + 1, p4, c4, n2 + 1, by omega, by go_num, rfl, by rw [H3.out], by rw [H3.out]; exact HO4, by rw [H3.out]; exact Lib.hid (by simp [hn2.out]), HB4⟩
              case measure => simp only [intOf]; omega
        · have hlm' : ¬ (m : Int) < (M.length : Int) := by omega
          obtain rfl : m = M.length := by omega
          have hkp := HKP.out
          clear HKS HKL HML HKP hlm
          generalize KF M.length = S at *
          obtain ⟨L, D⟩ := S
          simp only at hn2 hown2 hkp
          cases D
          · have HM' := Lib.hid (show M' = L ++ [xk] by rw [hkp]; rfl)
            clear hkp
            go_wp2_with (at_builtin; refine Kit.push laidI rfl _ _ rfl W1 wr (.slice p2 n2 d2) rfl L n2 hn2.out hown2.out HBU.out ((Below.refl _ _).alloc (Nat.le_refl _) _) wr.heap.size xk rfl (heap_alloc_new _ _) (by omega) ?_; intro p3 c3 w3 R3 B3)
            go_roundw
            case rel => exact ⟨j + 1, p3, c3, n2 + 1, by omega, by go_num, rfl, by rw [HE.out, HM'.out]; exact Lib.hid (Own.lower R3.out HBW.out.size), by rw [HE.out, HM'.out]; exact Lib.hid (by simp [hn2.out]), Lib.hid (HBW.out.trans (B3.mono HBW.out.size))⟩
            case measure => simp only [intOf]; omega
          · have HM' := Lib.hid (show M' = L by rw [hkp]; rfl)
            clear hkp
            go_wp2
            go_roundw
            case rel => exact ⟨j + 1, p2, d2, n2, by omega, by go_num, rfl, by rw [HE.out, HM'.out]; exact Lib.hid (Own.lower hown2.out HBW.out.size), by rw [HE.out, HM'.out]; exact hn2, Lib.hid (HBW.out.trans (HBU.out.mono HBW.out.size))⟩
            case measure => simp only [intOf]; omega
    · have hlt' : ¬ (j : Int) < (l.length : Int) := by omega
      obtain rfl : j = l.length := by omega
      rw [← HD.out] at hown hn
      have hw := hown.out
      have hnn := hn.out
      subst hnn
      obtain ⟨q', d', hq, hlies⟩ := hw.lies
      simp only [Value.slice.injEq] at hq
      obtain ⟨rfl, -, rfl⟩ := hq
      have HQ := Lib.hid hlies
      clear hlies hw hown hn hr
      go_wp2
      refine bodyPost_ret (v := .slice p R.length d) (by simp [results, Try.results15, go_sem]) rfl ⟨p, ⟨d, rfl⟩, HQ.out, HBW.out⟩
end Go.Proofs.Ytghbcknbkkhhpaa.Demand
