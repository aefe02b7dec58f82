/-
  The document's Of and Want, of any estimates of up to 1000 notes.
-/
import Derived.Test.YtghbcknbkkhhpaaDemandWords
import Derived.Test.YtghbcknbkkhhpaaSatRef
import Derived.Lib.MinMax
namespace Go.Proofs.Ytghbcknbkkhhpaa.Demand
open Go.RowKit
open _root_.Go.Proofs.Ytghbcknbkkhhpaa.Codec (lt_of_heap frozen_of heap_set below_new)
open _root_.Go.Proofs.Ytghbcknbkkhhpaa.Kit (Enc Lies Own At Kept Laid cell_on lt_heap take_snoc below_drewN)
open _root_.Go.Proofs.Ytghbcknbkkhhpaa.Sat (fit add fit_lo fit_hi)

theorem drop_cons {l : List Nt} {j : Nat} (h : j < l.length) : l.drop j = l.getD j z :: l.drop (j + 1) := by
  rw [List.drop_eq_getElem_cons h]
  simp [List.getD, h]
theorem bh_yes (k : Int) {l : List Nt} {j : Nat} (h : j < l.length) (e : (l.getD j z).key = k) : bh k (l.drop j) = (max (bh k (l.drop (j + 1))).1 (fit (l.getD j z).spent / 2 ^ min (bh k (l.drop (j + 1))).2 63), (bh k (l.drop (j + 1))).2 + 1) := by
  rw [drop_cons h]
  show (if (l.getD j z).key = k then _ else _) = _
  rw [if_pos e]
theorem bh_no (k : Int) {l : List Nt} {j : Nat} (h : j < l.length) (e : (l.getD j z).key ≠ k) : bh k (l.drop j) = bh k (l.drop (j + 1)) := by
  rw [drop_cons h]
  show (if (l.getD j z).key = k then _ else _) = _
  rw [if_neg e]
theorem halve (x : Int) (n : Nat) : x / 2 ^ (n + 1) = x / 2 ^ n / 2 := by
  rw [Int.ediv_ediv_of_nonneg (Int.le_of_lt (pow_pos' n)), ← Int.pow_succ]
set_option maxRecDepth 100000 in
set_option maxHeartbeats 4000000 in
theorem rof_any {B v : Nat} {l : List Nt} {w : World} (h : Dm B w v l) (hl : l.length ≤ 1000) (key : Int) :
    Calls Try.prog 10 #[.pointer (some ⟨v, 0, none⟩), .int .i64 key] w fun e w' => e = .returned (.int .i64 (of l key)) ∧ Below w.heap.size w w' := by
  obtain ⟨p, c, c1, hr, -⟩ := h.cell
  have HR := Lib.hid hr
  have HD := Lib.hid (of_bh l key)
  have HY := Lib.hid (fun (j : Nat) (hj : j < l.length) => bh_yes key hj)
  have HNO := Lib.hid (fun (j : Nat) (hj : j < l.length) => bh_no key hj)
  have HN := Lib.hid (fun j => bh_num key (l.drop j))
  have H0 := Lib.hid (show bh key (l.drop l.length) = (0, 0) by rw [List.drop_length]; rfl)
  have HB := Lib.hid (Below.refl w.heap.size w)
  have hsub : IntKind.i64.wrap ((l.length : Int) - 1) = (l.length : Int) - 1 := IntWalk.i64_in _ (by omega)
  generalize of l key = R at HD ⊢
  have HE := Lib.hid (show (bh key (l.drop 0)).1 = R by rw [List.drop_zero]; exact HD.out)
  generalize hK : (fun j => bh key (l.drop j)) = KB
  have hK' : ∀ j, bh key (l.drop j) = KB j := fun j => by rw [← hK]
  simp only [hK'] at HE HY HNO HN H0
  clear hr h hK hK' HD
  go_enter Try.func10, Try.ntmps10
  go_wp2
  go_loop [5, 6, 7] (fun bst hlf i => ∃ j : Nat, j ≤ l.length ∧ ((j = 0 ∧ i = .int .i64 (-1)) ∨ (∃ n : Nat, j = n + 1 ∧ i = .int .i64 (n : Int))) ∧ bst = .int .i64 (KB j).1 ∧ hlf = .int .i64 ((KB j).2 : Int)) (fun _ _ i => (intOf i + 1).toNat)
  case atStart =>
    refine ⟨l.length, Nat.le_refl _, ?_, by rw [H0.out], by rw [H0.out]; rfl⟩
    rcases hl0 : l.length with - | n
    · exact .inl ⟨rfl, by simp⟩
    · exact .inr ⟨n, rfl, by congr 1; omega⟩
  case round =>
    obtain ⟨j, hj, hi, rfl, rfl⟩ := hrel
    rcases hi with ⟨rfl, rfl⟩ | ⟨n, rfl, rfl⟩
    · have hn := HE.out
      generalize KB 0 = S at *
      obtain ⟨b0, h0⟩ := S
      simp only at hn
      subst hn
      go_wp2
      go_ret
      exact ⟨rfl, HB.out⟩
    · have hlt : n < l.length := by omega
      obtain ⟨b, o, rfl, hat⟩ := lies_at HR.out hlt
      obtain ⟨k0, k1⟩ := at2 hat
      have hdec : IntKind.i64.wrap ((n : Int) - 1) = (n : Int) - 1 := IntWalk.i64_in _ (by omega)
      obtain ⟨g0, g1, g2⟩ := HN.out (n + 1)
      have g3 : (KB (n + 1)).2 ≤ 1000 := Nat.le_trans g2 (by simp; omega)
      have HI := Lib.hid (show ((n = 0 ∧ Value.int .i64 ((n : Int) - 1) = .int .i64 (-1)) ∨ (∃ m : Nat, n = m + 1 ∧ Value.int .i64 ((n : Int) - 1) = .int .i64 (m : Int))) from by
        rcases n with - | m
        · exact .inl ⟨rfl, rfl⟩
        · exact .inr ⟨m, rfl, by congr 1; omega⟩)
      by_cases hk : (l.getD n z).key = key
      · have HQ := Lib.hid (HY.out n hlt hk)
        rw [hk] at k0
        have ct := _root_.Go.Proofs.Ytghbcknbkkhhpaa.Sat.rfit_any (l.getD n z).spent
        generalize KB (n + 1) = S at *
        generalize hS' : KB n = S' at *
        have HS' := Lib.hid hS'
        have f0 := fit_lo (l.getD n z).spent
        have f1 := fit_hi (l.getD n z).spent
        clear hat hk HY HNO HN H0 HE g2 hS'
        generalize (l.getD n z).spent = x at *
        generalize fit x = y at *
        obtain ⟨best, half⟩ := S
        simp only at g0 g1 g3 HQ
        go_wp2_with (go_at_call 18; (with_reducible refine (ct _).mono ?_); rintro e w2 ⟨rfl, rfl⟩)
        have HM := Lib.hid (show min half 63 ≤ half ∧ min half 63 ≤ 63 ∧ (min half 63 < half → min half 63 = 63) by omega)
        generalize hmn : min half 63 = M at *
        have HV := Lib.hid (fun t => halve y t)
        have HP := Lib.hid (show y / 2 ^ 0 = y by simp)
        have HZ := Lib.hid (fun t => Int.ediv_nonneg f0 (Int.le_of_lt (pow_pos' t)))
        have HT := Lib.hid (fun t => Int.le_trans (Int.ediv_le_self (2 ^ t) f0) f1)
        clear hmn
        generalize hX : (fun t : Nat => y / 2 ^ t) = X at *
        have hX' : ∀ t : Nat, y / 2 ^ t = X t := fun t => by rw [← hX]
        simp only [hX'] at HV HP HQ HZ HT
        clear hX hX'
        go_loop [8, 9] (fun x k => ∃ t : Nat, t ≤ M ∧ k = .int .i64 (t : Int) ∧ x = .int .i64 (X t)) (fun _ k => M - (intOf k).toNat)
        case atStart => exact ⟨0, by omega, rfl, by rw [HP.out]⟩
        case round =>
          obtain ⟨t, ht, rfl, rfl⟩ := hrel
          obtain ⟨m1, m2, m3⟩ := HM.out
          have z0 := HZ.out t
          have z1 := HT.out t
          by_cases htm : t < M
          · have h1 : (t : Int) < (half : Int) := by omega
            have h2 : (t : Int) < 63 := by omega
            have HVT := Lib.hid (HV.out t)
            clear HV HP HZ HT HQ
            generalize X t = xt at *
            go_wp2
            go_round
            case rel => exact ⟨t + 1, by omega, by go_num, by rw [HVT.out]⟩
            case measure => simp only [intOf]; omega
          · obtain rfl : t = M := by omega
            clear HV HP HZ HT
            generalize X t = xt at *
            by_cases h1 : (t : Int) < (half : Int)
            · have h2 : ¬ (t : Int) < 63 := by omega
              go_wp2
              go_round
              case rel => exact ⟨n, by omega, HI.out, by rw [HS'.out, HQ.out], by rw [HS'.out, HQ.out]; simp⟩
              case measure => simp only [intOf]; omega
            · go_wp2
              go_round
              case rel => exact ⟨n, by omega, HI.out, by rw [HS'.out, HQ.out], by rw [HS'.out, HQ.out]; simp⟩
              case measure => simp only [intOf]; omega
      · have HQ := Lib.hid (HNO.out n hlt hk)
        clear hat k1 HY HNO HN H0 HE g2
        generalize (l.getD n z).key = kk at *
        have hkk : (kk != key) = true := by simp [hk]
        generalize KB (n + 1) = S at *
        generalize hS' : KB n = S' at *
        have HS' := Lib.hid hS'
        clear hS' hk
        obtain ⟨best, half⟩ := S
        simp only at g0 g1 g3 HQ
        go_wp2
        go_round
        case rel => exact ⟨n, by omega, HI.out, by rw [HS'.out, HQ.out], by rw [HS'.out, HQ.out]⟩
        case measure => simp only [intOf]; omega
set_option maxRecDepth 100000 in
theorem rwant_any {B v : Nat} {l : List Nt} {w : World} (h : Dm B w v l) (hl : l.length ≤ 1000) (key queued most : Int) :
    Calls Try.prog 12 #[.pointer (some ⟨v, 0, none⟩), .int .i64 key, .int .i64 queued, .int .i64 most] w fun e w' => e = .returned (.int .i64 (want (of l key) queued most)) ∧ Below w.heap.size w w' := by
  have c1 := rof_any h hl key
  have c2 := _root_.Go.Proofs.Ytghbcknbkkhhpaa.Sat.rtwo_any (of l key) queued
  have c3 := _root_.Go.Proofs.Ytghbcknbkkhhpaa.Sat.rfit_any most
  have HX := Lib.hid (show min (add [of l key, queued]) (fit most) = want (of l key) queued most from rfl)
  generalize want (of l key) queued most = R at *
  generalize add [of l key, queued] = a at *
  generalize fit most = b at *
  generalize of l key = e at *
  clear h
  go_enter Try.func12, Try.ntmps12
  go_wp2_with (first
    | (go_at_call 10; (with_reducible refine c1.mono ?_); rintro e1 w1 ⟨rfl, hb⟩; have HB := Lib.hid hb; clear hb c1)
    | (go_at_call 20; (with_reducible refine (c2 _).mono ?_); rintro e1 w2 ⟨rfl, rfl⟩)
    | (go_at_call 18; (with_reducible refine (c3 _).mono ?_); rintro e1 w3 ⟨rfl, rfl⟩))
  go_ret
  exact ⟨by simp; exact HX.out, HB.out⟩
end Go.Proofs.Ytghbcknbkkhhpaa.Demand
