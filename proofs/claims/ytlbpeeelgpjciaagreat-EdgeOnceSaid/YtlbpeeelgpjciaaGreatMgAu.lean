/-
  The document's Keys, of any queue of up to 1000 items.
  What is asked of the program's queue, whatever its blocks are: a predicate on memory, and what each call tells and leaves (Way12); the live question.
  Words for memory: the program's queue (Pq): a block with a room and a slice of items that it owns; how it moves.
  The program's edge in memory, in parts: its block, a wallet, a queue, estimates, each in blocks of its own; what a step of one of these leaves of the others. No conditions beyond those that each names.
  The calls of the program's wallet, queue and estimates, as parts of an edge.
-/
import Derived.Deep.RegionHeld3
import Derived.Shelf.Abstract
import Derived.Test.YtlbpeeelgpjciaaGreatMgAn
import Derived.Test.YtlbpeeelgpjciaaGreatMgAt
import Derived.Test.YtlbpeeelgpjciaaGreatMgAl
import Derived.Test.YtlbpeeelgpjciaaGreatMgAr
namespace Go.Proofs.YtlbpeeelgpjciaaGreat.Queue
open Go.RowKit
open _root_.Go.Proofs.YtlbpeeelgpjciaaGreat.Codec (lt_of_heap frozen_of heap_set below_new)
open _root_.Go.Proofs.YtlbpeeelgpjciaaGreat.Kit (Enc Lies Own At Kept Laid cell_on lt_heap take_snoc below_drewN box5 ints)

theorem laidI : Laid Tryz.prog ints 3 106 := ⟨Tryz.underlying106, .int .i64 0, 8, by kernel_rfl, rfl, by decide⟩
theorem at1 {w : World} {b o : Nat} {x : Int} (h : At ints w b o x) : w.cell? ⟨b, o, none⟩ = some (.int .i64 x) := h 0 _ rfl
theorem ints_at {w : World} {p : Option Addr} {l : List Int} (h : Lies ints w p l) {j : Nat} (hj : j < l.length) : ∃ b o, p = some ⟨b, o, none⟩ ∧ w.cell? ⟨b, o + j, none⟩ = some (.int .i64 (l.getD j 0)) := by
  obtain ⟨b, o, e, ha⟩ := Kit.lies_at h hj
  refine ⟨b, o, e, ?_⟩
  have := at1 ha
  rwa [show ints.n = 1 from rfl, Nat.mul_one] at this
/-- Four ways of one round. -/
theorem kstep_cases (k a : Int) (s : List Int × Bool) :
    (s.2 = false ∧ k ≤ a ∧ a = k ∧ kstep k s a = (s.1 ++ [k], true)) ∨ (s.2 = false ∧ k ≤ a ∧ a ≠ k ∧ kstep k s a = (s.1 ++ [k] ++ [a], true)) ∨
    ((s.2 = true ∨ s.2 = false ∧ ¬ k ≤ a) ∧ a = k ∧ kstep k s a = s) ∨ ((s.2 = true ∨ s.2 = false ∧ ¬ k ≤ a) ∧ a ≠ k ∧ kstep k s a = (s.1 ++ [a], s.2)) := by
  obtain ⟨l, d⟩ := s
  unfold kstep
  cases d <;> by_cases h1 : k ≤ a <;> by_cases h2 : a = k <;> simp [h1, h2]
theorem kfold_at {k : Int} {l : List Int} {j : Nat} (h : j < l.length) : kfold k (l.take (j + 1)) = kstep k (kfold k (l.take j)) (l.getD j 0) := by
  rw [take_snoc 0 h, kfold_snoc]
theorem keys_at {l : List It} {j : Nat} (h : j < l.length) : keys (l.take (j + 1)) = kput (l.getD j z).key (keys (l.take j)) := by
  rw [take_snoc z h, keys_snoc]
set_option maxRecDepth 100000 in
set_option maxHeartbeats 8000000 in
theorem rkeys_any {B v : Nat} {room : Int} {l : List It} {w : World} (h : Qu B w v room l) (hl : l.length ≤ 1000) :
    Calls Tryz.prog 133 #[.pointer (some ⟨v, 0, none⟩)] w fun e w' => ∃ p c, e = .returned (.slice p (keys l).length c) ∧ Lies ints w' p (keys l) ∧ Below w.heap.size w w' := by
  have HV := Lib.hid h
  have HD := Lib.hid (show keys l = keys (l.take l.length) by rw [List.take_length])
  have HS := Lib.hid (fun (j : Nat) (h : j < l.length) => keys_at h)
  have HL := Lib.hid (fun j => keys_len (l.take j))
  have H0 := Lib.hid (show keys (l.take 0) = [] from rfl)
  generalize keys l = R at HD ⊢
  generalize hK : (fun j => keys (l.take j)) = KS
  have hK' : ∀ j, keys (l.take j) = KS j := fun j => by rw [← hK]
  simp only [hK'] at HD HS HL H0
  clear h hK hK'
  go_enter Tryz.func133, Tryz.ntmps133
  go_wp2
  go_loopw [3, 4] (fun y k wr => ∃ (j : Nat) (p : Option Addr) (d n : Nat), j ≤ l.length ∧ k = .int .i64 (j : Int) ∧ y = .slice p n d ∧ Hid (Own ints 3 w.heap.size wr y (KS j)) ∧ Hid ((KS j).length = n) ∧ Hid (Below w.heap.size w wr)) (fun _ k _ => l.length - (intOf k).toNat)
  case atStart => exact ⟨0, none, 0, 0, by omega, rfl, rfl, by rw [H0.out]; exact Lib.hid (Own.none _ _ _ _), by rw [H0.out]; exact Lib.hid rfl, Lib.hid (Below.refl _ _)⟩
  case round =>
    obtain ⟨j, p, d, n, hj, rfl, rfl, hown, hn, HBW⟩ := hrel
    obtain ⟨q0, cq0, c1, hr, -⟩ := (HV.out.below HBW.out).cell
    by_cases hlt : j < l.length
    · have hlt' : (j : Int) < (l.length : Int) := by omega
      have HE := Lib.hid (HS.out j hlt)
      have hn5 : n ≤ 1000 := by
        rw [← hn.out]
        exact Nat.le_trans (HL.out j) (by simp; omega)
      have HPJ := Lib.hid (fun u (hu : Below w.heap.size w u) => lies_at (HV.out.below hu).cell.choose_spec.choose_spec.2.1 hlt)
      generalize KS j = M at *
      have hlies := hown.out.lies
      obtain ⟨p', c', e', HM⟩ := hlies
      simp only [Value.slice.injEq] at e'
      obtain ⟨rfl, hn', rfl⟩ := e'
      subst hn'
      have HML := Lib.hid HM
      have HAT := Lib.hid (lies_at hr hlt)
      clear hr HM HPJ
      generalize l.getD j z = x at *
      obtain ⟨xi, xk, xc, xs, xt⟩ := x
      obtain ⟨b, o, rfl, hat⟩ := HAT.out
      obtain ⟨k0, k1, k2, k3, k4⟩ := at5 hat
      simp only at k0 k1 k2 k3 k4 HE
      have HX := Lib.hid (fun u (hu : Below wr.heap.size wr u) => And.intro (cell_on c1 hu) (cell_on k1 hu))
      clear hat k0 k2 k3 k4 HAT
      have HKS := Lib.hid (fun (m : Nat) (hm : m < M.length) => kfold_at (k := xk) hm)
      have HKL := Lib.hid (fun m => kfold_len xk (M.take m))
      have HK0 := Lib.hid (show kfold xk (M.take 0) = ([], false) from rfl)
      have HKP := Lib.hid (show kput xk M = if (kfold xk (M.take M.length)).2 = true then (kfold xk (M.take M.length)).1 else (kfold xk (M.take M.length)).1 ++ [xk] by rw [List.take_length]; rfl)
      generalize kput xk M = M' at *
      generalize hK : (fun j => kfold xk (M.take j)) = KF
      have hK' : ∀ j, kfold xk (M.take j) = KF j := fun j => by rw [← hK]
      simp only [hK'] at HKS HKL HK0 HKP
      clear hK hK' k1
      go_wp2
      clear c1
      rename World => W1
      go_loopw [5, 6, 7] (fun y dn k wu => ∃ (m : Nat) (p2 : Option Addr) (d2 n2 : Nat), m ≤ M.length ∧ k = .int .i64 (m : Int) ∧ y = .slice p2 n2 d2 ∧ dn = .bool (KF m).2 ∧ Hid (Own ints 3 W1.heap.size wu y (KF m).1) ∧ Hid ((KF m).1.length = n2) ∧ Hid (Below W1.heap.size W1 wu)) (fun _ _ k _ => M.length - (intOf k).toNat)
      case atStart => exact ⟨0, none, 0, 0, by omega, rfl, rfl, by rw [HK0.out], by rw [HK0.out]; exact Lib.hid (Own.none _ _ _ _), by rw [HK0.out]; exact Lib.hid rfl, Lib.hid (Below.refl _ _)⟩
      case round =>
        obtain ⟨m, p2, d2, n2, hm, rfl, rfl, rfl, hown2, hn2, HBU⟩ := hrel
        obtain ⟨c1, k1⟩ := HX.out _ HBU.out
        have hn6 : n2 ≤ 1002 := by
          rw [← hn2.out]
          have := HKL.out m
          have h5 : (M.take m).length ≤ M.length := by simp; omega
          omega
        by_cases hlm : m < M.length
        · have hlm' : (m : Int) < (M.length : Int) := by omega
          obtain ⟨b2, o2, rfl, a1⟩ := ints_at HML.out hlm
          have HA := Lib.hid (fun u (hu : Below W1.heap.size W1 u) => cell_on a1 hu)
          have a0 := HA.out _ HBU.out
          have hst := HKS.out m hlm
          have hc := kstep_cases xk (M.getD m 0) (KF m)
          rw [← hst] at hc
          clear hst a1 HML HKS HKL
          generalize M.getD m 0 = a at *
          generalize KF m = S at *
          generalize hS' : KF (m + 1) = S' at *
          have HS' := Lib.hid hS'
          obtain ⟨L, D⟩ := S
          simp only at hn2 hown2 hc
          have HO1 := hown2
          have HB1 := HBU
          clear hown2 HBU hS'
          rcases hc with ⟨hD, h1, h2, h3⟩ | ⟨hD, h1, h2, h3⟩ | ⟨hD, h2, h3⟩ | ⟨hD, h2, h3⟩
          · subst hD
            have H3 := Lib.hid (HS'.out.trans h3)
            have g1 : decide (a ≥ xk) = true := by simp; exact h1
            have g2 : (a != xk) = false := by simp [h2]
            clear HS' h3 h2
            go_wp2
            go_quiet (fail)
            have HB2 := Lib.hid (HB1.out.trans ((below_drewN wr nq).mono HB1.out.size))
            have HO2 := Lib.hid (HO1.out.on (below_drewN wr nq))
            clear c1 k1 a0 HB1 HO1
            generalize wr.drewN nq = w2 at *
            obtain ⟨c1, k1⟩ := HX.out _ HB2.out
            have a0 := HA.out _ HB2.out
            go_wp2_with (at_builtin; refine Kit.push laidI rfl _ _ rfl W1 w2 (.slice p2 n2 d2) rfl L n2 hn2.out HO2.out HB2.out ((Below.refl _ _).alloc (Nat.le_refl _) _) w2.heap.size xk rfl (heap_alloc_new _ _) (by omega) ?_; intro p3 c3 w3 R3 B3; have HO3 := R3; have HB3 := Lib.hid B3; clear R3 B3 c1 k1 a0; obtain ⟨c1, k1⟩ := HX.out _ HB3.out; have a0 := HA.out _ HB3.out)
            go_quiet (fail)
            have HB4 := Lib.hid (HB3.out.trans ((below_drewN w3 nq).mono HB3.out.size))
            have HO4 := Lib.hid (HO3.out.on (below_drewN w3 nq))
            clear c1 k1 a0 HB3 HO3
            generalize w3.drewN nq = w4 at *
            obtain ⟨c1, k1⟩ := HX.out _ HB4.out
            have a0 := HA.out _ HB4.out
            go_wp2
            go_roundw
            case rel => exact ⟨m + 1, p3, c3, n2 + 1, by omega, by go_num, rfl, by rw [H3.out], by rw [H3.out]; exact HO4, by rw [H3.out]; exact Lib.hid (by simp [hn2.out]), HB4⟩
            case measure => simp only [intOf]; omega
          · subst hD
            have H3 := Lib.hid (HS'.out.trans h3)
            have g1 : decide (a ≥ xk) = true := by simp; exact h1
            have g2 : (a != xk) = true := by simp [h2]
            have hn7 := Lib.hid (show (L ++ [xk]).length = n2 + 1 by simp [hn2.out])
            clear HS' h3 h2
            go_wp2
            go_quiet (fail)
            have HB2 := Lib.hid (HB1.out.trans ((below_drewN wr nq).mono HB1.out.size))
            have HO2 := Lib.hid (HO1.out.on (below_drewN wr nq))
            clear c1 k1 a0 HB1 HO1
            generalize wr.drewN nq = w2 at *
            obtain ⟨c1, k1⟩ := HX.out _ HB2.out
            have a0 := HA.out _ HB2.out
            go_wp2_with (at_builtin; refine Kit.push laidI rfl _ _ rfl W1 w2 (.slice p2 n2 d2) rfl L n2 hn2.out HO2.out HB2.out ((Below.refl _ _).alloc (Nat.le_refl _) _) w2.heap.size xk rfl (heap_alloc_new _ _) (by omega) ?_; intro p3 c3 w3 R3 B3; have HO3 := R3; have HB3 := Lib.hid B3; clear R3 B3 c1 k1 a0; obtain ⟨c1, k1⟩ := HX.out _ HB3.out; have a0 := HA.out _ HB3.out)
            go_quiet (fail)
            have HB4 := Lib.hid (HB3.out.trans ((below_drewN w3 nq).mono HB3.out.size))
            have HO4 := Lib.hid (HO3.out.on (below_drewN w3 nq))
            clear c1 k1 a0 HB3 HO3
            generalize w3.drewN nq = w4 at *
            obtain ⟨c1, k1⟩ := HX.out _ HB4.out
            have a0 := HA.out _ HB4.out
            go_wp2_with (at_builtin; refine Kit.push laidI rfl _ _ rfl W1 w4 (.slice p3 (n2 + 1) c3) rfl (L ++ [xk]) (n2 + 1) hn7.out HO4.out HB4.out ((Below.refl _ _).alloc (Nat.le_refl _) _) w4.heap.size a rfl (heap_alloc_new _ _) (by omega) ?_; intro p5 c5 w5 R5 B5; have HO5 := R5; have HB5 := Lib.hid B5; clear R5 B5 c1 k1 a0; obtain ⟨c1, k1⟩ := HX.out _ HB5.out; have a0 := HA.out _ HB5.out)
            go_roundw
            case rel => exact ⟨m + 1, p5, c5, n2 + 1 + 1, by omega, by go_num, rfl, by rw [H3.out], by rw [H3.out]; exact HO5, by rw [H3.out]; exact Lib.hid (by simp [hn2.out]), HB5⟩
            case measure => simp only [intOf]; omega
          · have H3 := Lib.hid (HS'.out.trans h3)
            have g2 : (a != xk) = false := by simp [h2]
            clear HS' h3 h2
            rcases hD with hD | ⟨hD, h1⟩
            all_goals
              subst hD
              first | have g1 : decide (a ≥ xk) = false := (by simp; omega) | skip
              go_wp2
              go_quiet (fail)
              have HB2 := Lib.hid (HB1.out.trans ((below_drewN wr nq).mono HB1.out.size))
              have HO2 := Lib.hid (HO1.out.on (below_drewN wr nq))
              clear c1 k1 a0 HB1 HO1
              generalize wr.drewN nq = w2 at *
              obtain ⟨c1, k1⟩ := HX.out _ HB2.out
              have a0 := HA.out _ HB2.out
              go_wp2
              go_quiet (fail)
              have HB3 := Lib.hid (HB2.out.trans ((below_drewN w2 nq).mono HB2.out.size))
              have HO3 := Lib.hid (HO2.out.on (below_drewN w2 nq))
              clear c1 k1 a0 HB2 HO2
              generalize w2.drewN nq = w3 at *
              obtain ⟨c1, k1⟩ := HX.out _ HB3.out
              have a0 := HA.out _ HB3.out
              go_wp2
              go_roundw
              case rel => exact ⟨m + 1, p2, d2, n2, by omega, by go_num, rfl, by rw [H3.out], by rw [H3.out]; exact HO3, by rw [H3.out]; exact hn2, HB3⟩
              case measure => simp only [intOf]; omega
          · have H3 := Lib.hid (HS'.out.trans h3)
            have g2 : (a != xk) = true := by simp [h2]
            clear HS' h3 h2
            rcases hD with hD | ⟨hD, h1⟩
            all_goals
              subst hD
              first | have g1 : decide (a ≥ xk) = false := (by simp; omega) | skip
              go_wp2
              go_quiet (fail)
              have HB2 := Lib.hid (HB1.out.trans ((below_drewN wr nq).mono HB1.out.size))
              have HO2 := Lib.hid (HO1.out.on (below_drewN wr nq))
              clear c1 k1 a0 HB1 HO1
              generalize wr.drewN nq = w2 at *
              obtain ⟨c1, k1⟩ := HX.out _ HB2.out
              have a0 := HA.out _ HB2.out
              go_wp2
              go_quiet (fail)
              have HB3 := Lib.hid (HB2.out.trans ((below_drewN w2 nq).mono HB2.out.size))
              have HO3 := Lib.hid (HO2.out.on (below_drewN w2 nq))
              clear c1 k1 a0 HB2 HO2
              generalize w2.drewN nq = w3 at *
              obtain ⟨c1, k1⟩ := HX.out _ HB3.out
              have a0 := HA.out _ HB3.out
              go_wp2_with (at_builtin; refine Kit.push laidI rfl _ _ rfl W1 w3 (.slice p2 n2 d2) rfl L n2 hn2.out HO3.out HB3.out ((Below.refl _ _).alloc (Nat.le_refl _) _) w3.heap.size a rfl (heap_alloc_new _ _) (by omega) ?_; intro p4 c4 w4 R4 B4; have HO4 := R4; have HB4 := Lib.hid B4; clear R4 B4 c1 k1 a0; obtain ⟨c1, k1⟩ := HX.out _ HB4.out; have a0 := HA.out _ HB4.out)
              go_roundw
              case rel => exact ⟨m + 1, p4, c4, n2 + 1, by omega, by go_num, rfl, by rw [H3.out], by rw [H3.out]; exact HO4, by rw [H3.out]; exact Lib.hid (by simp [hn2.out]), HB4⟩
              case measure => simp only [intOf]; omega
        · have hlm' : ¬ (m : Int) < (M.length : Int) := by omega
          obtain rfl : m = M.length := by omega
          have hkp := HKP.out
          clear HKS HKL HML HKP hlm
          generalize KF M.length = S at *
          obtain ⟨L, D⟩ := S
          simp only at hn2 hown2 hkp
          cases D
          · have HM' := Lib.hid (show M' = L ++ [xk] by rw [hkp]; rfl)
            clear hkp
            go_wp2_with (at_builtin; refine Kit.push laidI rfl _ _ rfl W1 wr (.slice p2 n2 d2) rfl L n2 hn2.out hown2.out HBU.out ((Below.refl _ _).alloc (Nat.le_refl _) _) wr.heap.size xk rfl (heap_alloc_new _ _) (by omega) ?_; intro p3 c3 w3 R3 B3)
            go_roundw
            case rel => exact ⟨j + 1, p3, c3, n2 + 1, by omega, by go_num, rfl, by rw [HE.out, HM'.out]; exact Lib.hid (Own.lower R3.out HBW.out.size), by rw [HE.out, HM'.out]; exact Lib.hid (by simp [hn2.out]), Lib.hid (HBW.out.trans (B3.mono HBW.out.size))⟩
            case measure => simp only [intOf]; omega
          · have HM' := Lib.hid (show M' = L by rw [hkp]; rfl)
            clear hkp
            go_wp2
            go_roundw
            case rel => exact ⟨j + 1, p2, d2, n2, by omega, by go_num, rfl, by rw [HE.out, HM'.out]; exact Lib.hid (Own.lower hown2.out HBW.out.size), by rw [HE.out, HM'.out]; exact hn2, Lib.hid (HBW.out.trans (HBU.out.mono HBW.out.size))⟩
            case measure => simp only [intOf]; omega
    · have hlt' : ¬ (j : Int) < (l.length : Int) := by omega
      obtain rfl : j = l.length := by omega
      rw [← HD.out] at hown hn
      have hw := hown.out
      have hnn := hn.out
      subst hnn
      obtain ⟨q', d', hq, hlies⟩ := hw.lies
      simp only [Value.slice.injEq] at hq
      obtain ⟨rfl, -, rfl⟩ := hq
      have HQ := Lib.hid hlies
      clear hlies hw hown hn hr
      go_wp2
      refine bodyPost_ret (v := .slice p R.length d) (by simp [results, Tryz.results133, go_sem]) rfl ⟨p, ⟨d, rfl⟩, HQ.out, HBW.out⟩
end Go.Proofs.YtlbpeeelgpjciaaGreat.Queue

namespace Go.Proofs.YtlbpeeelgpjciaaGreat.Queue
open Go.RowKit
open _root_.Go.Proofs.YtlbpeeelgpjciaaGreat.Codec (lt_of_heap frozen_of heap_set below_new own_below)
open _root_.Go.Proofs.YtlbpeeelgpjciaaGreat.Kit (Enc Lies Own At Kept Laid Off cell_on lt_heap take_snoc below_drewN box5 ints)

/-- The document's blocks. -/
abbrev mine : List TypeId := [52, 95]
theorem Qu.off {w w' : World} {B v : Nat} {room : Int} {l : List It} (h : Qu B w v room l) (ho : Off mine w w') : Qu B w' v room l := by
  obtain ⟨h0, y, h1, h2⟩ := h
  exact ⟨h0, y, ho.block v _ _ _ h1 (by simp [mine]), Own.off h2 ho (by simp [mine])⟩
/-- The first one of a list. -/
def head : List It → It × Bool
  | [] => (z, false)
  | x :: _ => (x, true)
/-- Of: blocks that are none of the queue's, where these begin, the world, the queue's address, its room, its items. -/
abbrev Pw := (Nat → Prop) → Nat → World → Nat → Int → List It → Prop
/-- The program's queue moves. -/
structure Moved (PW : Pw) (F : Nat → Prop) (B : Nat) (w : World) (q : Nat) (room : Int) (l : List It) (w' : World) : Prop where
  pw : PW F B w' q room l
  off : Off mine w w'
  below : Below B w w'
  rest : ∀ g, F g → g < w.heap.size → w'.heap[g]? = w.heap[g]?
structure Way12 (PW : Pw) : Prop where
  below : ∀ {F B w q room l w'}, PW F B w q room l → Below w.heap.size w w' → PW F B w' q room l
  kept : ∀ {F B w q room l w'}, PW F B w q room l → Kept [52] w w' → Below B w w' → PW F B w' q room l
  sub : ∀ {F G B w q room l}, PW F B w q room l → (∀ g, G g → F g) → PW G B w q room l
  grow : ∀ {F B w q room l w'}, PW F B w q room l → Below w.heap.size w w' → PW (fun g => F g ∨ w.heap.size ≤ g ∧ g < w'.heap.size) B w' q room l
  new : ∀ room w, 0 ≤ room → room ≤ 16 → Calls Tryz.prog 67 #[.int .i64 room] w fun e w' => ∃ q, e = .returned (.tuple #[.pointer (some ⟨q, 0, none⟩), .int .i64 0]) ∧ PW (fun g => g < w.heap.size) w.heap.size w' q room [] ∧ Below w.heap.size w w'
  newno : ∀ room w, (room < 0 ∨ 16 < room) → Calls Tryz.prog 67 #[.int .i64 room] w fun e w' => e = .returned (.tuple #[.pointer none, .int .i64 1]) ∧ Below w.heap.size w w'
  put : ∀ {F B w q room l}, PW F B w q room l → B ≤ w.heap.size → Good room l → l.length ≤ 16 → ∀ x, Nums x → Calls Tryz.prog 102 #[.pointer (some ⟨q, 0, none⟩), val x] w fun e w' => e = .returned (.int .i64 (put room l x).2) ∧ Moved PW F B w q room (put room l x).1 w'
  take : ∀ {F B w q room l}, PW F B w q room l → B ≤ w.heap.size → Good room l → l.length ≤ 16 → ∀ id, Num id → Calls Tryz.prog 58 #[.pointer (some ⟨q, 0, none⟩), .int .i64 id] w fun e w' => e = .returned (.tuple #[val (take l id).2.1, .bool (take l id).2.2]) ∧ Moved PW F B w q room (take l id).1 w'
  expire : ∀ {F B w q room l}, PW F B w q room l → B ≤ w.heap.size → Good room l → l.length ≤ 16 → ∀ now, Num now → Calls Tryz.prog 56 #[.pointer (some ⟨q, 0, none⟩), .int .i64 now] w fun e w' => ∃ p c, e = .returned (.slice p (expire l now).2.length c) ∧ Lies item w' p (expire l now).2 ∧ Moved PW F B w q room (expire l now).1 w'
  first : ∀ {F B w q room l}, PW F B w q room l → Good room l → l.length ≤ 16 → ∀ key, Num key → Calls Tryz.prog 99 #[.pointer (some ⟨q, 0, none⟩), .int .i64 key] w fun e w' => e = .returned (.tuple #[val (head (of l key)).1, .bool (head (of l key)).2]) ∧ Below w.heap.size w w'
  of : ∀ {F B w q room l}, PW F B w q room l → Good room l → l.length ≤ 16 → ∀ key, Num key → Calls Tryz.prog 57 #[.pointer (some ⟨q, 0, none⟩), .int .i64 key] w fun e w' => ∃ p c, e = .returned (.slice p (of l key).length c) ∧ Lies item w' p (of l key) ∧ Below w.heap.size w w'
  keys : ∀ {F B w q room l}, PW F B w q room l → Good room l → l.length ≤ 16 → Calls Tryz.prog 50 #[.pointer (some ⟨q, 0, none⟩)] w fun e w' => ∃ p c, e = .returned (.slice p (keys l).length c) ∧ Lies ints w' p (keys l) ∧ Below w.heap.size w w'
  sum : ∀ {F B w q room l}, PW F B w q room l → Good room l → l.length ≤ 16 → ∀ key, Num key → Calls Tryz.prog 110 #[.pointer (some ⟨q, 0, none⟩), .int .i64 key] w fun e w' => e = .returned (.int .i64 (sum l key)) ∧ Below w.heap.size w w'
  all : ∀ {F B w q room l}, PW F B w q room l → Good room l → l.length ≤ 16 → Calls Tryz.prog 38 #[.pointer (some ⟨q, 0, none⟩)] w fun e w' => ∃ p c, e = .returned (.slice p l.length c) ∧ Lies item w' p l ∧ Below w.heap.size w w'
  nput : ∀ x w, Calls Tryz.prog 102 #[.pointer none, val x] w fun e w' => e = .returned (.int .i64 1) ∧ Below w.heap.size w w'
  ntake : ∀ id w, Calls Tryz.prog 58 #[.pointer none, .int .i64 id] w fun e w' => e = .returned (.tuple #[val z, .bool false]) ∧ Below w.heap.size w w'
  nexpire : ∀ now w, Calls Tryz.prog 56 #[.pointer none, .int .i64 now] w fun e w' => ∃ p c, e = .returned (.slice p 0 c) ∧ Below w.heap.size w w'
  nfirst : ∀ key w, Calls Tryz.prog 99 #[.pointer none, .int .i64 key] w fun e w' => e = .returned (.tuple #[val z, .bool false]) ∧ Below w.heap.size w w'
  nof : ∀ key w, Calls Tryz.prog 57 #[.pointer none, .int .i64 key] w fun e w' => ∃ p c, e = .returned (.slice p 0 c) ∧ Below w.heap.size w w'
  nkeys : ∀ w, Calls Tryz.prog 50 #[.pointer none] w fun e w' => ∃ p c, e = .returned (.slice p 0 c) ∧ Below w.heap.size w w'
  nsum : ∀ key w, Calls Tryz.prog 110 #[.pointer none, .int .i64 key] w fun e w' => e = .returned (.int .i64 0) ∧ Below w.heap.size w w'
  nall : ∀ w, Calls Tryz.prog 38 #[.pointer none] w fun e w' => ∃ p c, e = .returned (.slice p 0 c) ∧ Below w.heap.size w w'

theorem lay (w : World) (o : Obj) : Below w.heap.size w (w.alloc o) := (Below.refl _ _).alloc (Nat.le_refl _) o
def x1 : It := ⟨1, 5, 3, 2, 9⟩
def x2 : It := ⟨2, 5, 4, 0, 7⟩
def x3 : It := ⟨3, 5, 4, 0, 7⟩
theorem al1 : put 2 [] x1 = ([x1], 0) := rfl
theorem al2 : put 2 [x1] x2 = ([x1, x2], 0) := rfl
theorem al3 : put 2 [x1, x2] x3 = ([x1, x2], 3) := rfl
theorem al4 : head (of [x1, x2] 5) = (x2, true) := rfl
theorem al5 : sum [x1, x2] 5 = 7 := rfl
theorem al6 : expire [x1, x2] 7 = ([x1], [x2]) := rfl
theorem num_small {x : Int} (h : -100 ≤ x ∧ x ≤ 100) : Num x := by unfold Num; omega
theorem nums_x1 : Nums x1 := ⟨num_small (by decide), num_small (by decide), num_small (by decide), num_small (by decide), num_small (by decide)⟩
theorem nums_x2 : Nums x2 := ⟨num_small (by decide), num_small (by decide), num_small (by decide), num_small (by decide), num_small (by decide)⟩
theorem nums_x3 : Nums x3 := ⟨num_small (by decide), num_small (by decide), num_small (by decide), num_small (by decide), num_small (by decide)⟩
theorem good_0 : Good 2 [] := good_nil (by decide)
theorem good_1 : Good 2 [x1] := good_put good_0 nums_x1
theorem good_2 : Good 2 [x1, x2] := good_put good_1 nums_x2
theorem good_3 : Good 2 [x1] := good_expire good_2 7
end Go.Proofs.YtlbpeeelgpjciaaGreat.Queue

namespace Go.Proofs.YtlbpeeelgpjciaaGreat.Queue
open Go.RowKit
open _root_.Go.Proofs.YtlbpeeelgpjciaaGreat.Codec (lt_of_heap frozen_of heap_set below_new own_below)
open _root_.Go.Proofs.YtlbpeeelgpjciaaGreat.Kit (Enc Lies Own At Kept Laid Off cell_on lt_heap take_snoc below_drewN box5 ints own_keep own_lt)

theorem laidP : Laid Tryz.prog item 77 49 := ⟨Tryz.underlying49, .agg #[.int .i64 0, .int .i64 0, .int .i64 0, .int .i64 0, .int .i64 0], 40, by kernel_rfl, rfl, by decide⟩
/-- The program's queue, whose slice is y. -/
structure Pqy (F : Nat → Prop) (B : Nat) (w : World) (q : Nat) (room : Int) (l : List It) (y : Value) : Prop where
  ge : B ≤ q
  nf : ¬ F q
  blk : w.heap[q]? = some (.cells #[.int .i64 room, y] 134 (0, 0))
  own : Own item 77 B w y l
  nfy : ∀ g, y.ownBlock = some g → ¬ F g
  fl : ∀ g, F g → g < w.heap.size
def Pq : Pw := fun F B w q room l => ∃ y, Pqy F B w q room l y
section
variable {F G : Nat → Prop} {B q : Nat} {w w' u : World} {room : Int} {l l' : List It} {y y' : Value}
theorem Pqy.lt (h : Pqy F B w q room l y) : q < w.heap.size := lt_of_heap h.blk
theorem Pqy.below (h : Pqy F B w q room l y) (hb : Below w.heap.size w w') : Pqy F B w' q room l y :=
  ⟨h.ge, h.nf, (hb.block q h.lt).trans h.blk, h.own.on hb, h.nfy, fun g hg => Nat.lt_of_lt_of_le (h.fl g hg) hb.size⟩
theorem Pqy.kept (h : Pqy F B w q room l y) (hk : Kept [52] w w') : Pqy F B w' q room l y :=
  ⟨h.ge, h.nf, hk.block q _ _ _ h.blk (by simp), Own.kept h.own hk (by simp), h.nfy, fun g hg => Nat.lt_of_lt_of_le (h.fl g hg) hk.size⟩
theorem Pqy.sub (h : Pqy F B w q room l y) (hg : ∀ g, G g → F g) : Pqy G B w q room l y :=
  ⟨h.ge, fun e => h.nf (hg _ e), h.blk, h.own, fun g e e2 => h.nfy g e (hg _ e2), fun g e => h.fl g (hg _ e)⟩
theorem Pqy.grow (h : Pqy F B w q room l y) (hb : Below w.heap.size w w') : Pqy (fun g => F g ∨ w.heap.size ≤ g ∧ g < w'.heap.size) B w' q room l y := by
  have h' := h.below hb
  refine ⟨h.ge, fun e => ?_, h'.blk, h'.own, fun g e e2 => ?_, fun g e => ?_⟩
  · rcases e with e | e
    · exact h.nf e
    · have := h.lt; omega
  · rcases e2 with e2 | e2
    · exact h.nfy g e e2
    · have := own_lt h.own e; omega
  · rcases e with e | e
    · exact h'.fl g e
    · exact e.2
theorem Pqy.cell (h : Pqy F B w q room l y) : ∃ p c, y = .slice p l.length c ∧ w.cell? ⟨q, 1, none⟩ = some (.slice p l.length c) ∧ Lies item w p l ∧ (p = none → c = 0) ∧ w.cell? ⟨q, 0, none⟩ = some (.int .i64 room) := by
  obtain ⟨p, c, rfl, hl⟩ := h.own.lies
  refine ⟨p, c, rfl, by rw [cell_of_row w q 1 _ _ (0, 0) h.blk]; rfl, hl, ?_, by rw [cell_of_row w q 0 _ _ (0, 0) h.blk]; rfl⟩
  rintro rfl
  rcases h.own.2 with ⟨e, -⟩ | ⟨g, cap, cur, e, -⟩
  · simp only [Value.slice.injEq] at e
    exact e.2.2
  · simp at e
theorem own_type {B : Nat} {w : World} {v : Value} {l : List It} {T : TypeId} (h : Own item T B w v l) {b : Nat} (hb : v.ownBlock = some b) : ∃ cur, w.heap[b]? = some (.cells cur T (0, 0)) := by
  rcases h.2 with ⟨rfl, -⟩ | ⟨g, cap, cur, rfl, h1, h2, -⟩
  · simp [Value.ownBlock] at hb
  · simp only [Value.ownBlock, Option.some.injEq] at hb
    subst hb
    exact ⟨cur, h2⟩
/-- The slice's own block is not the queue's. -/
theorem Pqy.apart (h : Pqy F B w q room l y) : y.ownBlock ≠ some q := by
  intro e
  obtain ⟨cur, hc⟩ := own_type h.own e
  rw [h.blk] at hc
  simp only [Option.some.injEq, Obj.cells.injEq] at hc
  exact absurd hc.2.1 (by decide)
/-- The slice's block may have turned, and a new slice is stored. -/
theorem Pqy.turn (h : Pqy F B w q room l y) (hB : B ≤ w.heap.size) (hg : w.grownBy u y.ownBlock) (ho : Own item 77 B u y' l') (hy : ∀ g, y'.ownBlock = some g → y.ownBlock = some g ∨ w.heap.size ≤ g) :
    u.frozen? ⟨q, 1, none⟩ = false ∧ u.cell? ⟨q, 1, none⟩ = some y ∧ Hid (Moved Pq F B w q room l' (u.setCell ⟨q, 1, none⟩ y')) := by
  have hq : u.heap[q]? = _ := (hg.block q h.lt (fun e => h.apart e.symm)).trans h.blk
  have ne1 : ∀ g, y'.ownBlock = some g → g ≠ q := fun g e => by
    rintro rfl
    rcases hy g e with e | e
    · exact h.apart e
    · have := h.lt; omega
  have hb : Below B w u := (Below.refl B w).grown hg hB (fun k e => (World.ownsRow.lt h.own k e).1)
  refine ⟨frozen_of hq, by rw [cell_of_row u q 1 _ _ (0, 0) hq]; rfl, ⟨⟨y', ⟨h.ge, h.nf, ?_, ?_, fun g e e2 => ?_, fun g e => ?_⟩⟩, ⟨Nat.le_trans hg.size (by simp), fun g cs t z e ht => ?_⟩, hb.setCell (p := ⟨q, 1, none⟩) h.ge _, fun g hf hl => ?_⟩⟩
  · rw [heap_set q 1 _ _ hq]; rfl
  · exact own_keep ho (fun b e => Below.heap_setCell _ _ _ _ (ne1 b e))
  · rcases hy g e with e | e
    · exact h.nfy g e e2
    · have := h.fl g e2; omega
  · exact Nat.lt_of_lt_of_le (h.fl g e) (Nat.le_trans hg.size (by simp))
  · have hne : g ≠ q := by
      rintro rfl
      rw [h.blk] at e
      simp only [Option.some.injEq, Obj.cells.injEq] at e
      rw [← e.2.1] at ht
      exact absurd ht (by decide)
    refine (Below.heap_setCell _ _ _ _ hne).trans ((hg.block g (lt_heap e) (fun e2 => ?_)).trans e)
    obtain ⟨cur, hc⟩ := own_type h.own e2.symm
    rw [e] at hc
    simp only [Option.some.injEq, Obj.cells.injEq] at hc
    rw [hc.2.1] at ht
    exact absurd ht (by decide)
  · have hne : g ≠ q := fun e => h.nf (e ▸ hf)
    exact (Below.heap_setCell _ _ _ _ hne).trans (hg.block g hl (fun e => h.nfy g e.symm hf))
theorem Pqy.same (h : Pqy F B w q room l y) (hB : B ≤ w.heap.size) (hb : Below w.heap.size w w') : Moved Pq F B w q room l w' :=
  ⟨⟨y, h.below hb⟩, Off.of_below hb, hb.mono hB, fun g _ hl => hb.block g hl⟩
end
theorem Moved.lift {PW : Pw} {F : Nat → Prop} {B q : Nat} {w u w' : World} {room : Int} {l : List It} (hB : B ≤ w.heap.size) (hb : Below w.heap.size w u) (h : Moved PW F B u q room l w') : Moved PW F B w q room l w' :=
  ⟨h.pw, (Off.of_below hb).trans h.off, (hb.mono hB).trans h.below, fun g hf hl => (h.rest g hf (Nat.lt_of_lt_of_le hl hb.size)).trans (hb.block g hl)⟩
theorem Moved.on {F : Nat → Prop} {B q : Nat} {w u w' : World} {room : Int} {l : List It} (hB : B ≤ w.heap.size) (h : Moved Pq F B w q room l u) (hb : Below u.heap.size u w') : Moved Pq F B w q room l w' :=
  ⟨by obtain ⟨y, hy⟩ := h.pw; exact ⟨y, hy.below hb⟩, h.off.trans (Off.of_below hb), h.below.trans (hb.mono (Nat.le_trans hB h.off.size)), fun g hf hl => (hb.block g (Nat.lt_of_lt_of_le hl h.off.size)).trans (h.rest g hf hl)⟩

set_option maxRecDepth 100000 in
set_option maxHeartbeats 1000000 in
theorem new_no (room : Int) (w : World) (h : room < 0 ∨ 16 < room) : Calls Tryz.prog 67 #[.int .i64 room] w fun e w' => e = .returned (.tuple #[.pointer none, .int .i64 1]) ∧ Below w.heap.size w w' := by
  have hc : decide (room < 0) = true ∨ decide (room < 0) = false ∧ decide (16 < room) = true := by
    by_cases h1 : room < 0
    · exact .inl (by simpa using h1)
    · exact .inr ⟨by simpa using h1, by simp; omega⟩
  rcases hc with h1 | ⟨h1, h2⟩
  all_goals
    go_enter Tryz.func67, Tryz.ntmps67
    go_wp2
    refine bodyPost_ret (v := .tuple #[.pointer none, .int .i64 1]) (by simp [results, Tryz.results67, go_sem]) rfl ⟨rfl, Below.refl _ _⟩
set_option maxRecDepth 100000 in
set_option maxHeartbeats 1000000 in
theorem new_ok (room : Int) (w : World) (h0 : 0 ≤ room) (h1 : room ≤ 16) : Calls Tryz.prog 67 #[.int .i64 room] w fun e w' => ∃ q, e = .returned (.tuple #[.pointer (some ⟨q, 0, none⟩), .int .i64 0]) ∧ Pq (fun g => g < w.heap.size) w.heap.size w' q room [] ∧ Below w.heap.size w w' := by
  have h2 : decide (room < 0) = false := by simp; omega
  have h3 : decide (16 < room) = false := by simp; omega
  have HB := Lib.hid (lay w (.cells #[.int .i64 room, .slice none 0 0] 134))
  have HK := Lib.hid (heap_alloc_new w (.cells #[.int .i64 room, .slice none 0 0] 134))
  go_enter Tryz.func67, Tryz.ntmps67
  go_wp2
  refine bodyPost_ret (v := .tuple #[.pointer (some ⟨w.heap.size, 0, none⟩), .int .i64 0]) (by simp [results, Tryz.results67, go_sem]) rfl ⟨w.heap.size, rfl, ⟨_, ⟨Nat.le_refl _, by simp, HK.out, Own.none _ _ _ _, fun g e => by simp [Value.ownBlock] at e, fun g e => Nat.lt_of_lt_of_le e HB.out.size⟩⟩, HB.out⟩
end Go.Proofs.YtlbpeeelgpjciaaGreat.Queue

namespace Go.Proofs.YtlbpeeelgpjciaaGreat.Edge
open Go.RowKit
open _root_.Go.Proofs.YtlbpeeelgpjciaaGreat.Codec (lt_of_heap frozen_of heap_set below_new)
open _root_.Go.Proofs.YtlbpeeelgpjciaaGreat.Kit (Enc Lies At Kept Laid Off cell_on lt_heap take_snoc below_drewN own_keep)
open _root_.Go.Proofs.YtlbpeeelgpjciaaGreat.Lease (Lz)
open _root_.Go.Proofs.YtlbpeeelgpjciaaGreat.Queue (It)
open _root_.Go.Proofs.YtlbpeeelgpjciaaGreat.Demand (Nt)

/-- Blocks of a type stay. -/
def KeepC (T : TypeId) (w w' : World) : Prop := ∀ (g : Nat) (cs : Array Value) (z : Nat × Nat), w.heap[g]? = some (.cells cs T z) → w'.heap[g]? = some (.cells cs T z)
/-- The map that a cell holds. -/
def holds (w : World) (q b : Nat) : Prop := w.cell? ⟨q, 0, none⟩ = some (.map (some b))
theorem Mw_map {B : Nat} {w : World} {q b : Nat} {l : List Lz} (h : Lease.Pm B w q l) (hb : holds w q b) : ∃ es cl, w.heap[b]? = some (.map es cl) := by
  obtain ⟨m, hc, -, hm⟩ := h.cell
  unfold holds at hb
  rw [hc] at hb
  simp only [Option.some.injEq, Value.map.injEq] at hb
  subst hb
  exact hm.map_at
theorem Md_map {B : Nat} {w : World} {q b : Nat} {l : List Nt} (h : Demand.Pm B w q l) (hb : holds w q b) : ∃ es cl, w.heap[b]? = some (.map es cl) := by
  obtain ⟨m, hc, -, hm⟩ := h.cell
  unfold holds at hb
  rw [hc] at hb
  simp only [Option.some.injEq, Value.map.injEq] at hb
  subst hb
  exact hm.map_at
section
variable {R : Nat → Prop} {B q qw qq qd : Nat} {w w' : World} {y : Value} {c : Cf} {e : Eg} {L : List Lz} {Q : List It} {D : List Nt}
theorem keep_w (h : Lease.Pm B w qw L) {L' : List Lz} (t : LeaseF.Turns B w qw L' w') {T : TypeId} (hT : T ≠ 141) : KeepC T w w' := fun g cs z hg => by
  refine (t.rest g (lt_of_heap hg) ?_ ?_).trans hg
  · rintro rfl
    obtain ⟨_, m, h1, _⟩ := h
    rw [hg] at h1
    simp only [Option.some.injEq, Obj.cells.injEq] at h1
    exact hT h1.2.1
  · intro e
    obtain ⟨es, cl, h1⟩ := Mw_map h e
    rw [hg] at h1
    cases h1
theorem keep_d (h : Demand.Pm B w qd D) {D' : List Nt} (t : DemandF.Turns B w qd D' w') {T : TypeId} (hT : T ≠ 161) : KeepC T w w' := fun g cs z hg => by
  refine (t.rest g (lt_of_heap hg) ?_ ?_).trans hg
  · rintro rfl
    obtain ⟨_, m, h1, _⟩ := h
    rw [hg] at h1
    simp only [Option.some.injEq, Obj.cells.injEq] at h1
    exact hT h1.2.1
  · intro e
    obtain ⟨es, cl, h1⟩ := Md_map h e
    rw [hg] at h1
    cases h1
/-- No block of the queue's. -/
def notq (w : World) (g : Nat) : Prop := g < w.heap.size ∧ ∀ cs z, w.heap[g]? ≠ some (.cells cs 134 z) ∧ w.heap[g]? ≠ some (.cells cs 77 z)
theorem pq_notq {room : Int} {l : List It} (h : Queue.Pq R B w qq room l) : Queue.Pq (fun g => notq w g ∨ R g) B w qq room l := by
  obtain ⟨y, hy⟩ := h
  refine ⟨y, hy.ge, fun e => e.elim (fun e => (e.2 _ _).1 hy.blk) hy.nf, hy.blk, hy.own, fun g hg hn => ?_, fun g hg => hg.elim And.left (hy.fl g)⟩
  rcases hn with hn | hn
  rotate_left
  · exact hy.nfy g hg hn
  rcases hy.own.2 with ⟨rfl, -⟩ | ⟨g', cap, cur, rfl, -, h2, -⟩
  · simp [Value.ownBlock] at hg
  · simp only [Value.ownBlock, Option.some.injEq] at hg
    subst hg
    exact (hn.2 _ _).2 h2
theorem keep_q {room : Int} {l' : List It} (t : Queue.Moved Queue.Pq (fun g => notq w g ∨ R g) B w qq room l' w') {T : TypeId} (h1 : T ≠ 134) (h2 : T ≠ 77) : KeepC T w w' := fun g cs z hg => by
  refine (t.rest g (.inl ⟨lt_of_heap hg, fun cs' z' => ⟨fun e => ?_, fun e => ?_⟩⟩) (lt_of_heap hg)).trans hg
  · rw [hg] at e
    simp only [Option.some.injEq, Obj.cells.injEq] at e
    exact h1 e.2.1
  · rw [hg] at e
    simp only [Option.some.injEq, Obj.cells.injEq] at e
    exact h2 e.2.1
theorem keep_qm {room : Int} {l' : List It} (t : Queue.Moved Queue.Pq (fun g => notq w g ∨ R g) B w qq room l' w') {g : Nat} {es : _} {cl : _} (hg : w.heap[g]? = some (.map es cl)) : w'.heap[g]? = some (.map es cl) :=
  (t.rest g (.inl ⟨lt_of_heap hg, fun cs' z' => ⟨fun e => (by rw [hg] at e; cases e), fun e => (by rw [hg] at e; cases e)⟩⟩) (lt_of_heap hg)).trans hg
/-- A wallet stays where its blocks do. -/
theorem pw_stays (h : Lease.Pm B w qw L) (hc : KeepC 141 w w') (hm : ∀ b es cl, holds w qw b → w.heap[b]? = some (.map es cl) → w'.heap[b]? = some (.map es cl)) : Lease.Pm B w' qw L := by
  have hcell := h.cell
  obtain ⟨h0, m, h1, h2⟩ := h
  refine ⟨h0, m, hc _ _ _ h1, ?_⟩
  rcases h2 with h2 | ⟨b, D, rfl, hB, ⟨es, clock, hb, rest⟩, hi⟩
  · exact .inl h2
  · exact .inr ⟨b, D, rfl, hB, ⟨es, clock, hm b _ _ (by unfold holds; rw [cell_of_row w qw 0 _ _ (0, 0) h1]; rfl) hb, rest⟩, hi⟩
theorem pq_stays {room : Int} {l : List It} (h : Queue.Pq R B w qq room l) (hs : w.heap.size ≤ w'.heap.size) (h1 : KeepC 134 w w') (h2 : KeepC 77 w w') : Queue.Pq R B w' qq room l := by
  obtain ⟨y, hy⟩ := h
  refine ⟨y, hy.ge, hy.nf, h1 _ _ _ hy.blk, ⟨hy.own.1, ?_⟩, hy.nfy, fun g hg => Nat.lt_of_lt_of_le (hy.fl g hg) hs⟩
  rcases hy.own.2 with h0 | ⟨g', cap, cur, rfl, k1, k2, k3⟩
  · exact .inl h0
  · exact .inr ⟨g', cap, cur, rfl, k1, h2 _ _ _ k2, k3⟩
theorem pd_stays (h : Demand.Pm B w qd D) (hc : KeepC 161 w w') (hm : ∀ b es cl, holds w qd b → w.heap[b]? = some (.map es cl) → w'.heap[b]? = some (.map es cl)) : Demand.Pm B w' qd D := by
  obtain ⟨h0, m, h1, h2⟩ := h
  refine ⟨h0, m, hc _ _ _ h1, ?_⟩
  rcases h2 with h2 | ⟨b, D, rfl, hB, ⟨es, clock, hb, rest⟩, hi⟩
  · exact .inl h2
  · exact .inr ⟨b, D, rfl, hB, ⟨es, clock, hm b _ _ (by unfold holds; rw [cell_of_row w qd 0 _ _ (0, 0) h1]; rfl) hb, rest⟩, hi⟩
theorem rt_stays {zs : List (Int × Int)} (h : Kit.Own pair 82 B w y zs) (hc : KeepC 82 w w') : Kit.Own pair 82 B w' y zs := by
  refine ⟨h.1, ?_⟩
  rcases h.2 with h0 | ⟨g', cap, cur, rfl, k1, k2, k3⟩
  · exact .inl h0
  · exact .inr ⟨g', cap, cur, rfl, k1, hc _ _ _ k2, k3⟩
/-- The cells of the edge's block: its wallet, its configuration, with rates of its own (y), its queue, its estimates. -/
def ecells (qw : Nat) (c : Cf) (y : Value) (qq qd : Nat) : Array Value := #[.pointer (some ⟨qw, 0, none⟩), .int .i64 c.n, .int .i64 c.sk, .int .i64 c.tl, .int .i64 c.va, .int .i64 c.lo, .int .i64 c.he, .int .i64 c.ke, .int .i64 c.qu, y, .pointer (some ⟨qq, 0, none⟩), .pointer (some ⟨qd, 0, none⟩)]
/-- The edge's parts, each in blocks of its own; R: blocks that are none of the queue's. -/
structure In (R : Nat → Prop) (B : Nat) (w : World) (q : Nat) (y : Value) (qw qq qd : Nat) (c : Cf) (e : Eg) : Prop where
  ge : B ≤ q
  blk : w.heap[q]? = some (.cells (ecells qw c y qq qd) 91 (0, 0))
  rt : Kit.Own pair 82 B w y c.zs
  wl : Lease.Pm B w qw e.L
  qu : Queue.Pq R B w qq c.qu e.Q
  dm : Demand.Pm B w qd e.D
  apart : ∀ b, holds w qw b → ¬ holds w qd b
theorem In.below (h : In R B w q y qw qq qd c e) (hb : Below w.heap.size w w') : In R B w' q y qw qq qd c e :=
  ⟨h.ge, (hb.block q (lt_of_heap h.blk)).trans h.blk, h.rt.on hb, h.wl.below hb, (by obtain ⟨y, hy⟩ := h.qu; exact ⟨y, hy.below hb⟩), h.dm.below hb, fun b h1 h2 => h.apart b (by unfold holds at h1 ⊢; rwa [hb.cell (p := ⟨qw, 0, none⟩) h.wl.lt] at h1) (by unfold holds at h2 ⊢; rwa [hb.cell (p := ⟨qd, 0, none⟩) h.dm.lt] at h2)⟩
theorem In.kept (h : In R B w q y qw qq qd c e) (hk : Kept [60, 79] w w') : In R B w' q y qw qq qd c e := by
  have k : ∀ {T : TypeId}, T ∉ [60, 79] → KeepC T w w' := fun hT g cs z hg => hk.block g _ _ _ hg hT
  have km : ∀ (b : Nat) es cl, w.heap[b]? = some (.map es cl) → w'.heap[b]? = some (.map es cl) := fun b es cl hb => hk.obj b _ hb (fun _ _ _ e => by cases e)
  have hcw : ∀ b, holds w' qw b → holds w qw b := fun b hb => by
    obtain ⟨_, m, h1, _⟩ := h.wl
    unfold holds at hb ⊢
    rwa [World.cell?_of_block (a := ⟨qw, 0, none⟩) ((k (by decide) _ _ _ h1).trans h1.symm)] at hb
  have hcd : ∀ b, holds w' qd b → holds w qd b := fun b hb => by
    obtain ⟨_, m, h1, _⟩ := h.dm
    unfold holds at hb ⊢
    rwa [World.cell?_of_block (a := ⟨qd, 0, none⟩) ((k (by decide) _ _ _ h1).trans h1.symm)] at hb
  exact ⟨h.ge, k (by decide) _ _ _ h.blk, rt_stays h.rt (k (by decide)), pw_stays h.wl (k (by decide)) (fun b es cl _ hb => km b es cl hb), pq_stays h.qu hk.size (k (by decide)) (k (by decide)), pd_stays h.dm (k (by decide)) (fun b es cl _ hb => km b es cl hb), fun b h1 h2 => h.apart b (hcw b h1) (hcd b h2)⟩
/-- Boxes of what is handed in. -/
abbrev theirs : List TypeId := [40, 38]
/-- What a step of a part leaves. -/
structure Moves (R : Nat → Prop) (B : Nat) (w : World) (q : Nat) (y : Value) (qw qq qd : Nat) (c : Cf) (e' : Eg) (w' : World) : Prop where
  inn : In R B w' q y qw qq qd c e'
  off : Off mine w w'
  below : Below B w w'
  rest : ∀ g cs z, R g → w.heap[g]? = some (.cells cs 77 z) → w'.heap[g]? = some (.cells cs 77 z)
  off2 : Off theirs w w'
theorem In.step_w (h : In R B w q y qw qq qd c e) (t : LeaseF.Turns B w qw L w') : Moves R B w q y qw qq qd c ⟨L, e.Q, e.D⟩ w' := by
  have k : ∀ {T : TypeId}, T ≠ 141 → KeepC T w w' := fun hT => keep_w h.wl t hT
  have hd : ∀ b, holds w' qd b → holds w qd b := fun b hb => by
    obtain ⟨_, m, h1, _⟩ := h.dm
    unfold holds at hb ⊢
    rwa [World.cell?_of_block (a := ⟨qd, 0, none⟩) ((k (by decide) _ _ _ h1).trans h1.symm)] at hb
  refine ⟨⟨h.ge, k (by decide) _ _ _ h.blk, rt_stays h.rt (k (by decide)), t.moved.pw, pq_stays h.qu t.moved.off.size (k (by decide)) (k (by decide)), pd_stays h.dm (k (by decide)) (fun b es cl hb hm => ?_), fun b h1 h2 => ?_⟩, ⟨t.moved.off.size, fun g cs T z hg ht => k (by rintro rfl; simp [mine] at ht) g cs z hg⟩, t.moved.below, fun g cs z _ hg => k (by decide) g cs z hg, ⟨t.moved.off.size, fun g cs T z hg ht => k (by rintro rfl; simp [theirs] at ht) g cs z hg⟩⟩
  · refine (t.rest b (lt_of_heap hm) ?_ ?_).trans hm
    · rintro rfl
      obtain ⟨_, m, h1, _⟩ := h.wl
      rw [hm] at h1
      cases h1
    · intro e
      exact h.apart b e hb
  · have h3 := hd b h2
    rcases t.fresh b h1 with h4 | h4
    · exact h.apart b h4 h3
    · obtain ⟨es, cl, h5⟩ := Md_map h.dm h3
      have := lt_of_heap h5
      omega
theorem In.step_d (h : In R B w q y qw qq qd c e) (t : DemandF.Turns B w qd D w') : Moves R B w q y qw qq qd c ⟨e.L, e.Q, D⟩ w' := by
  have k : ∀ {T : TypeId}, T ≠ 161 → KeepC T w w' := fun hT => keep_d h.dm t hT
  have hd : ∀ b, holds w' qw b → holds w qw b := fun b hb => by
    obtain ⟨_, m, h1, _⟩ := h.wl
    unfold holds at hb ⊢
    rwa [World.cell?_of_block (a := ⟨qw, 0, none⟩) ((k (by decide) _ _ _ h1).trans h1.symm)] at hb
  refine ⟨⟨h.ge, k (by decide) _ _ _ h.blk, rt_stays h.rt (k (by decide)), pw_stays h.wl (k (by decide)) (fun b es cl hb hm => ?_), pq_stays h.qu t.moved.off.size (k (by decide)) (k (by decide)), t.moved.pw, fun b h1 h2 => ?_⟩, ⟨t.moved.off.size, fun g cs T z hg ht => k (by rintro rfl; simp [mine] at ht) g cs z hg⟩, t.moved.below, fun g cs z _ hg => k (by decide) g cs z hg, ⟨t.moved.off.size, fun g cs T z hg ht => k (by rintro rfl; simp [theirs] at ht) g cs z hg⟩⟩
  · refine (t.rest b (lt_of_heap hm) ?_ ?_).trans hm
    · rintro rfl
      obtain ⟨_, m, h1, _⟩ := h.dm
      rw [hm] at h1
      cases h1
    · intro e
      exact h.apart b hb e
  · have h3 := hd b h1
    rcases t.fresh b h2 with h4 | h4
    · exact h.apart b h3 h4
    · obtain ⟨es, cl, h5⟩ := Mw_map h.wl h3
      have := lt_of_heap h5
      omega
theorem In.step_q (h : In R B w q y qw qq qd c e) (t : Queue.Moved Queue.Pq (fun g => notq w g ∨ R g) B w qq c.qu Q w') : Moves R B w q y qw qq qd c ⟨e.L, Q, e.D⟩ w' := by
  have k : ∀ {T : TypeId}, T ≠ 134 → T ≠ 77 → KeepC T w w' := fun h1 h2 => keep_q t h1 h2
  have hcw : ∀ b, holds w' qw b → holds w qw b := fun b hb => by
    obtain ⟨_, m, h1, _⟩ := h.wl
    unfold holds at hb ⊢
    rwa [World.cell?_of_block (a := ⟨qw, 0, none⟩) ((k (by decide) (by decide) _ _ _ h1).trans h1.symm)] at hb
  have hcd : ∀ b, holds w' qd b → holds w qd b := fun b hb => by
    obtain ⟨_, m, h1, _⟩ := h.dm
    unfold holds at hb ⊢
    rwa [World.cell?_of_block (a := ⟨qd, 0, none⟩) ((k (by decide) (by decide) _ _ _ h1).trans h1.symm)] at hb
  have hs : w.heap.size ≤ w'.heap.size := t.off.size
  refine ⟨⟨h.ge, k (by decide) (by decide) _ _ _ h.blk, rt_stays h.rt (k (by decide) (by decide)), pw_stays h.wl (k (by decide) (by decide)) (fun b es cl _ hm => keep_qm t hm), ?_, pd_stays h.dm (k (by decide) (by decide)) (fun b es cl _ hm => keep_qm t hm), fun b h1 h2 => h.apart b (hcw b h1) (hcd b h2)⟩, ⟨hs, fun g cs T z hg ht => k (by rintro rfl; simp [mine] at ht) (by rintro rfl; simp [mine] at ht) g cs z hg⟩, t.below, fun g cs z hr hg => (t.rest g (.inr hr) (lt_of_heap hg)).trans hg, ⟨hs, fun g cs T z hg ht => k (by rintro rfl; simp [theirs] at ht) (by rintro rfl; simp [theirs] at ht) g cs z hg⟩⟩
  obtain ⟨y, hy⟩ := t.pw
  exact ⟨y, hy.sub fun g hg => .inr hg⟩
theorem In.sub {F : Nat → Prop} (h : In R B w q y qw qq qd c e) (hF : ∀ g, F g → R g) : In F B w q y qw qq qd c e :=
  ⟨h.ge, h.blk, h.rt, h.wl, (by obtain ⟨y, hy⟩ := h.qu; exact ⟨y, hy.sub hF⟩), h.dm, h.apart⟩
/-- What is new is none of the queue's. -/
theorem In.grow (h : In R B w q y qw qq qd c e) (hb : Below w.heap.size w w') : In (fun g => R g ∨ w.heap.size ≤ g ∧ g < w'.heap.size) B w' q y qw qq qd c e := by
  have h' := h.below hb
  exact ⟨h'.ge, h'.blk, h'.rt, h'.wl, (by obtain ⟨y, hy⟩ := h.qu; exact ⟨y, hy.grow hb⟩), h'.dm, h'.apart⟩
end
end Go.Proofs.YtlbpeeelgpjciaaGreat.Edge

namespace Go.Proofs.YtlbpeeelgpjciaaGreat.Edge
open Go.RowKit
open _root_.Go.Proofs.YtlbpeeelgpjciaaGreat.Codec (lt_of_heap frozen_of heap_set below_new)
open _root_.Go.Proofs.YtlbpeeelgpjciaaGreat.Kit (Enc Lies At Kept Laid Off cell_on lt_heap take_snoc below_drewN own_keep)
open _root_.Go.Proofs.YtlbpeeelgpjciaaGreat.Lease (Lz Num)
open _root_.Go.Proofs.YtlbpeeelgpjciaaGreat.Queue (It)
open _root_.Go.Proofs.YtlbpeeelgpjciaaGreat.Demand (Nt)

section
variable {R : Nat → Prop} {B q qw qq qd : Nat} {w w' u : World} {y : Value} {c : Cf} {e e' e2 : Eg}
theorem Moves.trans (h : Moves R B w q y qw qq qd c e' w') (k : Moves R B w' q y qw qq qd c e2 u) : Moves R B w q y qw qq qd c e2 u := ⟨k.inn, h.off.trans k.off, h.below.trans k.below, fun g cs z hr hg => k.rest g cs z hr (h.rest g cs z hr hg), h.off2.trans k.off2⟩
theorem Moves.same (h : In R B w q y qw qq qd c e) (hB : B ≤ w.heap.size) (hb : Below w.heap.size w w') : Moves R B w q y qw qq qd c e w' := ⟨h.below hb, Off.of_below hb, hb.mono hB, fun g _ _ _ hg => (hb.block g (lt_of_heap hg)).trans hg, Off.of_below hb⟩
theorem Moves.on (h : Moves R B w q y qw qq qd c e' w') (hB : B ≤ w.heap.size) (hb : Below w'.heap.size w' u) : Moves R B w q y qw qq qd c e' u := h.trans (Moves.same h.inn (Nat.le_trans hB h.off.size) hb)
theorem eput (h : In R B w q y qw qq qd c e) (hB : B ≤ w.heap.size) (hg : Lease.Good e.L) (hl : e.L.length ≤ 100) (x : Lz) (hx : Lease.Nums x) :
    Calls Tryz.prog 47 #[.pointer (some ⟨qw, 0, none⟩), Lease.val x] w fun x' w' => x' = .returned (.int .i64 (Lease.put e.L x).2) ∧ Moves R B w q y qw qq qd c ⟨(Lease.put e.L x).1, e.Q, e.D⟩ w' :=
  (LeaseF.pput_any h.wl hB hg hl x hx.1).mono fun _ _ ⟨he, ht⟩ => ⟨he, h.step_w ht⟩
theorem espend (h : In R B w q y qw qq qd c e) (hB : B ≤ w.heap.size) (hg : Lease.Good e.L) (hl : e.L.length ≤ 150) {key cost now : Int} (hk : Num key) :
    Calls Tryz.prog 100 #[.pointer (some ⟨qw, 0, none⟩), .int .i64 key, .int .i64 cost, .int .i64 now] w fun x' w' => x' = .returned (.tuple #[.int .i64 (Lease.spend e.L key cost now).2.1, .bool (Lease.spend e.L key cost now).2.2]) ∧ Moves R B w q y qw qq qd c ⟨(Lease.spend e.L key cost now).1, e.Q, e.D⟩ w' :=
  (LeaseF.pspend_any h.wl hB hg hl hk).mono fun _ _ ⟨he, ht⟩ => ⟨he, h.step_w ht⟩
theorem eclose (h : In R B w q y qw qq qd c e) (hB : B ≤ w.heap.size) (hg : Lease.Good e.L) {key gen : Int} (hk : Num key) :
    Calls Tryz.prog 59 #[.pointer (some ⟨qw, 0, none⟩), .int .i64 key, .int .i64 gen] w fun x' w' => x' = .returned (.int .i64 (Lease.close e.L key gen).2) ∧ Moves R B w q y qw qq qd c ⟨(Lease.close e.L key gen).1, e.Q, e.D⟩ w' :=
  (LeaseF.pclose_any h.wl hB hg hk).mono fun _ _ ⟨he, ht⟩ => ⟨he, h.step_w ht⟩
theorem edrop (h : In R B w q y qw qq qd c e) (hB : B ≤ w.heap.size) (hl : e.L.length ≤ 100) (gen : Int) :
    Calls Tryz.prog 41 #[.pointer (some ⟨qw, 0, none⟩), .int .i64 gen] w fun x' w' => x' = .returned (.int .i64 (Lease.drop e.L gen).2) ∧ Moves R B w q y qw qq qd c ⟨(Lease.drop e.L gen).1, e.Q, e.D⟩ w' :=
  (LeaseF.pdrop_any h.wl hB hl gen).mono fun _ _ ⟨he, ht⟩ => ⟨he, h.step_w ht⟩
theorem enote (h : In R B w q y qw qq qd c e) (hB : B ≤ w.heap.size) (hl : e.D.length ≤ 200) {key spent : Int} (hk : Num key) :
    Calls Tryz.prog 60 #[.pointer (some ⟨qd, 0, none⟩), .int .i64 key, .int .i64 spent] w fun x' w' => x' = .returned (.int .i64 (Demand.of (e.D ++ [⟨key, spent⟩]) key)) ∧ Moves R B w q y qw qq qd c ⟨e.L, e.Q, e.D ++ [⟨key, spent⟩]⟩ w' :=
  (DemandF.pnote_any h.dm hB hl hk).mono fun _ _ ⟨he, ht⟩ => ⟨he, h.step_d ht⟩
theorem eputq (P : Queue.Way12 Queue.Pq) (h : In R B w q y qw qq qd c e) (hB : B ≤ w.heap.size) (hg : Queue.Good c.qu e.Q) (hl : e.Q.length ≤ 16) (x : It) (hx : Queue.Nums x) :
    Calls Tryz.prog 102 #[.pointer (some ⟨qq, 0, none⟩), Queue.val x] w fun x' w' => x' = .returned (.int .i64 (Queue.put c.qu e.Q x).2) ∧ Moves R B w q y qw qq qd c ⟨e.L, (Queue.put c.qu e.Q x).1, e.D⟩ w' :=
  (P.put (pq_notq h.qu) hB hg hl x hx).mono fun _ _ ⟨he, ht⟩ => ⟨he, h.step_q ht⟩
theorem etake (P : Queue.Way12 Queue.Pq) (h : In R B w q y qw qq qd c e) (hB : B ≤ w.heap.size) (hg : Queue.Good c.qu e.Q) (hl : e.Q.length ≤ 16) (id : Int) (hi : Queue.Num id) :
    Calls Tryz.prog 58 #[.pointer (some ⟨qq, 0, none⟩), .int .i64 id] w fun x' w' => x' = .returned (.tuple #[Queue.val (Queue.take e.Q id).2.1, .bool (Queue.take e.Q id).2.2]) ∧ Moves R B w q y qw qq qd c ⟨e.L, (Queue.take e.Q id).1, e.D⟩ w' :=
  (P.take (pq_notq h.qu) hB hg hl id hi).mono fun _ _ ⟨he, ht⟩ => ⟨he, h.step_q ht⟩
theorem eexpire (P : Queue.Way12 Queue.Pq) (h : In R B w q y qw qq qd c e) (hB : B ≤ w.heap.size) (hg : Queue.Good c.qu e.Q) (hl : e.Q.length ≤ 16) (now : Int) (hi : Queue.Num now) :
    Calls Tryz.prog 56 #[.pointer (some ⟨qq, 0, none⟩), .int .i64 now] w fun x' w' => ∃ p k, x' = .returned (.slice p (Queue.expire e.Q now).2.length k) ∧ Lies Queue.item w' p (Queue.expire e.Q now).2 ∧ Moves R B w q y qw qq qd c ⟨e.L, (Queue.expire e.Q now).1, e.D⟩ w' :=
  (P.expire (pq_notq h.qu) hB hg hl now hi).mono fun _ _ ⟨p, k, he, hl, ht⟩ => ⟨p, k, he, hl, h.step_q ht⟩
/-- The steps of Way14. -/
theorem Moves.moved {PW : Pw} (h : Moves R B w q y qw qq qd c e' w') (hp : In R B w' q y qw qq qd c e' → PW B w' q c e') : Moved PW B w q c e' w' := ⟨hp h.inn, h.off, h.below⟩
end
end Go.Proofs.YtlbpeeelgpjciaaGreat.Edge
