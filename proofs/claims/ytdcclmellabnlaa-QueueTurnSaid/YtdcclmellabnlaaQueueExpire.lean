/-
  The document's Expire, of any queue of up to 1000 items.
-/
import Derived.Test.YtdcclmellabnlaaQueueAt
import Derived.Test.YtdcclmellabnlaaKit2
namespace Go.Proofs.Ytdcclmellabnlaa.Queue
open Go.RowKit
open _root_.Go.Proofs.Ytdcclmellabnlaa.Codec (lt_of_heap frozen_of heap_set below_new)
open _root_.Go.Proofs.Ytdcclmellabnlaa.Kit (Enc Lies Own At Kept Laid Two cell_on lt_heap take_snoc below_drewN box5)

set_option maxRecDepth 100000 in
set_option maxHeartbeats 4000000 in
theorem rexpire_any {B v : Nat} {room : Int} {l : List It} {w : World} (h : Qu B w v room l) (hB : B ≤ w.heap.size) (hl : l.length ≤ 1000) (now : Int) :
    Calls Try.prog 25 #[.pointer (some ⟨v, 0, none⟩), .int .i64 now] w fun e w' => ∃ p c, e = .returned (.slice p (expire l now).2.length c) ∧ Lies item w' p (expire l now).2 ∧ Step B w v room (expire l now).1 w' := by
  have HV := Lib.hid h
  have HBB := Lib.hid hB
  have HE1 := Lib.hid (show (expire l now).1 = l.filter (fun x => !due now x) from rfl)
  have HE2 := Lib.hid (show (expire l now).2 = l.filter (due now) from rfl)
  have HD := Lib.hid (show due now = fun x => decide (x.til ≤ now) from rfl)
  generalize (expire l now).1 = R1 at *
  generalize (expire l now).2 = R2 at *
  generalize due now = D at *
  clear h hB
  go_enter Try.func25, Try.ntmps25
  go_wp2
  go_loopw [5, 6, 7] (fun y1 y2 k wr => ∃ (j : Nat) (p1 p2 : Option Addr) (d1 d2 n1 n2 : Nat), j ≤ l.length ∧ k = .int .i64 (j : Int) ∧ y1 = .slice p1 n1 d1 ∧ y2 = .slice p2 n2 d2 ∧ Hid (Two item 49 w.heap.size wr y1 y2 ((l.take j).filter D) ((l.take j).filter fun x => !D x)) ∧ Hid (((l.take j).filter D).length = n1 ∧ ((l.take j).filter fun x => !D x).length = n2) ∧ Hid (Below w.heap.size w wr)) (fun _ _ k _ => l.length - (intOf k).toNat)
  case atStart => exact ⟨0, none, none, 0, 0, 0, 0, by omega, rfl, rfl, rfl, Lib.hid (Two.none _ _ _ _), Lib.hid ⟨rfl, rfl⟩, Lib.hid (Below.refl _ _)⟩
  case round =>
    obtain ⟨j, p1, p2, d1, d2, n1, n2, hj, rfl, rfl, rfl, HT, HN, HB⟩ := hrel
    obtain ⟨q, cq, c1, hr, -⟩ := (HV.out.below HB.out).cell
    by_cases hlj : j < l.length
    · have hlj' : (j : Int) < (l.length : Int) := by omega
      obtain ⟨b, o, rfl, hat⟩ := lies_at hr hlj
      obtain ⟨k0, k1, k2, k3, k4⟩ := at5 hat
      have hn1 : n1 ≤ 1000 := by
        rw [← HN.out.1]
        exact Nat.le_trans (List.length_filter_le _ _) (by simp; omega)
      have hn2 : n2 ≤ 1000 := by
        rw [← HN.out.2]
        exact Nat.le_trans (List.length_filter_le _ _) (by simp; omega)
      have HY := Lib.hid (filter_yes (f := D) hlj)
      have HO := Lib.hid (filter_no (f := D) hlj)
      have HY2 := Lib.hid (filter_yes (f := fun x => !D x) hlj)
      have HO2 := Lib.hid (filter_no (f := fun x => !D x) hlj)
      have hdec : D (l.getD j z) = decide ((l.getD j z).til ≤ now) := by rw [HD.out]
      generalize l.getD j z = x at *
      generalize (l.take j).filter D = F1 at *
      generalize (l.take j).filter (fun x => !D x) = F2 at *
      clear hr hat
      obtain ⟨xi, xk, xc, xs, xt⟩ := x
      simp only at k0 k1 k2 k3 k4 hdec
      by_cases hx : xt ≤ now
      · have hd : D ⟨xi, xk, xc, xs, xt⟩ = true := by rw [hdec]; simp [hx]
        have E1 := Lib.hid (HY.out hd)
        have E2 := Lib.hid (HO2.out (by simp [hd]))
        clear hdec hd HY HO HY2 HO2
        go_wp2_with (at_builtin; refine Kit.push2 laidR rfl _ _ rfl w wr (.slice p1 n1 d1) (.slice p2 n2 d2) rfl F1 F2 n1 HN.out.1 HT.out HB.out ((Below.refl _ _).alloc (Nat.le_refl _) _) wr.heap.size ⟨xi, xk, xc, xs, xt⟩ rfl (heap_alloc_new _ _) (by omega) ?_; intro p4 c4 w4 R4 B4)
        go_roundw
        case rel => exact ⟨j + 1, p4, p2, c4, d2, n1 + 1, n2, by omega, by go_num, rfl, rfl, by rw [E1.out, E2.out]; exact R4, Lib.hid ⟨by rw [E1.out, List.length_append, HN.out.1]; rfl, by rw [E2.out]; exact HN.out.2⟩, Lib.hid B4⟩
        case measure => simp only [intOf]; omega
      · have hd : D ⟨xi, xk, xc, xs, xt⟩ = false := by rw [hdec]; simp; omega
        have E1 := Lib.hid (HO.out hd)
        have E2 := Lib.hid (HY2.out (by simp [hd]))
        clear hdec hd HY HO HY2 HO2
        go_wp2_with (at_builtin; refine Kit.push2 laidR rfl _ _ rfl w wr (.slice p2 n2 d2) (.slice p1 n1 d1) rfl F2 F1 n2 HN.out.2 HT.out.swap HB.out ((Below.refl _ _).alloc (Nat.le_refl _) _) wr.heap.size ⟨xi, xk, xc, xs, xt⟩ rfl (heap_alloc_new _ _) (by omega) ?_; intro p4 c4 w4 R4 B4)
        go_roundw
        case rel => exact ⟨j + 1, p1, p4, d1, c4, n1, n2 + 1, by omega, by go_num, rfl, rfl, by rw [E1.out, E2.out]; exact R4.swap, Lib.hid ⟨by rw [E1.out]; exact HN.out.1, by rw [E2.out, List.length_append, HN.out.2]; rfl⟩, Lib.hid B4⟩
        case measure => simp only [intOf]; omega
    · have hlj' : ¬ (j : Int) < (l.length : Int) := by omega
      rw [List.take_of_length_le (by omega), ← HE1.out, ← HE2.out] at HT HN
      obtain ⟨hn1, hn2⟩ := HN.out
      subst hn1
      have hown := HT.out.o1
      obtain ⟨f0, ⟨u0, k0⟩, DD⟩ := HV.out.store HBB.out HB.out HT.out.o2
      have HF := Lib.hid (fun u => Kit.Own.set (o := 1) (u := u) hown HV.out.lt)
      clear hr hown hn2
      go_wp2
      obtain ⟨q', d', hq, hlies⟩ := (HF.out _).lies
      simp only [Value.slice.injEq] at hq
      obtain ⟨rfl, -, rfl⟩ := hq
      have HQ := Lib.hid hlies
      clear hlies
      refine bodyPost_ret (v := .slice p1 R2.length d1) (by simp [results, Try.results25, go_sem]) rfl ⟨p1, ⟨d1, rfl⟩, HQ.out, DD.out⟩
end Go.Proofs.Ytdcclmellabnlaa.Queue
