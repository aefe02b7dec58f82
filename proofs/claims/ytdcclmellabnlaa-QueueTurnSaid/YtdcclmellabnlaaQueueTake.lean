/-
  The document's Take, of any queue of up to 1000 items.
-/
import Derived.Test.YtdcclmellabnlaaQueueAt
import Derived.Test.YtdcclmellabnlaaKit2
namespace Go.Proofs.Ytdcclmellabnlaa.Queue
open Go.RowKit
open _root_.Go.Proofs.Ytdcclmellabnlaa.Codec (lt_of_heap frozen_of heap_set below_new)
open _root_.Go.Proofs.Ytdcclmellabnlaa.Kit (Enc Lies Own At Kept Laid cell_on lt_heap take_snoc below_drewN box5)

/-- What is kept of the first j. -/
theorem erase_at {l : List It} {i j : Nat} (h : j < l.length) (e : j = i) : (l.take (j + 1)).eraseIdx i = (l.take j).eraseIdx i := by
  subst e
  have hl : (l.take j).length = j := by simp; omega
  rw [take_snoc z h, List.eraseIdx_append_of_length_le (by omega), hl, Nat.sub_self, List.eraseIdx_of_length_le (l := l.take j) (by omega)]
  simp
theorem erase_not {l : List It} {i j : Nat} (h : j < l.length) (e : j ≠ i) : (l.take (j + 1)).eraseIdx i = (l.take j).eraseIdx i ++ [l.getD j z] := by
  have hl : (l.take j).length = j := by simp; omega
  rw [take_snoc z h]
  by_cases hij : i < j
  · rw [List.eraseIdx_append_of_lt_length (by omega)]
  · rw [List.eraseIdx_append_of_length_le (by omega), hl, List.eraseIdx_of_length_le (l := l.take j) (by omega), List.eraseIdx_of_length_le (by simp; omega)]
set_option maxRecDepth 100000 in
set_option maxHeartbeats 4000000 in
theorem rtake_no {B v : Nat} {room : Int} {l : List It} {w : World} (h : Qu B w v room l) (hB : B ≤ w.heap.size) (hl : l.length ≤ 1000) (id : Int) (hp : place l id < 0) :
    Calls Try.prog 24 #[.pointer (some ⟨v, 0, none⟩), .int .i64 id] w fun e w' => e = .returned (.tuple #[val z, .bool false]) ∧ Step B w v room l w' := by
  have HS := Lib.hid (fun u (hu : Below w.heap.size w u) => Step.same h hB hu)
  have HB := Lib.hid ((Below.refl w.heap.size w).alloc (Nat.le_refl _) (.cells #[.int .i64 0, .int .i64 0, .int .i64 0, .int .i64 0, .int .i64 0] 49))
  have HK := Lib.hid (heap_alloc_new w (.cells #[.int .i64 0, .int .i64 0, .int .i64 0, .int .i64 0, .int .i64 0] 49))
  have HA := rat_any (h.below HB.out) hl id
  generalize place l id = P at *
  clear h
  go_enter Try.func24, Try.ntmps24
  go_wp2_with (go_at_call 43; (with_reducible refine HA.mono ?_); rintro e w1 ⟨rfl, hb⟩; have HB1 := Lib.hid (HB.out.trans (hb.mono HB.out.size)); have hk1 := (hb.block _ (lt_of_heap HK.out)).trans HK.out; obtain ⟨b0, b1, b2, b3, b4⟩ := box5 hk1; obtain ⟨f0, f1, f2, f3, f4⟩ := Kit.frozen5 hk1; have HK1 := Lib.hid hk1; clear hb HA hk1)
  rw [show ((((w1.setCell ⟨w.heap.size, 0, none⟩ (.int .i64 0)).setCell ⟨w.heap.size, 1, none⟩ (.int .i64 0)).setCell ⟨w.heap.size, 2, none⟩ (.int .i64 0)).setCell ⟨w.heap.size, 3, none⟩ (.int .i64 0)).setCell ⟨w.heap.size, 4, none⟩ (.int .i64 0) = set5 w1 w.heap.size z from rfl]
  obtain ⟨e0, e1, e2, e3, e4⟩ := box5 (set5_block HK1.out z)
  have HB2 := Lib.hid (set5_below HB1.out (Nat.le_refl _) z)
  generalize set5 w1 w.heap.size z = w2 at *
  simp only [z] at e0 e1 e2 e3 e4
  refine bodyPost_ret (v := .tuple #[val z, .bool false]) (by simp [results, Try.results24, go_sem, val, z, e0, e1, e2, e3, e4]) rfl ⟨rfl, HS.out _ HB2.out⟩
set_option maxRecDepth 100000 in
set_option maxHeartbeats 4000000 in
theorem rtake_ok {B v : Nat} {room : Int} {l : List It} {w : World} (h : Qu B w v room l) (hB : B ≤ w.heap.size) (hl : l.length ≤ 1000) (id : Int) (i : Nat) (hp : place l id = (i : Int)) (hi : i < l.length) :
    Calls Try.prog 24 #[.pointer (some ⟨v, 0, none⟩), .int .i64 id] w fun e w' => e = .returned (.tuple #[val (l.getD i z), .bool true]) ∧ Step B w v room (l.eraseIdx i) w' := by
  have HV := Lib.hid h
  have HBB := Lib.hid hB
  have HB := Lib.hid ((Below.refl w.heap.size w).alloc (Nat.le_refl _) (.cells #[.int .i64 0, .int .i64 0, .int .i64 0, .int .i64 0, .int .i64 0] 49))
  have HK := Lib.hid (heap_alloc_new w (.cells #[.int .i64 0, .int .i64 0, .int .i64 0, .int .i64 0, .int .i64 0] 49))
  have HA := rat_any (h.below HB.out) hl id
  rw [hp] at HA
  have hi' : (i : Int) < (l.length : Int) := by omega
  have hvw := h.lt
  have HAT := Lib.hid (fun (u : World) (p : Option Addr) (hr : Lies item u p l) => lies_at hr hi)
  generalize l.getD i z = X at HAT ⊢
  obtain ⟨Xi, Xk, Xc, Xs, Xt⟩ := X
  clear h hp hB
  go_enter Try.func24, Try.ntmps24
  go_wp2_with (go_at_call 43; (with_reducible refine HA.mono ?_); rintro e w1 ⟨rfl, hb⟩; have HB1 := Lib.hid (HB.out.trans (hb.mono HB.out.size)); have HK1 := Lib.hid ((hb.block _ (lt_of_heap HK.out)).trans HK.out); obtain ⟨p, c, c1, hr, -, -⟩ := (HV.out.below HB1.out).cell; have HR := Lib.hid hr; obtain ⟨b, o, rfl, hat⟩ := HAT.out _ _ hr; obtain ⟨k0, k1, k2, k3, k4⟩ := at5 hat; clear hb HA hr hat)
  have HK2 := Lib.hid (heap_alloc_new w1 (.cells #[.int .i64 Xi, .int .i64 Xk, .int .i64 Xc, .int .i64 Xs, .int .i64 Xt] 49))
  have hb2 := (Below.refl w1.heap.size w1).alloc (Nat.le_refl _) (.cells #[.int .i64 Xi, .int .i64 Xk, .int .i64 Xc, .int .i64 Xs, .int .i64 Xt] 49)
  have hw1 := lt_of_heap HK1.out
  have hw2 := lt_of_heap HK2.out
  have HKR := Lib.hid ((hb2.block _ hw1).trans HK1.out)
  have HB2 := Lib.hid (HB1.out.trans (hb2.mono HB1.out.size))
  generalize w1.alloc (.cells #[.int .i64 Xi, .int .i64 Xk, .int .i64 Xc, .int .i64 Xs, .int .i64 Xt] 49) = w2 at *
  have ne1 : ¬ (v = w1.heap.size) := by omega
  have ne2 : ¬ (w1.heap.size = v) := by omega
  have ne3 : ¬ (v = w.heap.size) := by omega
  have ne4 : ¬ (w.heap.size = v) := by omega
  have ne5 : ¬ (w.heap.size = w1.heap.size) := by omega
  have ne6 : ¬ (w1.heap.size = w.heap.size) := by omega
  clear k0 k1 k2 k3 k4 c1 HR hb2 HK HB
  go_loopw [8, 9] (fun y k wr => ∃ (j : Nat) (p : Option Addr) (c n : Nat), j ≤ l.length ∧ k = .int .i64 (j : Int) ∧ y = .slice p n c ∧ Hid (Own item 49 w2.heap.size wr y ((l.take j).eraseIdx i)) ∧ Hid (((l.take j).eraseIdx i).length = n) ∧ Below w2.heap.size w2 wr) (fun _ k _ => l.length - (intOf k).toNat)
  case atStart => exact ⟨0, none, 0, 0, by omega, rfl, rfl, Own.none _ _ _ _, Lib.hid (by simp), Below.refl _ _⟩
  case round =>
    obtain ⟨j, p, c, n, hj, rfl, rfl, hown, hn, hbw⟩ := hrel
    obtain ⟨q, cq, c1, hr, -, -⟩ := ((HV.out.below HB2.out).below hbw).cell
    have HR := Lib.hid hr
    have HBW := Lib.hid hbw
    clear hr hbw
    by_cases hlt : j < l.length
    · obtain ⟨b', o', rfl, hat⟩ := lies_at HR.out hlt
      obtain ⟨k0, k1, k2, k3, k4⟩ := at5 hat
      have hlt' : (j : Int) < (l.length : Int) := by omega
      clear hat
      by_cases hk : j = i
      · have HE := Lib.hid (erase_at hlt hk)
        have hk' : ((j : Int) != (i : Int)) = false := by simp [hk]
        clear k0 k1 k2 k3 k4 HR hk
        go_wp2
        go_roundw
        case rel => exact ⟨j + 1, p, c, n, by omega, by go_num, rfl, by rw [HE.out]; exact hown, by rw [HE.out]; exact hn, HBW.out⟩
        case measure => simp only [intOf]; omega
      · have HE := Lib.hid (erase_not hlt hk)
        have hk' : ((j : Int) != (i : Int)) = true := by simp; omega
        have hn1 : ((l.take j).eraseIdx i).length ≤ 1000 := Nat.le_trans (List.eraseIdx_sublist _ _).length_le (by simp; omega)
        have hn2 : n ≤ 1000 := hn.out ▸ hn1
        clear hn1
        generalize l.getD j z = x at k0 k1 k2 k3 k4 HE
        generalize (l.take j).eraseIdx i = L at *
        obtain ⟨xi, xk, xc, xs, xt⟩ := x
        simp only at k0 k1 k2 k3 k4
        clear HR hk
        go_wp2_with (at_builtin; refine Kit.push laidR rfl _ _ rfl w2 wr (.slice p n c) rfl L n hn.out hown.out HBW.out ((Below.refl _ _).alloc (Nat.le_refl _) _) wr.heap.size ⟨xi, xk, xc, xs, xt⟩ rfl (heap_alloc_new _ _) (by omega) ?_; intro p4 c4 w4 R4 B4)
        go_roundw
        case rel => exact ⟨j + 1, p4, c4, n + 1, by omega, by go_num, rfl, by rw [HE.out]; exact R4, Lib.hid (by rw [HE.out]; simp [hn.out]), B4⟩
        case measure => simp only [intOf]; omega
    · have hlt' : ¬ (j : Int) < (l.length : Int) := by omega
      have HO := Lib.hid (show Own item 49 w2.heap.size wr (.slice p n c) (l.eraseIdx i) by have := hown.out; rwa [List.take_of_length_le (by omega)] at this)
      obtain ⟨f0, -, -⟩ := (HV.out.below HB2.out).store (Nat.le_trans HBB.out HB2.out.size) HBW.out HO.out
      have hkx := (HBW.out.block _ hw2).trans HK2.out
      obtain ⟨x0, x1, x2, x3, x4⟩ := box5 hkx
      have hkr := (HBW.out.block _ (Nat.lt_trans hw1 hw2)).trans HKR.out
      have HR2 := Lib.hid ((Below.heap_setCell wr ⟨v, 1, none⟩ (.slice p n c) _ ne4).trans hkr)
      obtain ⟨b0, b1, b2, b3, b4⟩ := box5 hkr
      obtain ⟨g0, g1, g2, g3, g4⟩ := Kit.frozen5 hkr
      have DD := Lib.hid (HV.out.store5 HBB.out (HB2.out.trans (HBW.out.mono HB2.out.size)) (Nat.le_refl w.heap.size) (Nat.lt_trans hw1 hw2) HO.out ⟨Xi, Xk, Xc, Xs, Xt⟩)
      clear HR hown hn HO hkx hkr
      go_wp2
      rw [show (((((wr.setCell ⟨v, 1, none⟩ (.slice p n c)).setCell ⟨w.heap.size, 0, none⟩ (.int .i64 Xi)).setCell ⟨w.heap.size, 1, none⟩ (.int .i64 Xk)).setCell ⟨w.heap.size, 2, none⟩ (.int .i64 Xc)).setCell ⟨w.heap.size, 3, none⟩ (.int .i64 Xs)).setCell ⟨w.heap.size, 4, none⟩ (.int .i64 Xt) = set5 (wr.setCell ⟨v, 1, none⟩ (.slice p n c)) w.heap.size ⟨Xi, Xk, Xc, Xs, Xt⟩ from rfl]
      obtain ⟨e0, e1, e2, e3, e4⟩ := box5 (set5_block HR2.out ⟨Xi, Xk, Xc, Xs, Xt⟩)
      generalize set5 (wr.setCell ⟨v, 1, none⟩ (.slice p n c)) w.heap.size ⟨Xi, Xk, Xc, Xs, Xt⟩ = w5 at *
      refine bodyPost_ret (v := .tuple #[val ⟨Xi, Xk, Xc, Xs, Xt⟩, .bool true]) (by simp [results, Try.results24, go_sem, val, e0, e1, e2, e3, e4]) rfl ⟨rfl, DD.out⟩
theorem rtake_any {B v : Nat} {room : Int} {l : List It} {w : World} (h : Qu B w v room l) (hB : B ≤ w.heap.size) (hl : l.length ≤ 1000) (id : Int) :
    Calls Try.prog 24 #[.pointer (some ⟨v, 0, none⟩), .int .i64 id] w fun e w' => e = .returned (.tuple #[val (take l id).2.1, .bool (take l id).2.2]) ∧ Step B w v room (take l id).1 w' := by
  unfold take
  split
  · rename_i hp
    exact rtake_no h hB hl id hp
  · rename_i hp
    obtain ⟨h1, h2, h3⟩ := place_some (l := l) (k := id) (by omega)
    exact rtake_ok h hB hl id (place l id).toNat (by omega) h1
end Go.Proofs.Ytdcclmellabnlaa.Queue
