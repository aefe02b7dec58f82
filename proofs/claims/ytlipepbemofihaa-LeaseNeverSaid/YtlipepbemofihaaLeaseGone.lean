/-
  The document's gone, of any wallet of up to 1000 leases and any place in it.
-/
import Derived.Test.YtlipepbemofihaaLeaseAt
namespace Go.Proofs.Ytlipepbemofihaa.Lease
open Go.RowKit
open _root_.Go.Proofs.Ytlipepbemofihaa.Codec (lt_of_heap frozen_of heap_set below_new)

theorem take_snoc {l : List Lz} {j : Nat} (h : j < l.length) : l.take (j + 1) = l.take j ++ [l.getD j z] := by
  rw [List.take_add_one]
  simp [List.getD, h]
/-- What is kept of the first j. -/
theorem erase_at {l : List Lz} {i j : Nat} (h : j < l.length) (e : j = i) : (l.take (j + 1)).eraseIdx i = (l.take j).eraseIdx i := by
  subst e
  have hl : (l.take j).length = j := by simp; omega
  rw [take_snoc h, List.eraseIdx_append_of_length_le (by omega), hl, Nat.sub_self, List.eraseIdx_of_length_le (l := l.take j) (by omega)]
  simp
theorem erase_not {l : List Lz} {i j : Nat} (h : j < l.length) (e : j ≠ i) : (l.take (j + 1)).eraseIdx i = (l.take j).eraseIdx i ++ [l.getD j z] := by
  have hl : (l.take j).length = j := by simp; omega
  rw [take_snoc h]
  by_cases hij : i < j
  · rw [List.eraseIdx_append_of_lt_length (by omega)]
  · rw [List.eraseIdx_append_of_length_le (by omega), hl, List.eraseIdx_of_length_le (l := l.take j) (by omega), List.eraseIdx_of_length_le (by simp; omega)]

set_option maxRecDepth 100000 in
set_option maxHeartbeats 4000000 in
theorem rgone_any {B v : Nat} {l : List Lz} {w : World} (h : Wl B w v l) (hB : B ≤ w.heap.size) (hl : l.length ≤ 1000) (i : Nat) :
    Calls Try.prog 31 #[.pointer (some ⟨v, 0, none⟩), .int .i64 (i : Int)] w fun e w' => e = .returned (.tuple #[]) ∧ Step B w v (l.eraseIdx i) w' := by
  have HV := Lib.hid h
  have HBB := Lib.hid hB
  clear h hB
  go_enter Try.func31, Try.ntmps31
  go_wp2
  go_loopw [4, 5] (fun y k wr => ∃ (j : Nat) (p : Option Addr) (c n : Nat), j ≤ l.length ∧ k = .int .i64 (j : Int) ∧ y = .slice p n c ∧ Hid (Own 52 w.heap.size wr y ((l.take j).eraseIdx i)) ∧ Hid (((l.take j).eraseIdx i).length = n) ∧ Below w.heap.size w wr) (fun _ k _ => l.length - (intOf k).toNat)
  case atStart => exact ⟨0, none, 0, 0, by omega, rfl, rfl, Own.none _ _ _, Lib.hid (by simp), Below.refl _ _⟩
  case round =>
    obtain ⟨j, p, c, n, hj, rfl, rfl, hown, hn, hbw⟩ := hrel
    obtain ⟨q, cq, c1, hr⟩ := (HV.out.below hbw).cell
    have HR := Lib.hid hr
    have HBW := Lib.hid hbw
    clear hr hbw
    by_cases hlt : j < l.length
    · obtain ⟨b, o, rfl, k0, k1, k2, k3, k4⟩ := lies_at HR.out hlt
      have hlt' : (j : Int) < (l.length : Int) := by omega
      by_cases hk : j = i
      · have HE := Lib.hid (erase_at hlt hk)
        have hk' : ((j : Int) != (i : Int)) = false := by simp [hk]
        clear k0 k1 k2 k3 k4 HR hk
        go_wp2
        go_roundw
        case rel => exact ⟨j + 1, p, c, n, by omega, by go_num, rfl, by rw [HE.out]; exact hown, by rw [HE.out]; exact hn, HBW.out⟩
        case measure => simp [intOf]; omega
      · have HE := Lib.hid (erase_not hlt hk)
        have hk' : ((j : Int) != (i : Int)) = true := by simp; omega
        have hn1 : ((l.take j).eraseIdx i).length ≤ 1000 := Nat.le_trans (List.eraseIdx_sublist _ _).length_le (by simp; omega)
        have hn2 : n ≤ 1000 := hn.out ▸ hn1
        clear hn1
        generalize hx : l.getD j z = x at k0 k1 k2 k3 k4 HE
        generalize (l.take j).eraseIdx i = L at *
        obtain ⟨xk, xg, xa, xs, xt⟩ := x
        simp only at k0 k1 k2 k3 k4
        clear HR hk hx
        go_wp2_with (at_builtin; refine push_lease rfl (.tmp 18) (.tmp 26) rfl w wr (.slice p n c) rfl L n hn.out hown.out HBW.out (Below.refl _ _) wr.heap.size ⟨xk, xg, xa, xs, xt⟩ rfl (heap_alloc_new _ _) (by omega) ?_; intro p4 c4 w4 R4 B4)
        go_roundw
        case rel => exact ⟨j + 1, p4, c4, n + 1, by omega, by go_num, rfl, by rw [HE.out]; exact R4, Lib.hid (by rw [HE.out]; simp [hn.out]), B4⟩
        case measure => simp [intOf]; omega
    · have hlt' : ¬ (j : Int) < (l.length : Int) := by omega
      have HO := Lib.hid (show Own 52 w.heap.size wr (.slice p n c) (l.eraseIdx i) by have := hown.out; rwa [List.take_of_length_le (by omega)] at this)
      obtain ⟨f0, ⟨u0, d0⟩, D⟩ := HV.out.store HBB.out HBW.out HO.out
      clear HR hown hn HO HV
      go_wp2
      go_end0
      exact ⟨rfl, D.out⟩
end Go.Proofs.Ytlipepbemofihaa.Lease
