/-
  ViewSilent returns true of up to 100 hearings, whatever the program's view is, if its calls do what is asked of them.
-/
import Derived.Test.YtgbenfdffhcjiaaViewSilent
import Derived.Test.YtgbenfdffhcjiaaRingWalks
import Derived.Deep.QuietTactic
import Derived.BigQuiet
namespace Go.Proofs.Ytgbenfdffhcjiaa.View
open Go.RowKit
open _root_.Go.Proofs.Ytgbenfdffhcjiaa.Codec (lt_of_heap frozen_of heap_set below_new own_below)
open _root_.Go.Proofs.Ytgbenfdffhcjiaa.Kit (Enc Lies Own At Kept Laid Off cell_on lt_heap take_snoc below_drewN ints)

/-- The greatest readings, in an array. -/
def arr (V : Vw) : Array Value := ((List.range 64).map fun k => Value.int .i64 (V.l.getD k 0)).toArray
theorem arr_at (V : Vw) {k : Nat} (hk : k < 64) : (arr V)[k]? = some (.int .i64 (V.l.getD k 0)) := by simp [arr, hk]
theorem arr_zero {V : Vw} (h : ∀ k : Nat, V.l.getD k 0 = 0) : arr V = ((List.range 64).map fun _ => Value.int .i64 0).toArray := by
  unfold arr
  congr 1
  exact List.map_congr_left fun k _ => by rw [h k]
theorem start_zero (n node span : Int) (k : Nat) : (start n node span 0).l.getD k 0 = 0 := by
  simp only [start, List.getD]
  by_cases hk : k < n.toNat
  · simp [hk]
  · simp [hk]
/-- A view, and the array of what was heard. -/
structure Sst (PW : Pw) (W : World) (q b : Nat) (V A : Vw) (u : World) : Prop where
  pw : PW (fun g => g < W.heap.size ∨ g = b) W.heap.size u q V
  arr : u.heap[b]? = some (.cells (arr A) 48 (0, 0))
  low : W.heap.size ≤ b
  below : Below W.heap.size W u
section
variable {PW : Pw} {W u u' : World} {q b : Nat} {V V' A : Vw}
theorem Sst.on (P : Way16 PW) (h : Sst PW W q b V A u) (hb : Below u.heap.size u u') : Sst PW W q b V A u' := ⟨P.below h.pw hb, (hb.block b (lt_heap h.arr)).trans h.arr, h.low, h.below.trans (hb.mono h.below.size)⟩
theorem Sst.own (h : Sst PW W q b V A u) (hm : Moved PW (fun g => g < W.heap.size ∨ g = b) W.heap.size u q V' u') : Sst PW W q b V' A u' := ⟨hm.pw, (hm.rest.same b (.inr rfl) (lt_heap h.arr)).trans h.arr, h.low, h.below.trans hm.below⟩
theorem Sst.cell (h : Sst PW W q b V A u) {k : Nat} (hk : k < 64) : u.cell? ⟨b, k, none⟩ = some (.int .i64 (A.l.getD k 0)) ∧ u.frozen? ⟨b, k, none⟩ = false := ⟨by rw [cell_of_row u b k _ _ (0, 0) h.arr, arr_at A hk], frozen_of h.arr⟩
/-- A greater reading is noted. -/
theorem Sst.note (P : Way16 PW) {n : Nat} (h : Sst PW W q b V A u) (hA : A.l.length = n) {i : Nat} (hi : i < n) (hn : n ≤ 64) (x : Int) : Sst PW W q b V (hear A (i : Int) x) (u.setCell ⟨b, i, none⟩ (.int .i64 (if A.l.getD i 0 < x then x else A.l.getD i 0))) := by
  refine ⟨P.turned h.pw (Spare.set (.inr rfl) _) (fun g hg => .inl hg), ?_, h.low, h.below.setCell (p := ⟨b, i, none⟩) h.low _⟩
  rw [heap_set b i _ _ h.arr]
  congr 2
  apply Array.ext'
  apply List.ext_getElem?
  intro k
  simp only [View.arr, List.setIfInBounds_toArray, List.getElem?_set, List.length_map, List.length_range, List.getElem?_map]
  by_cases hk : k < 64
  · by_cases e : i = k
    · subst e
      have hm := hear_max (V := A) (x := x) (by omega : i < A.l.length) i
      rw [if_pos rfl] at hm
      simp only [List.getD_eq_getElem?_getD] at hm
      simp [hk, hm]
    · have hm := hear_max (V := A) (x := x) (by omega : i < A.l.length) k
      rw [if_neg (fun h => e h.symm)] at hm
      simp only [List.getD_eq_getElem?_getD] at hm
      simp [hk, hm, e]
  · have e : i ≠ k := by omega
    simp [hk, e]
end
set_option maxRecDepth 100000 in
set_option maxHeartbeats 8000000 in
theorem silent_few {PW : Pw} (P : Way16 PW) (W : World) (size : Int) (hz : 0 ≤ size ∧ size ≤ 255) (p : Option Addr) (c : Nat) (l : List Int) (ha : Lies words W p l) (hn : ∀ x ∈ l, 0 ≤ x ∧ x ≤ 4294967295) (hl : l.length ≤ 100) (a0 a1 a2 : Int) (h0 : 0 ≤ a0 ∧ a0 ≤ 4294967295) (h1 : 0 ≤ a1 ∧ a1 ≤ 4294967295) (h2 : 0 ≤ a2 ∧ a2 ≤ 4294967295) :
    Calls Try.prog 4 #[.int .u8 size, .slice p l.length c, .agg #[.int .u32 a0, .int .u32 a1, .int .u32 a2]] W fun e w' => e = .returned (.bool true) ∧ Below W.heap.size W w' := by
  have hl' : ¬ (100 : Int) < (l.length : Int) := by omega
  have B0 := Lib.hid (lay W (.cells #[.int .u32 a0, .int .u32 a1, .int .u32 a2] 47))
  have HAT := Lib.hid (ha.below B0.out)
  have ca := Lib.hid (fun u => alive_way P u)
  have HP := Lib.hid P
  have SH := Lib.hid (fun (n nd : Int) (j : Nat) => small_hears n (l.take j) (start n nd a1 0) (small_start n nd a1) (fun x hx => hn x (List.mem_of_mem_take hx)))
  have SS := Lib.hid (fun (n nd : Int) (j : Nat) (hj : j < l.length) => show hears n (start n nd a1 0) (l.take (j + 1)) = hear (hears n (start n nd a1 0) (l.take j)) (l.getD j 0 % n) (l.getD j 0 / 64) by rw [take_snoc 0 hj, hears_snoc])
  have SL := Lib.hid (fun (n nd : Int) (j : Nat) => (hears_len n (l.take j) (start n nd a1 0)).trans (start_len n nd a1 0))
  have SN := Lib.hid (fun (n nd : Int) (j : Nat) => hears_same n (l.take j) (start n nd a1 0))
  have HNX := Lib.hid (fun (j : Nat) (hj : j < l.length) => hn (l.getD j 0) (by simp [List.getD, hj]))
  obtain ⟨z0, z1⟩ := hz
  obtain ⟨h00, h01⟩ := h0
  obtain ⟨h10, h11⟩ := h1
  obtain ⟨h20, h21⟩ := h2
  have c0 := fun (n nd : Int) u (h1 : 1 ≤ n ∧ n ≤ 64) (h2 : 0 ≤ nd ∧ nd < n) => P.new n nd a1 0 u (okNew_iff.2 ⟨h1, h2⟩) (by unfold Num; omega) (by unfold Num; omega)
  clear ha hn P
  go_enter Try.func4, Try.ntmps4
  go_wp2_with (go_at_call 6; have hn1 : 1 ≤ size % 64 + 1 ∧ size % 64 + 1 ≤ 64 := (by omega); have hd1 : 0 ≤ a0 % (size % 64 + 1) ∧ a0 % (size % 64 + 1) < size % 64 + 1 := ⟨Int.emod_nonneg _ (by omega), Int.emod_lt_of_pos _ (by omega)⟩; generalize size % 64 + 1 = n at *; generalize a0 % n = nd at *; (with_reducible refine (c0 n nd _ hn1 hd1).mono ?_); rintro e u0 ⟨q, rfl, h0, hb⟩; have H0 := Lib.hid h0; have HB0 := Lib.hid hb; clear h0 hb c0)
  generalize W.alloc (.cells #[.int .u32 a0, .int .u32 a1, .int .u32 a2] 47) = W1 at *
  have hA := arr_zero (start_zero n nd a1)
  generalize hO : Obj.cells _ 48 = O
  have HO := Lib.hid (show O = Obj.cells (arr (start n nd a1 0)) 48 by rw [hA, ← hO]; rfl)
  clear hA hO
  have L0 := Lib.hid (show Sst PW W1 q u0.heap.size (hears n (start n nd a1 0) (l.take 0)) (hears n (start n nd a1 0) (l.take 0)) (u0.alloc O) from ⟨HP.out.turned H0.out (.of_below (lay u0 O)) (fun g hg => hg.imp id fun e => by omega), (heap_alloc_new u0 O).trans (by rw [HO.out]; rfl), HB0.out.size, HB0.out.alloc HB0.out.size O⟩)
  clear H0 HO
  generalize u0.alloc O = w2 at *
  generalize u0.heap.size = b0 at *
  clear HB0
  have RH := Lib.hid (fun u V A i x (h : Sst PW W1 q b0 V A u) (hi : Num i) (hx : Num x) => (HP.out.hear h.pw h.below.size i x hi hx).mono (R' := fun e w' => e = .returned (.tuple #[]) ∧ Sst PW W1 q b0 (hear V i x) A w') fun e w' ⟨he, hm⟩ => ⟨he, h.own hm⟩)
  have SS1 := Lib.hid (SS.out n nd)
  have SL1 := Lib.hid (SL.out n nd)
  have SH1 := Lib.hid (SH.out n nd)
  have SN1 := Lib.hid (SN.out n nd)
  clear SS SL SH SN
  generalize hRS : (fun j => hears n (start n nd a1 0) (l.take j)) = RS
  have hRS' : ∀ j, hears n (start n nd a1 0) (l.take j) = RS j := fun j => by rw [← hRS]
  simp only [hRS'] at SS1 SL1 SH1 SN1 L0
  clear hRS hRS'
  obtain ⟨hn0, hn2⟩ := hn1
  obtain ⟨hd0, hd2⟩ := hd1
  go_loopw [14] (fun i wr => ∃ j : Nat, j ≤ l.length ∧ i = .int .i64 (j : Int) ∧ Hid (Sst PW W1 q b0 (RS j) (RS j) wr)) (fun i _ => l.length - (intOf i).toNat)
  case atStart => exact ⟨0, by omega, rfl, L0⟩
  case round =>
    obtain ⟨j, hj, rfl, L1⟩ := hrel
    clear L0
    by_cases hlt : j < l.length
    · have hlt' : (j : Int) < (l.length : Int) := by omega
      obtain ⟨b, o, rfl, ka⟩ := word_at HAT.out hlt
      have KX := Lib.hid (fun u (hu : Below W1.heap.size W1 u) => cell_on ka hu)
      obtain ⟨x0, x1⟩ := HNX.out j hlt
      have hst := SS1.out j hlt
      have hlen := SL1.out j
      generalize l.getD j 0 = x at *
      have ka1 := KX.out _ L1.out.below
      have m0 : 0 ≤ x % n := Int.emod_nonneg _ (by omega)
      have m1 : x % n < n := Int.emod_lt_of_pos _ (by omega)
      have m2 : 0 ≤ x / 64 := Int.ediv_nonneg (by omega) (by omega)
      have m3 : x / 64 ≤ 4294967295 := Int.le_trans (Int.ediv_le_self 64 x0) x1
      have m4 : (x % n).toNat < 64 := by omega
      have e4 : (((x % n).toNat : Nat) : Int) = x % n := by omega
      have RH1 := Lib.hid (fun u (h : Sst PW W1 q b0 (RS j) (RS j) u) => RH.out u (RS j) (RS j) (x % n) (x / 64) h (by unfold Num; omega) (by unfold Num; omega))
      have HNT := Lib.hid (fun u (h : Sst PW W1 q b0 (hear (RS j) (x % n) (x / 64)) (RS j) u) => (h.note HP.out hlen (by omega : (x % n).toNat < n.toNat) (by omega) (x / 64)))
      rw [e4, ← hst] at HNT
      rw [← hst] at RH1
      have HC := Lib.hid (fun u (h : Sst PW W1 q b0 (RS (j + 1)) (RS j) u) => h.cell m4)
      generalize ((RS j).l.getD (x % n).toNat 0) = y at *
      clear hst hlen HNX SS1 SL1 SH1 SN1 ka RH
      generalize hS2 : RS (j + 1) = s' at *
      have HS2 := Lib.hid hS2
      clear hS2
      go_wp2_with (first
        | (go_at_call 8; (with_reducible refine (RH1.out _ L1.out).mono ?_); rintro e u2 ⟨rfl, h2⟩; have L2 := Lib.hid h2; obtain ⟨k2, f2⟩ := HC.out _ h2; clear h2 RH1))
      go_roundw
      case rel => exact ⟨j + 1, by omega, by go_num, by rw [HS2.out]; exact HNT.out _ L2.out⟩
      case measure => simp only [intOf]; omega
    · have hlt' : ¬ (j : Int) < (l.length : Int) := by omega
      have hlen := SL1.out j
      have hsm := SH1.out j
      obtain ⟨hnd, hsp⟩ := SN1.out j
      have hnd : (RS j).node = nd := hnd
      have hsp : (RS j).span = a1 := hsp
      generalize RS j = V at *
      have HLV := Lib.hid (fun u (h : Sst PW W1 q b0 V V u) => (HP.out.live h.pw a2 (by unfold Num; omega)).mono (R' := fun e w' => e = .returned (.int .u64 (live V a2)) ∧ Sst PW W1 q b0 V V w') fun e w' ⟨he, hb⟩ => ⟨he, h.on HP.out hb⟩)
      have HHS := Lib.hid (fun (i : Int) u => (Ring.has_any (live V a2) i u (liveTo_lo V a2 _) (liveTo_hi V a2 _)).mono (R' := fun e w' => e = .returned (.bool (Ring.has (live V a2) i)) ∧ w' = u) fun e w' ⟨he, hb⟩ => ⟨he, hb.symm⟩)
      have HVL := Lib.hid (fun (k : Nat) (hk : k < V.l.length) => live_small (V := V) (by omega) hsm (now := a2) (by omega) ⟨h20, h21⟩ hk)
      have HC := Lib.hid (fun u (k : Nat) (hk : k < 64) (h : Sst PW W1 q b0 V V u) => (h.cell hk).1)
      have HSM := Lib.hid hsm
      rw [hlen, hnd, hsp] at HVL
      have HD := Lib.hid (show Ring.has (live V a2) nd = true from by
        have := HVL.out nd.toNat (by omega)
        rw [show ((nd.toNat : Nat) : Int) = nd by omega] at this
        rw [this]; simp)
      generalize live V a2 = lv at *
      clear hsm hlen hnd hsp HNX SS1 SL1 SH1 SN1 RH HAT HP
      go_wp2_with (first
        | (go_at_call 12; (with_reducible refine (HLV.out _ L1.out).mono ?_); rintro e u2 ⟨rfl, h2⟩; have L2 := Lib.hid h2; clear h2 HLV))
      go_loopw [18] (fun i wu => ∃ k : Nat, k ≤ n.toNat ∧ i = .int .i64 (k : Int) ∧ Hid (Sst PW W1 q b0 V V wu)) (fun i _ => n.toNat - (intOf i).toNat)
      case atStart => exact ⟨0, by omega, rfl, L2⟩
      case round =>
        obtain ⟨k, hk, rfl, L3⟩ := hrel
        clear L2
        by_cases hkn : k < n.toNat
        · have hkn' : (k : Int) < n := by omega
          have hv := HVL.out k hkn
          have kc := HC.out _ k (by omega) L3.out
          obtain ⟨y0, y1⟩ := HSM.out k
          have hh := HHS.out (k : Int)
          generalize V.l.getD k 0 = y at *
          generalize Ring.has lv (k : Int) = r at *
          have hk64 : k < 64 := by omega
          clear HC HSM HVL HHS
          have hyl : y + a1 ≤ 9223372036854775807 := by omega
          by_cases hkd : (k : Int) = nd
          · obtain rfl : r = true := by rw [hv]; simp [hkd]
            have g1 : ((k : Int) == nd) = true := by simpa using hkd
            clear hv hkd
            go_wp2_with (go_at_call 16; (with_reducible refine (hh _).mono ?_); rintro e u5 ⟨rfl, rfl⟩)
            go_roundw
            case rel => exact ⟨k + 1, by omega, by go_num, L3⟩
            case measure => simp only [intOf]; omega
          · have g1 : ((k : Int) == nd) = false := by simpa using hkd
            by_cases hlv : a2 < y + a1
            · obtain rfl : r = true := by rw [hv]; simp [hlv]
              clear hv hkd
              go_wp2_with (go_at_call 16; (with_reducible refine (hh _).mono ?_); rintro e u5 ⟨rfl, rfl⟩)
              go_roundw
              case rel => exact ⟨k + 1, by omega, by go_num, L3⟩
              case measure => simp only [intOf]; omega
            · obtain rfl : r = false := by rw [hv]; simp [hlv, hkd]
              clear hv hkd
              go_wp2_with (go_at_call 16; (with_reducible refine (hh _).mono ?_); rintro e u5 ⟨rfl, rfl⟩)
              go_roundw
              case rel => exact ⟨k + 1, by omega, by go_num, L3⟩
              case measure => simp only [intOf]; omega
        · have hkn' : ¬ (k : Int) < n := by omega
          have hh := HHS.out nd
          rw [HD.out] at hh
          have B3 := Lib.hid (B0.out.trans (L3.out.below.mono B0.out.size))
          clear HC HSM HVL HHS L3 L1
          go_wp2_with (first
            | (go_at_call 5; (with_reducible refine (ca.out _).mono ?_); rintro e u6 ⟨rfl, hb⟩; have B4 := Lib.hid (B3.out.trans (hb.mono B3.out.size)); clear hb)
            | (go_at_call 16; (with_reducible refine (hh _).mono ?_); rintro e u5 ⟨rfl, rfl⟩))
          go_ret
          exact ⟨rfl, B4.out⟩
set_option maxRecDepth 100000 in
set_option maxHeartbeats 4000000 in
theorem silent_many {PW : Pw} (P : Way16 PW) (W : World) (size : Int) (p : Option Addr) (c m : Nat) (a0 a1 a2 : Int) (hl : (100 : Int) < (m : Int)) :
    Calls Try.prog 4 #[.int .u8 size, .slice p m c, .agg #[.int .u32 a0, .int .u32 a1, .int .u32 a2]] W fun e w' => e = .returned (.bool true) ∧ Below W.heap.size W w' := by
  have ca := fun u => alive_way P u
  have B0 := Lib.hid (lay W (.cells #[.int .u32 a0, .int .u32 a1, .int .u32 a2] 47))
  clear P
  go_enter Try.func4, Try.ntmps4
  go_wp2_with (go_at_call 5; (with_reducible refine (ca _).mono ?_); rintro e u2 ⟨rfl, hb⟩; have B2 := Lib.hid (B0.out.trans (hb.mono B0.out.size)); clear hb ca)
  go_ret
  exact ⟨rfl, B2.out⟩
theorem silent_any {PW : Pw} (P : Way16 PW) (W : World) (size : Int) (hz : 0 ≤ size ∧ size ≤ 255) (p : Option Addr) (c : Nat) (l : List Int) (ha : Lies words W p l) (hn : ∀ x ∈ l, 0 ≤ x ∧ x ≤ 4294967295) (a0 a1 a2 : Int) (h0 : 0 ≤ a0 ∧ a0 ≤ 4294967295) (h1 : 0 ≤ a1 ∧ a1 ≤ 4294967295) (h2 : 0 ≤ a2 ∧ a2 ≤ 4294967295) :
    Calls Try.prog 4 #[.int .u8 size, .slice p l.length c, .agg #[.int .u32 a0, .int .u32 a1, .int .u32 a2]] W fun e w' => e = .returned (.bool true) ∧ Below W.heap.size W w' := by
  by_cases hl : l.length ≤ 100
  · exact silent_few P W size hz p c l ha hn hl a0 a1 a2 h0 h1 h2
  · exact silent_many P W size p c l.length a0 a1 a2 (by omega)
end Go.Proofs.Ytgbenfdffhcjiaa.View
