/-
  DemandPlays returns true of any notes, whatever the program's estimates are, if its calls do what is asked of them.
-/
import Derived.Test.YtghbcknbkkhhpaaDemandPlaysWay
namespace Go.Proofs.Ytghbcknbkkhhpaa.Demand
open Go.RowKit
open _root_.Go.Proofs.Ytghbcknbkkhhpaa.Codec (lt_of_heap frozen_of heap_set below_new own_below)
open _root_.Go.Proofs.Ytghbcknbkkhhpaa.Kit (Enc Lies Own At Kept Laid Off cell_on lt_heap take_snoc below_drewN box5 ints)

set_option maxRecDepth 100000 in
set_option maxHeartbeats 8000000 in
theorem plays_few {PW : Pw} (P : Way13 PW) (W : World) (p : Option Addr) (c : Nat) (l : List Nt) (ha : Lies note W p l) (hn : ∀ a ∈ l, NtNum a) (hl : l.length ≤ 80) (key q0 m0 : Int) (nk : Num key) (nq : Num q0) (nm : Num m0) :
    Calls Try.prog 3 #[.slice p l.length c, .int .i64 key, .agg #[.int .i64 q0, .int .i64 m0]] W fun e w' => e = .returned (.bool true) ∧ Below W.heap.size W w' := by
  have c0 := fun u => P.new u
  have RD := Lib.hid (fun (W' : World) (q v j : Nat) (hj : j < l.length) => round_any (W := W') (q := q) (v := v) P (s := l.take j) (by simp; omega) (hn (l.getD j z) (by simp [List.getD, hj])) nk nq nm)
  have SS := Lib.hid (fun (j : Nat) (hj : j < l.length) => take_snoc z hj)
  have HA := Lib.hid ha
  have HP := Lib.hid P
  have hl' : ¬ (80 : Int) < (l.length : Int) := by omega
  clear ha hn P
  go_enter Try.func3, Try.ntmps3
  go_wp2_with (go_at_call 6; generalize hW1 : W.alloc _ = W1; (with_reducible refine (c0 _).mono ?_); rintro e u0 ⟨q, rfl, h0, hb⟩; have L0 := Lib.hid (show Dst PW W1 q u0.heap.size (l.take 0) (l.take 0) (u0.alloc (.cells #[.slice none 0 0] 29)) from ⟨HP.out.below h0 (lay _ _), ⟨hb.size, _, heap_alloc_new _ _, Kit.Own.none _ _ _ _⟩, hb.alloc hb.size _⟩); clear h0 hb c0)
  have t0 : W1.cell? ⟨W.heap.size, 0, none⟩ = some (.int .i64 q0) := by
    rw [← hW1, cell_of_row _ _ 0 _ _ (0, 0) (heap_alloc_new W _)]
    rfl
  have t1 : W1.cell? ⟨W.heap.size, 1, none⟩ = some (.int .i64 m0) := by
    rw [← hW1, cell_of_row _ _ 1 _ _ (0, 0) (heap_alloc_new W _)]
    rfl
  have HBW := Lib.hid (show Below W.heap.size W W1 by rw [← hW1]; exact lay _ _)
  have HAT := Lib.hid (HA.out.below HBW.out)
  have HT := Lib.hid (fun u (hu : Below W1.heap.size W1 u) => And.intro (cell_on t0 hu) (cell_on t1 hu))
  clear t0 t1 hW1 HA
  go_loopw [9] (fun i wr => ∃ j : Nat, j ≤ l.length ∧ i = .int .i64 (j : Int) ∧ Hid (Dst PW W1 q u0.heap.size (l.take j) (l.take j) wr)) (fun i _ => l.length - (intOf i).toNat)
  case atStart => exact ⟨0, by omega, rfl, L0⟩
  case round =>
    obtain ⟨j, hj, rfl, L1⟩ := hrel
    clear L0
    by_cases hlt : j < l.length
    · have hlt' : (j : Int) < (l.length : Int) := by omega
      obtain ⟨b, o, rfl, hat⟩ := lies_at HAT.out hlt
      have HAX := Lib.hid (fun u (hu : Below W1.heap.size W1 u) => at2 (hat.below hu))
      obtain ⟨k0, k1⟩ := HAX.out _ L1.out.below
      obtain ⟨r1, r2, r3, r4, r5, r6, r7, r8, r9⟩ := RD.out W1 q u0.heap.size j hlt
      have HS := Lib.hid (SS.out j hlt)
      generalize l.getD j z = a at *
      generalize l.take j = s at *
      generalize hs' : l.take (j + 1) = s' at *
      have HS2 := Lib.hid hs'
      clear hs'
      rw [← HS.out] at r1 r2 r3 r4 r5 r6 r7 r8 r9
      have R1 := Lib.hid r1
      have R2 := Lib.hid r2
      have R3 := Lib.hid r3
      have R4 := Lib.hid r4
      have R5 := Lib.hid r5
      have R6 := Lib.hid r6
      have R7 := Lib.hid r7
      have R8 := Lib.hid r8
      have R9 := Lib.hid r9
      clear r1 r2 r3 r4 r5 r6 r7 r8 r9 hat SS RD
      obtain ⟨xk, xs⟩ := a
      simp only at *
      have g1 : (of s' xk != of s' xk) = false := by simp
      have g2 : (of s' key != of s' key) = false := by simp
      have g3 : (want (of s' key) q0 m0 != want (of s' key) q0 m0) = false := by simp
      generalize want (of s' key) q0 m0 = wv at *
      generalize of s' xk = nv at *
      generalize of s' key = ov at *
      generalize keys s' = ks at *
      go_wp2
      have LD := Lib.hid (L1.out.on HP.out (Below.refl _ _).drew)
      go_region_held3 (fun u => u.cell? ⟨b, o + j * 2, none⟩ = some (.int .i64 xk) ∧ u.cell? ⟨b, o + j * 2 + 1, none⟩ = some (.int .i64 xs)) (first | assumption | exact ⟨k0, k1⟩) (first
        | (go_at_call 7; (with_reducible refine (R1.out _ LD.out).mono ?_); rintro e u2 ⟨rfl, h2⟩; have L2 := Lib.hid h2; have y2 := HAX.out _ h2.below; clear h2 R1))
      go_wp2
      clear k0 k1
      have L3 := Lib.hid (L2.out.on HP.out (Below.refl _ _).drew)
      obtain ⟨k0, k1⟩ := y2
      obtain ⟨t0, t1⟩ := HT.out _ L2.out.below
      go_region_held3 (fun u => u.cell? ⟨b, o + j * 2, none⟩ = some (.int .i64 xk) ∧ u.cell? ⟨b, o + j * 2 + 1, none⟩ = some (.int .i64 xs) ∧ u.cell? ⟨W.heap.size, 0, none⟩ = some (.int .i64 q0) ∧ u.cell? ⟨W.heap.size, 1, none⟩ = some (.int .i64 m0)) (first | assumption | exact ⟨k0, k1, t0, t1⟩) (first
        | (go_at_call 8; (with_reducible refine (R2.out _ L3.out).mono ?_); rintro e u4 ⟨rfl, h4⟩; have L4 := Lib.hid h4; have y4 : _ ∧ _ ∧ _ ∧ _ := ⟨(HAX.out _ h4.below).1, (HAX.out _ h4.below).2, HT.out _ h4.below⟩; clear h4 R2)
        | (go_at_call 9; (with_reducible refine (R3.out _ L4.out).mono ?_); rintro e u5 ⟨rfl, h4⟩; have L5 := Lib.hid h4; have y5 : _ ∧ _ ∧ _ ∧ _ := ⟨(HAX.out _ h4.below).1, (HAX.out _ h4.below).2, HT.out _ h4.below⟩; clear h4 R3)
        | (go_at_call 10; (with_reducible refine (R4.out _ L5.out).mono ?_); rintro e u6 ⟨rfl, h4⟩; have L6 := Lib.hid h4; have y6 : _ ∧ _ ∧ _ ∧ _ := ⟨(HAX.out _ h4.below).1, (HAX.out _ h4.below).2, HT.out _ h4.below⟩; clear h4 R4)
        | (go_at_call 11; (with_reducible refine (R5.out _ L6.out).mono ?_); rintro e u7 ⟨rfl, h4⟩; have L7 := Lib.hid h4; have y7 : _ ∧ _ ∧ _ ∧ _ := ⟨(HAX.out _ h4.below).1, (HAX.out _ h4.below).2, HT.out _ h4.below⟩; clear h4 R5)
        | (go_at_call 12; (with_reducible refine (R6.out _ L7.out).mono ?_); rintro e u8 ⟨rfl, h4⟩; have L8 := Lib.hid h4; have y8 : _ ∧ _ ∧ _ ∧ _ := ⟨(HAX.out _ h4.below).1, (HAX.out _ h4.below).2, HT.out _ h4.below⟩; clear h4 R6))
      clear k0 k1 t0 t1 y4 y5 y6 y7 y8 L2 L3 L4 L5 L6 L7 HAX HT HAT g1 g2 g3
      go_wp2_with (first
        | (go_at_call 14; (with_reducible refine (R7.out _ L8.out).mono ?_); rintro e u9 ⟨p9, c9, rfl, hp, h4⟩; have L9 := Lib.hid h4; have P9 := Lib.hid hp; clear h4 hp R7)
        | (go_at_call 15; (with_reducible refine (R8.out _ L9.out).mono ?_); rintro e u10 ⟨p10, c10, rfl, hp, h4, hb⟩; have L10 := Lib.hid h4; have P10 := Lib.hid hp; have Q10 := Lib.hid (P9.out.below hb); clear h4 hp hb R8 P9)
        | (go_at_call 13; (with_reducible refine (R9.out _ _ _ _ _ L10.out Q10.out P10.out).mono ?_); rintro e u11 ⟨rfl, h4⟩; have L11 := Lib.hid h4; clear h4 R9))
      go_roundw
      case rel => exact ⟨j + 1, by omega, by go_num, by rw [HS2.out]; exact L11⟩
      case measure => simp only [intOf]; omega
    · have hlt' : ¬ (j : Int) < (l.length : Int) := by omega
      have B1 := Lib.hid (HBW.out.trans (L1.out.below.mono HBW.out.size))
      obtain ⟨t0, t1⟩ := HT.out _ L1.out.below
      have HTB := Lib.hid (fun u (hu : Below wr.heap.size wr u) => And.intro (cell_on t0 hu) (cell_on t1 hu))
      have d1 := HP.out.nnote 1 5
      have d2 := fun u => alive_way HP.out u
      have d3 := HP.out.nof 1
      have d4 := HP.out.nkeys
      have d5 := fun u => HP.out.nwant 1 q0 m0 u nq nm
      have d6 := fun u v (h : Dm 0 u v []) => rwant_any h (by simp) 1 q0 m0
      have e0 : of [] 1 = 0 := rfl
      simp only [e0] at d6
      have g3 : (want 0 q0 m0 == want 0 q0 m0) = true := by simp
      generalize want 0 q0 m0 = wv at *
      clear L1 RD SS HP nk nq nm e0 HT HAT
      go_wp2
      have E0 := Lib.hid (show Dm 0 (wr.alloc (.cells #[.slice none 0 0] 29)) wr.heap.size [] from ⟨Nat.zero_le _, _, heap_alloc_new _ _, Kit.Own.none _ _ _ _⟩)
      have BW := Lib.hid (lay wr (.cells #[.slice none 0 0] 29))
      clear t0 t1
      generalize wr.alloc (.cells #[.slice none 0 0] 29) = w5 at *
      obtain ⟨t0, t1⟩ := HTB.out _ BW.out
      have B2 := Lib.hid (B1.out.trans (BW.out.mono B1.out.size))
      have HT5 := Lib.hid (fun u (hu : Below w5.heap.size w5 u) => And.intro (cell_on t0 hu) (cell_on t1 hu))
      have B5 := Lib.hid ((Below.refl w5.heap.size w5).drew)
      clear HTB BW B1
      go_region_held3 (fun u => u.cell? ⟨W.heap.size, 0, none⟩ = some (.int .i64 q0) ∧ u.cell? ⟨W.heap.size, 1, none⟩ = some (.int .i64 m0)) (first | assumption | exact ⟨t0, t1⟩) (first
        | (go_at_call 5; (with_reducible refine (d2 _).mono ?_); rintro e u6 ⟨rfl, hb⟩; have B6 := Lib.hid (B5.out.trans (hb.mono B5.out.size)); have y6 := HT5.out _ B6.out; clear hb d2)
        | (go_at_call 7; (with_reducible refine (d1 _).mono ?_); rintro e u7 ⟨rfl, hb⟩; have B7 := Lib.hid (B6.out.trans (hb.mono B6.out.size)); have y7 := HT5.out _ B7.out; clear hb d1)
        | (go_at_call 9; (with_reducible refine (d3 _).mono ?_); rintro e u8 ⟨rfl, hb⟩; have B8 := Lib.hid (B7.out.trans (hb.mono B7.out.size)); have y8 := HT5.out _ B8.out; clear hb d3)
        | (go_at_call 14; (with_reducible refine (d4 _).mono ?_); rintro e u9 ⟨p9, c9, rfl, hb⟩; have B9 := Lib.hid (B8.out.trans (hb.mono B8.out.size)); have y9 := HT5.out _ B9.out; clear hb d4)
        | (go_at_call 11; (with_reducible refine (d5 _).mono ?_); rintro e u10 ⟨rfl, hb⟩; have B10 := Lib.hid (B9.out.trans (hb.mono B9.out.size)); have y10 := HT5.out _ B10.out; clear hb d5)
        | (go_at_call 12; (with_reducible refine (d6 _ _ (E0.out.below B10.out)).mono ?_); rintro e u11 ⟨rfl, hb⟩; have B11 := Lib.hid (B10.out.trans (hb.mono B10.out.size)); have y11 := HT5.out _ B11.out; clear hb d6))
      go_wp2
      go_ret
      exact ⟨rfl, B2.out.trans (B11.out.mono B2.out.size)⟩
set_option maxRecDepth 100000 in
theorem plays_many {PW : Pw} (P : Way13 PW) (W : World) (p : Option Addr) (c n : Nat) (hn : 80 < n) (key q0 m0 : Int) :
    Calls Try.prog 3 #[.slice p n c, .int .i64 key, .agg #[.int .i64 q0, .int .i64 m0]] W fun e w' => e = .returned (.bool true) ∧ Below W.heap.size W w' := by
  have ha := fun u => alive_way P u
  have h80 : (80 : Int) < (n : Int) := by omega
  have hB := lay W (.cells #[.int .i64 q0, .int .i64 m0] 23)
  go_enter Try.func3, Try.ntmps3
  go_wp2_with (go_at_call 5; (with_reducible refine (ha _).mono ?_); rintro e u6 ⟨rfl, hb⟩)
  go_ret
  exact ⟨rfl, hB.trans (hb.mono (by simp))⟩
end Go.Proofs.Ytghbcknbkkhhpaa.Demand
