/-
  EdgePlays returns true, whatever the program's edge is, of a configuration that may be.
-/
import Derived.Test.YtlbpeeelgpjciaaGreatEdgePlaysFew
namespace Go.Proofs.YtlbpeeelgpjciaaGreat.Edge
open Go.RowKit
open _root_.Go.Proofs.YtlbpeeelgpjciaaGreat.Codec (lt_of_heap frozen_of heap_set below_new)
open _root_.Go.Proofs.YtlbpeeelgpjciaaGreat.Kit (Enc Lies At Kept Laid Off cell_on lt_heap take_snoc below_drewN box5)
open _root_.Go.Proofs.YtlbpeeelgpjciaaGreat.Lease (Lz Num)
open _root_.Go.Proofs.YtlbpeeelgpjciaaGreat.Queue (It)

theorem says_lies {w : World} {p : Option Addr} {n k : Nat} {l : List An} (h : Says w (.slice p n k) l) : Lies ans w p l := by
  obtain ⟨p', k', e, h1, -⟩ := h
  simp only [Value.slice.injEq] at e
  obtain ⟨rfl, -, -⟩ := e
  exact h1
set_option maxRecDepth 100000 in
set_option maxHeartbeats 8000000 in
theorem plays_few {PW : Pw} (P : Way14 PW) (W : World) (c : Cf) (p : Option Addr) (k : Nat) (p' : Option Addr) (k' : Nat) (l : List Ac) (ha : ActsAt W p' l) (hn : ∀ a ∈ l, AcNum a) (hz : c.zs.length ≤ 80) (hl : l.length ≤ 80) (hr : RatesB W.heap.size W p c.zs) (hc : CfNum c) (hk : c.check = 0) :
    Calls Tryz.prog 3 #[c.val p k, .slice p' l.length k'] W fun e w' => e = .returned (.bool true) ∧ Below W.heap.size W w' := by
  obtain ⟨q0, q16⟩ := check_room hk
  have hb0 := lay W (.cells #[.int .i64 c.n, .int .i64 c.sk, .int .i64 c.tl, .int .i64 c.va, .int .i64 c.lo, .int .i64 c.he, .int .i64 c.ke, .int .i64 c.qu, .slice p c.zs.length k] 24)
  obtain ⟨WB, hWB⟩ : ∃ WB, WB = W.alloc (.cells #[.int .i64 c.n, .int .i64 c.sk, .int .i64 c.tl, .int .i64 c.va, .int .i64 c.lo, .int .i64 c.he, .int .i64 c.ke, .int .i64 c.qu, .slice p c.zs.length k] 24) := ⟨_, rfl⟩
  have HB : Hid (Below W.heap.size W WB) := by rw [hWB]; exact Lib.hid hb0
  have HN := Lib.hid (fun u (hu : Below WB.heap.size WB u) => show Conf.Nine u W.heap.size (.int .i64 c.n) (.int .i64 c.sk) (.int .i64 c.tl) (.int .i64 c.va) (.int .i64 c.lo) (.int .i64 c.he) (.int .i64 c.ke) (.int .i64 c.qu) (.slice p c.zs.length k) from by
    rw [hWB] at hu
    exact (Conf.nine_new W (.int .i64 c.n) (.int .i64 c.sk) (.int .i64 c.tl) (.int .i64 c.va) (.int .i64 c.lo) (.int .i64 c.he) (.int .i64 c.ke) (.int .i64 c.qu) (.slice p c.zs.length k) 24).stays hu)
  have hrW : RatesB WB.heap.size WB p c.zs := by
    rcases hr with hr | ⟨b, o, e, hlt, hcs⟩
    · exact .inl hr
    · exact .inr ⟨b, o, e, Nat.lt_of_lt_of_le hlt HB.out.size, fun i hi => ⟨(HB.out.cell (p := ⟨b, _, none⟩) hlt).trans (hcs i hi).1, (HB.out.cell (p := ⟨b, _, none⟩) hlt).trans (hcs i hi).2⟩⟩
  have haW := ha.below HB.out
  have c0 := P.new c p k WB hrW (by omega) hc hk
  have c1 := Lib.hid (fun u (hu : Below WB.heap.size WB u) => (rnew_any (k := k) hu.size (hrW.on hu) (by omega)).mono (fun x w' (h : _ ∧ (_ ∨ _)) => show ∃ v, x = .returned (.tuple #[.pointer (some ⟨v, 0, none⟩), .int .i64 0]) ∧ Ed WB.heap.size w' v c e0 ∧ Below u.heap.size u w' from by
    obtain ⟨h1, h2 | ⟨_, v, h2, h3, _⟩⟩ := h
    · exact absurd hk h2.1
    · exact ⟨v, h2, h3, h1⟩))
  have RD := Lib.hid (fun (q v j : Nat) (hj : j < l.length) => round_any (W := WB) (q := q) (v := v) P q0 q16 (st_good q0 l hn j (by omega)).1 (st_good q0 l hn j (by omega)).2 (by omega) (hn (l.getD j za) (by simp [List.getD, hj])))
  have S0 := Lib.hid (st_zero c l)
  have SS := Lib.hid (fun (j : Nat) (hj : j < l.length) => st_succ c l hj)
  have HA := Lib.hid haW
  have HP := Lib.hid P
  have d0 := P.ndrop 1
  have d1 := P.nask zr 1
  have d2 := P.ngrant Lease.z 1
  have d3 := P.nwants
  have d4 := P.nexpire 1
  have d5 := P.nrefuse 1 1
  have d6 := P.ncrash
  have d7 := P.nwaiting
  have d8 := P.nleases
  have d9 := fun u => alive_way P u
  have d10 := P.nclose 1 1
  simp only [rval, zr, Lease.val, Lease.z] at d1 d2
  have hz2 : ¬ (80 : Int) < (c.zs.length : Int) := by omega
  have hl2 : ¬ (80 : Int) < (l.length : Int) := by omega
  rw [hWB] at c0
  generalize st c l = ST at *
  simp only [Cf.val] at *
  clear ha haW hn P hr hrW hc hk hb0 hz q0 q16
  go_enter Tryz.func3, Tryz.ntmps3
  go_wp2_with (first
    | (go_at_call 6; (with_reducible refine c0.mono ?_); rintro e u0 ⟨q, rfl, h0, hb⟩; rw [← hWB] at h0 hb; have H0 := Lib.hid h0; have B0 := Lib.hid hb; obtain ⟨x0, x1, x2, x3, x4, x5, x6, x7, x8⟩ := HN.out _ hb; clear h0 hb c0)
    | (go_at_call 7; (with_reducible refine (c1.out _ B0.out).mono ?_); rintro e u1 ⟨v, rfl, h1, hb⟩; have L0 := Lib.hid (show Est PW WB q v c (ST 0) (ST 0) u1 from by (rw [S0.out]; exact ⟨HP.out.below H0.out hb, h1, B0.out.trans (hb.mono B0.out.size)⟩)); clear h1 hb c1))
  clear x0 x1 x2 x3 x4 x5 x6 x7 x8
  go_loopw [9] (fun i wr => ∃ j : Nat, j ≤ l.length ∧ i = .int .i64 (j : Int) ∧ Hid (Est PW WB q v c (ST j) (ST j) wr)) (fun i _ => l.length - (intOf i).toNat)
  case atStart => exact ⟨0, by omega, rfl, L0⟩
  case round =>
    obtain ⟨j, hj, rfl, L1⟩ := hrel
    clear L0
    by_cases hlt : j < l.length
    · have hlt' : (j : Int) < (l.length : Int) := by omega
      obtain ⟨b, o, rfl, hat⟩ := acts_at (by have := HA.out; exact this) hlt
      have HAT := Lib.hid (fun u (hu : Below WB.heap.size WB u) => hat.below hu)
      obtain ⟨k0, k1, k2, k3, k4, k5, k6, k7, k8, k9, k10, k11, k12⟩ := HAT.out _ L1.out.below
      obtain ⟨r1, r2, r3, r4, r5, r6, r7, r8, r9, r10⟩ := RD.out q v j hlt
      have HS := Lib.hid (SS.out j hlt)
      generalize ST j = s at *
      generalize l.getD j za = a at *
      generalize actOf c s a = R at *
      obtain ⟨T, L, n⟩ := R
      simp only at *
      have R1 := Lib.hid r1
      have R2 := Lib.hid r2
      have R3 := Lib.hid r3
      have R4 := Lib.hid r4
      have R5 := Lib.hid r5
      have R6 := Lib.hid r6
      have R7 := Lib.hid r7
      have R8 := Lib.hid r8
      have R9 := Lib.hid r9
      have R10 := Lib.hid r10
      clear r1 r2 r3 r4 r5 r6 r7 r8 r9 r10 hat SS S0 RD HA d0 d1 d2 d3 d4 d5 d6 d7 d8 d9 d10
      obtain ⟨kind, ⟨ri, rk, rc, rs, rw'⟩, ⟨xk, xg, xa, xs, xt⟩, why, now⟩ := a
      simp only [actVal] at *
      go_wp2_with (first
        | (go_at_call 8; (with_reducible refine (R1.out _ L1.out).mono ?_); rintro e u2 ⟨y2, rfl, hs, h2⟩; have S2 := Lib.hid hs; obtain ⟨pa, ka, rfl, -, -, -⟩ := hs; have L2 := Lib.hid h2; clear k0 k1 k2 k3 k4 k5 k6 k7 k8 k9 k10 k11 k12; obtain ⟨k0, k1, k2, k3, k4, k5, k6, k7, k8, k9, k10, k11, k12⟩ := HAT.out _ h2.below; simp only at k0 k1 k2 k3 k4 k5 k6 k7 k8 k9 k10 k11 k12; clear h2 R1)
        | (go_at_call 9; (with_reducible refine (R2.out _ L2.out).mono ?_); rintro e u3 ⟨y3, rfl, ht, h3, hq⟩; have S3 := Lib.hid (says_lies (hq _ S2.out)); obtain ⟨pb, kb, rfl, lb, -⟩ := ht; have T3 := Lib.hid lb; have L3 := Lib.hid h3; clear k0 k1 k2 k3 k4 k5 k6 k7 k8 k9 k10 k11 k12; clear lb h3 hq R2)
        | (go_at_call 10; (with_reducible refine (R3.out _ _ _ _ _ S3.out T3.out).mono ?_); rintro e u4 ⟨rfl, hb⟩; have L4 := Lib.hid (L3.out.on HP.out hb); clear hb R3))
      clear S2 S3 T3 L1 L2 L3 HAT
      have D4 := Lib.hid (L4.out.on HP.out (Below.refl _ _).drew)
      obtain ⟨pm, cm, g4, hm, -, -⟩ := D4.out.ed.qu.cell
      have M4 := Lib.hid hm
      have g4 : u4.drew.cell? ⟨v, 11, none⟩ = some (.slice pm T.Q.length cm) := g4
      clear hm
      go_region_held3 (fun u => u.cell? ⟨v, 11, none⟩ = some (.slice pm T.Q.length cm)) (first | assumption) (first
        | (go_at_call 13; (with_reducible refine (R4.out _ D4.out).mono ?_); rintro e u5 ⟨p5, c5, rfl, hp, hb⟩; have g5 := cell_on g4 hb; have P5 := Lib.hid hp; have M5 := Lib.hid (M4.out.below hb); have L5 := Lib.hid (D4.out.on HP.out hb); clear hb hp R4)
        | (go_at_call 12; (with_reducible refine (R5.out _ _ _ P5.out).mono ?_); rintro e u6 ⟨p6, c6, rfl, hp, hb⟩; have g6 := cell_on g5 hb; have P6 := Lib.hid hp; have M6 := Lib.hid (M5.out.below hb); have L6 := Lib.hid (L5.out.on HP.out hb); clear hb hp R5)
        | (go_at_call 11; (with_reducible refine (R6.out _ _ _ _ _ P6.out M6.out).mono ?_); rintro e u7 ⟨rfl, hb⟩; have g7 := cell_on g6 hb; have L7 := Lib.hid (L6.out.on HP.out hb); clear hb R6))
      clear g4 g5 g6 g7 P5 P6 M4 M5 M6 L4 L5 L6 D4
      go_wp2
      have D7 := Lib.hid (L7.out.on HP.out (Below.refl _ _).drew)
      obtain ⟨pm, cm, g4, hm⟩ := D7.out.ed.wl.cell
      have M4 := Lib.hid hm
      clear hm
      go_region_held3 (fun u => u.cell? ⟨v, 9, none⟩ = some (.slice pm T.L.length cm)) (first | assumption) (first
        | (go_at_call 16; (with_reducible refine (R7.out _ D7.out).mono ?_); rintro e u8 ⟨p8, c8, rfl, hp, hb⟩; have g5 := cell_on g4 hb; have P5 := Lib.hid hp; have M5 := Lib.hid (M4.out.below hb); have L8 := Lib.hid (D7.out.on HP.out hb); clear hb hp R7)
        | (go_at_call 15; (with_reducible refine (R8.out _ _ _ P5.out).mono ?_); rintro e u9 ⟨p9, c9, rfl, hp, hb⟩; have g6 := cell_on g5 hb; have P6 := Lib.hid hp; have M6 := Lib.hid (M5.out.below hb); have L9 := Lib.hid (L8.out.on HP.out hb); clear hb hp R8)
        | (go_at_call 14; (with_reducible refine (R9.out _ _ _ _ _ P6.out M6.out).mono ?_); rintro e u10 ⟨rfl, hb⟩; have g7 := cell_on g6 hb; have L10 := Lib.hid (L9.out.on HP.out hb); clear hb R9))
      clear g4 g5 g6 g7 P5 P6 M4 M5 M6 L7 L8 L9 D7
      have hnn : (n != n) = false := by simp
      go_wp2_with (go_at_call 17; (with_reducible refine (R10.out _ L10.out).mono ?_); rintro e u11 ⟨rfl, hb⟩; have L11 := Lib.hid (L10.out.on HP.out hb); clear hb R10)
      go_roundw
      case rel => exact ⟨j + 1, by omega, by go_num, by rw [HS.out]; exact L11⟩
      case measure => simp only [intOf]; omega
    · have hlt' : ¬ (j : Int) < (l.length : Int) := by omega
      have B1 := Lib.hid (HB.out.trans (L1.out.below.mono HB.out.size))
      clear L1 RD S0 SS HA HP HN
      go_wp2_with (first
        | (go_at_call 18; (with_reducible refine (d0 _).mono ?_); rintro e u2 ⟨rfl, hb⟩; have B2 := Lib.hid (B1.out.trans (hb.mono B1.out.size)); clear hb d0)
        | (go_at_call 19; (with_reducible refine (d1 _).mono ?_); rintro e u3 ⟨p3, k3, rfl, hb⟩; have B3 := Lib.hid (B2.out.trans (hb.mono B2.out.size)); clear hb d1)
        | (go_at_call 20; (with_reducible refine (d2 _).mono ?_); rintro e u4 ⟨p4, k4, rfl, hb⟩; have B4 := Lib.hid (B3.out.trans (hb.mono B3.out.size)); clear hb d2)
        | (go_at_call 21; (with_reducible refine (d3 _).mono ?_); rintro e u5 ⟨p5, k5, rfl, hb⟩; have B5 := Lib.hid (B4.out.trans (hb.mono B4.out.size)); clear hb d3)
        | (go_at_call 22; (with_reducible refine (d4 _).mono ?_); rintro e u6 ⟨p6, k6, rfl, hb⟩; have B6 := Lib.hid (B5.out.trans (hb.mono B5.out.size)); clear hb d4)
        | (go_at_call 23; (with_reducible refine (d5 _).mono ?_); rintro e u7 ⟨p7, k7, rfl, hb⟩; have B7 := Lib.hid (B6.out.trans (hb.mono B6.out.size)); clear hb d5)
        | (go_at_call 24; (with_reducible refine (d6 _).mono ?_); rintro e u8 ⟨p8, k8, rfl, hb⟩; have B8 := Lib.hid (B7.out.trans (hb.mono B7.out.size)); clear hb d6)
        | (go_at_call 13; (with_reducible refine (d7 _).mono ?_); rintro e u9 ⟨p9, k9, rfl, hb⟩; have B9 := Lib.hid (B8.out.trans (hb.mono B8.out.size)); clear hb d7)
        | (go_at_call 16; (with_reducible refine (d8 _).mono ?_); rintro e u10 ⟨p10, k10, rfl, hb⟩; have B10 := Lib.hid (B9.out.trans (hb.mono B9.out.size)); clear hb d8)
        | (go_at_call 5; (with_reducible refine (d9 _).mono ?_); rintro e u11 ⟨rfl, hb⟩; have B11 := Lib.hid (B10.out.trans (hb.mono B10.out.size)); clear hb d9)
        | (go_at_call 25; (with_reducible refine (d10 _).mono ?_); rintro e u12 ⟨rfl, hb⟩; have B12 := Lib.hid (B11.out.trans (hb.mono B11.out.size)); clear hb d10))
      go_ret
      exact ⟨rfl, B12.out⟩
/-- Of any configuration, and any acts. -/
theorem plays_any {PW : Pw} (P : Way14 PW) (W : World) (c : Cf) (p : Option Addr) (k : Nat) (p' : Option Addr) (k' : Nat) (l : List Ac) (hr : RatesB W.heap.size W p c.zs) (hc : CfNum c) (ha : ActsAt W p' l) (hn : ∀ a ∈ l, AcNum a) :
    Calls Tryz.prog 3 #[c.val p k, .slice p' l.length k'] W fun e w' => e = .returned (.bool true) ∧ Below W.heap.size W w' := by
  by_cases hz : c.zs.length ≤ 80
  · by_cases hl : l.length ≤ 80
    · by_cases hk : c.check = 0
      · exact plays_few P W c p k p' k' l ha hn hz hl hr hc hk
      · exact plays_no P W c p k p' k' l.length hz hl hr hc hk
    · exact plays_many P W c p k p' k' l.length (.inr (by omega))
  · exact plays_many P W c p k p' k' l.length (.inl (by omega))
end Go.Proofs.YtlbpeeelgpjciaaGreat.Edge
