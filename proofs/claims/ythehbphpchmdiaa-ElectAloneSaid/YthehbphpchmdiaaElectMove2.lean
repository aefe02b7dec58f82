/-
  annonalaw17's move: a frame comes to a node.
-/
import Derived.Test.YthehbphpchmdiaaElectRoom
import Derived.Deep.QuietTactic
import Derived.Deep.RegionLaw
namespace Go.Proofs.Ythehbphpchmdiaa.Elect
open Go.RowKit
open _root_.Go.Proofs.Ythehbphpchmdiaa.Codec (lt_of_heap frozen_of heap_set below_new)
open _root_.Go.Proofs.Ythehbphpchmdiaa.Kit (Enc Lies Own At Laid cell_on lt_heap take_snoc below_drewN ints)

set_option maxRecDepth 100000 in
set_option maxHeartbeats 4000000 in
theorem move_take {PW : Pw} (P : Way17 PW) {W u : World} {hb : Nat} {qs : List Nat} {H : Hl} (h : Hst PW W hb qs H [] u) (hI : Inv H) (hfl : H.frames.length ≤ 1000) (hwl : H.won.length ≤ 1000) (kd who what : Int) (k0 : 0 ≤ kd ∧ kd ≤ 255) (w0 : 0 ≤ who ∧ who ≤ 255) (t0 : 0 ≤ what ∧ what ≤ 65535) (hk0 : ¬ kd % 8 = 0) (hk7 : ¬ kd % 8 = 7) (hfe : ¬ H.frames.length = 0) :
    Calls Try.prog 15 #[.pointer (some ⟨hb, 0, none⟩), .agg #[.int .u8 kd, .int .u8 who, .int .u16 what]] u fun y w' => y = .returned (.bool true) ∧ ∃ H', Inv H' ∧ H'.n = H.n ∧ H'.frames.length ≤ H.frames.length + 1 ∧ H'.won.length ≤ H.won.length + 1 ∧ Hst PW W hb qs H' [] w' := by
  obtain ⟨n0, n1⟩ := hI.n
  obtain ⟨k0, k1⟩ := k0
  obtain ⟨w0, w1⟩ := w0
  have HM := Lib.hid (h.box P (.cells #[.int .u8 kd, .int .u8 who, .int .u16 what] 56))
  obtain ⟨i, hi⟩ : ∃ i : Nat, who % (H.n : Int) = (i : Int) := ⟨(who % (H.n : Int)).toNat, by have := Int.emod_nonneg who (by omega : (H.n : Int) ≠ 0); omega⟩
  have il : i < H.n := by have := Int.emod_lt_of_pos who (by omega : 0 < (H.n : Int)); omega
  obtain ⟨t0, t1⟩ := t0
  obtain ⟨f, hf⟩ : ∃ f : Nat, what % (H.frames.length : Int) = (f : Int) := ⟨(what % (H.frames.length : Int)).toNat, by have := Int.emod_nonneg what (by omega : (H.frames.length : Int) ≠ 0); omega⟩
  have fl : f < H.frames.length := by have := Int.emod_lt_of_pos what (by omega : 0 < (H.frames.length : Int)); omega
  have hfe' : ((H.frames.length : Int) == 0) = false := by simpa using hfe
  have hfe2 : ¬ ((H.frames.length : Int) = 0) := by omega
  have hne : (H.n : Int) ≠ 0 := by omega
  have hql : qs.length = H.n := by obtain ⟨_, _, _, _, _, e, _⟩ := h; exact e
  obtain ⟨p1, c1, p2, c2, p3, c3, x0, -⟩ := HM.out.cells
  obtain ⟨m0, m1, m2⟩ := mv3 (b := u.heap.size) (k := kd) (g := who) (x := what) (HM.out.obj (by simp)).1
  obtain ⟨q, hq⟩ : ∃ q, qs.getD i 0 = q := ⟨_, rfl⟩
  obtain ⟨hfg, hfb, -⟩ := hI.frames (H.frames.getD f noRs) (by simp [List.getD, fl])
  have hng : Num (H.frames.getD f noRs).gen := by unfold Num; omega
  have hR := Lib.hid (res_take hI il (f := H.frames.getD f noRs) (by simp [List.getD, fl]))
  obtain ⟨g1, g2, g3, g4, hgf⟩ : ∃ g1 g2 g3 g4, H.frames.getD f noRs = ⟨g1, g2, g3, g4⟩ := ⟨_, _, _, _, rfl⟩
  rw [hgf] at hR hng hfb
  simp only at hR hng hfb
  have C1 := Lib.hid (fun u1 bs (h1 : Hst PW W hb qs H bs u1) => hst_kept P h1 il (N := 13) (args := #[.pointer (some ⟨q, 0, none⟩), .int .i64 g2, .int .u64 g3]) (R := fun y => y = .returned (rsVal (take (H.el i) g2 g3).2)) (e := (take (H.el i) g2 g3).1) (fun F hp hs => hq ▸ P.take hp hs g2 g3 hng hfb))
  have HSW := Lib.hid (take_one (H.el i) g2 g3)
  generalize (take (H.el i) g2 g3).1 = e' at *
  generalize (take (H.el i) g2 g3).2 = r at *
  obtain ⟨r1, r2, r3, r4⟩ := r
  have AD := Lib.hid (fun n => (HM.out.on P (below_drewN (u.alloc (.cells #[.int .u8 kd, .int .u8 who, .int .u16 what] 56)) n)).box P (rsObj noRs))
  have hI' := Lib.hid hI
  clear hI
  obtain ⟨n, el, fr, won⟩ := H
  simp only [rsVal, Hl.move] at *
  go_enter Try.func15, Try.ntmps15
  go_wp2
  go_quiet (fail)
  have HD := AD.out nq
  clear x0 m0 m1 m2 AD HM p1 p2 p3 c1 c2 c3
  rw [show ((u.alloc (.cells #[.int .u8 kd, .int .u8 who, .int .u16 what] 56)).drewN nq).heap.size = u.heap.size + 1 by simp] at HD
  simp only [rsObj, noRs] at HD
  obtain ⟨p1, c1, p2, c2, p3, c3, x0, x1, x2, x3, l1, l2, l3, xf⟩ := HD.cells
  obtain ⟨bb, oo, rfl, y1⟩ := ptr_at l1 (j := i) (by omega)
  rw [hq] at y1
  obtain ⟨m0, m1, m2⟩ := mv3 (b := u.heap.size) (k := kd) (g := who) (x := what) (HD.obj (by simp)).1
  obtain ⟨fb, fo, rfl, fat⟩ := rs_at l2 fl
  simp only at fat
  rw [hgf] at fat
  obtain ⟨a0, a1, a2, a3⟩ := rs_four fat
  have HE := Lib.hid HD
  have hlb := HD.lt
  have hlm := lt_heap (HD.obj (b := u.heap.size) (o := .cells #[.int .u8 kd, .int .u8 who, .int .u16 what] 56) (by simp)).1
  have hlr := lt_heap (HD.obj (b := u.heap.size + 1) (o := .cells #[.bool false, .int .i64 0, .int .u64 0, .bool false] 40) (by simp)).1
  have hlf := World.block_lt_of_cell? _ _ a0
  have hlq := World.block_lt_of_cell? _ _ y1
  simp only at hlf hlq x0 x1 x2 x3
  have HA := Lib.hid (And.intro a0 (And.intro a1 (And.intro a2 a3)))
  clear HD l1 l2 l3 a0 a1 a2 a3 fat
  go_wp2
  generalize ((u.alloc _).drewN nq).alloc _ = u3 at *
  obtain ⟨a0, a1, a2, a3⟩ := HA.out
  go_region
  go_wp2
  have HE2 := Lib.hid ((HE.out.box P (.cells #[.bool g1, .int .i64 g2, .int .u64 g3, .bool g4] 40)).on P (Below.refl _ _).drew)
  have hxr : ¬ (u3.heap.size = u.heap.size + 1) := by omega
  clear x0 x1 x2 x3 xf y1 m0 m1 m2 a0 a1 a2 a3 HA HE hlb hlm hlr hlf hlq
  obtain ⟨p1, c1, p2, c2, p3, c3, x0, x1, x2, x3, l1, l2, l3, xf⟩ := HE2.out.cells
  obtain ⟨bb, oo, rfl, y1⟩ := ptr_at l1 (j := i) (by omega)
  rw [hq] at y1
  have e0 := rbox (r := ⟨g1, g2, g3, g4⟩) HE2.out
  have e1 := rbox (r := noRs) (b := u.heap.size + 1) (HE2.out.less (cs := boxes u.heap.size noRs kd who what) (by intro x hx; simp [noRs] at hx ⊢; exact .inr hx))
  obtain ⟨a0, a1, a2, a3, a4, a5, a6⟩ := e0
  obtain ⟨f0, f1, f2, f3, f4, f5, f6⟩ := e1
  simp only [noRs] at a0 a1 a2 a3 f0 f1 f2 f3 x0 x1 x2 x3
  clear l1 l2 l3
  generalize (u3.alloc _).drew = u4 at *
  generalize u3.heap.size = xb at *
  have HE3 := Lib.hid (HE2.out.on P (Below.refl _ _).drew)
  clear HE2
  have M1 := Lib.hid (show _ ∧ _ ∧ _ ∧ _ from ⟨x1, y1, a1, a2⟩)
  have hbb := HE3.out.rowbox (g := u.heap.size + 1) (ob := .cells #[.bool false, .int .i64 0, .int .u64 0, .bool false] 40) x1 (by simp)
  have hhb := f6
  have M2 : u4.drew.cell? ⟨hb, 1, none⟩ = some (.slice (some ⟨bb, oo, none⟩) n c1) ∧ u4.drew.cell? ⟨bb, oo + i, none⟩ = some (.pointer (some ⟨q, 0, none⟩)) ∧ u4.drew.cell? ⟨xb, 1, none⟩ = some (.int .i64 g2) ∧ u4.drew.cell? ⟨xb, 2, none⟩ = some (.int .u64 g3) := ⟨x1, y1, a1, a2⟩
  rcases r1 with _ | _ <;> rcases r4 with _ | _
  · go_region_held3 (fun u' => u'.cell? ⟨hb, 1, none⟩ = some (.slice (some ⟨bb, oo, none⟩) n c1) ∧ u'.cell? ⟨bb, oo + i, none⟩ = some (.pointer (some ⟨q, 0, none⟩)) ∧ u'.cell? ⟨xb, 1, none⟩ = some (.int .i64 g2) ∧ u'.cell? ⟨xb, 2, none⟩ = some (.int .u64 g3)) (first | with_reducible assumption | with_reducible exact M1.out) (first
      | (go_at_call 13; (with_reducible refine (C1.out _ _ HE3.out).mono ?_); rintro y u2 ⟨rfl, h2, hk1, hk2⟩; have s2 : _ ∧ _ ∧ _ ∧ _ := ⟨hk1 1 _ M1.out.1, hk2 bb oo c1 M1.out.1 _ _ M1.out.2.1, (rbox (r := ⟨g1, g2, g3, g4⟩) h2).2.1, (rbox (r := ⟨g1, g2, g3, g4⟩) h2).2.2.1⟩; have s3 : _ ∧ _ ∧ _ ∧ _ := ⟨put4_far (b := u.heap.size + 1) (r := ⟨false, r2, r3, false⟩) hhb s2.1, put4_far (b := u.heap.size + 1) (r := ⟨false, r2, r3, false⟩) hbb s2.2.1, put4_far (b := u.heap.size + 1) (r := ⟨false, r2, r3, false⟩) hxr s2.2.2.1, put4_far (b := u.heap.size + 1) (r := ⟨false, r2, r3, false⟩) hxr s2.2.2.2⟩; simp only [put4] at s3; have e2 := rbox (r := noRs) (b := u.heap.size + 1) (h2.less (cs := boxes u.heap.size noRs kd who what) (by intro x hx; simp [noRs] at hx ⊢; exact .inr hx)); clear f0 f1 f2 f3 f4 f5 f6 hk1 hk2; obtain ⟨f0, f1, f2, f3, f4, f5, f6⟩ := e2; simp only [noRs] at f0 f1 f2 f3; have H2 := Lib.hid h2; clear h2))
    have H3 := Lib.hid (Hst.put P (s := noRs) (r := ⟨false, r2, r3, false⟩) (H2.out.less (cs := boxes u.heap.size noRs kd who what) (by intro x hx; simp [noRs] at hx ⊢; exact .inr hx)) (by intro x hx; simp at hx; subst hx; simp))
    simp only [put4, rsObj] at H3
    clear s2 s3 f0 f1 f2 f3 f4 H2 C1 HE3 M1 M2 x0 x1 x2 x3 xf y1 a0 a1 a2 a3 a4
    generalize (((u2.setCell _ _).setCell _ _).setCell _ _).setCell _ _ = u3 at *
    obtain ⟨f0, f1, f2, f3, f4, f5, f6⟩ := rbox (r := ⟨false, r2, r3, false⟩) H3.out
    obtain ⟨q1, d1, q2, d2, q3, d3, x0, x1, x2, x3, l1, l2, l3, xf⟩ := H3.out.cells
    simp only at f0 f1 f2 f3 x0 x1 x2 x3
    go_wp2
    clear l1 l2 l3 x0 x1 x2 x3 xf f0 f1 f2 f3 f4 f5 f6
    go_ret
    exact ⟨rfl, ⟨n, _, fr, won⟩, hI'.out.after il hR.out, rfl, by simp, by simp, H3.out.less (by simp)⟩
  · go_region_held3 (fun u' => u'.cell? ⟨hb, 1, none⟩ = some (.slice (some ⟨bb, oo, none⟩) n c1) ∧ u'.cell? ⟨bb, oo + i, none⟩ = some (.pointer (some ⟨q, 0, none⟩)) ∧ u'.cell? ⟨xb, 1, none⟩ = some (.int .i64 g2) ∧ u'.cell? ⟨xb, 2, none⟩ = some (.int .u64 g3)) (first | with_reducible assumption | with_reducible exact M1.out) (first
      | (go_at_call 13; (with_reducible refine (C1.out _ _ HE3.out).mono ?_); rintro y u2 ⟨rfl, h2, hk1, hk2⟩; have s2 : _ ∧ _ ∧ _ ∧ _ := ⟨hk1 1 _ M1.out.1, hk2 bb oo c1 M1.out.1 _ _ M1.out.2.1, (rbox (r := ⟨g1, g2, g3, g4⟩) h2).2.1, (rbox (r := ⟨g1, g2, g3, g4⟩) h2).2.2.1⟩; have s3 : _ ∧ _ ∧ _ ∧ _ := ⟨put4_far (b := u.heap.size + 1) (r := ⟨false, r2, r3, true⟩) hhb s2.1, put4_far (b := u.heap.size + 1) (r := ⟨false, r2, r3, true⟩) hbb s2.2.1, put4_far (b := u.heap.size + 1) (r := ⟨false, r2, r3, true⟩) hxr s2.2.2.1, put4_far (b := u.heap.size + 1) (r := ⟨false, r2, r3, true⟩) hxr s2.2.2.2⟩; simp only [put4] at s3; have e2 := rbox (r := noRs) (b := u.heap.size + 1) (h2.less (cs := boxes u.heap.size noRs kd who what) (by intro x hx; simp [noRs] at hx ⊢; exact .inr hx)); clear f0 f1 f2 f3 f4 f5 f6 hk1 hk2; obtain ⟨f0, f1, f2, f3, f4, f5, f6⟩ := e2; simp only [noRs] at f0 f1 f2 f3; have H2 := Lib.hid h2; clear h2))
    have H3 := Lib.hid (Hst.put P (s := noRs) (r := ⟨false, r2, r3, true⟩) (H2.out.less (cs := boxes u.heap.size noRs kd who what) (by intro x hx; simp [noRs] at hx ⊢; exact .inr hx)) (by intro x hx; simp at hx; subst hx; simp))
    simp only [put4, rsObj] at H3
    clear s2 s3 f0 f1 f2 f3 f4 H2 C1 HE3 M1 M2 x0 x1 x2 x3 xf y1 a0 a1 a2 a3 a4
    generalize (((u2.setCell _ _).setCell _ _).setCell _ _).setCell _ _ = u3 at *
    obtain ⟨f0, f1, f2, f3, f4, f5, f6⟩ := rbox (r := ⟨false, r2, r3, true⟩) H3.out
    obtain ⟨q1, d1, q2, d2, q3, d3, x0, x1, x2, x3, l1, l2, l3, xf⟩ := H3.out.cells
    simp only at f0 f1 f2 f3 x0 x1 x2 x3
    go_wp2
    clear l1 l2 l3 x0 x1 x2 x3 xf f0 f1 f2 f3 f4 f5 f6
    have H6 := H3
    clear H3
    have hRW := hR.out.won rfl
    have NW := Lib.hid (show ∀ j, j < won.length → ¬ (won.getD j 0 = r2) from fun j hj e => hRW.2.2.1 (by rw [← e]; exact getD_mem hj))
    have hr0 : 0 ≤ r2 := by have := hRW.1; simp only at this; omega
    have hmod : r2 % (n : Int) = (i : Int) := hRW.2.1
    have MJ := Lib.hid (hR.out.majority (by exact n0) rfl)
    simp only at MJ
    clear hRW
    go_loopw [10] (fun iv wr => ∃ j : Nat, j ≤ won.length ∧ iv = .int .i64 (j : Int) ∧ Hid (Hst PW W hb qs ⟨n, (fun k => if k = i then e' else el k), fr, won⟩ (boxes u.heap.size ⟨false, r2, r3, true⟩ kd who what) wr)) (fun iv _ => won.length - (intOf iv).toNat)
    case atStart => exact ⟨0, by omega, rfl, H6⟩
    case round =>
      obtain ⟨j, hj, rfl, L1⟩ := hrel
      clear H6
      by_cases hlt : j < won.length
      · have hlt' : (j : Int) < (won.length : Int) := by omega
        obtain ⟨p1, c1, p2, c2, p3, c3, x0, x1, x2, x3, l1, l2, l3, xf⟩ := L1.out.cells
        obtain ⟨f0, f1, f2, f3, f4, f5, f6⟩ := rbox L1.out
        simp only at f0 f1 f2 f3 x0 x1 x2 x3 l3
        obtain ⟨b, o, rfl, hat⟩ := int_at l3 hlt
        have hz := NW.out j hlt
        generalize won.getD j 0 = z at *
        clear l1 l2 l3 NW
        go_wp2
        go_quiet (fail)
        go_wp2
        go_roundw
        case rel => exact ⟨j + 1, by omega, by go_num, Lib.hid (L1.out.on P (below_drewN _ _))⟩
        case measure => simp only [intOf]; omega
      · have hlt' : ¬ (j : Int) < (won.length : Int) := by omega
        obtain ⟨p1, c1, p2, c2, p3, c3, ⟨x0, x1, x2, x3, xf⟩, push⟩ := L1.out.wons P
        obtain ⟨f0, f1, f2, f3, f4, f5, f6⟩ := rbox L1.out
        have hbl := L1.out.lt
        have hbl' : ¬ (hb = wr.heap.size) := by omega
        have hbl2 : ¬ (wr.heap.size = hb) := by omega
        have hbr := lt_heap (L1.out.obj (b := u.heap.size + 1) (o := rsObj ⟨false, r2, r3, true⟩) (by simp [rsObj])).1
        have hbr' : ¬ (u.heap.size + 1 = wr.heap.size) := by omega
        have hbr2 : ¬ (wr.heap.size = u.heap.size + 1) := by omega
        have HDW := Lib.hid ((lay wr (.cells #[.int .i64 r2] 3)).drew)
        obtain ⟨ow, pu⟩ := push _ HDW.out
        simp only at f0 f1 f2 f3 x0 x1 x2 x3 ow pu
        have OW := Lib.hid ow
        have PU := Lib.hid pu
        clear ow pu push NW
        have SZ := Lib.hid (Nat.le_trans L1.out.below.size HDW.out.size)
        obtain ⟨i0, hi0, hz0, hz1, hz2⟩ := info_parts infoI
        go_wp2
        go_region_law (refine step_append_lies _ rfl (.tmp 148) (.tmp 151) 50 rfl W.heap.size 3 i0 (.int .i64 0) 1 8 Try.underlying50 hi0 hz0 hz1 hz2 rfl (by decide) (.slice p3 won.length c3) won.length (Kit.cells ints won) rfl OW.out ⟨wr.heap.size, 0, none⟩ 1 1 [.int .i64 r2] rfl rfl (World.news_of_block (heap_alloc_new _ _)) (by intro u hu; simp at hu; subst hu; rfl) (by decide) (by unfold maxLen; omega) (by omega) SZ.out _ rfl ?_; intro g2 cap2 w7 ho hg hat hlt; obtain ⟨⟨z0, z1, z2, z3, zf⟩, hx, dd⟩ := PU.out r2 g2 cap2 w7 ho hg hat; have D := Lib.hid dd; obtain ⟨k0, k1, k2, k3⟩ := rs4 (b := u.heap.size + 1) (T := 40) (r := ⟨false, r2, r3, true⟩) (hx (u.heap.size + 1, rsObj ⟨false, r2, r3, true⟩) (by simp [rsObj])); simp only at z0 z1 z2 z3 k0 k1 k2 k3 D; clear ho hg hat hx dd PU OW HDW SZ x0 x1 x2 x3 xf f0 f1 f2 f3 f4)
        all_goals
          clear hi0 hz0 hz1 hz2
          go_wp2
          have H7 := D
          clear z0 z1 z2 z3 zf k0 k1 k2 k3 D hbl hbl' hbl2 hbr hbr' hbr2 hlt' L1
          generalize w7.setCell _ _ = u7 at *
          have CP := Lib.hid (fun j (hj : j < n) u1 (h1 : Hst PW W hb qs ⟨n, (fun k => if k = i then e' else el k), fr, won ++ [r2]⟩ (boxes u.heap.size ⟨false, r2, r3, true⟩ kd who what) u1) => hst_promised P h1 (i := j) hj)
          go_loopw [11, 12] (fun pv iv wr => ∃ j t : Nat, j ≤ n ∧ t ≤ j ∧ iv = .int .i64 (j : Int) ∧ pv = .int .i64 (t : Int) ∧ Hid (t = (List.range j).countP (fun k => decide (r2 ≤ P' ⟨n, el, fr, won⟩ i e' k))) ∧ Hid (Hst PW W hb qs ⟨n, (fun k => if k = i then e' else el k), fr, won ++ [r2]⟩ (boxes u.heap.size ⟨false, r2, r3, true⟩ kd who what) wr)) (fun _ iv _ => n - (intOf iv).toNat)
          case atStart => exact ⟨0, 0, by omega, by omega, rfl, rfl, Lib.hid rfl, H7⟩
          case round =>
            obtain ⟨j, t, hj, ht, rfl, rfl, HT, L2⟩ := hrel
            clear H7
            obtain ⟨p1, c1, p2, c2, p3, c3, x0, x1, x2, x3, l1, l2, l3, xf⟩ := L2.out.cells
            obtain ⟨f0, f1, f2, f3, f4, f5, f6⟩ := rbox L2.out
            simp only at f0 f1 f2 f3 x0 x1 x2 x3
            clear l2 l3 x2 x3 f0 f2 f3
            by_cases hlt : j < n
            · have hlt' : (j : Int) < (n : Int) := by omega
              obtain ⟨b, o, rfl, hat⟩ := ptr_at l1 (j := j) (by omega)
              have cj := Lib.hid (fun u1 h1 => CP.out j hlt u1 h1)
              simp only at cj
              have hp : P' ⟨n, el, fr, won⟩ i e' j = (if j = i then e' else el j).promised := by unfold P'; split <;> rfl
              have HP := Lib.hid hp
              clear hp l1 CP
              generalize qs.getD j 0 = qj at *
              generalize (if j = i then e' else el j).promised = pj at *
              have L3 := Lib.hid (L2.out.on P (Below.refl _ _).drew)
              by_cases hge : r2 ≤ pj
              all_goals
                go_wp2
                go_region_held3 (fun u' => u'.cell? ⟨hb, 1, none⟩ = some (.slice (some ⟨b, o, none⟩) n c1) ∧ u'.cell? ⟨b, o + j, none⟩ = some (.pointer (some ⟨qj, 0, none⟩)) ∧ u'.cell? ⟨u.heap.size + 1, 1, none⟩ = some (.int .i64 r2)) (first | assumption | exact ⟨x1, hat, f1⟩) (first
                  | (go_at_call 8; (with_reducible refine (cj.out _ L3.out).mono ?_); rintro y w8 ⟨rfl, h8, hb8⟩; have L4 := Lib.hid h8; have s8 : _ ∧ _ ∧ _ := ⟨cell_on x1 (undrewE hb8), cell_on hat (undrewE hb8), cell_on f1 (undrewE hb8)⟩; clear h8 hb8 cj))
                go_wp2
                go_roundw
                case rel => first
                  | exact ⟨j + 1, t + 1, by omega, by omega, by go_num, by go_num, Lib.hid (cnt_yes HT.out (by rw [HP.out]; simpa using hge)), L4⟩
                  | exact ⟨j + 1, t, by omega, by omega, by go_num, by go_num, Lib.hid (cnt_no HT.out (by rw [HP.out]; simpa using hge)), L4⟩
                case measure => simp only [intOf]; omega
            · have hlt' : ¬ (j : Int) < (n : Int) := by omega
              obtain rfl : j = n := by omega
              have hmt : Ring.maj (j : Int) ≤ (t : Int) := by have := MJ.out; rw [HT.out]; exact this
              have cM := Lib.hid (fun u' => (Ring.maj_any (j : Int) u' (by omega)).mono (R' := fun y w' => y = .returned (.int .i64 (Ring.maj (j : Int))) ∧ w' = u') fun y w' h => ⟨h.1, h.2.symm⟩)
              generalize Ring.maj (j : Int) = mm at *
              have hmt' : decide (mm ≤ (t : Int)) = true := by simpa using hmt
              have gi : ((i : Int) == (i : Int)) = true := by simp
              clear l1 CP
              go_wp2
              go_quiet ((go_at_call 28; exact Calls.quiet_of_same (cM.out _)))
              go_wp2
              go_ret
              exact ⟨rfl, ⟨j, (fun k => if k = i then e' else el k), fr, won ++ [r2]⟩, by simpa [Elect.after] using hI'.out.after il hR.out, rfl, by simp, by simp, (L2.out.on P (below_drewN _ _)).less (by simp)⟩
  · go_region_held3 (fun u' => u'.cell? ⟨hb, 1, none⟩ = some (.slice (some ⟨bb, oo, none⟩) n c1) ∧ u'.cell? ⟨bb, oo + i, none⟩ = some (.pointer (some ⟨q, 0, none⟩)) ∧ u'.cell? ⟨xb, 1, none⟩ = some (.int .i64 g2) ∧ u'.cell? ⟨xb, 2, none⟩ = some (.int .u64 g3)) (first | with_reducible assumption | with_reducible exact M1.out) (first
      | (go_at_call 13; (with_reducible refine (C1.out _ _ HE3.out).mono ?_); rintro y u2 ⟨rfl, h2, hk1, hk2⟩; have s2 : _ ∧ _ ∧ _ ∧ _ := ⟨hk1 1 _ M1.out.1, hk2 bb oo c1 M1.out.1 _ _ M1.out.2.1, (rbox (r := ⟨g1, g2, g3, g4⟩) h2).2.1, (rbox (r := ⟨g1, g2, g3, g4⟩) h2).2.2.1⟩; have s3 : _ ∧ _ ∧ _ ∧ _ := ⟨put4_far (b := u.heap.size + 1) (r := ⟨true, r2, r3, false⟩) hhb s2.1, put4_far (b := u.heap.size + 1) (r := ⟨true, r2, r3, false⟩) hbb s2.2.1, put4_far (b := u.heap.size + 1) (r := ⟨true, r2, r3, false⟩) hxr s2.2.2.1, put4_far (b := u.heap.size + 1) (r := ⟨true, r2, r3, false⟩) hxr s2.2.2.2⟩; simp only [put4] at s3; have e2 := rbox (r := noRs) (b := u.heap.size + 1) (h2.less (cs := boxes u.heap.size noRs kd who what) (by intro x hx; simp [noRs] at hx ⊢; exact .inr hx)); clear f0 f1 f2 f3 f4 f5 f6 hk1 hk2; obtain ⟨f0, f1, f2, f3, f4, f5, f6⟩ := e2; simp only [noRs] at f0 f1 f2 f3; have H2 := Lib.hid h2; clear h2))
    have H3 := Lib.hid (Hst.put P (s := noRs) (r := ⟨true, r2, r3, false⟩) (H2.out.less (cs := boxes u.heap.size noRs kd who what) (by intro x hx; simp [noRs] at hx ⊢; exact .inr hx)) (by intro x hx; simp at hx; subst hx; simp))
    simp only [put4, rsObj] at H3
    clear s2 s3 f0 f1 f2 f3 f4 H2 C1 HE3 M1 M2 x0 x1 x2 x3 xf y1 a0 a1 a2 a3 a4
    generalize (((u2.setCell _ _).setCell _ _).setCell _ _).setCell _ _ = u3 at *
    obtain ⟨f0, f1, f2, f3, f4, f5, f6⟩ := rbox (r := ⟨true, r2, r3, false⟩) H3.out
    obtain ⟨q1, d1, q2, d2, q3, d3, x0, x1, x2, x3, l1, l2, l3, xf⟩ := H3.out.cells
    simp only at f0 f1 f2 f3 x0 x1 x2 x3
    go_wp2
    clear l1 l2 l3 x0 x1 x2 x3 xf f0 f1 f2 f3 f4 f5 f6
    obtain ⟨p1, c1, p2, c2, p3, c3, ⟨x0, x1, x2, x3, xf⟩, push⟩ := H3.out.frames P
    obtain ⟨f0, f1, f2, f3, f4, f5, f6⟩ := rbox (r := ⟨true, r2, r3, false⟩) H3.out
    have hbl := H3.out.lt
    have hbl' : ¬ (hb = u3.heap.size) := by omega
    have hbl2 : ¬ (u3.heap.size = hb) := by omega
    have hbr := lt_heap (H3.out.obj (b := u.heap.size + 1) (o := rsObj ⟨true, r2, r3, false⟩) (by simp [rsObj])).1
    have hbr' : ¬ (u.heap.size + 1 = u3.heap.size) := by omega
    have hbr2 : ¬ (u3.heap.size = u.heap.size + 1) := by omega
    have HDW := Lib.hid ((lay u3 (.cells #[.bool true, .int .i64 r2, .int .u64 r3, .bool false] 40)).drew)
    obtain ⟨ow, pu⟩ := push _ HDW.out
    simp only at f0 f1 f2 f3 x0 x1 x2 x3 ow pu
    have OW := Lib.hid ow
    have PU := Lib.hid pu
    clear ow pu push
    have SZ := Lib.hid (Nat.le_trans H3.out.below.size HDW.out.size)
    obtain ⟨i0, hi0, hz0, hz1, hz2⟩ := info_parts infoR
    go_wp2
    go_region_law (refine step_append_lies _ rfl (.tmp 116) (.tmp 118) 49 rfl W.heap.size 40 i0 (.agg #[.bool false, .int .i64 0, .int .u64 0, .bool false]) 4 32 Try.underlying49 hi0 hz0 hz1 hz2 rfl (by decide) (.slice p2 fr.length c2) fr.length (Kit.cells resE fr) rfl OW.out ⟨u3.heap.size, 0, none⟩ 1 1 [.bool true, .int .i64 r2, .int .u64 r3, .bool false] rfl rfl (World.news_of_block (heap_alloc_new _ _)) (by intro u hu; simp at hu; rcases hu with rfl | rfl | rfl | rfl <;> rfl) (by decide) (by unfold maxLen; omega) (by omega) SZ.out _ rfl ?_; intro g cap w5 ho hg hat hlt; obtain ⟨⟨z0, z1, z2, z3, zf⟩, hx, dd⟩ := PU.out ⟨true, r2, r3, false⟩ g cap w5 ho hg hat; have D := Lib.hid dd; obtain ⟨k0, k1, k2, k3⟩ := rs4 (b := u.heap.size + 1) (T := 40) (r := ⟨true, r2, r3, false⟩) (hx (u.heap.size + 1, rsObj ⟨true, r2, r3, false⟩) (by simp [rsObj])); simp only at z0 z1 z2 z3 k0 k1 k2 k3 D; clear ho hg hat hx dd PU OW HDW SZ x0 x1 x2 x3 xf f0 f1 f2 f3 f4)
    clear hi0 hz0 hz1 hz2
    go_wp2
    all_goals
      go_ret
      exact ⟨rfl, ⟨n, (fun k => if k = i then e' else el k), fr ++ [⟨true, r2, r3, false⟩], won⟩, by simpa [Elect.after] using hI'.out.after il hR.out, rfl, by simp, by simp, D.out.less (by simp)⟩
  · exact absurd ⟨rfl, rfl⟩ HSW.out
end Go.Proofs.Ythehbphpchmdiaa.Elect
