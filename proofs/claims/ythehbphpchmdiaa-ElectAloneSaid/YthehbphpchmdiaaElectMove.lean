/-
  annonalaw17's move, by its kinds.
-/
import Derived.Test.YthehbphpchmdiaaElectRoom
import Derived.Deep.QuietTactic
import Derived.Deep.RegionLaw
namespace Go.Proofs.Ythehbphpchmdiaa.Elect
open Go.RowKit
open _root_.Go.Proofs.Ythehbphpchmdiaa.Codec (lt_of_heap frozen_of heap_set below_new)
open _root_.Go.Proofs.Ythehbphpchmdiaa.Kit (Enc Lies Own At Laid cell_on lt_heap take_snoc below_drewN ints)

set_option maxRecDepth 100000 in
set_option maxHeartbeats 4000000 in
theorem move_stand {PW : Pw} (P : Way17 PW) {W u : World} {hb : Nat} {qs : List Nat} {H : Hl} (h : Hst PW W hb qs H [] u) (hI : Inv H) (hfl : H.frames.length ≤ 1000) (hwl : H.won.length ≤ 1000) (kd who what : Int) (k0 : 0 ≤ kd ∧ kd ≤ 255) (w0 : 0 ≤ who ∧ who ≤ 255) (hk : kd % 8 = 0) :
    Calls Try.prog 15 #[.pointer (some ⟨hb, 0, none⟩), .agg #[.int .u8 kd, .int .u8 who, .int .u16 what]] u fun y w' => y = .returned (.bool true) ∧ ∃ H', Inv H' ∧ H'.n = H.n ∧ H'.frames.length ≤ H.frames.length + 1 ∧ H'.won.length ≤ H.won.length + 1 ∧ Hst PW W hb qs H' [] w' := by
  obtain ⟨n0, n1⟩ := hI.n
  obtain ⟨k0, k1⟩ := k0
  obtain ⟨w0, w1⟩ := w0
  have HM := Lib.hid (h.box P (.cells #[.int .u8 kd, .int .u8 who, .int .u16 what] 56))
  obtain ⟨i, hi⟩ : ∃ i : Nat, who % (H.n : Int) = (i : Int) := ⟨(who % (H.n : Int)).toNat, by have := Int.emod_nonneg who (by omega : (H.n : Int) ≠ 0); omega⟩
  have il : i < H.n := by have := Int.emod_lt_of_pos who (by omega : 0 < (H.n : Int)); omega
  have hne : (H.n : Int) ≠ 0 := by omega
  have hql : qs.length = H.n := by obtain ⟨_, _, _, _, _, e, _⟩ := h; exact e
  obtain ⟨p1, c1, p2, c2, p3, c3, x0, -⟩ := HM.out.cells
  obtain ⟨m0, m1, m2⟩ := mv3 (b := u.heap.size) (k := kd) (g := who) (x := what) (HM.out.obj (by simp)).1
  obtain ⟨q, hq⟩ : ∃ q, qs.getD i 0 = q := ⟨_, rfl⟩
  have C1 := Lib.hid (fun u1 bs (h1 : Hst PW W hb qs H bs u1) => hst_moved P h1 il (N := 12) (args := #[.pointer (some ⟨q, 0, none⟩)]) (R := fun y => y = .returned (.tuple #[rsVal (stand (H.el i)).2.1, .int .i64 (stand (H.el i)).2.2])) (e := (stand (H.el i)).1) (fun F hp hs => hq ▸ P.stand hp hs))
  have hR := Lib.hid (res_stand hI il)
  generalize (stand (H.el i)).1 = e' at *
  generalize (stand (H.el i)).2.2 = er at *
  generalize (stand (H.el i)).2.1 = r at *
  obtain ⟨r1, r2, r3, r4⟩ := r
  have AD := Lib.hid (fun n => (HM.out.on P (below_drewN (u.alloc (.cells #[.int .u8 kd, .int .u8 who, .int .u16 what] 56)) n)).box P (rsObj noRs))
  have hI' := Lib.hid hI
  clear hI
  obtain ⟨n, el, fr, won⟩ := H
  simp only [rsVal, Hl.move] at *
  go_enter Try.func15, Try.ntmps15
  go_wp2
  go_quiet (fail)
  have HD := AD.out nq
  clear x0 m0 m1 m2 AD HM p1 p2 p3 c1 c2 c3
  rw [show ((u.alloc (.cells #[.int .u8 kd, .int .u8 who, .int .u16 what] 56)).drewN nq).heap.size = u.heap.size + 1 by simp] at HD
  simp only [rsObj, noRs] at HD
  obtain ⟨p1, c1, p2, c2, p3, c3, x0, x1, x2, x3, l1, l2, l3, xf⟩ := HD.cells
  obtain ⟨bb, oo, rfl, y1⟩ := ptr_at l1 (j := i) (by omega)
  rw [hq] at y1
  obtain ⟨m0, m1, m2⟩ := mv3 (b := u.heap.size) (k := kd) (g := who) (x := what) (HD.obj (by simp)).1
  have HE := Lib.hid HD
  clear HD l1 l2 l3
  go_wp2_with (first
    | (go_at_call 12; (with_reducible refine (C1.out _ _ HE.out).mono ?_); rintro y u2 ⟨rfl, h2⟩; have H3 := Lib.hid (Hst.put P (s := noRs) (r := ⟨r1, r2, r3, r4⟩) h2 (by intro x hx; simp at hx; subst hx; simp)); simp only [put4, rsObj] at H3; obtain ⟨f0, f1, f2, f3, f4, f5, f6⟩ := rbox (r := noRs) h2; simp only [noRs] at f0 f1 f2 f3; clear x0 x1 x2 x3 xf y1 m0 m1 m2; obtain ⟨q1, d1, q2, d2, q3, d3, x0, x1, x2, x3, l1, l2, l3, xf⟩ := h2.cells; clear h2 C1 HE; cases r1 <;> cases r4))
  all_goals
    clear l1 l2 l3 x0 x1 x2 x3 xf f0 f1 f2 f3 f4 f5 f6 q1 d1 q2 d2 q3 d3
    generalize (((u2.setCell _ _).setCell _ _).setCell _ _).setCell _ _ = u3 at *
  · go_ret
    exact ⟨rfl, ⟨n, _, fr, won⟩, hI'.out.after il hR.out, rfl, by simp, by simp, H3.out.less (by simp)⟩
  · have H6 := H3
    clear H3
    have hRW := hR.out.won rfl
    have NW := Lib.hid (show ∀ j, j < won.length → ¬ (won.getD j 0 = r2) from fun j hj e => hRW.2.2.1 (by rw [← e]; exact getD_mem hj))
    have hr0 : 0 ≤ r2 := by have := hRW.1; simp only at this; omega
    have hmod : r2 % (n : Int) = (i : Int) := hRW.2.1
    have MJ := Lib.hid (hR.out.majority (by exact n0) rfl)
    simp only at MJ
    clear hRW
    go_loopw [10] (fun iv wr => ∃ j : Nat, j ≤ won.length ∧ iv = .int .i64 (j : Int) ∧ Hid (Hst PW W hb qs ⟨n, (fun k => if k = i then e' else el k), fr, won⟩ (boxes u.heap.size ⟨false, r2, r3, true⟩ kd who what) wr)) (fun iv _ => won.length - (intOf iv).toNat)
    case atStart => exact ⟨0, by omega, rfl, H6⟩
    case round =>
      obtain ⟨j, hj, rfl, L1⟩ := hrel
      clear H6
      by_cases hlt : j < won.length
      · have hlt' : (j : Int) < (won.length : Int) := by omega
        obtain ⟨p1, c1, p2, c2, p3, c3, x0, x1, x2, x3, l1, l2, l3, xf⟩ := L1.out.cells
        obtain ⟨f0, f1, f2, f3, f4, f5, f6⟩ := rbox L1.out
        simp only at f0 f1 f2 f3 x0 x1 x2 x3 l3
        obtain ⟨b, o, rfl, hat⟩ := int_at l3 hlt
        have hz := NW.out j hlt
        generalize won.getD j 0 = z at *
        clear l1 l2 l3 NW
        go_wp2
        go_quiet (fail)
        go_wp2
        go_roundw
        case rel => exact ⟨j + 1, by omega, by go_num, Lib.hid (L1.out.on P (below_drewN _ _))⟩
        case measure => simp only [intOf]; omega
      · have hlt' : ¬ (j : Int) < (won.length : Int) := by omega
        obtain ⟨p1, c1, p2, c2, p3, c3, ⟨x0, x1, x2, x3, xf⟩, push⟩ := L1.out.wons P
        obtain ⟨f0, f1, f2, f3, f4, f5, f6⟩ := rbox L1.out
        have hbl := L1.out.lt
        have hbl' : ¬ (hb = wr.heap.size) := by omega
        have hbl2 : ¬ (wr.heap.size = hb) := by omega
        have hbr := lt_heap (L1.out.obj (b := u.heap.size + 1) (o := rsObj ⟨false, r2, r3, true⟩) (by simp [rsObj])).1
        have hbr' : ¬ (u.heap.size + 1 = wr.heap.size) := by omega
        have hbr2 : ¬ (wr.heap.size = u.heap.size + 1) := by omega
        have HDW := Lib.hid ((lay wr (.cells #[.int .i64 r2] 3)).drew)
        obtain ⟨ow, pu⟩ := push _ HDW.out
        simp only at f0 f1 f2 f3 x0 x1 x2 x3 ow pu
        have OW := Lib.hid ow
        have PU := Lib.hid pu
        clear ow pu push NW
        have SZ := Lib.hid (Nat.le_trans L1.out.below.size HDW.out.size)
        obtain ⟨i0, hi0, hz0, hz1, hz2⟩ := info_parts infoI
        go_wp2
        go_region_law (refine step_append_lies _ rfl (.tmp 148) (.tmp 151) 50 rfl W.heap.size 3 i0 (.int .i64 0) 1 8 Try.underlying50 hi0 hz0 hz1 hz2 rfl (by decide) (.slice p3 won.length c3) won.length (Kit.cells ints won) rfl OW.out ⟨wr.heap.size, 0, none⟩ 1 1 [.int .i64 r2] rfl rfl (World.news_of_block (heap_alloc_new _ _)) (by intro u hu; simp at hu; subst hu; rfl) (by decide) (by unfold maxLen; omega) (by omega) SZ.out _ rfl ?_; intro g2 cap2 w7 ho hg hat hlt; obtain ⟨⟨z0, z1, z2, z3, zf⟩, hx, dd⟩ := PU.out r2 g2 cap2 w7 ho hg hat; have D := Lib.hid dd; obtain ⟨k0, k1, k2, k3⟩ := rs4 (b := u.heap.size + 1) (T := 40) (r := ⟨false, r2, r3, true⟩) (hx (u.heap.size + 1, rsObj ⟨false, r2, r3, true⟩) (by simp [rsObj])); simp only at z0 z1 z2 z3 k0 k1 k2 k3 D; clear ho hg hat hx dd PU OW HDW SZ x0 x1 x2 x3 xf f0 f1 f2 f3 f4)
        all_goals
          clear hi0 hz0 hz1 hz2
          go_wp2
          have H7 := D
          clear z0 z1 z2 z3 zf k0 k1 k2 k3 D hbl hbl' hbl2 hbr hbr' hbr2 hlt' L1
          generalize w7.setCell _ _ = u7 at *
          have CP := Lib.hid (fun j (hj : j < n) u1 (h1 : Hst PW W hb qs ⟨n, (fun k => if k = i then e' else el k), fr, won ++ [r2]⟩ (boxes u.heap.size ⟨false, r2, r3, true⟩ kd who what) u1) => hst_promised P h1 (i := j) hj)
          go_loopw [11, 12] (fun pv iv wr => ∃ j t : Nat, j ≤ n ∧ t ≤ j ∧ iv = .int .i64 (j : Int) ∧ pv = .int .i64 (t : Int) ∧ Hid (t = (List.range j).countP (fun k => decide (r2 ≤ P' ⟨n, el, fr, won⟩ i e' k))) ∧ Hid (Hst PW W hb qs ⟨n, (fun k => if k = i then e' else el k), fr, won ++ [r2]⟩ (boxes u.heap.size ⟨false, r2, r3, true⟩ kd who what) wr)) (fun _ iv _ => n - (intOf iv).toNat)
          case atStart => exact ⟨0, 0, by omega, by omega, rfl, rfl, Lib.hid rfl, H7⟩
          case round =>
            obtain ⟨j, t, hj, ht, rfl, rfl, HT, L2⟩ := hrel
            clear H7
            obtain ⟨p1, c1, p2, c2, p3, c3, x0, x1, x2, x3, l1, l2, l3, xf⟩ := L2.out.cells
            obtain ⟨f0, f1, f2, f3, f4, f5, f6⟩ := rbox L2.out
            simp only at f0 f1 f2 f3 x0 x1 x2 x3
            clear l2 l3 x2 x3 f0 f2 f3
            by_cases hlt : j < n
            · have hlt' : (j : Int) < (n : Int) := by omega
              obtain ⟨b, o, rfl, hat⟩ := ptr_at l1 (j := j) (by omega)
              have cj := Lib.hid (fun u1 h1 => CP.out j hlt u1 h1)
              simp only at cj
              have hp : P' ⟨n, el, fr, won⟩ i e' j = (if j = i then e' else el j).promised := by unfold P'; split <;> rfl
              have HP := Lib.hid hp
              clear hp l1 CP
              generalize qs.getD j 0 = qj at *
              generalize (if j = i then e' else el j).promised = pj at *
              have L3 := Lib.hid (L2.out.on P (Below.refl _ _).drew)
              by_cases hge : r2 ≤ pj
              all_goals
                go_wp2
                go_region_held3 (fun u' => u'.cell? ⟨hb, 1, none⟩ = some (.slice (some ⟨b, o, none⟩) n c1) ∧ u'.cell? ⟨b, o + j, none⟩ = some (.pointer (some ⟨qj, 0, none⟩)) ∧ u'.cell? ⟨u.heap.size + 1, 1, none⟩ = some (.int .i64 r2)) (first | assumption | exact ⟨x1, hat, f1⟩) (first
                  | (go_at_call 8; (with_reducible refine (cj.out _ L3.out).mono ?_); rintro y w8 ⟨rfl, h8, hb8⟩; have L4 := Lib.hid h8; have s8 : _ ∧ _ ∧ _ := ⟨cell_on x1 (undrewE hb8), cell_on hat (undrewE hb8), cell_on f1 (undrewE hb8)⟩; clear h8 hb8 cj))
                go_wp2
                go_roundw
                case rel => first
                  | exact ⟨j + 1, t + 1, by omega, by omega, by go_num, by go_num, Lib.hid (cnt_yes HT.out (by rw [HP.out]; simpa using hge)), L4⟩
                  | exact ⟨j + 1, t, by omega, by omega, by go_num, by go_num, Lib.hid (cnt_no HT.out (by rw [HP.out]; simpa using hge)), L4⟩
                case measure => simp only [intOf]; omega
            · have hlt' : ¬ (j : Int) < (n : Int) := by omega
              obtain rfl : j = n := by omega
              have hmt : Ring.maj (j : Int) ≤ (t : Int) := by have := MJ.out; rw [HT.out]; exact this
              have cM := Lib.hid (fun u' => (Ring.maj_any (j : Int) u' (by omega)).mono (R' := fun y w' => y = .returned (.int .i64 (Ring.maj (j : Int))) ∧ w' = u') fun y w' h => ⟨h.1, h.2.symm⟩)
              generalize Ring.maj (j : Int) = mm at *
              have hmt' : decide (mm ≤ (t : Int)) = true := by simpa using hmt
              have gi : ((i : Int) == (i : Int)) = true := by simp
              clear l1 CP
              go_wp2
              go_quiet ((go_at_call 28; exact Calls.quiet_of_same (cM.out _)))
              go_wp2
              go_ret
              exact ⟨rfl, ⟨j, (fun k => if k = i then e' else el k), fr, won ++ [r2]⟩, by simpa [Elect.after] using hI'.out.after il hR.out, rfl, by simp, by simp, (L2.out.on P (below_drewN _ _)).less (by simp)⟩
  · obtain ⟨p1, c1, p2, c2, p3, c3, ⟨x0, x1, x2, x3, xf⟩, push⟩ := H3.out.frames P
    obtain ⟨f0, f1, f2, f3, f4, f5, f6⟩ := rbox (r := ⟨true, r2, r3, false⟩) H3.out
    have hbl := H3.out.lt
    have hbl' : ¬ (hb = u3.heap.size) := by omega
    have hbl2 : ¬ (u3.heap.size = hb) := by omega
    have hbr := lt_heap (H3.out.obj (b := u.heap.size + 1) (o := rsObj ⟨true, r2, r3, false⟩) (by simp [rsObj])).1
    have hbr' : ¬ (u.heap.size + 1 = u3.heap.size) := by omega
    have hbr2 : ¬ (u3.heap.size = u.heap.size + 1) := by omega
    have HDW := Lib.hid ((lay u3 (.cells #[.bool true, .int .i64 r2, .int .u64 r3, .bool false] 40)).drew)
    obtain ⟨ow, pu⟩ := push _ HDW.out
    simp only at f0 f1 f2 f3 x0 x1 x2 x3 ow pu
    have OW := Lib.hid ow
    have PU := Lib.hid pu
    clear ow pu push
    have SZ := Lib.hid (Nat.le_trans H3.out.below.size HDW.out.size)
    obtain ⟨i0, hi0, hz0, hz1, hz2⟩ := info_parts infoR
    go_wp2
    go_region_law (refine step_append_lies _ rfl (.tmp 116) (.tmp 118) 49 rfl W.heap.size 40 i0 (.agg #[.bool false, .int .i64 0, .int .u64 0, .bool false]) 4 32 Try.underlying49 hi0 hz0 hz1 hz2 rfl (by decide) (.slice p2 fr.length c2) fr.length (Kit.cells resE fr) rfl OW.out ⟨u3.heap.size, 0, none⟩ 1 1 [.bool true, .int .i64 r2, .int .u64 r3, .bool false] rfl rfl (World.news_of_block (heap_alloc_new _ _)) (by intro u hu; simp at hu; rcases hu with rfl | rfl | rfl | rfl <;> rfl) (by decide) (by unfold maxLen; omega) (by omega) SZ.out _ rfl ?_; intro g cap w5 ho hg hat hlt; obtain ⟨⟨z0, z1, z2, z3, zf⟩, hx, dd⟩ := PU.out ⟨true, r2, r3, false⟩ g cap w5 ho hg hat; have D := Lib.hid dd; obtain ⟨k0, k1, k2, k3⟩ := rs4 (b := u.heap.size + 1) (T := 40) (r := ⟨true, r2, r3, false⟩) (hx (u.heap.size + 1, rsObj ⟨true, r2, r3, false⟩) (by simp [rsObj])); simp only at z0 z1 z2 z3 k0 k1 k2 k3 D; clear ho hg hat hx dd PU OW HDW SZ x0 x1 x2 x3 xf f0 f1 f2 f3 f4)
    clear hi0 hz0 hz1 hz2
    go_wp2
    all_goals
      go_ret
      exact ⟨rfl, ⟨n, (fun k => if k = i then e' else el k), fr ++ [⟨true, r2, r3, false⟩], won⟩, by simpa [Elect.after] using hI'.out.after il hR.out, rfl, by simp, by simp, D.out.less (by simp)⟩
  · obtain ⟨p1, c1, p2, c2, p3, c3, ⟨x0, x1, x2, x3, xf⟩, push⟩ := H3.out.frames P
    obtain ⟨f0, f1, f2, f3, f4, f5, f6⟩ := rbox (r := ⟨true, r2, r3, true⟩) H3.out
    have hbl := H3.out.lt
    have hbl' : ¬ (hb = u3.heap.size) := by omega
    have hbl2 : ¬ (u3.heap.size = hb) := by omega
    have hbr := lt_heap (H3.out.obj (b := u.heap.size + 1) (o := rsObj ⟨true, r2, r3, true⟩) (by simp [rsObj])).1
    have hbr' : ¬ (u.heap.size + 1 = u3.heap.size) := by omega
    have hbr2 : ¬ (u3.heap.size = u.heap.size + 1) := by omega
    have HDW := Lib.hid ((lay u3 (.cells #[.bool true, .int .i64 r2, .int .u64 r3, .bool true] 40)).drew)
    obtain ⟨ow, pu⟩ := push _ HDW.out
    simp only at f0 f1 f2 f3 x0 x1 x2 x3 ow pu
    have OW := Lib.hid ow
    have PU := Lib.hid pu
    clear ow pu push
    have SZ := Lib.hid (Nat.le_trans H3.out.below.size HDW.out.size)
    obtain ⟨i0, hi0, hz0, hz1, hz2⟩ := info_parts infoR
    go_wp2
    go_region_law (refine step_append_lies _ rfl (.tmp 116) (.tmp 118) 49 rfl W.heap.size 40 i0 (.agg #[.bool false, .int .i64 0, .int .u64 0, .bool false]) 4 32 Try.underlying49 hi0 hz0 hz1 hz2 rfl (by decide) (.slice p2 fr.length c2) fr.length (Kit.cells resE fr) rfl OW.out ⟨u3.heap.size, 0, none⟩ 1 1 [.bool true, .int .i64 r2, .int .u64 r3, .bool true] rfl rfl (World.news_of_block (heap_alloc_new _ _)) (by intro u hu; simp at hu; rcases hu with rfl | rfl | rfl | rfl <;> rfl) (by decide) (by unfold maxLen; omega) (by omega) SZ.out _ rfl ?_; intro g cap w5 ho hg hat hlt; obtain ⟨⟨z0, z1, z2, z3, zf⟩, hx, dd⟩ := PU.out ⟨true, r2, r3, true⟩ g cap w5 ho hg hat; have D := Lib.hid dd; obtain ⟨k0, k1, k2, k3⟩ := rs4 (b := u.heap.size + 1) (T := 40) (r := ⟨true, r2, r3, true⟩) (hx (u.heap.size + 1, rsObj ⟨true, r2, r3, true⟩) (by simp [rsObj])); simp only at z0 z1 z2 z3 k0 k1 k2 k3 D; clear ho hg hat hx dd PU OW HDW SZ x0 x1 x2 x3 xf f0 f1 f2 f3 f4)
    clear hi0 hz0 hz1 hz2
    go_wp2
    all_goals
      have H6 := D
      clear z0 z1 z2 z3 zf k0 k1 k2 k3 D hbl hbl' hbl2 hbr hbr' hbr2 H3
      generalize w5.setCell _ _ = u6 at *
      have hRW := hR.out.won rfl
      have NW := Lib.hid (show ∀ j, j < won.length → ¬ (won.getD j 0 = r2) from fun j hj e => hRW.2.2.1 (by rw [← e]; exact getD_mem hj))
      have hr0 : 0 ≤ r2 := by have := hRW.1; simp only at this; omega
      have hmod : r2 % (n : Int) = (i : Int) := hRW.2.1
      have MJ := Lib.hid (hR.out.majority (by exact n0) rfl)
      simp only at MJ
      clear hRW
      go_loopw [10] (fun iv wr => ∃ j : Nat, j ≤ won.length ∧ iv = .int .i64 (j : Int) ∧ Hid (Hst PW W hb qs ⟨n, (fun k => if k = i then e' else el k), (fr ++ [⟨true, r2, r3, true⟩]), won⟩ (boxes u.heap.size ⟨true, r2, r3, true⟩ kd who what) wr)) (fun iv _ => won.length - (intOf iv).toNat)
      case atStart => exact ⟨0, by omega, rfl, H6⟩
      case round =>
        obtain ⟨j, hj, rfl, L1⟩ := hrel
        clear H6
        by_cases hlt : j < won.length
        · have hlt' : (j : Int) < (won.length : Int) := by omega
          obtain ⟨p1, c1, p2, c2, p3, c3, x0, x1, x2, x3, l1, l2, l3, xf⟩ := L1.out.cells
          obtain ⟨f0, f1, f2, f3, f4, f5, f6⟩ := rbox L1.out
          simp only at f0 f1 f2 f3 x0 x1 x2 x3 l3
          obtain ⟨b, o, rfl, hat⟩ := int_at l3 hlt
          have hz := NW.out j hlt
          generalize won.getD j 0 = z at *
          clear l1 l2 l3 NW
          go_wp2
          go_quiet (fail)
          go_wp2
          go_roundw
          case rel => exact ⟨j + 1, by omega, by go_num, Lib.hid (L1.out.on P (below_drewN _ _))⟩
          case measure => simp only [intOf]; omega
        · have hlt' : ¬ (j : Int) < (won.length : Int) := by omega
          obtain ⟨p1, c1, p2, c2, p3, c3, ⟨x0, x1, x2, x3, xf⟩, push⟩ := L1.out.wons P
          obtain ⟨f0, f1, f2, f3, f4, f5, f6⟩ := rbox L1.out
          have hbl := L1.out.lt
          have hbl' : ¬ (hb = wr.heap.size) := by omega
          have hbl2 : ¬ (wr.heap.size = hb) := by omega
          have hbr := lt_heap (L1.out.obj (b := u.heap.size + 1) (o := rsObj ⟨true, r2, r3, true⟩) (by simp [rsObj])).1
          have hbr' : ¬ (u.heap.size + 1 = wr.heap.size) := by omega
          have hbr2 : ¬ (wr.heap.size = u.heap.size + 1) := by omega
          have HDW := Lib.hid ((lay wr (.cells #[.int .i64 r2] 3)).drew)
          obtain ⟨ow, pu⟩ := push _ HDW.out
          simp only at f0 f1 f2 f3 x0 x1 x2 x3 ow pu
          have OW := Lib.hid ow
          have PU := Lib.hid pu
          clear ow pu push NW
          have SZ := Lib.hid (Nat.le_trans L1.out.below.size HDW.out.size)
          obtain ⟨i0, hi0, hz0, hz1, hz2⟩ := info_parts infoI
          go_wp2
          go_region_law (refine step_append_lies _ rfl (.tmp 148) (.tmp 151) 50 rfl W.heap.size 3 i0 (.int .i64 0) 1 8 Try.underlying50 hi0 hz0 hz1 hz2 rfl (by decide) (.slice p3 won.length c3) won.length (Kit.cells ints won) rfl OW.out ⟨wr.heap.size, 0, none⟩ 1 1 [.int .i64 r2] rfl rfl (World.news_of_block (heap_alloc_new _ _)) (by intro u hu; simp at hu; subst hu; rfl) (by decide) (by unfold maxLen; omega) (by omega) SZ.out _ rfl ?_; intro g2 cap2 w7 ho hg hat hlt; obtain ⟨⟨z0, z1, z2, z3, zf⟩, hx, dd⟩ := PU.out r2 g2 cap2 w7 ho hg hat; have D := Lib.hid dd; obtain ⟨k0, k1, k2, k3⟩ := rs4 (b := u.heap.size + 1) (T := 40) (r := ⟨true, r2, r3, true⟩) (hx (u.heap.size + 1, rsObj ⟨true, r2, r3, true⟩) (by simp [rsObj])); simp only at z0 z1 z2 z3 k0 k1 k2 k3 D; clear ho hg hat hx dd PU OW HDW SZ x0 x1 x2 x3 xf f0 f1 f2 f3 f4)
          all_goals
            clear hi0 hz0 hz1 hz2
            go_wp2
            have H7 := D
            clear z0 z1 z2 z3 zf k0 k1 k2 k3 D hbl hbl' hbl2 hbr hbr' hbr2 hlt' L1
            generalize w7.setCell _ _ = u7 at *
            have CP := Lib.hid (fun j (hj : j < n) u1 (h1 : Hst PW W hb qs ⟨n, (fun k => if k = i then e' else el k), (fr ++ [⟨true, r2, r3, true⟩]), won ++ [r2]⟩ (boxes u.heap.size ⟨true, r2, r3, true⟩ kd who what) u1) => hst_promised P h1 (i := j) hj)
            go_loopw [11, 12] (fun pv iv wr => ∃ j t : Nat, j ≤ n ∧ t ≤ j ∧ iv = .int .i64 (j : Int) ∧ pv = .int .i64 (t : Int) ∧ Hid (t = (List.range j).countP (fun k => decide (r2 ≤ P' ⟨n, el, fr, won⟩ i e' k))) ∧ Hid (Hst PW W hb qs ⟨n, (fun k => if k = i then e' else el k), (fr ++ [⟨true, r2, r3, true⟩]), won ++ [r2]⟩ (boxes u.heap.size ⟨true, r2, r3, true⟩ kd who what) wr)) (fun _ iv _ => n - (intOf iv).toNat)
            case atStart => exact ⟨0, 0, by omega, by omega, rfl, rfl, Lib.hid rfl, H7⟩
            case round =>
              obtain ⟨j, t, hj, ht, rfl, rfl, HT, L2⟩ := hrel
              clear H7
              obtain ⟨p1, c1, p2, c2, p3, c3, x0, x1, x2, x3, l1, l2, l3, xf⟩ := L2.out.cells
              obtain ⟨f0, f1, f2, f3, f4, f5, f6⟩ := rbox L2.out
              simp only at f0 f1 f2 f3 x0 x1 x2 x3
              clear l2 l3 x2 x3 f0 f2 f3
              by_cases hlt : j < n
              · have hlt' : (j : Int) < (n : Int) := by omega
                obtain ⟨b, o, rfl, hat⟩ := ptr_at l1 (j := j) (by omega)
                have cj := Lib.hid (fun u1 h1 => CP.out j hlt u1 h1)
                simp only at cj
                have hp : P' ⟨n, el, fr, won⟩ i e' j = (if j = i then e' else el j).promised := by unfold P'; split <;> rfl
                have HP := Lib.hid hp
                clear hp l1 CP
                generalize qs.getD j 0 = qj at *
                generalize (if j = i then e' else el j).promised = pj at *
                have L3 := Lib.hid (L2.out.on P (Below.refl _ _).drew)
                by_cases hge : r2 ≤ pj
                all_goals
                  go_wp2
                  go_region_held3 (fun u' => u'.cell? ⟨hb, 1, none⟩ = some (.slice (some ⟨b, o, none⟩) n c1) ∧ u'.cell? ⟨b, o + j, none⟩ = some (.pointer (some ⟨qj, 0, none⟩)) ∧ u'.cell? ⟨u.heap.size + 1, 1, none⟩ = some (.int .i64 r2)) (first | assumption | exact ⟨x1, hat, f1⟩) (first
                    | (go_at_call 8; (with_reducible refine (cj.out _ L3.out).mono ?_); rintro y w8 ⟨rfl, h8, hb8⟩; have L4 := Lib.hid h8; have s8 : _ ∧ _ ∧ _ := ⟨cell_on x1 (undrewE hb8), cell_on hat (undrewE hb8), cell_on f1 (undrewE hb8)⟩; clear h8 hb8 cj))
                  go_wp2
                  go_roundw
                  case rel => first
                    | exact ⟨j + 1, t + 1, by omega, by omega, by go_num, by go_num, Lib.hid (cnt_yes HT.out (by rw [HP.out]; simpa using hge)), L4⟩
                    | exact ⟨j + 1, t, by omega, by omega, by go_num, by go_num, Lib.hid (cnt_no HT.out (by rw [HP.out]; simpa using hge)), L4⟩
                  case measure => simp only [intOf]; omega
              · have hlt' : ¬ (j : Int) < (n : Int) := by omega
                obtain rfl : j = n := by omega
                have hmt : Ring.maj (j : Int) ≤ (t : Int) := by have := MJ.out; rw [HT.out]; exact this
                have cM := Lib.hid (fun u' => (Ring.maj_any (j : Int) u' (by omega)).mono (R' := fun y w' => y = .returned (.int .i64 (Ring.maj (j : Int))) ∧ w' = u') fun y w' h => ⟨h.1, h.2.symm⟩)
                generalize Ring.maj (j : Int) = mm at *
                have hmt' : decide (mm ≤ (t : Int)) = true := by simpa using hmt
                have gi : ((i : Int) == (i : Int)) = true := by simp
                clear l1 CP
                go_wp2
                go_quiet ((go_at_call 28; exact Calls.quiet_of_same (cM.out _)))
                go_wp2
                go_ret
                exact ⟨rfl, ⟨j, (fun k => if k = i then e' else el k), (fr ++ [⟨true, r2, r3, true⟩]), won ++ [r2]⟩, by simpa [Elect.after] using hI'.out.after il hR.out, rfl, by simp, by simp, (L2.out.on P (below_drewN _ _)).less (by simp)⟩
end Go.Proofs.Ythehbphpchmdiaa.Elect
