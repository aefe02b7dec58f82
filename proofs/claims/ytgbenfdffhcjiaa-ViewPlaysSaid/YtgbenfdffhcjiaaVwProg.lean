/-
  The program's Next and New; all that is asked of the program's view (Way16) holds of it: its block, and its readings, all of a block of their own.
-/
import Derived.Test.YtgbenfdffhcjiaaVwLive
namespace Go.Proofs.Ytgbenfdffhcjiaa.View
open Go.RowKit
open _root_.Go.Proofs.Ytgbenfdffhcjiaa.Codec (lt_of_heap frozen_of heap_set below_new)
open _root_.Go.Proofs.Ytgbenfdffhcjiaa.Kit (Enc Lies Own At Kept Laid Off cell_on lt_heap take_snoc below_drewN ints)
open _root_.Go.Proofs.Ytgbenfdffhcjiaa.Ring (has put all okRing has_all all_lo all_hi)

section
variable {F : Nat → Prop} {w : World} {B q : Nat} {V : Vw}
theorem size_at {u : World} {p : Option Addr} {n c : Nat} (k2 : u.cell? ⟨q, 2, none⟩ = some (.slice p n c)) : Calls Try.prog 19 #[.pointer (some ⟨q, 0, none⟩)] u fun e w' => e = .returned (.int .i64 (n : Int)) ∧ u = w' := by
  go_enter Try.func19, Try.ntmps19
  go_wp2
  go_ret
  exact ⟨rfl, rfl⟩
set_option maxRecDepth 100000 in
theorem pnext_any (h : Pv F B w q V) (now : Int) : Calls Try.prog 14 #[.pointer (some ⟨q, 0, none⟩), .int .i64 now] w fun e w' => e = .returned (.int .i64 (next V now)) ∧ Below w.heap.size w w' := by
  have HN := Lib.hid (fun u => Ring.next_any (live V now) (V.l.length : Int) V.node u (liveTo_lo V now _) (liveTo_hi V now _))
  have HLW := Lib.hid (fun u (hu : Below w.heap.size w u) => plive_any (h.on hu) now)
  obtain ⟨g, k0, k1, k2, -⟩ := h.cell
  unfold next
  clear h k1
  generalize live V now = lv at *
  generalize Ring.next lv (V.l.length : Int) V.node = r at *
  generalize V.node = nd at *
  generalize V.l.length = n at *
  go_enter Try.func14, Try.ntmps14
  go_wp2
  go_region_held3 (fun u => u.cell? ⟨q, 0, none⟩ = some (.int .i64 nd) ∧ u.cell? ⟨q, 2, none⟩ = some (.slice (some ⟨g, 0, none⟩) n n)) (first | exact ⟨k0, k2⟩ | assumption) (first
    | (go_at_call 12; (with_reducible refine (HLW.out _ (Below.refl _ _).drew).mono ?_); rintro e u1 ⟨rfl, hb⟩; have hb1 := Lib.hid (undrewP hb); have j0 := cell_on k0 hb1.out; have j2 := cell_on k2 hb1.out; have hs1 := And.intro j0 j2; clear hb)
    | (go_at_call 19; (with_reducible refine (size_at (by assumption)).mono ?_); rintro e u2 ⟨rfl, rfl⟩)
    | (go_at_call 25; (with_reducible refine (HN.out _).mono ?_); rintro e u3 ⟨rfl, hb⟩; have hb2 := Lib.hid (hb1.out.trans (hb.mono hb1.out.size)); have hs3 := And.intro (cell_on j0 hb) (cell_on j2 hb); clear hb))
  go_wp2
  go_ret
  exact ⟨rfl, hb2.out⟩
theorem pnnext_any (now : Int) (w : World) : Calls Try.prog 14 #[.pointer none, .int .i64 now] w fun e w' => e = .returned (.int .i64 (-1)) ∧ Below w.heap.size w w' := by
  go_enter Try.func14, Try.ntmps14
  go_wp2
  go_ret
  exact ⟨rfl, Below.refl _ _⟩
set_option maxRecDepth 100000 in
theorem pbad_any (n node span now : Int) (w : World) (h : okNew n node = false) : Calls Try.prog 6 #[.int .i64 n, .int .i64 node, .int .i64 span, .int .i64 now] w fun e w' => e = .returned (.tuple #[.pointer none, .int .i64 1]) ∧ Below w.heap.size w w' := by
  have HA := Lib.hid (fun u => Ring.all_any n u)
  have HH := Lib.hid (fun u => Ring.has_any (all n) node u (all_lo _) (all_hi _))
  rw [show has (all n) node = false by rw [has_all]; exact h] at HH
  generalize all n = z at *
  go_enter Try.func6, Try.ntmps6
  go_wp2_with (first
    | (go_at_call 17; (with_reducible refine (HA.out _).mono ?_); rintro e u1 ⟨rfl, rfl⟩)
    | (go_at_call 16; (with_reducible refine (HH.out _).mono ?_); rintro e u1 ⟨rfl, rfl⟩))
  refine bodyPost_ret (v := .tuple #[.pointer none, .int .i64 1]) (by simp [results, Try.results6, go_sem]) rfl ⟨rfl, Below.refl _ _⟩
set_option maxRecDepth 100000 in
set_option maxHeartbeats 4000000 in
theorem pnew_any (n node span now : Int) (w : World) (h : okNew n node = true) : Calls Try.prog 6 #[.int .i64 n, .int .i64 node, .int .i64 span, .int .i64 now] w fun e w' => ∃ q, e = .returned (.tuple #[.pointer (some ⟨q, 0, none⟩), .int .i64 0]) ∧ Pv (fun g => g < w.heap.size) w.heap.size w' q (start n node span now) ∧ Below w.heap.size w w' := by
  obtain ⟨⟨h1, h2⟩, h3, h4⟩ := okNew_iff.1 h
  obtain ⟨N, rfl⟩ : ∃ N : Nat, n = (N : Int) := ⟨n.toNat, by omega⟩
  have HA := Lib.hid (fun u => Ring.all_any (N : Int) u)
  have HH := Lib.hid (fun u => Ring.has_any (all (N : Int)) node u (all_lo _) (all_hi _))
  rw [show has (all (N : Int)) node = true by rw [has_all]; exact h] at HH
  obtain ⟨i0, hi, hz0, hz1, hz2⟩ := info_parts (show (Try.prog.info? 3).map (fun i => (i.zero, i.size, i.bytes)) = some (some (.int .i64 0), 1, 8) by kernel_rfl)
  have HR := Lib.hid (row_made w N)
  have HB := Lib.hid (lay w (.cells (madeCells #[.int .i64 0] N) 3))
  have HF := Lib.hid (fun (u : World) (j : Nat) (hj : j < N) (hr : Row u w.heap.size (fill now N j)) => And.intro (hr.cell (i := j) (by rw [fill_len _ (by omega)]; exact hj)) (And.intro (hr.frozen j) (show Row (u.setCell ⟨w.heap.size, j, none⟩ (.int .i64 now)) w.heap.size (fill now N (j + 1)) by rw [← fill_set now hj]; exact hr.set j now)))
  have HE := Lib.hid (fun (u : World) (hr : Row u w.heap.size (fill now N N)) (hv : u.heap[w.heap.size + 1]? = some (.cells #[.int .i64 node, .int .i64 span, .slice (some ⟨w.heap.size, 0, none⟩) N N] 52 (0, 0))) =>
    (show Pv (fun g => g < w.heap.size) w.heap.size u (w.heap.size + 1) (start (N : Int) node span now) from by
      rw [fill_all] at hr
      have e : (start (N : Int) node span now).l.length = N := by rw [start_len]; rfl
      refine ⟨by omega, by omega, ⟨by omega, by rw [e]; simp [okRing]; omega⟩, w.heap.size, ⟨Nat.le_refl _, by omega⟩, by rw [e]; exact hv, hr⟩))
  generalize all (N : Int) = z at *
  clear h
  go_enter Try.func6, Try.ntmps6
  go_wp2_with (first
    | (go_at_call 17; (with_reducible refine (HA.out _).mono ?_); rintro e u1 ⟨rfl, rfl⟩)
    | (go_at_call 16; (with_reducible refine (HH.out _).mono ?_); rintro e u1 ⟨rfl, rfl⟩)
    | (at_make; refine wpList_make_row _ rfl _ _ 35 rfl 3 i0 (.int .i64 0) Try.underlying35 hi hz0 hz1 rfl .i64 .i64 N rfl rfl (by rw [hz2]; omega) (by omega) ?_))
  generalize hW : (w.alloc (.cells (madeCells #[.int .i64 0] N) 3)).alloc (.cells #[.int .i64 node, .int .i64 span, .slice (some ⟨w.heap.size, 0, none⟩) N N] 52) = W
  have HV := Lib.hid (show W.heap[w.heap.size + 1]? = some (.cells #[.int .i64 node, .int .i64 span, .slice (some ⟨w.heap.size, 0, none⟩) N N] 52 (0, 0)) by
    have := heap_alloc_new (w.alloc (.cells (madeCells #[.int .i64 0] N) 3)) (.cells #[.int .i64 node, .int .i64 span, .slice (some ⟨w.heap.size, 0, none⟩) N N] 52)
    rw [hW] at this
    simpa using this)
  have HB1 := Lib.hid (show Below w.heap.size w W by
    rw [← hW]
    exact HB.out.trans ((lay _ _).mono HB.out.size))
  have HR1 := Lib.hid (show Row W w.heap.size (fill now N 0) by
    rw [← hW, fill_none]
    exact ((lay _ _).block _ (lt_of_heap HR.out)).trans HR.out)
  clear hW HB HR HA HH hi hz0 hz1 hz2
  go_loopw [24] (fun i wr => ∃ j : Nat, j ≤ N ∧ i = .int .i64 (j : Int) ∧ Hid (wr.heap[w.heap.size + 1]? = some (.cells #[.int .i64 node, .int .i64 span, .slice (some ⟨w.heap.size, 0, none⟩) N N] 52 (0, 0))) ∧ Hid (Row wr w.heap.size (fill now N j)) ∧ Hid (Below w.heap.size w wr)) (fun i _ => N - (intOf i).toNat)
  case atStart => exact ⟨0, by omega, rfl, HV, HR1, HB1⟩
  case round =>
    obtain ⟨j, hj, rfl, hv, hr, hbw⟩ := hrel
    by_cases hlt : j < N
    · have hlt' : (j : Int) < (N : Int) := by omega
      have k2 : wr.cell? ⟨w.heap.size + 1, 2, none⟩ = some (.slice (some ⟨w.heap.size, 0, none⟩) N N) := by rw [cell_of_row _ _ 2 _ _ (0, 0) hv.out]; rfl
      obtain ⟨kr, fr, hset⟩ := HF.out wr j hlt hr.out
      have HST := Lib.hid hset
      have HVS := Lib.hid (show (wr.setCell ⟨w.heap.size, j, none⟩ (.int .i64 now)).heap[w.heap.size + 1]? = some (.cells #[.int .i64 node, .int .i64 span, .slice (some ⟨w.heap.size, 0, none⟩) N N] 52 (0, 0)) from (Below.heap_setCell _ _ _ _ (by simp)).trans hv.out)
      have HBS := Lib.hid (hbw.out.setCell (p := ⟨w.heap.size, j, none⟩) (Nat.le_refl _) (.int .i64 now))
      clear HF HE HV HR1 HB1 hset hv hr
      go_wp2
      go_roundw
      case rel => exact ⟨j + 1, by omega, by go_num, HVS, HST, HBS⟩
      case measure => simp only [intOf]; omega
    · have hlt' : ¬ (j : Int) < (N : Int) := by omega
      obtain rfl : j = N := by omega
      have HF := Lib.hid (HE.out wr hr.out hv.out)
      clear HE HV HR1 HB1 hv hr
      go_wp2
      refine bodyPost_ret (v := .tuple #[.pointer (some ⟨w.heap.size + 1, 0, none⟩), .int .i64 0]) (by simp [results, Try.results6, go_sem]) rfl ⟨_, rfl, HF.out, hbw.out⟩
theorem way16 : Way16 Pv where
  turned := fun h hs hG => h.turned hs hG
  new := fun n node span now w h _ _ => pnew_any n node span now w h
  bad := fun n node span now w h _ _ => pbad_any n node span now w h
  hear := fun h hB i x _ _ => phear_any h hB i x
  live := fun h now _ => plive_any h now
  next := fun h now _ => pnext_any h now
  heard := pheard_any
  nhear := pnhear_any
  nlive := pnlive_any
  nnext := pnnext_any
  nheard := pnheard_any
end
end Go.Proofs.Ytgbenfdffhcjiaa.View
