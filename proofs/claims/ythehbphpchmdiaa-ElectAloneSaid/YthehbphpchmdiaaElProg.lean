/-
  The program's Stand and New; all that is asked of the program's election (Way17) holds of it: its block.
-/
import Derived.Test.YthehbphpchmdiaaElTake
namespace Go.Proofs.Ythehbphpchmdiaa.Elect
open Go.RowKit
open _root_.Go.Proofs.Ythehbphpchmdiaa.Codec (lt_of_heap frozen_of heap_set below_new)
open _root_.Go.Proofs.Ythehbphpchmdiaa.Kit (cell_on lt_heap below_drewN)
open _root_.Go.Proofs.Ythehbphpchmdiaa.Ring (has put okRing all has_all meet count maj only all_lo all_hi meet_lo meet_hi)

section
variable {w : World} {q : Nat} {e : El}
set_option maxRecDepth 100000 in
set_option maxHeartbeats 4000000 in
theorem pstand_any (h : Pb w q e) (hg : (1 ≤ e.n ∧ e.n ≤ 64) ∧ e.promised ≤ 1099511627776 ∧ 0 ≤ e.promised) :
    Calls Try.prog 12 #[.pointer (some ⟨q, 0, none⟩)] w fun y w' => y = .returned (.tuple #[rsVal (pstand e).2.1, .int .i64 (pstand e).2.2]) ∧ PStep w q (pstand e).1 w' := by
  have HN := Lib.hid (fun u => (Conf.next_any e.n e.promised e.node u).mono (R' := fun x w' => x = .returned (.tuple #[.int .i64 (Conf.next e.n e.promised e.node).1, .int .i64 (Conf.next e.n e.promised e.node).2]) ∧ w' = u) fun x w' h => ⟨h.1, h.2.symm⟩)
  have HH := Lib.hid h
  have HB := Lib.hid (lay w (boxr false 0 0 false))
  have hz := heap_alloc_new w (boxr false 0 0 false)
  have hvl := h.lt
  have HVL := Lib.hid hvl
  have ne1 : ¬ (q = w.heap.size) := by omega
  have ne2 : ¬ (w.heap.size = q) := by omega
  obtain ⟨k0, k1, k2, k3, k4, k5, f0⟩ := (h.below HB.out).cell
  obtain ⟨b0, b1, b2, b3, g0⟩ := boxr_cells hz
  have HZ := Lib.hid hz
  clear hz hvl
  by_cases h0 : (Conf.next e.n e.promised e.node).2 = 0
  · have hbd := next_bounds h0
    rw [h0] at HN
    have HR := Lib.hid (show pstand e = (pwin (stands e (Conf.next e.n e.promised e.node).1), ⟨!pwon (stands e (Conf.next e.n e.promised e.node).1), (Conf.next e.n e.promised e.node).1, put 0 e.node, pwon (stands e (Conf.next e.n e.promised e.node).1)⟩, 0) by unfold pstand; rw [if_pos h0])
    clear h0
    generalize (Conf.next e.n e.promised e.node).1 = b at *
    obtain ⟨z0, z1, -, z3, -, z5⟩ := hbd
    have z5' : e.n ≠ 0 := by omega
    have HP := Lib.hid (fun u (hu : Below w.heap.size w u) => promise_any (h.below hu) b)
    have HS := Lib.hid (fun u (hu : Below w.heap.size w u) => PStep.same h hu)
    have HPC := Lib.hid (show ∀ u, Pb u q (ppromise e b) → u.cell? ⟨q, 0, none⟩ = some (.int .i64 e.n) ∧ u.cell? ⟨q, 3, none⟩ = some (.int .i64 e.round) ∧ u.cell? ⟨q, 4, none⟩ = some (.int .i64 0) ∧ ∀ o, u.frozen? ⟨q, o, none⟩ = false from fun u hu => ⟨hu.cell.1, hu.cell.2.2.2.1, hu.cell.2.2.2.2.1, hu.cell.2.2.2.2.2.2⟩)
    have HST := Lib.hid (fun u (hu : PStep w q (ppromise e b) u) => ((hu.set (o := 3) (x := .int .i64 (b / e.n)) rfl (e' := ⟨e.n, e.node, b, b / e.n, 0, put 0 e.node⟩) rfl).set (o := 4) (x := .int .i64 b) rfl (e' := stands e b) rfl))
    have HWI := Lib.hid (fun u (hu : Pb u q (stands e b)) => win_any hu hg.1 (put0 _))
    have HWB := Lib.hid (show ∀ u, Pb u q (pwin (stands e b)) → u.cell? ⟨q, 5, none⟩ = some (.int .u64 (put 0 e.node)) from fun u hu => by
      have := hu.cell.2.2.2.2.2.1
      rw [this]
      unfold pwin
      split <;> rfl)
    generalize pwon (stands e b) = m at *
    generalize pwin (stands e b) = e2 at *
    generalize stands e b = e1 at *
    generalize ppromise e b = e0 at *
    generalize put 0 e.node = pb at *
    clear h hg
    go_enter Try.func12, Try.ntmps12
    go_wp2
    go_quiet ((go_at_call 25; exact Calls.quiet_of_same (HN.out _)))
    have HBq := Lib.hid (HB.out.trans ((below_drewN (w.alloc (boxr false 0 0 false)) nq).mono HB.out.size))
    have HZq := Lib.hid (show ((w.alloc (boxr false 0 0 false)).drewN nq).heap[w.heap.size]? = some (boxr false 0 0 false) from HZ.out)
    have HSZ := Lib.hid (show ((w.alloc (boxr false 0 0 false)).drewN nq).heap.size = w.heap.size + 1 by show (w.alloc (boxr false 0 0 false)).heap.size = _; simp)
    clear k0 k1 k2 k3 k4 k5 f0 b0 b1 b2 b3 g0 HB HZ HN
    generalize (w.alloc _).drewN nq = W0 at *
    go_wp2_with (first
      | (go_at_call 26; (with_reducible refine (HP.out _ HBq.out).mono ?_); rintro y u1 ⟨rfl, hp⟩; have HP1 := Lib.hid ((HS.out _ HBq.out).trans hp); obtain ⟨q0, q3, q4, g5⟩ := HPC.out _ hp.pb; have HA := Lib.hid (HST.out _ HP1.out); have KZ1 := Lib.hid ((hp.only w.heap.size ne2 (by rw [HSZ.out]; omega)).trans HZq.out); clear hp)
      | (go_at_call 27; (with_reducible refine (HWI.out _ HA.out.pb).mono ?_); rintro y u2 ⟨rfl, hp⟩; have H5 := Lib.hid (HA.out.trans hp); have q5 := HWB.out _ hp.pb; have KZ2 := Lib.hid ((hp.only w.heap.size ne2 (lt_heap ((Below.heap_setCell _ ⟨q, 4, none⟩ (.int .i64 b) _ ne2).trans ((Below.heap_setCell _ ⟨q, 3, none⟩ (.int .i64 (b / e.n)) _ ne2).trans KZ1.out)))).trans ((Below.heap_setCell _ ⟨q, 4, none⟩ (.int .i64 b) _ ne2).trans ((Below.heap_setCell _ ⟨q, 3, none⟩ (.int .i64 (b / e.n)) _ ne2).trans KZ1.out))); obtain ⟨c0, c1, c2, c3, gz⟩ := boxr_cells KZ2.out; clear hp))
    rw [HR.out]
    change bodyPost _ _ _ _ _ (Elect.put4 u2 w.heap.size ⟨!m, b, pb, m⟩)
    obtain ⟨j0, j1, j2, j3⟩ := put4_cells KZ2.out ⟨!m, b, pb, m⟩
    have HF := H5.out.put4 HVL.out (Nat.le_refl _) ⟨!m, b, pb, m⟩
    generalize Elect.put4 u2 w.heap.size ⟨!m, b, pb, m⟩ = W at *
    refine bodyPost_ret (v := .tuple #[rsVal ⟨!m, b, pb, m⟩, .int .i64 0]) (by simp [results, Try.results12, go_sem, rsVal, j0, j1, j2, j3]) rfl ⟨rfl, HF⟩
  · have hbz : ((Conf.next e.n e.promised e.node).2 != 0) = true := by simp [h0]
    have HR := Lib.hid (show pstand e = (e, noRs, (Conf.next e.n e.promised e.node).2) by unfold pstand; rw [if_neg h0])
    have HS := Lib.hid (fun m : Nat => PStep.same h (HB.out.trans ((below_drewN (w.alloc (boxr false 0 0 false)) m).mono HB.out.size)))
    generalize Conf.next e.n e.promised e.node = nb at *
    obtain ⟨n1, n2⟩ := nb
    simp only at *
    clear h h0
    go_enter Try.func12, Try.ntmps12
    go_wp2
    go_quiet ((go_at_call 25; exact Calls.quiet_of_same (HN.out _)))
    go_wp2
    rw [HR.out]
    change bodyPost _ _ _ _ _ (Elect.put4 ((w.alloc (boxr false 0 0 false)).drewN nq) w.heap.size noRs)
    obtain ⟨j0, j1, j2, j3⟩ := put4_cells (u := (w.alloc (boxr false 0 0 false)).drewN nq) HZ.out noRs
    have HF := (HS.out nq).put4 HVL.out (Nat.le_refl _) noRs
    generalize Elect.put4 ((w.alloc (boxr false 0 0 false)).drewN nq) w.heap.size noRs = W at *
    refine bodyPost_ret (v := .tuple #[rsVal noRs, .int .i64 n2]) (by simp [results, Try.results12, go_sem, rsVal, j0, j1, j2, j3]) rfl ⟨rfl, HF⟩
theorem pnstand_any (w : World) : Calls Try.prog 12 #[.pointer none] w fun x w' => x = .returned (.tuple #[rsVal noRs, .int .i64 1]) ∧ Below w.heap.size w w' := by
  have HB := Lib.hid (lay w (boxr false 0 0 false))
  go_enter Try.func12, Try.ntmps12
  go_wp2
  refine bodyPost_ret (v := .tuple #[rsVal noRs, .int .i64 1]) (by simp [results, Try.results12, go_sem, rsVal, noRs]) rfl ⟨rfl, HB.out⟩
end
theorem mayBe_eq (x : Int) (w : World) : Calls Try.prog 18 #[.int .i64 x] w fun e w' => e = .returned (.bool (in40 x)) ∧ w = w' := (mayBe_any x w).mono fun _ _ h => ⟨h.1, h.2.symm⟩
set_option maxRecDepth 100000 in
theorem pnew_any (n node promised round : Int) (w : World) (h : okNew n node promised round = true) : Calls Try.prog 6 #[.int .i64 n, .int .i64 node, .int .i64 promised, .int .i64 round] w fun x w' => x = .returned (.tuple #[.pointer (some ⟨w.heap.size, 0, none⟩), .int .i64 0]) ∧ Pb w' w.heap.size (start n node promised round) ∧ Below w.heap.size w w' := by
  have HB := Lib.hid (lay w (.cells #[.int .i64 n, .int .i64 node, .int .i64 promised, .int .i64 round, .int .i64 0, .int .u64 0] 61 (0, 0)))
  have HP := Lib.hid (show Pb (w.alloc (.cells #[.int .i64 n, .int .i64 node, .int .i64 promised, .int .i64 round, .int .i64 0, .int .u64 0] 61 (0, 0))) w.heap.size (start n node promised round) from heap_alloc_new w _)
  obtain ⟨h1, h2, h3, h4⟩ := okNew_iff.1 h
  have HA := Lib.hid (fun u => Ring.all_any n u)
  have HH := Lib.hid (fun u => Ring.has_any (all n) node u (all_lo _) (all_hi _))
  rw [show has (all n) node = true by rw [has_all]; simp [okRing]; omega] at HH
  have HM := Lib.hid (fun u => mayBe_eq promised u)
  rw [in40_iff.2 h3] at HM
  have HM2 := Lib.hid (fun u => mayBe_eq round u)
  rw [in40_iff.2 h4] at HM2
  generalize all n = z at *
  clear h h1 h2 h3 h4
  go_enter Try.func6, Try.ntmps6
  go_wp2_with (first
    | (go_at_call 16; (with_reducible refine (HA.out _).mono ?_); rintro x u1 ⟨rfl, rfl⟩)
    | (go_at_call 17; (with_reducible refine (HH.out _).mono ?_); rintro x u1 ⟨rfl, rfl⟩)
    | (go_at_call 18; (with_reducible refine (HM.out _).mono ?_); rintro x u1 ⟨rfl, rfl⟩)
    | (go_at_call 18; (with_reducible refine (HM2.out _).mono ?_); rintro x u1 ⟨rfl, rfl⟩))
  refine bodyPost_ret (v := .tuple #[.pointer (some ⟨w.heap.size, 0, none⟩), .int .i64 0]) (by simp [results, Try.results6, go_sem]) rfl ⟨rfl, HP.out, HB.out⟩
set_option maxRecDepth 100000 in
theorem pbad_any (n node promised round : Int) (w : World) (h : okNew n node promised round = false) : Calls Try.prog 6 #[.int .i64 n, .int .i64 node, .int .i64 promised, .int .i64 round] w fun x w' => x = .returned (.tuple #[.pointer none, .int .i64 1]) ∧ Below w.heap.size w w' := by
  have HA := Lib.hid (fun u => Ring.all_any n u)
  have HH := Lib.hid (fun u => Ring.has_any (all n) node u (all_lo _) (all_hi _))
  have HM := Lib.hid (fun u => mayBe_eq promised u)
  have HM2 := Lib.hid (fun u => mayBe_eq round u)
  have hc : okNew n node promised round = (has (all n) node && in40 promised && in40 round) := by
    rw [has_all]
    unfold okNew
    rfl
  rw [hc] at h
  generalize has (all n) node = b1 at *
  generalize in40 promised = b2 at *
  generalize in40 round = b3 at *
  generalize all n = z at *
  have hcs : b1 = false ∨ (b1 = true ∧ b2 = false) ∨ (b1 = true ∧ b2 = true ∧ b3 = false) := by
    cases b1 <;> cases b2 <;> cases b3 <;> simp_all
  clear h hc
  rcases hcs with rfl | ⟨rfl, rfl⟩ | ⟨rfl, rfl, rfl⟩
  all_goals
    go_enter Try.func6, Try.ntmps6
    go_wp2_with (first
      | (go_at_call 16; (with_reducible refine (HA.out _).mono ?_); rintro x u1 ⟨rfl, rfl⟩)
      | (go_at_call 17; (with_reducible refine (HH.out _).mono ?_); rintro x u1 ⟨rfl, rfl⟩)
      | (go_at_call 18; (with_reducible refine (HM.out _).mono ?_); rintro x u1 ⟨rfl, rfl⟩)
      | (go_at_call 18; (with_reducible refine (HM2.out _).mono ?_); rintro x u1 ⟨rfl, rfl⟩))
    refine bodyPost_ret (v := .tuple #[.pointer none, .int .i64 1]) (by simp [results, Try.results6, go_sem]) rfl ⟨rfl, Below.refl _ _⟩
/-- All that is asked of the program's election holds of it. -/
theorem way17 : Way17 Pe where
  lt h := ⟨h.1.1, by obtain ⟨-, -, p, -, h4⟩ := h; exact lt_of_heap h4⟩
  lower h hB := ⟨⟨Nat.le_trans hB h.1.1, h.1.2⟩, h.2⟩
  turned h hs hG := h.turned hs hG
  new n node promised round w h := (pnew_any n node promised round w h).mono fun x w' ⟨h1, h2, h3⟩ => ⟨_, h1, ⟨⟨Nat.le_refl _, Nat.lt_irrefl _⟩, good_start h, _, Sim.start _ _ _ _, h2⟩, h3⟩
  bad n node promised round w h _ _ _ _ := pbad_any n node promised round w h
  stand h _ := by
    obtain ⟨-, hg, p, hp, hb⟩ := id h
    have hs := hp.stand
    refine (pstand_any hb ⟨by rw [hp.n]; exact hg.n, by rw [hp.promised]; exact hg.promised.2, by rw [hp.promised]; exact hg.promised.1⟩).mono fun x w' ⟨h1, h2⟩ => ⟨by rw [h1, hs.2], h.moved h2 hs.1 hg.stand⟩
  take h _ gen x _ hx := by
    obtain ⟨-, hg, p, hp, hb⟩ := id h
    have hs := hp.take hg gen hx
    refine (ptake_any hb (by rw [hp.n]; exact hg.n) hp.set gen x hx).mono fun y w' ⟨h1, h2⟩ => ⟨by rw [h1, hs.2], h.moved h2 hs.1 (hg.take gen hx)⟩
  raise h _ gen _ := by
    obtain ⟨-, hg, p, hp, hb⟩ := id h
    have hs := hp.raise gen
    refine (praise_any hb gen).mono fun y w' ⟨h1, h2⟩ => ⟨by rw [h1, hs.2], h.moved h2 hs.1 (hg.raise gen)⟩
  promised h := by
    obtain ⟨-, hg, p, hp, hb⟩ := id h
    rw [← hp.promised]
    exact ppromised_any hb
  round h := by
    obtain ⟨-, hg, p, hp, hb⟩ := id h
    rw [← hp.round]
    exact pround_any hb
  standing h := by
    obtain ⟨-, hg, p, hp, hb⟩ := id h
    rw [← hp.ballot]
    exact pstanding_any hb
  nstand := pnstand_any
  ntake := pntake_any
  nraise := pnraise_any
  npromised := pnpromised_any
  nround := pnround_any
  nstanding := pnstanding_any
end Go.Proofs.Ythehbphpchmdiaa.Elect
