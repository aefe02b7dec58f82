/-
  The document's election: Take, Stand, New.
-/
import Derived.Test.YthehbphpchmdiaaElectRef
namespace Go.Proofs.Ythehbphpchmdiaa.Elect
open Go.RowKit
open _root_.Go.Proofs.Ythehbphpchmdiaa.Codec (lt_of_heap frozen_of heap_set below_new)
open _root_.Go.Proofs.Ythehbphpchmdiaa.Kit (cell_on lt_heap below_drewN)
open _root_.Go.Proofs.Ythehbphpchmdiaa.Ring (has put okRing)

/-- A result as a value. -/
def rsVal (r : Rs) : Value := .agg #[.bool r.send, .int .i64 r.gen, .int .u64 r.bits, .bool r.won]
abbrev box4 : Obj := .cells #[.bool false, .int .i64 0, .int .u64 0, .bool false] 62 (0, 0)
theorem RStep.box {w w' : World} {v : Nat} {e : El} (h : RStep w v e w') (hv : v < w.heap.size) {r o : Nat} (hr : w.heap.size ≤ r) (x : Value) : RStep w v e (w'.setCell ⟨r, o, none⟩ x) :=
  ⟨(Below.heap_setCell _ _ _ _ (by show v ≠ r; omega)).trans h.re, fun g hn hg => (Below.heap_setCell _ _ _ _ (by show g ≠ r; omega)).trans (h.only g hn hg), h.below.setCell (p := ⟨r, o, none⟩) (by show v ≤ r; omega) x⟩
/-- The cells of a new result. -/
theorem box4_cells {w : World} {r : Nat} (h : w.heap[r]? = some box4) : w.cell? ⟨r, 0, none⟩ = some (.bool false) ∧ w.cell? ⟨r, 1, none⟩ = some (.int .i64 0) ∧ w.cell? ⟨r, 2, none⟩ = some (.int .u64 0) ∧ w.cell? ⟨r, 3, none⟩ = some (.bool false) ∧ ∀ o, w.frozen? ⟨r, o, none⟩ = false :=
  ⟨by rw [cell_of_row w r 0 _ _ (0, 0) h]; rfl, by rw [cell_of_row w r 1 _ _ (0, 0) h]; rfl, by rw [cell_of_row w r 2 _ _ (0, 0) h]; rfl, by rw [cell_of_row w r 3 _ _ (0, 0) h]; rfl, fun o => frozen_of h⟩
/-- A result is laid in its box. -/
def put4 (u : World) (r : Nat) (s : Rs) : World := (((u.setCell ⟨r, 0, none⟩ (.bool s.send)).setCell ⟨r, 1, none⟩ (.int .i64 s.gen)).setCell ⟨r, 2, none⟩ (.int .u64 s.bits)).setCell ⟨r, 3, none⟩ (.bool s.won)
theorem put4_cells {u : World} {r : Nat} {c0 c1 c2 c3 : Value} {T : TypeId} (h : u.heap[r]? = some (.cells #[c0, c1, c2, c3] T (0, 0))) (s : Rs) :
    (put4 u r s).cell? ⟨r, 0, none⟩ = some (.bool s.send) ∧ (put4 u r s).cell? ⟨r, 1, none⟩ = some (.int .i64 s.gen) ∧ (put4 u r s).cell? ⟨r, 2, none⟩ = some (.int .u64 s.bits) ∧ (put4 u r s).cell? ⟨r, 3, none⟩ = some (.bool s.won) := by
  have k : (put4 u r s).heap[r]? = some (.cells #[.bool s.send, .int .i64 s.gen, .int .u64 s.bits, .bool s.won] T (0, 0)) := by
    unfold put4
    have e0 := heap_set r 0 _ (.bool s.send) h
    have e1 := heap_set r 1 _ (.int .i64 s.gen) e0
    have e2 := heap_set r 2 _ (.int .u64 s.bits) e1
    have e3 := heap_set r 3 _ (.bool s.won) e2
    exact e3
  exact ⟨by rw [cell_of_row _ r 0 _ _ (0, 0) k]; rfl, by rw [cell_of_row _ r 1 _ _ (0, 0) k]; rfl, by rw [cell_of_row _ r 2 _ _ (0, 0) k]; rfl, by rw [cell_of_row _ r 3 _ _ (0, 0) k]; rfl⟩
theorem RStep.put4 {w w' : World} {v : Nat} {e : El} (h : RStep w v e w') (hv : v < w.heap.size) {r : Nat} (hr : w.heap.size ≤ r) (s : Rs) : RStep w v e (Elect.put4 w' r s) :=
  (((h.box hv hr _).box hv hr _).box hv hr _).box hv hr _
set_option maxRecDepth 100000 in
set_option maxHeartbeats 4000000 in
theorem rtake_any {w : World} {v : Nat} {e : El} (h : Re w v e) (hg : Good e) (gen x : Int) (hx : Set64 x) :
    Calls Try.prog 24 #[.pointer (some ⟨v, 0, none⟩), .int .i64 gen, .int .u64 x] w fun y w' => y = .returned (rsVal (take e gen x).2) ∧ RStep w v (take e gen x).1 w' := by
  have HI := Lib.hid (fun u => rin_any gen u)
  have HB := Lib.hid (lay w box4)
  have hz := heap_alloc_new w box4
  have HS := Lib.hid (RStep.same h HB.out)
  have hvl := h.lt
  have HVL := Lib.hid hvl
  have ne1 : ¬ (v = w.heap.size) := by omega
  have ne2 : ¬ (w.heap.size = v) := by omega
  obtain ⟨k0, k1, k2, k3, k4, k5, f0⟩ := (h.below HB.out).cell
  obtain ⟨b0, b1, b2, b3, g0⟩ := box4_cells hz
  simp only [box4] at k0 k1 k2 k3 k4 k5 f0 b0 b1 b2 b3 g0
  have HZ := Lib.hid hz
  clear hz hvl
  by_cases h1 : gen < 1
  · have HR := Lib.hid (show take e gen x = (e, noRs) by unfold take; rw [if_pos (.inl h1)])
    clear h
    go_enter Try.func24, Try.ntmps24
    go_wp2
    rw [HR.out]
    refine bodyPost_ret (v := rsVal noRs) (by simp [results, Try.results24, go_sem, rsVal, noRs, b0, b1, b2, b3]) rfl ⟨rfl, HS.out⟩
  have h1' : ¬ gen < 1 := h1
  cases hi : in40 gen
  · have HR := Lib.hid (show take e gen x = (e, noRs) by
      unfold take
      have : 1099511627776 < gen := by
        simp [in40] at hi
        omega
      rw [if_pos (.inr (.inl this))])
    rw [hi] at HI
    clear h hi h1
    go_enter Try.func24, Try.ntmps24
    go_wp2_with (go_at_call 20; (with_reducible refine (HI.out _).mono ?_); rintro y w1 ⟨rfl, rfl⟩)
    rw [HR.out]
    refine bodyPost_ret (v := rsVal noRs) (by simp [results, Try.results24, go_sem, rsVal, noRs, b0, b1, b2, b3]) rfl ⟨rfl, HS.out⟩
  obtain ⟨-, hi2⟩ := in40_iff.1 hi
  rw [hi] at HI
  by_cases h2 : gen < e.promised
  · have HR := Lib.hid (show take e gen x = (e, noRs) by unfold take; rw [if_pos (.inr (.inr h2))])
    clear h hi h1
    go_enter Try.func24, Try.ntmps24
    go_wp2_with (go_at_call 20; (with_reducible refine (HI.out _).mono ?_); rintro y w1 ⟨rfl, rfl⟩)
    rw [HR.out]
    refine bodyPost_ret (v := rsVal noRs) (by simp [results, Try.results24, go_sem, rsVal, noRs, b0, b1, b2, b3]) rfl ⟨rfl, HS.out⟩
  have hno : ¬ (gen < 1 ∨ 1099511627776 < gen ∨ gen < e.promised) := by omega
  by_cases h3 : e.promised < gen
  · have HR := Lib.hid (show take e gen x = (⟨e.n, e.node, gen, e.round, 0, e.bits⟩, ⟨true, gen, put x e.node, false⟩) by unfold take; rw [if_neg hno, if_pos h3])
    have HW := Lib.hid ((HS.out.set (o := 2) (x := .int .i64 gen) rfl (e' := ⟨e.n, e.node, gen, e.round, e.ballot, e.bits⟩) rfl).set (o := 4) (x := .int .i64 0) rfl (e' := ⟨e.n, e.node, gen, e.round, 0, e.bits⟩) rfl)
    have HP := Lib.hid (fun u => Ring.refwith_any x e.node u hx.1 hx.2)
    clear h hi h1 hno
    go_enter Try.func24, Try.ntmps24
    go_wp2_with (first
      | (go_at_call 20; (with_reducible refine (HI.out _).mono ?_); rintro y w1 ⟨rfl, rfl⟩)
      | (go_at_call 32; (with_reducible refine (HP.out _).mono ?_); rintro y w1 ⟨rfl, rfl⟩))
    rw [HR.out]
    have HZ2 := ((Below.heap_setCell _ ⟨v, 4, none⟩ (.int .i64 0) _ ne2).trans ((Below.heap_setCell (w.alloc box4) ⟨v, 2, none⟩ (.int .i64 gen) _ ne2).trans HZ.out))
    change bodyPost _ _ _ _ _ (Elect.put4 (((w.alloc box4).setCell ⟨v, 2, none⟩ (.int .i64 gen)).setCell ⟨v, 4, none⟩ (.int .i64 0)) w.heap.size ⟨true, gen, put x e.node, false⟩)
    obtain ⟨e0, e1, e2, e3⟩ := put4_cells HZ2 ⟨true, gen, put x e.node, false⟩
    have HF := HW.out.put4 HVL.out (Nat.le_refl _) ⟨true, gen, put x e.node, false⟩
    generalize Elect.put4 _ w.heap.size ⟨true, gen, put x e.node, false⟩ = W at *
    refine bodyPost_ret (v := rsVal ⟨true, gen, put x e.node, false⟩) (by simp [results, Try.results24, go_sem, rsVal, e0, e1, e2, e3]) rfl ⟨rfl, HF⟩
  have hge : gen = e.promised := by omega
  have h3' : ¬ e.promised < gen := h3
  by_cases h4 : e.ballot = gen
  · have hb4 : (e.ballot != gen) = false := by simp [h4]
    have HR := Lib.hid (show take e gen x = (wins (adds e x), ⟨false, gen, orB e.bits x, majority (adds e x)⟩) by unfold take; rw [if_neg hno, if_neg h3, if_neg (by simp [h4])])
    have hor : bits .or .u64 e.bits x = orB e.bits x := u64_or e.bits x hg.bits.1 hg.bits.2 hx.1 hx.2
    have HA := Lib.hid (HS.out.set (o := 5) (x := .int .u64 (orB e.bits x)) rfl (e' := adds e x) rfl)
    have HWI := Lib.hid (fun u (hu : Re u v (adds e x)) => rwins_any hu hg.n (orS hg.bits hx))
    have HWB := Lib.hid (show (wins (adds e x)).bits = orB e.bits x by unfold wins; split <;> rfl)
    clear h hi h1 hno h4 hge
    generalize majority (adds e x) = m at *
    generalize wins (adds e x) = e2 at *
    go_enter Try.func24, Try.ntmps24
    go_wp2_with (first
      | (go_at_call 20; (with_reducible refine (HI.out _).mono ?_); rintro y w1 ⟨rfl, rfl⟩)
      | (go_at_call 33; (with_reducible refine (HWI.out _ HA.out.re).mono ?_); rintro y w1 ⟨rfl, h5⟩; have H5 := Lib.hid (HA.out.trans h5); obtain ⟨q0, q1, q2, q3, q4, q5, g5⟩ := h5.re.cell; rw [HWB.out] at q5; have kz := (h5.only w.heap.size ne2 (by simp)).trans ((Below.heap_setCell _ ⟨v, 5, none⟩ (.int .u64 (orB e.bits x)) _ ne2).trans HZ.out); obtain ⟨c0, c1, c2, c3, gz⟩ := box4_cells kz; have KZ := Lib.hid kz; clear h5 kz))
    rw [HR.out]
    change bodyPost _ _ _ _ _ (Elect.put4 w1 w.heap.size ⟨false, gen, orB e.bits x, m⟩)
    obtain ⟨e0, e1, e2', e3⟩ := put4_cells KZ.out ⟨false, gen, orB e.bits x, m⟩
    have HF := H5.out.put4 HVL.out (Nat.le_refl _) ⟨false, gen, orB e.bits x, m⟩
    generalize Elect.put4 w1 w.heap.size ⟨false, gen, orB e.bits x, m⟩ = W at *
    refine bodyPost_ret (v := rsVal ⟨false, gen, orB e.bits x, m⟩) (by simp [results, Try.results24, go_sem, rsVal, e0, e1, e2', e3]) rfl ⟨rfl, HF⟩
  · have hb4 : (e.ballot != gen) = true := by simp [h4]
    have HR := Lib.hid (show take e gen x = (e, noRs) by unfold take; rw [if_neg hno, if_neg h3, if_pos h4])
    clear h hi h1 hno hge h4
    go_enter Try.func24, Try.ntmps24
    go_wp2_with (go_at_call 20; (with_reducible refine (HI.out _).mono ?_); rintro y w1 ⟨rfl, rfl⟩)
    rw [HR.out]
    refine bodyPost_ret (v := rsVal noRs) (by simp [results, Try.results24, go_sem, rsVal, noRs, b0, b1, b2, b3]) rfl ⟨rfl, HS.out⟩
set_option maxRecDepth 100000 in
set_option maxHeartbeats 4000000 in
theorem rstand_any {w : World} {v : Nat} {e : El} (h : Re w v e) (hg : Good e) :
    Calls Try.prog 21 #[.pointer (some ⟨v, 0, none⟩)] w fun y w' => y = .returned (.tuple #[rsVal (stand e).2.1, .int .i64 (stand e).2.2]) ∧ RStep w v (stand e).1 w' := by
  have HN := fun u => (Conf.refnext_any e.n e.promised e.node u (by have := hg.promised; omega)).mono (R' := fun x w' => x = .returned (.tuple #[.int .i64 (Conf.next e.n e.promised e.node).1, .int .i64 (Conf.next e.n e.promised e.node).2]) ∧ w' = u) fun x w' h => ⟨h.1, h.2.symm⟩
  have HH := Lib.hid h
  have HB := Lib.hid (lay w box4)
  have hz := heap_alloc_new w box4
  have hvl := h.lt
  have HVL := Lib.hid hvl
  have ne1 : ¬ (v = w.heap.size) := by omega
  have ne2 : ¬ (w.heap.size = v) := by omega
  obtain ⟨k0, k1, k2, k3, k4, k5, f0⟩ := (h.below HB.out).cell
  obtain ⟨b0, b1, b2, b3, g0⟩ := box4_cells hz
  simp only [box4] at k0 k1 k2 k3 k4 k5 f0 b0 b1 b2 b3 g0
  have HZ := Lib.hid hz
  clear hz hvl
  by_cases h0 : (Conf.next e.n e.promised e.node).2 = 0
  · have hbd := next_bounds h0
    have hgs := hg.stands h0
    rw [h0] at HN
    have HR := Lib.hid (show stand e = (wins (stands e (Conf.next e.n e.promised e.node).1), ⟨!majority (stands e (Conf.next e.n e.promised e.node).1), (Conf.next e.n e.promised e.node).1, put 0 e.node, majority (stands e (Conf.next e.n e.promised e.node).1)⟩, 0) by unfold stand; rw [if_pos h0])
    clear h0
    generalize (Conf.next e.n e.promised e.node).1 = b at *
    obtain ⟨z0, z1, -, z3, -, z5⟩ := hbd
    have HP := Lib.hid (fun u => Ring.refwith_any 0 e.node u (by omega) (by omega))
    have HWI := Lib.hid (fun u (hu : Re u v (stands e b)) => rwins_any hu hg.n hgs.bits)
    have HWB := Lib.hid (show (wins (stands e b)).bits = put 0 e.node by unfold wins; split <;> rfl)
    have HST := Lib.hid (fun W (hW : Below w.heap.size w W) => ((((RStep.same h hW).set (o := 2) (x := .int .i64 b) rfl (e' := ⟨e.n, e.node, b, e.round, e.ballot, e.bits⟩) rfl).set (o := 3) (x := .int .i64 (b / e.n)) rfl (e' := ⟨e.n, e.node, b, b / e.n, e.ballot, e.bits⟩) rfl).set (o := 4) (x := .int .i64 b) rfl (e' := ⟨e.n, e.node, b, b / e.n, b, e.bits⟩) rfl).set (o := 5) (x := .int .u64 (put 0 e.node)) rfl (e' := stands e b) rfl)
    generalize majority (stands e b) = m at *
    generalize wins (stands e b) = e2 at *
    generalize put 0 e.node = pb at *
    clear h hgs
    have z5' : e.n ≠ 0 := by omega
    go_enter Try.func21, Try.ntmps21
    go_wp2
    go_quiet ((go_at_call 31; exact Calls.quiet_of_same (HN _)))
    have HBq := Lib.hid (HB.out.trans ((below_drewN (w.alloc box4) nq).mono HB.out.size))
    have HZq := Lib.hid (show ((w.alloc box4).drewN nq).heap[w.heap.size]? = some box4 from HZ.out)
    clear k0 k1 k2 k3 k4 k5 f0 b0 b1 b2 b3 g0 HB HZ
    have hsz : ((w.alloc box4).drewN nq).heap.size = w.heap.size + 1 := by show (w.alloc box4).heap.size = _; simp
    generalize (w.alloc _).drewN nq = W0 at *
    obtain ⟨k0, k1, k2, k3, k4, k5, f0⟩ := (HH.out.below HBq.out).cell
    obtain ⟨b0, b1, b2, b3, g0⟩ := box4_cells HZq.out
    have HA := Lib.hid (HST.out W0 HBq.out)
    have HSZ := Lib.hid hsz
    clear HST HH hsz
    go_wp2_with (first
      | (go_at_call 32; (with_reducible refine (HP.out _).mono ?_); rintro y w1 ⟨rfl, rfl⟩)
      | (go_at_call 33; (with_reducible refine (HWI.out _ HA.out.re).mono ?_); rintro y w1 ⟨rfl, h5⟩; have H5 := Lib.hid (HA.out.trans h5); obtain ⟨q0, q1, q2, q3, q4, q5, g5⟩ := h5.re.cell; rw [HWB.out] at q5; have kz := (h5.only w.heap.size ne2 (by simp [HSZ.out])).trans ((Below.heap_setCell _ ⟨v, 5, none⟩ (.int .u64 pb) _ ne2).trans ((Below.heap_setCell _ ⟨v, 4, none⟩ (.int .i64 b) _ ne2).trans ((Below.heap_setCell _ ⟨v, 3, none⟩ (.int .i64 (b / e.n)) _ ne2).trans ((Below.heap_setCell _ ⟨v, 2, none⟩ (.int .i64 b) _ ne2).trans HZq.out)))); obtain ⟨c0, c1, c2, c3, gz⟩ := box4_cells kz; have KZ := Lib.hid kz; clear h5 kz))
    rw [HR.out]
    change bodyPost _ _ _ _ _ (Elect.put4 w1 w.heap.size ⟨!m, b, pb, m⟩)
    obtain ⟨e0, e1, e2', e3⟩ := put4_cells KZ.out ⟨!m, b, pb, m⟩
    have HF := H5.out.put4 HVL.out (Nat.le_refl _) ⟨!m, b, pb, m⟩
    generalize Elect.put4 w1 w.heap.size ⟨!m, b, pb, m⟩ = W at *
    refine bodyPost_ret (v := .tuple #[rsVal ⟨!m, b, pb, m⟩, .int .i64 0]) (by simp [results, Try.results21, go_sem, rsVal, e0, e1, e2', e3]) rfl ⟨rfl, HF⟩
  · have hbz : ((Conf.next e.n e.promised e.node).2 != 0) = true := by simp [h0]
    have HR := Lib.hid (show stand e = (e, noRs, (Conf.next e.n e.promised e.node).2) by unfold stand; rw [if_neg h0])
    have HS := Lib.hid (fun m : Nat => RStep.same h (HB.out.trans ((below_drewN (w.alloc box4) m).mono HB.out.size)))
    generalize Conf.next e.n e.promised e.node = nb at *
    obtain ⟨n1, n2⟩ := nb
    simp only at *
    clear h h0
    go_enter Try.func21, Try.ntmps21
    go_wp2
    go_quiet ((go_at_call 31; exact Calls.quiet_of_same (HN _)))
    go_wp2
    rw [HR.out]
    change bodyPost _ _ _ _ _ (Elect.put4 ((w.alloc box4).drewN nq) w.heap.size noRs)
    obtain ⟨e0, e1, e2', e3⟩ := put4_cells (u := (w.alloc box4).drewN nq) HZ.out noRs
    have HF := (HS.out nq).put4 HVL.out (Nat.le_refl _) noRs
    generalize Elect.put4 ((w.alloc box4).drewN nq) w.heap.size noRs = W at *
    refine bodyPost_ret (v := .tuple #[rsVal noRs, .int .i64 n2]) (by simp [results, Try.results21, go_sem, rsVal, e0, e1, e2', e3]) rfl ⟨rfl, HF⟩
set_option maxRecDepth 100000 in
set_option maxHeartbeats 4000000 in
theorem rnew_ok (n node promised round : Int) (h : okNew n node promised round = true) (w : World) :
    Calls Try.prog 7 #[.int .i64 n, .int .i64 node, .int .i64 promised, .int .i64 round] w fun x w' => ∃ v, x = .returned (.tuple #[.pointer (some ⟨v, 0, none⟩), .int .i64 0]) ∧ Re w' v (start n node promised round) ∧ w.heap.size ≤ v ∧ Below w.heap.size w w' := by
  obtain ⟨h1, ⟨h2, h3⟩, h4, h5⟩ := okNew_iff.1 h
  have HR := Lib.hid (fun u => Ring.right_any n u)
  rw [show okRing n = true by simp [Ring.okRing]; omega] at HR
  have HP := Lib.hid (fun u => rin_any promised u)
  rw [in40_iff.2 h4] at HP
  have HQ := Lib.hid (fun u => rin_any round u)
  rw [in40_iff.2 h5] at HQ
  have hn3 : ¬ node < 0 := by omega
  have hn5 : ¬ n ≤ node := by omega
  have HB := Lib.hid (lay w (.cells #[.int .i64 n, .int .i64 node, .int .i64 promised, .int .i64 round, .int .i64 0, .int .u64 0] 38))
  have HZ := Lib.hid (heap_alloc_new w (.cells #[.int .i64 n, .int .i64 node, .int .i64 promised, .int .i64 round, .int .i64 0, .int .u64 0] 38))
  clear h h1 h2 h4 h5
  go_enter Try.func7, Try.ntmps7
  go_wp2_with (first
    | (go_at_call 19; (with_reducible refine (HR.out _).mono ?_); rintro x w' ⟨rfl, rfl⟩)
    | (go_at_call 20; (with_reducible refine (HP.out _).mono ?_); rintro x w1 ⟨rfl, rfl⟩)
    | (go_at_call 20; (with_reducible refine (HQ.out _).mono ?_); rintro x w1 ⟨rfl, rfl⟩))
  refine bodyPost_ret (v := .tuple #[.pointer (some ⟨_, 0, none⟩), .int .i64 0]) (by simp [results, Try.results7, go_sem]) rfl ⟨_, rfl, HZ.out, Nat.le_refl _, HB.out⟩
set_option maxRecDepth 100000 in
set_option maxHeartbeats 4000000 in
theorem rnew_bad (n node promised round : Int) (h : okNew n node promised round = false) (w : World) :
    Calls Try.prog 7 #[.int .i64 n, .int .i64 node, .int .i64 promised, .int .i64 round] w fun x w' => x = .returned (.tuple #[.pointer none, .int .i64 1]) ∧ Below w.heap.size w w' := by
  have HR := Lib.hid (fun u => Ring.right_any n u)
  have HP := Lib.hid (fun u => rin_any promised u)
  have HQ := Lib.hid (fun u => rin_any round u)
  have hc : okRing n = false ∨ (okRing n = true ∧ node < 0) ∨ (okRing n = true ∧ ¬ node < 0 ∧ n ≤ node) ∨ (okRing n = true ∧ ¬ node < 0 ∧ ¬ n ≤ node ∧ in40 promised = false) ∨ (okRing n = true ∧ ¬ node < 0 ∧ ¬ n ≤ node ∧ in40 promised = true ∧ in40 round = false) := by
    unfold okNew at h
    cases ho : okRing n
    · exact .inl rfl
    · by_cases h1 : node < 0
      · exact .inr (.inl ⟨rfl, h1⟩)
      · by_cases h2 : n ≤ node
        · exact .inr (.inr (.inl ⟨rfl, h1, h2⟩))
        · cases hp : in40 promised
          · exact .inr (.inr (.inr (.inl ⟨rfl, h1, h2, rfl⟩)))
          · cases hq : in40 round
            · exact .inr (.inr (.inr (.inr ⟨rfl, h1, h2, rfl, rfl⟩)))
            · rw [ho, hp, hq] at h
              simp [show 0 ≤ node by omega, show node < n by omega] at h
  clear h
  rcases hc with h1 | ⟨h1, h2⟩ | ⟨h1, h2, h3⟩ | ⟨h1, h2, h3, h4⟩ | ⟨h1, h2, h3, h4, h5⟩
  all_goals
    try rw [h1] at HR
    try rw [h4] at HP
    try rw [h5] at HQ
    go_enter Try.func7, Try.ntmps7
    go_wp2_with (first
      | (go_at_call 19; (with_reducible refine (HR.out _).mono ?_); rintro x w' ⟨rfl, rfl⟩)
      | (go_at_call 20; (with_reducible refine (HP.out _).mono ?_); rintro x w1 ⟨rfl, rfl⟩)
      | (go_at_call 20; (with_reducible refine (HQ.out _).mono ?_); rintro x w1 ⟨rfl, rfl⟩))
    refine bodyPost_ret (v := .tuple #[.pointer none, .int .i64 1]) (by simp [results, Try.results7, go_sem]) rfl ⟨rfl, Below.refl _ _⟩
end Go.Proofs.Ythehbphpchmdiaa.Elect
