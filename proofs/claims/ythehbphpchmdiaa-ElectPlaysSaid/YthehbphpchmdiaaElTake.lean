/-
  The program's Take: any election that may be, any number and any set.
-/
import Derived.Test.YthehbphpchmdiaaElMeths
namespace Go.Proofs.Ythehbphpchmdiaa.Elect
open Go.RowKit
open _root_.Go.Proofs.Ythehbphpchmdiaa.Codec (lt_of_heap frozen_of heap_set below_new)
open _root_.Go.Proofs.Ythehbphpchmdiaa.Kit (cell_on lt_heap below_drewN)
open _root_.Go.Proofs.Ythehbphpchmdiaa.Ring (has put okRing all meet count maj only all_lo all_hi meet_lo meet_hi)

/-- A result's box. -/
abbrev boxr (a : Bool) (b c : Int) (d : Bool) : Obj := .cells #[.bool a, .int .i64 b, .int .u64 c, .bool d] 40 (0, 0)
theorem boxr_cells {w : World} {r : Nat} {a d : Bool} {b c : Int} (h : w.heap[r]? = some (boxr a b c d)) : w.cell? ⟨r, 0, none⟩ = some (.bool a) ∧ w.cell? ⟨r, 1, none⟩ = some (.int .i64 b) ∧ w.cell? ⟨r, 2, none⟩ = some (.int .u64 c) ∧ w.cell? ⟨r, 3, none⟩ = some (.bool d) ∧ ∀ o, w.frozen? ⟨r, o, none⟩ = false :=
  ⟨by rw [cell_of_row w r 0 _ _ (0, 0) h]; rfl, by rw [cell_of_row w r 1 _ _ (0, 0) h]; rfl, by rw [cell_of_row w r 2 _ _ (0, 0) h]; rfl, by rw [cell_of_row w r 3 _ _ (0, 0) h]; rfl, fun o => frozen_of h⟩
theorem boxr_set {w : World} {r : Nat} {a d : Bool} {b c : Int} (h : w.heap[r]? = some (boxr a b c d)) (b' c' : Int) (d' : Bool) : (((w.setCell ⟨r, 1, none⟩ (.int .i64 b')).setCell ⟨r, 2, none⟩ (.int .u64 c')).setCell ⟨r, 3, none⟩ (.bool d')).heap[r]? = some (boxr a b' c' d') := by
  have e1 := heap_set r 1 _ (.int .i64 b') h
  have e2 := heap_set r 2 _ (.int .u64 c') e1
  have e3 := heap_set r 3 _ (.bool d') e2
  exact e3
theorem boxr_far {w : World} {r g : Nat} {a d : Bool} {b c : Int} (hn : g ≠ r) (h : w.heap[g]? = some (boxr a b c d)) (b' c' : Int) (d' : Bool) : (((w.setCell ⟨r, 1, none⟩ (.int .i64 b')).setCell ⟨r, 2, none⟩ (.int .u64 c')).setCell ⟨r, 3, none⟩ (.bool d')).heap[g]? = some (boxr a b c d) :=
  (Below.heap_setCell _ _ _ _ hn).trans ((Below.heap_setCell _ _ _ _ hn).trans ((Below.heap_setCell _ _ _ _ hn).trans h))
theorem keep_cell {w : World} {q o r o' : Nat} {x y : Value} (hn : q ≠ r) (h : w.cell? ⟨q, o, none⟩ = some y) : (w.setCell ⟨r, o', none⟩ x).cell? ⟨q, o, none⟩ = some y := by
  unfold World.cell? at h ⊢
  rw [Below.heap_setCell _ _ _ _ (by show q ≠ r; exact hn)]
  exact h
theorem PStep.put4 {w w' : World} {q : Nat} {e : El} (h : PStep w q e w') (hv : q < w.heap.size) {r : Nat} (hr : w.heap.size ≤ r) (s : Rs) : PStep w q e (Elect.put4 w' r s) :=
  (((h.box hv hr _).box hv hr _).box hv hr _).box hv hr _
section
variable {w : World} {q : Nat} {e : El}
set_option maxRecDepth 100000 in
set_option maxHeartbeats 4000000 in
theorem take_low (h : Pb w q e) (gen x : Int) (h1 : gen < 1) : Calls Try.prog 13 #[.pointer (some ⟨q, 0, none⟩), .int .i64 gen, .int .u64 x] w fun y w' => y = .returned (rsVal noRs) ∧ PStep w q e w' := by
  have HS := Lib.hid (fun u (hu : Below w.heap.size w u) => PStep.same h hu)
  obtain ⟨k0, k1, k2, k3, k4, k5, f0⟩ := h.cell
  clear h
  go_enter Try.func13, Try.ntmps13
  go_wp2
  refine bodyPost_ret (v := rsVal noRs) (by simp [results, Try.results13, go_sem, rsVal, noRs]) rfl ⟨rfl, HS.out _ (lay _ _)⟩
set_option maxRecDepth 100000 in
set_option maxHeartbeats 4000000 in
theorem take_up (h : Pb w q e) (hn : 1 ≤ e.n ∧ e.n ≤ 64) (gen x : Int) (hx : Set64 x) (h1 : ¬ gen < 1) (h2 : (praise e gen).2 = true) : Calls Try.prog 13 #[.pointer (some ⟨q, 0, none⟩), .int .i64 gen, .int .u64 x] w fun y w' => y = .returned (rsVal ⟨true, gen, orB (put 0 e.node) x, false⟩) ∧ PStep w q (adds (ppromise e gen) x) w' := by
  have hp : (praise e gen).1 = ppromise e gen := by
    unfold praise at h2 ⊢
    split at h2
    · simp at h2
    · rename_i hc
      rw [if_neg hc]
  have hlt := h.lt
  have HQ := Lib.hid hlt
  have hb : Below w.heap.size w ((w.alloc (boxr false 0 0 false)).alloc (boxr false 0 0 false)) := (lay w _).trans ((lay _ _).mono (lay w _).size)
  have HR := Lib.hid (praise_any (h.below hb) gen)
  rw [h2, hp] at HR
  have HS := Lib.hid (PStep.same h hb)
  have HZ := Lib.hid (show ((w.alloc (boxr false 0 0 false)).alloc (boxr false 0 0 false)).heap[w.heap.size + 1]? = some (boxr false 0 0 false) by
    have := heap_alloc_new (w.alloc (boxr false 0 0 false)) (boxr false 0 0 false)
    simpa using this)
  have HZ0 := Lib.hid (show ((w.alloc (boxr false 0 0 false)).alloc (boxr false 0 0 false)).heap[w.heap.size]? = some (boxr false 0 0 false) from ((lay _ _).block _ (by simp)).trans (heap_alloc_new w _))
  have hor : bits .or .u64 (put 0 e.node) x = orB (put 0 e.node) x := u64_or _ x (put0 _).1 (put0 _).2 hx.1 hx.2
  have HSZ := Lib.hid (show ((w.alloc (boxr false 0 0 false)).alloc (boxr false 0 0 false)).heap.size = w.heap.size + 2 by simp)
  have HA := Lib.hid (fun u (hu : PStep w q (ppromise e gen) u) => ((hu.box HQ.out (r := w.heap.size + 1) (o := 0) (by omega) (.bool true)).set (o := 5) (x := .int .u64 (orB (put 0 e.node) x)) rfl (e' := adds (ppromise e gen) x) rfl).on (Below.refl _ _).drew)
  have HWI := Lib.hid (fun u (hu : Pb u q (adds (ppromise e gen) x)) => win_any hu hn (orS (put0 _) hx))
  rw [pwin_zero rfl, pwon_zero rfl] at HWI
  have ne1 : ¬ (q = w.heap.size) := by omega
  have ne2 : ¬ (q = w.heap.size + 1) := by omega
  have ne3 : ¬ (w.heap.size + 1 = q) := by omega
  have ne4 : ¬ (w.heap.size = q) := by omega
  have ne5 : ¬ (w.heap.size = w.heap.size + 1) := by omega
  have HB5 := Lib.hid (show ∀ u, Pb u q (ppromise e gen) → u.cell? ⟨q, 5, none⟩ = some (.int .u64 (put 0 e.node)) from fun u hu => hu.cell.2.2.2.2.2.1)
  have HC5 := Lib.hid (show ∀ u, Pb u q (adds (ppromise e gen) x) → u.cell? ⟨q, 5, none⟩ = some (.int .u64 (orB (put 0 e.node) x)) from fun u hu => hu.cell.2.2.2.2.2.1)
  obtain ⟨k0, k1, k2, k3, k4, k5, f0⟩ := h.cell
  generalize adds (ppromise e gen) x = e2 at *
  generalize ppromise e gen = e1 at *
  generalize orB (put 0 e.node) x = z at *
  generalize put 0 e.node = zn at *
  clear h hp h2 hb hlt
  go_enter Try.func13, Try.ntmps13
  go_wp2_with (go_at_call 14; (with_reducible refine HR.out.mono ?_); rintro y u1 ⟨rfl, hp⟩; have HP := Lib.hid (HS.out.trans hp); have q5 := HB5.out _ hp.pb; have g5 : ∀ o, u1.frozen? ⟨q, o, none⟩ = false := fun o => frozen_of hp.pb; have kz := (hp.only (w.heap.size + 1) (by omega) (by rw [HSZ.out]; omega)).trans HZ.out; have kz0 := (hp.only w.heap.size (by omega) (by rw [HSZ.out]; omega)).trans HZ0.out; obtain ⟨c0, c1, c2, c3, gz⟩ := boxr_cells kz; have KZ := Lib.hid kz; have KZ0 := Lib.hid kz0; clear hp kz kz0 k0 k1 k2 k3 k4 k5 f0 HR HS HZ HZ0)
  have HP2 := Lib.hid (HA.out _ HP.out)
  have s5 := HC5.out _ HP2.out.pb
  have KZ2 := Lib.hid (show (((u1.setCell ⟨w.heap.size + 1, 0, none⟩ (.bool true)).setCell ⟨q, 5, none⟩ (.int .u64 z)).drew).heap[w.heap.size + 1]? = some (boxr true 0 0 false) from (Below.heap_setCell _ _ _ _ ne3).trans (heap_set _ 0 _ _ KZ.out))
  have KZ02 := Lib.hid (show (((u1.setCell ⟨w.heap.size + 1, 0, none⟩ (.bool true)).setCell ⟨q, 5, none⟩ (.int .u64 z)).drew).heap[w.heap.size]? = some (boxr false 0 0 false) from (Below.heap_setCell _ _ _ _ ne4).trans ((Below.heap_setCell _ _ _ _ ne5).trans KZ0.out))
  go_region_held3 (fun u => u.cell? ⟨q, 5, none⟩ = some (.int .u64 z)) (first | assumption | exact s5 | (refine keep_cell ne2 ?_; assumption)) (first
    | (go_at_call 27; (with_reducible refine (HWI.out _ HP2.out.pb).mono ?_); rintro y u2 ⟨rfl, hp⟩; have HP3 := Lib.hid (HP2.out.trans hp); have t5 := HC5.out _ hp.pb; have kz := (hp.only (w.heap.size + 1) ne3 (lt_heap KZ2.out)).trans KZ2.out; obtain ⟨d0, d1, d2, d3, gz2⟩ := boxr_cells kz; have KZ3 := Lib.hid kz; have KZ03 := Lib.hid ((hp.only w.heap.size ne4 (lt_heap KZ02.out)).trans KZ02.out); clear hp kz))
  have KZ4 := Lib.hid (boxr_set KZ3.out gen z false)
  have KZ04 := Lib.hid (boxr_far ne5 KZ03.out gen z false)
  have HP4 := Lib.hid (((HP3.out.box HQ.out (r := w.heap.size + 1) (o := 1) (by omega) (.int .i64 gen)).box HQ.out (r := w.heap.size + 1) (o := 2) (by omega) (.int .u64 z)).box HQ.out (r := w.heap.size + 1) (o := 3) (by omega) (.bool false))
  generalize ((u2.setCell ⟨w.heap.size + 1, 1, none⟩ (.int .i64 gen)).setCell ⟨w.heap.size + 1, 2, none⟩ (.int .u64 z)).setCell ⟨w.heap.size + 1, 3, none⟩ (.bool false) = W at *
  obtain ⟨m0, m1, m2, m3, gm⟩ := boxr_cells KZ4.out
  obtain ⟨n0, n1, n2, n3, gn⟩ := boxr_cells KZ04.out
  clear KZ KZ2 KZ3 KZ0 KZ02 KZ03 HP HP2 HP3 c0 c1 c2 c3 gz d0 d1 d2 d3 gz2 q5 s5 t5 g5 HA HWI HC5 HB5 hor
  go_wp2
  change bodyPost _ _ _ _ _ (Elect.put4 W w.heap.size ⟨true, gen, z, false⟩)
  obtain ⟨j0, j1, j2, j3⟩ := put4_cells KZ04.out ⟨true, gen, z, false⟩
  have HF := HP4.out.put4 HQ.out (Nat.le_refl _) ⟨true, gen, z, false⟩
  generalize Elect.put4 W w.heap.size ⟨true, gen, z, false⟩ = W5 at *
  refine bodyPost_ret (v := rsVal ⟨true, gen, z, false⟩) (by simp [results, Try.results13, go_sem, rsVal, j0, j1, j2, j3]) rfl ⟨rfl, HF⟩
set_option maxRecDepth 100000 in
set_option maxHeartbeats 4000000 in
theorem take_at (h : Pb w q e) (hn : 1 ≤ e.n ∧ e.n ≤ 64) (hb0 : Set64 e.bits) (gen x : Int) (hx : Set64 x) (h1 : ¬ gen < 1) (h2 : (praise e gen).2 = false) (h3 : gen = e.ballot) : Calls Try.prog 13 #[.pointer (some ⟨q, 0, none⟩), .int .i64 gen, .int .u64 x] w fun y w' => y = .returned (rsVal ⟨false, gen, orB e.bits x, pwon (adds e x)⟩) ∧ PStep w q (pwin (adds e x)) w' := by
  have hp : (praise e gen).1 = e := by
    unfold praise at h2 ⊢
    split at h2
    · rename_i hc
      rw [if_pos hc]
    · simp at h2
  have hlt := h.lt
  have HQ := Lib.hid hlt
  have hb : Below w.heap.size w ((w.alloc (boxr false 0 0 false)).alloc (boxr false 0 0 false)) := (lay w _).trans ((lay _ _).mono (lay w _).size)
  have HR := Lib.hid (praise_any (h.below hb) gen)
  rw [h2, hp] at HR
  have HS := Lib.hid (PStep.same h hb)
  have HZ := Lib.hid (show ((w.alloc (boxr false 0 0 false)).alloc (boxr false 0 0 false)).heap[w.heap.size + 1]? = some (boxr false 0 0 false) by
    have := heap_alloc_new (w.alloc (boxr false 0 0 false)) (boxr false 0 0 false)
    simpa using this)
  have HZ0 := Lib.hid (show ((w.alloc (boxr false 0 0 false)).alloc (boxr false 0 0 false)).heap[w.heap.size]? = some (boxr false 0 0 false) from ((lay _ _).block _ (by simp)).trans (heap_alloc_new w _))
  have hor : bits .or .u64 e.bits x = orB e.bits x := u64_or _ x hb0.1 hb0.2 hx.1 hx.2
  have HSZ := Lib.hid (show ((w.alloc (boxr false 0 0 false)).alloc (boxr false 0 0 false)).heap.size = w.heap.size + 2 by simp)
  have HA := Lib.hid (fun u (hu : PStep w q e u) => (hu.set (o := 5) (x := .int .u64 (orB e.bits x)) rfl (e' := adds e x) rfl).on (Below.refl _ _).drew)
  have HWI := Lib.hid (fun u (hu : Pb u q (adds e x)) => win_any hu hn (orS hb0 hx))
  have ne1 : ¬ (q = w.heap.size) := by omega
  have ne2 : ¬ (q = w.heap.size + 1) := by omega
  have ne3 : ¬ (w.heap.size + 1 = q) := by omega
  have ne4 : ¬ (w.heap.size = q) := by omega
  have ne5 : ¬ (w.heap.size = w.heap.size + 1) := by omega
  have HB5 := Lib.hid (show ∀ u, Pb u q e → u.cell? ⟨q, 5, none⟩ = some (.int .u64 e.bits) from fun u hu => hu.cell.2.2.2.2.2.1)
  have HB4 := Lib.hid (show ∀ u, Pb u q e → u.cell? ⟨q, 4, none⟩ = some (.int .i64 gen) from fun u hu => by rw [h3]; exact hu.cell.2.2.2.2.1)
  have HC6 := Lib.hid (show ∀ u, Pb u q (pwin (adds e x)) → u.cell? ⟨q, 5, none⟩ = some (.int .u64 (orB e.bits x)) from fun u hu => by
    have := hu.cell.2.2.2.2.2.1
    rw [this]
    unfold pwin
    split <;> rfl)
  have HC5 := Lib.hid (show ∀ u, Pb u q (adds e x) → u.cell? ⟨q, 5, none⟩ = some (.int .u64 (orB e.bits x)) from fun u hu => hu.cell.2.2.2.2.2.1)
  obtain ⟨k0, k1, k2, k3, k4, k5, f0⟩ := h.cell
  generalize pwin (adds e x) = e3 at *
  generalize pwon (adds e x) = m at *
  generalize adds e x = e2 at *
  generalize orB e.bits x = z at *
  generalize e.bits = zn at *
  clear h hp h2 h3 hb hlt
  go_enter Try.func13, Try.ntmps13
  go_wp2_with (go_at_call 14; (with_reducible refine HR.out.mono ?_); rintro y u1 ⟨rfl, hp⟩; have HP := Lib.hid (HS.out.trans hp); have q5 := HB5.out _ hp.pb; have q4 := HB4.out _ hp.pb; have g5 : ∀ o, u1.frozen? ⟨q, o, none⟩ = false := fun o => frozen_of hp.pb; have kz := (hp.only (w.heap.size + 1) (by omega) (by rw [HSZ.out]; omega)).trans HZ.out; have kz0 := (hp.only w.heap.size (by omega) (by rw [HSZ.out]; omega)).trans HZ0.out; obtain ⟨c0, c1, c2, c3, gz⟩ := boxr_cells kz; have KZ := Lib.hid kz; have KZ0 := Lib.hid kz0; clear hp kz kz0 k0 k1 k2 k3 k4 k5 f0 HR HS HZ HZ0)
  have HP2 := Lib.hid (HA.out _ HP.out)
  have s5 := HC5.out _ HP2.out.pb
  have KZ2 := Lib.hid (show ((u1.setCell ⟨q, 5, none⟩ (.int .u64 z)).drew).heap[w.heap.size + 1]? = some (boxr false 0 0 false) from (Below.heap_setCell _ _ _ _ ne3).trans KZ.out)
  have KZ02 := Lib.hid (show ((u1.setCell ⟨q, 5, none⟩ (.int .u64 z)).drew).heap[w.heap.size]? = some (boxr false 0 0 false) from (Below.heap_setCell _ _ _ _ ne4).trans KZ0.out)
  go_region_held3 (fun u => u.cell? ⟨q, 5, none⟩ = some (.int .u64 z)) (first | assumption | exact s5 | (refine keep_cell ne2 ?_; assumption)) (first
    | (go_at_call 27; (with_reducible refine (HWI.out _ HP2.out.pb).mono ?_); rintro y u2 ⟨rfl, hp⟩; have HP3 := Lib.hid (HP2.out.trans hp); have t5 := HC6.out _ hp.pb; have kz := (hp.only (w.heap.size + 1) ne3 (lt_heap KZ2.out)).trans KZ2.out; obtain ⟨d0, d1, d2, d3, gz2⟩ := boxr_cells kz; have KZ3 := Lib.hid kz; have KZ03 := Lib.hid ((hp.only w.heap.size ne4 (lt_heap KZ02.out)).trans KZ02.out); clear hp kz))
  have KZ4 := Lib.hid (boxr_set KZ3.out gen z m)
  have KZ04 := Lib.hid (boxr_far ne5 KZ03.out gen z m)
  have HP4 := Lib.hid (((HP3.out.box HQ.out (r := w.heap.size + 1) (o := 1) (by omega) (.int .i64 gen)).box HQ.out (r := w.heap.size + 1) (o := 2) (by omega) (.int .u64 z)).box HQ.out (r := w.heap.size + 1) (o := 3) (by omega) (.bool m))
  generalize ((u2.setCell ⟨w.heap.size + 1, 1, none⟩ (.int .i64 gen)).setCell ⟨w.heap.size + 1, 2, none⟩ (.int .u64 z)).setCell ⟨w.heap.size + 1, 3, none⟩ (.bool m) = W at *
  obtain ⟨m0, m1, m2, m3, gm⟩ := boxr_cells KZ4.out
  obtain ⟨n0, n1, n2, n3, gn⟩ := boxr_cells KZ04.out
  clear KZ KZ2 KZ3 KZ0 KZ02 KZ03 HP HP2 HP3 c0 c1 c2 c3 gz d0 d1 d2 d3 gz2 q5 s5 t5 g5 HA HWI HC5 HC6 HB5 HB4 q4 hor
  go_wp2
  change bodyPost _ _ _ _ _ (Elect.put4 W w.heap.size ⟨false, gen, z, m⟩)
  obtain ⟨j0, j1, j2, j3⟩ := put4_cells KZ04.out ⟨false, gen, z, m⟩
  have HF := HP4.out.put4 HQ.out (Nat.le_refl _) ⟨false, gen, z, m⟩
  generalize Elect.put4 W w.heap.size ⟨false, gen, z, m⟩ = W5 at *
  refine bodyPost_ret (v := rsVal ⟨false, gen, z, m⟩) (by simp [results, Try.results13, go_sem, rsVal, j0, j1, j2, j3]) rfl ⟨rfl, HF⟩
set_option maxRecDepth 100000 in
set_option maxHeartbeats 4000000 in
theorem take_no (h : Pb w q e) (gen x : Int) (h1 : ¬ gen < 1) (h2 : (praise e gen).2 = false) (h3 : gen ≠ e.ballot) : Calls Try.prog 13 #[.pointer (some ⟨q, 0, none⟩), .int .i64 gen, .int .u64 x] w fun y w' => y = .returned (rsVal noRs) ∧ PStep w q e w' := by
  have hp : (praise e gen).1 = e := by
    unfold praise at h2 ⊢
    split at h2
    · rename_i hc
      rw [if_pos hc]
    · simp at h2
  have hlt := h.lt
  have HQ := Lib.hid hlt
  have hb : Below w.heap.size w ((w.alloc (boxr false 0 0 false)).alloc (boxr false 0 0 false)) := (lay w _).trans ((lay _ _).mono (lay w _).size)
  have HR := Lib.hid (praise_any (h.below hb) gen)
  rw [h2, hp] at HR
  have HS := Lib.hid (PStep.same h hb)
  have HSZ := Lib.hid (show ((w.alloc (boxr false 0 0 false)).alloc (boxr false 0 0 false)).heap.size = w.heap.size + 2 by simp)
  have HZ := Lib.hid (show ((w.alloc (boxr false 0 0 false)).alloc (boxr false 0 0 false)).heap[w.heap.size + 1]? = some (boxr false 0 0 false) by
    have := heap_alloc_new (w.alloc (boxr false 0 0 false)) (boxr false 0 0 false)
    simpa using this)
  have HZ0 := Lib.hid (show ((w.alloc (boxr false 0 0 false)).alloc (boxr false 0 0 false)).heap[w.heap.size]? = some (boxr false 0 0 false) from ((lay _ _).block _ (by simp)).trans (heap_alloc_new w _))
  have HB4 := Lib.hid (show ∀ u, Pb u q e → u.cell? ⟨q, 4, none⟩ = some (.int .i64 e.ballot) from fun u hu => hu.cell.2.2.2.2.1)
  have ne1 : ¬ (q = w.heap.size) := by omega
  have ne2 : ¬ (q = w.heap.size + 1) := by omega
  have hne : (gen == e.ballot) = false := by simpa using h3
  generalize e.ballot = bl at *
  clear h hp h2 h3 hb hlt
  go_enter Try.func13, Try.ntmps13
  go_wp2_with (go_at_call 14; (with_reducible refine HR.out.mono ?_); rintro y u1 ⟨rfl, hp⟩; have HP := Lib.hid (HS.out.trans hp); have q4 := HB4.out _ hp.pb; have kz := (hp.only (w.heap.size + 1) (by omega) (by rw [HSZ.out]; omega)).trans HZ.out; have kz0 := (hp.only w.heap.size (by omega) (by rw [HSZ.out]; omega)).trans HZ0.out; obtain ⟨c0, c1, c2, c3, gz⟩ := boxr_cells kz; obtain ⟨d0, d1, d2, d3, gd⟩ := boxr_cells kz0; have KZ0 := Lib.hid kz0; clear hp kz kz0 HR HS HZ HZ0)
  change bodyPost _ _ _ _ _ (Elect.put4 u1 w.heap.size noRs)
  obtain ⟨j0, j1, j2, j3⟩ := put4_cells KZ0.out noRs
  have HF := HP.out.put4 HQ.out (Nat.le_refl _) noRs
  generalize Elect.put4 u1 w.heap.size noRs = W5 at *
  refine bodyPost_ret (v := rsVal noRs) (by simp [results, Try.results13, go_sem, rsVal, j0, j1, j2, j3]) rfl ⟨rfl, HF⟩
/-- Take, of any election that may be. -/
theorem ptake_any (h : Pb w q e) (hn : 1 ≤ e.n ∧ e.n ≤ 64) (hb : Set64 e.bits) (gen x : Int) (hx : Set64 x) : Calls Try.prog 13 #[.pointer (some ⟨q, 0, none⟩), .int .i64 gen, .int .u64 x] w fun y w' => y = .returned (rsVal (ptake e gen x).2) ∧ PStep w q (ptake e gen x).1 w' := by
  unfold ptake
  by_cases h1 : gen < 1
  · rw [if_pos h1]
    exact take_low h gen x h1
  rw [if_neg h1]
  by_cases h2 : (praise e gen).2 = true
  · rw [if_pos h2]
    have hz : (adds (ppromise e gen) x).ballot = 0 := rfl
    rw [pwin_zero hz, pwon_zero hz]
    exact take_up h hn gen x hx h1 h2
  rw [if_neg h2]
  have h2' : (praise e gen).2 = false := by simpa using h2
  by_cases h3 : gen = e.ballot
  · rw [if_pos h3]
    exact take_at h hn hb gen x hx h1 h2' h3
  · rw [if_neg h3]
    exact take_no h gen x h1 h2' h3
theorem pntake_any (gen x : Int) (w : World) : Calls Try.prog 13 #[.pointer none, .int .i64 gen, .int .u64 x] w fun y w' => y = .returned (rsVal noRs) ∧ Below w.heap.size w w' := by
  have HB := Lib.hid (lay w (boxr false 0 0 false))
  go_enter Try.func13, Try.ntmps13
  go_wp2
  refine bodyPost_ret (v := rsVal noRs) (by simp [results, Try.results13, go_sem, rsVal, noRs]) rfl ⟨rfl, HB.out⟩
end
end Go.Proofs.Ythehbphpchmdiaa.Elect
