/-
  The program's copied (package relay): a frame with lists of its own, of any frame of at most 100 stamps, rows, and leases of a row.
-/
import Derived.Test.YtkdjhphakopfeaaRlMem
import Derived.Deep.RegionHeld3
namespace Go.Proofs.Ytkdjhphakopfeaa.Relay
open Go.RowKit
open _root_.Go.Proofs.Ytkdjhphakopfeaa.Codec (lt_of_heap frozen_of heap_set grown_set below_new Ints)
open _root_.Go.Proofs.Ytkdjhphakopfeaa.Frame (Fr Tk Tb Rw noRow frameOk Lying frameVal fitsTk OwnS RowsS Kp pclone_own ClonedS)
open _root_.Go.Proofs.Ytkdjhphakopfeaa.Kit (Kept Off cell_on)

theorem set11_grown (w : World) (b : Nat) (f : Fr) (ps p : Option Addr) (cs c : Nat) : w.grownBy (set11 w b f ps p cs c) (some b) :=
  ((((((((((grown_set b 0 _).trans (grown_set b 1 _)).trans (grown_set b 2 _)).trans (grown_set b 3 _)).trans (grown_set b 4 _)).trans (grown_set b 5 _)).trans (grown_set b 6 _)).trans (grown_set b 7 _)).trans (grown_set b 8 _)).trans (grown_set b 9 _)).trans (grown_set b 10 _)
/-- A token, written into a frame's box. -/
def setTk (w : World) (b : Nat) (t : Tk) (ps p : Option Addr) (cs c : Nat) : World := ((((w.setCell ⟨b, 6, none⟩ (.int .i64 t.gen)).setCell ⟨b, 7, none⟩ (.int .i64 t.hop)).setCell ⟨b, 8, none⟩ (.slice ps t.stamps.length cs)).setCell ⟨b, 9, none⟩ (.int .i64 t.table.start)).setCell ⟨b, 10, none⟩ (.slice p t.table.rows.length c)
theorem setTk_grown (w : World) (b : Nat) (t : Tk) (ps p : Option Addr) (cs c : Nat) : w.grownBy (setTk w b t ps p cs c) (some b) :=
  ((((grown_set b 6 _).trans (grown_set b 7 _)).trans (grown_set b 8 _)).trans (grown_set b 9 _)).trans (grown_set b 10 _)
/-- Behind the copy of the token: what is told. -/
theorem copied_end {w u : World} {b r : Nat} {f : Fr} {ps p : Option Addr} {cs c : Nat} {k1 k2 : Array Value} (hb : Below w.heap.size w u) (h1 : w.heap.size ≤ b) (h2 : w.heap.size ≤ r) (hne : r ≠ b)
    (kb : u.heap[b]? = some (.cells k1 41 (0, 0))) (kr : u.heap[r]? = some (.cells k2 41 (0, 0))) (hl : LyT u f ps p) :
    LyT (set11 (setTk u b f.token ps p cs c) r f ps p cs c) f ps p ∧ Below w.heap.size w (set11 (setTk u b f.token ps p cs c) r f ps p cs c) := by
  have g1 := setTk_grown u b f.token ps p cs c
  have g2 := set11_grown (setTk u b f.token ps p cs c) r f ps p cs c
  have kr' : (setTk u b f.token ps p cs c).heap[r]? = some (.cells k2 41 (0, 0)) := (g1.block _ (lt_of_heap kr) (by simpa using hne)).trans kr
  refine ⟨(hl.grown kb (by decide) (by decide) (by decide) g1).grown kr' (by decide) (by decide) (by decide) g2, ?_⟩
  have b1 := hb.grown g1 hb.size (fun j hj => by cases hj; exact h1)
  exact b1.grown g2 b1.size (fun j hj => by cases hj; exact h2)
set_option maxRecDepth 100000 in
set_option maxHeartbeats 4000000 in
theorem pcopied_any (f : Fr) (ps p : Option Addr) (cs c : Nat) (w : World) (hf : fitsTk f.token = true) (hl : Lying w f ps p) :
    Calls Try.prog 23 #[frameVal f ps p cs c] w fun e w' => ∃ ps' p' cs' c', e = .returned (frameVal f ps' p' cs' c') ∧ LyT w' f ps' p' ∧ Below w.heap.size w w' := by
  obtain ⟨f1, f2, f3⟩ := fits_few hf
  have hst := hl.stamps
  have hrw := hl.rows
  have hnil : ps = none → f.token.stamps = [] := fun e => by
    rcases hst with h | ⟨b, o, h, _⟩
    · exact h
    · rw [e] at h; cases h
  have HC := Lib.hid (fun u (hu : Below w.heap.size w u) => pclone_own f.token ps p cs c u (by omega) (by omega) (fun r hr => by have := f3 r hr; omega) (hst.below hu) hnil (hrw.below hu))
  have HB := Lib.hid (show Below w.heap.size w ((w.alloc (.cells (cells11 f ps p cs c) 41)).alloc (.cells (cells11 noFr none none 0 0) 41)) from ((lay w _).alloc (lay w _).size _))
  have HA := Lib.hid (show ((w.alloc (.cells (cells11 f ps p cs c) 41)).alloc (.cells (cells11 noFr none none 0 0) 41)).heap[w.heap.size]? = some (.cells (cells11 f ps p cs c) 41 (0, 0)) from (Below.heap_alloc _ _ _ (by simp)).trans (heap_alloc_new w _))
  have HZ := Lib.hid (show ((w.alloc (.cells (cells11 f ps p cs c) 41)).alloc (.cells (cells11 noFr none none 0 0) 41)).heap[w.heap.size + 1]? = some (.cells (cells11 noFr none none 0 0) 41 (0, 0)) from by
    have := heap_alloc_new (w.alloc (.cells (cells11 f ps p cs c) 41)) (.cells (cells11 noFr none none 0 0) 41)
    rwa [show (w.alloc (.cells (cells11 f ps p cs c) 41)).heap.size = w.heap.size + 1 by simp] at this)
  have HE := Lib.hid (fun u (q1 q2 : Option Addr) (s1 s2 : Nat) (k1 k2 : Array Value) => copied_end (w := w) (u := u) (b := w.heap.size) (r := w.heap.size + 1) (f := f) (ps := q1) (p := q2) (cs := s1) (c := s2) (k1 := k1) (k2 := k2))
  have HF := Lib.hid hf
  obtain ⟨kd, sr, ds, ge, ho, bi, tk⟩ := f
  clear hst hrw hnil hl f1 f2 f3 hf
  simp only [frameVal, cells11, noFr, List.length_nil] at *
  go_enter Try.func23, Try.ntmps23
  go_wp2_with (go_at_call 34; (with_reducible refine (HC.out _ HB.out).mono ?_); rintro e u ⟨q1, s1, q2, s2, rfl, h1, h2, hb⟩; have ha := (hb.block _ (lt_of_heap HA.out)).trans HA.out; have hz := (hb.block _ (lt_of_heap HZ.out)).trans HZ.out; obtain ⟨y0, y1, y2, y3, y4, y5, y6, y7, y8, y9, y10⟩ := box11 (f := ⟨kd, sr, ds, ge, ho, bi, tk⟩) ha; obtain ⟨b0, b1, b2, b3, b4, b5, b6, b7, b8, b9, b10⟩ := box11 (f := noFr) hz; have f0 := fun o => frozen_of (o := o) hz; have f1 := fun o => frozen_of (o := o) ha; have HR1 := Lib.hid (box11 (set11_block (((setTk_grown u w.heap.size tk q1 q2 s1 s2).block (w.heap.size + 1) (lt_of_heap hz) (by simp)).trans hz) ⟨kd, sr, ds, ge, ho, bi, tk⟩ q1 q2 s1 s2)); have HE1 := Lib.hid (HE.out u q1 q2 s1 s2 _ _ (HB.out.trans (hb.mono HB.out.size)) (Nat.le_refl _) (by omega) (by omega) ha hz ⟨h1.lower (Nat.zero_le _), h2, HF.out⟩); simp only [noFr, List.length_nil] at b0 b1 b2 b3 b4 b5 b6 b7 b8 b9 b10; simp only at y0 y1 y2 y3 y4 y5 y6 y7 y8 y9 y10; clear ha hz h1 h2 hb HC HE)
  change bodyPost _ _ _ _ _ (set11 (setTk u w.heap.size tk q1 q2 s1 s2) (w.heap.size + 1) ⟨kd, sr, ds, ge, ho, bi, tk⟩ q1 q2 s1 s2)
  obtain ⟨e0, e1, e2, e3, e4, e5, e6, e7, e8, e9, e10⟩ := HR1.out
  have HE2 := HE1.out
  generalize set11 (setTk u w.heap.size tk q1 q2 s1 s2) (w.heap.size + 1) ⟨kd, sr, ds, ge, ho, bi, tk⟩ q1 q2 s1 s2 = W at *
  refine bodyPost_ret (v := frameVal ⟨kd, sr, ds, ge, ho, bi, tk⟩ q1 q2 s1 s2) (by simp [results, Try.results23, go_sem, frameVal, e0, e1, e2, e3, e4, e5, e6, e7, e8, e9, e10]) rfl ⟨q1, q2, s1, s2, rfl, HE2⟩
end Go.Proofs.Ytkdjhphakopfeaa.Relay
