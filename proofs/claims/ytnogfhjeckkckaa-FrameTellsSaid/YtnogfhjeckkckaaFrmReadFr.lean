/-
  The program's readFrame: it tells what the plain function of FrmBack reads, and leaves the reader as it says; of what lay when the call began nothing has turned but the reader.
-/
import Derived.Test.YtnogfhjeckkckaaFrmFrSt
namespace Go.Proofs.Ytnogfhjeckkckaa.Frame
open Go.RowKit Codec

/-- What a frame's reading tells. -/
def FrameRead (RT : TypeId) (U : Way) (w : World) (b : Nat) (s : St) (e : Ending) (w' : World) : Prop :=
  ∃ ps cs p c, e = .returned (frameVal (rdFrame U s).1 ps p cs c) ∧ IntsS 0 w' ps (rdFrame U s).1.token.stamps ∧ RowsS 0 w' p (rdFrame U s).1.token.table.rows ∧ Rdr RT 5 w' b (rdFrame U s).2.1 (rdFrame U s).2.2 ∧ w.grownBy w' (some b)
theorem pbits_w (b : Nat) (s : St) (w : World) (h : Rdr 95 5 w b s.1 s.2) (hy : IsBytes s.1) :
    Calls Try.prog 69 #[.pointer (some ⟨b, 0, none⟩)] w (Step 95 5 w b (pWay.bits s).2 (.int .u64 (pWay.bits s).1)) := pbits_any b s w h hy

/-- The result's box. -/
def ZeroBox (w : World) (R : Nat) : Prop := w.heap[R]? = some (.cells #[.int .i64 0, .int .i64 0, .int .i64 0, .int .i64 0, .int .i64 0, .int .u64 0, .int .i64 0, .int .i64 0, .slice none 0 0, .int .i64 0, .slice none 0 0] 31 (0, 0))
theorem ZeroBox.cells {w : World} {R : Nat} (h : ZeroBox w R) : R < w.heap.size ∧ w.cell? ⟨R, 0, none⟩ = some (.int .i64 0) ∧ w.cell? ⟨R, 1, none⟩ = some (.int .i64 0) ∧ w.cell? ⟨R, 2, none⟩ = some (.int .i64 0) ∧ w.cell? ⟨R, 3, none⟩ = some (.int .i64 0) ∧ w.cell? ⟨R, 4, none⟩ = some (.int .i64 0) ∧ w.cell? ⟨R, 5, none⟩ = some (.int .u64 0) ∧
    w.cell? ⟨R, 6, none⟩ = some (.int .i64 0) ∧ w.cell? ⟨R, 7, none⟩ = some (.int .i64 0) ∧ w.cell? ⟨R, 8, none⟩ = some (.slice none 0 0) ∧ w.cell? ⟨R, 9, none⟩ = some (.int .i64 0) ∧ w.cell? ⟨R, 10, none⟩ = some (.slice none 0 0) ∧ (∀ o, w.frozen? ⟨R, o, none⟩ = false) := by
  have h' := h
  unfold ZeroBox at h'
  refine ⟨lt_of_heap h', ?_, ?_, ?_, ?_, ?_, ?_, ?_, ?_, ?_, ?_, ?_, fun _ => frozen_of h'⟩ <;> (rw [cell_of_row _ _ _ _ _ _ h']; rfl)
theorem FrmSt.zero {RT : TypeId} {w wr : World} {b X : Nat} {s : St} {f : Fr} {ps p : Option Addr} {cs c : Nat} (S : FrmSt RT (w.alloc (.cells #[.int .i64 0, .int .i64 0, .int .i64 0, .int .i64 0, .int .i64 0, .int .u64 0, .int .i64 0, .int .i64 0, .slice none 0 0, .int .i64 0, .slice none 0 0] 31)) wr b X s f ps p cs c) (hb : b < w.heap.size) : ZeroBox wr w.heap.size :=
  (S.grown.block _ (by simp) (by simp; omega)).trans (heap_alloc_new w _)
theorem FrmSt.start {RT : TypeId} {w : World} {b : Nat} {s : St} (h : Rdr RT 5 w b s.1 s.2) (hy : IsBytes s.1) (o : Obj) :
    FrmSt RT (w.alloc o) ((w.alloc o).alloc (.cells #[.int .i64 0, .int .i64 0, .int .i64 0, .int .i64 0, .int .i64 0, .int .u64 0, .int .i64 0, .int .i64 0, .slice none 0 0, .int .i64 0, .slice none 0 0] 31)) b (w.heap.size + 1) s ⟨0, 0, 0, 0, 0, 0, noTk⟩ none none 0 0 := by
  have h1 : Below w.heap.size w (w.alloc o) := (Below.refl _ _).alloc (Nat.le_refl _) _
  have hs : (w.alloc o).heap.size = w.heap.size + 1 := by simp
  have hr := h.below h1
  refine ⟨hr.below ((Below.refl _ _).alloc (Nat.le_refl _) _), hy, grown_alloc (grown_self b) _, hr.lt, by omega, ?_, .inl rfl, .inl rfl⟩
  have := heap_alloc_new (w.alloc o) (.cells #[.int .i64 0, .int .i64 0, .int .i64 0, .int .i64 0, .int .i64 0, .int .u64 0, .int .i64 0, .int .i64 0, .slice none 0 0, .int .i64 0, .slice none 0 0] 31)
  rw [hs] at this
  exact this
theorem FrmSt.done {RT : TypeId} {w wr u : World} {b X : Nat} {s : St} {f : Fr} {ps p : Option Addr} {cs c : Nat} {o : Obj} (S : FrmSt RT (w.alloc o) wr b X s f ps p cs c) (hb : b < w.heap.size) (hz : ZeroBox wr w.heap.size) (hg : wr.grownBy u (some w.heap.size)) :
    IntsS 0 u ps f.token.stamps ∧ RowsS 0 u p f.token.table.rows ∧ Rdr RT 5 u b s.1 s.2 ∧ w.grownBy u (some b) := by
  have kp : ∀ T, 31 ≠ T → Stays T wr u := fun T hT => .grown hz hT hg
  refine ⟨S.stamps.keep (.of_stays (kp _ (by decide))), S.rows.keep (.of_stays (kp _ (by decide))) (.of_stays (kp _ (by decide))), S.rdr.keep (kp _ (by decide)) (hg.block _ S.rdr.lt (by simp; omega)), ?_⟩
  exact grown_then ((grown_alloc (grown_self b) o).trans S.grown) hg (by simp)
theorem ints_bytes (U : Way) (hU : U.Ok) : ∀ (n : Nat) (s : St), IsBytes s.1 → IsBytes (rdInts U n s).2.1
  | 0, _, h => h
  | n + 1, s, h => hU.bytes _ _ (ints_bytes U hU n s h)
theorem rows_bytes (U : Way) (hU : U.Ok) : ∀ (n : Nat) (s : St), IsBytes s.1 → IsBytes (rdRows U n s).2.1
  | 0, _, h => h
  | n + 1, s, h => row_bytes U hU _ (rows_bytes U hU n s h)
theorem token_bytes (U : Way) (hU : U.Ok) (s : St) (h : IsBytes s.1) : IsBytes (rdToken U s).2.1 :=
  rows_bytes U hU _ _ (hU.bytes _ _ (hU.bytes _ _ (ints_bytes U hU _ _ (hU.bytes _ _ (hU.bytes _ _ (hU.bytes _ _ h))))))

set_option maxRecDepth 100000 in
set_option maxHeartbeats 4000000 in
theorem readframe_3 (b : Nat) (s : St) (w : World) (h : Rdr 95 5 w b s.1 s.2) (hy : IsBytes s.1) (hkind : (rdNum pWay s).1 ≠ 0 ∧ (rdNum pWay s).1 ≠ 1 ∧ (rdNum pWay s).1 ≠ 2) :
    Calls Try.prog 50 #[.pointer (some ⟨b, 0, none⟩)] w (FrameRead 95 pWay w b s) := by
  have hbw := h.lt
  have T0 := Lib.hid (FrmSt.start h hy (.cells #[.int .i64 0, .int .i64 0, .int .i64 0, .int .i64 0, .int .i64 0, .int .u64 0, .int .i64 0, .int .i64 0, .slice none 0 0, .int .i64 0, .slice none 0 0] 31))
  clear h
  have hK : Hid (∀ s : St, IsBytes s.1 → IsBytes (rdNum pWay s).2.1) := fun s h => pWay_ok.bytes _ _ h
  have hwf : (Lit.int .i64 (rdNum pWay s).1).wf = true := by
    have h1 : 0 ≤ (rdNum pWay s).1 := pWay_ok.low most s hy
    have h2 : (rdNum pWay s).1 ≤ 4611686018427387904 := pWay_ok.high most s (by unfold most; omega)
    exact WalkArith.wf_i64 (by omega)
  have hq : partOf (rdNum pWay s).1 = 0 := by
    unfold partOf; rw [if_neg hkind.1, if_neg hkind.2.1, if_neg hkind.2.2]
  have hR : rdFrame pWay s = (⟨(rdNum pWay s).1, (rdNum pWay (rdNum pWay s).2).1, (rdNum pWay (rdNum pWay (rdNum pWay s).2).2).1, 0, 0, 0, noTk⟩, (rdNum pWay (rdNum pWay (rdNum pWay s).2).2).2) := by
    unfold rdFrame
    simp only
    rw [if_neg hkind.1, if_neg hkind.2.1, if_neg hkind.2.2]
  have y1 := hK.out s hy
  have C1 := Lib.hid (fun u h => pnum_w b s u h hy)
  generalize rdNum pWay s = q1 at hR y1 C1 hq hwf hkind
  obtain ⟨k, s1⟩ := q1
  simp only at hR y1 C1 hq hwf hkind
  have y2 := hK.out s1 y1
  have C2 := Lib.hid (fun u h => pnum_w b s1 u h y1)
  generalize rdNum pWay s1 = q2 at hR y2 C2
  obtain ⟨a, s2⟩ := q2
  simp only at hR y2 C2
  have y3 := hK.out s2 y2
  have C3 := Lib.hid (fun u h => pnum_w b s2 u h y2)
  generalize rdNum pWay s2 = q3 at hR y3 C3
  obtain ⟨d, s3⟩ := q3
  simp only at hR y3 C3
  have HLK := Lib.hid (show ∀ u m, IsParts u m → (Instr.lookup 56 (.map (some m)) (.int .i64 k) false).run Try.prog u = .ok (.int .i64 0) u from fun u m hm => by rw [parts_look u m _ hm hwf, hq])
  have HR := Lib.hid hR
  have Y1 := Lib.hid y1
  have Y2 := Lib.hid y2
  have Y3 := Lib.hid y3
  clear hR y1 y2 y3 hy hq hwf hkind
  go_enter Try.func50, Try.ntmps50
  go_wp2_with (first
    | (go_at_call 67; (with_reducible refine (C1.out _ T0.out.rdr).mono ?_); rintro e u1 ⟨rfl, hr, hg⟩; have S1 := T0.out.read pw_t hr Y1.out hg; obtain ⟨zz, cc, -, -, -, -, -, -, -, -, -, -, ff⟩ := S1.cells; have f0 := ff 0; have T1 := Lib.hid (S1.put 0 (.int .i64 k) ⟨k, 0, 0, 0, 0, 0, noTk⟩ rfl rfl); clear S1 hr hg T0 C1 ff)
    | (go_at_call 67; (with_reducible refine (C2.out _ T1.out.rdr).mono ?_); rintro e u2 ⟨rfl, hr, hg⟩; clear zz cc f0; have S1 := T1.out.read pw_t hr Y2.out hg; obtain ⟨zz, -, cc, -, -, -, -, -, -, -, -, -, ff⟩ := S1.cells; have f0 := ff 1; have T2 := Lib.hid (S1.put 1 (.int .i64 a) ⟨k, a, 0, 0, 0, 0, noTk⟩ rfl rfl); clear S1 hr hg T1 C2 ff)
    | (go_at_call 67; (with_reducible refine (C3.out _ T2.out.rdr).mono ?_); rintro e u3 ⟨rfl, hr, hg⟩; clear zz cc f0; have S1 := T2.out.read pw_t hr Y3.out hg; obtain ⟨zz, -, -, cc, -, -, -, -, -, -, -, -, ff⟩ := S1.cells; have f0 := ff 2; have T3 := Lib.hid (S1.put 2 (.int .i64 d) ⟨k, a, d, 0, 0, 0, noTk⟩ rfl rfl); clear S1 hr hg T2 C3 ff))
  clear zz cc f0
  generalize u3.setCell ⟨w.heap.size + 1, 2, none⟩ (.int .i64 d) = w3 at T3
  have g0 : w3.cell? ⟨w.heap.size + 1, 0, none⟩ = some (.int .i64 k) := T3.out.cells.2.1
  go_region_held3 (fun u => u.cell? ⟨w.heap.size + 1, 0, none⟩ = some (.int .i64 k)) (first | assumption | exact g0) (first
    | (go_at_call 27; (with_reducible refine (parts_any _).mono ?_); rintro e u4 ⟨bp, rfl, hp, hb1⟩; have T4 := Lib.hid (T3.out.below (undrew hb1)); clear hb1; have hlk := HLK.out u4 bp hp; have s1' : u4.cell? ⟨w.heap.size + 1, 0, none⟩ = some (.int .i64 k) := T4.out.cells.2.1; clear hp))
  clear hlk g0 s1' T3
  obtain ⟨z0, c0, c1, c2, c3, c4, c5, c6, c7, c8, c9, c10, -⟩ := T4.out.cells
  have hz := T4.out.zero hbw
  obtain ⟨x0, d0, d1, d2, d3, d4, d5, d6, d7, d8, d9, d10, ff⟩ := hz.cells
  have g0 := ff 0
  have g1 := ff 1
  have g2 := ff 2
  have g3 := ff 3
  have g4 := ff 4
  have g5 := ff 5
  have g6 := ff 6
  have g7 := ff 7
  have g8 := ff 8
  have g9 := ff 9
  have g10 := ff 10
  have HZ := Lib.hid hz
  clear ff hz
  simp only [noTk, List.length_nil] at c6 c7 c8 c9 c10
  go_wp2
  refine bodyPost_ret (v := frameVal ⟨k, a, d, 0, 0, 0, noTk⟩ none none 0 0) (by simp [results, Try.results50, go_sem, frameVal, noTk, *]) rfl ?_
  obtain ⟨f1, f2, f3, f4⟩ := T4.out.done hbw HZ.out (((((((((((grown_set w.heap.size 0 _).trans (grown_set w.heap.size 1 _)).trans (grown_set w.heap.size 2 _)).trans (grown_set w.heap.size 3 _)).trans (grown_set w.heap.size 4 _)).trans (grown_set w.heap.size 5 _)).trans (grown_set w.heap.size 6 _)).trans (grown_set w.heap.size 7 _)).trans (grown_set w.heap.size 8 _)).trans (grown_set w.heap.size 9 _)).trans (grown_set w.heap.size 10 _))
  unfold FrameRead
  rw [HR.out]
  exact ⟨_, _, _, _, rfl, f1, f2, f3, f4⟩

set_option maxRecDepth 100000 in
set_option maxHeartbeats 4000000 in
theorem readframe_0 (b : Nat) (s : St) (w : World) (h : Rdr 95 5 w b s.1 s.2) (hy : IsBytes s.1) (hkind : (rdNum pWay s).1 = 0) :
    Calls Try.prog 50 #[.pointer (some ⟨b, 0, none⟩)] w (FrameRead 95 pWay w b s) := by
  have hbw := h.lt
  have T0 := Lib.hid (FrmSt.start h hy (.cells #[.int .i64 0, .int .i64 0, .int .i64 0, .int .i64 0, .int .i64 0, .int .u64 0, .int .i64 0, .int .i64 0, .slice none 0 0, .int .i64 0, .slice none 0 0] 31))
  clear h
  have hK : Hid (∀ s : St, IsBytes s.1 → IsBytes (rdNum pWay s).2.1) := fun s h => pWay_ok.bytes _ _ h
  have hwf : (Lit.int .i64 (rdNum pWay s).1).wf = true := by
    have h1 : 0 ≤ (rdNum pWay s).1 := pWay_ok.low most s hy
    have h2 : (rdNum pWay s).1 ≤ 4611686018427387904 := pWay_ok.high most s (by unfold most; omega)
    exact WalkArith.wf_i64 (by omega)
  have hq : partOf (rdNum pWay s).1 = 1 := by
    rw [hkind]; rfl
  have hR : rdFrame pWay s = (⟨(rdNum pWay s).1, (rdNum pWay (rdNum pWay s).2).1, (rdNum pWay (rdNum pWay (rdNum pWay s).2).2).1, 0, 0, 0, (rdToken pWay (rdNum pWay (rdNum pWay (rdNum pWay s).2).2).2).1⟩, (rdToken pWay (rdNum pWay (rdNum pWay (rdNum pWay s).2).2).2).2) := by
    unfold rdFrame
    simp only
    rw [if_pos hkind]
  have y1 := hK.out s hy
  have C1 := Lib.hid (fun u h => pnum_w b s u h hy)
  generalize rdNum pWay s = q1 at hR y1 C1 hq hwf hkind
  obtain ⟨k, s1⟩ := q1
  simp only at hR y1 C1 hq hwf hkind
  subst hkind
  have y2 := hK.out s1 y1
  have C2 := Lib.hid (fun u h => pnum_w b s1 u h y1)
  generalize rdNum pWay s1 = q2 at hR y2 C2
  obtain ⟨a, s2⟩ := q2
  simp only at hR y2 C2
  have y3 := hK.out s2 y2
  have C3 := Lib.hid (fun u h => pnum_w b s2 u h y2)
  generalize rdNum pWay s2 = q3 at hR y3 C3
  obtain ⟨d, s3⟩ := q3
  simp only at hR y3 C3
  have C4 := Lib.hid (fun u h => readtoken_any b s3 u h y3)
  unfold TokenRead at C4
  have y4 := token_bytes pWay pWay_ok s3 y3
  generalize rdToken pWay s3 = q4 at hR C4 y4
  obtain ⟨t, s4⟩ := q4
  simp only at hR C4 y4
  have Y4 := Lib.hid y4
  clear y4
  have HLK := Lib.hid (show ∀ u m, IsParts u m → (Instr.lookup 56 (.map (some m)) (.int .i64 0) false).run Try.prog u = .ok (.int .i64 1) u from fun u m hm => by rw [parts_look u m _ hm hwf, hq])
  have HR := Lib.hid hR
  have Y1 := Lib.hid y1
  have Y2 := Lib.hid y2
  have Y3 := Lib.hid y3
  clear hR y1 y2 y3 hy hq hwf
  go_enter Try.func50, Try.ntmps50
  go_wp2_with (first
    | (go_at_call 67; (with_reducible refine (C1.out _ T0.out.rdr).mono ?_); rintro e u1 ⟨rfl, hr, hg⟩; have S1 := T0.out.read pw_t hr Y1.out hg; obtain ⟨zz, cc, -, -, -, -, -, -, -, -, -, -, ff⟩ := S1.cells; have f0 := ff 0; have T1 := Lib.hid (S1.put 0 (.int .i64 0) ⟨0, 0, 0, 0, 0, 0, noTk⟩ rfl rfl); clear S1 hr hg T0 C1 ff)
    | (go_at_call 67; (with_reducible refine (C2.out _ T1.out.rdr).mono ?_); rintro e u2 ⟨rfl, hr, hg⟩; clear zz cc f0; have S1 := T1.out.read pw_t hr Y2.out hg; obtain ⟨zz, -, cc, -, -, -, -, -, -, -, -, -, ff⟩ := S1.cells; have f0 := ff 1; have T2 := Lib.hid (S1.put 1 (.int .i64 a) ⟨0, a, 0, 0, 0, 0, noTk⟩ rfl rfl); clear S1 hr hg T1 C2 ff)
    | (go_at_call 67; (with_reducible refine (C3.out _ T2.out.rdr).mono ?_); rintro e u3 ⟨rfl, hr, hg⟩; clear zz cc f0; have S1 := T2.out.read pw_t hr Y3.out hg; obtain ⟨zz, -, -, cc, -, -, -, -, -, -, -, -, ff⟩ := S1.cells; have f0 := ff 2; have T3 := Lib.hid (S1.put 2 (.int .i64 d) ⟨0, a, d, 0, 0, 0, noTk⟩ rfl rfl); clear S1 hr hg T2 C3 ff))
  clear zz cc f0
  generalize u3.setCell ⟨w.heap.size + 1, 2, none⟩ (.int .i64 d) = w3 at T3
  have g0 : w3.cell? ⟨w.heap.size + 1, 0, none⟩ = some (.int .i64 0) := T3.out.cells.2.1
  go_region_held3 (fun u => u.cell? ⟨w.heap.size + 1, 0, none⟩ = some (.int .i64 0)) (first | assumption | exact g0) (first
    | (go_at_call 27; (with_reducible refine (parts_any _).mono ?_); rintro e u4 ⟨bp, rfl, hp, hb1⟩; have T4 := Lib.hid (T3.out.below (undrew hb1)); clear hb1; have hlk := HLK.out u4 bp hp; have s1' : u4.cell? ⟨w.heap.size + 1, 0, none⟩ = some (.int .i64 0) := T4.out.cells.2.1; clear hp))
  clear hlk g0 s1' T3
  go_wp2_with (go_at_call 68; (with_reducible refine (C4.out _ T4.out.rdr).mono ?_); rintro e u5 ⟨ps, cs, p, c, rfl, hi, hw, hr, hg⟩; have S1 := T4.out.read pw_t hr Y4.out hg; obtain ⟨z0, c0, c1, c2, c3, c4, c5, c6, c7, c8, c9, c10, ee⟩ := S1.cells; have hz := S1.zero hbw; obtain ⟨x0, d0, d1, d2, d3, d4, d5, d6, d7, d8, d9, d10, ff⟩ := hz.cells; have g0 := ff 0; have g1 := ff 1; have g2 := ff 2; have g3 := ff 3; have g4 := ff 4; have g5 := ff 5; have g6 := ff 6; have g7 := ff 7; have g8 := ff 8; have g9 := ff 9; have g10 := ff 10; have HZ := Lib.hid hz; simp only [noTk, List.length_nil] at c6 c7 c8 c9 c10; clear hz ff; have e6 := ee 6; have e7 := ee 7; have e8 := ee 8; have e9 := ee 9; have e10 := ee 10; have T5 := Lib.hid (S1.puttok t ps p cs c hi hw); clear S1 hi hw hr hg T4 C4 ee)
  refine bodyPost_ret (v := frameVal ⟨0, a, d, 0, 0, 0, t⟩ ps p cs c) (by simp [results, Try.results50, go_sem, frameVal, *]) rfl ?_
  obtain ⟨f1, f2, f3, f4⟩ := T5.out.done hbw (T5.out.zero hbw) (((((((((((grown_set w.heap.size 0 _).trans (grown_set w.heap.size 1 _)).trans (grown_set w.heap.size 2 _)).trans (grown_set w.heap.size 3 _)).trans (grown_set w.heap.size 4 _)).trans (grown_set w.heap.size 5 _)).trans (grown_set w.heap.size 6 _)).trans (grown_set w.heap.size 7 _)).trans (grown_set w.heap.size 8 _)).trans (grown_set w.heap.size 9 _)).trans (grown_set w.heap.size 10 _))
  unfold FrameRead
  rw [HR.out]
  exact ⟨_, _, _, _, rfl, f1, f2, f3, f4⟩

set_option maxRecDepth 100000 in
set_option maxHeartbeats 4000000 in
theorem readframe_1 (b : Nat) (s : St) (w : World) (h : Rdr 95 5 w b s.1 s.2) (hy : IsBytes s.1) (hkind : (rdNum pWay s).1 = 1) :
    Calls Try.prog 50 #[.pointer (some ⟨b, 0, none⟩)] w (FrameRead 95 pWay w b s) := by
  have hbw := h.lt
  have T0 := Lib.hid (FrmSt.start h hy (.cells #[.int .i64 0, .int .i64 0, .int .i64 0, .int .i64 0, .int .i64 0, .int .u64 0, .int .i64 0, .int .i64 0, .slice none 0 0, .int .i64 0, .slice none 0 0] 31))
  clear h
  have hK : Hid (∀ s : St, IsBytes s.1 → IsBytes (rdNum pWay s).2.1) := fun s h => pWay_ok.bytes _ _ h
  have hwf : (Lit.int .i64 (rdNum pWay s).1).wf = true := by
    have h1 : 0 ≤ (rdNum pWay s).1 := pWay_ok.low most s hy
    have h2 : (rdNum pWay s).1 ≤ 4611686018427387904 := pWay_ok.high most s (by unfold most; omega)
    exact WalkArith.wf_i64 (by omega)
  have hq : partOf (rdNum pWay s).1 = 6 := by
    rw [hkind]; rfl
  have hR : rdFrame pWay s = (⟨(rdNum pWay s).1, (rdNum pWay (rdNum pWay s).2).1, (rdNum pWay (rdNum pWay (rdNum pWay s).2).2).1, (rdNum pWay (rdNum pWay (rdNum pWay (rdNum pWay s).2).2).2).1, (rdNum pWay (rdNum pWay (rdNum pWay (rdNum pWay (rdNum pWay s).2).2).2).2).1, 0, noTk⟩, (rdNum pWay (rdNum pWay (rdNum pWay (rdNum pWay (rdNum pWay s).2).2).2).2).2) := by
    unfold rdFrame
    simp only
    rw [if_neg (by omega), if_pos hkind]
  have y1 := hK.out s hy
  have C1 := Lib.hid (fun u h => pnum_w b s u h hy)
  generalize rdNum pWay s = q1 at hR y1 C1 hq hwf hkind
  obtain ⟨k, s1⟩ := q1
  simp only at hR y1 C1 hq hwf hkind
  subst hkind
  have y2 := hK.out s1 y1
  have C2 := Lib.hid (fun u h => pnum_w b s1 u h y1)
  generalize rdNum pWay s1 = q2 at hR y2 C2
  obtain ⟨a, s2⟩ := q2
  simp only at hR y2 C2
  have y3 := hK.out s2 y2
  have C3 := Lib.hid (fun u h => pnum_w b s2 u h y2)
  generalize rdNum pWay s2 = q3 at hR y3 C3
  obtain ⟨d, s3⟩ := q3
  simp only at hR y3 C3
  have y4 := hK.out s3 y3
  have C4 := Lib.hid (fun u h => pnum_w b s3 u h y3)
  generalize rdNum pWay s3 = q4 at hR C4 y4
  obtain ⟨g, s4⟩ := q4
  simp only at hR C4 y4
  have y5 := hK.out s4 y4
  have C5 := Lib.hid (fun u h => pnum_w b s4 u h y4)
  generalize rdNum pWay s4 = q5 at hR C5 y5
  obtain ⟨hh, s5⟩ := q5
  simp only at hR C5 y5
  have Y4 := Lib.hid y4
  have Y5 := Lib.hid y5
  clear y4 y5
  have HLK := Lib.hid (show ∀ u m, IsParts u m → (Instr.lookup 56 (.map (some m)) (.int .i64 1) false).run Try.prog u = .ok (.int .i64 6) u from fun u m hm => by rw [parts_look u m _ hm hwf, hq])
  have HR := Lib.hid hR
  have Y1 := Lib.hid y1
  have Y2 := Lib.hid y2
  have Y3 := Lib.hid y3
  clear hR y1 y2 y3 hy hq hwf
  go_enter Try.func50, Try.ntmps50
  go_wp2_with (first
    | (go_at_call 67; (with_reducible refine (C1.out _ T0.out.rdr).mono ?_); rintro e u1 ⟨rfl, hr, hg⟩; have S1 := T0.out.read pw_t hr Y1.out hg; obtain ⟨zz, cc, -, -, -, -, -, -, -, -, -, -, ff⟩ := S1.cells; have f0 := ff 0; have T1 := Lib.hid (S1.put 0 (.int .i64 1) ⟨1, 0, 0, 0, 0, 0, noTk⟩ rfl rfl); clear S1 hr hg T0 C1 ff)
    | (go_at_call 67; (with_reducible refine (C2.out _ T1.out.rdr).mono ?_); rintro e u2 ⟨rfl, hr, hg⟩; clear zz cc f0; have S1 := T1.out.read pw_t hr Y2.out hg; obtain ⟨zz, -, cc, -, -, -, -, -, -, -, -, -, ff⟩ := S1.cells; have f0 := ff 1; have T2 := Lib.hid (S1.put 1 (.int .i64 a) ⟨1, a, 0, 0, 0, 0, noTk⟩ rfl rfl); clear S1 hr hg T1 C2 ff)
    | (go_at_call 67; (with_reducible refine (C3.out _ T2.out.rdr).mono ?_); rintro e u3 ⟨rfl, hr, hg⟩; clear zz cc f0; have S1 := T2.out.read pw_t hr Y3.out hg; obtain ⟨zz, -, -, cc, -, -, -, -, -, -, -, -, ff⟩ := S1.cells; have f0 := ff 2; have T3 := Lib.hid (S1.put 2 (.int .i64 d) ⟨1, a, d, 0, 0, 0, noTk⟩ rfl rfl); clear S1 hr hg T2 C3 ff))
  clear zz cc f0
  generalize u3.setCell ⟨w.heap.size + 1, 2, none⟩ (.int .i64 d) = w3 at T3
  have g0 : w3.cell? ⟨w.heap.size + 1, 0, none⟩ = some (.int .i64 1) := T3.out.cells.2.1
  go_region_held3 (fun u => u.cell? ⟨w.heap.size + 1, 0, none⟩ = some (.int .i64 1)) (first | assumption | exact g0) (first
    | (go_at_call 27; (with_reducible refine (parts_any _).mono ?_); rintro e u4 ⟨bp, rfl, hp, hb1⟩; have T4 := Lib.hid (T3.out.below (undrew hb1)); clear hb1; have hlk := HLK.out u4 bp hp; have s1' : u4.cell? ⟨w.heap.size + 1, 0, none⟩ = some (.int .i64 1) := T4.out.cells.2.1; clear hp))
  clear hlk g0 s1' T3
  go_wp2_with (first
    | (go_at_call 67; (with_reducible refine (C4.out _ T4.out.rdr).mono ?_); rintro e u5 ⟨rfl, hr, hg⟩; have S1 := T4.out.read pw_t hr Y4.out hg; obtain ⟨zz, -, -, -, cc, -, -, -, -, -, -, -, ff⟩ := S1.cells; have f0 := ff 3; have T5 := Lib.hid (S1.put 3 (.int .i64 g) ⟨1, a, d, g, 0, 0, noTk⟩ rfl rfl); clear S1 hr hg T4 C4 ff)
    | (go_at_call 67; (with_reducible refine (C5.out _ T5.out.rdr).mono ?_); rintro e u6 ⟨rfl, hr, hg⟩; clear zz cc f0; have S1 := T5.out.read pw_t hr Y5.out hg; obtain ⟨z0, c0, c1, c2, c3, c4, c5, c6, c7, c8, c9, c10, ee⟩ := S1.cells; have hz := S1.zero hbw; obtain ⟨x0, d0, d1, d2, d3, d4, d5, d6, d7, d8, d9, d10, ff⟩ := hz.cells; have g0 := ff 0; have g1 := ff 1; have g2 := ff 2; have g3 := ff 3; have g4 := ff 4; have g5 := ff 5; have g6 := ff 6; have g7 := ff 7; have g8 := ff 8; have g9 := ff 9; have g10 := ff 10; have HZ := Lib.hid hz; simp only [noTk, List.length_nil] at c6 c7 c8 c9 c10; clear hz ff; have e4 := ee 4; have T6 := Lib.hid (S1.put 4 (.int .i64 hh) ⟨1, a, d, g, hh, 0, noTk⟩ rfl rfl); clear S1 hr hg T5 C5 ee))
  refine bodyPost_ret (v := frameVal ⟨1, a, d, g, hh, 0, noTk⟩ none none 0 0) (by simp [results, Try.results50, go_sem, frameVal, noTk, *]) rfl ?_
  obtain ⟨f1, f2, f3, f4⟩ := T6.out.done hbw (T6.out.zero hbw) (((((((((((grown_set w.heap.size 0 _).trans (grown_set w.heap.size 1 _)).trans (grown_set w.heap.size 2 _)).trans (grown_set w.heap.size 3 _)).trans (grown_set w.heap.size 4 _)).trans (grown_set w.heap.size 5 _)).trans (grown_set w.heap.size 6 _)).trans (grown_set w.heap.size 7 _)).trans (grown_set w.heap.size 8 _)).trans (grown_set w.heap.size 9 _)).trans (grown_set w.heap.size 10 _))
  unfold FrameRead
  rw [HR.out]
  exact ⟨_, _, _, _, rfl, f1, f2, f3, f4⟩

set_option maxRecDepth 100000 in
set_option maxHeartbeats 4000000 in
theorem readframe_2 (b : Nat) (s : St) (w : World) (h : Rdr 95 5 w b s.1 s.2) (hy : IsBytes s.1) (hkind : (rdNum pWay s).1 = 2) :
    Calls Try.prog 50 #[.pointer (some ⟨b, 0, none⟩)] w (FrameRead 95 pWay w b s) := by
  have hbw := h.lt
  have T0 := Lib.hid (FrmSt.start h hy (.cells #[.int .i64 0, .int .i64 0, .int .i64 0, .int .i64 0, .int .i64 0, .int .u64 0, .int .i64 0, .int .i64 0, .slice none 0 0, .int .i64 0, .slice none 0 0] 31))
  clear h
  have hK : Hid (∀ s : St, IsBytes s.1 → IsBytes (rdNum pWay s).2.1) := fun s h => pWay_ok.bytes _ _ h
  have hwf : (Lit.int .i64 (rdNum pWay s).1).wf = true := by
    have h1 : 0 ≤ (rdNum pWay s).1 := pWay_ok.low most s hy
    have h2 : (rdNum pWay s).1 ≤ 4611686018427387904 := pWay_ok.high most s (by unfold most; omega)
    exact WalkArith.wf_i64 (by omega)
  have hq : partOf (rdNum pWay s).1 = 10 := by
    rw [hkind]; rfl
  have hR : rdFrame pWay s = (⟨(rdNum pWay s).1, (rdNum pWay (rdNum pWay s).2).1, (rdNum pWay (rdNum pWay (rdNum pWay s).2).2).1, (rdNum pWay (rdNum pWay (rdNum pWay (rdNum pWay s).2).2).2).1, 0, (pWay.bits (rdNum pWay (rdNum pWay (rdNum pWay (rdNum pWay s).2).2).2).2).1, noTk⟩, (pWay.bits (rdNum pWay (rdNum pWay (rdNum pWay (rdNum pWay s).2).2).2).2).2) := by
    unfold rdFrame
    simp only
    rw [if_neg (by omega), if_neg (by omega), if_pos hkind]
  have y1 := hK.out s hy
  have C1 := Lib.hid (fun u h => pnum_w b s u h hy)
  generalize rdNum pWay s = q1 at hR y1 C1 hq hwf hkind
  obtain ⟨k, s1⟩ := q1
  simp only at hR y1 C1 hq hwf hkind
  subst hkind
  have y2 := hK.out s1 y1
  have C2 := Lib.hid (fun u h => pnum_w b s1 u h y1)
  generalize rdNum pWay s1 = q2 at hR y2 C2
  obtain ⟨a, s2⟩ := q2
  simp only at hR y2 C2
  have y3 := hK.out s2 y2
  have C3 := Lib.hid (fun u h => pnum_w b s2 u h y2)
  generalize rdNum pWay s2 = q3 at hR y3 C3
  obtain ⟨d, s3⟩ := q3
  simp only at hR y3 C3
  have y4 := hK.out s3 y3
  have C4 := Lib.hid (fun u h => pnum_w b s3 u h y3)
  generalize rdNum pWay s3 = q4 at hR C4 y4
  obtain ⟨g, s4⟩ := q4
  simp only at hR C4 y4
  have y5 : IsBytes (pWay.bits s4).2.1 := pBits_ok y4
  have C5 := Lib.hid (fun u h => pbits_w b s4 u h y4)
  generalize pWay.bits s4 = q5 at hR C5 y5
  obtain ⟨hh, s5⟩ := q5
  simp only at hR C5 y5
  have Y4 := Lib.hid y4
  have Y5 := Lib.hid y5
  clear y4 y5
  have HLK := Lib.hid (show ∀ u m, IsParts u m → (Instr.lookup 56 (.map (some m)) (.int .i64 2) false).run Try.prog u = .ok (.int .i64 10) u from fun u m hm => by rw [parts_look u m _ hm hwf, hq])
  have HR := Lib.hid hR
  have Y1 := Lib.hid y1
  have Y2 := Lib.hid y2
  have Y3 := Lib.hid y3
  clear hR y1 y2 y3 hy hq hwf
  go_enter Try.func50, Try.ntmps50
  go_wp2_with (first
    | (go_at_call 67; (with_reducible refine (C1.out _ T0.out.rdr).mono ?_); rintro e u1 ⟨rfl, hr, hg⟩; have S1 := T0.out.read pw_t hr Y1.out hg; obtain ⟨zz, cc, -, -, -, -, -, -, -, -, -, -, ff⟩ := S1.cells; have f0 := ff 0; have T1 := Lib.hid (S1.put 0 (.int .i64 2) ⟨2, 0, 0, 0, 0, 0, noTk⟩ rfl rfl); clear S1 hr hg T0 C1 ff)
    | (go_at_call 67; (with_reducible refine (C2.out _ T1.out.rdr).mono ?_); rintro e u2 ⟨rfl, hr, hg⟩; clear zz cc f0; have S1 := T1.out.read pw_t hr Y2.out hg; obtain ⟨zz, -, cc, -, -, -, -, -, -, -, -, -, ff⟩ := S1.cells; have f0 := ff 1; have T2 := Lib.hid (S1.put 1 (.int .i64 a) ⟨2, a, 0, 0, 0, 0, noTk⟩ rfl rfl); clear S1 hr hg T1 C2 ff)
    | (go_at_call 67; (with_reducible refine (C3.out _ T2.out.rdr).mono ?_); rintro e u3 ⟨rfl, hr, hg⟩; clear zz cc f0; have S1 := T2.out.read pw_t hr Y3.out hg; obtain ⟨zz, -, -, cc, -, -, -, -, -, -, -, -, ff⟩ := S1.cells; have f0 := ff 2; have T3 := Lib.hid (S1.put 2 (.int .i64 d) ⟨2, a, d, 0, 0, 0, noTk⟩ rfl rfl); clear S1 hr hg T2 C3 ff))
  clear zz cc f0
  generalize u3.setCell ⟨w.heap.size + 1, 2, none⟩ (.int .i64 d) = w3 at T3
  have g0 : w3.cell? ⟨w.heap.size + 1, 0, none⟩ = some (.int .i64 2) := T3.out.cells.2.1
  go_region_held3 (fun u => u.cell? ⟨w.heap.size + 1, 0, none⟩ = some (.int .i64 2)) (first | assumption | exact g0) (first
    | (go_at_call 27; (with_reducible refine (parts_any _).mono ?_); rintro e u4 ⟨bp, rfl, hp, hb1⟩; have T4 := Lib.hid (T3.out.below (undrew hb1)); clear hb1; have hlk := HLK.out u4 bp hp; have s1' : u4.cell? ⟨w.heap.size + 1, 0, none⟩ = some (.int .i64 2) := T4.out.cells.2.1; clear hp))
  clear hlk g0 s1' T3
  go_wp2_with (first
    | (go_at_call 67; (with_reducible refine (C4.out _ T4.out.rdr).mono ?_); rintro e u5 ⟨rfl, hr, hg⟩; have S1 := T4.out.read pw_t hr Y4.out hg; obtain ⟨zz, -, -, -, cc, -, -, -, -, -, -, -, ff⟩ := S1.cells; have f0 := ff 3; have T5 := Lib.hid (S1.put 3 (.int .i64 g) ⟨2, a, d, g, 0, 0, noTk⟩ rfl rfl); clear S1 hr hg T4 C4 ff)
    | (go_at_call 69; (with_reducible refine (C5.out _ T5.out.rdr).mono ?_); rintro e u6 ⟨rfl, hr, hg⟩; clear zz cc f0; have S1 := T5.out.read pw_t hr Y5.out hg; obtain ⟨z0, c0, c1, c2, c3, c4, c5, c6, c7, c8, c9, c10, ee⟩ := S1.cells; have hz := S1.zero hbw; obtain ⟨x0, d0, d1, d2, d3, d4, d5, d6, d7, d8, d9, d10, ff⟩ := hz.cells; have g0 := ff 0; have g1 := ff 1; have g2 := ff 2; have g3 := ff 3; have g4 := ff 4; have g5 := ff 5; have g6 := ff 6; have g7 := ff 7; have g8 := ff 8; have g9 := ff 9; have g10 := ff 10; have HZ := Lib.hid hz; simp only [noTk, List.length_nil] at c6 c7 c8 c9 c10; clear hz ff; have e5 := ee 5; have T6 := Lib.hid (S1.put 5 (.int .u64 hh) ⟨2, a, d, g, 0, hh, noTk⟩ rfl rfl); clear S1 hr hg T5 C5 ee))
  refine bodyPost_ret (v := frameVal ⟨2, a, d, g, 0, hh, noTk⟩ none none 0 0) (by simp [results, Try.results50, go_sem, frameVal, noTk, *]) rfl ?_
  obtain ⟨f1, f2, f3, f4⟩ := T6.out.done hbw (T6.out.zero hbw) (((((((((((grown_set w.heap.size 0 _).trans (grown_set w.heap.size 1 _)).trans (grown_set w.heap.size 2 _)).trans (grown_set w.heap.size 3 _)).trans (grown_set w.heap.size 4 _)).trans (grown_set w.heap.size 5 _)).trans (grown_set w.heap.size 6 _)).trans (grown_set w.heap.size 7 _)).trans (grown_set w.heap.size 8 _)).trans (grown_set w.heap.size 9 _)).trans (grown_set w.heap.size 10 _))
  unfold FrameRead
  rw [HR.out]
  exact ⟨_, _, _, _, rfl, f1, f2, f3, f4⟩

/-- readFrame, of any bytes. -/
theorem readframe_any (b : Nat) (s : St) (w : World) (h : Rdr 95 5 w b s.1 s.2) (hy : IsBytes s.1) :
    Calls Try.prog 50 #[.pointer (some ⟨b, 0, none⟩)] w (FrameRead 95 pWay w b s) := by
  by_cases k0 : (rdNum pWay s).1 = 0
  · exact readframe_0 b s w h hy k0
  · by_cases k1 : (rdNum pWay s).1 = 1
    · exact readframe_1 b s w h hy k1
    · by_cases k2 : (rdNum pWay s).1 = 2
      · exact readframe_2 b s w h hy k2
      · exact readframe_3 b s w h hy ⟨k0, k1, k2⟩
end Go.Proofs.Ytnogfhjeckkckaa.Frame
