/-
  The program's Decode, of any bytes: the frame that may be that FrmBack reads out of them, and OK, or nothing, and ErrForm; of what lay when the call began nothing has turned.
-/
import Derived.Test.YtnogfhjeckkckaaFrmReadFr
namespace Go.Proofs.Ytnogfhjeckkckaa.Frame
open Go.RowKit Codec

/-- What is decoded. -/
def decFr (U : Way) (xs : List Int) : Fr := if rdOk U xs = true then (rdFrame U (xs, false)).1 else ⟨0, 0, 0, 0, 0, 0, noTk⟩
/-- What Decode tells. -/
def Decoded (U : Way) (w : World) (xs : List Int) (e : Ending) (w' : World) : Prop :=
  ∃ ps cs p c, e = .returned (.tuple #[frameVal (decFr U xs) ps p cs c, .int .i64 (if rdOk U xs = true then 0 else 2)]) ∧ Lying w' (decFr U xs) ps p ∧ Below w.heap.size w w'

theorem ZeroBox.below {w w' : World} {R : Nat} (h : ZeroBox w R) (hb : Below w.heap.size w w') : ZeroBox w' R := (hb.block _ (lt_of_heap h)).trans h
theorem after_store {w wr u : World} {R : Nat} {ps p : Option Addr} {st : List Int} {rows : List Rw} (hz : ZeroBox wr R) (h1 : IntsS 0 wr ps st) (h2 : RowsS 0 wr p rows) (hb : Below w.heap.size w wr) (hR : w.heap.size ≤ R) (hg : wr.grownBy u (some R)) : IntsS 0 u ps st ∧ RowsS 0 u p rows ∧ Below w.heap.size w u := by
  have kp : ∀ T, 31 ≠ T → Kp 0 T wr u := fun T hT => .of_stays (.grown hz hT hg)
  exact ⟨h1.keep (kp _ (by decide)), h2.keep (kp _ (by decide)) (kp _ (by decide)), hb.grown hg hb.size (fun k hk => by simp at hk; omega)⟩

/-- What Decode leaves, by the cells. -/
def DecPost (w : World) (kind src dst gen hop bits tg th ts : Int) (st : List Int) (rows : List Rw) (ok : Bool) (e : Ending) (w' : World) : Prop :=
  ∃ ps cs p c, e = .returned (if ok = true then .tuple #[.agg #[.int .i64 kind, .int .i64 src, .int .i64 dst, .int .i64 gen, .int .i64 hop, .int .u64 bits, .int .i64 tg, .int .i64 th, .slice ps st.length cs, .int .i64 ts, .slice p rows.length c], .int .i64 0] else .tuple #[.agg #[.int .i64 0, .int .i64 0, .int .i64 0, .int .i64 0, .int .i64 0, .int .u64 0, .int .i64 0, .int .i64 0, .slice none 0 0, .int .i64 0, .slice none 0 0], .int .i64 2]) ∧ IntsS 0 w' ps st ∧ RowsS 0 w' p rows ∧ Below w.heap.size w w'
theorem after_alloc {w u : World} {ps p : Option Addr} {st : List Int} {rows : List Rw} {o : Obj} (h : IntsS 0 u ps st ∧ RowsS 0 u p rows ∧ Below w.heap.size w u) : IntsS 0 (u.alloc o) ps st ∧ RowsS 0 (u.alloc o) p rows ∧ Below w.heap.size w (u.alloc o) :=
  have hb : Below u.heap.size u (u.alloc o) := (Below.refl _ _).alloc (Nat.le_refl _) _
  ⟨h.1.keep (.of_stays (.below hb)), h.2.1.keep (.of_stays (.below hb)) (.of_stays (.below hb)), h.2.2.alloc h.2.2.size _⟩

set_option maxRecDepth 100000 in
set_option maxHeartbeats 4000000 in
theorem decode_core (q : Option Addr) (n d : Nat) (xs : List Int) (w : World) (s' : St) (kind src dst gen hop bits tg th ts : Int) (st : List Int) (rows : List Rw) (br : Bool)
    (hread : ∀ u, Below w.heap.size w u → Calls Try.prog 49 #[.slice q n d] u (NewReader 95 5 u xs))
    (hrf : ∀ u b, Rdr 95 5 u b xs false → Calls Try.prog 50 #[.pointer (some ⟨b, 0, none⟩)] u (fun e w' => ∃ ps cs p c, e = .returned (.agg #[.int .i64 kind, .int .i64 src, .int .i64 dst, .int .i64 gen, .int .i64 hop, .int .u64 bits, .int .i64 tg, .int .i64 th, .slice ps st.length cs, .int .i64 ts, .slice p rows.length c]) ∧ IntsS 0 w' ps st ∧ RowsS 0 w' p rows ∧ Rdr 95 5 w' b s'.1 s'.2 ∧ u.grownBy w' (some b)))
    (hright : ∀ u ps cs p c, IntsS 0 u ps st → RowsS 0 u p rows → Calls Try.prog 8 #[.agg #[.int .i64 kind, .int .i64 src, .int .i64 dst, .int .i64 gen, .int .i64 hop, .int .u64 bits, .int .i64 tg, .int .i64 th, .slice ps st.length cs, .int .i64 ts, .slice p rows.length c]] u (Asked u br)) :
    Calls Try.prog 21 #[.slice q n d] w (DecPost w kind src dst gen hop bits tg th ts st rows (decide (tell s' = 0 ∧ br = true))) := by
  have hb0 : Below w.heap.size w (w.alloc (.cells #[.int .i64 0, .int .i64 0, .int .i64 0, .int .i64 0, .int .i64 0, .int .u64 0, .int .i64 0, .int .i64 0, .slice none 0 0, .int .i64 0, .slice none 0 0] 31)) := (Below.refl _ _).alloc (Nat.le_refl _) _
  have hz0 : ZeroBox (w.alloc (.cells #[.int .i64 0, .int .i64 0, .int .i64 0, .int .i64 0, .int .i64 0, .int .u64 0, .int .i64 0, .int .i64 0, .slice none 0 0, .int .i64 0, .slice none 0 0] 31)) w.heap.size := heap_alloc_new w _
  have hr0 := hread _ hb0
  have HZ0 := Lib.hid hz0
  have HRF := Lib.hid hrf
  have HRT := Lib.hid hright
  clear hread hz0 hrf hright
  have ways : (tell s' = 2) ∨ (tell s' = 0 ∧ br = false) ∨ (tell s' = 0 ∧ br = true) := by
    unfold tell
    split
    · exact .inl rfl
    · cases br
      · exact .inr (.inl ⟨rfl, rfl⟩)
      · exact .inr (.inr ⟨rfl, rfl⟩)
  rcases ways with htell | ⟨htell, rfl⟩ | ⟨htell, rfl⟩
  · have HOK := Lib.hid (show decide (tell s' = 0 ∧ br = true) = false by rw [htell]; simp)
    clear HRT
    have HT := Lib.hid htell
    generalize hdd : decide (tell s' = 0 ∧ br = true) = ok at HOK ⊢
    clear htell hdd
    go_enter Try.func21, Try.ntmps21
    go_wp2_with (first
      | (go_at_call 49; (with_reducible refine hr0.mono ?_); rintro e u1 ⟨b, hbs, rfl, hr, hb1⟩; clear hr0; have HB1 := Lib.hid (hb0.trans (hb1.mono hb0.size)); have HZ1 : Hid (ZeroBox u1 w.heap.size) := ((hb1.block _ (by simp)).trans HZ0.out); have HR1 := Lib.hid hr; have hbb : w.heap.size < b := (by simp at hbs; omega); clear hr hb1 hbs HZ0)
      | (go_at_call 50; (with_reducible refine (HRF.out _ b HR1.out).mono ?_); rintro e u2 ⟨ps, cs, p, c, rfl, hi, hw, hrd, hg⟩; have HB2 := Lib.hid (HB1.out.grown hg HB1.out.size (fun k hk => by simp at hk; omega)); have HZ2 : Hid (ZeroBox u2 w.heap.size) := ((hg.block _ (lt_of_heap HZ1.out) (by simp; omega)).trans HZ1.out); have HI2 := Lib.hid hi; have HW2 := Lib.hid hw; have HR2 := Lib.hid hrd; clear hi hw hrd hg HZ1 HB1 HR1; obtain ⟨x0, d0, d1, d2, d3, d4, d5, d6, d7, d8, d9, d10, ff⟩ := HZ2.out.cells; have g0 := ff 0; have g1 := ff 1; have g2 := ff 2; have g3 := ff 3; have g4 := ff 4; have g5 := ff 5; have g6 := ff 6; have g7 := ff 7; have g8 := ff 8; have g9 := ff 9; have g10 := ff 10; clear ff)
      | (go_at_call 51; have cd := pdone_any b s' _ (HR2.out.below ((Below.refl _ _).alloc (Nat.le_refl _) (.cells #[.int .i64 kind, .int .i64 src, .int .i64 dst, .int .i64 gen, .int .i64 hop, .int .u64 bits, .int .i64 tg, .int .i64 th, .slice ps st.length cs, .int .i64 ts, .slice p rows.length c] 31))); rw [HT.out] at cd; (with_reducible refine cd.mono ?_); rintro e u3 ⟨rfl, rfl⟩; clear cd))
    refine bodyPost_ret (v := .tuple #[.agg #[.int .i64 0, .int .i64 0, .int .i64 0, .int .i64 0, .int .i64 0, .int .u64 0, .int .i64 0, .int .i64 0, .slice none 0 0, .int .i64 0, .slice none 0 0], .int .i64 2]) (by simp [results, Try.results21, go_sem, *]) rfl ?_
    rw [HOK.out]
    exact ⟨ps, cs, p, c, rfl, after_alloc (after_store HZ2.out HI2.out HW2.out HB2.out (Nat.le_refl _) (((((((((((grown_set w.heap.size 0 _).trans (grown_set w.heap.size 1 _)).trans (grown_set w.heap.size 2 _)).trans (grown_set w.heap.size 3 _)).trans (grown_set w.heap.size 4 _)).trans (grown_set w.heap.size 5 _)).trans (grown_set w.heap.size 6 _)).trans (grown_set w.heap.size 7 _)).trans (grown_set w.heap.size 8 _)).trans (grown_set w.heap.size 9 _)).trans (grown_set w.heap.size 10 _)))⟩
  · have HOK := Lib.hid (show decide (tell s' = 0 ∧ false = true) = false by simp)
    have HT := Lib.hid htell
    generalize hdd : decide (tell s' = 0 ∧ false = true) = ok at HOK ⊢
    clear htell hdd
    go_enter Try.func21, Try.ntmps21
    go_wp2_with (first
      | (go_at_call 49; (with_reducible refine hr0.mono ?_); rintro e u1 ⟨b, hbs, rfl, hr, hb1⟩; clear hr0; have HB1 := Lib.hid (hb0.trans (hb1.mono hb0.size)); have HZ1 : Hid (ZeroBox u1 w.heap.size) := ((hb1.block _ (by simp)).trans HZ0.out); have HR1 := Lib.hid hr; have hbb : w.heap.size < b := (by simp at hbs; omega); clear hr hb1 hbs HZ0)
      | (go_at_call 50; (with_reducible refine (HRF.out _ b HR1.out).mono ?_); rintro e u2 ⟨ps, cs, p, c, rfl, hi, hw, hrd, hg⟩; have HB2 := Lib.hid (HB1.out.grown hg HB1.out.size (fun k hk => by simp at hk; omega)); have HZ2 : Hid (ZeroBox u2 w.heap.size) := ((hg.block _ (lt_of_heap HZ1.out) (by simp; omega)).trans HZ1.out); have HI2 := Lib.hid hi; have HW2 := Lib.hid hw; have HR2 := Lib.hid hrd; clear hi hw hrd hg HZ1 HB1 HR1; obtain ⟨x0, d0, d1, d2, d3, d4, d5, d6, d7, d8, d9, d10, ff⟩ := HZ2.out.cells; have g0 := ff 0; have g1 := ff 1; have g2 := ff 2; have g3 := ff 3; have g4 := ff 4; have g5 := ff 5; have g6 := ff 6; have g7 := ff 7; have g8 := ff 8; have g9 := ff 9; have g10 := ff 10; clear ff)
      | (go_at_call 51; have cd := pdone_any b s' _ (HR2.out.below ((Below.refl _ _).alloc (Nat.le_refl _) (.cells #[.int .i64 kind, .int .i64 src, .int .i64 dst, .int .i64 gen, .int .i64 hop, .int .u64 bits, .int .i64 tg, .int .i64 th, .slice ps st.length cs, .int .i64 ts, .slice p rows.length c] 31))); rw [HT.out] at cd; (with_reducible refine cd.mono ?_); rintro e u3 ⟨rfl, rfl⟩; clear cd)
      | (go_at_call 8; have hba : Below u2.heap.size u2 (u2.alloc (.cells #[.int .i64 kind, .int .i64 src, .int .i64 dst, .int .i64 gen, .int .i64 hop, .int .u64 bits, .int .i64 tg, .int .i64 th, .slice ps st.length cs, .int .i64 ts, .slice p rows.length c] 31)) := ((Below.refl _ _).alloc (Nat.le_refl _) _); have cr := HRT.out _ ps cs p c (HI2.out.keep (.of_stays (.below hba))) (HW2.out.keep (.of_stays (.below hba)) (.of_stays (.below hba))); (with_reducible refine cr.mono ?_); rintro e u4 ⟨rfl, hb4⟩; have hb5 := hba.trans (hb4.mono hba.size); have HBX : Hid (u4.heap[u2.heap.size]? = some (.cells #[.int .i64 kind, .int .i64 src, .int .i64 dst, .int .i64 gen, .int .i64 hop, .int .u64 bits, .int .i64 tg, .int .i64 th, .slice ps st.length cs, .int .i64 ts, .slice p rows.length c] 31 (0, 0))) := ((hb4.block _ (by simp)).trans (heap_alloc_new u2 _)); have HB4 := Lib.hid (HB2.out.trans (hb5.mono HB2.out.size)); have HZ4 : Hid (ZeroBox u4 w.heap.size) := ((hb5.block _ (lt_of_heap HZ2.out)).trans HZ2.out); have HI4 := Lib.hid (HI2.out.keep (.of_stays (.below hb5))); have HW4 := Lib.hid (HW2.out.keep (.of_stays (.below hb5)) (.of_stays (.below hb5))); clear x0 d0 d1 d2 d3 d4 d5 d6 d7 d8 d9 d10 g0 g1 g2 g3 g4 g5 g6 g7 g8 g9 g10; clear hba cr hb4 hb5; obtain ⟨x0, d0, d1, d2, d3, d4, d5, d6, d7, d8, d9, d10, ff⟩ := HZ4.out.cells; have g0 := ff 0; have g1 := ff 1; have g2 := ff 2; have g3 := ff 3; have g4 := ff 4; have g5 := ff 5; have g6 := ff 6; have g7 := ff 7; have g8 := ff 8; have g9 := ff 9; have g10 := ff 10; clear ff))
    refine bodyPost_ret (v := .tuple #[.agg #[.int .i64 0, .int .i64 0, .int .i64 0, .int .i64 0, .int .i64 0, .int .u64 0, .int .i64 0, .int .i64 0, .slice none 0 0, .int .i64 0, .slice none 0 0], .int .i64 2]) (by simp [results, Try.results21, go_sem, *]) rfl ?_
    rw [HOK.out]
    exact ⟨ps, cs, p, c, rfl, after_store HZ4.out HI4.out HW4.out HB4.out (Nat.le_refl _) (((((((((((grown_set w.heap.size 0 _).trans (grown_set w.heap.size 1 _)).trans (grown_set w.heap.size 2 _)).trans (grown_set w.heap.size 3 _)).trans (grown_set w.heap.size 4 _)).trans (grown_set w.heap.size 5 _)).trans (grown_set w.heap.size 6 _)).trans (grown_set w.heap.size 7 _)).trans (grown_set w.heap.size 8 _)).trans (grown_set w.heap.size 9 _)).trans (grown_set w.heap.size 10 _))⟩
  · have HOK := Lib.hid (show decide (tell s' = 0 ∧ true = true) = true by rw [htell]; simp)
    have HT := Lib.hid htell
    generalize hdd : decide (tell s' = 0 ∧ true = true) = ok at HOK ⊢
    clear htell hdd
    go_enter Try.func21, Try.ntmps21
    go_wp2_with (first
      | (go_at_call 49; (with_reducible refine hr0.mono ?_); rintro e u1 ⟨b, hbs, rfl, hr, hb1⟩; clear hr0; have HB1 := Lib.hid (hb0.trans (hb1.mono hb0.size)); have HZ1 : Hid (ZeroBox u1 w.heap.size) := ((hb1.block _ (by simp)).trans HZ0.out); have HR1 := Lib.hid hr; have hbb : w.heap.size < b := (by simp at hbs; omega); clear hr hb1 hbs HZ0)
      | (go_at_call 50; (with_reducible refine (HRF.out _ b HR1.out).mono ?_); rintro e u2 ⟨ps, cs, p, c, rfl, hi, hw, hrd, hg⟩; have HB2 := Lib.hid (HB1.out.grown hg HB1.out.size (fun k hk => by simp at hk; omega)); have HZ2 : Hid (ZeroBox u2 w.heap.size) := ((hg.block _ (lt_of_heap HZ1.out) (by simp; omega)).trans HZ1.out); have HI2 := Lib.hid hi; have HW2 := Lib.hid hw; have HR2 := Lib.hid hrd; clear hi hw hrd hg HZ1 HB1 HR1; obtain ⟨x0, d0, d1, d2, d3, d4, d5, d6, d7, d8, d9, d10, ff⟩ := HZ2.out.cells; have g0 := ff 0; have g1 := ff 1; have g2 := ff 2; have g3 := ff 3; have g4 := ff 4; have g5 := ff 5; have g6 := ff 6; have g7 := ff 7; have g8 := ff 8; have g9 := ff 9; have g10 := ff 10; clear ff)
      | (go_at_call 51; have cd := pdone_any b s' _ (HR2.out.below ((Below.refl _ _).alloc (Nat.le_refl _) (.cells #[.int .i64 kind, .int .i64 src, .int .i64 dst, .int .i64 gen, .int .i64 hop, .int .u64 bits, .int .i64 tg, .int .i64 th, .slice ps st.length cs, .int .i64 ts, .slice p rows.length c] 31))); rw [HT.out] at cd; (with_reducible refine cd.mono ?_); rintro e u3 ⟨rfl, rfl⟩; clear cd)
      | (go_at_call 8; have hba : Below u2.heap.size u2 (u2.alloc (.cells #[.int .i64 kind, .int .i64 src, .int .i64 dst, .int .i64 gen, .int .i64 hop, .int .u64 bits, .int .i64 tg, .int .i64 th, .slice ps st.length cs, .int .i64 ts, .slice p rows.length c] 31)) := ((Below.refl _ _).alloc (Nat.le_refl _) _); have cr := HRT.out _ ps cs p c (HI2.out.keep (.of_stays (.below hba))) (HW2.out.keep (.of_stays (.below hba)) (.of_stays (.below hba))); (with_reducible refine cr.mono ?_); rintro e u4 ⟨rfl, hb4⟩; have hb5 := hba.trans (hb4.mono hba.size); have HBX : Hid (u4.heap[u2.heap.size]? = some (.cells #[.int .i64 kind, .int .i64 src, .int .i64 dst, .int .i64 gen, .int .i64 hop, .int .u64 bits, .int .i64 tg, .int .i64 th, .slice ps st.length cs, .int .i64 ts, .slice p rows.length c] 31 (0, 0))) := ((hb4.block _ (by simp)).trans (heap_alloc_new u2 _)); have HB4 := Lib.hid (HB2.out.trans (hb5.mono HB2.out.size)); have HZ4 : Hid (ZeroBox u4 w.heap.size) := ((hb5.block _ (lt_of_heap HZ2.out)).trans HZ2.out); have HI4 := Lib.hid (HI2.out.keep (.of_stays (.below hb5))); have HW4 := Lib.hid (HW2.out.keep (.of_stays (.below hb5)) (.of_stays (.below hb5))); clear x0 d0 d1 d2 d3 d4 d5 d6 d7 d8 d9 d10 g0 g1 g2 g3 g4 g5 g6 g7 g8 g9 g10; clear hba cr hb4 hb5; obtain ⟨x0, d0, d1, d2, d3, d4, d5, d6, d7, d8, d9, d10, ff⟩ := HZ4.out.cells; have g0 := ff 0; have g1 := ff 1; have g2 := ff 2; have g3 := ff 3; have g4 := ff 4; have g5 := ff 5; have g6 := ff 6; have g7 := ff 7; have g8 := ff 8; have g9 := ff 9; have g10 := ff 10; clear ff; have hx0 := lt_of_heap HBX.out; have c0 : u4.cell? ⟨u2.heap.size, 0, none⟩ = some (.int .i64 kind) := (by rw [cell_of_row _ _ 0 _ _ _ HBX.out]; rfl); have c1 : u4.cell? ⟨u2.heap.size, 1, none⟩ = some (.int .i64 src) := (by rw [cell_of_row _ _ 1 _ _ _ HBX.out]; rfl); have c2 : u4.cell? ⟨u2.heap.size, 2, none⟩ = some (.int .i64 dst) := (by rw [cell_of_row _ _ 2 _ _ _ HBX.out]; rfl); have c3 : u4.cell? ⟨u2.heap.size, 3, none⟩ = some (.int .i64 gen) := (by rw [cell_of_row _ _ 3 _ _ _ HBX.out]; rfl); have c4 : u4.cell? ⟨u2.heap.size, 4, none⟩ = some (.int .i64 hop) := (by rw [cell_of_row _ _ 4 _ _ _ HBX.out]; rfl); have c5 : u4.cell? ⟨u2.heap.size, 5, none⟩ = some (.int .u64 bits) := (by rw [cell_of_row _ _ 5 _ _ _ HBX.out]; rfl); have c6 : u4.cell? ⟨u2.heap.size, 6, none⟩ = some (.int .i64 tg) := (by rw [cell_of_row _ _ 6 _ _ _ HBX.out]; rfl); have c7 : u4.cell? ⟨u2.heap.size, 7, none⟩ = some (.int .i64 th) := (by rw [cell_of_row _ _ 7 _ _ _ HBX.out]; rfl); have c8 : u4.cell? ⟨u2.heap.size, 8, none⟩ = some (.slice ps st.length cs) := (by rw [cell_of_row _ _ 8 _ _ _ HBX.out]; rfl); have c9 : u4.cell? ⟨u2.heap.size, 9, none⟩ = some (.int .i64 ts) := (by rw [cell_of_row _ _ 9 _ _ _ HBX.out]; rfl); have c10 : u4.cell? ⟨u2.heap.size, 10, none⟩ = some (.slice p rows.length c) := (by rw [cell_of_row _ _ 10 _ _ _ HBX.out]; rfl)))
    refine bodyPost_ret (v := .tuple #[.agg #[.int .i64 kind, .int .i64 src, .int .i64 dst, .int .i64 gen, .int .i64 hop, .int .u64 bits, .int .i64 tg, .int .i64 th, .slice ps st.length cs, .int .i64 ts, .slice p rows.length c], .int .i64 0]) (by simp [results, Try.results21, go_sem, *]) rfl ?_
    rw [HOK.out]
    exact ⟨ps, cs, p, c, rfl, after_store HZ4.out HI4.out HW4.out HB4.out (Nat.le_refl _) (((((((((((grown_set w.heap.size 0 _).trans (grown_set w.heap.size 1 _)).trans (grown_set w.heap.size 2 _)).trans (grown_set w.heap.size 3 _)).trans (grown_set w.heap.size 4 _)).trans (grown_set w.heap.size 5 _)).trans (grown_set w.heap.size 6 _)).trans (grown_set w.heap.size 7 _)).trans (grown_set w.heap.size 8 _)).trans (grown_set w.heap.size 9 _)).trans (grown_set w.heap.size 10 _))⟩

theorem lying_none (w : World) : Lying w ⟨0, 0, 0, 0, 0, 0, noTk⟩ none none := ⟨.inl rfl, .inl rfl, by intro r h; simp [noTk] at h, by simp [noTk], by simp [noTk]⟩

/-- Decode, of any bytes. -/
theorem decode_any (q : Option Addr) (d : Nat) (xs : List Int) (w : World) (hl : xs.length ≤ 1000000) (hy : IsBytes xs) (hc : Cel w q xs) (hp : q = none → xs = []) :
    Calls Try.prog 21 #[.slice q xs.length d] w (Decoded pWay w xs) := by
  have hread := fun (u : World) (hu : Below w.heap.size w u) => read_any q d xs u hl (hc.below hu) hp
  have hrf := fun (u : World) (b : Nat) (hr : Rdr 95 5 u b xs false) => readframe_any b (xs, false) u hr hy
  have hsm := small_frame pWay pWay_ok (xs, false)
  have hkd := kind_in pWay pWay_ok (xs, false) hy
  have hright := fun (u : World) (ps : Option Addr) (cs : Nat) (p : Option Addr) (c : Nat) (h1 : IntsS 0 u ps (rdFrame pWay (xs, false)).1.token.stamps) (h2 : RowsS 0 u p (rdFrame pWay (xs, false)).1.token.table.rows) => pright_any (rdFrame pWay (xs, false)).1 ps p cs c u hkd (lying_of h1 h2 hsm.1 hsm.2.1 hsm.2.2)
  have hok : rdOk pWay xs = decide (tell (rdFrame pWay (xs, false)).2 = 0 ∧ frameOk (rdFrame pWay (xs, false)).1 = true) := by
    unfold rdOk
    rw [Bool.eq_iff_iff]
    simp
  have hdec : decFr pWay xs = if rdOk pWay xs = true then (rdFrame pWay (xs, false)).1 else ⟨0, 0, 0, 0, 0, 0, noTk⟩ := rfl
  unfold FrameRead at hrf
  generalize rdFrame pWay (xs, false) = F at hrf hsm hkd hright hok hdec
  obtain ⟨⟨kind, src, dst, gen, hop, bits, ⟨tg, th, st, ⟨ts, rows⟩⟩⟩, s'⟩ := F
  simp only at hrf hsm hkd hright hok hdec
  refine (decode_core q xs.length d xs w s' kind src dst gen hop bits tg th ts st rows _ hread hrf hright).mono ?_
  rintro e w' ⟨ps, cs, p, c, rfl, h1, h2, h3⟩
  unfold Decoded
  rw [hdec]
  rw [← hok]
  cases rdOk pWay xs with
  | true => exact ⟨ps, cs, p, c, rfl, lying_of (f := ⟨kind, src, dst, gen, hop, bits, ⟨tg, th, st, ⟨ts, rows⟩⟩⟩) h1 h2 hsm.1 hsm.2.1 hsm.2.2, h3⟩
  | false => exact ⟨none, 0, none, 0, rfl, lying_none w', h3⟩
end Go.Proofs.Ytnogfhjeckkckaa.Frame
