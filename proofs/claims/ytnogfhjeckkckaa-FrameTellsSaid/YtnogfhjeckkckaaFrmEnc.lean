/-
  The program's writeFrame and Encode, of any frame that may be: its bytes, as the document says; of one that may not be: nothing, and ErrArg.
-/
import Derived.Test.YtnogfhjeckkckaaFrmWrite
namespace Go.Proofs.Ytnogfhjeckkckaa.Frame
open Go.RowKit Codec

/-- A frame, and where its parts lie, ahead of B or in blocks of their types. -/
structure LyingS (B : Nat) (w : World) (f : Fr) (ps p : Option Addr) : Prop where
  stamps : IntsS B w ps f.token.stamps
  rows : RowsS B w p f.token.table.rows
theorem LyingS.keep {B : Nat} {w w' : World} {f : Fr} {ps p : Option Addr} (h : LyingS B w f ps p) (hk : WK B w w') : LyingS B w' f ps p :=
  ⟨h.stamps.keep (hk.kp (by decide) (by decide)), h.rows.keep (hk.kp (by decide) (by decide)) (hk.kp (by decide) (by decide))⟩
theorem token_len (t : Tk) (hns : t.stamps.length ≤ 64) (hnr : t.table.rows.length ≤ 16) (hno : ∀ r ∈ t.table.rows, r.out.length ≤ 64) : (tokenNums t).length ≤ 3000 := by
  have := len_rows_flat t.table.rows hno
  simp only [tokenNums, headNums, List.length_append, List.length_map, List.length_cons, List.length_nil]
  omega

set_option maxRecDepth 100000 in
set_option maxHeartbeats 1000000 in
theorem wframe_0 (B b : Nat) (bs : List Int) (src dst gen hop bits : Int) (t : Tk) (ps p : Option Addr) (cs c : Nat) (w : World) (h : Wtr 71 5 B w b bs) (hl : bs.length ≤ 50) (hBw : B ≤ w.heap.size) (hg : goods [0, src, dst] = true) (hgt : goods (tokenNums t) = true) (hns : t.stamps.length ≤ 64) (hnr : t.table.rows.length ≤ 16) (hno : ∀ r ∈ t.table.rows, r.out.length ≤ 64) (hst : IntsS B w ps t.stamps) (hrw : RowsS B w p t.table.rows) :
    Calls Try.prog 47 #[.pointer (some ⟨b, 0, none⟩), .agg #[.int .i64 0, .int .i64 src, .int .i64 dst, .int .i64 gen, .int .i64 hop, .int .u64 bits, .int .i64 t.gen, .int .i64 t.hop, .slice ps t.stamps.length cs, .int .i64 t.table.start, .slice p t.table.rows.length c]] w (Wrote B b w (bs ++ puts [0, src, dst] ++ puts (tokenNums t)) (.tuple #[])) := by
  have hb0 : Below w.heap.size w (w.alloc (.cells #[.int .i64 0, .int .i64 src, .int .i64 dst, .int .i64 gen, .int .i64 hop, .int .u64 bits, .int .i64 t.gen, .int .i64 t.hop, .slice ps t.stamps.length cs, .int .i64 t.table.start, .slice p t.table.rows.length c] 31)) := (Below.refl _ _).alloc (Nat.le_refl _) _
  have hk0 := WK.below hBw hb0
  have hN := wnum3 B b (w.heap.size + 1) bs 0 src dst (w.alloc (.cells #[.int .i64 0, .int .i64 src, .int .i64 dst, .int .i64 gen, .int .i64 hop, .int .u64 bits, .int .i64 t.gen, .int .i64 t.hop, .slice ps t.stamps.length cs, .int .i64 t.table.start, .slice p t.table.rows.length c] 31)) (by simp) (Wtr.on h hb0) (by omega) hk0.size hg
  have HBX := Lib.hid (show ∀ u, WK B (w.alloc (.cells #[.int .i64 0, .int .i64 src, .int .i64 dst, .int .i64 gen, .int .i64 hop, .int .u64 bits, .int .i64 t.gen, .int .i64 t.hop, .slice ps t.stamps.length cs, .int .i64 t.table.start, .slice p t.table.rows.length c] 31)) u → Eleven u w.heap.size 0 src dst gen hop bits t.gen t.hop t.table.start ps p t.stamps.length cs t.table.rows.length c from fun u hu => by
    refine ⟨?_, ?_, ?_, ?_, ?_, ?_, ?_, ?_, ?_, ?_, ?_⟩ <;> exact hu.cell (heap_alloc_new w _) (by decide) (by decide))
  have HK0 := Lib.hid hk0
  clear h hg hb0 hk0
  have HST := Lib.hid hst
  have HRW := Lib.hid hrw
  have HNO := Lib.hid hno
  have HGT := Lib.hid hgt
  clear hst hrw hno hgt
  go_enter Try.func47, Try.ntmps47
  go_wp2_with (go_at_call 63; (with_reducible refine hN.mono ?_); rintro e w1 ⟨rfl, hw1, hk1⟩; have HW1 := Lib.hid hw1; have HK1 := Lib.hid hk1; clear hN hw1 hk1)
  generalize w.alloc (.cells #[.int .i64 0, .int .i64 src, .int .i64 dst, .int .i64 gen, .int .i64 hop, .int .u64 bits, .int .i64 t.gen, .int .i64 t.hop, .slice ps t.stamps.length cs, .int .i64 t.table.start, .slice p t.table.rows.length c] 31) = w0 at HBX HK0 HK1
  have g0 := (HBX.out w1 HK1.out).1
  go_region_held3 (fun u => u.cell? ⟨w.heap.size, 0, none⟩ = some (.int .i64 0)) (first | assumption | exact g0) (first
    | (go_at_call 27; (with_reducible refine (parts_any _).mono ?_); rintro e u1 ⟨bp, rfl, hp, hb1⟩; have HB1 := Lib.hid (undrew hb1); clear hb1; have hlk : (Instr.lookup 56 (.map (some bp)) (.int .i64 0) false).run Try.prog u1 = .ok (.int .i64 1) u1 := parts_look u1 bp 0 hp (by decide); have s1 : u1.cell? ⟨w.heap.size, 0, none⟩ = some (.int .i64 0) := cell_on g0 HB1.out; clear hp))
  clear hlk g0 s1
  have HKu := Lib.hid (HK1.out.trans (WK.below HK1.out.size HB1.out))
  have HWu := Lib.hid (Wtr.on HW1.out HB1.out)
  obtain ⟨k0, k1, k2, k3, k4, k5, k6, k7, k8, k9, k10⟩ := HBX.out u1 HKu.out
  have hsz : w.heap.size < u1.heap.size := World.block_lt_of_cell? _ _ k0
  clear HK1 HW1 HB1
  have kk := HK0.out.trans HKu.out
  have hT := wtoken_any B b (bs ++ puts [0, src, dst]) t ps p cs c u1 HWu.out (by simp only [List.length_append, len_puts, List.length_cons, List.length_nil]; omega) HKu.out.size HGT.out hns hnr HNO.out (HST.out.keep (kk.kp (by decide) (by decide))) (HRW.out.keep (kk.kp (by decide) (by decide)) (kk.kp (by decide) (by decide)))
  clear kk
  go_wp2_with (go_at_call 64; (with_reducible refine hT.mono ?_); rintro e w2 ⟨rfl, hw2, hk2⟩; have HW2 := Lib.hid hw2; have HK2 := Lib.hid (HK0.out.trans (HKu.out.trans hk2)); clear hT hw2 hk2)
  go_end0
  exact ⟨rfl, HW2.out, HK2.out⟩

set_option maxRecDepth 100000 in
set_option maxHeartbeats 1000000 in
theorem wframe_1 (B b : Nat) (bs : List Int) (src dst gen hop bits : Int) (t : Tk) (ps p : Option Addr) (cs c : Nat) (w : World) (h : Wtr 71 5 B w b bs) (hl : bs.length ≤ 50) (hBw : B ≤ w.heap.size) (hg : goods [1, src, dst] = true) (hg1 : goods [gen] = true) (hg2 : goods [hop] = true) :
    Calls Try.prog 47 #[.pointer (some ⟨b, 0, none⟩), .agg #[.int .i64 1, .int .i64 src, .int .i64 dst, .int .i64 gen, .int .i64 hop, .int .u64 bits, .int .i64 t.gen, .int .i64 t.hop, .slice ps t.stamps.length cs, .int .i64 t.table.start, .slice p t.table.rows.length c]] w (Wrote B b w (bs ++ puts [1, src, dst] ++ puts [gen] ++ puts [hop]) (.tuple #[])) := by
  have hb0 : Below w.heap.size w (w.alloc (.cells #[.int .i64 1, .int .i64 src, .int .i64 dst, .int .i64 gen, .int .i64 hop, .int .u64 bits, .int .i64 t.gen, .int .i64 t.hop, .slice ps t.stamps.length cs, .int .i64 t.table.start, .slice p t.table.rows.length c] 31)) := (Below.refl _ _).alloc (Nat.le_refl _) _
  have hk0 := WK.below hBw hb0
  have hN := wnum3 B b (w.heap.size + 1) bs 1 src dst (w.alloc (.cells #[.int .i64 1, .int .i64 src, .int .i64 dst, .int .i64 gen, .int .i64 hop, .int .u64 bits, .int .i64 t.gen, .int .i64 t.hop, .slice ps t.stamps.length cs, .int .i64 t.table.start, .slice p t.table.rows.length c] 31)) (by simp) (Wtr.on h hb0) (by omega) hk0.size hg
  have HBX := Lib.hid (show ∀ u, WK B (w.alloc (.cells #[.int .i64 1, .int .i64 src, .int .i64 dst, .int .i64 gen, .int .i64 hop, .int .u64 bits, .int .i64 t.gen, .int .i64 t.hop, .slice ps t.stamps.length cs, .int .i64 t.table.start, .slice p t.table.rows.length c] 31)) u → Eleven u w.heap.size 1 src dst gen hop bits t.gen t.hop t.table.start ps p t.stamps.length cs t.table.rows.length c from fun u hu => by
    refine ⟨?_, ?_, ?_, ?_, ?_, ?_, ?_, ?_, ?_, ?_, ?_⟩ <;> exact hu.cell (heap_alloc_new w _) (by decide) (by decide))
  have HK0 := Lib.hid hk0
  clear h hg hb0 hk0
  have HG1 := Lib.hid hg1
  have HG2 := Lib.hid hg2
  clear hg1 hg2
  go_enter Try.func47, Try.ntmps47
  go_wp2_with (go_at_call 63; (with_reducible refine hN.mono ?_); rintro e w1 ⟨rfl, hw1, hk1⟩; have HW1 := Lib.hid hw1; have HK1 := Lib.hid hk1; clear hN hw1 hk1)
  generalize w.alloc (.cells #[.int .i64 1, .int .i64 src, .int .i64 dst, .int .i64 gen, .int .i64 hop, .int .u64 bits, .int .i64 t.gen, .int .i64 t.hop, .slice ps t.stamps.length cs, .int .i64 t.table.start, .slice p t.table.rows.length c] 31) = w0 at HBX HK0 HK1
  have g0 := (HBX.out w1 HK1.out).1
  go_region_held3 (fun u => u.cell? ⟨w.heap.size, 0, none⟩ = some (.int .i64 1)) (first | assumption | exact g0) (first
    | (go_at_call 27; (with_reducible refine (parts_any _).mono ?_); rintro e u1 ⟨bp, rfl, hp, hb1⟩; have HB1 := Lib.hid (undrew hb1); clear hb1; have hlk : (Instr.lookup 56 (.map (some bp)) (.int .i64 1) false).run Try.prog u1 = .ok (.int .i64 6) u1 := parts_look u1 bp 1 hp (by decide); have s1 : u1.cell? ⟨w.heap.size, 0, none⟩ = some (.int .i64 1) := cell_on g0 HB1.out; clear hp))
  clear hlk g0 s1
  have HKu := Lib.hid (HK1.out.trans (WK.below HK1.out.size HB1.out))
  have HWu := Lib.hid (Wtr.on HW1.out HB1.out)
  obtain ⟨k0, k1, k2, k3, k4, k5, k6, k7, k8, k9, k10⟩ := HBX.out u1 HKu.out
  have hsz : w.heap.size < u1.heap.size := World.block_lt_of_cell? _ _ k0
  clear HK1 HW1 HB1
  have hN1 := wnum1 B b u1.heap.size (bs ++ puts [1, src, dst]) gen u1 rfl HWu.out (by simp only [List.length_append, len_puts, List.length_cons, List.length_nil]; omega) HKu.out.size HG1.out
  go_wp2_with (first
    | (go_at_call 63; (with_reducible refine hN1.mono ?_); rintro e w2 ⟨rfl, hw2, hk2⟩; have HW2 := Lib.hid hw2; have HK2 := Lib.hid (HKu.out.trans hk2); clear hN1 hw2 hk2 k0 k1 k2 k3 k4 k5 k6 k7 k8 k9 k10; obtain ⟨k0, k1, k2, k3, k4, k5, k6, k7, k8, k9, k10⟩ := HBX.out w2 HK2.out; have hsz2 : w.heap.size < w2.heap.size := World.block_lt_of_cell? _ _ k0; have hN2 := wnum1 B b w2.heap.size (bs ++ puts [1, src, dst] ++ puts [gen]) hop w2 rfl HW2.out (by simp only [List.length_append, len_puts, List.length_cons, List.length_nil]; omega) HK2.out.size HG2.out)
    | (go_at_call 63; (with_reducible refine hN2.mono ?_); rintro e w3 ⟨rfl, hw2, hk2⟩; have HW3 := Lib.hid hw2; have HK3 := Lib.hid (HK0.out.trans (HK2.out.trans hk2)); clear hN2 hw2 hk2))
  go_end0
  exact ⟨rfl, HW3.out, HK3.out⟩

set_option maxRecDepth 100000 in
set_option maxHeartbeats 1000000 in
theorem wframe_2 (B b : Nat) (bs : List Int) (src dst gen hop bits : Int) (t : Tk) (ps p : Option Addr) (cs c : Nat) (w : World) (h : Wtr 71 5 B w b bs) (hl : bs.length ≤ 50) (hBw : B ≤ w.heap.size) (hg : goods [2, src, dst] = true) (hg1 : goods [gen] = true) :
    Calls Try.prog 47 #[.pointer (some ⟨b, 0, none⟩), .agg #[.int .i64 2, .int .i64 src, .int .i64 dst, .int .i64 gen, .int .i64 hop, .int .u64 bits, .int .i64 t.gen, .int .i64 t.hop, .slice ps t.stamps.length cs, .int .i64 t.table.start, .slice p t.table.rows.length c]] w (Wrote B b w (bs ++ puts [2, src, dst] ++ puts [gen] ++ eight bits) (.tuple #[])) := by
  have hb0 : Below w.heap.size w (w.alloc (.cells #[.int .i64 2, .int .i64 src, .int .i64 dst, .int .i64 gen, .int .i64 hop, .int .u64 bits, .int .i64 t.gen, .int .i64 t.hop, .slice ps t.stamps.length cs, .int .i64 t.table.start, .slice p t.table.rows.length c] 31)) := (Below.refl _ _).alloc (Nat.le_refl _) _
  have hk0 := WK.below hBw hb0
  have hN := wnum3 B b (w.heap.size + 1) bs 2 src dst (w.alloc (.cells #[.int .i64 2, .int .i64 src, .int .i64 dst, .int .i64 gen, .int .i64 hop, .int .u64 bits, .int .i64 t.gen, .int .i64 t.hop, .slice ps t.stamps.length cs, .int .i64 t.table.start, .slice p t.table.rows.length c] 31)) (by simp) (Wtr.on h hb0) (by omega) hk0.size hg
  have HBX := Lib.hid (show ∀ u, WK B (w.alloc (.cells #[.int .i64 2, .int .i64 src, .int .i64 dst, .int .i64 gen, .int .i64 hop, .int .u64 bits, .int .i64 t.gen, .int .i64 t.hop, .slice ps t.stamps.length cs, .int .i64 t.table.start, .slice p t.table.rows.length c] 31)) u → Eleven u w.heap.size 2 src dst gen hop bits t.gen t.hop t.table.start ps p t.stamps.length cs t.table.rows.length c from fun u hu => by
    refine ⟨?_, ?_, ?_, ?_, ?_, ?_, ?_, ?_, ?_, ?_, ?_⟩ <;> exact hu.cell (heap_alloc_new w _) (by decide) (by decide))
  have HK0 := Lib.hid hk0
  clear h hg hb0 hk0
  have HG1 := Lib.hid hg1
  clear hg1
  go_enter Try.func47, Try.ntmps47
  go_wp2_with (go_at_call 63; (with_reducible refine hN.mono ?_); rintro e w1 ⟨rfl, hw1, hk1⟩; have HW1 := Lib.hid hw1; have HK1 := Lib.hid hk1; clear hN hw1 hk1)
  generalize w.alloc (.cells #[.int .i64 2, .int .i64 src, .int .i64 dst, .int .i64 gen, .int .i64 hop, .int .u64 bits, .int .i64 t.gen, .int .i64 t.hop, .slice ps t.stamps.length cs, .int .i64 t.table.start, .slice p t.table.rows.length c] 31) = w0 at HBX HK0 HK1
  have g0 := (HBX.out w1 HK1.out).1
  go_region_held3 (fun u => u.cell? ⟨w.heap.size, 0, none⟩ = some (.int .i64 2)) (first | assumption | exact g0) (first
    | (go_at_call 27; (with_reducible refine (parts_any _).mono ?_); rintro e u1 ⟨bp, rfl, hp, hb1⟩; have HB1 := Lib.hid (undrew hb1); clear hb1; have hlk : (Instr.lookup 56 (.map (some bp)) (.int .i64 2) false).run Try.prog u1 = .ok (.int .i64 10) u1 := parts_look u1 bp 2 hp (by decide); have s1 : u1.cell? ⟨w.heap.size, 0, none⟩ = some (.int .i64 2) := cell_on g0 HB1.out; clear hp))
  clear hlk g0 s1
  have HKu := Lib.hid (HK1.out.trans (WK.below HK1.out.size HB1.out))
  have HWu := Lib.hid (Wtr.on HW1.out HB1.out)
  obtain ⟨k0, k1, k2, k3, k4, k5, k6, k7, k8, k9, k10⟩ := HBX.out u1 HKu.out
  have hsz : w.heap.size < u1.heap.size := World.block_lt_of_cell? _ _ k0
  clear HK1 HW1 HB1
  have hN1 := wnum1 B b u1.heap.size (bs ++ puts [2, src, dst]) gen u1 rfl HWu.out (by simp only [List.length_append, len_puts, List.length_cons, List.length_nil]; omega) HKu.out.size HG1.out
  go_wp2_with (first
    | (go_at_call 63; (with_reducible refine hN1.mono ?_); rintro e w2 ⟨rfl, hw2, hk2⟩; have HW2 := Lib.hid hw2; have HK2 := Lib.hid (HKu.out.trans hk2); clear hN1 hw2 hk2 k0 k1 k2 k3 k4 k5 k6 k7 k8 k9 k10; obtain ⟨k0, k1, k2, k3, k4, k5, k6, k7, k8, k9, k10⟩ := HBX.out w2 HK2.out; have hN2 := wbits_wk B b (bs ++ puts [2, src, dst] ++ puts [gen]) bits w2 HW2.out (by simp only [List.length_append, len_puts, List.length_cons, List.length_nil]; omega) HK2.out.size)
    | (go_at_call 65; (with_reducible refine hN2.mono ?_); rintro e w3 ⟨rfl, hw2, hk2⟩; have HW3 := Lib.hid hw2; have HK3 := Lib.hid (HK0.out.trans (HK2.out.trans hk2)); clear hN2 hw2 hk2))
  go_end0
  exact ⟨rfl, HW3.out, HK3.out⟩

set_option maxRecDepth 100000 in
set_option maxHeartbeats 1000000 in
theorem wframe_3 (B b : Nat) (bs : List Int) (src dst gen hop bits : Int) (t : Tk) (ps p : Option Addr) (cs c : Nat) (w : World) (h : Wtr 71 5 B w b bs) (hl : bs.length ≤ 50) (hBw : B ≤ w.heap.size) (hg : goods [3, src, dst] = true) :
    Calls Try.prog 47 #[.pointer (some ⟨b, 0, none⟩), .agg #[.int .i64 3, .int .i64 src, .int .i64 dst, .int .i64 gen, .int .i64 hop, .int .u64 bits, .int .i64 t.gen, .int .i64 t.hop, .slice ps t.stamps.length cs, .int .i64 t.table.start, .slice p t.table.rows.length c]] w (Wrote B b w (bs ++ puts [3, src, dst]) (.tuple #[])) := by
  have hb0 : Below w.heap.size w (w.alloc (.cells #[.int .i64 3, .int .i64 src, .int .i64 dst, .int .i64 gen, .int .i64 hop, .int .u64 bits, .int .i64 t.gen, .int .i64 t.hop, .slice ps t.stamps.length cs, .int .i64 t.table.start, .slice p t.table.rows.length c] 31)) := (Below.refl _ _).alloc (Nat.le_refl _) _
  have hk0 := WK.below hBw hb0
  have hN := wnum3 B b (w.heap.size + 1) bs 3 src dst (w.alloc (.cells #[.int .i64 3, .int .i64 src, .int .i64 dst, .int .i64 gen, .int .i64 hop, .int .u64 bits, .int .i64 t.gen, .int .i64 t.hop, .slice ps t.stamps.length cs, .int .i64 t.table.start, .slice p t.table.rows.length c] 31)) (by simp) (Wtr.on h hb0) (by omega) hk0.size hg
  have HBX := Lib.hid (show ∀ u, WK B (w.alloc (.cells #[.int .i64 3, .int .i64 src, .int .i64 dst, .int .i64 gen, .int .i64 hop, .int .u64 bits, .int .i64 t.gen, .int .i64 t.hop, .slice ps t.stamps.length cs, .int .i64 t.table.start, .slice p t.table.rows.length c] 31)) u → Eleven u w.heap.size 3 src dst gen hop bits t.gen t.hop t.table.start ps p t.stamps.length cs t.table.rows.length c from fun u hu => by
    refine ⟨?_, ?_, ?_, ?_, ?_, ?_, ?_, ?_, ?_, ?_, ?_⟩ <;> exact hu.cell (heap_alloc_new w _) (by decide) (by decide))
  have HK0 := Lib.hid hk0
  clear h hg hb0 hk0
  go_enter Try.func47, Try.ntmps47
  go_wp2_with (go_at_call 63; (with_reducible refine hN.mono ?_); rintro e w1 ⟨rfl, hw1, hk1⟩; have HW1 := Lib.hid hw1; have HK1 := Lib.hid hk1; clear hN hw1 hk1)
  generalize w.alloc (.cells #[.int .i64 3, .int .i64 src, .int .i64 dst, .int .i64 gen, .int .i64 hop, .int .u64 bits, .int .i64 t.gen, .int .i64 t.hop, .slice ps t.stamps.length cs, .int .i64 t.table.start, .slice p t.table.rows.length c] 31) = w0 at HBX HK0 HK1
  have g0 := (HBX.out w1 HK1.out).1
  go_region_held3 (fun u => u.cell? ⟨w.heap.size, 0, none⟩ = some (.int .i64 3)) (first | assumption | exact g0) (first
    | (go_at_call 27; (with_reducible refine (parts_any _).mono ?_); rintro e u1 ⟨bp, rfl, hp, hb1⟩; have HB1 := Lib.hid (undrew hb1); clear hb1; have hlk : (Instr.lookup 56 (.map (some bp)) (.int .i64 3) false).run Try.prog u1 = .ok (.int .i64 0) u1 := parts_look u1 bp 3 hp (by decide); have s1 : u1.cell? ⟨w.heap.size, 0, none⟩ = some (.int .i64 3) := cell_on g0 HB1.out; clear hp))
  clear hlk g0 s1
  have HKu := Lib.hid (HK1.out.trans (WK.below HK1.out.size HB1.out))
  have HWu := Lib.hid (Wtr.on HW1.out HB1.out)
  obtain ⟨k0, k1, k2, k3, k4, k5, k6, k7, k8, k9, k10⟩ := HBX.out u1 HKu.out
  have hsz : w.heap.size < u1.heap.size := World.block_lt_of_cell? _ _ k0
  clear HK1 HW1 HB1
  go_wp2
  go_end0
  exact ⟨rfl, HWu.out, HK0.out.trans HKu.out⟩

/-- writeFrame, of any frame that may be. -/
theorem wframe_any (B b : Nat) (bs : List Int) (f : Fr) (ps p : Option Addr) (cs c : Nat) (w : World) (h : Wtr 71 5 B w b bs) (hl : bs.length ≤ 50) (hBw : B ≤ w.heap.size) (hs : LyingS B w f ps p) (hf : frameOk f = true) :
    Calls Try.prog 47 #[.pointer (some ⟨b, 0, none⟩), frameVal f ps p cs c] w (Wrote B b w (bs ++ frameBytes f) (.tuple #[])) := by
  obtain ⟨kind, src, dst, gen, hop, bits, t⟩ := f
  simp only [frameOk, Bool.and_eq_true] at hf
  obtain ⟨⟨h1, h2⟩, hk⟩ := hf
  have g1 := good_in h1 (by omega) (by omega)
  have g2 := good_in h2 (by omega) (by omega)
  by_cases k0 : kind = 0
  · subst k0
    simp only [if_true, Bool.and_eq_true] at hk
    obtain ⟨gt, hns, hnr, hno, hsv, _⟩ := token_gives t hk.1.1.1
    have e : bs ++ frameBytes ⟨0, src, dst, gen, hop, bits, t⟩ = bs ++ puts [0, src, dst] ++ puts (tokenNums t) := by
      rw [List.append_assoc, ← puts_append]; simp [frameBytes, frameNums]
    rw [e]
    exact wframe_0 B b bs src dst gen hop bits t ps p cs c w h hl hBw (by simp [goods, g1, g2, show good 0 = true by decide]) gt hns hnr hno hs.stamps hs.rows
  · rw [if_neg k0] at hk
    by_cases k1 : kind = 1
    · subst k1
      simp only [if_true, Bool.and_eq_true] at hk
      have g3 := good_in hk.1.1.2 (by omega) (by omega)
      have g4 := good_in hk.1.2 (by omega) (by omega)
      have e : bs ++ frameBytes ⟨1, src, dst, gen, hop, bits, t⟩ = bs ++ puts [1, src, dst] ++ puts [gen] ++ puts [hop] := by
        rw [List.append_assoc, List.append_assoc, ← puts_append, ← puts_append]; simp [frameBytes, frameNums]
      rw [e]
      exact wframe_1 B b bs src dst gen hop bits t ps p cs c w h hl hBw (by simp [goods, g1, g2, show good 1 = true by decide]) (by simp [goods, g3]) (by simp [goods, g4])
    · rw [if_neg k1] at hk
      by_cases k2 : kind = 2
      · subst k2
        simp only [if_true, Bool.and_eq_true] at hk
        have g3 := good_in hk.1.2 (by omega) (by omega)
        have e : bs ++ frameBytes ⟨2, src, dst, gen, hop, bits, t⟩ = bs ++ puts [2, src, dst] ++ puts [gen] ++ eight bits := by
          rw [List.append_assoc bs, ← puts_append, List.append_assoc]; simp [frameBytes, frameNums]
        rw [e]
        exact wframe_2 B b bs src dst gen hop bits t ps p cs c w h hl hBw (by simp [goods, g1, g2, show good 2 = true by decide]) (by simp [goods, g3])
      · rw [if_neg k2] at hk
        by_cases k3 : kind = 3
        · subst k3
          have e : bs ++ frameBytes ⟨3, src, dst, gen, hop, bits, t⟩ = bs ++ puts [3, src, dst] := by simp [frameBytes, frameNums]
          rw [e]
          exact wframe_3 B b bs src dst gen hop bits t ps p cs c w h hl hBw (by simp [goods, g1, g2, show good 3 = true by decide])
        · rw [if_neg k3] at hk
          cases hk
theorem frame_len (f : Fr) (hf : frameOk f = true) : (frameBytes f).length ≤ 30000 := by
  obtain ⟨kind, src, dst, gen, hop, bits, t⟩ := f
  simp only [frameOk, Bool.and_eq_true] at hf
  obtain ⟨_, hk⟩ := hf
  unfold frameBytes frameNums
  simp only
  by_cases k0 : kind = 0
  · subst k0
    simp only [if_true, Bool.and_eq_true] at hk
    obtain ⟨gt, hns, hnr, hno, hsv, _⟩ := token_gives t hk.1.1.1
    have := token_len t hns hnr hno
    simp [len_puts]
    omega
  · by_cases k1 : kind = 1
    · simp [k1, len_puts]
    · by_cases k2 : kind = 2
      · simp [k2, len_puts, len_eight]
      · simp [k0, k1, k2, len_puts]

/-- The same in one word: by the cells. -/
theorem LyingS.of {w : World} {f : Fr} {ps p : Option Addr} (h : Lying w f ps p) : LyingS w.heap.size w f ps p := by
  refine ⟨?_, RowsS.of h.rows⟩
  by_cases h0 : f.token.stamps = []
  · exact .inl h0
  · rcases h.stamps with h1 | ⟨b, o, h1, hc⟩
    · exact .inl h1
    · exact .inr ⟨b, o, h1, .inl (World.block_lt_of_cell? _ _ (hc 0 (List.length_pos_iff.2 h0))), hc⟩
theorem Lying.on {w w' : World} {f : Fr} {ps p : Option Addr} (h : Lying w f ps p) (hb : Below w.heap.size w w') : Lying w' f ps p :=
  ⟨h.stamps.below hb, h.rows.below hb, h.small, h.few, h.many⟩

/-- What Encode tells. -/
def Encoded (w : World) (f : Fr) (e : Ending) (w' : World) : Prop :=
  if frameOk f = true then Made 5 w (frameBytes f) (fun v => .tuple #[v, .int .i64 0]) e w' else e = .returned (.tuple #[.slice none 0 0, .int .i64 1]) ∧ Below w.heap.size w w'

theorem frame_ten {w u : World} {cs : Array Value} {T : TypeId} (hu : Below (w.alloc (.cells cs T)).heap.size (w.alloc (.cells cs T)) u) (o : Nat) : u.cell? ⟨w.heap.size, o, none⟩ = cs[o]? :=
  cell_of_row _ _ _ _ _ _ ((hu.block _ (lt_of_heap (heap_alloc_new w _))).trans (heap_alloc_new w _))

set_option maxRecDepth 100000 in
set_option maxHeartbeats 1000000 in
theorem encode_no (kind src dst gen hop bits tg th ts : Int) (ps p : Option Addr) (n cs m c : Nat) (w : World)
    (hr : ∀ u, Below w.heap.size w u → Calls Try.prog 8 #[.agg #[.int .i64 kind, .int .i64 src, .int .i64 dst, .int .i64 gen, .int .i64 hop, .int .u64 bits, .int .i64 tg, .int .i64 th, .slice ps n cs, .int .i64 ts, .slice p m c]] u (Asked u false)) :
    Calls Try.prog 20 #[.agg #[.int .i64 kind, .int .i64 src, .int .i64 dst, .int .i64 gen, .int .i64 hop, .int .u64 bits, .int .i64 tg, .int .i64 th, .slice ps n cs, .int .i64 ts, .slice p m c]] w fun e w' => e = .returned (.tuple #[.slice none 0 0, .int .i64 1]) ∧ Below w.heap.size w w' := by
  have b0 : Below w.heap.size w (w.alloc (.cells #[.int .i64 kind, .int .i64 src, .int .i64 dst, .int .i64 gen, .int .i64 hop, .int .u64 bits, .int .i64 tg, .int .i64 th, .slice ps n cs, .int .i64 ts, .slice p m c] 31)) := (Below.refl _ _).alloc (Nat.le_refl _) _
  have hr2 := hr _ b0
  clear hr
  go_enter Try.func20, Try.ntmps20
  go_wp2_with (go_at_call 8; (with_reducible refine hr2.mono ?_); rintro e w1 ⟨rfl, hb1⟩; have hb2 := b0.trans (hb1.mono b0.size); clear hr2 hb1)
  go_ret2
  exact ⟨rfl, hb2⟩

set_option maxRecDepth 100000 in
set_option maxHeartbeats 1000000 in
theorem encode_yes (kind src dst gen hop bits tg th ts : Int) (ps p : Option Addr) (n cs m c : Nat) (xs : List Int) (w : World) (hx : xs.length ≤ 30000)
    (hr : ∀ u, Below w.heap.size w u → Calls Try.prog 8 #[.agg #[.int .i64 kind, .int .i64 src, .int .i64 dst, .int .i64 gen, .int .i64 hop, .int .u64 bits, .int .i64 tg, .int .i64 th, .slice ps n cs, .int .i64 ts, .slice p m c]] u (Asked u true))
    (hw : ∀ u B, Below w.heap.size w u → Wtr 71 5 B u B [] → w.heap.size ≤ B → B ≤ u.heap.size → Calls Try.prog 47 #[.pointer (some ⟨B, 0, none⟩), .agg #[.int .i64 kind, .int .i64 src, .int .i64 dst, .int .i64 gen, .int .i64 hop, .int .u64 bits, .int .i64 tg, .int .i64 th, .slice ps n cs, .int .i64 ts, .slice p m c]] u (Wrote B B u xs (.tuple #[]))) :
    Calls Try.prog 20 #[.agg #[.int .i64 kind, .int .i64 src, .int .i64 dst, .int .i64 gen, .int .i64 hop, .int .u64 bits, .int .i64 tg, .int .i64 th, .slice ps n cs, .int .i64 ts, .slice p m c]] w (Made 5 w xs (fun v => .tuple #[v, .int .i64 0])) := by
  have b0 : Below w.heap.size w (w.alloc (.cells #[.int .i64 kind, .int .i64 src, .int .i64 dst, .int .i64 gen, .int .i64 hop, .int .u64 bits, .int .i64 tg, .int .i64 th, .slice ps n cs, .int .i64 ts, .slice p m c] 31)) := (Below.refl _ _).alloc (Nat.le_refl _) _
  have hr2 := hr _ b0
  have HBX := Lib.hid (show ∀ u o, Below (w.alloc (.cells #[.int .i64 kind, .int .i64 src, .int .i64 dst, .int .i64 gen, .int .i64 hop, .int .u64 bits, .int .i64 tg, .int .i64 th, .slice ps n cs, .int .i64 ts, .slice p m c] 31)).heap.size (w.alloc (.cells #[.int .i64 kind, .int .i64 src, .int .i64 dst, .int .i64 gen, .int .i64 hop, .int .u64 bits, .int .i64 tg, .int .i64 th, .slice ps n cs, .int .i64 ts, .slice p m c] 31)) u → u.cell? ⟨w.heap.size, o, none⟩ = (#[.int .i64 kind, .int .i64 src, .int .i64 dst, .int .i64 gen, .int .i64 hop, .int .u64 bits, .int .i64 tg, .int .i64 th, .slice ps n cs, .int .i64 ts, .slice p m c] : Array Value)[o]? from fun u o hu => frame_ten hu o)
  have HW := Lib.hid hw
  clear hr hw
  go_enter Try.func20, Try.ntmps20
  go_wp2_with (first
    | (go_at_call 8; (with_reducible refine hr2.mono ?_); rintro e w1 ⟨rfl, hb1⟩; have hb2 := b0.trans (hb1.mono b0.size); have hs : w.heap.size < w1.heap.size := (Nat.lt_of_lt_of_le (by simp) hb1.size); have k0 := HBX.out w1 0 hb1; have k1 := HBX.out w1 1 hb1; have k2 := HBX.out w1 2 hb1; have k3 := HBX.out w1 3 hb1; have k4 := HBX.out w1 4 hb1; have k5 := HBX.out w1 5 hb1; have k6 := HBX.out w1 6 hb1; have k7 := HBX.out w1 7 hb1; have k8 := HBX.out w1 8 hb1; have k9 := HBX.out w1 9 hb1; have k10 := HBX.out w1 10 hb1; have HB2 := Lib.hid hb2; clear hr2 hb1 hb2)
    | (go_at_call 47; have hwr := HW.out _ w1.heap.size (HB2.out.alloc HB2.out.size (.cells #[.slice none 0 0, .bool false] 71)) ⟨Nat.le_refl _, _, heap_alloc_new w1 _, World.ownsRow_nil _ _ _ _⟩ HB2.out.size (by simp); (with_reducible refine hwr.mono ?_); rintro e w2 ⟨rfl, hw2, hk2⟩; have HW2 := Lib.hid hw2; have HB3 := Lib.hid ((HB2.out.alloc HB2.out.size (.cells #[.slice none 0 0, .bool false] 71)).trans (hk2.2.1.mono HB2.out.size)); clear hw2 hk2 hwr)
    | (go_at_call 48; have hd := wdone_good w1.heap.size w1.heap.size xs w2 HW2.out (by omega); (with_reducible refine hd.mono ?_); rintro e w3 ⟨v, rfl, ho, hb⟩; have HO := Lib.hid (own_lower ho HB3.out.size); have HB4 := Lib.hid (HB3.out.trans (hb.mono HB3.out.size)); clear ho hb hd))
  go_ret2
  exact ⟨v, rfl, HO.out, HB4.out⟩

/-- Encode, of any. -/
theorem encode_any (f : Fr) (ps p : Option Addr) (cs c : Nat) (w : World) (hk : (Lit.int .i64 f.kind).wf = true) (h : Lying w f ps p) :
    Calls Try.prog 20 #[frameVal f ps p cs c] w (Encoded w f) := by
  unfold Encoded
  have hr := fun (u : World) (hu : Below w.heap.size w u) => pright_any f ps p cs c u hk (h.on hu)
  cases hf : frameOk f with
  | true =>
    rw [hf] at hr
    simp only [if_true]
    refine encode_yes _ _ _ _ _ _ _ _ _ _ _ _ _ _ _ (frameBytes f) w (frame_len f hf) hr (fun u B hu hw hB hBu => ?_)
    have hs := (LyingS.of h).keep (WK.below (Nat.le_refl _) hu)
    have hs2 : LyingS B u f ps p := by
      refine ⟨?_, ?_⟩
      · rcases hs.stamps with h1 | ⟨b, o, h1, h2, h3⟩
        · exact .inl h1
        · exact .inr ⟨b, o, h1, h2.lower hB, h3⟩
      · rcases hs.rows with h1 | ⟨b, o, h1, h2, h3⟩
        · exact .inl h1
        · refine .inr ⟨b, o, h1, h2.lower hB, fun j hj => ?_⟩
          obtain ⟨q0, q1, q2, p5, c5, q3, q4⟩ := h3 j hj
          exact ⟨q0, q1, q2, p5, c5, q3, q4.lower hB⟩
    have := wframe_any B B [] f ps p cs c u hw (by simp) hBu hs2 hf
    rw [List.nil_append] at this
    exact this
  | false =>
    rw [hf] at hr
    exact (encode_no _ _ _ _ _ _ _ _ _ _ _ _ _ _ _ w hr).mono fun e w' h => by simpa using h
end Go.Proofs.Ytnogfhjeckkckaa.Frame
