/-
  The document's Sync, of any vault: it leaves what the document says; of what is none of its own nothing has turned.
-/
import Derived.Test.YtlbdkigiphnabaaVaultPut
namespace Go.Proofs.Ytlbdkigiphnabaa.Vault
open Go.RowKit
open _root_.Go.Proofs.Ytlbdkigiphnabaa.Codec (Cel cells8 Made own_below own_lies lt_of_heap)
open _root_.Go.Proofs.Ytlbdkigiphnabaa.Disk (Ref Made2 Holds eWrite dWrite dSync dReplace over)

theorem own_one (u : World) (a : Sv) (base : Nat) (h : base ≤ u.heap.size) :
    (u.alloc (.cells #[.int .i64 a.p, .int .i64 a.g, .int .i64 a.h, .int .i64 a.r] 47)).ownsRow base 47 4 (.slice (some ⟨u.heap.size, 0, none⟩) 1 1) ([a] : List Sv).length (cellsS [a]) :=
  ⟨rfl, .inr ⟨u.heap.size, 1, _, rfl, h, heap_alloc_new _ _, Nat.le_refl _, by decide, rfl, rfl⟩⟩

section
variable {B v m : Nat} {room : Int} {y : Vs} {x : Option Nat} {w w' : World}
set_option maxRecDepth 100000 in
theorem rsync_few (h : Rv B w v m room y x) (hx : ∀ g, x = some g → g < w.heap.size) (hh : Holds room y.1) (hm : room ≤ 16777216) (hl : y.2.length ≤ 64) :
    Calls Try.prog 15 #[.pointer (some ⟨v, 0, none⟩)] w fun e w' => e = .returned (.tuple #[]) ∧ Rleft B w v m room (dSync y.1, y.2) x w' := by
  have hsync := Disk.rsync_any h.ref hx hh hm
  obtain ⟨p, c, c0, -⟩ := h.vlt.cells
  have H := Lib.hid h
  have HL := Lib.hid hl
  clear h hx hh
  go_enter Try.func15, Try.ntmps15
  go_wp2_with (go_at_call 38; (with_reducible refine hsync.mono ?_); rintro e w1 ⟨rfl, h1⟩; have R := Lib.hid (H.out.step h1); obtain ⟨p1, c1, -, k1, -⟩ := R.out.1.vlt.cells; have hl1 : (y.2.length : Int) ≤ 64 := (by have := HL.out; omega); clear hsync h1 H HL)
  go_end0
  exact ⟨rfl, R.out⟩

theorem replace32 {d : Disk.Sl} {q : Option Addr} {k : Nat} {b : List Int} (h : Ref 41 5 B w m room d x) (hx : ∀ g, x = some g → g < w.heap.size) (hb : b.length = 32) (hc : Cel w q b) (hq : q = none → b = [] ∧ k = 0) :
    Calls Try.prog 32 #[.pointer (some ⟨m, 0, none⟩), .slice q 32 k] w fun e w' => ∃ eR, e = .returned (.int .i64 eR) ∧ Made2 41 5 B w m room (dReplace room d b) x w' := by
  have := Disk.rreplace_any h hx q k b hc hq (by omega)
  rw [hb] at this
  refine this.mono ?_
  rintro e w' ⟨rfl, h⟩
  exact ⟨_, rfl, h⟩

set_option maxRecDepth 100000 in
set_option maxHeartbeats 2000000 in
theorem rsync_many (h : Rv B w v m room y x) (hB : B ≤ w.heap.size) (hx : ∀ g, x = some g → g < w.heap.size) (hh : Holds room y.1) (hm : room ≤ 16777216) (hl : 64 < y.2.length) (hl1 : (y.2.length : Int) ≤ 100000) (hs : right (last y.2) = true) :
    Calls Try.prog 15 #[.pointer (some ⟨v, 0, none⟩)] w fun e w' => e = .returned (.tuple #[]) ∧ Rleft B w v m room (dReplace room (dSync y.1) (rec (last y.2)), [last y.2]) x w' := by
  have hsync := Disk.rsync_any h.ref hx hh hm
  obtain ⟨p, c, c0, -⟩ := h.vlt.cells
  have H := Lib.hid h
  have HL := Lib.hid hl
  have hlast := fun (l : List Sv) (hl : l = y.2) (u : World) (d : Disk.Sl) (r : Rv B u v m room (d, y.2) x) => rlast_any (l := l) (hl ▸ r.vlt) (by rw [hl]; omega)
  have HLa := Lib.hid (fun (u : World) (d : Disk.Sl) (r : Rv B u v m room (d, y.2) x) => hlast y.2 rfl u d r)
  clear hlast
  have hbytes := fun u => rbytes_any (last y.2) hs u
  have HX := Lib.hid hx
  have hr32 : (rec (last y.2)).length = 32 := len_rec _
  have HR := Lib.hid hr32
  clear h hx hh hs hr32
  generalize hla : last y.2 = a at *
  have HLE := Lib.hid hla
  clear hla
  generalize hrb : rec a = rb at *
  obtain ⟨s0, s1, s2, s3⟩ := a
  simp only [val] at *
  go_enter Try.func15, Try.ntmps15
  go_wp2_with (first
    | (go_at_call 38; (with_reducible refine hsync.mono ?_); rintro e w1 ⟨rfl, h1⟩; have R := Lib.hid (H.out.step h1); obtain ⟨p1, c1, k0, k1, -⟩ := R.out.1.vlt.cells; have hl2 : 64 < (y.2.length : Int) := (by have := HL.out; omega); clear hsync h1 HL)
    | (go_at_call 31; (with_reducible refine (HLa.out _ _ R.out.1).mono ?_); rintro e w2 ⟨rfl, hb2⟩; have RB := Lib.hid hb2; clear hb2 HLa))
  have hB1 : B ≤ w1.heap.size := Nat.le_trans hB R.out.below.size
  have bx2 : Below w2.heap.size w2 (w2.alloc (.cells #[.int .i64 s0, .int .i64 s1, .int .i64 s2, .int .i64 s3] 47)) := (Below.refl _ _).alloc (Nat.le_refl _) _
  have R2 := Lib.hid (R.out.trans (Rleft.same R.out.rv hB1 (RB.out.trans (bx2.mono RB.out.size))))
  have BK := Lib.hid (show ∀ u, Below (w2.alloc (.cells #[.int .i64 s0, .int .i64 s1, .int .i64 s2, .int .i64 s3] 47)).heap.size (w2.alloc (.cells #[.int .i64 s0, .int .i64 s1, .int .i64 s2, .int .i64 s3] 47)) u → u.heap[w2.heap.size]? = some (.cells #[.int .i64 s0, .int .i64 s1, .int .i64 s2, .int .i64 s3] 47 (0, 0)) from
    fun u hu => (hu.block w2.heap.size (by simp)).trans (heap_alloc_new _ _))
  have hmb : w2.heap.size ≠ m := fun e => Nat.lt_irrefl _ (Nat.lt_of_lt_of_le (e ▸ R.out.rv.ref.lt) RB.out.size)
  have hvb : v ≠ w2.heap.size := fun e => Nat.lt_irrefl _ (Nat.lt_of_lt_of_le (e ▸ R.out.rv.vlt.lt) RB.out.size)
  have hW := RB.out.size
  have hW0 := R.out.below.size
  have hxw := fun g (e : x = some g) => Nat.lt_of_lt_of_le (Nat.lt_of_lt_of_le (HX.out g e) hW0) hW
  clear R RB HX k0 k1 bx2
  generalize w2.alloc (.cells #[.int .i64 s0, .int .i64 s1, .int .i64 s2, .int .i64 s3] 47) = W3 at *
  have hW3 : w2.heap.size < W3.heap.size := lt_of_heap (BK.out W3 (Below.refl _ _))
  have X2 := Lib.hid (show Below W3.heap.size W3 W3.drew from (Below.refl _ _).drew)
  have BX := Lib.hid (fun u hu => box4 (s := ⟨s0, s1, s2, s3⟩) (BK.out u hu))
  have g0 : W3.drew.cell? ⟨w2.heap.size, 0, none⟩ = some (.int .i64 s0) ∧ W3.drew.cell? ⟨w2.heap.size, 1, none⟩ = some (.int .i64 s1) ∧ W3.drew.cell? ⟨w2.heap.size, 2, none⟩ = some (.int .i64 s2) ∧ W3.drew.cell? ⟨w2.heap.size, 3, none⟩ = some (.int .i64 s3) := BX.out _ X2.out
  have p0 : W3.drew.cell? ⟨v, 0, none⟩ = some (.pointer (some ⟨m, 0, none⟩)) := ptr_of (R2.out.rv.below X2.out).vlt
  go_region_held3 (fun u => u.cell? ⟨v, 0, none⟩ = some (.pointer (some ⟨m, 0, none⟩)) ∧ u.cell? ⟨w2.heap.size, 0, none⟩ = some (.int .i64 s0) ∧ u.cell? ⟨w2.heap.size, 1, none⟩ = some (.int .i64 s1) ∧ u.cell? ⟨w2.heap.size, 2, none⟩ = some (.int .i64 s2) ∧ u.cell? ⟨w2.heap.size, 3, none⟩ = some (.int .i64 s3)) (first | assumption | exact ⟨p0, g0⟩ | exact ⟨p4, g4⟩ | exact ⟨p5, g5⟩) (first
    | (go_at_call 36; (with_reducible refine (hbytes _).mono ?_); rintro e u3 ⟨vb, rfl, ho3, hb3⟩; obtain ⟨qb, kb, rfl, -, -, hlb, hqb⟩ := own_lies ho3; rw [HR.out]; have C3 := Lib.hid hlb.cel; have Q3 := Lib.hid (no_none (k := kb) HR.out hqb); have X6 := Lib.hid (X2.out.trans (hb3.mono X2.out.size)); have g4 : u3.cell? ⟨w2.heap.size, 0, none⟩ = some (.int .i64 s0) ∧ u3.cell? ⟨w2.heap.size, 1, none⟩ = some (.int .i64 s1) ∧ u3.cell? ⟨w2.heap.size, 2, none⟩ = some (.int .i64 s2) ∧ u3.cell? ⟨w2.heap.size, 3, none⟩ = some (.int .i64 s3) := BX.out _ X6.out; have p4 : u3.cell? ⟨v, 0, none⟩ = some (.pointer (some ⟨m, 0, none⟩)) := ptr_of (R2.out.rv.below X6.out).vlt; clear hb3 ho3 hlb hqb hbytes)
    | (go_at_call 32; (with_reducible refine (replace32 (R2.out.rv.below X6.out).ref (fun g e => Nat.lt_of_lt_of_le (Nat.lt_trans (hxw g e) hW3) X6.out.size) HR.out C3.out Q3.out).mono ?_); rintro e u4 ⟨eR, rfl, hm4⟩; have b5 := (hm4.2.block w2.heap.size (lt_of_heap (BK.out _ X6.out)) (by simpa using hmb)).trans (BK.out _ X6.out); have g5 : u4.cell? ⟨w2.heap.size, 0, none⟩ = some (.int .i64 s0) ∧ u4.cell? ⟨w2.heap.size, 1, none⟩ = some (.int .i64 s1) ∧ u4.cell? ⟨w2.heap.size, 2, none⟩ = some (.int .i64 s2) ∧ u4.cell? ⟨w2.heap.size, 3, none⟩ = some (.int .i64 s3) := box4 (s := ⟨s0, s1, s2, s3⟩) b5; have R5 := Lib.hid (R2.out.trans (Rleft.trans (Rleft.same R2.out.rv (Nat.le_trans hB R2.out.below.size) X6.out) ((R2.out.rv.below X6.out).step hm4))); have p5 : u4.cell? ⟨v, 0, none⟩ = some (.pointer (some ⟨m, 0, none⟩)) := ptr_of R5.out.rv.vlt; clear hm4 b5))
  have hB4 : B ≤ u4.heap.size := Nat.le_trans hB R5.out.below.size
  obtain ⟨f7, ⟨u7, c7⟩, D⟩ := R5.out.rv.vlt.anew (ts := [47, 52]) (l' := [⟨s0, s1, s2, s3⟩]) (by decide) hB4 ((Below.refl _ _).alloc (Nat.le_refl _) (.cells #[.int .i64 s0, .int .i64 s1, .int .i64 s2, .int .i64 s3] 47)) (own_one u4 ⟨s0, s1, s2, s3⟩ _ (Nat.le_refl _)) (by decide)
  obtain ⟨g50, g51, g52, g53⟩ := g5
  clear g0 g4 p0 p4 X2 X6 BX BK C3 Q3 R2 H HR HLE
  go_wp2
  go_end0
  obtain ⟨hv, hk, hb⟩ := D.out
  exact ⟨rfl, ⟨hv, ref_kept R5.out.rv.ref (by decide) (by decide) hk⟩, R5.out.kept.trans (hk.mono (by decide)), R5.out.below.trans hb⟩

/-- Sync. -/
theorem rsync_any (h : Rv B w v m room y x) (hB : B ≤ w.heap.size) (hx : ∀ g, x = some g → g < w.heap.size) (hh : Holds room y.1) (hm : room ≤ 16777216) (hl1 : (y.2.length : Int) ≤ 100000) (hs : y.2 ≠ [] → right (last y.2) = true) :
    Calls Try.prog 15 #[.pointer (some ⟨v, 0, none⟩)] w fun e w' => e = .returned (.tuple #[]) ∧ Rleft B w v m room (vSync room y) x w' := by
  by_cases hl : 64 < y.2.length
  · have e : vSync room y = (dReplace room (dSync y.1) (rec (last y.2)), [last y.2]) := by simp [vSync, hl]
    rw [e]
    exact rsync_many h hB hx hh hm hl hl1 (hs (fun e => by rw [e] at hl; simp at hl))
  · have e : vSync room y = (dSync y.1, y.2) := by simp [vSync, hl]
    rw [e]
    exact rsync_few h hx hh hm (by omega)
end
end Go.Proofs.Ytlbdkigiphnabaa.Vault
