/-
  The program's vault: its block, what stays of it; State, Records, of any vault, and of none.
-/
import Derived.Test.YtlbdkigiphnabaaVpRec
import Derived.Test.YtlbdkigiphnabaaVaultWay
namespace Go.Proofs.Ytlbdkigiphnabaa.Vault
open Go.RowKit
open _root_.Go.Proofs.Ytlbdkigiphnabaa.Codec (Cel cells8 Made own_below own_lies lt_of_heap frozen_of heap_set grown_set IsBytes)
open _root_.Go.Proofs.Ytlbdkigiphnabaa.Disk (Sl Dsk Holds all Aside eWrite dWrite over)

/-- A vault's block, whose state is a, that counts n records; and its disk. -/
structure Half (B : Nat) (w : World) (q d : Nat) (room : Int) (a : Sv) (n : Int) (s : Sl) (x : Option Nat) : Prop where
  ge : B ≤ q
  blk : w.heap[q]? = some (.cells #[.int .i64 a.p, .int .i64 a.g, .int .i64 a.h, .int .i64 a.r, .pointer (some ⟨d, 0, none⟩), .int .i64 n] 70 (0, 0))
  dsk : Dsk 65 5 B w d room s x
/-- What a step leaves. -/
def Gone (B : Nat) (w : World) (q d : Nat) (room : Int) (a : Sv) (n : Int) (s : Sl) (x : Option Nat) (w' : World) : Prop := ∃ x', Half B w' q d room a n s x' ∧ Off w w' x x' ∧ Below B w w'

section
variable {B q d : Nat} {room : Int} {a a' : Sv} {n n' : Int} {s s' : Sl} {x x' x'' : Option Nat} {w w' w'' : World}
theorem Half.lt (h : Half B w q d room a n s x) : q < w.heap.size := lt_of_heap h.blk
theorem Half.below (h : Half B w q d room a n s x) (hb : Below w.heap.size w w') : Half B w' q d room a n s x := ⟨h.ge, (hb.block q h.lt).trans h.blk, h.dsk.below hb⟩
theorem Half.cells (h : Half B w q d room a n s x) : w.cell? ⟨q, 0, none⟩ = some (.int .i64 a.p) ∧ w.cell? ⟨q, 1, none⟩ = some (.int .i64 a.g) ∧ w.cell? ⟨q, 2, none⟩ = some (.int .i64 a.h) ∧ w.cell? ⟨q, 3, none⟩ = some (.int .i64 a.r) ∧
    w.cell? ⟨q, 4, none⟩ = some (.pointer (some ⟨d, 0, none⟩)) ∧ w.cell? ⟨q, 5, none⟩ = some (.int .i64 n) ∧ ∀ o, w.frozen? ⟨q, o, none⟩ = false :=
  ⟨by rw [cell_of_row w q 0 _ _ (0, 0) h.blk]; rfl, by rw [cell_of_row w q 1 _ _ (0, 0) h.blk]; rfl, by rw [cell_of_row w q 2 _ _ (0, 0) h.blk]; rfl, by rw [cell_of_row w q 3 _ _ (0, 0) h.blk]; rfl,
    by rw [cell_of_row w q 4 _ _ (0, 0) h.blk]; rfl, by rw [cell_of_row w q 5 _ _ (0, 0) h.blk]; rfl, fun _ => frozen_of h.blk⟩
theorem Off.trans (h : Off w w' x x') (k : Off w' w'' x' x'') : Off w w'' x x'' := by
  refine ⟨fun g cs t z hg ht hx => k.block g cs t z (h.block g cs t z hg ht hx) ht ?_, ?_, Nat.le_trans h.size k.size⟩
  · rcases h.fresh with rfl | hf
    · exact hx
    · intro e
      have := hf g e.symm
      have := lt_of_heap hg
      omega
  · rcases k.fresh with rfl | kf
    · exact h.fresh
    · exact .inr fun g e => Nat.le_trans h.size (kf g e)
theorem Gone.below (h : Half B w q d room a n s x) (hB : B ≤ w.heap.size) (hb : Below w.heap.size w w') : Gone B w q d room a n s x w' := ⟨x, h.below hb, .below hb, hb.mono hB⟩
theorem Gone.trans (h : Gone B w q d room a n s x w') (k : ∀ x', Half B w' q d room a n s x' → Gone B w' q d room a' n' s' x' w'') : Gone B w q d room a' n' s' x w'' := by
  obtain ⟨x1, h1, h2, h3⟩ := h
  obtain ⟨x2, k1, k2, k3⟩ := k x1 h1
  exact ⟨x2, k1, h2.trans k2, h3.trans k3⟩
/-- Its disk makes a step. -/
theorem Half.step (h : Half B w q d room a n s x) (hs : Disk.Left 65 5 B w d room s' x w') : Gone B w q d room a n s' x w' := by
  obtain ⟨x', h1, h2, h3⟩ := hs
  refine ⟨x', ⟨h.ge, (h2.block q h.lt ?_ ?_).trans h.blk, h1⟩, .aside h.dsk h2, h3⟩
  · rintro rfl
    obtain ⟨_, p, c, hh, _⟩ := h.dsk
    rw [h.blk] at hh
    simp at hh
  · intro e
    obtain ⟨cs, z, hh⟩ := file_block h.dsk q e.symm
    rw [h.blk] at hh
    simp at hh
theorem off_set (h : Half B w q d room a n s x) (o : Nat) (u : Value) : Off w (w.setCell ⟨q, o, none⟩ u) x x := by
  refine ⟨fun g cs t z hg ht _ => (Below.heap_setCell _ _ _ _ ?_).trans hg, .inl rfl, (grown_set q o u).size⟩
  rintro rfl
  have hh := h.blk
  rw [hg] at hh
  simp only [Option.some.injEq, Obj.cells.injEq] at hh
  exact ht.2 hh.2.1
theorem dsk_set (h : Half B w q d room a n s x) (o : Nat) (u : Value) : Dsk 65 5 B (w.setCell ⟨q, o, none⟩ u) d room s x := by
  obtain ⟨h0, p, c, h1, h2, h3⟩ := h.dsk
  refine ⟨h0, p, c, (Below.heap_setCell _ _ _ _ ?_).trans h1, Codec.own_stays h2 (.grown h.blk (by decide) (grown_set q o u)), h3⟩
  rintro rfl
  have hh := h.blk
  rw [h1] at hh
  simp at hh
theorem Half.set0 (h : Half B w q d room a n s x) (y : Int) : Gone B w q d room ⟨y, a.g, a.h, a.r⟩ n s x (w.setCell ⟨q, 0, none⟩ (.int .i64 y)) :=
  ⟨x, ⟨h.ge, by rw [heap_set q 0 _ _ h.blk]; rfl, dsk_set h 0 _⟩, off_set h 0 _, Disk.below_set h.ge 0 _⟩
theorem Half.set1 (h : Half B w q d room a n s x) (y : Int) : Gone B w q d room ⟨a.p, y, a.h, a.r⟩ n s x (w.setCell ⟨q, 1, none⟩ (.int .i64 y)) :=
  ⟨x, ⟨h.ge, by rw [heap_set q 1 _ _ h.blk]; rfl, dsk_set h 1 _⟩, off_set h 1 _, Disk.below_set h.ge 1 _⟩
theorem Half.set2 (h : Half B w q d room a n s x) (y : Int) : Gone B w q d room ⟨a.p, a.g, y, a.r⟩ n s x (w.setCell ⟨q, 2, none⟩ (.int .i64 y)) :=
  ⟨x, ⟨h.ge, by rw [heap_set q 2 _ _ h.blk]; rfl, dsk_set h 2 _⟩, off_set h 2 _, Disk.below_set h.ge 2 _⟩
theorem Half.set3 (h : Half B w q d room a n s x) (y : Int) : Gone B w q d room ⟨a.p, a.g, a.h, y⟩ n s x (w.setCell ⟨q, 3, none⟩ (.int .i64 y)) :=
  ⟨x, ⟨h.ge, by rw [heap_set q 3 _ _ h.blk]; rfl, dsk_set h 3 _⟩, off_set h 3 _, Disk.below_set h.ge 3 _⟩
theorem Half.set5 (h : Half B w q d room a n s x) (y : Int) : Gone B w q d room a y s x (w.setCell ⟨q, 5, none⟩ (.int .i64 y)) :=
  ⟨x, ⟨h.ge, by rw [heap_set q 5 _ _ h.blk]; rfl, dsk_set h 5 _⟩, off_set h 5 _, Disk.below_set h.ge 5 _⟩
/-- The state and the count are set. -/
theorem Half.set_all (h : Half B w q d room a n s x) (p g k r m : Int) : Gone B w q d room ⟨p, g, k, r⟩ m s x (((((w.setCell ⟨q, 0, none⟩ (.int .i64 p)).setCell ⟨q, 1, none⟩ (.int .i64 g)).setCell ⟨q, 2, none⟩ (.int .i64 k)).setCell ⟨q, 3, none⟩ (.int .i64 r)).setCell ⟨q, 5, none⟩ (.int .i64 m)) :=
  ((((h.set0 p).trans fun _ h => h.set1 g).trans fun _ h => h.set2 k).trans fun _ h => h.set3 r).trans fun _ h => h.set5 m

/-- The program's vault. -/
def Pv (B : Nat) (w : World) (q d : Nat) (room : Int) (y : Vs) (x : Option Nat) : Prop := Half B w q d room (last y.2) (y.2.length : Int) y.1 x

set_option maxRecDepth 100000 in
theorem pstate_half (h : Half B w q d room a n s x) : Calls Try.prog 21 #[.pointer (some ⟨q, 0, none⟩)] w fun e w' => e = .returned (val a) ∧ Below w.heap.size w w' := by
  obtain ⟨c0, c1, c2, c3, -⟩ := h.cells
  have hlt := h.lt
  have hb : ∀ cs, Below w.heap.size w (w.alloc (.cells cs 25)) := fun cs => (Below.refl _ _).alloc (Nat.le_refl _) _
  have HB := Lib.hid hb
  clear h hb
  obtain ⟨p, g, k, r⟩ := a
  simp only [val] at *
  go_enter Try.func21, Try.ntmps21
  go_wp2
  refine bodyPost_ret (v := .agg #[.int .i64 p, .int .i64 g, .int .i64 k, .int .i64 r]) (by simp [results, Try.results21, go_sem]) rfl ⟨rfl, HB.out _⟩
set_option maxRecDepth 100000 in
theorem pstate_nil (w : World) : Calls Try.prog 21 #[.pointer none] w fun e w' => e = .returned (val zero) ∧ Below w.heap.size w w' := by
  have hb : ∀ cs, Below w.heap.size w (w.alloc (.cells cs 25)) := fun cs => (Below.refl _ _).alloc (Nat.le_refl _) _
  have HB := Lib.hid hb
  clear hb
  simp only [val, zero]
  go_enter Try.func21, Try.ntmps21
  go_wp2
  refine bodyPost_ret (v := .agg #[.int .i64 0, .int .i64 0, .int .i64 0, .int .i64 0]) (by simp [results, Try.results21, go_sem]) rfl ⟨rfl, HB.out _⟩
theorem precs_half (h : Half B w q d room a n s x) : Calls Try.prog 22 #[.pointer (some ⟨q, 0, none⟩)] w fun e w' => e = .returned (.int .i64 n) ∧ Below w.heap.size w w' := by
  obtain ⟨-, -, -, -, -, c5, -⟩ := h.cells
  clear h
  go_enter Try.func22, Try.ntmps22
  go_wp2
  go_ret
  exact ⟨rfl, Below.refl _ _⟩
theorem precs_nil (w : World) : Calls Try.prog 22 #[.pointer none] w fun e w' => e = .returned (.int .i64 0) ∧ Below w.heap.size w w' := by
  go_enter Try.func22, Try.ntmps22
  go_wp2
  go_ret
  exact ⟨rfl, Below.refl _ _⟩
end
end Go.Proofs.Ytlbdkigiphnabaa.Vault
