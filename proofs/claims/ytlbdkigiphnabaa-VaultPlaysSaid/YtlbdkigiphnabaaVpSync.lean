/-
  The program's Sync, of any vault whose state may be, and of no vault: it leaves what the document says; of what is neither a disk's, nor a vault's, nor its file's nothing has turned.
-/
import Derived.Test.YtlbdkigiphnabaaVpPut
namespace Go.Proofs.Ytlbdkigiphnabaa.Vault
open Go.RowKit
open _root_.Go.Proofs.Ytlbdkigiphnabaa.Codec (Cel cells8 Made own_below own_lies lt_of_heap frozen_of heap_set grown_set IsBytes)
open _root_.Go.Proofs.Ytlbdkigiphnabaa.Disk (Sl Dsk Holds all Aside eWrite dWrite over dSync dReplace)

section
variable {B q d : Nat} {room : Int} {a : Sv} {n : Int} {t : Sl} {x : Option Nat} {w : World} {s : Sv}

theorem psync_nil (w : World) : Calls Try.prog 14 #[.pointer none] w fun e w' => e = .returned (.tuple #[]) ∧ Below w.heap.size w w' := by
  go_enter Try.func14, Try.ntmps14
  go_wp2
  refine bodyPost_ret (v := .tuple #[]) (by simp [results, Try.results14, go_sem]) rfl ⟨rfl, Below.refl _ _⟩

theorem sync_at (h : Half B w q d room a n t x) (hB : B ≤ w.heap.size) (hh : Holds room t) (hm : room ≤ 16777216) :
    Calls Try.prog 37 #[.pointer (some ⟨d, 0, none⟩)] w fun e w' => e = .returned (.int .i64 (t.2.length : Int)) ∧ Gone B w q d room a n (dSync t) x w' := by
  refine (Disk.sync_any h.dsk hh hm hB).mono ?_
  rintro e w' ⟨rfl, hL⟩
  exact ⟨rfl, h.step hL⟩
theorem replace_at (h : Half B w q d room a n t x) (hB : B ≤ w.heap.size) (u : World) (hu : Below w.heap.size w u)
    (p : Option Addr) (c : Nat) (hl : (rec s).length = 32) (hc : Cel u p (rec s)) (hq : p = none → rec s = []) :
    Calls Try.prog 27 #[.pointer (some ⟨d, 0, none⟩), .slice p 32 c] u fun e w' => (∃ y, e = .returned (.int .i64 y)) ∧ Gone B w q d room a n (dReplace room t (rec s)) x w' := by
  have hk := h.below hu
  have := Disk.replace_any hk.dsk (Nat.le_trans hB hu.size) p c (rec s) hc (no_none hl hq) (by omega)
  rw [hl] at this
  refine this.mono ?_
  rintro e w' ⟨rfl, hL⟩
  obtain ⟨x', h1, h2, h3⟩ := hk.step hL
  exact ⟨⟨_, rfl⟩, x', h1, (Off.below hu).trans h2, (hu.mono hB).trans h3⟩

set_option maxRecDepth 100000 in
theorem psync_few (h : Half B w q d room a n t x) (hB : B ≤ w.heap.size) (hh : Holds room t) (hm : room ≤ 16777216) (hn : n ≤ 64) :
    Calls Try.prog 14 #[.pointer (some ⟨q, 0, none⟩)] w fun e w' => e = .returned (.tuple #[]) ∧ Gone B w q d room a n (dSync t) x w' := by
  have hsync := sync_at h hB hh hm
  obtain ⟨-, -, -, -, c4, -, -⟩ := h.cells
  clear h hB hh hm
  generalize dSync t = t2 at *
  generalize t.2.length = l at *
  go_enter Try.func14, Try.ntmps14
  go_wp2_with (go_at_call 37; (with_reducible refine hsync.mono ?_); rintro e w1 ⟨rfl, hg1⟩; have G1 := Lib.hid hg1; have c5 : w1.cell? ⟨q, 5, none⟩ = some (.int .i64 n) := (by obtain ⟨x', h, _⟩ := hg1; exact h.cells.2.2.2.2.2.1); clear hsync hg1)
  go_end0
  exact ⟨rfl, G1.out⟩

set_option maxRecDepth 100000 in
set_option maxHeartbeats 1000000 in
theorem psync_many (h : Half B w q d room a n t x) (hB : B ≤ w.heap.size) (hh : Holds room t) (hm : room ≤ 16777216) (hn : 64 < n) (hr : right a = true) :
    Calls Try.prog 14 #[.pointer (some ⟨q, 0, none⟩)] w fun e w' => e = .returned (.tuple #[]) ∧ Gone B w q d room a 1 (dReplace room (dSync t) (rec a)) x w' := by
  have hsync := sync_at h hB hh hm
  obtain ⟨-, -, -, -, c4, -, -⟩ := h.cells
  have hrec := fun u => record_any a hr u
  have hr32 : (rec a).length = 32 := len_rec a
  have HR := Lib.hid hr32
  have hkeep : ∀ u, Gone B w q d room a n (dSync t) x u → (∃ x', Half B u q d room a n (dSync t) x' ∧ Off w u x x' ∧ Below B w u) := fun u hu => hu
  have hstate : ∀ (u v : World) x', Half B u q d room a n (dSync t) x' → Below u.heap.size u v → Calls Try.prog 21 #[.pointer (some ⟨q, 0, none⟩)] v fun e w' => e = .returned (val a) ∧ Below v.heap.size v w' := fun u v x' h hb => pstate_half (h.below hb)
  have hrep : ∀ (u v : World) x', Half B u q d room a n (dSync t) x' → B ≤ u.heap.size → Below u.heap.size u v → ∀ (p : Option Addr) (c : Nat), (rec a).length = 32 → Cel v p (rec a) → (p = none → rec a = []) →
      Calls Try.prog 27 #[.pointer (some ⟨d, 0, none⟩), .slice p 32 c] v fun e w' => (∃ y, e = .returned (.int .i64 y)) ∧ Gone B u q d room a n (dReplace room (dSync t) (rec a)) x' w' :=
    fun u v x' h hB hu p c hl hc hq => replace_at (s := a) h hB v hu p c hl hc hq
  clear h hh hm hr hr32
  generalize dReplace room (dSync t) (rec a) = t3 at *
  generalize dSync t = t2 at *
  generalize t.2.length = l at *
  generalize rec a = rb at *
  obtain ⟨p, g, k, r⟩ := a
  simp only [val] at *
  go_enter Try.func14, Try.ntmps14
  go_wp2_with (go_at_call 37; (with_reducible refine hsync.mono ?_); rintro e w1 ⟨rfl, hg1⟩; obtain ⟨x1, h1, o1, b1⟩ := hkeep _ hg1; have H1 := Lib.hid h1; have O1 := Lib.hid o1; have B1 := Lib.hid b1; have d4 := h1.cells.2.2.2.2.1; have d5 := h1.cells.2.2.2.2.2.1; clear hsync hkeep hg1 h1 o1 b1)
  have D0 := Lib.hid (Below.refl w1.heap.size w1).drew
  have hptr : ∀ u, Below w1.heap.size w1 u → u.cell? ⟨q, 4, none⟩ = some (.pointer (some ⟨d, 0, none⟩)) := fun u hu => (H1.out.below hu).cells.2.2.2.2.1
  have HP := Lib.hid hptr
  have p0 := hptr _ D0.out
  have hBw := Nat.le_trans hB B1.out.size
  clear hptr
  go_region_held3 (fun u => u.cell? ⟨q, 4, none⟩ = some (.pointer (some ⟨d, 0, none⟩))) (first | assumption | exact p0) (first
    | (go_at_call 21; (with_reducible refine (hstate _ _ _ H1.out D0.out).mono ?_); rintro e u1 ⟨rfl, hb1⟩; have D1 := Lib.hid (D0.out.trans (hb1.mono D0.out.size)); have p1 := HP.out _ D1.out; clear hb1)
    | (go_at_call 34; (with_reducible refine (hrec _).mono ?_); rintro e u3 ⟨vb, rfl, ho3, hb3⟩; obtain ⟨qb, kb, rfl, -, -, hlb, hqb⟩ := own_lies ho3; rw [HR.out] ; have C3 := Lib.hid hlb.cel; have Q3 := Lib.hid hqb; have D3 := Lib.hid (D1.out.trans (hb3.mono D1.out.size)); have p3 := HP.out _ D3.out; clear hb3 ho3 hlb hqb hrec)
    | (go_at_call 27; (with_reducible refine (hrep _ _ _ H1.out hBw D3.out _ _ HR.out C3.out Q3.out).mono ?_); rintro e u4 ⟨⟨y4, rfl⟩, hm4⟩; have p4 := gone_ptr hm4; have R4 := Lib.hid hm4; clear hm4))
  all_goals
    have f5 : u4.frozen? ⟨q, 5, none⟩ = false := by obtain ⟨x', h, _⟩ := R4.out; exact h.cells.2.2.2.2.2.2 5
    have e5 : u4.cell? ⟨q, 5, none⟩ = some (.int .i64 n) := by obtain ⟨x', h, _⟩ := R4.out; exact h.cells.2.2.2.2.2.1
    have R5 : Hid (Gone B w q d room ⟨p, g, k, r⟩ 1 t3 x (u4.setCell ⟨q, 5, none⟩ (.int .i64 1))) := by
      obtain ⟨x4, h4, o4, b4⟩ := R4.out
      obtain ⟨x5, h5, o5, b5⟩ := h4.set5 1
      exact ⟨x5, h5, (O1.out.trans o4).trans o5, (B1.out.trans b4).trans b5⟩
    clear R4
    go_wp2
    go_end0
    exact ⟨rfl, R5.out⟩
end
end Go.Proofs.Ytlbdkigiphnabaa.Vault
