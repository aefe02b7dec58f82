/-
  The program's Put, of any vault and any state, and of no vault: it tells and leaves what the document says; of what is neither a disk's, nor a vault's, nor its file's nothing has turned.
-/
import Derived.Test.YtlbdkigiphnabaaVpMeths
import Derived.Deep.RegionHeld3
namespace Go.Proofs.Ytlbdkigiphnabaa.Vault
open Go.RowKit
open _root_.Go.Proofs.Ytlbdkigiphnabaa.Codec (Cel cells8 Made own_below own_lies lt_of_heap frozen_of heap_set grown_set IsBytes)
open _root_.Go.Proofs.Ytlbdkigiphnabaa.Disk (Sl Dsk Holds all Aside eWrite dWrite over)

section
variable {B q d : Nat} {room : Int} {a : Sv} {n : Int} {t : Sl} {x : Option Nat} {w : World} {s : Sv}

set_option maxRecDepth 100000 in
theorem pput_nil (s : Sv) (w : World) : Calls Try.prog 11 #[.pointer none, val s] w fun e w' => e = .returned (.int .i64 1) ∧ Below w.heap.size w w' := by
  have hb : Below w.heap.size w (w.alloc (.cells #[.int .i64 s.p, .int .i64 s.g, .int .i64 s.h, .int .i64 s.r] 25)) := (Below.refl _ _).alloc (Nat.le_refl _) _
  have HB := Lib.hid hb
  clear hb
  obtain ⟨p, g, k, r⟩ := s
  simp only [val] at *
  go_enter Try.func11, Try.ntmps11
  go_wp2
  go_ret
  exact ⟨rfl, HB.out⟩

set_option maxRecDepth 100000 in
theorem pput_wrong (h : Half B w q d room a n t x) (hB : B ≤ w.heap.size) (hs : right s = false) :
    Calls Try.prog 11 #[.pointer (some ⟨q, 0, none⟩), val s] w fun e w' => e = .returned (.int .i64 1) ∧ Gone B w q d room a n t x w' := by
  have hb : Below w.heap.size w (w.alloc (.cells #[.int .i64 s.p, .int .i64 s.g, .int .i64 s.h, .int .i64 s.r] 25)) := (Below.refl _ _).alloc (Nat.le_refl _) _
  have hright := fun u => pright_any s u
  rw [hs] at hright
  have R : Hid (∀ u, Below w.heap.size w u → Gone B w q d room a n t x u) := fun u hu => Gone.below h hB hu
  clear h hs hB
  obtain ⟨p, g, k, r⟩ := s
  simp only [val] at *
  go_enter Try.func11, Try.ntmps11
  go_wp2_with (go_at_call 33; (with_reducible refine (hright _).mono ?_); rintro e w1 ⟨rfl, hb1⟩; have HB := Lib.hid (hb.trans (hb1.mono hb.size)); clear hright hb1 hb)
  go_ret
  exact ⟨rfl, R.out _ HB.out⟩

set_option maxRecDepth 100000 in
set_option maxHeartbeats 1000000 in
theorem pput_stale (h : Half B w q d room a n t x) (hB : B ≤ w.heap.size) (hs : right s = true) (hst : rises a s = false) :
    Calls Try.prog 11 #[.pointer (some ⟨q, 0, none⟩), val s] w fun e w' => e = .returned (.int .i64 7) ∧ Gone B w q d room a n t x w' := by
  have hb : Below w.heap.size w (w.alloc (.cells #[.int .i64 s.p, .int .i64 s.g, .int .i64 s.h, .int .i64 s.r] 25)) := (Below.refl _ _).alloc (Nat.le_refl _) _
  have hbox : ∀ u, Below (w.alloc (.cells #[.int .i64 s.p, .int .i64 s.g, .int .i64 s.h, .int .i64 s.r] 25)).heap.size (w.alloc (.cells #[.int .i64 s.p, .int .i64 s.g, .int .i64 s.h, .int .i64 s.r] 25)) u →
      u.cell? ⟨w.heap.size, 0, none⟩ = some (.int .i64 s.p) ∧ u.cell? ⟨w.heap.size, 1, none⟩ = some (.int .i64 s.g) ∧ u.cell? ⟨w.heap.size, 2, none⟩ = some (.int .i64 s.h) ∧ u.cell? ⟨w.heap.size, 3, none⟩ = some (.int .i64 s.r) :=
    fun u hu => box25 ((hu.block w.heap.size (by simp)).trans (heap_alloc_new _ _))
  have hright := fun u => pright_any s u
  rw [hs] at hright
  have hstate := fun u (hu : Below w.heap.size w u) => pstate_half (h.below hu)
  have hrise := fun u => prises_any a s u
  rw [hst] at hrise
  have R : Hid (∀ u, Below w.heap.size w u → Gone B w q d room a n t x u) := fun u hu => Gone.below h hB hu
  clear h hs hB hst
  obtain ⟨p, g, k, r⟩ := s
  obtain ⟨p', g', k', r'⟩ := a
  simp only [val] at *
  have BX := Lib.hid hbox
  clear hbox
  go_enter Try.func11, Try.ntmps11
  go_wp2_with (go_at_call 33; (with_reducible refine (hright _).mono ?_); rintro e w1 ⟨rfl, hb1⟩; have X1 := Lib.hid hb1; have HB := Lib.hid (hb.trans (hb1.mono hb.size)); clear hright hb1 hb)
  have X2 := Lib.hid X1.out.drew
  have g0 := BX.out _ X2.out
  have HB2 := Lib.hid HB.out.drew
  clear X1 HB
  go_region_held3 (fun u => u.cell? ⟨w.heap.size, 0, none⟩ = some (.int .i64 p) ∧ u.cell? ⟨w.heap.size, 1, none⟩ = some (.int .i64 g) ∧ u.cell? ⟨w.heap.size, 2, none⟩ = some (.int .i64 k) ∧ u.cell? ⟨w.heap.size, 3, none⟩ = some (.int .i64 r)) (first | assumption | exact g0) (first
    | (go_at_call 21; (with_reducible refine (hstate _ HB2.out).mono ?_); rintro e u1 ⟨rfl, hb1⟩; have X3 := Lib.hid (X2.out.trans (hb1.mono X2.out.size)); have g1 := BX.out _ X3.out; have HB3 := Lib.hid (HB2.out.trans (hb1.mono HB2.out.size)); clear hb1)
    | (go_at_call 19; (with_reducible refine (hrise _).mono ?_); rintro e u2 ⟨rfl, hb2⟩; have X4 := Lib.hid (X3.out.trans (hb2.mono X3.out.size)); have g2 := BX.out _ X4.out; have HB4 := Lib.hid (HB3.out.trans (hb2.mono HB3.out.size)); clear hb2))
  all_goals
    go_wp2
    go_ret
    exact ⟨rfl, R.out _ HB4.out⟩

/-- The way up to Write, whatever it tells. -/
theorem write_at (h : Half B w q d room a n t x) (hB : B ≤ w.heap.size) (hh : Holds room t) (h0 : 0 ≤ room) (hm : room ≤ 16777216) (s : Sv) (u : World) (hu : Below w.heap.size w u) (b : Nat) (hbk : u.heap[b]? = some (.cells #[.int .i64 s.p, .int .i64 s.g, .int .i64 s.h, .int .i64 s.r] 25 (0, 0)))
    (p : Option Addr) (c : Nat) (hl : (rec s).length = 32) (hc : Cel u p (rec s)) (hq : p = none → rec s = []) :
    Calls Try.prog 23 #[.pointer (some ⟨d, 0, none⟩), .slice p 32 c] u fun e w' => e = .returned (.int .i64 (eWrite room t (rec s))) ∧ Gone B w q d room a n (dWrite room t (rec s)) x w' ∧
      w'.heap[b]? = some (.cells #[.int .i64 s.p, .int .i64 s.g, .int .i64 s.h, .int .i64 s.r] 25 (0, 0)) := by
  have hk := h.below hu
  have := Disk.write_any hk.dsk hh h0 hm (Nat.le_trans hB hu.size) p c (rec s) hc (no_none hl hq) (by omega)
  rw [hl] at this
  refine this.mono ?_
  rintro e w' ⟨rfl, hL⟩
  obtain ⟨x', h1, h2, h3⟩ := hk.step hL
  refine ⟨rfl, ⟨x', h1, (Off.below hu).trans h2, (hu.mono hB).trans h3⟩, h2.box hk.dsk hbk (by decide) (by decide) (by decide)⟩

theorem gone_ptr {w' : World} {t' : Sl} (h : Gone B w q d room a n t' x w') : w'.cell? ⟨q, 4, none⟩ = some (.pointer (some ⟨d, 0, none⟩)) := by
  obtain ⟨x', h, _⟩ := h
  exact h.cells.2.2.2.2.1

set_option maxRecDepth 100000 in
set_option maxHeartbeats 2000000 in
theorem pput_full (h : Half B w q d room a n t x) (hB : B ≤ w.heap.size) (hh : Holds room t) (h0 : 0 ≤ room) (hm : room ≤ 16777216) (hs : right s = true) (hst : rises a s = true) (hov : over room t (rec s) = true) :
    Calls Try.prog 11 #[.pointer (some ⟨q, 0, none⟩), val s] w fun e w' => e = .returned (.int .i64 3) ∧ Gone B w q d room a n t x w' := by
  have hb : Below w.heap.size w (w.alloc (.cells #[.int .i64 s.p, .int .i64 s.g, .int .i64 s.h, .int .i64 s.r] 25)) := (Below.refl _ _).alloc (Nat.le_refl _) _
  have hbk : ∀ u, Below (w.alloc (.cells #[.int .i64 s.p, .int .i64 s.g, .int .i64 s.h, .int .i64 s.r] 25)).heap.size (w.alloc (.cells #[.int .i64 s.p, .int .i64 s.g, .int .i64 s.h, .int .i64 s.r] 25)) u →
      u.heap[w.heap.size]? = some (.cells #[.int .i64 s.p, .int .i64 s.g, .int .i64 s.h, .int .i64 s.r] 25 (0, 0)) :=
    fun u hu => (hu.block w.heap.size (by simp)).trans (heap_alloc_new _ _)
  have hbox := fun u hu => box25 (hbk u hu)
  have hright := fun u => pright_any s u
  rw [hs] at hright
  have hstate := fun u (hu : Below w.heap.size w u) => pstate_half (h.below hu)
  have hrise := fun u => prises_any a s u
  rw [hst] at hrise
  have hrec := fun u => record_any s hs u
  have hwrite := fun u hu hbk p c hl hc hq => write_at h hB hh h0 hm s u hu w.heap.size hbk p c hl hc hq
  have hew : eWrite room t (rec s) = 3 := by simp [eWrite, hov]
  have hdw : dWrite room t (rec s) = t := by simp [dWrite, hov]
  rw [hew, hdw] at hwrite
  have hptr : ∀ u, Below w.heap.size w u → u.cell? ⟨q, 4, none⟩ = some (.pointer (some ⟨d, 0, none⟩)) := fun u hu => (h.below hu).cells.2.2.2.2.1
  have HP := Lib.hid hptr
  have hr32 : (rec s).length = 32 := len_rec s
  have HR := Lib.hid hr32
  clear h hst hov hew hdw hh hptr hr32
  generalize hrs : rec s = rb at *
  clear hrs
  obtain ⟨p, g, k, r⟩ := s
  obtain ⟨p', g', k', r'⟩ := a
  simp only [val] at *
  have BX := Lib.hid hbox
  have BK := Lib.hid hbk
  clear hbox hbk hs
  go_enter Try.func11, Try.ntmps11
  go_wp2_with (go_at_call 33; (with_reducible refine (hright _).mono ?_); rintro e w1 ⟨rfl, hb1⟩; have X1 := Lib.hid hb1; have HB := Lib.hid (hb.trans (hb1.mono hb.size)); clear hright hb1 hb)
  have X2 := Lib.hid X1.out.drew
  have g0 := BX.out _ X2.out
  have HB2 := Lib.hid HB.out.drew
  clear X1 HB
  go_region_held3 (fun u => u.cell? ⟨w.heap.size, 0, none⟩ = some (.int .i64 p) ∧ u.cell? ⟨w.heap.size, 1, none⟩ = some (.int .i64 g) ∧ u.cell? ⟨w.heap.size, 2, none⟩ = some (.int .i64 k) ∧ u.cell? ⟨w.heap.size, 3, none⟩ = some (.int .i64 r)) (first | assumption | exact g0) (first
    | (go_at_call 21; (with_reducible refine (hstate _ HB2.out).mono ?_); rintro e u1 ⟨rfl, hb1⟩; have X3 := Lib.hid (X2.out.trans (hb1.mono X2.out.size)); have g1 := BX.out _ X3.out; have HB3 := Lib.hid (HB2.out.trans (hb1.mono HB2.out.size)); clear hb1)
    | (go_at_call 19; (with_reducible refine (hrise _).mono ?_); rintro e u2 ⟨rfl, hb2⟩; have X4 := Lib.hid (X3.out.trans (hb2.mono X3.out.size)); have g2 := BX.out _ X4.out; have HB4 := Lib.hid (HB3.out.trans (hb2.mono HB3.out.size)); clear hb2))
  clear hstate hrise g0 g1 X2 X3 HB2 HB3
  go_wp2
  have X5 := Lib.hid X4.out.drew
  have g3 := BX.out _ X5.out
  have HB5 := Lib.hid HB4.out.drew
  have p3 := HP.out _ HB5.out
  clear g2 X4 HB4
  go_region_held3 (fun u => u.cell? ⟨q, 4, none⟩ = some (.pointer (some ⟨d, 0, none⟩)) ∧ u.cell? ⟨w.heap.size, 0, none⟩ = some (.int .i64 p) ∧ u.cell? ⟨w.heap.size, 1, none⟩ = some (.int .i64 g) ∧ u.cell? ⟨w.heap.size, 2, none⟩ = some (.int .i64 k) ∧ u.cell? ⟨w.heap.size, 3, none⟩ = some (.int .i64 r)) (first | assumption | exact ⟨p3, g3⟩ | exact ⟨p4, g4⟩ | exact ⟨p5, g5⟩) (first
    | (go_at_call 34; (with_reducible refine (hrec _).mono ?_); rintro e u3 ⟨vb, rfl, ho3, hb3⟩; obtain ⟨qb, kb, rfl, -, -, hlb, hqb⟩ := own_lies ho3; rw [HR.out] ; have C3 := Lib.hid hlb.cel; have Q3 := Lib.hid hqb; have X6 := Lib.hid (X5.out.trans (hb3.mono X5.out.size)); have g4 := BX.out _ X6.out; have HB6 := Lib.hid (HB5.out.trans (hb3.mono HB5.out.size)); have p4 := HP.out _ HB6.out; clear hb3 ho3 hlb hqb hrec)
    | (go_at_call 23; (with_reducible refine (hwrite _ HB6.out (BK.out _ X6.out) _ _ HR.out C3.out Q3.out).mono ?_); rintro e u4 ⟨rfl, hm4, b5⟩; have g5 : u4.cell? ⟨w.heap.size, 0, none⟩ = some (.int .i64 p) ∧ u4.cell? ⟨w.heap.size, 1, none⟩ = some (.int .i64 g) ∧ u4.cell? ⟨w.heap.size, 2, none⟩ = some (.int .i64 k) ∧ u4.cell? ⟨w.heap.size, 3, none⟩ = some (.int .i64 r) := box25 b5; have p5 := gone_ptr hm4; have R5 := Lib.hid hm4; clear hm4 b5))
  clear hwrite g3 g4 g5 p3 p4 p5 X5 X6 HB5 HB6 C3 Q3 HP BX BK HR
  go_wp2
  go_ret
  exact ⟨rfl, R5.out⟩

set_option maxRecDepth 100000 in
set_option maxHeartbeats 2000000 in
theorem pput_ok (h : Half B w q d room a n t x) (hB : B ≤ w.heap.size) (hh : Holds room t) (h0 : 0 ≤ room) (hm : room ≤ 16777216) (hn0 : 0 ≤ n) (hn1 : n ≤ 16777216) (hs : right s = true) (hst : rises a s = true) (hov : over room t (rec s) = false) :
    Calls Try.prog 11 #[.pointer (some ⟨q, 0, none⟩), val s] w fun e w' => e = .returned (.int .i64 0) ∧ Gone B w q d room s (n + 1) (dWrite room t (rec s)) x w' := by
  have hb : Below w.heap.size w (w.alloc (.cells #[.int .i64 s.p, .int .i64 s.g, .int .i64 s.h, .int .i64 s.r] 25)) := (Below.refl _ _).alloc (Nat.le_refl _) _
  have hbk : ∀ u, Below (w.alloc (.cells #[.int .i64 s.p, .int .i64 s.g, .int .i64 s.h, .int .i64 s.r] 25)).heap.size (w.alloc (.cells #[.int .i64 s.p, .int .i64 s.g, .int .i64 s.h, .int .i64 s.r] 25)) u →
      u.heap[w.heap.size]? = some (.cells #[.int .i64 s.p, .int .i64 s.g, .int .i64 s.h, .int .i64 s.r] 25 (0, 0)) :=
    fun u hu => (hu.block w.heap.size (by simp)).trans (heap_alloc_new _ _)
  have hbox := fun u hu => box25 (hbk u hu)
  have hright := fun u => pright_any s u
  rw [hs] at hright
  have hstate := fun u (hu : Below w.heap.size w u) => pstate_half (h.below hu)
  have hrise := fun u => prises_any a s u
  rw [hst] at hrise
  have hrec := fun u => record_any s hs u
  have hwrite := fun u hu hbk p c hl hc hq => write_at h hB hh h0 hm s u hu w.heap.size hbk p c hl hc hq
  have hew : eWrite room t (rec s) = 0 := by simp [eWrite, hov]
  rw [hew] at hwrite
  have hptr : ∀ u, Below w.heap.size w u → u.cell? ⟨q, 4, none⟩ = some (.pointer (some ⟨d, 0, none⟩)) := fun u hu => (h.below hu).cells.2.2.2.2.1
  have HP := Lib.hid hptr
  have hr32 : (rec s).length = 32 := len_rec s
  have HR := Lib.hid hr32
  clear h hst hov hew hh hptr hr32
  generalize hrs : rec s = rb at *
  clear hrs
  generalize dWrite room t rb = t2 at hwrite ⊢
  obtain ⟨p, g, k, r⟩ := s
  obtain ⟨p', g', k', r'⟩ := a
  simp only [val] at *
  have BX := Lib.hid hbox
  have BK := Lib.hid hbk
  clear hbox hbk hs
  go_enter Try.func11, Try.ntmps11
  go_wp2_with (go_at_call 33; (with_reducible refine (hright _).mono ?_); rintro e w1 ⟨rfl, hb1⟩; have X1 := Lib.hid hb1; have HB := Lib.hid (hb.trans (hb1.mono hb.size)); clear hright hb1 hb)
  have X2 := Lib.hid X1.out.drew
  have g0 := BX.out _ X2.out
  have HB2 := Lib.hid HB.out.drew
  clear X1 HB
  go_region_held3 (fun u => u.cell? ⟨w.heap.size, 0, none⟩ = some (.int .i64 p) ∧ u.cell? ⟨w.heap.size, 1, none⟩ = some (.int .i64 g) ∧ u.cell? ⟨w.heap.size, 2, none⟩ = some (.int .i64 k) ∧ u.cell? ⟨w.heap.size, 3, none⟩ = some (.int .i64 r)) (first | assumption | exact g0) (first
    | (go_at_call 21; (with_reducible refine (hstate _ HB2.out).mono ?_); rintro e u1 ⟨rfl, hb1⟩; have X3 := Lib.hid (X2.out.trans (hb1.mono X2.out.size)); have g1 := BX.out _ X3.out; have HB3 := Lib.hid (HB2.out.trans (hb1.mono HB2.out.size)); clear hb1)
    | (go_at_call 19; (with_reducible refine (hrise _).mono ?_); rintro e u2 ⟨rfl, hb2⟩; have X4 := Lib.hid (X3.out.trans (hb2.mono X3.out.size)); have g2 := BX.out _ X4.out; have HB4 := Lib.hid (HB3.out.trans (hb2.mono HB3.out.size)); clear hb2))
  clear hstate hrise g0 g1 X2 X3 HB2 HB3
  go_wp2
  have X5 := Lib.hid X4.out.drew
  have g3 := BX.out _ X5.out
  have HB5 := Lib.hid HB4.out.drew
  have p3 := HP.out _ HB5.out
  clear g2 X4 HB4
  go_region_held3 (fun u => u.cell? ⟨q, 4, none⟩ = some (.pointer (some ⟨d, 0, none⟩)) ∧ u.cell? ⟨w.heap.size, 0, none⟩ = some (.int .i64 p) ∧ u.cell? ⟨w.heap.size, 1, none⟩ = some (.int .i64 g) ∧ u.cell? ⟨w.heap.size, 2, none⟩ = some (.int .i64 k) ∧ u.cell? ⟨w.heap.size, 3, none⟩ = some (.int .i64 r)) (first | assumption | exact ⟨p3, g3⟩ | exact ⟨p4, g4⟩ | exact ⟨p5, g5⟩) (first
    | (go_at_call 34; (with_reducible refine (hrec _).mono ?_); rintro e u3 ⟨vb, rfl, ho3, hb3⟩; obtain ⟨qb, kb, rfl, -, -, hlb, hqb⟩ := own_lies ho3; rw [HR.out] ; have C3 := Lib.hid hlb.cel; have Q3 := Lib.hid hqb; have X6 := Lib.hid (X5.out.trans (hb3.mono X5.out.size)); have g4 := BX.out _ X6.out; have HB6 := Lib.hid (HB5.out.trans (hb3.mono HB5.out.size)); have p4 := HP.out _ HB6.out; clear hb3 ho3 hlb hqb hrec)
    | (go_at_call 23; (with_reducible refine (hwrite _ HB6.out (BK.out _ X6.out) _ _ HR.out C3.out Q3.out).mono ?_); rintro e u4 ⟨rfl, hm4, b5⟩; have g5 : u4.cell? ⟨w.heap.size, 0, none⟩ = some (.int .i64 p) ∧ u4.cell? ⟨w.heap.size, 1, none⟩ = some (.int .i64 g) ∧ u4.cell? ⟨w.heap.size, 2, none⟩ = some (.int .i64 k) ∧ u4.cell? ⟨w.heap.size, 3, none⟩ = some (.int .i64 r) := box25 b5; have p5 := gone_ptr hm4; have R5 := Lib.hid hm4; clear hm4 b5))
  clear hwrite g3 g4 p3 p4 p5 X5 X6 HB5 HB6 C3 Q3 HP BX BK HR
  have R6 : Hid (Gone B w q d room ⟨p, g, k, r⟩ (n + 1) t2 x (((((u4.setCell ⟨q, 0, none⟩ (.int .i64 p)).setCell ⟨q, 1, none⟩ (.int .i64 g)).setCell ⟨q, 2, none⟩ (.int .i64 k)).setCell ⟨q, 3, none⟩ (.int .i64 r)).setCell ⟨q, 5, none⟩ (.int .i64 (n + 1)))) := R5.out.trans fun _ h => h.set_all p g k r (n + 1)
  obtain ⟨c0, c1, c2, c3, c4, c5, ff⟩ : u4.cell? ⟨q, 0, none⟩ = some (.int .i64 p') ∧ u4.cell? ⟨q, 1, none⟩ = some (.int .i64 g') ∧ u4.cell? ⟨q, 2, none⟩ = some (.int .i64 k') ∧ u4.cell? ⟨q, 3, none⟩ = some (.int .i64 r') ∧ u4.cell? ⟨q, 4, none⟩ = some (.pointer (some ⟨d, 0, none⟩)) ∧ u4.cell? ⟨q, 5, none⟩ = some (.int .i64 n) ∧ ∀ o, u4.frozen? ⟨q, o, none⟩ = false := by
    obtain ⟨x', h, _⟩ := R5.out
    exact h.cells
  have f0 := ff 0
  have f1 := ff 1
  have f2 := ff 2
  have f3 := ff 3
  have f5 := ff 5
  obtain ⟨g50, g51, g52, g53⟩ := g5
  clear R5 ff
  go_wp2
  go_ret
  exact ⟨rfl, R6.out⟩
end
end Go.Proofs.Ytlbdkigiphnabaa.Vault
