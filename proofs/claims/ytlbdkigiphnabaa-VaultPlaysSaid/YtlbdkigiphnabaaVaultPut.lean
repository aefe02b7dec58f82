/-
  The document's Put, of any vault and any state: it tells and leaves what the document says; of what is none of its own nothing has turned.
-/
import Derived.Test.YtlbdkigiphnabaaVaultLast
import Derived.Deep.AppendLies
import Derived.Deep.RegionLaw
import Derived.Deep.RegionHeld3
namespace Go.Proofs.Ytlbdkigiphnabaa.Vault
open Go.RowKit
open _root_.Go.Proofs.Ytlbdkigiphnabaa.Codec (Cel cells8 Made own_below own_lies lt_of_heap)
open _root_.Go.Proofs.Ytlbdkigiphnabaa.Disk (Ref Made2 Holds eWrite dWrite over)

/-- The types of the document's vault. -/
def own7 : List TypeId := [47, 52, 41]
theorem infoS : (Try.prog.info? 47).map (fun i => (i.zero, i.size, i.bytes)) = some (some (.agg #[.int .i64 0, .int .i64 0, .int .i64 0, .int .i64 0]), 4, 32) := by kernel_rfl

/-- The document's vault, and its disk. -/
structure Rv (B : Nat) (w : World) (v m : Nat) (room : Int) (y : Vs) (x : Option Nat) : Prop where
  vlt : Vlt 52 47 B w v m y.2
  ref : Ref 41 5 B w m room y.1 x
/-- What a step of it leaves. -/
structure Rleft (B : Nat) (w : World) (v m : Nat) (room : Int) (y : Vs) (x : Option Nat) (w' : World) : Prop where
  rv : Rv B w' v m room y x
  kept : Kept own7 w w'
  below : Below B w w'

section
variable {B v m : Nat} {room : Int} {y : Vs} {x : Option Nat} {w w' : World} {s : Sv}
theorem Rv.below (h : Rv B w v m room y x) (hb : Below w.heap.size w w') : Rv B w' v m room y x := ⟨h.vlt.below hb, h.ref.below hb⟩
theorem Rleft.same (h : Rv B w v m room y x) (hB : B ≤ w.heap.size) (hb : Below w.heap.size w w') : Rleft B w v m room y x w' := ⟨h.below hb, .below hb, hb.mono hB⟩
/-- Its disk makes a step. -/
theorem Rv.step {d : Disk.Sl} (h : Rv B w v m room y x) (hs : Made2 41 5 B w m room d x w') : Rleft B w v m room (d, y.2) x w' := by
  obtain ⟨hB, p, c, q, k, hm, _⟩ := h.ref
  have hk : Kept own7 w w' := .grown hm (by decide) hs.2
  refine ⟨⟨h.vlt.other hm (by decide) ?_ hs.2, hs.1⟩, hk, ?_⟩
  · rintro rfl
    obtain ⟨_, p', c', hv, _⟩ := h.vlt
    rw [hm] at hv
    simp at hv
  · exact (Below.refl _ _).grown hs.2 (Nat.le_of_lt (Nat.lt_of_le_of_lt hB (lt_of_heap hm))) (fun k hk => by cases hk; exact hB)
theorem Rleft.trans {y' y'' : Vs} {w'' : World} (_h : Rleft B w v m room y' x w') (k : Rleft B w' v m room y'' x w'') : Rleft B w v m room y'' x w'' :=
  ⟨k.1, _h.kept.trans k.kept, _h.below.trans k.below⟩

theorem box4 {u : World} {b : Nat} (h : u.heap[b]? = some (.cells #[.int .i64 s.p, .int .i64 s.g, .int .i64 s.h, .int .i64 s.r] 47 (0, 0))) :
    u.cell? ⟨b, 0, none⟩ = some (.int .i64 s.p) ∧ u.cell? ⟨b, 1, none⟩ = some (.int .i64 s.g) ∧ u.cell? ⟨b, 2, none⟩ = some (.int .i64 s.h) ∧ u.cell? ⟨b, 3, none⟩ = some (.int .i64 s.r) :=
  ⟨by rw [cell_of_row u b 0 _ _ (0, 0) h]; rfl, by rw [cell_of_row u b 1 _ _ (0, 0) h]; rfl, by rw [cell_of_row u b 2 _ _ (0, 0) h]; rfl, by rw [cell_of_row u b 3 _ _ (0, 0) h]; rfl⟩

set_option maxRecDepth 100000 in
theorem rput_wrong (h : Rv B w v m room y x) (hB : B ≤ w.heap.size) (hs : right s = false) :
    Calls Try.prog 12 #[.pointer (some ⟨v, 0, none⟩), val s] w fun e w' => e = .returned (.int .i64 1) ∧ Rleft B w v m room y x w' := by
  have hb : Below w.heap.size w (w.alloc (.cells #[.int .i64 s.p, .int .i64 s.g, .int .i64 s.h, .int .i64 s.r] 47)) := (Below.refl _ _).alloc (Nat.le_refl _) _
  have hright := fun u => rright_any s u
  rw [hs] at hright
  have R : Hid (∀ u, Below w.heap.size w u → Rleft B w v m room y x u) := fun u hu => Rleft.same h hB hu
  clear h hs hB
  obtain ⟨p, g, k, r⟩ := s
  simp only [val] at *
  go_enter Try.func12, Try.ntmps12
  go_wp2_with (go_at_call 30; (with_reducible refine (hright _).mono ?_); rintro e w1 ⟨rfl, hb1⟩; have HB := Lib.hid (hb.trans (hb1.mono hb.size)); clear hright hb1 hb)
  go_ret
  exact ⟨rfl, R.out _ HB.out⟩

set_option maxRecDepth 100000 in
set_option maxHeartbeats 1000000 in
theorem rput_stale (h : Rv B w v m room y x) (hB : B ≤ w.heap.size) (hl : (y.2.length : Int) ≤ 100000) (hs : right s = true) (hst : rises (last y.2) s = false) :
    Calls Try.prog 12 #[.pointer (some ⟨v, 0, none⟩), val s] w fun e w' => e = .returned (.int .i64 7) ∧ Rleft B w v m room y x w' := by
  have hb : Below w.heap.size w (w.alloc (.cells #[.int .i64 s.p, .int .i64 s.g, .int .i64 s.h, .int .i64 s.r] 47)) := (Below.refl _ _).alloc (Nat.le_refl _) _
  have hbox : ∀ u, Below (w.alloc (.cells #[.int .i64 s.p, .int .i64 s.g, .int .i64 s.h, .int .i64 s.r] 47)).heap.size (w.alloc (.cells #[.int .i64 s.p, .int .i64 s.g, .int .i64 s.h, .int .i64 s.r] 47)) u →
      u.cell? ⟨w.heap.size, 0, none⟩ = some (.int .i64 s.p) ∧ u.cell? ⟨w.heap.size, 1, none⟩ = some (.int .i64 s.g) ∧ u.cell? ⟨w.heap.size, 2, none⟩ = some (.int .i64 s.h) ∧ u.cell? ⟨w.heap.size, 3, none⟩ = some (.int .i64 s.r) :=
    fun u hu => box4 ((hu.block w.heap.size (by simp)).trans (heap_alloc_new _ _))
  have hright := fun u => rright_any s u
  rw [hs] at hright
  have hlast := fun u (hu : Below w.heap.size w u) => rlast_any (h.vlt.below hu) (by omega)
  have hrise := fun u => rrises_any (last y.2) s u
  rw [hst] at hrise
  have R : Hid (∀ u, Below w.heap.size w u → Rleft B w v m room y x u) := fun u hu => Rleft.same h hB hu
  clear h hs hB hst hl
  generalize last y.2 = a at hlast hrise
  obtain ⟨p, g, k, r⟩ := s
  obtain ⟨p', g', k', r'⟩ := a
  simp only [val] at *
  have BX := Lib.hid hbox
  clear hbox
  go_enter Try.func12, Try.ntmps12
  go_wp2_with (go_at_call 30; (with_reducible refine (hright _).mono ?_); rintro e w1 ⟨rfl, hb1⟩; have X1 := Lib.hid hb1; have HB := Lib.hid (hb.trans (hb1.mono hb.size)); clear hright hb1 hb)
  have X2 := Lib.hid X1.out.drew
  have g0 := BX.out _ X2.out
  have HB2 := Lib.hid HB.out.drew
  clear X1 HB
  go_region_held3 (fun u => u.cell? ⟨w.heap.size, 0, none⟩ = some (.int .i64 p) ∧ u.cell? ⟨w.heap.size, 1, none⟩ = some (.int .i64 g) ∧ u.cell? ⟨w.heap.size, 2, none⟩ = some (.int .i64 k) ∧ u.cell? ⟨w.heap.size, 3, none⟩ = some (.int .i64 r)) (first | assumption | exact g0) (first
    | (go_at_call 31; (with_reducible refine (hlast _ HB2.out).mono ?_); rintro e u1 ⟨rfl, hb1⟩; have X3 := Lib.hid (X2.out.trans (hb1.mono X2.out.size)); have g1 := BX.out _ X3.out; have HB3 := Lib.hid (HB2.out.trans (hb1.mono HB2.out.size)); clear hb1)
    | (go_at_call 20; (with_reducible refine (hrise _).mono ?_); rintro e u2 ⟨rfl, hb2⟩; have X4 := Lib.hid (X3.out.trans (hb2.mono X3.out.size)); have g2 := BX.out _ X4.out; have HB4 := Lib.hid (HB3.out.trans (hb2.mono HB3.out.size)); clear hb2))
  all_goals
    go_wp2
    go_ret
    exact ⟨rfl, R.out _ HB4.out⟩

theorem ptr_of {l : List Sv} (h : Vlt 52 47 B w v m l) : w.cell? ⟨v, 0, none⟩ = some (.pointer (some ⟨m, 0, none⟩)) := by
  obtain ⟨_, _, h1, _⟩ := h.cells
  exact h1
theorem no_none {q : Option Addr} {b : List Int} {k : Nat} (hb : b.length = 32) (h : q = none → b = []) : q = none → b = [] ∧ k = 0 := fun e => by
  rw [h e] at hb
  simp at hb

set_option maxRecDepth 100000 in
set_option maxHeartbeats 2000000 in
theorem rput_full (h : Rv B w v m room y x) (hB : B ≤ w.heap.size) (hx : ∀ g, x = some g → g < w.heap.size) (hh : Holds room y.1) (h0 : 0 ≤ room) (hm : room ≤ 16777216) (hl : (y.2.length : Int) ≤ 100000) (hs : right s = true) (hst : rises (last y.2) s = true) (hov : over room y.1 (rec s) = true) :
    Calls Try.prog 12 #[.pointer (some ⟨v, 0, none⟩), val s] w fun e w' => e = .returned (.int .i64 3) ∧ Rleft B w v m room y x w' := by
  have hb : Below w.heap.size w (w.alloc (.cells #[.int .i64 s.p, .int .i64 s.g, .int .i64 s.h, .int .i64 s.r] 47)) := (Below.refl _ _).alloc (Nat.le_refl _) _
  have hbk : ∀ u, Below (w.alloc (.cells #[.int .i64 s.p, .int .i64 s.g, .int .i64 s.h, .int .i64 s.r] 47)).heap.size (w.alloc (.cells #[.int .i64 s.p, .int .i64 s.g, .int .i64 s.h, .int .i64 s.r] 47)) u →
      u.heap[w.heap.size]? = some (.cells #[.int .i64 s.p, .int .i64 s.g, .int .i64 s.h, .int .i64 s.r] 47 (0, 0)) :=
    fun u hu => (hu.block w.heap.size (by simp)).trans (heap_alloc_new _ _)
  have hbox := fun u hu => box4 (hbk u hu)
  have hright := fun u => rright_any s u
  rw [hs] at hright
  have hlast := fun u (hu : Below w.heap.size w u) => rlast_any (h.vlt.below hu) (by omega)
  have hrise := fun u => rrises_any (last y.2) s u
  rw [hst] at hrise
  have hbytes := fun u => rbytes_any s hs u
  have hwrite := fun u (hu : Below w.heap.size w u) (q : Option Addr) (n k : Nat) (hn : (rec s).length = n) (hc : Cel u q (rec s)) (hq : q = none → rec s = [] ∧ k = 0) =>
    hn ▸ Disk.rwrite_any (h.ref.below hu) (fun g e => Nat.lt_of_lt_of_le (hx g e) hu.size) hh h0 hm q k (rec s) hc hq (by rw [len_rec]; omega)
  have hew : eWrite room y.1 (rec s) = 3 := by simp [eWrite, hov]
  have hdw : dWrite room y.1 (rec s) = y.1 := by simp [dWrite, hov]
  rw [hew, hdw] at hwrite
  have hmv : w.heap.size ≠ m := fun e => Nat.lt_irrefl _ (e ▸ h.ref.lt)
  have HV := Lib.hid h
  have hcell := fun u (hu : Below w.heap.size w u) => (h.vlt.below hu).cells
  have hptr : ∀ u, Below w.heap.size w u → u.cell? ⟨v, 0, none⟩ = some (.pointer (some ⟨m, 0, none⟩)) := fun u hu => by
    obtain ⟨_, _, h1, _⟩ := hcell u hu
    exact h1
  have HP := Lib.hid hptr
  have hr32 : (rec s).length = 32 := len_rec s
  have HR := Lib.hid hr32
  clear h hst hov hew hdw hx hh hcell hptr hr32
  generalize hla : last y.2 = a at hlast hrise
  generalize hrs : rec s = rb at *
  have HRS := Lib.hid hrs
  clear hla hrs
  obtain ⟨p, g, k, r⟩ := s
  obtain ⟨p', g', k', r'⟩ := a
  simp only [val] at *
  have BX := Lib.hid hbox
  have BK := Lib.hid hbk
  clear hbox hbk hs
  go_enter Try.func12, Try.ntmps12
  go_wp2_with (go_at_call 30; (with_reducible refine (hright _).mono ?_); rintro e w1 ⟨rfl, hb1⟩; have X1 := Lib.hid hb1; have HB := Lib.hid (hb.trans (hb1.mono hb.size)); clear hright hb1 hb)
  have X2 := Lib.hid X1.out.drew
  have g0 := BX.out _ X2.out
  have HB2 := Lib.hid HB.out.drew
  clear X1 HB
  go_region_held3 (fun u => u.cell? ⟨w.heap.size, 0, none⟩ = some (.int .i64 p) ∧ u.cell? ⟨w.heap.size, 1, none⟩ = some (.int .i64 g) ∧ u.cell? ⟨w.heap.size, 2, none⟩ = some (.int .i64 k) ∧ u.cell? ⟨w.heap.size, 3, none⟩ = some (.int .i64 r)) (first | assumption | exact g0) (first
    | (go_at_call 31; (with_reducible refine (hlast _ HB2.out).mono ?_); rintro e u1 ⟨rfl, hb1⟩; have X3 := Lib.hid (X2.out.trans (hb1.mono X2.out.size)); have g1 := BX.out _ X3.out; have HB3 := Lib.hid (HB2.out.trans (hb1.mono HB2.out.size)); clear hb1)
    | (go_at_call 20; (with_reducible refine (hrise _).mono ?_); rintro e u2 ⟨rfl, hb2⟩; have X4 := Lib.hid (X3.out.trans (hb2.mono X3.out.size)); have g2 := BX.out _ X4.out; have HB4 := Lib.hid (HB3.out.trans (hb2.mono HB3.out.size)); clear hb2))
  clear hlast hrise g0 g1 X2 X3 HB2 HB3
  go_wp2
  have X5 := Lib.hid X4.out.drew
  have g3 := BX.out _ X5.out
  have HB5 := Lib.hid HB4.out.drew
  have p3 := HP.out _ HB5.out
  clear g2 X4 HB4
  go_region_held3 (fun u => u.cell? ⟨v, 0, none⟩ = some (.pointer (some ⟨m, 0, none⟩)) ∧ u.cell? ⟨w.heap.size, 0, none⟩ = some (.int .i64 p) ∧ u.cell? ⟨w.heap.size, 1, none⟩ = some (.int .i64 g) ∧ u.cell? ⟨w.heap.size, 2, none⟩ = some (.int .i64 k) ∧ u.cell? ⟨w.heap.size, 3, none⟩ = some (.int .i64 r)) (first | assumption | exact ⟨p3, g3⟩ | exact ⟨p4, g4⟩ | exact ⟨p5, g5⟩) (first
    | (go_at_call 36; (with_reducible refine (hbytes _).mono ?_); rintro e u3 ⟨vb, rfl, ho3, hb3⟩; obtain ⟨qb, kb, rfl, -, -, hlb, hqb⟩ := own_lies ho3; rw [HR.out] ; have C3 := Lib.hid hlb.cel; have Q3 := Lib.hid hqb; have X6 := Lib.hid (X5.out.trans (hb3.mono X5.out.size)); have g4 := BX.out _ X6.out; have HB6 := Lib.hid (HB5.out.trans (hb3.mono HB5.out.size)); have p4 := HP.out _ HB6.out; clear hb3 ho3 hlb hqb hbytes)
    | (go_at_call 35; (with_reducible refine (hwrite _ HB6.out _ 32 _ HR.out C3.out (no_none HR.out Q3.out)).mono ?_); rintro e u4 ⟨rfl, hm4⟩; have b5 := (hm4.2.block w.heap.size (lt_of_heap (BK.out _ X6.out)) (by simpa using hmv)).trans (BK.out _ X6.out); have g5 : u4.cell? ⟨w.heap.size, 0, none⟩ = some (.int .i64 p) ∧ u4.cell? ⟨w.heap.size, 1, none⟩ = some (.int .i64 g) ∧ u4.cell? ⟨w.heap.size, 2, none⟩ = some (.int .i64 k) ∧ u4.cell? ⟨w.heap.size, 3, none⟩ = some (.int .i64 r) := box4 (s := ⟨p, g, k, r⟩) b5; have R5 := Lib.hid (Rleft.trans (Rleft.same HV.out hB HB6.out) ((HV.out.below HB6.out).step hm4)); have p5 : u4.cell? ⟨v, 0, none⟩ = some (.pointer (some ⟨m, 0, none⟩)) := ptr_of R5.out.1.vlt; clear hm4 b5))
  clear hwrite g3 g4 g5 p3 p4 p5 X5 X6 HB5 HB6 C3 Q3 HP BX BK HV HR
  go_wp2
  go_ret
  exact ⟨rfl, R5.out⟩

set_option maxRecDepth 100000 in
set_option maxHeartbeats 2000000 in
theorem rput_ok (h : Rv B w v m room y x) (hB : B ≤ w.heap.size) (hx : ∀ g, x = some g → g < w.heap.size) (hh : Holds room y.1) (h0 : 0 ≤ room) (hm : room ≤ 16777216) (hl : (y.2.length : Int) ≤ 100000) (hs : right s = true) (hst : rises (last y.2) s = true) (hov : over room y.1 (rec s) = false) :
    Calls Try.prog 12 #[.pointer (some ⟨v, 0, none⟩), val s] w fun e w' => e = .returned (.int .i64 0) ∧ Rleft B w v m room (dWrite room y.1 (rec s), y.2 ++ [s]) x w' := by
  have hb : Below w.heap.size w (w.alloc (.cells #[.int .i64 s.p, .int .i64 s.g, .int .i64 s.h, .int .i64 s.r] 47)) := (Below.refl _ _).alloc (Nat.le_refl _) _
  have hbk : ∀ u, Below (w.alloc (.cells #[.int .i64 s.p, .int .i64 s.g, .int .i64 s.h, .int .i64 s.r] 47)).heap.size (w.alloc (.cells #[.int .i64 s.p, .int .i64 s.g, .int .i64 s.h, .int .i64 s.r] 47)) u →
      u.heap[w.heap.size]? = some (.cells #[.int .i64 s.p, .int .i64 s.g, .int .i64 s.h, .int .i64 s.r] 47 (0, 0)) :=
    fun u hu => (hu.block w.heap.size (by simp)).trans (heap_alloc_new _ _)
  have hbox := fun u hu => box4 (hbk u hu)
  have hright := fun u => rright_any s u
  rw [hs] at hright
  have hlast := fun u (hu : Below w.heap.size w u) => rlast_any (h.vlt.below hu) (by omega)
  have hrise := fun u => rrises_any (last y.2) s u
  rw [hst] at hrise
  have hbytes := fun u => rbytes_any s hs u
  have hwrite := fun u (hu : Below w.heap.size w u) (q : Option Addr) (n k : Nat) (hn : (rec s).length = n) (hc : Cel u q (rec s)) (hq : q = none → rec s = [] ∧ k = 0) =>
    hn ▸ Disk.rwrite_any (h.ref.below hu) (fun g e => Nat.lt_of_lt_of_le (hx g e) hu.size) hh h0 hm q k (rec s) hc hq (by rw [len_rec]; omega)
  have hew : eWrite room y.1 (rec s) = 0 := by simp [eWrite, hov]
  rw [hew] at hwrite
  have hmv : w.heap.size ≠ m := fun e => Nat.lt_irrefl _ (e ▸ h.ref.lt)
  have HV := Lib.hid h
  have hcell := fun u (hu : Below w.heap.size w u) => (h.vlt.below hu).cells
  have hptr : ∀ u, Below w.heap.size w u → u.cell? ⟨v, 0, none⟩ = some (.pointer (some ⟨m, 0, none⟩)) := fun u hu => by
    obtain ⟨_, _, h1, _⟩ := hcell u hu
    exact h1
  have HP := Lib.hid hptr
  have hr32 : (rec s).length = 32 := len_rec s
  have HR := Lib.hid hr32
  clear h hst hov hew hx hh hcell hptr hr32
  generalize hla : last y.2 = a at hlast hrise
  generalize hrs : rec s = rb at *
  have HRS := Lib.hid hrs
  clear hla hrs
  obtain ⟨p, g, k, r⟩ := s
  obtain ⟨p', g', k', r'⟩ := a
  simp only [val] at *
  have BX := Lib.hid hbox
  have BK := Lib.hid hbk
  clear hbox hbk hs
  go_enter Try.func12, Try.ntmps12
  go_wp2_with (go_at_call 30; (with_reducible refine (hright _).mono ?_); rintro e w1 ⟨rfl, hb1⟩; have X1 := Lib.hid hb1; have HB := Lib.hid (hb.trans (hb1.mono hb.size)); clear hright hb1 hb)
  have X2 := Lib.hid X1.out.drew
  have g0 := BX.out _ X2.out
  have HB2 := Lib.hid HB.out.drew
  clear X1 HB
  go_region_held3 (fun u => u.cell? ⟨w.heap.size, 0, none⟩ = some (.int .i64 p) ∧ u.cell? ⟨w.heap.size, 1, none⟩ = some (.int .i64 g) ∧ u.cell? ⟨w.heap.size, 2, none⟩ = some (.int .i64 k) ∧ u.cell? ⟨w.heap.size, 3, none⟩ = some (.int .i64 r)) (first | assumption | exact g0) (first
    | (go_at_call 31; (with_reducible refine (hlast _ HB2.out).mono ?_); rintro e u1 ⟨rfl, hb1⟩; have X3 := Lib.hid (X2.out.trans (hb1.mono X2.out.size)); have g1 := BX.out _ X3.out; have HB3 := Lib.hid (HB2.out.trans (hb1.mono HB2.out.size)); clear hb1)
    | (go_at_call 20; (with_reducible refine (hrise _).mono ?_); rintro e u2 ⟨rfl, hb2⟩; have X4 := Lib.hid (X3.out.trans (hb2.mono X3.out.size)); have g2 := BX.out _ X4.out; have HB4 := Lib.hid (HB3.out.trans (hb2.mono HB3.out.size)); clear hb2))
  clear hlast hrise g0 g1 X2 X3 HB2 HB3
  go_wp2
  have X5 := Lib.hid X4.out.drew
  have g3 := BX.out _ X5.out
  have HB5 := Lib.hid HB4.out.drew
  have p3 := HP.out _ HB5.out
  clear g2 X4 HB4
  go_region_held3 (fun u => u.cell? ⟨v, 0, none⟩ = some (.pointer (some ⟨m, 0, none⟩)) ∧ u.cell? ⟨w.heap.size, 0, none⟩ = some (.int .i64 p) ∧ u.cell? ⟨w.heap.size, 1, none⟩ = some (.int .i64 g) ∧ u.cell? ⟨w.heap.size, 2, none⟩ = some (.int .i64 k) ∧ u.cell? ⟨w.heap.size, 3, none⟩ = some (.int .i64 r)) (first | assumption | exact ⟨p3, g3⟩ | exact ⟨p4, g4⟩ | exact ⟨p5, g5⟩) (first
    | (go_at_call 36; (with_reducible refine (hbytes _).mono ?_); rintro e u3 ⟨vb, rfl, ho3, hb3⟩; obtain ⟨qb, kb, rfl, -, -, hlb, hqb⟩ := own_lies ho3; rw [HR.out] ; have C3 := Lib.hid hlb.cel; have Q3 := Lib.hid hqb; have X6 := Lib.hid (X5.out.trans (hb3.mono X5.out.size)); have g4 := BX.out _ X6.out; have HB6 := Lib.hid (HB5.out.trans (hb3.mono HB5.out.size)); have p4 := HP.out _ HB6.out; clear hb3 ho3 hlb hqb hbytes)
    | (go_at_call 35; (with_reducible refine (hwrite _ HB6.out _ 32 _ HR.out C3.out (no_none HR.out Q3.out)).mono ?_); rintro e u4 ⟨rfl, hm4⟩; have b5 := (hm4.2.block w.heap.size (lt_of_heap (BK.out _ X6.out)) (by simpa using hmv)).trans (BK.out _ X6.out); have g5 : u4.cell? ⟨w.heap.size, 0, none⟩ = some (.int .i64 p) ∧ u4.cell? ⟨w.heap.size, 1, none⟩ = some (.int .i64 g) ∧ u4.cell? ⟨w.heap.size, 2, none⟩ = some (.int .i64 k) ∧ u4.cell? ⟨w.heap.size, 3, none⟩ = some (.int .i64 r) := box4 (s := ⟨p, g, k, r⟩) b5; have R5 := Lib.hid (Rleft.trans (Rleft.same HV.out hB HB6.out) ((HV.out.below HB6.out).step hm4)); have p5 : u4.cell? ⟨v, 0, none⟩ = some (.pointer (some ⟨m, 0, none⟩)) := ptr_of R5.out.1.vlt; clear hm4 b5))
  clear hwrite g3 g4 p3 p4 X5 X6 HB5 HB6 C3 Q3 HP BX BK HV HR
  obtain ⟨pl, cl, -, c1, -, hown, -, hlc, hcm⟩ := R5.out.1.vlt.cells
  obtain ⟨i0, hi, hz0, hz1, hz2⟩ := info_parts infoS
  have HO := Lib.hid hown
  have hBu := Nat.le_trans hB R5.out.below.size
  clear hown
  simp only at c1 HO
  generalize hyl : y.2.length = n at *
  have HYL := Lib.hid hyl
  clear hyl
  obtain ⟨g50, g51, g52, g53⟩ := g5
  have hv5 : v < u4.heap.size := R5.out.1.vlt.lt
  go_wp2
  go_region_law (refine step_append_lies _ rfl (.tmp 31) (.tmp 33) 50 rfl B 47 i0 (.agg #[.int .i64 0, .int .i64 0, .int .i64 0, .int .i64 0]) 4 32 Try.underlying50 hi hz0 hz1 hz2 rfl (by decide) (.slice pl n cl) n (cellsS y.2) rfl (own_below HO.out ((Below.refl _ _).alloc (Nat.le_refl _) _).drew) ⟨u4.heap.size, 0, none⟩ 1 1 [.int .i64 p, .int .i64 g, .int .i64 k, .int .i64 r] rfl rfl (World.news_of_block (heap_alloc_new _ _)) (by intro u hu; simp at hu; rcases hu with rfl | rfl | rfl | rfl <;> rfl) (by decide) (by unfold maxLen; omega) (by omega) (by simp; omega) _ rfl ?_; intro ga cap w7 ho hg _ _; obtain ⟨f7, ⟨u7, c7⟩, D⟩ := R5.out.1.vlt.push (ts := [47, 52]) (a := ⟨p, g, k, r⟩) (by decide) hBu c1 ((Below.refl _ _).alloc (Nat.le_refl _) _).drew hg HYL.out.symm rfl ho (by decide) (by decide); clear ho hg)
  all_goals
    go_wp2
    go_ret
    obtain ⟨hv, hk, hb⟩ := D.out
    exact ⟨rfl, ⟨hv, ref_kept R5.out.1.ref (by decide) (by decide) hk⟩, R5.out.kept.trans (hk.mono (by decide)), R5.out.below.trans hb⟩

/-- Put, of any state. -/
theorem rput_any (h : Rv B w v m room y x) (hB : B ≤ w.heap.size) (hx : ∀ g, x = some g → g < w.heap.size) (hh : Holds room y.1) (h0 : 0 ≤ room) (hm : room ≤ 16777216) (hl : (y.2.length : Int) ≤ 100000) (s : Sv) :
    Calls Try.prog 12 #[.pointer (some ⟨v, 0, none⟩), val s] w fun e w' => e = .returned (.int .i64 (ePut room y s)) ∧ Rleft B w v m room (vPut room y s) x w' := by
  cases hs : right s with
  | false =>
    have e1 : ePut room y s = 1 := by simp [ePut, hs]
    have e2 : vPut room y s = y := by simp [vPut, hs]
    rw [e1, e2]
    exact rput_wrong h hB hs
  | true =>
    cases hst : rises (last y.2) s with
    | false =>
      have e1 : ePut room y s = 7 := by simp [ePut, hs, hst]
      have e2 : vPut room y s = y := by simp [vPut, hst]
      rw [e1, e2]
      exact rput_stale h hB hl hs hst
    | true =>
      cases hov : over room y.1 (rec s) with
      | true =>
        have e1 : ePut room y s = 3 := by simp [ePut, hs, hst, eWrite, hov]
        have e2 : vPut room y s = y := by simp [vPut, hov]
        rw [e1, e2]
        exact rput_full h hB hx hh h0 hm hl hs hst hov
      | false =>
        have e1 : ePut room y s = 0 := by simp [ePut, hs, hst, eWrite, hov]
        have e2 : vPut room y s = (dWrite room y.1 (rec s), y.2 ++ [s]) := by simp [vPut, hs, hst, hov]
        rw [e1, e2]
        exact rput_ok h hB hx hh h0 hm hl hs hst hov
end
end Go.Proofs.Ytlbdkigiphnabaa.Vault
