/-
  The document's relay: Ack, Drop. Of any frames whose lists lie.
-/
import Derived.Test.YtkdjhphakopfeaaRelayRef
namespace Go.Proofs.Ytkdjhphakopfeaa.Relay
open Go.RowKit
open _root_.Go.Proofs.Ytkdjhphakopfeaa.Codec (lt_of_heap frozen_of heap_set below_new Ints)
open _root_.Go.Proofs.Ytkdjhphakopfeaa.Frame (Fr Tk Tb Rw frameOk Lying frameVal right_any)
open _root_.Go.Proofs.Ytkdjhphakopfeaa.Kit (Kept Off cell_on)

section
variable {F : Nat → Prop} {w w' : World} {B v : Nat} {r r' : Rl}
set_option maxRecDepth 100000 in
set_option maxHeartbeats 8000000 in
theorem rdrop_any (h : Rd F B w v r) (hB : B ≤ w.heap.size) (a b : Int) :
    Calls Try.prog 18 #[.pointer (some ⟨v, 0, none⟩), .agg #[.int .i64 a, .int .i64 b]] w fun e w' => e = .returned (.bool (drops r a b)) ∧ RStep F B w v (drop r a b) w' := by
  have HS := Lib.hid (fun u (hu : Below w.heap.size w u) => RStep.same h hB hu)
  have HE := Lib.hid (fun u (hu : Below w.heap.size w u) => (h.below hu).empty)
  have HC := Lib.hid (fun u (hu : Below w.heap.size w u) => (h.below hu).cell)
  have HF := Lib.hid (fun u (hu : Below w.heap.size w u) (f : Fr) (e : r.held = some f) => (h.below hu).first e)
  have HB := Lib.hid (lay w (.cells #[.int .i64 a, .int .i64 b] 64))
  have HB2 := Lib.hid (fun o => HB.out.trans ((lay (w.alloc (.cells #[.int .i64 a, .int .i64 b] 64)) o).mono HB.out.size))
  obtain ⟨hd, n⟩ := r
  cases hd with
  | none =>
    simp only [drop, drops, isHeld, Option.isSome_none, Bool.false_eq_true, reduceIte] at *
    obtain ⟨p1, d1, l1, -, l3, -⟩ := HC.out _ HB.out
    go_enter Try.func18, Try.ntmps18
    go_wp2
    go_ret
    exact ⟨rfl, HS.out _ HB.out⟩
  | some f =>
    have hcase : (newer (a, b) (f.token.gen, f.token.hop) = true ∧ drops ⟨some f, n⟩ a b = true ∧ drop ⟨some f, n⟩ a b = ⟨none, n⟩) ∨ (newer (a, b) (f.token.gen, f.token.hop) = false ∧ drops ⟨some f, n⟩ a b = false ∧ drop ⟨some f, n⟩ a b = ⟨some f, n⟩) := by
      cases hN : newer (a, b) (f.token.gen, f.token.hop)
      · exact .inr ⟨rfl, hN, by simp [drop, drops, hN]⟩
      · exact .inl ⟨rfl, hN, by simp [drop, drops, hN]⟩
    generalize drops ⟨some f, n⟩ a b = D at *
    generalize drop ⟨some f, n⟩ a b = X at *
    obtain ⟨kd, sr, ds, ge, ho, bi, tg, th, st, tb⟩ := f
    have hc := fun u => rnewer_any a b tg th u
    simp only [isHeld, Option.isSome_some, reduceIte] at *
    obtain ⟨g, ps, p, cs, c, l1, hb0, h0⟩ := HF.out _ HB.out _ rfl
    obtain ⟨y0, y1, y2, y3, y4, y5, y6, y7, y8, y9, y10⟩ := box11 h0
    simp only at y0 y1 y2 y3 y4 y5 y6 y7 y8 y9 y10
    obtain ⟨p9, d9, m1, -, m3, -⟩ := HC.out _ HB.out
    clear HF m1 h
    rcases hcase with ⟨hw, rfl, rfl⟩ | ⟨hw, rfl, rfl⟩
    all_goals
      rw [hw] at hc
      clear hw
      go_enter Try.func18, Try.ntmps18
      go_wp2_with (go_at_call 31; (with_reducible refine (hc _).mono ?_); rintro e u1 ⟨rfl, hb⟩; have B1 := Lib.hid ((HB2.out _).trans (hb.mono (HB2.out _).size)); obtain ⟨p8, d8, n1, -, n3, -⟩ := HC.out _ B1.out; clear hb hc)
      go_ret
    · exact ⟨rfl, (HS.out _ B1.out).trans (HE.out _ B1.out none 0)⟩
    · exact ⟨rfl, HS.out _ B1.out⟩
/-- The four tests. -/
theorem tests (x f : Fr) : (f.src ≠ x.dst ∧ answers x f = false) ∨ (x.dst = f.src ∧ f.dst ≠ x.src ∧ answers x f = false) ∨ (x.dst = f.src ∧ x.src = f.dst ∧ f.gen ≠ x.token.gen ∧ answers x f = false) ∨ (x.dst = f.src ∧ x.src = f.dst ∧ x.token.gen = f.gen ∧ f.hop ≠ x.token.hop ∧ answers x f = false) ∨
    (x.dst = f.src ∧ x.src = f.dst ∧ x.token.gen = f.gen ∧ x.token.hop = f.hop ∧ answers x f = true) := by
  have e1 : (f.src == x.dst) = (x.dst == f.src) := BEq.comm
  have e2 : (f.dst == x.src) = (x.src == f.dst) := BEq.comm
  have e3 : (f.gen == x.token.gen) = (x.token.gen == f.gen) := BEq.comm
  have e4 : (f.hop == x.token.hop) = (x.token.hop == f.hop) := BEq.comm
  have n1 : f.src ≠ x.dst ↔ ¬ x.dst = f.src := ⟨fun h e => h e.symm, fun h e => h e.symm⟩
  have n2 : f.dst ≠ x.src ↔ ¬ x.src = f.dst := ⟨fun h e => h e.symm, fun h e => h e.symm⟩
  have n3 : f.gen ≠ x.token.gen ↔ ¬ x.token.gen = f.gen := ⟨fun h e => h e.symm, fun h e => h e.symm⟩
  have n4 : f.hop ≠ x.token.hop ↔ ¬ x.token.hop = f.hop := ⟨fun h e => h e.symm, fun h e => h e.symm⟩
  rw [n1, n2, n3, n4]
  simp only [answers, e1, e2, e3, e4]
  by_cases h1 : x.dst = f.src <;> by_cases h2 : x.src = f.dst <;> by_cases h3 : x.token.gen = f.gen <;> by_cases h4 : x.token.hop = f.hop <;> simp [h1, h2, h3, h4]
set_option maxRecDepth 100000 in
set_option maxHeartbeats 8000000 in
theorem rack_any (h : Rd F B w v r) (hB : B ≤ w.heap.size) (f : Fr) (ps p : Option Addr) (cs c : Nat) (hl : Lying w f ps p) :
    Calls Try.prog 17 #[.pointer (some ⟨v, 0, none⟩), frameVal f ps p cs c] w fun e w' => e = .returned (.bool (acks r f)) ∧ RStep F B w v (ack r f) w' := by
  have HB0 := Lib.hid (lay w (.cells (cells11 f ps p cs c) 41))
  have HK := Lib.hid (heap_alloc_new w (.cells (cells11 f ps p cs c) 41))
  have HR := Lib.hid (fun u (hu : Below w.heap.size w u) => right_any f ps p cs c u (lyF_of hl u ⟨hu.size, fun g _ hg => hu.block g hg⟩))
  have HS := Lib.hid (fun u (hu : Below w.heap.size w u) => RStep.same h hB hu)
  have HE := Lib.hid (fun u (hu : Below w.heap.size w u) => (h.below hu).empty)
  have HX := Lib.hid (fun (u : World) (hu : u.heap[w.heap.size]? = some (.cells (cells11 f ps p cs c) 41 (0, 0))) => box11 hu)
  have HC := Lib.hid (fun u (hu : Below w.heap.size w u) => (h.below hu).cell)
  have HF := Lib.hid (fun u (hu : Below w.heap.size w u) (f : Fr) (e : r.held = some f) => (h.below hu).first e)
  have hcase : (frameOk f = false ∧ acks r f = false ∧ ack r f = r) ∨ (frameOk f = true ∧ f.kind ≠ 1 ∧ acks r f = false ∧ ack r f = r) ∨ (frameOk f = true ∧ f.kind = 1 ∧ r.held = none ∧ acks r f = false ∧ ack r f = r) ∨
      (∃ x, frameOk f = true ∧ f.kind = 1 ∧ r.held = some x ∧ acks r f = answers x f ∧ ack r f = if answers x f = true then ⟨none, r.sent⟩ else r) := by
    unfold ack acks
    cases h1 : frameOk f
    · exact .inl ⟨rfl, by simp, by simp⟩
    · by_cases h2 : f.kind = 1
      · cases h3 : r.held with
        | none => exact .inr (.inr (.inl ⟨rfl, h2, rfl, by simp, by simp⟩))
        | some x => exact .inr (.inr (.inr ⟨x, rfl, h2, rfl, by simp [h2], by simp [h2]⟩))
      · exact .inr (.inl ⟨rfl, h2, by simp [h2], by simp [h2]⟩)
  generalize acks r f = D at *
  generalize ack r f = X at *
  generalize frameOk f = ok at *
  simp only [frameVal, cells11] at *
  clear h hl hB
  rcases hcase with ⟨rfl, rfl, rfl⟩ | ⟨rfl, h2, rfl, rfl⟩ | ⟨rfl, h2, h3, rfl, rfl⟩ | ⟨x, rfl, h2, h3, rfl, rfl⟩
  · go_enter Try.func17, Try.ntmps17
    go_wp2_with (go_at_call 30; (with_reducible refine (HR.out _ HB0.out).mono ?_); rintro e u1 ⟨rfl, hb⟩; have k1 := (HX.out _ ((hb.block _ (lt_of_heap HK.out)).trans HK.out)).1; have B1 := Lib.hid (HB0.out.trans (hb.mono HB0.out.size)); clear hb HR)
    go_ret
    exact ⟨rfl, HS.out _ B1.out⟩
  · have g2 : (f.kind != 1) = true := by simp [h2]
    go_enter Try.func17, Try.ntmps17
    go_wp2_with (go_at_call 30; (with_reducible refine (HR.out _ HB0.out).mono ?_); rintro e u1 ⟨rfl, hb⟩; have k1 := (HX.out _ ((hb.block _ (lt_of_heap HK.out)).trans HK.out)).1; have B1 := Lib.hid (HB0.out.trans (hb.mono HB0.out.size)); clear hb HR)
    go_ret
    exact ⟨rfl, HS.out _ B1.out⟩
  · obtain ⟨kd, sr, ds, ge, ho, bi, tk⟩ := f
    obtain rfl : kd = 1 := h2
    simp only [isHeld, h3, Option.isSome_none, Bool.false_eq_true, reduceIte] at *
    go_enter Try.func17, Try.ntmps17
    go_wp2_with (go_at_call 30; (with_reducible refine (HR.out _ HB0.out).mono ?_); rintro e u1 ⟨rfl, hb⟩; have k1 := (HX.out _ ((hb.block _ (lt_of_heap HK.out)).trans HK.out)).1; have B1 := Lib.hid (HB0.out.trans (hb.mono HB0.out.size)); obtain ⟨p1, d1, l1, -, l3, -⟩ := HC.out _ B1.out; clear hb HR)
    go_ret
    exact ⟨rfl, HS.out _ B1.out⟩
  · obtain ⟨kd, sr, ds, ge, ho, bi, tk⟩ := f
    obtain rfl : kd = 1 := h2
    have ht := tests x ⟨1, sr, ds, ge, ho, bi, tk⟩
    obtain ⟨xk, xs, xd, xg, xh, xb, tg, th, xst, xtb⟩ := x
    generalize answers _ _ = A at *
    simp only at *
    have ge0 : ∀ z : Int, (z != z) = false := fun z => by simp
    rcases ht with ⟨t1, rfl⟩ | ⟨rfl, t2, rfl⟩ | ⟨rfl, rfl, t3, rfl⟩ | ⟨rfl, rfl, rfl, t4, rfl⟩ | ⟨rfl, rfl, rfl, rfl, rfl⟩
    · have g1 : (sr != xd) = true := by simp [t1]
      go_enter Try.func17, Try.ntmps17
      go_wp2_with (go_at_call 30; (with_reducible refine (HR.out _ HB0.out).mono ?_); rintro e u1 ⟨rfl, hb⟩; have k1 := HX.out _ ((hb.block _ (lt_of_heap HK.out)).trans HK.out); have B1 := Lib.hid (HB0.out.trans (hb.mono HB0.out.size)); obtain ⟨g, qs, q, qds, qd, l1, -, h0⟩ := HF.out _ B1.out _ h3; obtain ⟨y0, y1, y2, y3, y4, y5, y6, y7, y8, y9, y10⟩ := box11 h0; obtain ⟨j0, j1, j2, j3, j4, -⟩ := k1; have z1 := Nat.lt_of_lt_of_le (lt_of_heap HK.out) hb.size; have B2 := Lib.hid (B1.out.alloc B1.out.size (.cells #[.int .i64 xk, .int .i64 xs, .int .i64 xd, .int .i64 xg, .int .i64 xh, .int .u64 xb, .int .i64 tg, .int .i64 th, .slice qs xst.length qds, .int .i64 xtb.start, .slice q xtb.rows.length qd] 41)); obtain ⟨p8, d8, n1, -, n3, -⟩ := HC.out _ B2.out; clear hb HR)
      go_ret
      exact ⟨rfl, HS.out _ B2.out⟩
    · have g2 : (ds != xs) = true := by simp [t2]
      go_enter Try.func17, Try.ntmps17
      go_wp2_with (go_at_call 30; (with_reducible refine (HR.out _ HB0.out).mono ?_); rintro e u1 ⟨rfl, hb⟩; have k1 := HX.out _ ((hb.block _ (lt_of_heap HK.out)).trans HK.out); have B1 := Lib.hid (HB0.out.trans (hb.mono HB0.out.size)); obtain ⟨g, qs, q, qds, qd, l1, -, h0⟩ := HF.out _ B1.out _ h3; obtain ⟨y0, y1, y2, y3, y4, y5, y6, y7, y8, y9, y10⟩ := box11 h0; obtain ⟨j0, j1, j2, j3, j4, -⟩ := k1; have z1 := Nat.lt_of_lt_of_le (lt_of_heap HK.out) hb.size; have B2 := Lib.hid (B1.out.alloc B1.out.size (.cells #[.int .i64 xk, .int .i64 xs, .int .i64 xd, .int .i64 xg, .int .i64 xh, .int .u64 xb, .int .i64 tg, .int .i64 th, .slice qs xst.length qds, .int .i64 xtb.start, .slice q xtb.rows.length qd] 41)); obtain ⟨p8, d8, n1, -, n3, -⟩ := HC.out _ B2.out; clear hb HR)
      go_ret
      exact ⟨rfl, HS.out _ B2.out⟩
    · have g3 : (ge != tg) = true := by simp [t3]
      go_enter Try.func17, Try.ntmps17
      go_wp2_with (go_at_call 30; (with_reducible refine (HR.out _ HB0.out).mono ?_); rintro e u1 ⟨rfl, hb⟩; have k1 := HX.out _ ((hb.block _ (lt_of_heap HK.out)).trans HK.out); have B1 := Lib.hid (HB0.out.trans (hb.mono HB0.out.size)); obtain ⟨g, qs, q, qds, qd, l1, -, h0⟩ := HF.out _ B1.out _ h3; obtain ⟨y0, y1, y2, y3, y4, y5, y6, y7, y8, y9, y10⟩ := box11 h0; obtain ⟨j0, j1, j2, j3, j4, -⟩ := k1; have z1 := Nat.lt_of_lt_of_le (lt_of_heap HK.out) hb.size; have B2 := Lib.hid (B1.out.alloc B1.out.size (.cells #[.int .i64 xk, .int .i64 xs, .int .i64 xd, .int .i64 xg, .int .i64 xh, .int .u64 xb, .int .i64 tg, .int .i64 th, .slice qs xst.length qds, .int .i64 xtb.start, .slice q xtb.rows.length qd] 41)); obtain ⟨p8, d8, n1, -, n3, -⟩ := HC.out _ B2.out; clear hb HR)
      go_ret
      exact ⟨rfl, HS.out _ B2.out⟩
    · have g4 : (ho != th) = true := by simp [t4]
      go_enter Try.func17, Try.ntmps17
      go_wp2_with (go_at_call 30; (with_reducible refine (HR.out _ HB0.out).mono ?_); rintro e u1 ⟨rfl, hb⟩; have k1 := HX.out _ ((hb.block _ (lt_of_heap HK.out)).trans HK.out); have B1 := Lib.hid (HB0.out.trans (hb.mono HB0.out.size)); obtain ⟨g, qs, q, qds, qd, l1, -, h0⟩ := HF.out _ B1.out _ h3; obtain ⟨y0, y1, y2, y3, y4, y5, y6, y7, y8, y9, y10⟩ := box11 h0; obtain ⟨j0, j1, j2, j3, j4, -⟩ := k1; have z1 := Nat.lt_of_lt_of_le (lt_of_heap HK.out) hb.size; have B2 := Lib.hid (B1.out.alloc B1.out.size (.cells #[.int .i64 xk, .int .i64 xs, .int .i64 xd, .int .i64 xg, .int .i64 xh, .int .u64 xb, .int .i64 tg, .int .i64 th, .slice qs xst.length qds, .int .i64 xtb.start, .slice q xtb.rows.length qd] 41)); obtain ⟨p8, d8, n1, -, n3, -⟩ := HC.out _ B2.out; clear hb HR)
      go_ret
      exact ⟨rfl, HS.out _ B2.out⟩
    · go_enter Try.func17, Try.ntmps17
      go_wp2_with (go_at_call 30; (with_reducible refine (HR.out _ HB0.out).mono ?_); rintro e u1 ⟨rfl, hb⟩; have k1 := HX.out _ ((hb.block _ (lt_of_heap HK.out)).trans HK.out); have B1 := Lib.hid (HB0.out.trans (hb.mono HB0.out.size)); obtain ⟨g, qs, q, qds, qd, l1, -, h0⟩ := HF.out _ B1.out _ h3; obtain ⟨y0, y1, y2, y3, y4, y5, y6, y7, y8, y9, y10⟩ := box11 h0; obtain ⟨j0, j1, j2, j3, j4, -⟩ := k1; have z1 := Nat.lt_of_lt_of_le (lt_of_heap HK.out) hb.size; have B2 := Lib.hid (B1.out.alloc B1.out.size (.cells #[.int .i64 xk, .int .i64 xs, .int .i64 xd, .int .i64 xg, .int .i64 xh, .int .u64 xb, .int .i64 tg, .int .i64 th, .slice qs xst.length qds, .int .i64 xtb.start, .slice q xtb.rows.length qd] 41)); obtain ⟨p8, d8, n1, -, n3, -⟩ := HC.out _ B2.out; clear hb HR)
      go_ret
      exact ⟨rfl, (HS.out _ B2.out).trans (HE.out _ B2.out none 0)⟩
end
end Go.Proofs.Ytkdjhphakopfeaa.Relay
