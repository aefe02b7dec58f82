/-
  The document's relay: Hold, Held, Ack, Drop; its newer place. Of any frames whose lists lie.
-/
import Derived.Test.YtkdjhphakopfeaaRelayWords
import Derived.Deep.RegionHeld3
namespace Go.Proofs.Ytkdjhphakopfeaa.Relay
open Go.RowKit
open _root_.Go.Proofs.Ytkdjhphakopfeaa.Codec (lt_of_heap frozen_of heap_set below_new Ints)
open _root_.Go.Proofs.Ytkdjhphakopfeaa.Frame (Fr Tk Tb Rw frameOk Lying frameVal right_any)
open _root_.Go.Proofs.Ytkdjhphakopfeaa.Kit (Kept Off cell_on)

theorem lay (w : World) (o : Obj) : Below w.heap.size w (w.alloc o) := (Below.refl _ w).alloc (Nat.le_refl _) o
/-- The eleven cells of a box. -/
theorem box11 {w : World} {g : Nat} {f : Fr} {ps p : Option Addr} {cs c : Nat} {T : TypeId} (h : w.heap[g]? = some (.cells (cells11 f ps p cs c) T (0, 0))) :
    w.cell? ⟨g, 0, none⟩ = some (.int .i64 f.kind) ∧ w.cell? ⟨g, 1, none⟩ = some (.int .i64 f.src) ∧ w.cell? ⟨g, 2, none⟩ = some (.int .i64 f.dst) ∧ w.cell? ⟨g, 3, none⟩ = some (.int .i64 f.gen) ∧ w.cell? ⟨g, 4, none⟩ = some (.int .i64 f.hop) ∧ w.cell? ⟨g, 5, none⟩ = some (.int .u64 f.bits) ∧
      w.cell? ⟨g, 6, none⟩ = some (.int .i64 f.token.gen) ∧ w.cell? ⟨g, 7, none⟩ = some (.int .i64 f.token.hop) ∧ w.cell? ⟨g, 8, none⟩ = some (.slice ps f.token.stamps.length cs) ∧ w.cell? ⟨g, 9, none⟩ = some (.int .i64 f.token.table.start) ∧ w.cell? ⟨g, 10, none⟩ = some (.slice p f.token.table.rows.length c) := by
  have hc : ∀ i v, (cells11 f ps p cs c)[i]? = some v → w.cell? ⟨g, i, none⟩ = some v := fun i v hv => by rw [cell_of_row w g i _ _ (0, 0) h, hv]
  exact ⟨hc 0 _ rfl, hc 1 _ rfl, hc 2 _ rfl, hc 3 _ rfl, hc 4 _ rfl, hc 5 _ rfl, hc 6 _ rfl, hc 7 _ rfl, hc 8 _ rfl, hc 9 _ rfl, hc 10 _ rfl⟩
/-- A box of eleven cells, written anew. -/
def set11 (w : World) (b : Nat) (f : Fr) (ps p : Option Addr) (cs c : Nat) : World := ((((((((((w.setCell ⟨b, 0, none⟩ (.int .i64 f.kind)).setCell ⟨b, 1, none⟩ (.int .i64 f.src)).setCell ⟨b, 2, none⟩ (.int .i64 f.dst)).setCell ⟨b, 3, none⟩ (.int .i64 f.gen)).setCell ⟨b, 4, none⟩ (.int .i64 f.hop)).setCell ⟨b, 5, none⟩ (.int .u64 f.bits)).setCell ⟨b, 6, none⟩ (.int .i64 f.token.gen)).setCell ⟨b, 7, none⟩ (.int .i64 f.token.hop)).setCell ⟨b, 8, none⟩ (.slice ps f.token.stamps.length cs)).setCell ⟨b, 9, none⟩ (.int .i64 f.token.table.start)).setCell ⟨b, 10, none⟩ (.slice p f.token.table.rows.length c)
set_option maxRecDepth 100000 in
theorem set11_block {w : World} {b : Nat} {c0 c1 c2 c3 c4 c5 c6 c7 c8 c9 c10 : Value} {T : TypeId} (h : w.heap[b]? = some (.cells #[c0, c1, c2, c3, c4, c5, c6, c7, c8, c9, c10] T (0, 0))) (f : Fr) (ps p : Option Addr) (cs c : Nat) : (set11 w b f ps p cs c).heap[b]? = some (.cells (cells11 f ps p cs c) T (0, 0)) := by
  unfold set11
  have k0 : (w.setCell ⟨b, 0, none⟩ (.int .i64 f.kind)).heap[b]? = some (.cells #[.int .i64 f.kind, c1, c2, c3, c4, c5, c6, c7, c8, c9, c10] T (0, 0)) := heap_set b 0 _ _ h
  generalize w.setCell ⟨b, 0, none⟩ (.int .i64 f.kind) = w0 at *
  have k1 : (w0.setCell ⟨b, 1, none⟩ (.int .i64 f.src)).heap[b]? = some (.cells #[.int .i64 f.kind, .int .i64 f.src, c2, c3, c4, c5, c6, c7, c8, c9, c10] T (0, 0)) := heap_set b 1 _ _ k0
  generalize w0.setCell ⟨b, 1, none⟩ (.int .i64 f.src) = w1 at *
  have k2 : (w1.setCell ⟨b, 2, none⟩ (.int .i64 f.dst)).heap[b]? = some (.cells #[.int .i64 f.kind, .int .i64 f.src, .int .i64 f.dst, c3, c4, c5, c6, c7, c8, c9, c10] T (0, 0)) := heap_set b 2 _ _ k1
  generalize w1.setCell ⟨b, 2, none⟩ (.int .i64 f.dst) = w2 at *
  have k3 : (w2.setCell ⟨b, 3, none⟩ (.int .i64 f.gen)).heap[b]? = some (.cells #[.int .i64 f.kind, .int .i64 f.src, .int .i64 f.dst, .int .i64 f.gen, c4, c5, c6, c7, c8, c9, c10] T (0, 0)) := heap_set b 3 _ _ k2
  generalize w2.setCell ⟨b, 3, none⟩ (.int .i64 f.gen) = w3 at *
  have k4 : (w3.setCell ⟨b, 4, none⟩ (.int .i64 f.hop)).heap[b]? = some (.cells #[.int .i64 f.kind, .int .i64 f.src, .int .i64 f.dst, .int .i64 f.gen, .int .i64 f.hop, c5, c6, c7, c8, c9, c10] T (0, 0)) := heap_set b 4 _ _ k3
  generalize w3.setCell ⟨b, 4, none⟩ (.int .i64 f.hop) = w4 at *
  have k5 : (w4.setCell ⟨b, 5, none⟩ (.int .u64 f.bits)).heap[b]? = some (.cells #[.int .i64 f.kind, .int .i64 f.src, .int .i64 f.dst, .int .i64 f.gen, .int .i64 f.hop, .int .u64 f.bits, c6, c7, c8, c9, c10] T (0, 0)) := heap_set b 5 _ _ k4
  generalize w4.setCell ⟨b, 5, none⟩ (.int .u64 f.bits) = w5 at *
  have k6 : (w5.setCell ⟨b, 6, none⟩ (.int .i64 f.token.gen)).heap[b]? = some (.cells #[.int .i64 f.kind, .int .i64 f.src, .int .i64 f.dst, .int .i64 f.gen, .int .i64 f.hop, .int .u64 f.bits, .int .i64 f.token.gen, c7, c8, c9, c10] T (0, 0)) := heap_set b 6 _ _ k5
  generalize w5.setCell ⟨b, 6, none⟩ (.int .i64 f.token.gen) = w6 at *
  have k7 : (w6.setCell ⟨b, 7, none⟩ (.int .i64 f.token.hop)).heap[b]? = some (.cells #[.int .i64 f.kind, .int .i64 f.src, .int .i64 f.dst, .int .i64 f.gen, .int .i64 f.hop, .int .u64 f.bits, .int .i64 f.token.gen, .int .i64 f.token.hop, c8, c9, c10] T (0, 0)) := heap_set b 7 _ _ k6
  generalize w6.setCell ⟨b, 7, none⟩ (.int .i64 f.token.hop) = w7 at *
  have k8 : (w7.setCell ⟨b, 8, none⟩ (.slice ps f.token.stamps.length cs)).heap[b]? = some (.cells #[.int .i64 f.kind, .int .i64 f.src, .int .i64 f.dst, .int .i64 f.gen, .int .i64 f.hop, .int .u64 f.bits, .int .i64 f.token.gen, .int .i64 f.token.hop, .slice ps f.token.stamps.length cs, c9, c10] T (0, 0)) := heap_set b 8 _ _ k7
  generalize w7.setCell ⟨b, 8, none⟩ (.slice ps f.token.stamps.length cs) = w8 at *
  have k9 : (w8.setCell ⟨b, 9, none⟩ (.int .i64 f.token.table.start)).heap[b]? = some (.cells #[.int .i64 f.kind, .int .i64 f.src, .int .i64 f.dst, .int .i64 f.gen, .int .i64 f.hop, .int .u64 f.bits, .int .i64 f.token.gen, .int .i64 f.token.hop, .slice ps f.token.stamps.length cs, .int .i64 f.token.table.start, c10] T (0, 0)) := heap_set b 9 _ _ k8
  generalize w8.setCell ⟨b, 9, none⟩ (.int .i64 f.token.table.start) = w9 at *
  have k10 : (w9.setCell ⟨b, 10, none⟩ (.slice p f.token.table.rows.length c)).heap[b]? = some (.cells #[.int .i64 f.kind, .int .i64 f.src, .int .i64 f.dst, .int .i64 f.gen, .int .i64 f.hop, .int .u64 f.bits, .int .i64 f.token.gen, .int .i64 f.token.hop, .slice ps f.token.stamps.length cs, .int .i64 f.token.table.start, .slice p f.token.table.rows.length c] T (0, 0)) := heap_set b 10 _ _ k9
  exact k10
theorem set11_below {w w0 : World} {b B : Nat} (h : Below B w0 w) (hb : B ≤ b) (f : Fr) (ps p : Option Addr) (cs c : Nat) : Below B w0 (set11 w b f ps p cs c) :=
  ((((((((((h.setCell (p := ⟨b, 0, none⟩) hb _).setCell (p := ⟨b, 1, none⟩) hb _).setCell (p := ⟨b, 2, none⟩) hb _).setCell (p := ⟨b, 3, none⟩) hb _).setCell (p := ⟨b, 4, none⟩) hb _).setCell (p := ⟨b, 5, none⟩) hb _).setCell (p := ⟨b, 6, none⟩) hb _).setCell (p := ⟨b, 7, none⟩) hb _).setCell (p := ⟨b, 8, none⟩) hb _).setCell (p := ⟨b, 9, none⟩) hb _).setCell (p := ⟨b, 10, none⟩) hb _
theorem set11_off {w : World} {b g : Nat} (f : Fr) (ps p : Option Addr) (cs c : Nat) (h : g ≠ b) : (set11 w b f ps p cs c).heap[g]? = w.heap[g]? :=
  (Below.heap_setCell _ _ _ _ (by simpa using h)).trans ((Below.heap_setCell _ _ _ _ (by simpa using h)).trans ((Below.heap_setCell _ _ _ _ (by simpa using h)).trans ((Below.heap_setCell _ _ _ _ (by simpa using h)).trans ((Below.heap_setCell _ _ _ _ (by simpa using h)).trans ((Below.heap_setCell _ _ _ _ (by simpa using h)).trans ((Below.heap_setCell _ _ _ _ (by simpa using h)).trans ((Below.heap_setCell _ _ _ _ (by simpa using h)).trans ((Below.heap_setCell _ _ _ _ (by simpa using h)).trans ((Below.heap_setCell _ _ _ _ (by simpa using h)).trans (Below.heap_setCell _ _ _ _ (by simpa using h)))))))))))
set_option maxRecDepth 100000 in
theorem rnewer_any (a b c d : Int) (w : World) : Calls Try.prog 31 #[.agg #[.int .i64 a, .int .i64 b], .agg #[.int .i64 c, .int .i64 d]] w fun e w' => e = .returned (.bool (newer (a, b) (c, d))) ∧ Below w.heap.size w w' := by
  have hcase : (c < a ∧ newer (a, b) (c, d) = true) ∨ (¬ c < a ∧ (a == c) = false ∧ newer (a, b) (c, d) = false) ∨ (¬ c < a ∧ (a == c) = true ∧ d < b ∧ newer (a, b) (c, d) = true) ∨ (¬ c < a ∧ (a == c) = true ∧ ¬ d < b ∧ newer (a, b) (c, d) = false) := by
    simp only [newer]
    by_cases h1 : c < a <;> by_cases h2 : a = c <;> by_cases h3 : d < b <;> simp [h1, h2, h3]
  generalize newer (a, b) (c, d) = R at *
  have hb1 := Lib.hid (lay w (.cells #[.int .i64 a, .int .i64 b] 64))
  have hb2 := Lib.hid (fun o => lay (w.alloc (.cells #[.int .i64 a, .int .i64 b] 64)) o)
  rcases hcase with ⟨h1, rfl⟩ | ⟨h1, h2, rfl⟩ | ⟨h1, h2, h3, rfl⟩ | ⟨h1, h2, h3, rfl⟩
  all_goals
    go_enter Try.func31, Try.ntmps31
    go_wp2
    go_ret
    exact ⟨rfl, hb1.out.trans ((hb2.out _).mono hb1.out.size)⟩
section
variable {F : Nat → Prop} {w w' : World} {B v : Nat} {r r' : Rl}
/-- A frame is put into the document's relay, which held none: behind a new row of it. -/
theorem Rd.put (h : Rd F B w v r) (hB : B ≤ w.heap.size) {f : Fr} {ps p : Option Addr} (cs c : Nat) (hl : LyF F w f ps p) (hv : ¬ F v) :
    RStep F B w v ⟨some f, r.sent⟩ ((w.alloc (.cells (cells11 f ps p cs c) 41)).setCell ⟨v, 0, none⟩ (.slice (some ⟨w.heap.size, 0, none⟩) 1 1)) := by
  have hvl := h.lt
  obtain ⟨h0, y, h1, -⟩ := h
  have hbx := lay w (.cells (cells11 f ps p cs c) 41)
  have k1 := (hbx.block v hvl).trans h1
  have e := heap_set v 0 _ (.slice (some ⟨w.heap.size, 0, none⟩) 1 1) k1
  have hne : w.heap.size ≠ v := by omega
  have kg : ((w.alloc (.cells (cells11 f ps p cs c) 41)).setCell ⟨v, 0, none⟩ (.slice (some ⟨w.heap.size, 0, none⟩) 1 1)).heap[w.heap.size]? = some (.cells (cells11 f ps p cs c) 41 (0, 0)) :=
    (Below.heap_setCell _ _ _ _ hne).trans (heap_alloc_new w _)
  have hon : ∀ g, g ≠ v → g < w.heap.size → ((w.alloc (.cells (cells11 f ps p cs c) 41)).setCell ⟨v, 0, none⟩ (.slice (some ⟨w.heap.size, 0, none⟩) 1 1)).heap[g]? = w.heap[g]? := fun g hn hg =>
    (Below.heap_setCell _ _ _ _ hn).trans (hbx.block g hg)
  have hsz : w.heap.size ≤ ((w.alloc (.cells (cells11 f ps p cs c) 41)).setCell ⟨v, 0, none⟩ (.slice (some ⟨w.heap.size, 0, none⟩) 1 1)).heap.size := by simp
  refine ⟨⟨h0, _, e, w.heap.size, ps, p, cs, c, rfl, hB, kg, hl.on ⟨hsz, fun g hF hg => hon g (fun e => hv (e ▸ hF)) hg⟩⟩, hon, ((Below.refl B w).alloc hB _).setCell (p := ⟨v, 0, none⟩) h0 _, hsz⟩
/-- The relay is emptied. -/
theorem Rd.empty (h : Rd F B w v r) (p : Option Addr) (c : Nat) : RStep F B w v ⟨none, r.sent⟩ (w.setCell ⟨v, 0, none⟩ (.slice p 0 c)) := by
  obtain ⟨h0, y, h1, -⟩ := h
  exact ⟨⟨h0, _, heap_set v 0 _ _ h1, p, c, rfl⟩, fun g hn _ => Below.heap_setCell _ _ _ _ hn, (Below.refl B w).setCell (p := ⟨v, 0, none⟩) h0 _, by simp⟩
/-- One more is counted. -/
theorem Rd.count (h : Rd F B w v r) (hv : ¬ F v) : RStep F B w v ⟨r.held, r.sent + 1⟩ (w.setCell ⟨v, 1, none⟩ (.int .i64 ((r.sent + 1 : Nat) : Int))) := by
  obtain ⟨h0, y, h1, h2⟩ := h
  have hon : ∀ g, g ≠ v → g < w.heap.size → (w.setCell ⟨v, 1, none⟩ (.int .i64 ((r.sent + 1 : Nat) : Int))).heap[g]? = w.heap[g]? := fun g hn _ => Below.heap_setCell _ _ _ _ hn
  refine ⟨⟨h0, y, heap_set v 1 _ _ h1, ?_⟩, hon, (Below.refl B w).setCell (p := ⟨v, 1, none⟩) h0 _, by simp⟩
  obtain ⟨hd, n⟩ := r
  cases hd with
  | none => exact h2
  | some f =>
    obtain ⟨g, ps, p, cs, c, e, hg, h3, h4⟩ := h2
    have hne : g ≠ v := by
      rintro rfl
      rw [h1] at h3
      simp only [Option.some.injEq, Obj.cells.injEq] at h3
      exact absurd h3.2.1 (by decide)
    exact ⟨g, ps, p, cs, c, e, hg, (hon g hne (lt_of_heap h3)).trans h3, h4.on ⟨by simp, fun g hF hg => hon g (fun e => hv (e ▸ hF)) hg⟩⟩
set_option maxRecDepth 100000 in
set_option maxHeartbeats 8000000 in
theorem rhold_any (h : Rd F B w v r) (hv : ¬ F v) (hB : B ≤ w.heap.size) (f : Fr) (ps p : Option Addr) (cs c : Nat) (hl : LyF F w f ps p) :
    Calls Try.prog 19 #[.pointer (some ⟨v, 0, none⟩), frameVal f ps p cs c] w fun e w' => e = .returned (.int .i64 (hold r f).2) ∧ RStep F B w v (hold r f).1 w' := by
  have HB0 := Lib.hid (lay w (.cells (cells11 f ps p cs c) 41))
  have HK := Lib.hid (heap_alloc_new w (.cells (cells11 f ps p cs c) 41))
  have HR := Lib.hid (fun u (hu : Below w.heap.size w u) => right_any f ps p cs c u ((hl.on (Stays.below hu)).now))
  have HS := Lib.hid (fun u (hu : Below w.heap.size w u) => RStep.same h hB hu)
  have HP := Lib.hid (fun u (hu : Below w.heap.size w u) => (h.below hu).put (Nat.le_trans hB hu.size) cs c (hl.on (Stays.below hu)) hv)
  have HX := Lib.hid (fun (u : World) (hu : u.heap[w.heap.size]? = some (.cells (cells11 f ps p cs c) 41 (0, 0))) => box11 hu)
  have HC := Lib.hid (fun u (hu : Below w.heap.size w u) => (h.below hu).cell)
  have hcase : (frameOk f = false ∧ hold r f = (r, 1)) ∨ (frameOk f = true ∧ f.kind ≠ 0 ∧ hold r f = (r, 1)) ∨ (frameOk f = true ∧ f.kind = 0 ∧ isHeld r = true ∧ hold r f = (r, 5)) ∨ (frameOk f = true ∧ f.kind = 0 ∧ isHeld r = false ∧ hold r f = (⟨some f, r.sent⟩, 0)) := by
    unfold hold isHeld
    cases h1 : frameOk f
    · exact .inl ⟨rfl, by simp⟩
    · by_cases h2 : f.kind = 0
      · cases h3 : r.held
        · exact .inr (.inr (.inr ⟨rfl, h2, rfl, by simp [h2]⟩))
        · exact .inr (.inr (.inl ⟨rfl, h2, rfl, by simp [h2]⟩))
      · exact .inr (.inl ⟨rfl, h2, by simp [h2]⟩)
  generalize hold r f = HH at *
  generalize frameOk f = ok at *
  simp only [frameVal, cells11] at *
  clear h hl hB hv
  rcases hcase with ⟨rfl, rfl⟩ | ⟨rfl, h2, rfl⟩ | ⟨rfl, h2, h3, rfl⟩ | ⟨rfl, h2, h3, rfl⟩
  · go_enter Try.func19, Try.ntmps19
    go_wp2_with (go_at_call 30; (with_reducible refine (HR.out _ HB0.out).mono ?_); rintro e u1 ⟨rfl, hb⟩; have k1 := (HX.out _ ((hb.block _ (lt_of_heap HK.out)).trans HK.out)).1; have B1 := Lib.hid (HB0.out.trans (hb.mono HB0.out.size)); clear hb HR)
    go_ret
    exact ⟨rfl, HS.out _ B1.out⟩
  · have g2 : (f.kind != 0) = true := by simp [h2]
    go_enter Try.func19, Try.ntmps19
    go_wp2_with (go_at_call 30; (with_reducible refine (HR.out _ HB0.out).mono ?_); rintro e u1 ⟨rfl, hb⟩; have k1 := (HX.out _ ((hb.block _ (lt_of_heap HK.out)).trans HK.out)).1; have B1 := Lib.hid (HB0.out.trans (hb.mono HB0.out.size)); clear hb HR)
    go_ret
    exact ⟨rfl, HS.out _ B1.out⟩
  · obtain ⟨kd, sr, ds, ge, ho, bi, tk⟩ := f
    obtain rfl : kd = 0 := h2
    simp only at *
    rw [h3] at HC
    simp only [reduceIte] at HC
    go_enter Try.func19, Try.ntmps19
    go_wp2_with (go_at_call 30; (with_reducible refine (HR.out _ HB0.out).mono ?_); rintro e u1 ⟨rfl, hb⟩; have k1 := (HX.out _ ((hb.block _ (lt_of_heap HK.out)).trans HK.out)).1; have B1 := Lib.hid (HB0.out.trans (hb.mono HB0.out.size)); obtain ⟨p1, d1, l1, -, -, -⟩ := HC.out _ B1.out; clear hb HR)
    go_ret
    exact ⟨rfl, HS.out _ B1.out⟩
  · obtain ⟨kd, sr, ds, ge, ho, bi, tk⟩ := f
    obtain rfl : kd = 0 := h2
    simp only at *
    rw [h3] at HC
    simp only [Bool.false_eq_true, reduceIte] at HC
    go_enter Try.func19, Try.ntmps19
    go_wp2_with (go_at_call 30; (with_reducible refine (HR.out _ HB0.out).mono ?_); rintro e u1 ⟨rfl, hb⟩; have k1 := HX.out _ ((hb.block _ (lt_of_heap HK.out)).trans HK.out); have B1 := Lib.hid (HB0.out.trans (hb.mono HB0.out.size)); have HP1 := Lib.hid (HP.out _ B1.out); obtain ⟨p1, d1, l1, -, l2, -⟩ := HC.out _ B1.out; obtain ⟨p2, d2, m1, -, m2, -⟩ := HC.out _ (B1.out.alloc B1.out.size (.cells #[.int .i64 0, .int .i64 sr, .int .i64 ds, .int .i64 ge, .int .i64 ho, .int .u64 bi, .int .i64 tk.gen, .int .i64 tk.hop, .slice ps tk.stamps.length cs, .int .i64 tk.table.start, .slice p tk.table.rows.length c] 41)); obtain ⟨y0, y1, y2, y3, y4, y5, y6, y7, y8, y9, y10⟩ := k1; clear hb HR HP HX)
    go_ret
    exact ⟨rfl, (HS.out _ B1.out).trans HP1.out⟩
theorem Rd.told {f : Fr} {n : Nat} (h : Rd F B w v ⟨some f, n⟩) (hv : ¬ F v) (hB : B ≤ w.heap.size) (o : Obj) (f' : Fr) (ps' p' : Option Addr) (cs' c' : Nat) :
    RStep F B w v ⟨some f, n + 1⟩ (set11 ((w.alloc o).setCell ⟨v, 1, none⟩ (.int .i64 ((n : Int) + 1))) w.heap.size f' ps' p' cs' c') ∧ Stays F w (set11 ((w.alloc o).setCell ⟨v, 1, none⟩ (.int .i64 ((n : Int) + 1))) w.heap.size f' ps' p' cs' c') := by
  obtain ⟨h0, y, h1, g, ps, p, cs, c, rfl, hg, h3, h4⟩ := h
  have hvl := lt_of_heap h1
  have hgl := lt_of_heap h3
  have hne : g ≠ v := by
    rintro rfl
    rw [h1] at h3
    simp only [Option.some.injEq, Obj.cells.injEq] at h3
    exact absurd h3.2.1 (by decide)
  have hbx := lay w o
  have on : ∀ x, x ≠ v → x < w.heap.size → (set11 ((w.alloc o).setCell ⟨v, 1, none⟩ (.int .i64 ((n : Int) + 1))) w.heap.size f' ps' p' cs' c').heap[x]? = w.heap[x]? := fun x hn hx =>
    (set11_off _ _ _ _ _ (by omega)).trans ((Below.heap_setCell _ _ _ _ hn).trans (hbx.block x hx))
  have ev := (set11_off (w := (w.alloc o).setCell ⟨v, 1, none⟩ (.int .i64 ((n : Int) + 1))) (b := w.heap.size) f' ps' p' cs' c' (g := v) (by omega)).trans (heap_set v 1 _ (.int .i64 ((n : Int) + 1)) ((hbx.block v hvl).trans h1))
  have hb : Below B w (set11 ((w.alloc o).setCell ⟨v, 1, none⟩ (.int .i64 ((n : Int) + 1))) w.heap.size f' ps' p' cs' c') := set11_below (((Below.refl B w).alloc hB o).setCell (p := ⟨v, 1, none⟩) h0 _) hB _ _ _ _ _
  have hs : Stays F w (set11 ((w.alloc o).setCell ⟨v, 1, none⟩ (.int .i64 ((n : Int) + 1))) w.heap.size f' ps' p' cs' c') := ⟨hb.size, fun x hF hx => on x (fun e => hv (e ▸ hF)) hx⟩
  have hn1 : ((n + 1 : Nat) : Int) = (n : Int) + 1 := by omega
  exact ⟨⟨⟨h0, _, by rw [ev, hn1]; rfl, g, ps, p, cs, c, rfl, hg, (on g hne hgl).trans h3, h4.on hs⟩, on, hb, hb.size⟩, hs⟩
set_option maxRecDepth 100000 in
set_option maxHeartbeats 8000000 in
theorem rheld_any (h : Rd F B w v r) (hv : ¬ F v) (hB : B ≤ w.heap.size) (hn : r.sent ≤ 1000) :
    Calls Try.prog 16 #[.pointer (some ⟨v, 0, none⟩)] w fun e w' => ∃ ps p cs c, e = .returned (.tuple #[frameVal (heldF r) ps p cs c, .bool (isHeld r)]) ∧ LyF F w' (heldF r) ps p ∧ RStep F B w v (sends r) w' := by
  have HS := Lib.hid (fun u (hu : Below w.heap.size w u) => RStep.same h hB hu)
  have HR := Lib.hid (h.below (lay w (.cells #[.int .i64 0, .int .i64 0, .int .i64 0, .int .i64 0, .int .i64 0, .int .u64 0, .int .i64 0, .int .i64 0, .slice none 0 0, .int .i64 0, .slice none 0 0] 41)))
  have HB := Lib.hid (lay w (.cells #[.int .i64 0, .int .i64 0, .int .i64 0, .int .i64 0, .int .i64 0, .int .u64 0, .int .i64 0, .int .i64 0, .slice none 0 0, .int .i64 0, .slice none 0 0] 41))
  have HZ := Lib.hid (heap_alloc_new w (.cells #[.int .i64 0, .int .i64 0, .int .i64 0, .int .i64 0, .int .i64 0, .int .u64 0, .int .i64 0, .int .i64 0, .slice none 0 0, .int .i64 0, .slice none 0 0] 41))
  have hvw := h.lt
  by_cases hi : isHeld r = true
  · have hs : sends r = ⟨r.held, r.sent + 1⟩ := by simp [sends, hi]
    rw [hs]
    obtain ⟨hd, n⟩ := r
    cases hd with
    | none => cases hi
    | some f =>
      rw [hi]
      obtain ⟨kd, sr, ds, ge, ho, bi, tk⟩ := f
      simp only [heldF, Option.getD_some, frameVal] at *
      have HT := Lib.hid (fun ps p cs c => h.told hv hB (.cells #[.int .i64 0, .int .i64 0, .int .i64 0, .int .i64 0, .int .i64 0, .int .u64 0, .int .i64 0, .int .i64 0, .slice none 0 0, .int .i64 0, .slice none 0 0] 41) ⟨kd, sr, ds, ge, ho, bi, tk⟩ ps p cs c)
      obtain ⟨h0, y, h1', g, ps, p, cs, c, rfl, hg, h3', h4⟩ := h
      have hgw := lt_of_heap h3'
      have h1 := (HB.out.block v hvw).trans h1'
      have h3 := (HB.out.block g hgw).trans h3'
      obtain ⟨y0, y1, y2, y3, y4, y5, y6, y7, y8, y9, y10⟩ := box11 h3
      obtain ⟨b0, b1, b2, b3, b4, b5, b6, b7, b8, b9, b10⟩ := box11 (f := noFr) HZ.out
      simp only [noFr, List.length_nil] at b0 b1 b2 b3 b4 b5 b6 b7 b8 b9 b10
      simp only at y0 y1 y2 y3 y4 y5 y6 y7 y8 y9 y10
      have f0 := fun o => frozen_of (o := o) HZ.out
      have l1 : (w.alloc (.cells #[.int .i64 0, .int .i64 0, .int .i64 0, .int .i64 0, .int .i64 0, .int .u64 0, .int .i64 0, .int .i64 0, .slice none 0 0, .int .i64 0, .slice none 0 0] 41)).cell? ⟨v, 0, none⟩ = some (.slice (some ⟨g, 0, none⟩) 1 1) := by rw [cell_of_row _ v 0 _ _ (0, 0) h1]; rfl
      have l2 : (w.alloc (.cells #[.int .i64 0, .int .i64 0, .int .i64 0, .int .i64 0, .int .i64 0, .int .u64 0, .int .i64 0, .int .i64 0, .slice none 0 0, .int .i64 0, .slice none 0 0] 41)).cell? ⟨v, 1, none⟩ = some (.int .i64 (n : Int)) := by rw [cell_of_row _ v 1 _ _ (0, 0) h1]; rfl
      have l3 : (w.alloc (.cells #[.int .i64 0, .int .i64 0, .int .i64 0, .int .i64 0, .int .i64 0, .int .u64 0, .int .i64 0, .int .i64 0, .slice none 0 0, .int .i64 0, .slice none 0 0] 41)).frozen? ⟨v, 1, none⟩ = false := frozen_of h1
      have hne : g ≠ v := by
        rintro rfl
        rw [h1] at h3
        simp only [Option.some.injEq, Obj.cells.injEq] at h3
        exact absurd h3.2.1 (by decide)
      have HL := Lib.hid h4
      have hn' : n ≤ 1000 := hn
      have HVW := Lib.hid hvw
      have ne1 : ¬ (v = w.heap.size) := by omega
      have ne2 : ¬ (w.heap.size = v) := by omega
      have ne3 : ¬ (g = v) := hne
      have ne4 : ¬ (v = g) := fun e => hne e.symm
      clear h1 h3 h4 h1' h3' HR hvw
      go_enter Try.func16, Try.ntmps16
      go_wp2
      rw [show (((((((((((((w.alloc (.cells #[.int .i64 0, .int .i64 0, .int .i64 0, .int .i64 0, .int .i64 0, .int .u64 0, .int .i64 0, .int .i64 0, .slice none 0 0, .int .i64 0, .slice none 0 0] 41)).setCell ⟨v, 1, none⟩ (.int .i64 ((n : Int) + 1))).setCell ⟨w.heap.size, 0, none⟩ (.int .i64 kd)).setCell ⟨w.heap.size, 1, none⟩ (.int .i64 sr)).setCell ⟨w.heap.size, 2, none⟩ (.int .i64 ds)).setCell ⟨w.heap.size, 3, none⟩ (.int .i64 ge)).setCell ⟨w.heap.size, 4, none⟩ (.int .i64 ho)).setCell ⟨w.heap.size, 5, none⟩ (.int .u64 bi)).setCell ⟨w.heap.size, 6, none⟩ (.int .i64 tk.gen)).setCell ⟨w.heap.size, 7, none⟩ (.int .i64 tk.hop)).setCell ⟨w.heap.size, 8, none⟩ (.slice ps tk.stamps.length cs)).setCell ⟨w.heap.size, 9, none⟩ (.int .i64 tk.table.start)).setCell ⟨w.heap.size, 10, none⟩ (.slice p tk.table.rows.length c)) = set11 ((w.alloc (.cells #[.int .i64 0, .int .i64 0, .int .i64 0, .int .i64 0, .int .i64 0, .int .u64 0, .int .i64 0, .int .i64 0, .slice none 0 0, .int .i64 0, .slice none 0 0] 41)).setCell ⟨v, 1, none⟩ (.int .i64 ((n : Int) + 1))) w.heap.size ⟨kd, sr, ds, ge, ho, bi, tk⟩ ps p cs c from rfl]
      obtain ⟨e0, e1, e2, e3, e4, e5, e6, e7, e8, e9, e10⟩ := box11 (set11_block ((Below.heap_setCell _ ⟨v, 1, none⟩ (.int .i64 ((n : Int) + 1)) _ ne2).trans HZ.out) ⟨kd, sr, ds, ge, ho, bi, tk⟩ ps p cs c)
      obtain ⟨t1, t2⟩ := HT.out ps p cs c
      generalize set11 _ _ _ ps p cs c = w2 at *
      simp only at e0 e1 e2 e3 e4 e5 e6 e7 e8 e9 e10
      refine bodyPost_ret (v := .tuple #[frameVal ⟨kd, sr, ds, ge, ho, bi, tk⟩ ps p cs c, .bool true]) (by simp [results, Try.results16, go_sem, frameVal, e0, e1, e2, e3, e4, e5, e6, e7, e8, e9, e10]) rfl ⟨ps, p, cs, c, rfl, HL.out.on t2, t1⟩
  · have hi : isHeld r = false := by simpa using hi
    have hs : sends r = r := by simp [sends, hi]
    have hh : heldF r = noFr := by
      obtain ⟨hd, n⟩ := r
      cases hd with
      | none => rfl
      | some f => cases hi
    rw [hs, hh, hi]
    simp only [frameVal, noFr]
    obtain ⟨p1, d1, l1, l2, l3, l4⟩ := HR.out.cell
    rw [hi] at l1
    simp only [Bool.false_eq_true, reduceIte] at l1
    obtain ⟨b0, b1, b2, b3, b4, b5, b6, b7, b8, b9, b10⟩ := box11 (f := noFr) HZ.out
    simp only [noFr, List.length_nil] at b0 b1 b2 b3 b4 b5 b6 b7 b8 b9 b10
    have f0 := fun o => frozen_of (o := o) HZ.out
    go_enter Try.func16, Try.ntmps16
    go_wp2
    refine bodyPost_ret (v := .tuple #[frameVal noFr none none 0 0, .bool false]) (by simp [results, Try.results16, go_sem, frameVal, noFr, b0, b1, b2, b3, b4, b5, b6, b7, b8, b9, b10]) rfl ⟨none, none, 0, 0, rfl, fun u _ => lying_none u none none, HS.out _ HB.out⟩
end
end Go.Proofs.Ytkdjhphakopfeaa.Relay
