/-
  The document's settled, of any token whose table may be, and any edge that is kept well.
  The document's Right and Visit, of any edge that is kept well.
  The document's Right.
  The live question (annonalaw18's alive), over any edge and visit.
-/
import Derived.Deep.DeepCutAuto
import Derived.Deep.RegionHeld3
import Derived.Deep.QuietTactic
import Derived.BigQuiet
import Derived.Test.YtbgdlokegibkmaaGreatMnAh
import Derived.Test.YtbgdlokegibkmaaGreatMnAb
import Derived.Test.YtbgdlokegibkmaaGreatMnAj
import Derived.Test.YtbgdlokegibkmaaGreatMnAk
import Derived.Test.YtbgdlokegibkmaaGreatMnAi
import Derived.Test.YtbgdlokegibkmaaGreatMnAg
import Derived.Test.YtbgdlokegibkmaaGreatMnAc
import Derived.Test.YtbgdlokegibkmaaGreatMnAe
namespace Go.Proofs.YtbgdlokegibkmaaGreat.Visit
open Go.RowKit
open _root_.Go.Proofs.YtbgdlokegibkmaaGreat.Frame (Rw Tb Tk noRow LeasesAt cell_on)
open _root_.Go.Proofs.YtbgdlokegibkmaaGreat.Ledger (RowAt RowsAt Rise mint held has tabVal cfVal)
open _root_.Go.Proofs.YtbgdlokegibkmaaGreat.Codec (Ints lt_of_heap frozen_of heap_set)
open _root_.Go.Proofs.YtbgdlokegibkmaaGreat.Edge (Cf Eg Ed RatesB close drop)
open _root_.Go.Proofs.YtbgdlokegibkmaaGreat.Token (tokVal box5f)
open _root_.Go.Proofs.YtbgdlokegibkmaaGreat.Lease (Num)
theorem lay (w : World) (o : Obj) : Below w.heap.size w (w.alloc o) := (Below.refl _ w).alloc (Nat.le_refl _) o
theorem rates_at {B : Nat} {w : World} {p : Option Addr} {zs : List (Int × Int)} (h : RatesB B w p zs) : Ledger.RatesAt w p zs := by
  rcases h with h | ⟨b, o, e, -, hc⟩
  · exact .inl h
  · exact .inr ⟨b, o, e, hc⟩
theorem bel1 (w0 : World) (o : Obj) : Below w0.heap.size w0 (w0.alloc o).drew := (lay w0 o).drew
theorem bel_a {w0 u : World} (h : Below w0.heap.size w0 u) (o : Obj) : Below w0.heap.size w0 (u.alloc o) := h.trans ((lay u o).mono h.size)
theorem bel_s {w0 u : World} (h : Below w0.heap.size w0 u) (x y : Value) : Below w0.heap.size w0 ((u.setCell ⟨w0.heap.size, 0, none⟩ x).setCell ⟨w0.heap.size, 1, none⟩ y) := (h.setCell (p := ⟨w0.heap.size, 0, none⟩) (Nat.le_refl _) x).setCell (p := ⟨w0.heap.size, 1, none⟩) (Nat.le_refl _) y
theorem undrewB {w0 u : World} (h : Below w0.drew.heap.size w0.drew u) : Below w0.heap.size w0 u := ⟨h.os, h.tape, h.output, h.size, h.block⟩
/-- The new box, where it was laid ahead. -/
theorem zero_cells {w0 u : World} (hb : Below (w0.alloc (.cells #[.int .i64 0, .slice none 0 0] 28)).drew.heap.size (w0.alloc (.cells #[.int .i64 0, .slice none 0 0] 28)).drew u) : u.cell? ⟨w0.heap.size, 0, none⟩ = some (.int .i64 0) ∧ u.cell? ⟨w0.heap.size, 1, none⟩ = some (.slice none 0 0) ∧ u.frozen? ⟨w0.heap.size, 0, none⟩ = false ∧ u.frozen? ⟨w0.heap.size, 1, none⟩ = false := by
  have hz : u.heap[w0.heap.size]? = some (.cells #[.int .i64 0, .slice none 0 0] 28 (0, 0)) := (hb.block _ (lt_of_heap (show (w0.alloc (.cells #[.int .i64 0, .slice none 0 0] 28)).drew.heap[w0.heap.size]? = _ from heap_alloc_new w0 _))).trans (heap_alloc_new w0 _)
  exact ⟨by rw [cell_of_row u _ 0 _ _ (0, 0) hz]; rfl, by rw [cell_of_row u _ 1 _ _ (0, 0) hz]; rfl, frozen_of hz, frozen_of hz⟩
theorem mint_start (t : Tb) (key now : Int) (f : Ledger.Cf) : (mint t key now f).1.start = t.start := by
  unfold mint
  split
  · rfl
  · split
    · rfl
    · split
      · rfl
      · rfl
theorem settle_start (t : Tb) (key node spent : Int) : (Ledger.settle t key node spent).1.start = t.start := by
  unfold Ledger.settle
  split <;> rfl
theorem off_keep {u u' : World} {g : Nat} {cs : Array Value} {z : Nat × Nat} (hb : u.heap[g]? = some (.cells cs 30 z)) (hs : u.heap.size ≤ u'.heap.size) (hk : ∀ b, b ≠ g → u'.heap[b]? = u.heap[b]?) : Kit.Off Edge.mine u u' :=
  ⟨hs, fun k cs' t z' e ht => (hk k (by
    rintro rfl
    rw [hb] at e
    simp only [Option.some.injEq, Obj.cells.injEq] at e
    rw [← e.2.1] at ht
    simp [Edge.mine] at ht)).trans e⟩
theorem heap_five {u : World} {g b : Nat} (h : b ≠ g) (v0 v1 v2 v3 v4 : Value) : (((((u.setCell ⟨g, 0, none⟩ v0).setCell ⟨g, 1, none⟩ v1).setCell ⟨g, 2, none⟩ v2).setCell ⟨g, 3, none⟩ v3).setCell ⟨g, 4, none⟩ v4).heap[b]? = u.heap[b]? :=
  (Below.heap_setCell _ _ _ _ h).trans ((Below.heap_setCell _ _ _ _ h).trans ((Below.heap_setCell _ _ _ _ h).trans ((Below.heap_setCell _ _ _ _ h).trans (Below.heap_setCell _ _ _ _ h))))
section
variable {u : World} {b m1 k1 m2 k2 : Nat} {g hp st : Int} {q1 q2 : Option Addr} {T : TypeId} (hb : u.heap[b]? = some (.cells #[.int .i64 g, .int .i64 hp, .slice q1 m1 k1, .int .i64 st, .slice q2 m2 k2] T (0, 0)))
include hb
end
end Go.Proofs.YtbgdlokegibkmaaGreat.Visit

namespace Go.Proofs.YtbgdlokegibkmaaGreat.Visit
open Go.RowKit
open _root_.Go.Proofs.YtbgdlokegibkmaaGreat.Frame (Rw Tb Tk noRow LeasesAt cell_on)
open _root_.Go.Proofs.YtbgdlokegibkmaaGreat.Ledger (RowAt RowsAt Rise mint held has tabVal cfVal)
open _root_.Go.Proofs.YtbgdlokegibkmaaGreat.Codec (Ints lt_of_heap frozen_of heap_set)
open _root_.Go.Proofs.YtbgdlokegibkmaaGreat.Edge (Cf Eg Ed An RatesB close drop wants refuse pair)
open _root_.Go.Proofs.YtbgdlokegibkmaaGreat.Token (tokVal box5f)
open _root_.Go.Proofs.YtbgdlokegibkmaaGreat.Lease (Num)
theorem wants_num {c : Cf} {e : Eg} : ∀ x ∈ wants c e, Num x.1 := by
  intro x hx
  unfold wants at hx
  obtain ⟨h1, h2⟩ := List.mem_filter.1 hx
  obtain ⟨k, -, rfl⟩ := List.mem_map.1 h1
  simp only [decide_eq_true_eq] at h2
  unfold Edge.amount at h2
  by_cases h : 0 ≤ c.rate k
  · unfold Cf.rate at h
    split at h
    · rename_i h3
      simp only [Num]
      omega
    · omega
  · rw [if_neg h] at h2
    omega
theorem wants_few {c : Cf} {e : Eg} (hq : e.Q.length ≤ 16) (hd : e.D.length ≤ 700) : (wants c e).length ≤ 960 := by
  refine Nat.le_trans (Edge.wants_len c e (Edge.keys e)) (Nat.le_trans (Edge.merge_len _ _) ?_)
  have := Queue.keys_len e.Q
  have := Demand.keys_len e.D
  omega
theorem grant_few (e : Eg) (x : Lease.Lz) (now : Int) : (Edge.grant e x now).2.length ≤ e.Q.length := by
  unfold Edge.grant
  split
  · exact Nat.le_trans (Edge.serves_len x.key now (Queue.of e.Q x.key) ⟨(Lease.put e.L x).1, e.Q, e.D⟩) (Queue.of_len e.Q x.key)
  · exact Nat.zero_le _
theorem refuse_few (e : Eg) (k why : Int) : (refuse e k why).2.length ≤ e.Q.length := by
  unfold refuse
  rw [Edge.all_len]
  exact Queue.of_len e.Q k
theorem gr1_out (c : Cf) (node gen now : Int) (s : Gs) (x : Int × Int) : (gr1 c node gen now s x).out.length ≤ s.out.length + s.e.Q.length := by
  unfold gr1
  split
  · rw [List.length_append]
    have := refuse_few s.e x.1 4
    omega
  · split
    · rw [List.length_append]
      have := grant_few s.e (lz c x.1 gen (Ledger.grant (mint s.t x.1 now (toL c)).1 x.1 node x.2).2 now) now
      omega
    · simp
theorem grs_at (c : Cf) (node gen now : Int) (l : List (Int × Int)) (s : Gs) {j : Nat} (hj : j < l.length) : grs c node gen now (l.take (j + 1)) s = gr1 c node gen now (grs c node gen now (l.take j) s) (l.getD j (0, 0)) := by
  rw [List.take_succ_eq_append_getElem hj]
  unfold grs
  rw [List.foldl_append]
  simp [List.getD, hj]
theorem grs_out {c : Cf} {node : Int} {m : Nat} (hc : c.ke ≤ 16) (hq : c.qu ≤ 16) (hm : m ≤ 700) {gen now : Int} (hg : Num gen) (hn : Num now) {l : List (Int × Int)} {s : Gs} (hw : ∀ x ∈ l, Num x.1) (h : Keeps c node m s.t s.e) : ∀ j, j ≤ l.length → (grs c node gen now (l.take j) s).out.length ≤ s.out.length + 16 * j
  | 0, _ => by simp [grs]
  | j + 1, hj => by
    have ih := grs_out hc hq hm hg hn hw h j (by omega)
    have hk := keeps_grs (c := c) (node := node) hc hg hn (l.take j) (s := s) (fun x hx => hw x (List.mem_of_mem_take hx)) h
    rw [grs_at c node gen now l s (by omega)]
    have h1 := gr1_out c node gen now (grs c node gen now (l.take j) s) (l.getD j (0, 0))
    have h2 := (hk.lens hq hm).2.1
    omega
theorem five_below {u : World} {g C : Nat} (h : C ≤ g) (v0 v1 v2 v3 v4 : Value) : Below C u (((((u.setCell ⟨g, 0, none⟩ v0).setCell ⟨g, 1, none⟩ v1).setCell ⟨g, 2, none⟩ v2).setCell ⟨g, 3, none⟩ v3).setCell ⟨g, 4, none⟩ v4) :=
  ((((((Below.refl _ u).setCell (p := ⟨g, 0, none⟩) h _).setCell (p := ⟨g, 1, none⟩) h _).setCell (p := ⟨g, 2, none⟩) h _).setCell (p := ⟨g, 3, none⟩) h _).setCell (p := ⟨g, 4, none⟩) h _)
section
variable {B : Nat} {w u u' : World} {v : Nat} {c : Cf} {C gu : Nat} {gen hop start : Int} {st : List Int} {ps pl p : Option Addr} {cs n d : Nat} {l : List (Int × Int)} {vo : Value} {s : Gs}
theorem grant_start (t : Tb) (key node want : Int) : (Ledger.grant t key node want).1.start = t.start := by
  unfold Ledger.grant
  split <;> rfl
end
end Go.Proofs.YtbgdlokegibkmaaGreat.Visit

namespace Go.Proofs.YtbgdlokegibkmaaGreat.Visit
open Go.RowKit
open _root_.Go.Proofs.YtbgdlokegibkmaaGreat.Frame (Rw Tb Tk noRow Asked tokenOk)
open _root_.Go.Proofs.YtbgdlokegibkmaaGreat.Codec (Ints lt_of_heap)
open _root_.Go.Proofs.YtbgdlokegibkmaaGreat.Edge (Cf)
open _root_.Go.Proofs.YtbgdlokegibkmaaGreat.Token (tokVal box5f)
theorem lay_two (w : World) (a b : Obj) : Below w.heap.size w ((w.alloc a).alloc b) := ((Below.refl _ w).alloc (Nat.le_refl _) a).trans (((Below.refl _ (w.alloc a)).alloc (Nat.le_refl _) b).mono ((Below.refl _ w).alloc (Nat.le_refl _) a).size)
end Go.Proofs.YtbgdlokegibkmaaGreat.Visit

namespace Go.Proofs.YtbgdlokegibkmaaGreat.Visit
open Go.RowKit
open _root_.Go.Proofs.YtbgdlokegibkmaaGreat.Frame (Rw Tb Tk noRow cell_on)
open _root_.Go.Proofs.YtbgdlokegibkmaaGreat.Codec (lt_of_heap)
open _root_.Go.Proofs.YtbgdlokegibkmaaGreat.Edge (Cf Eg An RatesB CfNum Says HasN e0)
open _root_.Go.Proofs.YtbgdlokegibkmaaGreat.Token (tokVal box5f)
open _root_.Go.Proofs.YtbgdlokegibkmaaGreat.Lease (Num)
theorem box9 {u : World} {g : Nat} {a0 a1 a2 a3 a4 a5 a6 a7 a8 : Value} {T : TypeId} (h : u.heap[g]? = some (.cells #[a0, a1, a2, a3, a4, a5, a6, a7, a8] T (0, 0))) : u.cell? ⟨g, 0, none⟩ = some a0 ∧ u.cell? ⟨g, 1, none⟩ = some a1 ∧ u.cell? ⟨g, 2, none⟩ = some a2 ∧ u.cell? ⟨g, 3, none⟩ = some a3 ∧ u.cell? ⟨g, 4, none⟩ = some a4 ∧ u.cell? ⟨g, 5, none⟩ = some a5 ∧ u.cell? ⟨g, 6, none⟩ = some a6 ∧ u.cell? ⟨g, 7, none⟩ = some a7 ∧ u.cell? ⟨g, 8, none⟩ = some a8 := by
  refine ⟨?_, ?_, ?_, ?_, ?_, ?_, ?_, ?_, ?_⟩ <;> (rw [cell_of_row _ _ _ _ _ (0, 0) h]; rfl)
theorem one_ans {u : World} {p : Option Addr} {i g y : Int} (h : Kit.Lies Edge.ans u p [⟨i, g, y⟩]) : ∃ b o, p = some ⟨b, o, none⟩ ∧ u.cell? ⟨b, o, none⟩ = some (.int .i64 i) ∧ u.cell? ⟨b, o + 1, none⟩ = some (.int .i64 g) ∧ u.cell? ⟨b, o + 2, none⟩ = some (.int .i64 y) := by
  rcases h with h | ⟨b, o, e, hc⟩
  · simp at h
  · have h0 := hc 0 (by simp) 0 _ rfl
    have h1 := hc 0 (by simp) 1 _ rfl
    have h2 := hc 0 (by simp) 2 _ rfl
    simp only [Nat.zero_mul, Nat.add_zero] at h0 h1 h2
    exact ⟨b, o, e, h0, h1, h2⟩
/-- While the live question is asked: the edge, the configuration's box, its rates. -/
structure Liv (PW : PwR) (B gc q : Nat) (pf : Option Addr) (R : Nat → Prop) (e : Eg) (W u : World) : Prop where
  pw : PW R B u q lc e
  conf : u.heap[gc]? = some (.cells #[.int .i64 1, .int .i64 0, .int .i64 5, .int .i64 9, .int .i64 1, .int .i64 1, .int .i64 1, .int .i64 2, .slice pf 1 1] 24 (0, 0))
  rc : R gc
  rates : RatesB B u pf [(2, 9)]
  below : Below W.heap.size W u
  size : B ≤ u.heap.size
  lo : W.heap.size ≤ B
section
variable {PW : PwR} {B gc q : Nat} {pf : Option Addr} {R R' : Nat → Prop} {e e' : Eg} {W u u' : World}
theorem Liv.grow (F : FrameR PW) (h : Liv PW B gc q pf R e W u) (hb : Below u.heap.size u u') : Liv PW B gc q pf (fun g => R g ∨ u.heap.size ≤ g ∧ g < u'.heap.size) e W u' :=
  ⟨F.grow h.pw hb, (hb.block _ (lt_of_heap h.conf)).trans h.conf, .inl h.rc, h.rates.on (hb.mono h.size), h.below.trans (hb.mono h.below.size), Nat.le_trans h.size hb.size, h.lo⟩
theorem Liv.moved (h : Liv PW B gc q pf R e W u) (hm : MovedR PW R B u q lc e' u') : Liv PW B gc q pf R e' W u' :=
  ⟨hm.pw, (hm.keep _ h.rc ⟨0, _, _, by rw [cell_of_row _ _ _ _ _ (0, 0) h.conf]; rfl⟩ (lt_of_heap h.conf)).trans h.conf, h.rc, h.rates.on hm.below, h.below.trans (hm.below.mono h.lo), Nat.le_trans h.size hm.off.size, h.lo⟩
theorem Liv.visit (h : Liv PW B gc q pf R e W u) (hm : MovedR PW R B u q lc e' u') (hp : PW R' B u' q lc e') (hR : ∀ g, R g → R' g) : Liv PW B gc q pf R' e' W u' :=
  have k := h.moved hm
  ⟨hp, k.conf, hR _ h.rc, k.rates, k.below, k.size, k.lo⟩
end
set_option maxRecDepth 100000 in
set_option maxHeartbeats 8000000 in
theorem alive_any {PW : PwR} (P : Way18 PW) (w : World) : Calls Tryz.prog 7 #[] w fun e w' => e = .returned (.bool true) ∧ Below w.heap.size w w' := by
  have F := P.fr
  have hA := lay w (.cells #[.int .i64 2, .int .i64 9] 77)
  have hA2 := lay (w.alloc (.cells #[.int .i64 2, .int .i64 9] 77)) (.cells #[.int .i64 1, .int .i64 0, .int .i64 5, .int .i64 9, .int .i64 1, .int .i64 1, .int .i64 1, .int .i64 2, .slice (some ⟨w.heap.size, 0, none⟩) 1 1] 24)
  have hr : RatesB ((w.alloc (.cells #[.int .i64 2, .int .i64 9] 77)).alloc (.cells #[.int .i64 1, .int .i64 0, .int .i64 5, .int .i64 9, .int .i64 1, .int .i64 1, .int .i64 1, .int .i64 2, .slice (some ⟨w.heap.size, 0, none⟩) 1 1] 24)).heap.size ((w.alloc (.cells #[.int .i64 2, .int .i64 9] 77)).alloc (.cells #[.int .i64 1, .int .i64 0, .int .i64 5, .int .i64 9, .int .i64 1, .int .i64 1, .int .i64 1, .int .i64 2, .slice (some ⟨w.heap.size, 0, none⟩) 1 1] 24)) (some ⟨w.heap.size, 0, none⟩) lc.zs := by
    have hk := (hA2.block _ (lt_of_heap (heap_alloc_new w (.cells #[.int .i64 2, .int .i64 9] 77)))).trans (heap_alloc_new w (.cells #[.int .i64 2, .int .i64 9] 77))
    refine .inr ⟨w.heap.size, 0, rfl, lt_of_heap hk, fun i hi => ?_⟩
    obtain rfl : i = 0 := by simp [lc] at hi; omega
    exact ⟨by rw [cell_of_row _ _ _ _ _ (0, 0) hk]; rfl, by rw [cell_of_row _ _ _ _ _ (0, 0) hk]; rfl⟩
  have hcf := heap_alloc_new (w.alloc (.cells #[.int .i64 2, .int .i64 9] 77)) (.cells #[.int .i64 1, .int .i64 0, .int .i64 5, .int .i64 9, .int .i64 1, .int .i64 1, .int .i64 1, .int .i64 2, .slice (some ⟨w.heap.size, 0, none⟩) 1 1] 24)
  rw [show (w.alloc (.cells #[.int .i64 2, .int .i64 9] 77)).heap.size = w.heap.size + 1 by simp] at hcf
  have HB0 := Lib.hid (hA.trans (hA2.mono hA.size))
  have HR := Lib.hid hr
  have HCF := Lib.hid hcf
  have HF := Lib.hid F
  have HP := Lib.hid P
  clear hA hA2 hr hcf F P
  go_enter Tryz.func7, Tryz.ntmps7
  go_upto_region 2 with (fail)
  generalize (w.alloc (.cells #[.int .i64 2, .int .i64 9] 77)).alloc (.cells #[.int .i64 1, .int .i64 0, .int .i64 5, .int .i64 9, .int .i64 1, .int .i64 1, .int .i64 1, .int .i64 2, .slice (some ⟨w.heap.size, 0, none⟩) 1 1] 24) = w1 at *
  have HNW : Hid (Calls Tryz.prog 8 #[.agg #[.int .i64 1, .int .i64 0, .int .i64 5, .int .i64 9, .int .i64 1, .int .i64 1, .int .i64 1, .int .i64 2, .slice (some ⟨w.heap.size, 0, none⟩) 1 1]] w1 fun x u => ∃ q, x = .returned (.tuple #[.pointer (some ⟨q, 0, none⟩), .int .i64 0]) ∧ Liv PW w1.heap.size (w.heap.size + 1) q (some ⟨w.heap.size, 0, none⟩) (fun g => g < w1.heap.size) e0 w u) := Lib.hid ((HP.out.new w1.heap.size lc (some ⟨w.heap.size, 0, none⟩) 1 w1 (Nat.le_refl _) HR.out (by decide) lnum_c lv0).mono fun x u ⟨q, he, hp, hb⟩ => ⟨q, he, hp, (hb.block _ (lt_of_heap HCF.out)).trans HCF.out, lt_of_heap HCF.out, HR.out.on hb, HB0.out.trans (hb.mono HB0.out.size), hb.size, HB0.out.size⟩)
  obtain ⟨c0, c1, c2, c3, c4, c5, c6, c7, c8⟩ := box9 HCF.out
  clear HR HCF HB0
  have HAK := Lib.hid (fun (u : World) (q : Nat) (hl : Liv PW w1.heap.size (w.heap.size + 1) q (some ⟨w.heap.size, 0, none⟩) (fun g => g < w1.heap.size) e0 w u) => show Calls Tryz.prog 13 #[.pointer (some ⟨q, 0, none⟩), .agg #[.int .i64 5, .int .i64 3, .int .i64 4, .int .i64 0, .int .i64 30], .int .i64 20] u fun x w' => ∃ y, x = .returned y ∧ Liv PW w1.heap.size (w.heap.size + 1) q (some ⟨w.heap.size, 0, none⟩) (fun g => g < w1.heap.size) le1 w w' from
    (HP.out.ask hl.pw hl.size linv0.good ⟨by decide, by decide, by decide⟩ lr lnum_r 20 (lnum (by decide))).mono fun x w' ⟨y, he, _, hm⟩ => ⟨y, he, hl.moved (by rw [lv1] at hm; exact hm)⟩)
  go_upto_region 5 with (first
    | (go_at_call 8; (with_reducible refine HNW.out.mono ?_); rintro x u1 ⟨q, rfl, hl⟩; have HL1 := Lib.hid hl; clear hl HNW c0 c1 c2 c3 c4 c5 c6 c7 c8)
    | (go_at_call 13; (with_reducible refine (HAK.out _ _ HL1.out).mono ?_); rintro x u2 ⟨y2, rfl, hl⟩; have HL2 := Lib.hid hl; clear hl HAK))
  have hb1 := lay u2 (.cells #[.int .i64 (-1)] 3)
  have hb2 := lay (u2.alloc (.cells #[.int .i64 (-1)] 3)) (.cells #[.int .i64 7, .int .i64 0, .slice (some ⟨u2.heap.size, 0, none⟩) 1 1, .int .i64 10, .slice none 0 0] 30)
  have hb3 := hb1.trans (hb2.mono hb1.size)
  have hk1 := (hb2.block _ (lt_of_heap (heap_alloc_new u2 (.cells #[.int .i64 (-1)] 3)))).trans (heap_alloc_new u2 (.cells #[.int .i64 (-1)] 3))
  have hk2 := heap_alloc_new (u2.alloc (.cells #[.int .i64 (-1)] 3)) (.cells #[.int .i64 7, .int .i64 0, .slice (some ⟨u2.heap.size, 0, none⟩) 1 1, .int .i64 10, .slice none 0 0] 30)
  rw [show (u2.alloc (.cells #[.int .i64 (-1)] 3)).heap.size = u2.heap.size + 1 by simp] at hk2
  have HL3 := Lib.hid (HL2.out.grow HF.out hb3)
  have HK1 := Lib.hid hk1
  have HK2 := Lib.hid hk2
  clear hb1 hb2 hb3 hk1 hk2 HL1 HL2
  generalize (u2.alloc (.cells #[.int .i64 (-1)] 3)).alloc (.cells #[.int .i64 7, .int .i64 0, .slice (some ⟨u2.heap.size, 0, none⟩) 1 1, .int .i64 10, .slice none 0 0] 30) = u3 at *
  have HT3 := Lib.hid (show TokIn (fun g => (fun g => g < w1.heap.size) g ∨ u2.heap.size ≤ g ∧ g < u3.heap.size) u3 lt0 (some ⟨u2.heap.size, 0, none⟩) none from ⟨.inr ⟨_, 0, rfl, .inr ⟨Nat.le_refl _, lt_of_heap HK1.out⟩, fun j hj => by
    obtain rfl : j = 0 := by simp [lt0] at hj; omega
    rw [cell_of_row _ _ _ _ _ (0, 0) HK1.out]; rfl⟩, .inl rfl⟩)
  generalize (fun g => (fun g => g < w1.heap.size) g ∨ u2.heap.size ≤ g ∧ g < u3.heap.size) = R3 at *
  generalize w1.heap.size = B at *
  have HV1 : Hid (Calls Tryz.prog 15 #[.agg #[.int .i64 7, .int .i64 0, .slice (some ⟨u2.heap.size, 0, none⟩) 1 1, .int .i64 10, .slice none 0 0], .pointer (some ⟨q, 0, none⟩), .int .i64 0, .int .i64 20, .agg #[.int .i64 1, .int .i64 0, .int .i64 5, .int .i64 9, .int .i64 1, .int .i64 1, .int .i64 1, .int .i64 2, .slice (some ⟨w.heap.size, 0, none⟩) 1 1]] u3 fun x u' => ∃ ps' cs' p' d' y R', x = .returned (.tuple #[.agg #[.int .i64 7, .int .i64 0, .slice ps' 1 cs', .int .i64 10, .slice p' 1 (d' + 1)], y, .int .i64 0]) ∧ Says u' y [⟨5, 7, 0⟩] ∧ TokIn R' u' lt1 ps' p' ∧ Liv PW B (w.heap.size + 1) q (some ⟨w.heap.size, 0, none⟩) R' le2 w u') := Lib.hid (by
    have h := HP.out.visit 0 20 lt0 16 (some ⟨u2.heap.size, 0, none⟩) 1 none 0 (some ⟨w.heap.size, 0, none⟩) 1 HL3.out.pw HL3.out.size (lkeep linv1 (by decide)) (by decide) lr1 (lnum (by decide)) (lnum (by decide)) lnum_c (by decide) HT3.out HL3.out.rates
    rw [lv2] at h
    exact h.mono fun x u' ⟨ps', cs', p', d', y, R', h1, h2, h3, h4, h5, h6⟩ => ⟨ps', cs', p', d', y, R', h1, h2, h3, HL3.out.visit h6 h5 h4⟩)
  obtain ⟨x0, x1, x2, x3, x4, -⟩ := box5f HK2.out
  obtain ⟨c0, c1, c2, c3, c4, c5, c6, c7, c8⟩ := box9 HL3.out.conf
  go_upto_region 6 with (go_at_call 15; (with_reducible refine HV1.out.mono ?_); rintro x u4 ⟨ps4, cs4, p4, d4, y4, R4, rfl, hs4, ht4, hl4⟩; have HS4 := Lib.hid hs4; have HT4 := Lib.hid ht4; have HL4 := Lib.hid hl4; clear hs4 ht4 hl4 HV1 x0 x1 x2 x3 x4 c0 c1 c2 c3 c4 c5 c6 c7 c8)
  clear HL3 HK1 HK2 HT3
  have hb5 := lay u4 (.cells #[.int .i64 7, .int .i64 0, .slice ps4 1 cs4, .int .i64 10, .slice p4 1 (d4 + 1)] 30)
  have hk5 := heap_alloc_new u4 (.cells #[.int .i64 7, .int .i64 0, .slice ps4 1 cs4, .int .i64 10, .slice p4 1 (d4 + 1)] 30)
  have HL5 := Lib.hid (HL4.out.grow HF.out hb5)
  have HS5 := Lib.hid (HS4.out.below hb5)
  have HK5 := Lib.hid hk5
  have HT5 := Lib.hid ((HT4.out.below hb5).on (S' := fun g => R4 g ∨ u4.heap.size ≤ g ∧ g < (u4.alloc (.cells #[.int .i64 7, .int .i64 0, .slice ps4 1 cs4, .int .i64 10, .slice p4 1 (d4 + 1)] 30)).heap.size) (fun _ h _ => .inl h) fun _ _ _ _ => rfl)
  have HR5 := Lib.hid (show (fun g => R4 g ∨ u4.heap.size ≤ g ∧ g < (u4.alloc (.cells #[.int .i64 7, .int .i64 0, .slice ps4 1 cs4, .int .i64 10, .slice p4 1 (d4 + 1)] 30)).heap.size) u4.heap.size from .inr ⟨Nat.le_refl _, lt_of_heap hk5⟩)
  clear hb5 hk5 HL4 HS4 HT4
  generalize (fun g => R4 g ∨ u4.heap.size ≤ g ∧ g < (u4.alloc (.cells #[.int .i64 7, .int .i64 0, .slice ps4 1 cs4, .int .i64 10, .slice p4 1 (d4 + 1)] 30)).heap.size) = R5 at *
  generalize u4.alloc (.cells #[.int .i64 7, .int .i64 0, .slice ps4 1 cs4, .int .i64 10, .slice p4 1 (d4 + 1)] 30) = u5 at *
  generalize u4.heap.size = gu at *
  have HV2 : Hid (Calls Tryz.prog 15 #[.agg #[.int .i64 7, .int .i64 0, .slice ps4 1 cs4, .int .i64 10, .slice p4 1 (d4 + 1)], .pointer (some ⟨q, 0, none⟩), .int .i64 0, .int .i64 22, .agg #[.int .i64 1, .int .i64 0, .int .i64 5, .int .i64 9, .int .i64 1, .int .i64 1, .int .i64 1, .int .i64 2, .slice (some ⟨w.heap.size, 0, none⟩) 1 1]] u5 fun x u' => ∃ ps' cs' p' d' y R', x = .returned (.tuple #[.agg #[.int .i64 7, .int .i64 0, .slice ps' 1 cs', .int .i64 10, .slice p' 1 (d' + 1)], y, .int .i64 0]) ∧ Says u' y [] ∧ TokIn R' u' lt2 ps' p' ∧ Liv PW B (w.heap.size + 1) q (some ⟨w.heap.size, 0, none⟩) R' le3 w u' ∧ Says u' y4 [⟨5, 7, 0⟩] ∧ TokIn R5 u' lt1 ps4 p4 ∧ u'.heap[gu]? = some (.cells #[.int .i64 7, .int .i64 0, .slice ps4 1 cs4, .int .i64 10, .slice p4 1 (d4 + 1)] 30 (0, 0))) := Lib.hid (by
    have h := HP.out.visit 0 22 lt1 32 ps4 cs4 p4 d4 (some ⟨w.heap.size, 0, none⟩) 1 HL5.out.pw HL5.out.size (lkeep linv2 (by decide)) (by decide) lr2 (lnum (by decide)) (lnum (by decide)) lnum_c (by decide) HT5.out HL5.out.rates
    rw [lv3] at h
    exact h.mono fun x u' ⟨ps', cs', p', d', y, R', h1, h2, h3, h4, h5, h6⟩ => ⟨ps', cs', p', d', y, R', h1, h2, h3, HL5.out.visit h6 h5 h4, HS5.out.off h6.off, HT5.out.moved h6, (h6.keep _ HR5.out ⟨0, _, _, by rw [cell_of_row _ _ _ _ _ (0, 0) HK5.out]; rfl⟩ (lt_of_heap HK5.out)).trans HK5.out⟩)
  obtain ⟨x0, x1, x2, x3, x4, -⟩ := box5f HK5.out
  obtain ⟨c0, c1, c2, c3, c4, c5, c6, c7, c8⟩ := box9 HL5.out.conf
  go_upto_region 7 with (go_at_call 15; (with_reducible refine HV2.out.mono ?_); rintro x u6 ⟨ps6, cs6, p6, d6, y6, R6, rfl, hs6, ht6, hl6, hs7, ht7, hk7⟩; have HS6 := Lib.hid hs6; have HT6 := Lib.hid ht6; have HL6 := Lib.hid hl6; have HS7 := Lib.hid hs7; have HT7 := Lib.hid ht7; have HK7 := Lib.hid hk7; clear hs6 ht6 hl6 hs7 ht7 hk7 HV2 x0 x1 x2 x3 x4 c0 c1 c2 c3 c4 c5 c6 c7 c8)
  obtain ⟨pa, ka, rfl, la, -, -⟩ := HS7.out
  obtain ⟨pb, kb, rfl, -, -, -⟩ := HS6.out
  have hb7 := lay u6 (.cells #[.int .i64 7, .int .i64 0, .slice ps6 1 cs6, .int .i64 10, .slice p6 1 (d6 + 1)] 30)
  have HK8 := Lib.hid (heap_alloc_new u6 (.cells #[.int .i64 7, .int .i64 0, .slice ps6 1 cs6, .int .i64 10, .slice p6 1 (d6 + 1)] 30))
  have HA7 := Lib.hid (Kit.Lies.below la hb7)
  have HK9 := Lib.hid ((hb7.block _ (lt_of_heap HK7.out)).trans HK7.out)
  have HR1 := Lib.hid (HT7.out.below hb7).rows
  have HR2 := Lib.hid (HT6.out.below hb7).rows
  have HB7 := Lib.hid (HL6.out.below.trans (hb7.mono HL6.out.below.size))
  clear HS6 HS7 HT6 HT7 HL6 HK7 hb7 la HL5 HS5 HT5 HK5 HR5
  generalize u6.heap.size = gv at *
  generalize u6.alloc (.cells #[.int .i64 7, .int .i64 0, .slice ps6 1 cs6, .int .i64 10, .slice p6 1 (d6 + 1)] 30) = u7 at *
  obtain ⟨ba, oa, rfl, a0, a1, a2⟩ := one_ans HA7.out
  obtain ⟨x0, x1, x2, x3, x4, -⟩ := box5f HK9.out
  obtain ⟨v0, v1, v2, v3, v4, -⟩ := box5f HK8.out
  obtain ⟨b1, o1, rfl, hq1⟩ : ∃ b o, p4 = some ⟨b, o, none⟩ ∧ u7.cell? ⟨b, o + 1, none⟩ = some (.int .i64 5) := by
    rcases HR1.out with h | ⟨b, o, e, -, hc⟩
    · simp [lt1] at h
    · have h1 := (hc 0 (by simp [lt1])).2.1
      rw [Nat.zero_mul, Nat.add_zero] at h1
      exact ⟨b, o, e, h1⟩
  obtain ⟨b2, o2, rfl, r0, r1, r2, pl, cl, r3, hle⟩ : ∃ b o, p6 = some ⟨b, o, none⟩ ∧ u7.cell? ⟨b, o, none⟩ = some (.int .i64 3) ∧ u7.cell? ⟨b, o + 1, none⟩ = some (.int .i64 1) ∧ u7.cell? ⟨b, o + 2, none⟩ = some (.int .i64 22) ∧ ∃ p c, u7.cell? ⟨b, o + 3, none⟩ = some (.slice p 1 (c + 1)) ∧ Frame.LeasesAt u7 p [(0, 4)] := by
    rcases HR2.out with h | ⟨b, o, e, -, hc⟩
    · simp [lt2] at h
    · obtain ⟨k0, k1, k2, p, c, k3, k4⟩ := hc 0 (by simp [lt2])
      rw [Nat.zero_mul, Nat.add_zero] at k0 k1 k2 k3
      exact ⟨b, o, e, k0, k1, k2, p, c, k3, k4.rest⟩
  have HTT := Lib.hid (show Calls Tryz.prog 30 #[.agg #[.int .i64 3, .int .i64 1, .int .i64 22, .slice pl 1 (cl + 1)]] u7 fun e w' => e = .returned (.int .i64 5) ∧ Below u7.heap.size u7 w' from Ledger.total_any ⟨3, 1, 22, [(0, 4)]⟩ pl cl u7 hle (by decide))
  go_wp2_with (go_at_call 30; (with_reducible refine HTT.out.mono ?_); rintro x u8 ⟨rfl, hb⟩; have HB8 := Lib.hid (HB7.out.trans (hb.mono HB7.out.size)); clear hb)
  go_ret
  exact ⟨rfl, HB8.out⟩
end Go.Proofs.YtbgdlokegibkmaaGreat.Visit
